/-
  Texts that the proof leans on, joined: Bg, Shelf, Ref, Arr, Add, Div, Num, Da, Dg.
-/
import Derived.Test.YtmommdhnogogdaaGreatDoorProg
import Derived.Below
import Derived.WalkKit
import Derived.Shelf.Strings.Trim
import Derived.Shelf.Small.Utf8
import Derived.Shelf.Small.Bits
import Derived.Shelf.Small.Strs
import Derived.Shelf.Small.Wraps
import Derived.Shelf.Strconv.Itoa0
import Derived.Shelf.Strconv.Itoa1
import Derived.Shelf.LaysM
import Derived.Shelf.Strconv.Itoa2
import Derived.Shelf.Strconv.Itoa3
import Derived.Shelf.Strconv.Clone
import Derived.Shelf.Strings.Search1
import Derived.Shelf.Strconv.AppendUint10
import Derived.Shelf.Strconv.AppendInt10
import Derived.Shelf.Strconv.AppendIntPublic10
import Derived.Shelf.Strings.Prefix
import Derived.Shelf.Strings.Runes
import Derived.Shelf.Strings.AsciiSet
import Derived.Shelf.Bits.Mul64
import Derived.Shelf.Unicode.DecodeSlow
import Derived.Test.YtmommdhnogogdaaGreatDoorRows
import Derived.WalkSpells
import Derived.WalkLawsBesides
import Derived.Laws.Externs
import Derived.Deep.RegionHeld3
import Derived.Deep.DrawnRows
import Derived.BigQuiet
import Derived.Deep.AppendLies
namespace Go.Proofs.YtmommdhnogogdaaGreatDoor
open Go.RowKit
theorem bgo {n : Nat} {a b : World} (h : Below n a b := by (repeat (first | with_reducible assumption | with_reducible exact Below.refl _ _ | with_reducible refine Below.setCell ?_ (by first | omega | (dsimp only; omega) | (simp <;> omega)) _ | with_reducible refine Below.alloc ?_ (by first | omega | (simp <;> omega)) _ | with_reducible refine Below.drew ?_))) : Below n a b := h
theorem ltg {a b : Nat} (h : a < b := by first | with_reducible assumption | (simp; done) | (simp; omega)) : a < b := h
end Go.Proofs.YtmommdhnogogdaaGreatDoor

namespace Go.Proofs
open Go.Shelf
def Tryz.lays125_ren : Go.Shelf.Ren := ⟨fun | 125 => 93 | 128 => 103 | 129 => 63 | n => n, fun | 46 => 54 | 3 => 3 | 51 => 126 | 53 => 22 | 4 => 4 | 5 => 5 | 9 => 9 | n => n, fun | n => n⟩
theorem Tryz.lays125 : Go.Proofs.Lays.n125 Tryz.prog Tryz.lays125_ren := {
  mixed := by kernel_rfl
  f125 := Tryz.func93.trans (congrArg some (by kernel_rfl))
  f128 := Tryz.func103.trans (congrArg some (by kernel_rfl))
  f129 := Tryz.func63.trans (congrArg some (by kernel_rfl))
  t3 := Tryz.underlying3
  a3 := Tryz.isAgg3
  z3 := Tryz.sizeOf3
  v3 := Tryz.zeroValue3
  t4 := Tryz.underlying4
  a4 := Tryz.isAgg4
  z4 := Tryz.sizeOf4
  v4 := Tryz.zeroValue4
  t5 := Tryz.underlying5
  a5 := Tryz.isAgg5
  z5 := Tryz.sizeOf5
  v5 := Tryz.zeroValue5
  t9 := Tryz.underlying9
  a9 := Tryz.isAgg9
  z9 := Tryz.sizeOf9
  v9 := Tryz.zeroValue9
  t46 := Tryz.underlying54
  a46 := Tryz.isAgg54
  z46 := Tryz.sizeOf54
  v46 := Tryz.zeroValue54
  t51 := Tryz.underlying126
  a51 := Tryz.isAgg126
  z51 := Tryz.sizeOf126
  v51 := Tryz.zeroValue126
  t53 := Tryz.underlying22
  a53 := Tryz.isAgg22
  z53 := Tryz.sizeOf22
  v53 := Tryz.zeroValue22 }
/-- bits.Len: "Len returns the minimum number of bits required to represent x; the result is 0 for x == 0.": IT RETURNS 'Lib.bitLen x'; the world is as it was. (A uint has 64 bits in the model.) ITS CALLEE bits.Len64 IS MET BY ITS OWN CONTRACT OFF THE SHELF (lay that first). (LAID: no walk: one application.) -/
theorem Tryz.bits_Len (x : Int) (w : World) (h0 : 0 ≤ x) (h1 : x ≤ 18446744073709551615) :
    Calls Tryz.prog 93 #[.int .u64 x] w fun e w' => e = .returned (.int .i64 (Lib.bitLen x.toNat)) ∧ w' = w := Any.bits_Len Tryz.lays125 x w h0 h1
def Tryz.lays134_ren : Go.Shelf.Ren := ⟨fun | 134 => 94 | 129 => 63 | n => n, fun | 53 => 22 | 3 => 3 | 4 => 4 | 46 => 54 | 5 => 5 | 9 => 9 | n => n, fun | n => n⟩
theorem Tryz.lays134 : Go.Proofs.Lays.n134 Tryz.prog Tryz.lays134_ren := {
  mixed := by kernel_rfl
  f129 := Tryz.func63.trans (congrArg some (by kernel_rfl))
  f134 := Tryz.func94.trans (congrArg some (by kernel_rfl))
  t3 := Tryz.underlying3
  a3 := Tryz.isAgg3
  z3 := Tryz.sizeOf3
  v3 := Tryz.zeroValue3
  t4 := Tryz.underlying4
  a4 := Tryz.isAgg4
  z4 := Tryz.sizeOf4
  v4 := Tryz.zeroValue4
  t5 := Tryz.underlying5
  a5 := Tryz.isAgg5
  z5 := Tryz.sizeOf5
  v5 := Tryz.zeroValue5
  t9 := Tryz.underlying9
  a9 := Tryz.isAgg9
  z9 := Tryz.sizeOf9
  v9 := Tryz.zeroValue9
  t46 := Tryz.underlying54
  a46 := Tryz.isAgg54
  z46 := Tryz.sizeOf54
  v46 := Tryz.zeroValue54
  t53 := Tryz.underlying22
  a53 := Tryz.isAgg22
  z53 := Tryz.sizeOf22
  v53 := Tryz.zeroValue22 }
/-- bits.LeadingZeros64: "LeadingZeros64 returns the number of leading zero bits in x; the result is 64 for x == 0.": IT RETURNS '64 - Lib.bitLen x'; the world is as it was. ITS CALLEE bits.Len64 IS MET BY ITS OWN CONTRACT OFF THE SHELF (lay that first): entered in place it sends the kernel out of memory. (LAID: no walk: one application.) -/
theorem Tryz.bits_LeadingZeros64 (x : Int) (w : World) (h0 : 0 ≤ x) (h1 : x ≤ 18446744073709551615) :
    Calls Tryz.prog 94 #[.int .u64 x] w fun e w' => e = .returned (.int .i64 (64 - (Lib.bitLen x.toNat : Int))) ∧ w' = w := Any.bits_LeadingZeros64 Tryz.lays134 x w h0 h1
def Tryz.lays129_ren : Go.Shelf.Ren := ⟨fun | 129 => 63 | n => n, fun | 53 => 22 | 3 => 3 | 4 => 4 | 46 => 54 | 5 => 5 | 9 => 9 | n => n, fun | n => n⟩
theorem Tryz.lays129 : Go.Proofs.Lays.n129 Tryz.prog Tryz.lays129_ren := {
  mixed := by kernel_rfl
  f129 := Tryz.func63.trans (congrArg some (by kernel_rfl))
  t3 := Tryz.underlying3
  a3 := Tryz.isAgg3
  z3 := Tryz.sizeOf3
  v3 := Tryz.zeroValue3
  t4 := Tryz.underlying4
  a4 := Tryz.isAgg4
  z4 := Tryz.sizeOf4
  v4 := Tryz.zeroValue4
  t5 := Tryz.underlying5
  a5 := Tryz.isAgg5
  z5 := Tryz.sizeOf5
  v5 := Tryz.zeroValue5
  t9 := Tryz.underlying9
  a9 := Tryz.isAgg9
  z9 := Tryz.sizeOf9
  v9 := Tryz.zeroValue9
  t46 := Tryz.underlying54
  a46 := Tryz.isAgg54
  z46 := Tryz.sizeOf54
  v46 := Tryz.zeroValue54
  t53 := Tryz.underlying22
  a53 := Tryz.isAgg22
  z53 := Tryz.sizeOf22
  v53 := Tryz.zeroValue22 }
/-- bits.Len64: "Len64 returns the minimum number of bits required to represent x; the result is 0 for x == 0.": IT RETURNS 'Lib.bitLen x'; the world is as it was. ('h0', 'h1': x is a uint64.) (LAID: no walk: one application.) -/
theorem Tryz.bits_Len64 (x : Int) (w : World) (h0 : 0 ≤ x) (h1 : x ≤ 18446744073709551615) :
    Calls Tryz.prog 63 #[.int .u64 x] w fun e w' => e = .returned (.int .i64 (Lib.bitLen x.toNat)) ∧ w' = w := Any.bits_Len64 Tryz.lays129 x w h0 h1
def Tryz.lays264_ren : Go.Shelf.Ren := ⟨fun | 264 => 38 | n => n, fun | 53 => 22 | 46 => 54 | n => n, fun | n => n⟩
theorem Tryz.lays264 : Go.Proofs.Lays.n264 Tryz.prog Tryz.lays264_ren := {
  mixed := by kernel_rfl
  f264 := Tryz.func38.trans (congrArg some (by kernel_rfl))
  t46 := Tryz.underlying54
  a46 := Tryz.isAgg54
  z46 := Tryz.sizeOf54
  v46 := Tryz.zeroValue54
  t53 := Tryz.underlying22
  a53 := Tryz.isAgg22
  z53 := Tryz.sizeOf22
  v53 := Tryz.zeroValue22 }
open Go.RowKit Go.Lib in
theorem Tryz.bits_Mul64 (x y : Nat) (hx : x < 18446744073709551616) (hy : y < 18446744073709551616) (w : World) :
    Calls Tryz.prog 38 #[.int .u64 x, .int .u64 y] w fun e w' => e = .returned (.tuple #[.int .u64 ((x * y / 18446744073709551616 : Nat) : Int), .int .u64 ((x * y % 18446744073709551616 : Nat) : Int)]) ∧ w' = w := Any.bits_Mul64 Tryz.lays264 x y hx hy w
end Go.Proofs

set_option maxRecDepth 20000
set_option linter.unusedVariables false
set_option linter.unusedSectionVars false
set_option linter.unusedSimpArgs false
namespace Go.Proofs.YtmommdhnogogdaaGreatDoor
open Go.RowKit

/-- how many words without noughts at the end -/
def sizeL (x : Nat → Int) : Nat → Nat
  | 0 => 0
  | n + 1 => if x n = 0 then sizeL x n else n + 1

theorem sizeL_le (x : Nat → Int) (n : Nat) : sizeL x n ≤ n := by
  induction n with
  | zero => simp [sizeL]
  | succ n ih => simp only [sizeL]; split <;> omega

theorem ret_int {k : IntKind} {a b : Int} (h : a = b) : Ending.returned (.int k a) = .returned (.int k b) := by rw [h]

set_option maxHeartbeats 400000 in
theorem size_any (b off n c : Nat) (x : Nat → Int) (w : World) (hn : n < 9223372036854775808) (hc : ∀ i, i < n → w.cell? ⟨b, off + i, none⟩ = some (.int .u64 (x i))) :
    Calls Tryz.prog 40 #[.slice (some ⟨b, off, none⟩) n c] w fun e w' => e = .returned (.int .i64 (sizeL x n)) ∧ w' = w := by
  go_enter Tryz.func40, Tryz.ntmps40
  go_wp2
  go_loop [3] (fun t => ∃ k : Nat, k ≤ n ∧ sizeL x k = sizeL x n ∧ t = .int .i64 k) (fun t => (intOf t).toNat)
  case atStart => exact ⟨n, Nat.le_refl _, rfl, rfl⟩
  case round =>
    obtain ⟨k, hk, hs, rfl⟩ := hrel
    by_cases h0 : k = 0
    · subst h0
      go_wp2
      go_ret
      exact ⟨ret_int (by rw [← hs]; rfl), rfl⟩
    · obtain ⟨j, rfl⟩ : ∃ j, k = j + 1 := ⟨k - 1, by omega⟩
      have hcj := hc j (by omega)
      by_cases hz : x j = 0
      · have HS : Hid (sizeL x j = sizeL x n) := by
          have : sizeL x (j + 1) = sizeL x j := by simp [sizeL, hz]
          exact this.symm.trans hs
        clear hs
        go_wp2
        go_round
        case rel => exact ⟨j, by omega, HS.out, by go_num⟩
        case measure => simp [intOf]
      · have HS : Hid (((j : Int) + 1) = (sizeL x n : Nat)) := by
          have : sizeL x (j + 1) = j + 1 := by simp [sizeL, hz]
          show _ = _
          rw [← hs, this]; omega
        clear hs
        go_wp2
        go_ret
        exact ⟨ret_int (by exact HS.out), rfl⟩

set_option maxHeartbeats 400000 in
theorem size_nil (w : World) :
    Calls Tryz.prog 40 #[.slice none 0 0] w fun e w' => e = .returned (.int .i64 0) ∧ w' = w := by
  go_enter Tryz.func40, Tryz.ntmps40
  go_wp2
  go_loop [3] (fun t => t = .int .i64 0) (fun t => (intOf t).toNat)
  case atStart => rfl
  case round =>
    subst hrel
    go_wp2
    go_ret
    exact ⟨rfl, rfl⟩

/-- how many bits -/
def lenL (x : Nat → Int) (n : Nat) : Int := if sizeL x n = 0 then 0 else 64 * (sizeL x n : Int) - 64 + Lib.bitLen (x (sizeL x n - 1)).toNat

theorem bitLenAux_le : ∀ f x : Nat, Lib.bitLenAux f x ≤ f
  | 0, x => by simp [Lib.bitLenAux]
  | f + 1, x => by
    have := bitLenAux_le f (x / 2)
    simp only [Lib.bitLenAux]; split <;> omega
theorem bitLen64 (x : Nat) : Lib.bitLen x ≤ 64 := bitLenAux_le 64 x

set_option maxHeartbeats 400000 in
theorem len_any (b off n c : Nat) (x : Nat → Int) (w : World) (hn : n < 100000000) (hx : ∀ i, 0 ≤ x i ∧ x i ≤ 18446744073709551615) (hc : ∀ i, i < n → w.cell? ⟨b, off + i, none⟩ = some (.int .u64 (x i))) :
    Calls Tryz.prog 42 #[.slice (some ⟨b, off, none⟩) n c] w fun e w' => e = .returned (.int .i64 (lenL x n)) ∧ w' = w := by
  have hle := sizeL_le x n
  by_cases h0 : sizeL x n = 0
  · have HL : Hid (lenL x n = 0) := by show _ = _; simp [lenL, h0]
    have hs : Calls Tryz.prog 40 #[.slice (some ⟨b, off, none⟩) n c] w fun e w' => e = .returned (.int .i64 0) ∧ w' = w := by
      have := size_any b off n c x w (by omega) hc
      rw [h0] at this; exact this
    clear h0 hc hx
    go_enter Tryz.func42, Tryz.ntmps42
    go_wp2_with (go_at_call 40; refine hs.mono ?_; rintro e w' ⟨rfl, rfl⟩)
    go_ret
    exact ⟨ret_int HL.out.symm, rfl⟩
  · obtain ⟨j, hj⟩ : ∃ j, sizeL x n = j + 1 := ⟨sizeL x n - 1, by omega⟩
    have hs := size_any b off n c x w (by omega) hc
    have HL : Hid (lenL x n = 64 * (j : Int) + Lib.bitLen (x j).toNat) := by show _ = _; simp [lenL, hj]; omega
    rw [hj] at hs
    have hcj := hc j (by omega)
    have hb := hx j
    have hbl := bitLen64 (x j).toNat
    have hj' : j + 1 ≤ n := by omega
    clear h0 hc hx hj hle
    have hcl := Tryz.bits_Len64 (x j) w hb.1 hb.2
    generalize Lib.bitLen (x j).toNat = L at *
    go_enter Tryz.func42, Tryz.ntmps42
    go_wp2_with (first | (go_at_call 40; refine hs.mono ?_; rintro e w' ⟨rfl, rfl⟩) | (go_at_call 63; refine hcl.mono ?_; rintro e w' ⟨rfl, rfl⟩))
    go_ret
    exact ⟨ret_int (by rw [HL.out]; omega), rfl⟩
end Go.Proofs.YtmommdhnogogdaaGreatDoor

namespace Go.Proofs.YtmommdhnogogdaaGreatDoor
open Go.RowKit

def arrOf (f : Nat → Int) (n : Nat) : Array Value := ((List.range n).map fun i => Value.int .u64 (f i)).toArray
@[simp] theorem arrOf_size (f : Nat → Int) (n : Nat) : (arrOf f n).size = n := by simp [arrOf]
theorem arrOf_get (f : Nat → Int) (n i : Nat) (h : i < (arrOf f n).size) : (arrOf f n)[i]'h = .int .u64 (f i) := by simp [arrOf]
theorem arrOf_get? (f : Nat → Int) (n i : Nat) (h : i < n) : (arrOf f n)[i]? = some (.int .u64 (f i)) := by simp [arrOf, h]
theorem arrOf_set (f : Nat → Int) (n k : Nat) (v : Int) : (arrOf f n).setIfInBounds k (.int .u64 v) = arrOf (fun i => if i = k then v else f i) n := by
  apply Array.ext
  · simp
  · intro i h1 h2
    rw [Array.getElem_setIfInBounds]
    simp only [arrOf_get]
    by_cases h : k = i
    · subst h; simp
    · simp [h, Ne.symm h]; exact arrOf_get _ _ _ _
    simpa using h2
theorem arrOf_congr {f g : Nat → Int} {n : Nat} (h : ∀ i, i < n → f i = g i) : arrOf f n = arrOf g n := by
  apply Array.ext
  · simp
  · intro i h1 h2
    simp only [arrOf_get]
    rw [h i (by simpa using h1)]
theorem arrOf_of (cs : Array Value) (n : Nat) (f : Nat → Int) (hs : cs.size = n) (h : ∀ i, i < n → cs[i]? = some (.int .u64 (f i))) : cs = arrOf f n := by
  apply Array.ext
  · simp [hs]
  · intro i h1 h2
    rw [arrOf_get]
    have := h i (by omega)
    rw [Array.getElem?_eq_getElem h1] at this
    exact Option.some.inj this

theorem add64 (x y c : Int) (hx : 0 ≤ x) (hy : 0 ≤ y) (hc0 : 0 ≤ c) (hc : c ≤ 1) (w : World) : (callFunc 39 #[.int .u64 x, .int .u64 y, .int .u64 c]).run Tryz.prog w =
    .ok (.value (.tuple #[.int .u64 ((x + y + c) % 18446744073709551616), .int .u64 ((x + y + c) / 18446744073709551616)])) w := by
  rw [run_callFunc_extern Tryz.func39 (by kernel_rfl) (by kernel_rfl) (by kernel_rfl) (e := add64Entry) (by kernel_rfl), run_add64 x y c hx hy hc0 hc]
  rfl

def sub64E : Array Value → Sem Value := fun args => do
  let (x, y, b) ← Extern.MathBitsCarry.three "Sub64" args
  pure (Extern.MathBitsCarry.pair ((x + Extern.MathBitsCarry.m64 - y - b) % Extern.MathBitsCarry.m64) (if x < y + b then 1 else 0))
theorem run_sub64E (x y b : Nat) (hb : b ≤ 1) (w : World) :
    (sub64E #[.int .u64 x, .int .u64 y, .int .u64 b]).run Tryz.prog w =
      .ok (.tuple #[.int .u64 (((x + 18446744073709551616 - y - b) % 18446744073709551616 : Nat) : Int), .int .u64 ((if x < y + b then 1 else 0 : Nat) : Int)]) w := by
  have : b = 0 ∨ b = 1 := by omega
  rcases this with rfl | rfl <;> rfl
/-- what is borrowed -/
def bor (x y b : Int) : Int := if x < y + b then 1 else 0
theorem sub64 (x y b : Int) (hx : 0 ≤ x) (hy : 0 ≤ y) (hy' : y < 18446744073709551616) (hb0 : 0 ≤ b) (hb : b ≤ 1) (w : World) : (callFunc 76 #[.int .u64 x, .int .u64 y, .int .u64 b]).run Tryz.prog w =
    .ok (.value (.tuple #[.int .u64 ((x - y - b) % 18446744073709551616), .int .u64 (bor x y b)])) w := by
  obtain ⟨x, rfl⟩ := Int.eq_ofNat_of_zero_le hx
  obtain ⟨y, rfl⟩ := Int.eq_ofNat_of_zero_le hy
  obtain ⟨b, rfl⟩ := Int.eq_ofNat_of_zero_le hb0
  have e1 : (((x + 18446744073709551616 - y - b) % 18446744073709551616 : Nat) : Int) = ((x : Int) - y - b) % 18446744073709551616 := by omega
  have e2 : ((if x < y + b then 1 else 0 : Nat) : Int) = bor x y b := by unfold bor; split <;> split <;> omega
  rw [run_callFunc_extern Tryz.func76 (by kernel_rfl) (by kernel_rfl) (by kernel_rfl) (e := sub64E) (by kernel_rfl), run_sub64E x y b (by omega), ← e1, ← e2]
  rfl
end Go.Proofs.YtmommdhnogogdaaGreatDoor

namespace Go.Proofs.YtmommdhnogogdaaGreatDoor
open Go.RowKit
attribute [local go_sem ↓] Go.wp_at_zero Go.wp_at_succ
theorem setCell_drewN (w : World) (n : Nat) (a : Addr) (v : Value) : (w.drewN n).setCell a v = (w.setCell a v).drewN n := rfl
theorem alloc_drewN (w : World) (n : Nat) (o : Obj) : (w.drewN n).alloc o = (w.alloc o).drewN n := rfl
attribute [local go_sem] setCell_drewN alloc_drewN

/-- the carry into word k, and the sum's words -/
def carryW (x y : Nat → Int) : Nat → Int
  | 0 => 0
  | k + 1 => (x k + y k + carryW x y k) / 18446744073709551616
def sumW (x y : Nat → Int) (k : Nat) : Int := (x k + y k + carryW x y k) % 18446744073709551616

def Words (x : Nat → Int) : Prop := ∀ i, 0 ≤ x i ∧ x i ≤ 18446744073709551615
theorem carryW_01 {x y : Nat → Int} (hx : Words x) (hy : Words y) (k : Nat) : 0 ≤ carryW x y k ∧ carryW x y k ≤ 1 := by
  induction k with
  | zero => simp [carryW]
  | succ k ih => have := hx k; have := hy k; simp only [carryW]; omega
/-- the borrow from word k, and the difference's words -/
def borW (x y : Nat → Int) : Nat → Int
  | 0 => 0
  | k + 1 => bor (x k) (y k) (borW x y k)
def difW (x y : Nat → Int) (k : Nat) : Int := (x k - y k - borW x y k) % 18446744073709551616
theorem bor_01 (x y b : Int) : 0 ≤ bor x y b ∧ bor x y b ≤ 1 := by unfold bor; split <;> omega
theorem borW_01 (x y : Nat → Int) (k : Nat) : 0 ≤ borW x y k ∧ borW x y k ≤ 1 := by
  cases k with
  | zero => simp [borW]
  | succ k => exact bor_01 _ _ _

theorem set_next {ss : Array Value} {k : Nat} {f : Nat → Int} (hss : ∀ j h, ss[j]'h = Value.int .u64 (if j < k then f j else 0)) (j : Nat) (h : j < (ss.setIfInBounds k (.int .u64 (f k))).size) : (ss.setIfInBounds k (.int .u64 (f k)))[j]'h = Value.int .u64 (if j < k + 1 then f j else 0) := by
  have h' : j < ss.size := by simpa using h
  rw [Array.getElem_setIfInBounds]
  by_cases e : k = j
  · subst e; simp
  · rw [if_neg e, hss j h']
    by_cases e2 : j < k
    · simp [e2, Nat.lt_succ_of_lt e2]
    · simp [e2, show ¬ j < k + 1 by omega]
  exact h'





end Go.Proofs.YtmommdhnogogdaaGreatDoor

namespace Go.Proofs.YtmommdhnogogdaaGreatDoor
open Go.RowKit
attribute [local go_sem] setCell_drewN alloc_drewN

set_option maxHeartbeats 1000000 in
theorem div64_0 (lo y : Int) (w : World) (hl : 0 ≤ lo ∧ lo ≤ 18446744073709551615) (hy : 0 < y ∧ y ≤ 18446744073709551615) :
    Calls Tryz.prog 74 #[.int .u64 0, .int .u64 lo, .int .u64 y] w fun e w' => e = .returned (.tuple #[.int .u64 (lo / y), .int .u64 (lo % y)]) ∧ ∃ m, w' = w.drewN m := by
  have hy0 : ¬ y = 0 := by omega
  go_enter Tryz.func74, Tryz.ntmps74
  go_wp2
  go_quiet (fail)
  go_wp2
  go_ret2
  exact ⟨rfl, _, rfl⟩

/-- the rest ahead of word n - 1 - j, and the quotient's words -/
def remJ (x : Nat → Int) (d : Int) (n : Nat) : Nat → Int
  | 0 => 0
  | j + 1 => (remJ x d n j * 18446744073709551616 + x (n - 1 - j)) % d
def quoW (x : Nat → Int) (d : Int) (n j : Nat) : Int := (remJ x d n (n - 1 - j) * 18446744073709551616 + x j) / d
theorem remJ_bd (x : Nat → Int) (d : Int) (n j : Nat) (hd : 0 < d) : 0 ≤ remJ x d n j ∧ remJ x d n j < d := by
  cases j with
  | zero => exact ⟨Int.le_refl _, hd⟩
  | succ j => exact ⟨Int.emod_nonneg _ (by omega), Int.emod_lt_of_pos _ hd⟩
theorem bcell {W w1 : World} (hb : Below W.heap.size W w1) : (∀ b o, b < W.heap.size → w1.cell? ⟨b, o, none⟩ = W.cell? ⟨b, o, none⟩) ∧ (∀ b o, b < W.heap.size → w1.frozen? ⟨b, o, none⟩ = W.frozen? ⟨b, o, none⟩) :=
  ⟨fun b o h => hb.cell (p := ⟨b, o, none⟩) h, fun b o h => hb.frozen (p := ⟨b, o, none⟩) h⟩


end Go.Proofs.YtmommdhnogogdaaGreatDoor

namespace Go.Proofs.YtmommdhnogogdaaGreatDoor
open Go.RowKit

/-- the slice (a, n, c) holds the words x; all further words of x are 0 -/
def Num (w : World) (a : Option Addr) (n c : Nat) (x : Nat → Int) : Prop :=
  n ≤ c ∧ c ≤ maxLen ∧ Words x ∧ (∀ i, n ≤ i → x i = 0) ∧ ((a = none ∧ c = 0) ∨ ∃ b off, a = some ⟨b, off, none⟩ ∧ b < w.heap.size ∧ ∀ i, i < n → w.cell? ⟨b, off + i, none⟩ = some (.int .u64 (x i)))
theorem Num.next {w w' : World} {a : Option Addr} {n c : Nat} {x : Nat → Int} (h : Num w a n c x) (hb : Below w.heap.size w w') : Num w' a n c x := by
  obtain ⟨h1, h2, h3, h4, h5⟩ := h
  refine ⟨h1, h2, h3, h4, ?_⟩
  rcases h5 with h5 | ⟨b, off, h6, h7, h8⟩
  · exact Or.inl h5
  · exact Or.inr ⟨b, off, h6, Nat.lt_of_lt_of_le h7 hb.size, fun i hi => (hb.cell (p := ⟨b, off + i, none⟩) h7).trans (h8 i hi)⟩
theorem Num.drewN {w : World} {a : Option Addr} {n c : Nat} {x : Nat → Int} (h : Num w a n c x) (m : Nat) : Num (w.drewN m) a n c x := h

set_option maxHeartbeats 400000 in
theorem word_any (a : Option Addr) (n c i : Nat) (x : Nat → Int) (w : World) (h : Num w a n c x) :
    Calls Tryz.prog 47 #[.slice a n c, .int .i64 i] w fun e w' => e = .returned (.int .u64 (x i)) ∧ w' = w := by
  obtain ⟨h1, h2, h3, h4, h5⟩ := h
  by_cases hi : i < n
  · rcases h5 with ⟨rfl, rfl⟩ | ⟨b, off, rfl, hbs, hc⟩
    · omega
    · have hci := hc i hi
      have hi' : (i : Int) < n := by omega
      clear hc h4 h3
      go_enter Tryz.func47, Tryz.ntmps47
      go_wp2
      go_ret
      exact ⟨rfl, rfl⟩
  · have hz := h4 i (by omega)
    have HZ : Hid (x i = 0) := hz
    clear hz h4 h3 h5
    go_enter Tryz.func47, Tryz.ntmps47
    go_wp2
    go_ret
    exact ⟨ret_int HZ.out.symm, rfl⟩

/-- -1, 0, 1: the words below n, the highest first -/
def cmpL (x y : Nat → Int) : Nat → Int
  | 0 => 0
  | n + 1 => if x n < y n then -1 else if y n < x n then 1 else cmpL x y n

set_option maxHeartbeats 400000 in
theorem cmp_any (a a' : Option Addr) (n c n' c' : Nat) (x y : Nat → Int) (w : World) (hn : n < 4294967296) (hn' : n' < 4294967296) (h : Num w a n c x) (h' : Num w a' n' c' y) :
    Calls Tryz.prog 37 #[.slice a n c, .slice a' n' c'] w fun e w' => e = .returned (.int .i64 (cmpL x y (max n n'))) ∧ w' = w := by
  have hw1 := fun i => word_any a n c i x w h
  have hw2 := fun i => word_any a' n' c' i y w h'
  clear h h'
  go_enter Tryz.func37, Tryz.ntmps37
  go_wp2
  go_loop [5, 6, 7] (fun t u6 u7 => ∃ k : Nat, k ≤ max n n' ∧ cmpL x y k = cmpL x y (max n n') ∧ t = .int .i64 ((k : Int) - 1)) (fun t _ _ => (intOf t + 1).toNat)
  case atStart => exact ⟨max n n', Nat.le_refl _, rfl, by go_num⟩
  case round =>
    obtain ⟨k, hk, hs, rfl⟩ := hrel
    by_cases h0 : k = 0
    · subst h0
      have HS : Hid (cmpL x y (max n n') = 0) := hs.symm
      clear hs
      go_wp2
      go_ret
      exact ⟨ret_int HS.out.symm, rfl⟩
    · obtain ⟨j, rfl⟩ : ∃ j, k = j + 1 := ⟨k - 1, by omega⟩
      have ej : ((j + 1 : Nat) : Int) - 1 = j := by omega
      have hj : j < 4294967296 := by omega
      rw [ej]
      have HS : Hid ((if x j < y j then -1 else if y j < x j then 1 else cmpL x y j) = cmpL x y (max n n')) := hs
      have hkm : j ≤ max n n' := by omega
      clear hs ej hk
      have hwa := hw1 j
      have hwb := hw2 j
      by_cases hlt : x j < y j
      · have HR : Hid (cmpL x y (max n n') = -1) := by rw [← HS.out, if_pos hlt]; rfl
        clear HS
        go_wp2_with (first | (go_at_call_of 47 (Value.slice a n c); refine hwa.mono ?_; rintro e w' ⟨rfl, rfl⟩) | (go_at_call_of 47 (Value.slice a' n' c'); refine hwb.mono ?_; rintro e w' ⟨rfl, rfl⟩))
        go_ret
        exact ⟨ret_int HR.out.symm, rfl⟩
      · by_cases hgt : y j < x j
        · have HR : Hid (cmpL x y (max n n') = 1) := by rw [← HS.out, if_neg hlt, if_pos hgt]; rfl
          clear HS
          go_wp2_with (first | (go_at_call_of 47 (Value.slice a n c); refine hwa.mono ?_; rintro e w' ⟨rfl, rfl⟩) | (go_at_call_of 47 (Value.slice a' n' c'); refine hwb.mono ?_; rintro e w' ⟨rfl, rfl⟩))
          go_ret
          exact ⟨ret_int HR.out.symm, rfl⟩
        · have HR : Hid (cmpL x y j = cmpL x y (max n n')) := by rw [← HS.out, if_neg hlt, if_neg hgt]; rfl
          clear HS
          go_wp2_with (first | (go_at_call_of 47 (Value.slice a n c); refine hwa.mono ?_; rintro e w' ⟨rfl, rfl⟩) | (go_at_call_of 47 (Value.slice a' n' c'); refine hwb.mono ?_; rintro e w' ⟨rfl, rfl⟩))
          go_round
          case rel => exact ⟨j, hkm, HR.out, by go_num⟩
          case measure => simp [intOf]

theorem Tryz.info22 : (Tryz.prog.info? 22).map (fun i => (i.zero, i.size, i.bytes)) = some (some (.int .u64 0), 1, 8) := by kernel_rfl
theorem num_of_owns {w w' : World} {g k cap base : Nat} {x : Nat → Int} (hx : Words x) (hz : ∀ i, k ≤ i → x i = 0) (h : w'.ownsRow base 22 1 (.slice (some ⟨g, 0, none⟩) k cap) k ((List.range k).map fun i => Value.int .u64 (x i))) (hg : g < w'.heap.size) : Num w' (some ⟨g, 0, none⟩) k cap x := by
  obtain ⟨hl, h⟩ := h
  rcases h with ⟨h, _⟩ | ⟨g', cap', cur, he, hb, hh, h1, h2, h3, h4⟩
  · cases h
  · cases he
    refine ⟨h1, h2, hx, hz, Or.inr ⟨g, 0, rfl, hg, fun i hi => ?_⟩⟩
    rw [Nat.zero_add]
    have hcur : cur[i]? = some (.int .u64 (x i)) := by
      have : (cur.toList.take (k * 1))[i]? = some (.int .u64 (x i)) := by rw [h4]; simp [hi]
      rw [List.getElem?_take] at this
      simpa [hi] using this
    unfold World.cell?
    simp [hh, hcur]

set_option maxHeartbeats 1000000 in
theorem trim_some (b off n c : Nat) (x : Nat → Int) (w : World) (hn : n < 4294967296) (h : Num w (some ⟨b, off, none⟩) n c x) :
    Calls Tryz.prog 36 #[.slice (some ⟨b, off, none⟩) n c] w fun e w' => ∃ g cap, e = .returned (.slice (some ⟨g, 0, none⟩) (sizeL x n) cap) ∧ Num w' (some ⟨g, 0, none⟩) (sizeL x n) cap x ∧ Below w.heap.size w w' := by
  obtain ⟨h1, h2, h3, h4, h5⟩ := h
  have hc : b < w.heap.size ∧ ∀ i, i < n → w.cell? ⟨b, off + i, none⟩ = some (.int .u64 (x i)) := by
    rcases h5 with ⟨h, _⟩ | ⟨b', off', h, hbs, hc⟩
    · cases h
    · cases h; exact ⟨hbs, hc⟩
  obtain ⟨hbs, hc⟩ := hc
  clear h5
  obtain ⟨i0, hi, hz0, hz1, hz2⟩ := info_parts Tryz.info22
  unfold maxLen at h2
  go_enter Tryz.func36, Tryz.ntmps36
  go_wp2
  go_loop [3] (fun t => ∃ k : Nat, k ≤ n ∧ sizeL x k = sizeL x n ∧ (∀ i, k ≤ i → x i = 0) ∧ t = .int .i64 k) (fun t => (intOf t).toNat)
  case atStart => exact ⟨n, Nat.le_refl _, rfl, h4, rfl⟩
  case round =>
    obtain ⟨k, hk, hs, hz, rfl⟩ := hrel
    clear h4
    by_cases h0 : k = 0
    · subst h0
      have HS : Hid (sizeL x n = 0) := hs.symm
      have HN : Hid (Num (w.alloc (.cells #[] 22)) (some ⟨w.heap.size, 0, none⟩) 0 0 x) := ⟨Nat.le_refl _, by unfold maxLen; omega, h3, hz, Or.inr ⟨w.heap.size, 0, rfl, by simp, fun i hi => by omega⟩⟩
      clear hs hz hc h3
      go_wp2
      go_ret
      refine ⟨w.heap.size, 0, ?_, ?_, (Below.refl _ _).alloc (Nat.le_refl _) _⟩
      · rw [HS.out]; rfl
      · rw [HS.out]; exact HN.out
    · obtain ⟨j, rfl⟩ : ∃ j, k = j + 1 := ⟨k - 1, by omega⟩
      have hcj := hc j (by omega)
      by_cases hzj : x j = 0
      · have HS : Hid (sizeL x j = sizeL x n) := by
          have : sizeL x (j + 1) = sizeL x j := by simp [sizeL, hzj]
          exact this.symm.trans hs
        have HZ : Hid (∀ i, j ≤ i → x i = 0) := fun i hji => by
          by_cases e : i = j
          · rw [e]; exact hzj
          · exact hz i (by omega)
        clear hs hz hc
        go_wp2
        go_round
        case rel => exact ⟨j, by omega, HS.out, HZ.out, by go_num⟩
        case measure => simp [intOf]
      · have HS : Hid (sizeL x n = j + 1) := by
          have : sizeL x (j + 1) = j + 1 := by simp [sizeL, hzj]
          exact hs.symm.trans this
        have HZ : Hid (∀ i, j + 1 ≤ i → x i = 0) := hz
        have HC : Hid (∀ i, i < n → w.cell? ⟨b, off + i, none⟩ = some (.int .u64 (x i))) := hc
        clear hs hz hc
        have HOWN : (w.alloc (.cells #[] 22)).ownsRow w.heap.size 22 1 (.slice (some ⟨w.heap.size, 0, none⟩) 0 0) 0 [] :=
          ⟨rfl, Or.inr ⟨w.heap.size, 0, #[], rfl, Nat.le_refl _, (MapKept.heap_alloc w _).1, Nat.le_refl _, by unfold maxLen; omega, rfl, rfl⟩⟩
        have HNEWS : ∀ (q : Nat) (u : Value), ((List.range (j + 1)).map fun i => Value.int .u64 (x i))[q]? = some u → (w.alloc (.cells #[] 22)).cell? ((⟨b, off, none⟩ : Addr).add q) = some u := by
          intro q u hq
          have hql : q < j + 1 := by
            rcases Nat.lt_or_ge q (j + 1) with h | h
            · exact h
            · rw [List.getElem?_eq_none (by simpa using h)] at hq; cases hq
          have e2 : u = .int .u64 (x q) := by simpa [hql] using hq.symm
          rw [e2]
          have ea : (⟨b, off, none⟩ : Addr).add q = ⟨b, off + q, none⟩ := by simp [Addr.add]
          rw [ea]
          exact (((Below.refl w.heap.size w).alloc (Nat.le_refl _) _).cell (p := ⟨b, off + q, none⟩) hbs).trans (HC.out q (by omega))
        have HONE : ∀ u ∈ ((List.range (j + 1)).map fun i => Value.int .u64 (x i)), u.oneCell' = true := by
          intro u hu
          obtain ⟨q, _, rfl⟩ := List.mem_map.1 hu
          rfl
        go_wp2_with (at_builtin; refine wpList_append_lies _ rfl (.tmp 18) (.tmp 21) 25 rfl w.heap.size 22 i0 (.int .u64 0) 1 8 Tryz.underlying25 hi hz0 hz1 hz2 rfl (by decide) (.slice (some ⟨w.heap.size, 0, none⟩) 0 0) 0 [] rfl HOWN ⟨b, off, none⟩ (j + 1) c ((List.range (j + 1)).map fun i => Value.int .u64 (x i)) rfl (by simp) HNEWS HONE (by omega) (by unfold maxLen; omega) (by omega) (by simp) (w.heap.size + 1) (by simp) ?_; intro g cap w1 hown hgrow hat hlt; clear HOWN HNEWS HONE)
        have hown' : w1.ownsRow w.heap.size 22 1 (.slice (some ⟨g, 0, none⟩) (j + 1) cap) (j + 1) ((List.range (j + 1)).map fun i => Value.int .u64 (x i)) := by
          have e0 : 0 + (j + 1) = j + 1 := by omega
          rw [e0] at hown
          simpa using hown
        have HN := num_of_owns (w := w) h3 HZ.out hown' hlt
        have HB : Below w.heap.size w w1 := ((Below.refl _ _).alloc (Nat.le_refl _) _).grown hgrow (by simp) (by intro k hk; cases hk; exact Nat.le_refl _)
        clear hown hown' hgrow
        go_wp2
        go_ret
        refine ⟨g, cap, ?_, ?_, HB⟩
        · rw [HS.out]; simp
        · rw [HS.out]; exact HN

set_option maxHeartbeats 400000 in
theorem trim_nil (x : Nat → Int) (w : World) (hx : ∀ i, x i = 0) :
    Calls Tryz.prog 36 #[.slice none 0 0] w fun e w' => ∃ g cap, e = .returned (.slice (some ⟨g, 0, none⟩) 0 cap) ∧ Num w' (some ⟨g, 0, none⟩) 0 cap x ∧ Below w.heap.size w w' := by
  go_enter Tryz.func36, Tryz.ntmps36
  go_wp2
  go_loop [3] (fun t => t = .int .i64 0) (fun t => (intOf t).toNat)
  case atStart => rfl
  case round =>
    subst hrel
    go_wp2
    go_ret
    refine ⟨w.heap.size, 0, rfl, ?_, (Below.refl _ _).alloc (Nat.le_refl _) _⟩
    exact ⟨Nat.le_refl _, by unfold maxLen; omega, fun i => by rw [hx i]; decide, fun i _ => hx i, Or.inr ⟨w.heap.size, 0, rfl, by simp, fun i hi => by omega⟩⟩
theorem trim_any (a : Option Addr) (n c : Nat) (x : Nat → Int) (w : World) (hn : n < 4294967296) (h : Num w a n c x) :
    Calls Tryz.prog 36 #[.slice a n c] w fun e w' => ∃ g cap, e = .returned (.slice (some ⟨g, 0, none⟩) (sizeL x n) cap) ∧ Num w' (some ⟨g, 0, none⟩) (sizeL x n) cap x ∧ Below w.heap.size w w' := by
  have h' := h
  obtain ⟨h1, h2, h3, h4, h5⟩ := h'
  rcases h5 with ⟨rfl, rfl⟩ | ⟨b, off, rfl, _, _⟩
  · obtain rfl : n = 0 := by omega
    exact trim_nil x w (fun i => h4 i (Nat.zero_le _))
  · exact trim_some b off n c x w hn h
end Go.Proofs.YtmommdhnogogdaaGreatDoor

namespace Go.Proofs.YtmommdhnogogdaaGreatDoor
open Go.RowKit

/-- which digits are great -/
def dlG (n : Nat) : Nat := n / 100 / 8 * 4 + n / 10 % 10 / 8 * 2 + n % 10 / 8
/-- the table's row -/
def dlR (g : Nat) : Nat × Nat × Nat :=
  if g = 0 then (10, 11, 22) else if g = 1 then (10, 11, 4) else if g = 2 then (10, 12, 5) else if g = 4 then (12, 11, 6) else if g = 3 then (10, 2, 7) else if g = 5 then (11, 1, 7) else if g = 6 then (12, 0, 7) else (0, 3, 7)
/-- two bits, by a cell of the row -/
def dlT (n r : Nat) : Nat := if 10 ≤ r then (if r % 10 = 0 then n / 100 else if r % 10 = 1 then n / 10 % 10 else n % 10) / 2 % 4 else r
/-- a number's declet -/
def dlE (n : Nat) : Nat := dlT n (dlR (dlG n)).1 * 256 + n / 100 % 2 * 128 + dlT n (dlR (dlG n)).2.1 * 32 + n / 10 % 10 % 2 * 16 + dlT n (dlR (dlG n)).2.2 * 2 + n % 10 % 2
/-- does the declet d mean n? (two bits of the last row mean nothing) -/
def dlM (d n : Nat) : Bool := dlE n == d || (d / 32 % 4 == 3 && d / 2 % 8 == 7 && dlE n == d % 256)
/-- what a declet means -/
def dlD (d : Nat) : Nat :=
  let a := d / 128; let b := d / 16 % 8; let x := d % 2
  let p := d / 256; let q := d / 128 % 2; let s := d / 32 % 4; let t := d / 16 % 2
  if d / 8 % 2 = 0 then a * 100 + b * 10 + d % 8
  else if d / 2 % 4 = 0 then a * 100 + b * 10 + (8 + x)
  else if d / 2 % 4 = 1 then a * 100 + (8 + t) * 10 + (s * 2 + x)
  else if d / 2 % 4 = 2 then (8 + q) * 100 + b * 10 + (p * 2 + x)
  else if s = 0 then (8 + q) * 100 + (8 + t) * 10 + (p * 2 + x)
  else if s = 1 then (8 + q) * 100 + (p * 2 + t) * 10 + (8 + x)
  else if s = 2 then a * 100 + (8 + t) * 10 + (8 + x)
  else (8 + q) * 100 + (8 + t) * 10 + (8 + x)
def upTo (f : Nat → Bool) : Nat → Bool
  | 0 => true
  | i + 1 => f i && upTo f i
theorem upTo_all {f : Nat → Bool} : ∀ {m : Nat}, upTo f m = true → ∀ i, i < m → f i = true
  | 0, _, i, hi => absurd hi (Nat.not_lt_zero i)
  | m + 1, h, i, hi => by
    unfold upTo at h
    rw [Bool.and_eq_true] at h
    rcases Nat.lt_succ_iff_lt_or_eq.1 hi with h1 | h1
    · exact upTo_all h.2 i h1
    · rw [h1]; exact h.1
/-- a number's declet means it, and is below 1024 -/
theorem dl_back : ∀ n, n < 1000 → dlD (dlE n) = n ∧ dlE n < 1024 := fun n hn => by
  have h := upTo_all (f := fun n => decide (dlD (dlE n) = n ∧ dlE n < 1024)) (m := 1000) (by decide +kernel) n hn
  exact of_decide_eq_true h
/-- every declet means a number -/
theorem dl_means : ∀ d, d < 1024 → dlD d < 1000 ∧ dlM d (dlD d) = true ∧ (d / 32 % 4 = 3 → d / 2 % 8 = 7 → dlD (d % 256) = dlD d) := fun d hd => by
  have h := upTo_all (f := fun d => decide (dlD d < 1000 ∧ dlM d (dlD d) = true ∧ (d / 32 % 4 = 3 → d / 2 % 8 = 7 → dlD (d % 256) = dlD d))) (m := 1024) (by decide +kernel) d hd
  exact of_decide_eq_true h
/-- and no other one -/
theorem dl_only {d n : Nat} (hd : d < 1024) (hn : n < 1000) : dlM d n = true ↔ n = dlD d := by
  constructor
  · intro h
    unfold dlM at h
    rw [Bool.or_eq_true, Bool.and_eq_true, Bool.and_eq_true] at h
    have hb := (dl_back n hn).1
    rcases h with h | ⟨⟨h1, h2⟩, h3⟩
    · rw [beq_iff_eq] at h
      rw [← hb, h]
    · rw [beq_iff_eq] at h1 h2 h3
      rw [← hb, h3]
      exact (dl_means d hd).2.2 h1 h2
  · rintro rfl
    exact (dl_means d hd).2.1
/-! declets in a row -/
/-- a coefficient's declets -/
def dlP : Nat → Nat → Nat
  | 0, _ => 0
  | c + 1, a => dlE (a % 1000) + 1024 * dlP c (a / 1000)
/-- what declets in a row mean -/
def dlU : Nat → Nat → Nat
  | 0, _ => 0
  | c + 1, b => dlD (b % 1024) + 1000 * dlU c (b / 1024)
theorem dlP_lt : ∀ (c a : Nat), dlP c a < 1024 ^ c
  | 0, a => by unfold dlP; decide
  | c + 1, a => by
    unfold dlP
    have h1 := (dl_back (a % 1000) (Nat.mod_lt _ (by decide))).2
    have h2 := dlP_lt c (a / 1000)
    rw [Nat.pow_succ]
    omega
theorem dlU_lt : ∀ (c b : Nat), dlU c b < 1000 ^ c
  | 0, b => by unfold dlU; decide
  | c + 1, b => by
    unfold dlU
    have h1 := (dl_means (b % 1024) (Nat.mod_lt _ (by decide))).1
    have h2 := dlU_lt c (b / 1024)
    rw [Nat.pow_succ]
    omega
end Go.Proofs.YtmommdhnogogdaaGreatDoor

namespace Go.Proofs.YtmommdhnogogdaaGreatDoor
open Go.RowKit

/-- Pack: its pattern, its error -/
def dPv (C : Nat) (n : Int) : Nat := if 0 ≤ n ∧ n ≤ 11 then (if C < 1000 ^ n.toNat then dlP n.toNat C else 0) else 0
def dPe (C : Nat) (n : Int) : Int := if 0 ≤ n ∧ n ≤ 11 then (if C < 1000 ^ n.toNat then 0 else 3) else 1
/-- Unpack: its number, its error -/
def dUv (B : Nat) (n : Int) : Nat := if 0 ≤ n ∧ n ≤ 11 then (if B < 1024 ^ n.toNat then dlU n.toNat B else 0) else 0
def dUe (B : Nat) (n : Int) : Int := if 0 ≤ n ∧ n ≤ 11 then (if B < 1024 ^ n.toNat then 0 else 3) else 1
/-- one declet more, at the high end -/
theorem dlP_snoc : ∀ (c a : Nat), dlP (c + 1) a = dlP c a + dlE (a / 1000 ^ c % 1000) * 1024 ^ c
  | 0, a => by
    show dlE (a % 1000) + 1024 * dlP 0 (a / 1000) = dlP 0 a + _
    rw [show dlP 0 (a / 1000) = 0 from rfl, show dlP 0 a = 0 from rfl]
    simp
  | c + 1, a => by
    show dlE (a % 1000) + 1024 * dlP (c + 1) (a / 1000) = (dlE (a % 1000) + 1024 * dlP c (a / 1000)) + _
    rw [dlP_snoc c (a / 1000), Nat.div_div_eq_div_mul, show 1000 * 1000 ^ c = 1000 ^ (c + 1) by rw [Nat.pow_succ, Nat.mul_comm], Nat.pow_succ 1024 c, Nat.mul_add, Nat.mul_comm 1024 (dlE _ * _), Nat.mul_assoc, Nat.add_assoc]
theorem dlP_256 (c a : Nat) (hc : c ≤ 11) : dlP c a < 2 ^ 256 := by
  have h := dlP_lt c a
  have h2 : (1024 : Nat) ^ c ≤ 1024 ^ 11 := Nat.pow_le_pow_right (by decide) hc
  have h3 : (1024 : Nat) ^ 11 < 2 ^ 256 := by decide
  omega
theorem dlU_256 (c a : Nat) (hc : c ≤ 11) : dlU c a < 2 ^ 256 := by
  have h := dlU_lt c a
  have h2 : (1000 : Nat) ^ c ≤ 1000 ^ 11 := Nat.pow_le_pow_right (by decide) hc
  have h3 : (1000 : Nat) ^ 11 < 2 ^ 256 := by decide
  omega
/-- what c declets mean, from the highest of them on: i of them, at the bits from 10 (c - i) on -/
theorem dlU_step : ∀ (c b : Nat), dlU (c + 1) b = dlU c (b / 1024) * 1000 + dlD (b % 1024) := fun c b => by
  show dlD (b % 1024) + 1000 * dlU c (b / 1024) = _
  omega
end Go.Proofs.YtmommdhnogogdaaGreatDoor
