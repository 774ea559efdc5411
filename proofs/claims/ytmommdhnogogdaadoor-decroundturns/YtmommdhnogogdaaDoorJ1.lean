/-
  Texts that the proof leans on, joined: Bg, Shelf, Ref, Arr, Add, Div, Num, Radd, Left.
-/
import Derived.Test.YtmommdhnogogdaaDoorProg
import Derived.Below
import Derived.WalkKit
import Derived.Shelf.Strings.Trim
import Derived.Shelf.Small.Utf8
import Derived.Shelf.Small.Bits
import Derived.Shelf.Small.Strs
import Derived.Shelf.Small.Wraps
import Derived.Shelf.Strconv.Itoa0
import Derived.Shelf.Strconv.Itoa1
import Derived.Shelf.LaysM
import Derived.Shelf.Strconv.Itoa2
import Derived.Shelf.Strconv.Itoa3
import Derived.Shelf.Strconv.Clone
import Derived.Shelf.Strings.Search1
import Derived.Shelf.Strconv.AppendUint10
import Derived.Shelf.Strconv.AppendInt10
import Derived.Shelf.Strconv.AppendIntPublic10
import Derived.Shelf.Strings.Prefix
import Derived.Shelf.Strings.Runes
import Derived.Shelf.Strings.AsciiSet
import Derived.Shelf.Bits.Mul64
import Derived.Shelf.Unicode.DecodeSlow
import Derived.Test.YtmommdhnogogdaaDoorRows
import Derived.WalkSpells
import Derived.WalkLawsBesides
import Derived.Laws.Externs
import Derived.Deep.RegionHeld3
import Derived.Deep.DrawnRows
import Derived.BigQuiet
import Derived.Deep.AppendLies
import Derived.BigRegion
namespace Go.Proofs.YtmommdhnogogdaaDoor
open Go.RowKit
theorem bgo {n : Nat} {a b : World} (h : Below n a b := by (repeat (first | with_reducible assumption | with_reducible exact Below.refl _ _ | with_reducible refine Below.setCell ?_ (by first | omega | (dsimp only; omega) | (simp <;> omega)) _ | with_reducible refine Below.alloc ?_ (by first | omega | (simp <;> omega)) _ | with_reducible refine Below.drew ?_))) : Below n a b := h
theorem ltg {a b : Nat} (h : a < b := by first | with_reducible assumption | (simp; done) | (simp; omega)) : a < b := h
end Go.Proofs.YtmommdhnogogdaaDoor

namespace Go.Proofs
open Go.Shelf
def Tryd.lays125_ren : Go.Shelf.Ren := ⟨fun | 125 => 69 | 128 => 82 | 129 => 39 | n => n, fun | 46 => 85 | 3 => 3 | 51 => 106 | 53 => 26 | 4 => 4 | 5 => 5 | 9 => 9 | n => n, fun | n => n⟩
theorem Tryd.lays125 : Go.Proofs.Lays.n125 Tryd.prog Tryd.lays125_ren := {
  mixed := by kernel_rfl
  f125 := Tryd.func69.trans (congrArg some (by kernel_rfl))
  f128 := Tryd.func82.trans (congrArg some (by kernel_rfl))
  f129 := Tryd.func39.trans (congrArg some (by kernel_rfl))
  t3 := Tryd.underlying3
  a3 := Tryd.isAgg3
  z3 := Tryd.sizeOf3
  v3 := Tryd.zeroValue3
  t4 := Tryd.underlying4
  a4 := Tryd.isAgg4
  z4 := Tryd.sizeOf4
  v4 := Tryd.zeroValue4
  t5 := Tryd.underlying5
  a5 := Tryd.isAgg5
  z5 := Tryd.sizeOf5
  v5 := Tryd.zeroValue5
  t9 := Tryd.underlying9
  a9 := Tryd.isAgg9
  z9 := Tryd.sizeOf9
  v9 := Tryd.zeroValue9
  t46 := Tryd.underlying85
  a46 := Tryd.isAgg85
  z46 := Tryd.sizeOf85
  v46 := Tryd.zeroValue85
  t51 := Tryd.underlying106
  a51 := Tryd.isAgg106
  z51 := Tryd.sizeOf106
  v51 := Tryd.zeroValue106
  t53 := Tryd.underlying26
  a53 := Tryd.isAgg26
  z53 := Tryd.sizeOf26
  v53 := Tryd.zeroValue26 }
/-- bits.Len: "Len returns the minimum number of bits required to represent x; the result is 0 for x == 0.": IT RETURNS 'Lib.bitLen x'; the world is as it was. (A uint has 64 bits in the model.) ITS CALLEE bits.Len64 IS MET BY ITS OWN CONTRACT OFF THE SHELF (lay that first). (LAID: no walk: one application.) -/
theorem Tryd.bits_Len (x : Int) (w : World) (h0 : 0 ≤ x) (h1 : x ≤ 18446744073709551615) :
    Calls Tryd.prog 69 #[.int .u64 x] w fun e w' => e = .returned (.int .i64 (Lib.bitLen x.toNat)) ∧ w' = w := Any.bits_Len Tryd.lays125 x w h0 h1
def Tryd.lays134_ren : Go.Shelf.Ren := ⟨fun | 134 => 78 | 129 => 39 | n => n, fun | 53 => 26 | 3 => 3 | 4 => 4 | 46 => 85 | 5 => 5 | 9 => 9 | n => n, fun | n => n⟩
theorem Tryd.lays134 : Go.Proofs.Lays.n134 Tryd.prog Tryd.lays134_ren := {
  mixed := by kernel_rfl
  f129 := Tryd.func39.trans (congrArg some (by kernel_rfl))
  f134 := Tryd.func78.trans (congrArg some (by kernel_rfl))
  t3 := Tryd.underlying3
  a3 := Tryd.isAgg3
  z3 := Tryd.sizeOf3
  v3 := Tryd.zeroValue3
  t4 := Tryd.underlying4
  a4 := Tryd.isAgg4
  z4 := Tryd.sizeOf4
  v4 := Tryd.zeroValue4
  t5 := Tryd.underlying5
  a5 := Tryd.isAgg5
  z5 := Tryd.sizeOf5
  v5 := Tryd.zeroValue5
  t9 := Tryd.underlying9
  a9 := Tryd.isAgg9
  z9 := Tryd.sizeOf9
  v9 := Tryd.zeroValue9
  t46 := Tryd.underlying85
  a46 := Tryd.isAgg85
  z46 := Tryd.sizeOf85
  v46 := Tryd.zeroValue85
  t53 := Tryd.underlying26
  a53 := Tryd.isAgg26
  z53 := Tryd.sizeOf26
  v53 := Tryd.zeroValue26 }
/-- bits.LeadingZeros64: "LeadingZeros64 returns the number of leading zero bits in x; the result is 64 for x == 0.": IT RETURNS '64 - Lib.bitLen x'; the world is as it was. ITS CALLEE bits.Len64 IS MET BY ITS OWN CONTRACT OFF THE SHELF (lay that first): entered in place it sends the kernel out of memory. (LAID: no walk: one application.) -/
theorem Tryd.bits_LeadingZeros64 (x : Int) (w : World) (h0 : 0 ≤ x) (h1 : x ≤ 18446744073709551615) :
    Calls Tryd.prog 78 #[.int .u64 x] w fun e w' => e = .returned (.int .i64 (64 - (Lib.bitLen x.toNat : Int))) ∧ w' = w := Any.bits_LeadingZeros64 Tryd.lays134 x w h0 h1
def Tryd.lays129_ren : Go.Shelf.Ren := ⟨fun | 129 => 39 | n => n, fun | 53 => 26 | 3 => 3 | 4 => 4 | 46 => 85 | 5 => 5 | 9 => 9 | n => n, fun | n => n⟩
theorem Tryd.lays129 : Go.Proofs.Lays.n129 Tryd.prog Tryd.lays129_ren := {
  mixed := by kernel_rfl
  f129 := Tryd.func39.trans (congrArg some (by kernel_rfl))
  t3 := Tryd.underlying3
  a3 := Tryd.isAgg3
  z3 := Tryd.sizeOf3
  v3 := Tryd.zeroValue3
  t4 := Tryd.underlying4
  a4 := Tryd.isAgg4
  z4 := Tryd.sizeOf4
  v4 := Tryd.zeroValue4
  t5 := Tryd.underlying5
  a5 := Tryd.isAgg5
  z5 := Tryd.sizeOf5
  v5 := Tryd.zeroValue5
  t9 := Tryd.underlying9
  a9 := Tryd.isAgg9
  z9 := Tryd.sizeOf9
  v9 := Tryd.zeroValue9
  t46 := Tryd.underlying85
  a46 := Tryd.isAgg85
  z46 := Tryd.sizeOf85
  v46 := Tryd.zeroValue85
  t53 := Tryd.underlying26
  a53 := Tryd.isAgg26
  z53 := Tryd.sizeOf26
  v53 := Tryd.zeroValue26 }
/-- bits.Len64: "Len64 returns the minimum number of bits required to represent x; the result is 0 for x == 0.": IT RETURNS 'Lib.bitLen x'; the world is as it was. ('h0', 'h1': x is a uint64.) (LAID: no walk: one application.) -/
theorem Tryd.bits_Len64 (x : Int) (w : World) (h0 : 0 ≤ x) (h1 : x ≤ 18446744073709551615) :
    Calls Tryd.prog 39 #[.int .u64 x] w fun e w' => e = .returned (.int .i64 (Lib.bitLen x.toNat)) ∧ w' = w := Any.bits_Len64 Tryd.lays129 x w h0 h1
def Tryd.lays264_ren : Go.Shelf.Ren := ⟨fun | 264 => 35 | n => n, fun | 53 => 26 | 46 => 85 | n => n, fun | n => n⟩
theorem Tryd.lays264 : Go.Proofs.Lays.n264 Tryd.prog Tryd.lays264_ren := {
  mixed := by kernel_rfl
  f264 := Tryd.func35.trans (congrArg some (by kernel_rfl))
  t46 := Tryd.underlying85
  a46 := Tryd.isAgg85
  z46 := Tryd.sizeOf85
  v46 := Tryd.zeroValue85
  t53 := Tryd.underlying26
  a53 := Tryd.isAgg26
  z53 := Tryd.sizeOf26
  v53 := Tryd.zeroValue26 }
open Go.RowKit Go.Lib in
theorem Tryd.bits_Mul64 (x y : Nat) (hx : x < 18446744073709551616) (hy : y < 18446744073709551616) (w : World) :
    Calls Tryd.prog 35 #[.int .u64 x, .int .u64 y] w fun e w' => e = .returned (.tuple #[.int .u64 ((x * y / 18446744073709551616 : Nat) : Int), .int .u64 ((x * y % 18446744073709551616 : Nat) : Int)]) ∧ w' = w := Any.bits_Mul64 Tryd.lays264 x y hx hy w
end Go.Proofs

set_option maxRecDepth 20000
set_option linter.unusedVariables false
set_option linter.unusedSectionVars false
set_option linter.unusedSimpArgs false
namespace Go.Proofs.YtmommdhnogogdaaDoor
open Go.RowKit

/-- how many words without noughts at the end -/
def sizeL (x : Nat → Int) : Nat → Nat
  | 0 => 0
  | n + 1 => if x n = 0 then sizeL x n else n + 1

theorem sizeL_le (x : Nat → Int) (n : Nat) : sizeL x n ≤ n := by
  induction n with
  | zero => simp [sizeL]
  | succ n ih => simp only [sizeL]; split <;> omega

theorem ret_int {k : IntKind} {a b : Int} (h : a = b) : Ending.returned (.int k a) = .returned (.int k b) := by rw [h]

set_option maxHeartbeats 400000 in
theorem size_any (b off n c : Nat) (x : Nat → Int) (w : World) (hn : n < 9223372036854775808) (hc : ∀ i, i < n → w.cell? ⟨b, off + i, none⟩ = some (.int .u64 (x i))) :
    Calls Tryd.prog 11 #[.slice (some ⟨b, off, none⟩) n c] w fun e w' => e = .returned (.int .i64 (sizeL x n)) ∧ w' = w := by
  go_enter Tryd.func11, Tryd.ntmps11
  go_wp2
  go_loop [3] (fun t => ∃ k : Nat, k ≤ n ∧ sizeL x k = sizeL x n ∧ t = .int .i64 k) (fun t => (intOf t).toNat)
  case atStart => exact ⟨n, Nat.le_refl _, rfl, rfl⟩
  case round =>
    obtain ⟨k, hk, hs, rfl⟩ := hrel
    by_cases h0 : k = 0
    · subst h0
      go_wp2
      go_ret
      exact ⟨ret_int (by rw [← hs]; rfl), rfl⟩
    · obtain ⟨j, rfl⟩ : ∃ j, k = j + 1 := ⟨k - 1, by omega⟩
      have hcj := hc j (by omega)
      by_cases hz : x j = 0
      · have HS : Hid (sizeL x j = sizeL x n) := by
          have : sizeL x (j + 1) = sizeL x j := by simp [sizeL, hz]
          exact this.symm.trans hs
        clear hs
        go_wp2
        go_round
        case rel => exact ⟨j, by omega, HS.out, by go_num⟩
        case measure => simp [intOf]
      · have HS : Hid (((j : Int) + 1) = (sizeL x n : Nat)) := by
          have : sizeL x (j + 1) = j + 1 := by simp [sizeL, hz]
          show _ = _
          rw [← hs, this]; omega
        clear hs
        go_wp2
        go_ret
        exact ⟨ret_int (by exact HS.out), rfl⟩

set_option maxHeartbeats 400000 in
theorem size_nil (w : World) :
    Calls Tryd.prog 11 #[.slice none 0 0] w fun e w' => e = .returned (.int .i64 0) ∧ w' = w := by
  go_enter Tryd.func11, Tryd.ntmps11
  go_wp2
  go_loop [3] (fun t => t = .int .i64 0) (fun t => (intOf t).toNat)
  case atStart => rfl
  case round =>
    subst hrel
    go_wp2
    go_ret
    exact ⟨rfl, rfl⟩

/-- how many bits -/
def lenL (x : Nat → Int) (n : Nat) : Int := if sizeL x n = 0 then 0 else 64 * (sizeL x n : Int) - 64 + Lib.bitLen (x (sizeL x n - 1)).toNat

theorem bitLenAux_le : ∀ f x : Nat, Lib.bitLenAux f x ≤ f
  | 0, x => by simp [Lib.bitLenAux]
  | f + 1, x => by
    have := bitLenAux_le f (x / 2)
    simp only [Lib.bitLenAux]; split <;> omega
theorem bitLen64 (x : Nat) : Lib.bitLen x ≤ 64 := bitLenAux_le 64 x

set_option maxHeartbeats 400000 in
theorem len_any (b off n c : Nat) (x : Nat → Int) (w : World) (hn : n < 100000000) (hx : ∀ i, 0 ≤ x i ∧ x i ≤ 18446744073709551615) (hc : ∀ i, i < n → w.cell? ⟨b, off + i, none⟩ = some (.int .u64 (x i))) :
    Calls Tryd.prog 71 #[.slice (some ⟨b, off, none⟩) n c] w fun e w' => e = .returned (.int .i64 (lenL x n)) ∧ w' = w := by
  have hle := sizeL_le x n
  by_cases h0 : sizeL x n = 0
  · have HL : Hid (lenL x n = 0) := by show _ = _; simp [lenL, h0]
    have hs : Calls Tryd.prog 11 #[.slice (some ⟨b, off, none⟩) n c] w fun e w' => e = .returned (.int .i64 0) ∧ w' = w := by
      have := size_any b off n c x w (by omega) hc
      rw [h0] at this; exact this
    clear h0 hc hx
    go_enter Tryd.func71, Tryd.ntmps71
    go_wp2_with (go_at_call 11; refine hs.mono ?_; rintro e w' ⟨rfl, rfl⟩)
    go_ret
    exact ⟨ret_int HL.out.symm, rfl⟩
  · obtain ⟨j, hj⟩ : ∃ j, sizeL x n = j + 1 := ⟨sizeL x n - 1, by omega⟩
    have hs := size_any b off n c x w (by omega) hc
    have HL : Hid (lenL x n = 64 * (j : Int) + Lib.bitLen (x j).toNat) := by show _ = _; simp [lenL, hj]; omega
    rw [hj] at hs
    have hcj := hc j (by omega)
    have hb := hx j
    have hbl := bitLen64 (x j).toNat
    have hj' : j + 1 ≤ n := by omega
    clear h0 hc hx hj hle
    have hcl := Tryd.bits_Len64 (x j) w hb.1 hb.2
    generalize Lib.bitLen (x j).toNat = L at *
    go_enter Tryd.func71, Tryd.ntmps71
    go_wp2_with (first | (go_at_call 11; refine hs.mono ?_; rintro e w' ⟨rfl, rfl⟩) | (go_at_call 39; refine hcl.mono ?_; rintro e w' ⟨rfl, rfl⟩))
    go_ret
    exact ⟨ret_int (by rw [HL.out]; omega), rfl⟩
end Go.Proofs.YtmommdhnogogdaaDoor

namespace Go.Proofs.YtmommdhnogogdaaDoor
open Go.RowKit

def arrOf (f : Nat → Int) (n : Nat) : Array Value := ((List.range n).map fun i => Value.int .u64 (f i)).toArray
@[simp] theorem arrOf_size (f : Nat → Int) (n : Nat) : (arrOf f n).size = n := by simp [arrOf]
theorem arrOf_get (f : Nat → Int) (n i : Nat) (h : i < (arrOf f n).size) : (arrOf f n)[i]'h = .int .u64 (f i) := by simp [arrOf]
theorem arrOf_get? (f : Nat → Int) (n i : Nat) (h : i < n) : (arrOf f n)[i]? = some (.int .u64 (f i)) := by simp [arrOf, h]
theorem arrOf_set (f : Nat → Int) (n k : Nat) (v : Int) : (arrOf f n).setIfInBounds k (.int .u64 v) = arrOf (fun i => if i = k then v else f i) n := by
  apply Array.ext
  · simp
  · intro i h1 h2
    rw [Array.getElem_setIfInBounds]
    simp only [arrOf_get]
    by_cases h : k = i
    · subst h; simp
    · simp [h, Ne.symm h]; exact arrOf_get _ _ _ _
    simpa using h2
theorem arrOf_congr {f g : Nat → Int} {n : Nat} (h : ∀ i, i < n → f i = g i) : arrOf f n = arrOf g n := by
  apply Array.ext
  · simp
  · intro i h1 h2
    simp only [arrOf_get]
    rw [h i (by simpa using h1)]
theorem arrOf_of (cs : Array Value) (n : Nat) (f : Nat → Int) (hs : cs.size = n) (h : ∀ i, i < n → cs[i]? = some (.int .u64 (f i))) : cs = arrOf f n := by
  apply Array.ext
  · simp [hs]
  · intro i h1 h2
    rw [arrOf_get]
    have := h i (by omega)
    rw [Array.getElem?_eq_getElem h1] at this
    exact Option.some.inj this

theorem add64 (x y c : Int) (hx : 0 ≤ x) (hy : 0 ≤ y) (hc0 : 0 ≤ c) (hc : c ≤ 1) (w : World) : (callFunc 32 #[.int .u64 x, .int .u64 y, .int .u64 c]).run Tryd.prog w =
    .ok (.value (.tuple #[.int .u64 ((x + y + c) % 18446744073709551616), .int .u64 ((x + y + c) / 18446744073709551616)])) w := by
  rw [run_callFunc_extern Tryd.func32 (by kernel_rfl) (by kernel_rfl) (by kernel_rfl) (e := add64Entry) (by kernel_rfl), run_add64 x y c hx hy hc0 hc]
  rfl

def sub64E : Array Value → Sem Value := fun args => do
  let (x, y, b) ← Extern.MathBitsCarry.three "Sub64" args
  pure (Extern.MathBitsCarry.pair ((x + Extern.MathBitsCarry.m64 - y - b) % Extern.MathBitsCarry.m64) (if x < y + b then 1 else 0))
theorem run_sub64E (x y b : Nat) (hb : b ≤ 1) (w : World) :
    (sub64E #[.int .u64 x, .int .u64 y, .int .u64 b]).run Tryd.prog w =
      .ok (.tuple #[.int .u64 (((x + 18446744073709551616 - y - b) % 18446744073709551616 : Nat) : Int), .int .u64 ((if x < y + b then 1 else 0 : Nat) : Int)]) w := by
  have : b = 0 ∨ b = 1 := by omega
  rcases this with rfl | rfl <;> rfl
/-- what is borrowed -/
def bor (x y b : Int) : Int := if x < y + b then 1 else 0
theorem sub64 (x y b : Int) (hx : 0 ≤ x) (hy : 0 ≤ y) (hy' : y < 18446744073709551616) (hb0 : 0 ≤ b) (hb : b ≤ 1) (w : World) : (callFunc 70 #[.int .u64 x, .int .u64 y, .int .u64 b]).run Tryd.prog w =
    .ok (.value (.tuple #[.int .u64 ((x - y - b) % 18446744073709551616), .int .u64 (bor x y b)])) w := by
  obtain ⟨x, rfl⟩ := Int.eq_ofNat_of_zero_le hx
  obtain ⟨y, rfl⟩ := Int.eq_ofNat_of_zero_le hy
  obtain ⟨b, rfl⟩ := Int.eq_ofNat_of_zero_le hb0
  have e1 : (((x + 18446744073709551616 - y - b) % 18446744073709551616 : Nat) : Int) = ((x : Int) - y - b) % 18446744073709551616 := by omega
  have e2 : ((if x < y + b then 1 else 0 : Nat) : Int) = bor x y b := by unfold bor; split <;> split <;> omega
  rw [run_callFunc_extern Tryd.func70 (by kernel_rfl) (by kernel_rfl) (by kernel_rfl) (e := sub64E) (by kernel_rfl), run_sub64E x y b (by omega), ← e1, ← e2]
  rfl
end Go.Proofs.YtmommdhnogogdaaDoor

namespace Go.Proofs.YtmommdhnogogdaaDoor
open Go.RowKit
attribute [local go_sem ↓] Go.wp_at_zero Go.wp_at_succ
theorem setCell_drewN (w : World) (n : Nat) (a : Addr) (v : Value) : (w.drewN n).setCell a v = (w.setCell a v).drewN n := rfl
theorem alloc_drewN (w : World) (n : Nat) (o : Obj) : (w.drewN n).alloc o = (w.alloc o).drewN n := rfl
attribute [local go_sem] setCell_drewN alloc_drewN

/-- the carry into word k, and the sum's words -/
def carryW (x y : Nat → Int) : Nat → Int
  | 0 => 0
  | k + 1 => (x k + y k + carryW x y k) / 18446744073709551616
def sumW (x y : Nat → Int) (k : Nat) : Int := (x k + y k + carryW x y k) % 18446744073709551616

def Words (x : Nat → Int) : Prop := ∀ i, 0 ≤ x i ∧ x i ≤ 18446744073709551615
theorem carryW_01 {x y : Nat → Int} (hx : Words x) (hy : Words y) (k : Nat) : 0 ≤ carryW x y k ∧ carryW x y k ≤ 1 := by
  induction k with
  | zero => simp [carryW]
  | succ k ih => have := hx k; have := hy k; simp only [carryW]; omega
/-- the borrow from word k, and the difference's words -/
def borW (x y : Nat → Int) : Nat → Int
  | 0 => 0
  | k + 1 => bor (x k) (y k) (borW x y k)
def difW (x y : Nat → Int) (k : Nat) : Int := (x k - y k - borW x y k) % 18446744073709551616
theorem bor_01 (x y b : Int) : 0 ≤ bor x y b ∧ bor x y b ≤ 1 := by unfold bor; split <;> omega
theorem borW_01 (x y : Nat → Int) (k : Nat) : 0 ≤ borW x y k ∧ borW x y k ≤ 1 := by
  cases k with
  | zero => simp [borW]
  | succ k => exact bor_01 _ _ _

theorem set_next {ss : Array Value} {k : Nat} {f : Nat → Int} (hss : ∀ j h, ss[j]'h = Value.int .u64 (if j < k then f j else 0)) (j : Nat) (h : j < (ss.setIfInBounds k (.int .u64 (f k))).size) : (ss.setIfInBounds k (.int .u64 (f k)))[j]'h = Value.int .u64 (if j < k + 1 then f j else 0) := by
  have h' : j < ss.size := by simpa using h
  rw [Array.getElem_setIfInBounds]
  by_cases e : k = j
  · subst e; simp
  · rw [if_neg e, hss j h']
    by_cases e2 : j < k
    · simp [e2, Nat.lt_succ_of_lt e2]
    · simp [e2, show ¬ j < k + 1 by omega]
  exact h'





end Go.Proofs.YtmommdhnogogdaaDoor

namespace Go.Proofs.YtmommdhnogogdaaDoor
open Go.RowKit
attribute [local go_sem] setCell_drewN alloc_drewN

set_option maxHeartbeats 1000000 in
theorem div64_0 (lo y : Int) (w : World) (hl : 0 ≤ lo ∧ lo ≤ 18446744073709551615) (hy : 0 < y ∧ y ≤ 18446744073709551615) :
    Calls Tryd.prog 77 #[.int .u64 0, .int .u64 lo, .int .u64 y] w fun e w' => e = .returned (.tuple #[.int .u64 (lo / y), .int .u64 (lo % y)]) ∧ ∃ m, w' = w.drewN m := by
  have hy0 : ¬ y = 0 := by omega
  go_enter Tryd.func77, Tryd.ntmps77
  go_wp2
  go_quiet (fail)
  go_wp2
  go_ret2
  exact ⟨rfl, _, rfl⟩

/-- the rest ahead of word n - 1 - j, and the quotient's words -/
def remJ (x : Nat → Int) (d : Int) (n : Nat) : Nat → Int
  | 0 => 0
  | j + 1 => (remJ x d n j * 18446744073709551616 + x (n - 1 - j)) % d
def quoW (x : Nat → Int) (d : Int) (n j : Nat) : Int := (remJ x d n (n - 1 - j) * 18446744073709551616 + x j) / d
theorem remJ_bd (x : Nat → Int) (d : Int) (n j : Nat) (hd : 0 < d) : 0 ≤ remJ x d n j ∧ remJ x d n j < d := by
  cases j with
  | zero => exact ⟨Int.le_refl _, hd⟩
  | succ j => exact ⟨Int.emod_nonneg _ (by omega), Int.emod_lt_of_pos _ hd⟩
theorem bcell {W w1 : World} (hb : Below W.heap.size W w1) : (∀ b o, b < W.heap.size → w1.cell? ⟨b, o, none⟩ = W.cell? ⟨b, o, none⟩) ∧ (∀ b o, b < W.heap.size → w1.frozen? ⟨b, o, none⟩ = W.frozen? ⟨b, o, none⟩) :=
  ⟨fun b o h => hb.cell (p := ⟨b, o, none⟩) h, fun b o h => hb.frozen (p := ⟨b, o, none⟩) h⟩


end Go.Proofs.YtmommdhnogogdaaDoor

namespace Go.Proofs.YtmommdhnogogdaaDoor
open Go.RowKit

/-- the slice (a, n, c) holds the words x; all further words of x are 0 -/
def Num (w : World) (a : Option Addr) (n c : Nat) (x : Nat → Int) : Prop :=
  n ≤ c ∧ c ≤ maxLen ∧ Words x ∧ (∀ i, n ≤ i → x i = 0) ∧ ((a = none ∧ c = 0) ∨ ∃ b off, a = some ⟨b, off, none⟩ ∧ b < w.heap.size ∧ ∀ i, i < n → w.cell? ⟨b, off + i, none⟩ = some (.int .u64 (x i)))
theorem Num.next {w w' : World} {a : Option Addr} {n c : Nat} {x : Nat → Int} (h : Num w a n c x) (hb : Below w.heap.size w w') : Num w' a n c x := by
  obtain ⟨h1, h2, h3, h4, h5⟩ := h
  refine ⟨h1, h2, h3, h4, ?_⟩
  rcases h5 with h5 | ⟨b, off, h6, h7, h8⟩
  · exact Or.inl h5
  · exact Or.inr ⟨b, off, h6, Nat.lt_of_lt_of_le h7 hb.size, fun i hi => (hb.cell (p := ⟨b, off + i, none⟩) h7).trans (h8 i hi)⟩
theorem Num.drewN {w : World} {a : Option Addr} {n c : Nat} {x : Nat → Int} (h : Num w a n c x) (m : Nat) : Num (w.drewN m) a n c x := h

set_option maxHeartbeats 400000 in
theorem word_any (a : Option Addr) (n c i : Nat) (x : Nat → Int) (w : World) (h : Num w a n c x) :
    Calls Tryd.prog 33 #[.slice a n c, .int .i64 i] w fun e w' => e = .returned (.int .u64 (x i)) ∧ w' = w := by
  obtain ⟨h1, h2, h3, h4, h5⟩ := h
  by_cases hi : i < n
  · rcases h5 with ⟨rfl, rfl⟩ | ⟨b, off, rfl, hbs, hc⟩
    · omega
    · have hci := hc i hi
      have hi' : (i : Int) < n := by omega
      clear hc h4 h3
      go_enter Tryd.func33, Tryd.ntmps33
      go_wp2
      go_ret
      exact ⟨rfl, rfl⟩
  · have hz := h4 i (by omega)
    have HZ : Hid (x i = 0) := hz
    clear hz h4 h3 h5
    go_enter Tryd.func33, Tryd.ntmps33
    go_wp2
    go_ret
    exact ⟨ret_int HZ.out.symm, rfl⟩

/-- -1, 0, 1: the words below n, the highest first -/
def cmpL (x y : Nat → Int) : Nat → Int
  | 0 => 0
  | n + 1 => if x n < y n then -1 else if y n < x n then 1 else cmpL x y n

set_option maxHeartbeats 400000 in
theorem cmp_any (a a' : Option Addr) (n c n' c' : Nat) (x y : Nat → Int) (w : World) (hn : n < 4294967296) (hn' : n' < 4294967296) (h : Num w a n c x) (h' : Num w a' n' c' y) :
    Calls Tryd.prog 15 #[.slice a n c, .slice a' n' c'] w fun e w' => e = .returned (.int .i64 (cmpL x y (max n n'))) ∧ w' = w := by
  have hw1 := fun i => word_any a n c i x w h
  have hw2 := fun i => word_any a' n' c' i y w h'
  clear h h'
  go_enter Tryd.func15, Tryd.ntmps15
  go_wp2
  go_loop [5, 6, 7] (fun t u6 u7 => ∃ k : Nat, k ≤ max n n' ∧ cmpL x y k = cmpL x y (max n n') ∧ t = .int .i64 ((k : Int) - 1)) (fun t _ _ => (intOf t + 1).toNat)
  case atStart => exact ⟨max n n', Nat.le_refl _, rfl, by go_num⟩
  case round =>
    obtain ⟨k, hk, hs, rfl⟩ := hrel
    by_cases h0 : k = 0
    · subst h0
      have HS : Hid (cmpL x y (max n n') = 0) := hs.symm
      clear hs
      go_wp2
      go_ret
      exact ⟨ret_int HS.out.symm, rfl⟩
    · obtain ⟨j, rfl⟩ : ∃ j, k = j + 1 := ⟨k - 1, by omega⟩
      have ej : ((j + 1 : Nat) : Int) - 1 = j := by omega
      have hj : j < 4294967296 := by omega
      rw [ej]
      have HS : Hid ((if x j < y j then -1 else if y j < x j then 1 else cmpL x y j) = cmpL x y (max n n')) := hs
      have hkm : j ≤ max n n' := by omega
      clear hs ej hk
      have hwa := hw1 j
      have hwb := hw2 j
      by_cases hlt : x j < y j
      · have HR : Hid (cmpL x y (max n n') = -1) := by rw [← HS.out, if_pos hlt]; rfl
        clear HS
        go_wp2_with (first | (go_at_call_of 33 (Value.slice a n c); refine hwa.mono ?_; rintro e w' ⟨rfl, rfl⟩) | (go_at_call_of 33 (Value.slice a' n' c'); refine hwb.mono ?_; rintro e w' ⟨rfl, rfl⟩))
        go_ret
        exact ⟨ret_int HR.out.symm, rfl⟩
      · by_cases hgt : y j < x j
        · have HR : Hid (cmpL x y (max n n') = 1) := by rw [← HS.out, if_neg hlt, if_pos hgt]; rfl
          clear HS
          go_wp2_with (first | (go_at_call_of 33 (Value.slice a n c); refine hwa.mono ?_; rintro e w' ⟨rfl, rfl⟩) | (go_at_call_of 33 (Value.slice a' n' c'); refine hwb.mono ?_; rintro e w' ⟨rfl, rfl⟩))
          go_ret
          exact ⟨ret_int HR.out.symm, rfl⟩
        · have HR : Hid (cmpL x y j = cmpL x y (max n n')) := by rw [← HS.out, if_neg hlt, if_neg hgt]; rfl
          clear HS
          go_wp2_with (first | (go_at_call_of 33 (Value.slice a n c); refine hwa.mono ?_; rintro e w' ⟨rfl, rfl⟩) | (go_at_call_of 33 (Value.slice a' n' c'); refine hwb.mono ?_; rintro e w' ⟨rfl, rfl⟩))
          go_round
          case rel => exact ⟨j, hkm, HR.out, by go_num⟩
          case measure => simp [intOf]

theorem Tryd.info26 : (Tryd.prog.info? 26).map (fun i => (i.zero, i.size, i.bytes)) = some (some (.int .u64 0), 1, 8) := by kernel_rfl
theorem num_of_owns {w w' : World} {g k cap base : Nat} {x : Nat → Int} (hx : Words x) (hz : ∀ i, k ≤ i → x i = 0) (h : w'.ownsRow base 26 1 (.slice (some ⟨g, 0, none⟩) k cap) k ((List.range k).map fun i => Value.int .u64 (x i))) (hg : g < w'.heap.size) : Num w' (some ⟨g, 0, none⟩) k cap x := by
  obtain ⟨hl, h⟩ := h
  rcases h with ⟨h, _⟩ | ⟨g', cap', cur, he, hb, hh, h1, h2, h3, h4⟩
  · cases h
  · cases he
    refine ⟨h1, h2, hx, hz, Or.inr ⟨g, 0, rfl, hg, fun i hi => ?_⟩⟩
    rw [Nat.zero_add]
    have hcur : cur[i]? = some (.int .u64 (x i)) := by
      have : (cur.toList.take (k * 1))[i]? = some (.int .u64 (x i)) := by rw [h4]; simp [hi]
      rw [List.getElem?_take] at this
      simpa [hi] using this
    unfold World.cell?
    simp [hh, hcur]

set_option maxHeartbeats 1000000 in
theorem trim_some (b off n c : Nat) (x : Nat → Int) (w : World) (hn : n < 4294967296) (h : Num w (some ⟨b, off, none⟩) n c x) :
    Calls Tryd.prog 31 #[.slice (some ⟨b, off, none⟩) n c] w fun e w' => ∃ g cap, e = .returned (.slice (some ⟨g, 0, none⟩) (sizeL x n) cap) ∧ Num w' (some ⟨g, 0, none⟩) (sizeL x n) cap x ∧ Below w.heap.size w w' := by
  obtain ⟨h1, h2, h3, h4, h5⟩ := h
  have hc : b < w.heap.size ∧ ∀ i, i < n → w.cell? ⟨b, off + i, none⟩ = some (.int .u64 (x i)) := by
    rcases h5 with ⟨h, _⟩ | ⟨b', off', h, hbs, hc⟩
    · cases h
    · cases h; exact ⟨hbs, hc⟩
  obtain ⟨hbs, hc⟩ := hc
  clear h5
  obtain ⟨i0, hi, hz0, hz1, hz2⟩ := info_parts Tryd.info26
  unfold maxLen at h2
  go_enter Tryd.func31, Tryd.ntmps31
  go_wp2
  go_loop [3] (fun t => ∃ k : Nat, k ≤ n ∧ sizeL x k = sizeL x n ∧ (∀ i, k ≤ i → x i = 0) ∧ t = .int .i64 k) (fun t => (intOf t).toNat)
  case atStart => exact ⟨n, Nat.le_refl _, rfl, h4, rfl⟩
  case round =>
    obtain ⟨k, hk, hs, hz, rfl⟩ := hrel
    clear h4
    by_cases h0 : k = 0
    · subst h0
      have HS : Hid (sizeL x n = 0) := hs.symm
      have HN : Hid (Num (w.alloc (.cells #[] 26)) (some ⟨w.heap.size, 0, none⟩) 0 0 x) := ⟨Nat.le_refl _, by unfold maxLen; omega, h3, hz, Or.inr ⟨w.heap.size, 0, rfl, by simp, fun i hi => by omega⟩⟩
      clear hs hz hc h3
      go_wp2
      go_ret
      refine ⟨w.heap.size, 0, ?_, ?_, (Below.refl _ _).alloc (Nat.le_refl _) _⟩
      · rw [HS.out]; rfl
      · rw [HS.out]; exact HN.out
    · obtain ⟨j, rfl⟩ : ∃ j, k = j + 1 := ⟨k - 1, by omega⟩
      have hcj := hc j (by omega)
      by_cases hzj : x j = 0
      · have HS : Hid (sizeL x j = sizeL x n) := by
          have : sizeL x (j + 1) = sizeL x j := by simp [sizeL, hzj]
          exact this.symm.trans hs
        have HZ : Hid (∀ i, j ≤ i → x i = 0) := fun i hji => by
          by_cases e : i = j
          · rw [e]; exact hzj
          · exact hz i (by omega)
        clear hs hz hc
        go_wp2
        go_round
        case rel => exact ⟨j, by omega, HS.out, HZ.out, by go_num⟩
        case measure => simp [intOf]
      · have HS : Hid (sizeL x n = j + 1) := by
          have : sizeL x (j + 1) = j + 1 := by simp [sizeL, hzj]
          exact hs.symm.trans this
        have HZ : Hid (∀ i, j + 1 ≤ i → x i = 0) := hz
        have HC : Hid (∀ i, i < n → w.cell? ⟨b, off + i, none⟩ = some (.int .u64 (x i))) := hc
        clear hs hz hc
        have HOWN : (w.alloc (.cells #[] 26)).ownsRow w.heap.size 26 1 (.slice (some ⟨w.heap.size, 0, none⟩) 0 0) 0 [] :=
          ⟨rfl, Or.inr ⟨w.heap.size, 0, #[], rfl, Nat.le_refl _, (MapKept.heap_alloc w _).1, Nat.le_refl _, by unfold maxLen; omega, rfl, rfl⟩⟩
        have HNEWS : ∀ (q : Nat) (u : Value), ((List.range (j + 1)).map fun i => Value.int .u64 (x i))[q]? = some u → (w.alloc (.cells #[] 26)).cell? ((⟨b, off, none⟩ : Addr).add q) = some u := by
          intro q u hq
          have hql : q < j + 1 := by
            rcases Nat.lt_or_ge q (j + 1) with h | h
            · exact h
            · rw [List.getElem?_eq_none (by simpa using h)] at hq; cases hq
          have e2 : u = .int .u64 (x q) := by simpa [hql] using hq.symm
          rw [e2]
          have ea : (⟨b, off, none⟩ : Addr).add q = ⟨b, off + q, none⟩ := by simp [Addr.add]
          rw [ea]
          exact (((Below.refl w.heap.size w).alloc (Nat.le_refl _) _).cell (p := ⟨b, off + q, none⟩) hbs).trans (HC.out q (by omega))
        have HONE : ∀ u ∈ ((List.range (j + 1)).map fun i => Value.int .u64 (x i)), u.oneCell' = true := by
          intro u hu
          obtain ⟨q, _, rfl⟩ := List.mem_map.1 hu
          rfl
        go_wp2_with (at_builtin; refine wpList_append_lies _ rfl (.tmp 18) (.tmp 21) 22 rfl w.heap.size 26 i0 (.int .u64 0) 1 8 Tryd.underlying22 hi hz0 hz1 hz2 rfl (by decide) (.slice (some ⟨w.heap.size, 0, none⟩) 0 0) 0 [] rfl HOWN ⟨b, off, none⟩ (j + 1) c ((List.range (j + 1)).map fun i => Value.int .u64 (x i)) rfl (by simp) HNEWS HONE (by omega) (by unfold maxLen; omega) (by omega) (by simp) (w.heap.size + 1) (by simp) ?_; intro g cap w1 hown hgrow hat hlt; clear HOWN HNEWS HONE)
        have hown' : w1.ownsRow w.heap.size 26 1 (.slice (some ⟨g, 0, none⟩) (j + 1) cap) (j + 1) ((List.range (j + 1)).map fun i => Value.int .u64 (x i)) := by
          have e0 : 0 + (j + 1) = j + 1 := by omega
          rw [e0] at hown
          simpa using hown
        have HN := num_of_owns (w := w) h3 HZ.out hown' hlt
        have HB : Below w.heap.size w w1 := ((Below.refl _ _).alloc (Nat.le_refl _) _).grown hgrow (by simp) (by intro k hk; cases hk; exact Nat.le_refl _)
        clear hown hown' hgrow
        go_wp2
        go_ret
        refine ⟨g, cap, ?_, ?_, HB⟩
        · rw [HS.out]; simp
        · rw [HS.out]; exact HN

set_option maxHeartbeats 400000 in
theorem trim_nil (x : Nat → Int) (w : World) (hx : ∀ i, x i = 0) :
    Calls Tryd.prog 31 #[.slice none 0 0] w fun e w' => ∃ g cap, e = .returned (.slice (some ⟨g, 0, none⟩) 0 cap) ∧ Num w' (some ⟨g, 0, none⟩) 0 cap x ∧ Below w.heap.size w w' := by
  go_enter Tryd.func31, Tryd.ntmps31
  go_wp2
  go_loop [3] (fun t => t = .int .i64 0) (fun t => (intOf t).toNat)
  case atStart => rfl
  case round =>
    subst hrel
    go_wp2
    go_ret
    refine ⟨w.heap.size, 0, rfl, ?_, (Below.refl _ _).alloc (Nat.le_refl _) _⟩
    exact ⟨Nat.le_refl _, by unfold maxLen; omega, fun i => by rw [hx i]; decide, fun i _ => hx i, Or.inr ⟨w.heap.size, 0, rfl, by simp, fun i hi => by omega⟩⟩
theorem trim_any (a : Option Addr) (n c : Nat) (x : Nat → Int) (w : World) (hn : n < 4294967296) (h : Num w a n c x) :
    Calls Tryd.prog 31 #[.slice a n c] w fun e w' => ∃ g cap, e = .returned (.slice (some ⟨g, 0, none⟩) (sizeL x n) cap) ∧ Num w' (some ⟨g, 0, none⟩) (sizeL x n) cap x ∧ Below w.heap.size w w' := by
  have h' := h
  obtain ⟨h1, h2, h3, h4, h5⟩ := h'
  rcases h5 with ⟨rfl, rfl⟩ | ⟨b, off, rfl, _, _⟩
  · obtain rfl : n = 0 := by omega
    exact trim_nil x w (fun i => h4 i (Nat.zero_le _))
  · exact trim_some b off n c x w hn h
end Go.Proofs.YtmommdhnogogdaaDoor

namespace Go.Proofs.YtmommdhnogogdaaDoor
open Go.RowKit

theorem made_zero (k : Nat) : madeCells (Value.int .u64 0).cells k = arrOf (fun _ => 0) k := by
  apply Array.ext
  · simp [madeCells]
  · intro i h1 h2
    rw [arrOf_get]
    simp [madeCells, Value.cells, Nat.mod_one]
theorem make_any (L : Int) (k : Nat) (hL : L = k) (hk : k < 8589934592) (w : World) : (Instr.makeSlice 22 (.int .i64 L) (.int .i64 L)).run Tryd.prog w = .ok (.slice (some ⟨w.heap.size, 0, none⟩) k k) (w.alloc (.cells (arrOf (fun _ => 0) k) 26)) := by
  obtain ⟨i0, hi, hz0, hz1, hz2⟩ := info_parts Tryd.info26
  rw [run_make w 22 26 i0 (.int .u64 0) Tryd.underlying22 hi hz0 .i64 .i64 L L (by omega) (by omega) (by rw [hz2]; omega) (by omega)]
  have e1 : L.toNat = k := by omega
  rw [e1, hz1, Nat.mul_one, made_zero]
theorem num_of_block {w : World} {k : Nat} {x : Nat → Int} {ss : Array Value} (hk : k < 8589934592) (hx : Words x) (hz : ∀ i, k ≤ i → x i = 0) (hsz : ss.size = k) (hss : ∀ j h, ss[j]'h = Value.int .u64 (x j)) : Num (w.alloc (.cells ss 26)) (some ⟨w.heap.size, 0, none⟩) k k x := by
  refine ⟨Nat.le_refl _, by unfold maxLen; omega, hx, hz, Or.inr ⟨w.heap.size, 0, rfl, by simp, fun i hi => ?_⟩⟩
  rw [Nat.zero_add, World.cell?_alloc_new, Array.getElem?_eq_getElem (by omega), hss i (by omega)]
theorem below1 (w : World) (o : Obj) : Below w.heap.size w (w.alloc o) := (Below.refl _ _).alloc (Nat.le_refl _) _

theorem sumW_words (x y : Nat → Int) : Words (sumW x y) := fun i => ⟨Int.emod_nonneg _ (by decide), by have := Int.emod_lt_of_pos (x i + y i + carryW x y i) (b := 18446744073709551616) (by decide); unfold sumW; omega⟩
theorem sumW_zero {x y : Nat → Int} {n : Nat} (hx : Words x) (hy : Words y) (zx : ∀ i, n ≤ i → x i = 0) (zy : ∀ i, n ≤ i → y i = 0) : ∀ i, n + 1 ≤ i → sumW x y i = 0 := by
  have hc : ∀ j, n + 1 ≤ j → carryW x y j = 0 := by
    intro j hj
    obtain ⟨q, rfl⟩ : ∃ q, j = q + 1 := ⟨j - 1, by omega⟩
    have := carryW_01 hx hy q
    simp only [carryW]; rw [zx q (by omega), zy q (by omega)]; omega
  intro i hi
  unfold sumW
  rw [zx i (by omega), zy i (by omega), hc i hi]; rfl
theorem difW_words (x y : Nat → Int) : Words (difW x y) := fun i => ⟨Int.emod_nonneg _ (by decide), by have := Int.emod_lt_of_pos (x i - y i - borW x y i) (b := 18446744073709551616) (by decide); unfold difW; omega⟩
/-- the difference, cut at M words -/
def difZ (x y : Nat → Int) (M i : Nat) : Int := if i < M then difW x y i else 0
theorem difZ_words (x y : Nat → Int) (M : Nat) : Words (difZ x y M) := fun i => by unfold difZ; split; exact difW_words x y i; decide

set_option maxHeartbeats 1000000 in
theorem radd_any (a a' : Option Addr) (n c n' c' : Nat) (x y : Nat → Int) (w : World) (hn : n < 4294967290) (hn' : n' < 4294967290) (h : Num w a n c x) (h' : Num w a' n' c' y) :
    Calls Tryd.prog 12 #[.slice a n c, .slice a' n' c'] w fun e w' => ∃ g k cap, e = .returned (.slice (some ⟨g, 0, none⟩) k cap) ∧ k ≤ max n n' + 1 ∧ Num w' (some ⟨g, 0, none⟩) k cap (sumW x y) ∧ Below w.heap.size w w' := by
  have hx := h.2.2.1
  have hy := h'.2.2.1
  have zx := h.2.2.2.1
  have zy := h'.2.2.2.1
  obtain ⟨M, hM⟩ : ∃ M, max n n' + 1 = M := ⟨_, rfl⟩
  have hMi : max (n : Int) n' + 1 = (M : Int) := by omega
  have hMb : M < 4294967292 := by omega
  have hmk := fun w => make_any (max (n : Int) n' + 1) M hMi (by omega) w
  have hfin : ∀ (ss : Array Value), ss.size = M → (∀ j h, ss[j]'h = Value.int .u64 (sumW x y j)) → Num (w.alloc (.cells ss 26)) (some ⟨w.heap.size, 0, none⟩) M M (sumW x y) := fun ss h1 h2 => num_of_block (by omega) (sumW_words x y) (fun i hi => sumW_zero (n := max n n') hx hy (fun i hi => zx i (by omega)) (fun i hi => zy i (by omega)) i (by omega)) h1 (fun j hj => by rw [h2 j hj])
  have hw1 := fun (i : Nat) (ss : Array Value) => word_any a n c i x (w.alloc (.cells ss 26)) (h.next (below1 w _))
  have hw2 := fun (i : Nat) (ss : Array Value) => word_any a' n' c' i y (w.alloc (.cells ss 26)) (h'.next (below1 w _))
  have HM : Hid (max n n' + 1 = M) := hM
  have HZ : Hid ((arrOf (fun _ => 0) M).size = M ∧ ∀ j h, (arrOf (fun _ => 0) M)[j]'h = Value.int .u64 0) := ⟨arrOf_size _ _, fun j h => arrOf_get _ _ _ _⟩
  clear h h' zx zy hM hMi
  generalize arrOf (fun _ => 0) M = zz at *
  go_enter Tryd.func12, Tryd.ntmps12
  go_wp2
  go_loopw [6, 7, 17, 20] (fun c u7 i u20 wr => ∃ (k : Nat) (ss : Array Value), k ≤ M ∧ i = .int .i64 k ∧ c = .int .u64 (carryW x y k) ∧ ss.size = M ∧ (∀ j h, ss[j]'h = Value.int .u64 (if j < k then sumW x y j else 0)) ∧ wr = w.alloc (.cells ss 26)) (fun _ _ i _ _ => M - (intOf i).toNat)
  case atStart => exact ⟨0, zz, Nat.zero_le _, rfl, rfl, HZ.out.1, fun j h => by rw [HZ.out.2 j h]; simp, rfl⟩
  case round =>
    obtain ⟨k, ss, hk, rfl, rfl, hsz, hss, rfl⟩ := hrel
    have hcar := carryW_01 hx hy k
    by_cases h8 : k < M
    · have h8i : (k : Int) < M := by omega
      have h8s : k < ss.size := by omega
      have bx := hx k
      have b_y := hy k
      have hsk : ss[k]? = some (.int .u64 0) := by rw [Array.getElem?_eq_getElem h8s, hss k h8s, if_neg (by omega)]
      have hadd := fun w => add64 (x k) (y k) (carryW x y k) bx.1 b_y.1 hcar.1 hcar.2 w
      have hwa := hw1 k ss
      have hwb := hw2 k ss
      have HR : Hid (∀ (i : Nat) (h : i < (ss.setIfInBounds k (.int .u64 (sumW x y k))).size), (ss.setIfInBounds k (.int .u64 (sumW x y k)))[i]'h = Value.int .u64 (if i < k + 1 then sumW x y i else 0)) := set_next hss
      clear hss hw1 hw2 hfin hmk hx hy
      go_wp2_with (first | (go_at_call_of 33 (Value.slice a n c); refine hwa.mono ?_; rintro e w' ⟨rfl, rfl⟩) | (go_at_call_of 33 (Value.slice a' n' c'); refine hwb.mono ?_; rintro e w' ⟨rfl, rfl⟩))
      go_roundw
      case rel => exact ⟨k + 1, ss.setIfInBounds k (.int .u64 (sumW x y k)), by omega, by go_num, rfl, by simp [hsz], HR.out, rfl⟩
      case measure => simp [intOf]; omega
    · obtain rfl : k = M := by omega
      have hss' : ∀ j h, ss[j]'h = Value.int .u64 (sumW x y j) := by
        intro j h; rw [hss j h, if_pos (by omega)]
      have hT := trim_any _ _ _ _ _ (by omega) (hfin ss hsz hss')
      have hle := sizeL_le (sumW x y) k
      clear hss hss' hw1 hw2 hfin hmk hx hy
      go_wp2_with (go_at_call 31; refine hT.mono ?_; rintro e w1 ⟨g, cap, rfl, hN, hB⟩)
      go_ret
      exact ⟨g, _, cap, rfl, Nat.le_trans hle (Nat.le_of_eq HM.out.symm), hN, (below1 w _).trans (hB.mono (by simp))⟩

end Go.Proofs.YtmommdhnogogdaaDoor

namespace Go.Proofs.YtmommdhnogogdaaDoor
open Go.RowKit
attribute [local go_sem ↓] Go.wp_at_zero Go.wp_at_succ
attribute [local go_sem] setCell_drewN alloc_drewN

/-- 'or' of two words -/
def orW (a b : Int) : Int := bits BinOp.or IntKind.u64 a b
theorem orW_eq (a b : Int) (ha : 0 ≤ a ∧ a ≤ 18446744073709551615) (hb : 0 ≤ b ∧ b ≤ 18446744073709551615) : orW a b = ((a.toNat ||| b.toNat : Nat) : Int) := u64_or a b ha.1 (by omega) hb.1 (by omega)
theorem orW_comm (a b : Int) (ha : 0 ≤ a ∧ a ≤ 18446744073709551615) (hb : 0 ≤ b ∧ b ≤ 18446744073709551615) : orW a b = orW b a := by
  rw [orW_eq a b ha hb, orW_eq b a hb ha, Nat.or_comm]
theorem orW_zero (a : Int) (ha : 0 ≤ a ∧ a ≤ 18446744073709551615) : orW a 0 = a := by
  rw [orW_eq a 0 ha (by decide)]; simp; omega
theorem orW_word (a b : Int) (ha : 0 ≤ a ∧ a ≤ 18446744073709551615) (hb : 0 ≤ b ∧ b ≤ 18446744073709551615) : 0 ≤ orW a b ∧ orW a b ≤ 18446744073709551615 := by
  rw [orW_eq a b ha hb]
  have : a.toNat ||| b.toNat < 2 ^ 64 := Nat.or_lt_two_pow (by omega) (by omega)
  omega
theorem wrap_word (a : Int) : 0 ≤ IntKind.u64.wrap a ∧ IntKind.u64.wrap a ≤ 18446744073709551615 := by
  simp only [IntKind.wrap, IntKind.bits, IntKind.signed]
  have h1 := Int.emod_nonneg a (b := 18446744073709551616) (by decide)
  have h2 := Int.emod_lt_of_pos a (b := 18446744073709551616) (by decide)
  simp; omega
theorem wrap_id (a : Int) (ha : 0 ≤ a ∧ a ≤ 18446744073709551615) : IntKind.u64.wrap a = a := by
  simp only [IntKind.wrap, IntKind.bits, IntKind.signed]
  simp; omega
theorem div_word (a : Int) (e : Nat) (ha : 0 ≤ a ∧ a ≤ 18446744073709551615) : 0 ≤ a / 2 ^ e ∧ a / 2 ^ e ≤ 18446744073709551615 := by
  have hp : (0 : Int) < 2 ^ e := Int.pow_pos (by decide)
  have h1 := Int.ediv_nonneg ha.1 (Int.le_of_lt hp)
  have h2 := Int.ediv_le_self (2 ^ e) ha.1
  omega

/-- the bits that come in from the word below -/
def lowp (x : Nat → Int) (q r j : Nat) : Int := if q + 1 ≤ j ∧ 0 < r then x (j - q - 1) / 2 ^ (64 - r) else 0
/-- the words of x times 2^(64 q + r) -/
def finL (x : Nat → Int) (q r j : Nat) : Int := if q ≤ j then orW (lowp x q r j) (IntKind.u64.wrap (x (j - q) * 2 ^ r)) else 0
def stL (x : Nat → Int) (q r k j : Nat) : Int := if j < q + k then finL x q r j else if j = q + k then lowp x q r j else 0
theorem lowp_word {x : Nat → Int} (hx : Words x) (q r j : Nat) : 0 ≤ lowp x q r j ∧ lowp x q r j ≤ 18446744073709551615 := by
  unfold lowp; split
  · exact div_word _ _ (hx _)
  · decide
theorem finL_words {x : Nat → Int} (hx : Words x) (q r : Nat) : Words (finL x q r) := fun j => by
  unfold finL; split
  · exact orW_word _ _ (lowp_word hx q r j) (wrap_word _)
  · decide
theorem finL_zero {x : Nat → Int} {n : Nat} (hx : Words x) (zx : ∀ i, n ≤ i → x i = 0) (q r : Nat) (hr : r < 64) : ∀ j, n + q + 1 ≤ j → finL x q r j = 0 := by
  intro j hj
  unfold finL
  rw [if_pos (by omega), zx (j - q) (by omega)]
  have : lowp x q r j = 0 := by
    unfold lowp; split
    · rw [zx (j - q - 1) (by omega)]; simp
    · rfl
  rw [this, Int.zero_mul, wrap_id 0 (by decide), orW_zero 0 (by decide)]
theorem stL_end {x : Nat → Int} {n : Nat} (hx : Words x) (zx : ∀ i, n ≤ i → x i = 0) (q r j : Nat) (hj : j < n + q + 1) : stL x q r n j = finL x q r j := by
  unfold stL
  by_cases h : j < q + n
  · rw [if_pos h]
  · obtain rfl : j = q + n := by omega
    rw [if_neg h, if_pos rfl]
    unfold finL
    rw [if_pos (by omega), zx (q + n - q) (by omega), Int.zero_mul, wrap_id 0 (by decide), orW_zero _ (lowp_word hx q r _)]
theorem stL_step0 {x : Nat → Int} {q k : Nat} {ss : Array Value} (hss : ∀ j h, ss[j]'h = Value.int .u64 (stL x q 0 k j)) (j : Nat) (h : j < (ss.setIfInBounds (k + q) (.int .u64 (finL x q 0 (q + k)))).size) : (ss.setIfInBounds (k + q) (.int .u64 (finL x q 0 (q + k))))[j]'h = Value.int .u64 (stL x q 0 (k + 1) j) := by
  have h' : j < ss.size := by simpa using h
  rw [Array.getElem_setIfInBounds]
  by_cases e : k + q = j
  · subst e; rw [if_pos rfl]; unfold stL; rw [if_pos (by omega), Nat.add_comm]
  · rw [if_neg e, hss j h']
    unfold stL
    by_cases e2 : j < q + k
    · rw [if_pos e2, if_pos (by omega)]
    · rw [if_neg e2, if_neg (by omega), if_neg (by omega)]
      have : lowp x q 0 j = 0 := by unfold lowp; rw [if_neg (by omega)]
      rw [this]; split <;> rfl
  exact h'
theorem stL_step1 {x : Nat → Int} {q r k : Nat} (hr : 0 < r) {ss : Array Value} (hss : ∀ j h, ss[j]'h = Value.int .u64 (stL x q r k j)) (j : Nat) (h : j < ((ss.setIfInBounds (k + q) (.int .u64 (finL x q r (q + k)))).setIfInBounds (k + q + 1) (.int .u64 (x k / 2 ^ (64 - r)))).size) : ((ss.setIfInBounds (k + q) (.int .u64 (finL x q r (q + k)))).setIfInBounds (k + q + 1) (.int .u64 (x k / 2 ^ (64 - r))))[j]'h = Value.int .u64 (stL x q r (k + 1) j) := by
  have h' : j < ss.size := by simpa using h
  rw [Array.getElem_setIfInBounds (by simpa using h')]
  by_cases e0 : k + q + 1 = j
  · subst e0; rw [if_pos rfl]; unfold stL; rw [if_neg (by omega), if_pos (by omega)]; unfold lowp; rw [if_pos ⟨by omega, hr⟩, show k + q + 1 - q - 1 = k by omega]
  · rw [if_neg e0, Array.getElem_setIfInBounds h']
    by_cases e : k + q = j
    · subst e; rw [if_pos rfl]; unfold stL; rw [if_pos (by omega), Nat.add_comm]
    · rw [if_neg e, hss j h']
      unfold stL
      by_cases e2 : j < q + k
      · rw [if_pos e2, if_pos (by omega)]
      · rw [if_neg e2, if_neg (by omega), if_neg (by omega), if_neg (by omega)]

end Go.Proofs.YtmommdhnogogdaaDoor
