/-
  Texts that the proof leans on, joined: Bg, Shelf, Ref, Arr, Add, Div, Num, Radd, Left, Right, Cut, Val, Lmul, Tim, Wd, Kp.
-/
import Derived.Test.YtkefmapcaggefaaDoorProg
import Derived.Below
import Derived.WalkKit
import Derived.Shelf.Strings.Trim
import Derived.Shelf.Small.Utf8
import Derived.Shelf.Small.Bits
import Derived.Shelf.Small.Strs
import Derived.Shelf.Small.Wraps
import Derived.Shelf.Strconv.Itoa0
import Derived.Shelf.Strconv.Itoa1
import Derived.Shelf.LaysM
import Derived.Shelf.Strconv.Itoa2
import Derived.Shelf.Strconv.Itoa3
import Derived.Shelf.Strconv.Clone
import Derived.Shelf.Strings.Search1
import Derived.Shelf.Strconv.AppendUint10
import Derived.Shelf.Strconv.AppendInt10
import Derived.Shelf.Strconv.AppendIntPublic10
import Derived.Shelf.Strings.Prefix
import Derived.Shelf.Strings.Runes
import Derived.Shelf.Strings.AsciiSet
import Derived.Shelf.Bits.Mul64
import Derived.Shelf.Unicode.DecodeSlow
import Derived.Test.YtkefmapcaggefaaDoorRows
import Derived.WalkSpells
import Derived.WalkLawsBesides
import Derived.Laws.Externs
import Derived.Deep.RegionHeld3
import Derived.Deep.DrawnRows
import Derived.BigQuiet
import Derived.Deep.AppendLies
import Derived.BigRegion
import Derived.Deep.Cut
import Derived.Deep.CutRange
namespace Go.Proofs.YtkefmapcaggefaaDoor
open Go.RowKit
theorem bgo {n : Nat} {a b : World} (h : Below n a b := by (repeat (first | with_reducible assumption | with_reducible exact Below.refl _ _ | with_reducible refine Below.setCell ?_ (by first | omega | (dsimp only; omega) | (simp <;> omega)) _ | with_reducible refine Below.alloc ?_ (by first | omega | (simp <;> omega)) _ | with_reducible refine Below.drew ?_))) : Below n a b := h
theorem ltg {a b : Nat} (h : a < b := by first | with_reducible assumption | (simp; done) | (simp; omega)) : a < b := h
end Go.Proofs.YtkefmapcaggefaaDoor

namespace Go.Proofs
open Go.Shelf
def Tryd.lays134_ren : Go.Shelf.Ren := ⟨fun | 134 => 79 | 129 => 47 | n => n, fun | 53 => 22 | 3 => 3 | 4 => 4 | 46 => 68 | 5 => 5 | 9 => 9 | n => n, fun | n => n⟩
theorem Tryd.lays134 : Go.Proofs.Lays.n134 Tryd.prog Tryd.lays134_ren := {
  mixed := by kernel_rfl
  f129 := Tryd.func47.trans (congrArg some (by kernel_rfl))
  f134 := Tryd.func79.trans (congrArg some (by kernel_rfl))
  t3 := Tryd.underlying3
  a3 := Tryd.isAgg3
  z3 := Tryd.sizeOf3
  v3 := Tryd.zeroValue3
  t4 := Tryd.underlying4
  a4 := Tryd.isAgg4
  z4 := Tryd.sizeOf4
  v4 := Tryd.zeroValue4
  t5 := Tryd.underlying5
  a5 := Tryd.isAgg5
  z5 := Tryd.sizeOf5
  v5 := Tryd.zeroValue5
  t9 := Tryd.underlying9
  a9 := Tryd.isAgg9
  z9 := Tryd.sizeOf9
  v9 := Tryd.zeroValue9
  t46 := Tryd.underlying68
  a46 := Tryd.isAgg68
  z46 := Tryd.sizeOf68
  v46 := Tryd.zeroValue68
  t53 := Tryd.underlying22
  a53 := Tryd.isAgg22
  z53 := Tryd.sizeOf22
  v53 := Tryd.zeroValue22 }
/-- bits.LeadingZeros64: "LeadingZeros64 returns the number of leading zero bits in x; the result is 64 for x == 0.": IT RETURNS '64 - Lib.bitLen x'; the world is as it was. ITS CALLEE bits.Len64 IS MET BY ITS OWN CONTRACT OFF THE SHELF (lay that first): entered in place it sends the kernel out of memory. (LAID: no walk: one application.) -/
theorem Tryd.bits_LeadingZeros64 (x : Int) (w : World) (h0 : 0 ≤ x) (h1 : x ≤ 18446744073709551615) :
    Calls Tryd.prog 79 #[.int .u64 x] w fun e w' => e = .returned (.int .i64 (64 - (Lib.bitLen x.toNat : Int))) ∧ w' = w := Any.bits_LeadingZeros64 Tryd.lays134 x w h0 h1
def Tryd.lays129_ren : Go.Shelf.Ren := ⟨fun | 129 => 47 | n => n, fun | 53 => 22 | 3 => 3 | 4 => 4 | 46 => 68 | 5 => 5 | 9 => 9 | n => n, fun | n => n⟩
theorem Tryd.lays129 : Go.Proofs.Lays.n129 Tryd.prog Tryd.lays129_ren := {
  mixed := by kernel_rfl
  f129 := Tryd.func47.trans (congrArg some (by kernel_rfl))
  t3 := Tryd.underlying3
  a3 := Tryd.isAgg3
  z3 := Tryd.sizeOf3
  v3 := Tryd.zeroValue3
  t4 := Tryd.underlying4
  a4 := Tryd.isAgg4
  z4 := Tryd.sizeOf4
  v4 := Tryd.zeroValue4
  t5 := Tryd.underlying5
  a5 := Tryd.isAgg5
  z5 := Tryd.sizeOf5
  v5 := Tryd.zeroValue5
  t9 := Tryd.underlying9
  a9 := Tryd.isAgg9
  z9 := Tryd.sizeOf9
  v9 := Tryd.zeroValue9
  t46 := Tryd.underlying68
  a46 := Tryd.isAgg68
  z46 := Tryd.sizeOf68
  v46 := Tryd.zeroValue68
  t53 := Tryd.underlying22
  a53 := Tryd.isAgg22
  z53 := Tryd.sizeOf22
  v53 := Tryd.zeroValue22 }
/-- bits.Len64: "Len64 returns the minimum number of bits required to represent x; the result is 0 for x == 0.": IT RETURNS 'Lib.bitLen x'; the world is as it was. ('h0', 'h1': x is a uint64.) (LAID: no walk: one application.) -/
theorem Tryd.bits_Len64 (x : Int) (w : World) (h0 : 0 ≤ x) (h1 : x ≤ 18446744073709551615) :
    Calls Tryd.prog 47 #[.int .u64 x] w fun e w' => e = .returned (.int .i64 (Lib.bitLen x.toNat)) ∧ w' = w := Any.bits_Len64 Tryd.lays129 x w h0 h1
def Tryd.lays264_ren : Go.Shelf.Ren := ⟨fun | 264 => 83 | n => n, fun | 53 => 22 | 46 => 68 | n => n, fun | n => n⟩
theorem Tryd.lays264 : Go.Proofs.Lays.n264 Tryd.prog Tryd.lays264_ren := {
  mixed := by kernel_rfl
  f264 := Tryd.func83.trans (congrArg some (by kernel_rfl))
  t46 := Tryd.underlying68
  a46 := Tryd.isAgg68
  z46 := Tryd.sizeOf68
  v46 := Tryd.zeroValue68
  t53 := Tryd.underlying22
  a53 := Tryd.isAgg22
  z53 := Tryd.sizeOf22
  v53 := Tryd.zeroValue22 }
open Go.RowKit Go.Lib in
theorem Tryd.bits_Mul64 (x y : Nat) (hx : x < 18446744073709551616) (hy : y < 18446744073709551616) (w : World) :
    Calls Tryd.prog 83 #[.int .u64 x, .int .u64 y] w fun e w' => e = .returned (.tuple #[.int .u64 ((x * y / 18446744073709551616 : Nat) : Int), .int .u64 ((x * y % 18446744073709551616 : Nat) : Int)]) ∧ w' = w := Any.bits_Mul64 Tryd.lays264 x y hx hy w
end Go.Proofs

set_option maxRecDepth 20000
set_option linter.unusedVariables false
set_option linter.unusedSectionVars false
set_option linter.unusedSimpArgs false
namespace Go.Proofs.YtkefmapcaggefaaDoor
open Go.RowKit

/-- how many words without noughts at the end -/
def sizeL (x : Nat → Int) : Nat → Nat
  | 0 => 0
  | n + 1 => if x n = 0 then sizeL x n else n + 1

theorem sizeL_le (x : Nat → Int) (n : Nat) : sizeL x n ≤ n := by
  induction n with
  | zero => simp [sizeL]
  | succ n ih => simp only [sizeL]; split <;> omega

theorem ret_int {k : IntKind} {a b : Int} (h : a = b) : Ending.returned (.int k a) = .returned (.int k b) := by rw [h]

set_option maxHeartbeats 400000 in
theorem size_any (b off n c : Nat) (x : Nat → Int) (w : World) (hn : n < 9223372036854775808) (hc : ∀ i, i < n → w.cell? ⟨b, off + i, none⟩ = some (.int .u64 (x i))) :
    Calls Tryd.prog 46 #[.slice (some ⟨b, off, none⟩) n c] w fun e w' => e = .returned (.int .i64 (sizeL x n)) ∧ w' = w := by
  go_enter Tryd.func46, Tryd.ntmps46
  go_wp2
  go_loop [3] (fun t => ∃ k : Nat, k ≤ n ∧ sizeL x k = sizeL x n ∧ t = .int .i64 k) (fun t => (intOf t).toNat)
  case atStart => exact ⟨n, Nat.le_refl _, rfl, rfl⟩
  case round =>
    obtain ⟨k, hk, hs, rfl⟩ := hrel
    by_cases h0 : k = 0
    · subst h0
      go_wp2
      go_ret
      exact ⟨ret_int (by rw [← hs]; rfl), rfl⟩
    · obtain ⟨j, rfl⟩ : ∃ j, k = j + 1 := ⟨k - 1, by omega⟩
      have hcj := hc j (by omega)
      by_cases hz : x j = 0
      · have HS : Hid (sizeL x j = sizeL x n) := by
          have : sizeL x (j + 1) = sizeL x j := by simp [sizeL, hz]
          exact this.symm.trans hs
        clear hs
        go_wp2
        go_round
        case rel => exact ⟨j, by omega, HS.out, by go_num⟩
        case measure => simp [intOf]
      · have HS : Hid (((j : Int) + 1) = (sizeL x n : Nat)) := by
          have : sizeL x (j + 1) = j + 1 := by simp [sizeL, hz]
          show _ = _
          rw [← hs, this]; omega
        clear hs
        go_wp2
        go_ret
        exact ⟨ret_int (by exact HS.out), rfl⟩

set_option maxHeartbeats 400000 in
theorem size_nil (w : World) :
    Calls Tryd.prog 46 #[.slice none 0 0] w fun e w' => e = .returned (.int .i64 0) ∧ w' = w := by
  go_enter Tryd.func46, Tryd.ntmps46
  go_wp2
  go_loop [3] (fun t => t = .int .i64 0) (fun t => (intOf t).toNat)
  case atStart => rfl
  case round =>
    subst hrel
    go_wp2
    go_ret
    exact ⟨rfl, rfl⟩

/-- how many bits -/
def lenL (x : Nat → Int) (n : Nat) : Int := if sizeL x n = 0 then 0 else 64 * (sizeL x n : Int) - 64 + Lib.bitLen (x (sizeL x n - 1)).toNat

theorem bitLenAux_le : ∀ f x : Nat, Lib.bitLenAux f x ≤ f
  | 0, x => by simp [Lib.bitLenAux]
  | f + 1, x => by
    have := bitLenAux_le f (x / 2)
    simp only [Lib.bitLenAux]; split <;> omega
theorem bitLen64 (x : Nat) : Lib.bitLen x ≤ 64 := bitLenAux_le 64 x

set_option maxHeartbeats 400000 in
theorem len_any (b off n c : Nat) (x : Nat → Int) (w : World) (hn : n < 100000000) (hx : ∀ i, 0 ≤ x i ∧ x i ≤ 18446744073709551615) (hc : ∀ i, i < n → w.cell? ⟨b, off + i, none⟩ = some (.int .u64 (x i))) :
    Calls Tryd.prog 34 #[.slice (some ⟨b, off, none⟩) n c] w fun e w' => e = .returned (.int .i64 (lenL x n)) ∧ w' = w := by
  have hle := sizeL_le x n
  by_cases h0 : sizeL x n = 0
  · have HL : Hid (lenL x n = 0) := by show _ = _; simp [lenL, h0]
    have hs : Calls Tryd.prog 46 #[.slice (some ⟨b, off, none⟩) n c] w fun e w' => e = .returned (.int .i64 0) ∧ w' = w := by
      have := size_any b off n c x w (by omega) hc
      rw [h0] at this; exact this
    clear h0 hc hx
    go_enter Tryd.func34, Tryd.ntmps34
    go_wp2_with (go_at_call 46; refine hs.mono ?_; rintro e w' ⟨rfl, rfl⟩)
    go_ret
    exact ⟨ret_int HL.out.symm, rfl⟩
  · obtain ⟨j, hj⟩ : ∃ j, sizeL x n = j + 1 := ⟨sizeL x n - 1, by omega⟩
    have hs := size_any b off n c x w (by omega) hc
    have HL : Hid (lenL x n = 64 * (j : Int) + Lib.bitLen (x j).toNat) := by show _ = _; simp [lenL, hj]; omega
    rw [hj] at hs
    have hcj := hc j (by omega)
    have hb := hx j
    have hbl := bitLen64 (x j).toNat
    have hj' : j + 1 ≤ n := by omega
    clear h0 hc hx hj hle
    have hcl := Tryd.bits_Len64 (x j) w hb.1 hb.2
    generalize Lib.bitLen (x j).toNat = L at *
    go_enter Tryd.func34, Tryd.ntmps34
    go_wp2_with (first | (go_at_call 46; refine hs.mono ?_; rintro e w' ⟨rfl, rfl⟩) | (go_at_call 47; refine hcl.mono ?_; rintro e w' ⟨rfl, rfl⟩))
    go_ret
    exact ⟨ret_int (by rw [HL.out]; omega), rfl⟩
end Go.Proofs.YtkefmapcaggefaaDoor

namespace Go.Proofs.YtkefmapcaggefaaDoor
open Go.RowKit

def arrOf (f : Nat → Int) (n : Nat) : Array Value := ((List.range n).map fun i => Value.int .u64 (f i)).toArray
@[simp] theorem arrOf_size (f : Nat → Int) (n : Nat) : (arrOf f n).size = n := by simp [arrOf]
theorem arrOf_get (f : Nat → Int) (n i : Nat) (h : i < (arrOf f n).size) : (arrOf f n)[i]'h = .int .u64 (f i) := by simp [arrOf]
theorem arrOf_get? (f : Nat → Int) (n i : Nat) (h : i < n) : (arrOf f n)[i]? = some (.int .u64 (f i)) := by simp [arrOf, h]
theorem arrOf_set (f : Nat → Int) (n k : Nat) (v : Int) : (arrOf f n).setIfInBounds k (.int .u64 v) = arrOf (fun i => if i = k then v else f i) n := by
  apply Array.ext
  · simp
  · intro i h1 h2
    rw [Array.getElem_setIfInBounds]
    simp only [arrOf_get]
    by_cases h : k = i
    · subst h; simp
    · simp [h, Ne.symm h]; exact arrOf_get _ _ _ _
    simpa using h2
theorem arrOf_congr {f g : Nat → Int} {n : Nat} (h : ∀ i, i < n → f i = g i) : arrOf f n = arrOf g n := by
  apply Array.ext
  · simp
  · intro i h1 h2
    simp only [arrOf_get]
    rw [h i (by simpa using h1)]
theorem arrOf_of (cs : Array Value) (n : Nat) (f : Nat → Int) (hs : cs.size = n) (h : ∀ i, i < n → cs[i]? = some (.int .u64 (f i))) : cs = arrOf f n := by
  apply Array.ext
  · simp [hs]
  · intro i h1 h2
    rw [arrOf_get]
    have := h i (by omega)
    rw [Array.getElem?_eq_getElem h1] at this
    exact Option.some.inj this

theorem add64 (x y c : Int) (hx : 0 ≤ x) (hy : 0 ≤ y) (hc0 : 0 ≤ c) (hc : c ≤ 1) (w : World) : (callFunc 42 #[.int .u64 x, .int .u64 y, .int .u64 c]).run Tryd.prog w =
    .ok (.value (.tuple #[.int .u64 ((x + y + c) % 18446744073709551616), .int .u64 ((x + y + c) / 18446744073709551616)])) w := by
  rw [run_callFunc_extern Tryd.func42 (by kernel_rfl) (by kernel_rfl) (by kernel_rfl) (e := add64Entry) (by kernel_rfl), run_add64 x y c hx hy hc0 hc]
  rfl

def sub64E : Array Value → Sem Value := fun args => do
  let (x, y, b) ← Extern.MathBitsCarry.three "Sub64" args
  pure (Extern.MathBitsCarry.pair ((x + Extern.MathBitsCarry.m64 - y - b) % Extern.MathBitsCarry.m64) (if x < y + b then 1 else 0))
theorem run_sub64E (x y b : Nat) (hb : b ≤ 1) (w : World) :
    (sub64E #[.int .u64 x, .int .u64 y, .int .u64 b]).run Tryd.prog w =
      .ok (.tuple #[.int .u64 (((x + 18446744073709551616 - y - b) % 18446744073709551616 : Nat) : Int), .int .u64 ((if x < y + b then 1 else 0 : Nat) : Int)]) w := by
  have : b = 0 ∨ b = 1 := by omega
  rcases this with rfl | rfl <;> rfl
/-- what is borrowed -/
def bor (x y b : Int) : Int := if x < y + b then 1 else 0
theorem sub64 (x y b : Int) (hx : 0 ≤ x) (hy : 0 ≤ y) (hy' : y < 18446744073709551616) (hb0 : 0 ≤ b) (hb : b ≤ 1) (w : World) : (callFunc 49 #[.int .u64 x, .int .u64 y, .int .u64 b]).run Tryd.prog w =
    .ok (.value (.tuple #[.int .u64 ((x - y - b) % 18446744073709551616), .int .u64 (bor x y b)])) w := by
  obtain ⟨x, rfl⟩ := Int.eq_ofNat_of_zero_le hx
  obtain ⟨y, rfl⟩ := Int.eq_ofNat_of_zero_le hy
  obtain ⟨b, rfl⟩ := Int.eq_ofNat_of_zero_le hb0
  have e1 : (((x + 18446744073709551616 - y - b) % 18446744073709551616 : Nat) : Int) = ((x : Int) - y - b) % 18446744073709551616 := by omega
  have e2 : ((if x < y + b then 1 else 0 : Nat) : Int) = bor x y b := by unfold bor; split <;> split <;> omega
  rw [run_callFunc_extern Tryd.func49 (by kernel_rfl) (by kernel_rfl) (by kernel_rfl) (e := sub64E) (by kernel_rfl), run_sub64E x y b (by omega), ← e1, ← e2]
  rfl
end Go.Proofs.YtkefmapcaggefaaDoor

namespace Go.Proofs.YtkefmapcaggefaaDoor
open Go.RowKit
attribute [local go_sem ↓] Go.wp_at_zero Go.wp_at_succ
theorem setCell_drewN (w : World) (n : Nat) (a : Addr) (v : Value) : (w.drewN n).setCell a v = (w.setCell a v).drewN n := rfl
theorem alloc_drewN (w : World) (n : Nat) (o : Obj) : (w.drewN n).alloc o = (w.alloc o).drewN n := rfl
attribute [local go_sem] setCell_drewN alloc_drewN

/-- the carry into word k, and the sum's words -/
def carryW (x y : Nat → Int) : Nat → Int
  | 0 => 0
  | k + 1 => (x k + y k + carryW x y k) / 18446744073709551616
def sumW (x y : Nat → Int) (k : Nat) : Int := (x k + y k + carryW x y k) % 18446744073709551616

def Words (x : Nat → Int) : Prop := ∀ i, 0 ≤ x i ∧ x i ≤ 18446744073709551615
theorem carryW_01 {x y : Nat → Int} (hx : Words x) (hy : Words y) (k : Nat) : 0 ≤ carryW x y k ∧ carryW x y k ≤ 1 := by
  induction k with
  | zero => simp [carryW]
  | succ k ih => have := hx k; have := hy k; simp only [carryW]; omega
/-- the borrow from word k, and the difference's words -/
def borW (x y : Nat → Int) : Nat → Int
  | 0 => 0
  | k + 1 => bor (x k) (y k) (borW x y k)
def difW (x y : Nat → Int) (k : Nat) : Int := (x k - y k - borW x y k) % 18446744073709551616
theorem bor_01 (x y b : Int) : 0 ≤ bor x y b ∧ bor x y b ≤ 1 := by unfold bor; split <;> omega
theorem borW_01 (x y : Nat → Int) (k : Nat) : 0 ≤ borW x y k ∧ borW x y k ≤ 1 := by
  cases k with
  | zero => simp [borW]
  | succ k => exact bor_01 _ _ _

theorem below_alloc4 (w : World) (o1 o2 o3 o4 : Obj) (m : Nat) : Below w.heap.size w ((((((w.alloc o1).alloc o2).alloc o3).alloc o4).drewN m)) := by
  have h := ((((Below.refl w.heap.size w).alloc (Nat.le_refl _) o1).alloc (by simp) o2).alloc (by simp; omega) o3).alloc (by simp; omega) o4
  exact ⟨h.os, h.tape, h.output, h.size, h.block⟩
theorem below_alloc3 (w : World) (o1 o2 o3 : Obj) (m : Nat) : Below w.heap.size w (((((w.alloc o1).alloc o2).alloc o3).drewN m)) := by
  have h := (((Below.refl w.heap.size w).alloc (Nat.le_refl _) o1).alloc (by simp) o2).alloc (by simp; omega) o3
  exact ⟨h.os, h.tape, h.output, h.size, h.block⟩
theorem set_next {ss : Array Value} {k : Nat} {f : Nat → Int} (hss : ∀ j h, ss[j]'h = Value.int .u64 (if j < k then f j else 0)) (j : Nat) (h : j < (ss.setIfInBounds k (.int .u64 (f k))).size) : (ss.setIfInBounds k (.int .u64 (f k)))[j]'h = Value.int .u64 (if j < k + 1 then f j else 0) := by
  have h' : j < ss.size := by simpa using h
  rw [Array.getElem_setIfInBounds]
  by_cases e : k = j
  · subst e; simp
  · rw [if_neg e, hss j h']
    by_cases e2 : j < k
    · simp [e2, Nat.lt_succ_of_lt e2]
    · simp [e2, show ¬ j < k + 1 by omega]
  exact h'





end Go.Proofs.YtkefmapcaggefaaDoor

namespace Go.Proofs.YtkefmapcaggefaaDoor
open Go.RowKit
attribute [local go_sem] setCell_drewN alloc_drewN

set_option maxHeartbeats 1000000 in
theorem div64_0 (lo y : Int) (w : World) (hl : 0 ≤ lo ∧ lo ≤ 18446744073709551615) (hy : 0 < y ∧ y ≤ 18446744073709551615) :
    Calls Tryd.prog 78 #[.int .u64 0, .int .u64 lo, .int .u64 y] w fun e w' => e = .returned (.tuple #[.int .u64 (lo / y), .int .u64 (lo % y)]) ∧ ∃ m, w' = w.drewN m := by
  have hy0 : ¬ y = 0 := by omega
  go_enter Tryd.func78, Tryd.ntmps78
  go_wp2
  go_quiet (fail)
  go_wp2
  go_ret2
  exact ⟨rfl, _, rfl⟩

/-- the rest ahead of word n - 1 - j, and the quotient's words -/
def remJ (x : Nat → Int) (d : Int) (n : Nat) : Nat → Int
  | 0 => 0
  | j + 1 => (remJ x d n j * 18446744073709551616 + x (n - 1 - j)) % d
def quoW (x : Nat → Int) (d : Int) (n j : Nat) : Int := (remJ x d n (n - 1 - j) * 18446744073709551616 + x j) / d
theorem remJ_bd (x : Nat → Int) (d : Int) (n j : Nat) (hd : 0 < d) : 0 ≤ remJ x d n j ∧ remJ x d n j < d := by
  cases j with
  | zero => exact ⟨Int.le_refl _, hd⟩
  | succ j => exact ⟨Int.emod_nonneg _ (by omega), Int.emod_lt_of_pos _ hd⟩
theorem bcell {W w1 : World} (hb : Below W.heap.size W w1) : (∀ b o, b < W.heap.size → w1.cell? ⟨b, o, none⟩ = W.cell? ⟨b, o, none⟩) ∧ (∀ b o, b < W.heap.size → w1.frozen? ⟨b, o, none⟩ = W.frozen? ⟨b, o, none⟩) :=
  ⟨fun b o h => hb.cell (p := ⟨b, o, none⟩) h, fun b o h => hb.frozen (p := ⟨b, o, none⟩) h⟩


end Go.Proofs.YtkefmapcaggefaaDoor

namespace Go.Proofs.YtkefmapcaggefaaDoor
open Go.RowKit

/-- the slice (a, n, c) holds the words x; all further words of x are 0 -/
def Num (w : World) (a : Option Addr) (n c : Nat) (x : Nat → Int) : Prop :=
  n ≤ c ∧ c ≤ maxLen ∧ Words x ∧ (∀ i, n ≤ i → x i = 0) ∧ ((a = none ∧ c = 0) ∨ ∃ b off, a = some ⟨b, off, none⟩ ∧ b < w.heap.size ∧ ∀ i, i < n → w.cell? ⟨b, off + i, none⟩ = some (.int .u64 (x i)))
theorem Num.next {w w' : World} {a : Option Addr} {n c : Nat} {x : Nat → Int} (h : Num w a n c x) (hb : Below w.heap.size w w') : Num w' a n c x := by
  obtain ⟨h1, h2, h3, h4, h5⟩ := h
  refine ⟨h1, h2, h3, h4, ?_⟩
  rcases h5 with h5 | ⟨b, off, h6, h7, h8⟩
  · exact Or.inl h5
  · exact Or.inr ⟨b, off, h6, Nat.lt_of_lt_of_le h7 hb.size, fun i hi => (hb.cell (p := ⟨b, off + i, none⟩) h7).trans (h8 i hi)⟩
theorem Num.drewN {w : World} {a : Option Addr} {n c : Nat} {x : Nat → Int} (h : Num w a n c x) (m : Nat) : Num (w.drewN m) a n c x := h

/-- -1, 0, 1: the words below n, the highest first -/
def cmpL (x y : Nat → Int) : Nat → Int
  | 0 => 0
  | n + 1 => if x n < y n then -1 else if y n < x n then 1 else cmpL x y n

theorem Tryd.info22 : (Tryd.prog.info? 22).map (fun i => (i.zero, i.size, i.bytes)) = some (some (.int .u64 0), 1, 8) := by kernel_rfl
end Go.Proofs.YtkefmapcaggefaaDoor

namespace Go.Proofs.YtkefmapcaggefaaDoor
open Go.RowKit

theorem made_zero (k : Nat) : madeCells (Value.int .u64 0).cells k = arrOf (fun _ => 0) k := by
  apply Array.ext
  · simp [madeCells]
  · intro i h1 h2
    rw [arrOf_get]
    simp [madeCells, Value.cells, Nat.mod_one]
theorem make_any (L : Int) (k : Nat) (hL : L = k) (hk : k < 8589934592) (w : World) : (Instr.makeSlice 67 (.int .i64 L) (.int .i64 L)).run Tryd.prog w = .ok (.slice (some ⟨w.heap.size, 0, none⟩) k k) (w.alloc (.cells (arrOf (fun _ => 0) k) 22)) := by
  obtain ⟨i0, hi, hz0, hz1, hz2⟩ := info_parts Tryd.info22
  rw [run_make w 67 22 i0 (.int .u64 0) Tryd.underlying67 hi hz0 .i64 .i64 L L (by omega) (by omega) (by rw [hz2]; omega) (by omega)]
  have e1 : L.toNat = k := by omega
  rw [e1, hz1, Nat.mul_one, made_zero]
theorem num_of_block {w : World} {k : Nat} {x : Nat → Int} {ss : Array Value} (hk : k < 8589934592) (hx : Words x) (hz : ∀ i, k ≤ i → x i = 0) (hsz : ss.size = k) (hss : ∀ j h, ss[j]'h = Value.int .u64 (x j)) : Num (w.alloc (.cells ss 22)) (some ⟨w.heap.size, 0, none⟩) k k x := by
  refine ⟨Nat.le_refl _, by unfold maxLen; omega, hx, hz, Or.inr ⟨w.heap.size, 0, rfl, by simp, fun i hi => ?_⟩⟩
  rw [Nat.zero_add, World.cell?_alloc_new, Array.getElem?_eq_getElem (by omega), hss i (by omega)]
theorem below1 (w : World) (o : Obj) : Below w.heap.size w (w.alloc o) := (Below.refl _ _).alloc (Nat.le_refl _) _

theorem sumW_words (x y : Nat → Int) : Words (sumW x y) := fun i => ⟨Int.emod_nonneg _ (by decide), by have := Int.emod_lt_of_pos (x i + y i + carryW x y i) (b := 18446744073709551616) (by decide); unfold sumW; omega⟩
theorem difW_words (x y : Nat → Int) : Words (difW x y) := fun i => ⟨Int.emod_nonneg _ (by decide), by have := Int.emod_lt_of_pos (x i - y i - borW x y i) (b := 18446744073709551616) (by decide); unfold difW; omega⟩
end Go.Proofs.YtkefmapcaggefaaDoor

namespace Go.Proofs.YtkefmapcaggefaaDoor
open Go.RowKit
attribute [local go_sem ↓] Go.wp_at_zero Go.wp_at_succ
attribute [local go_sem] setCell_drewN alloc_drewN

/-- 'or' of two words -/
def orW (a b : Int) : Int := bits BinOp.or IntKind.u64 a b
theorem orW_eq (a b : Int) (ha : 0 ≤ a ∧ a ≤ 18446744073709551615) (hb : 0 ≤ b ∧ b ≤ 18446744073709551615) : orW a b = ((a.toNat ||| b.toNat : Nat) : Int) := u64_or a b ha.1 (by omega) hb.1 (by omega)
theorem orW_comm (a b : Int) (ha : 0 ≤ a ∧ a ≤ 18446744073709551615) (hb : 0 ≤ b ∧ b ≤ 18446744073709551615) : orW a b = orW b a := by
  rw [orW_eq a b ha hb, orW_eq b a hb ha, Nat.or_comm]
theorem orW_zero (a : Int) (ha : 0 ≤ a ∧ a ≤ 18446744073709551615) : orW a 0 = a := by
  rw [orW_eq a 0 ha (by decide)]; simp; omega
theorem zero_orW (a : Int) (ha : 0 ≤ a ∧ a ≤ 18446744073709551615) : orW 0 a = a := by
  rw [orW_eq 0 a (by decide) ha]; simp; omega
theorem orW_word (a b : Int) (ha : 0 ≤ a ∧ a ≤ 18446744073709551615) (hb : 0 ≤ b ∧ b ≤ 18446744073709551615) : 0 ≤ orW a b ∧ orW a b ≤ 18446744073709551615 := by
  rw [orW_eq a b ha hb]
  have : a.toNat ||| b.toNat < 2 ^ 64 := Nat.or_lt_two_pow (by omega) (by omega)
  omega
theorem wrap_word (a : Int) : 0 ≤ IntKind.u64.wrap a ∧ IntKind.u64.wrap a ≤ 18446744073709551615 := by
  simp only [IntKind.wrap, IntKind.bits, IntKind.signed]
  have h1 := Int.emod_nonneg a (b := 18446744073709551616) (by decide)
  have h2 := Int.emod_lt_of_pos a (b := 18446744073709551616) (by decide)
  simp; omega
theorem wrap_id (a : Int) (ha : 0 ≤ a ∧ a ≤ 18446744073709551615) : IntKind.u64.wrap a = a := by
  simp only [IntKind.wrap, IntKind.bits, IntKind.signed]
  simp; omega
theorem div_word (a : Int) (e : Nat) (ha : 0 ≤ a ∧ a ≤ 18446744073709551615) : 0 ≤ a / 2 ^ e ∧ a / 2 ^ e ≤ 18446744073709551615 := by
  have hp : (0 : Int) < 2 ^ e := Int.pow_pos (by decide)
  have h1 := Int.ediv_nonneg ha.1 (Int.le_of_lt hp)
  have h2 := Int.ediv_le_self (2 ^ e) ha.1
  omega

/-- the bits that come in from the word below -/
def lowp (x : Nat → Int) (q r j : Nat) : Int := if q + 1 ≤ j ∧ 0 < r then x (j - q - 1) / 2 ^ (64 - r) else 0
/-- the words of x times 2^(64 q + r) -/
def finL (x : Nat → Int) (q r j : Nat) : Int := if q ≤ j then orW (lowp x q r j) (IntKind.u64.wrap (x (j - q) * 2 ^ r)) else 0
theorem lowp_word {x : Nat → Int} (hx : Words x) (q r j : Nat) : 0 ≤ lowp x q r j ∧ lowp x q r j ≤ 18446744073709551615 := by
  unfold lowp; split
  · exact div_word _ _ (hx _)
  · decide
theorem finL_words {x : Nat → Int} (hx : Words x) (q r : Nat) : Words (finL x q r) := fun j => by
  unfold finL; split
  · exact orW_word _ _ (lowp_word hx q r j) (wrap_word _)
  · decide
end Go.Proofs.YtkefmapcaggefaaDoor

namespace Go.Proofs.YtkefmapcaggefaaDoor
open Go.RowKit

/-- the words of x divided by 2^(64 q + r) -/
def shrW (x : Nat → Int) (q r j : Nat) : Int := if r = 0 then x (q + j) else orW (x (q + j) / 2 ^ r) (IntKind.u64.wrap (x (q + j + 1) * 2 ^ (64 - r)))
theorem shrW_words {x : Nat → Int} (hx : Words x) (q r : Nat) : Words (shrW x q r) := fun j => by
  unfold shrW; split
  · exact hx _
  · exact orW_word _ _ (div_word _ _ (hx _)) (wrap_word _)
theorem shrW_zero {x : Nat → Int} {n : Nat} (zx : ∀ i, n ≤ i → x i = 0) (q r j : Nat) (hj : n ≤ q + j) : shrW x q r j = 0 := by
  unfold shrW; split
  · exact zx _ hj
  · rw [zx _ hj, zx (q + j + 1) (by omega), Int.zero_mul, Int.zero_ediv, wrap_id 0 (by decide), orW_zero 0 (by decide)]
def wl (f : Nat → Int) (k : Nat) : List Value := (List.range k).map fun i => Value.int .u64 (f i)
end Go.Proofs.YtkefmapcaggefaaDoor

namespace Go.Proofs.YtkefmapcaggefaaDoor
open Go.RowKit

/-- the words below q -/
def lowW (x : Nat → Int) (q i : Nat) : Int := if i < q then x i else 0
theorem lowW_words {x : Nat → Int} (hx : Words x) (q : Nat) : Words (lowW x q) := fun i => by unfold lowW; split; exact hx i; decide
set_option maxHeartbeats 1000000 in
def oneW (c : Int) (j : Nat) : Int := if j = 0 then c else 0
theorem num_one (w : World) (c : Int) (hc : 0 ≤ c ∧ c ≤ 18446744073709551615) : Num (w.alloc (.cells #[.int .u64 c] 22)) (some ⟨w.heap.size, 0, none⟩) 1 1 (oneW c) :=
  num_of_block (by omega) (fun i => by unfold oneW; split; exact hc; decide) (fun i hi => by unfold oneW; rw [if_neg (by omega)]) rfl (fun j hj => match j, hj with | 0, _ => rfl)

end Go.Proofs.YtkefmapcaggefaaDoor

namespace Go.Proofs.YtkefmapcaggefaaDoor

/-- the value of the n lowest words -/
def val (x : Nat → Int) : Nat → Int
  | 0 => 0
  | n + 1 => val x n + x n * 18446744073709551616 ^ n
theorem val_congr {x y : Nat → Int} : ∀ n, (∀ i, i < n → x i = y i) → val x n = val y n
  | 0, _ => rfl
  | n + 1, h => by simp only [val]; rw [val_congr n fun i hi => h i (by omega), h n (by omega)]
theorem pw_pos (n : Nat) : (0 : Int) < 18446744073709551616 ^ n := Int.pow_pos (by decide)
theorem val_bd {x : Nat → Int} (hx : ∀ i, 0 ≤ x i ∧ x i ≤ 18446744073709551615) : ∀ n, 0 ≤ val x n ∧ val x n < 18446744073709551616 ^ n
  | 0 => by simp [val]
  | n + 1 => by
    have ih := val_bd hx n
    have hb := hx n
    have hp := pw_pos n
    simp only [val]
    have h1 : 0 ≤ x n * 18446744073709551616 ^ n := Int.mul_nonneg hb.1 (Int.le_of_lt hp)
    have h2 : x n * 18446744073709551616 ^ n ≤ 18446744073709551615 * 18446744073709551616 ^ n := Int.mul_le_mul_of_nonneg_right hb.2 (Int.le_of_lt hp)
    rw [Int.pow_succ]
    omega
theorem val_set (x : Nat → Int) (p : Nat) (v : Int) : ∀ n, p < n → val (fun i => if i = p then v else x i) n = val x n + (v - x p) * 18446744073709551616 ^ p
  | 0, h => by omega
  | n + 1, h => by
    simp only [val]
    by_cases e : n = p
    · subst e
      rw [if_pos rfl, val_congr (y := x) n fun i hi => if_neg (by omega), Int.sub_mul]; omega
    · rw [if_neg e, val_set x p v n (by omega)]; omega
/-- words are told by the value -/
theorem val_inj {x y : Nat → Int} (hx : ∀ i, 0 ≤ x i ∧ x i ≤ 18446744073709551615) (hy : ∀ i, 0 ≤ y i ∧ y i ≤ 18446744073709551615) : ∀ n, val x n = val y n → ∀ i, i < n → x i = y i
  | 0, _, i, hi => by omega
  | n + 1, h, i, hi => by
    simp only [val] at h
    have bx := val_bd hx n
    have b_y := val_bd hy n
    have hp := pw_pos n
    have e1 : (val x n + x n * 18446744073709551616 ^ n) / 18446744073709551616 ^ n = x n := by
      rw [Int.add_mul_ediv_right _ _ (Int.ne_of_gt hp), Int.ediv_eq_zero_of_lt bx.1 bx.2]; omega
    have e2 : (val y n + y n * 18446744073709551616 ^ n) / 18446744073709551616 ^ n = y n := by
      rw [Int.add_mul_ediv_right _ _ (Int.ne_of_gt hp), Int.ediv_eq_zero_of_lt b_y.1 b_y.2]; omega
    have e3 : x n = y n := by rw [← e1, ← e2, h]
    by_cases e : i = n
    · subst e; exact e3
    · rw [e3] at h
      exact val_inj hx hy n (by omega) i (by omega)
theorem val_more {x : Nat → Int} {n : Nat} (hz : ∀ i, n ≤ i → x i = 0) : ∀ m, n ≤ m → val x m = val x n
  | 0, h => by obtain rfl : n = 0 := by omega
               rfl
  | m + 1, h => by
    by_cases e : n = m + 1
    · rw [e]
    · simp only [val]; rw [val_more hz m (by omega), hz m (by omega)]; omega

/-- one word's product, the word that lies there and the carry: what is laid and what is carried -/
theorem mul_step (a b z c : Int) (ha : 0 ≤ a ∧ a ≤ 18446744073709551615) (hb : 0 ≤ b ∧ b ≤ 18446744073709551615) (hz : 0 ≤ z ∧ z ≤ 18446744073709551615) (hc : 0 ≤ c ∧ c ≤ 18446744073709551615) :
    ((a * b % 18446744073709551616 + z) % 18446744073709551616 + c) % 18446744073709551616 + (a * b / 18446744073709551616 + (a * b % 18446744073709551616 + z) / 18446744073709551616 + ((a * b % 18446744073709551616 + z) % 18446744073709551616 + c) / 18446744073709551616) * 18446744073709551616 = a * b + z + c ∧
    0 ≤ a * b / 18446744073709551616 + (a * b % 18446744073709551616 + z) / 18446744073709551616 ∧ a * b / 18446744073709551616 + (a * b % 18446744073709551616 + z) / 18446744073709551616 ≤ 18446744073709551615 ∧
    0 ≤ a * b / 18446744073709551616 + (a * b % 18446744073709551616 + z) / 18446744073709551616 + ((a * b % 18446744073709551616 + z) % 18446744073709551616 + c) / 18446744073709551616 ∧ a * b / 18446744073709551616 + (a * b % 18446744073709551616 + z) / 18446744073709551616 + ((a * b % 18446744073709551616 + z) % 18446744073709551616 + c) / 18446744073709551616 ≤ 18446744073709551615 := by
  have h1 : 0 ≤ a * b := Int.mul_nonneg ha.1 hb.1
  have h2 : a * b ≤ 18446744073709551615 * 18446744073709551615 := Int.mul_le_mul ha.2 hb.2 hb.1 (by decide)
  generalize a * b = P at *
  omega
end Go.Proofs.YtkefmapcaggefaaDoor

namespace Go.Proofs.YtkefmapcaggefaaDoor
open Go.RowKit
attribute [local go_sem] setCell_drewN alloc_drewN

theorem mul64 (x y : Int) (hx : 0 ≤ x ∧ x ≤ 18446744073709551615) (hy : 0 ≤ y ∧ y ≤ 18446744073709551615) (w : World) :
    Calls Tryd.prog 83 #[.int .u64 x, .int .u64 y] w fun e w' => e = .returned (.tuple #[.int .u64 (x * y / 18446744073709551616), .int .u64 (x * y % 18446744073709551616)]) ∧ w' = w := by
  obtain ⟨a, rfl⟩ := Int.eq_ofNat_of_zero_le hx.1
  obtain ⟨b, rfl⟩ := Int.eq_ofNat_of_zero_le hy.1
  have h := Tryd.bits_Mul64 a b (by omega) (by omega) w
  rw [Int.natCast_ediv, Int.natCast_emod, Int.natCast_mul] at h
  exact h
theorem add64z (x y : Int) (hx : 0 ≤ x) (hy : 0 ≤ y) (w : World) : (callFunc 42 #[.int .u64 x, .int .u64 y, .int .u64 0]).run Tryd.prog w =
    .ok (.value (.tuple #[.int .u64 ((x + y) % 18446744073709551616), .int .u64 ((x + y) / 18446744073709551616)])) w := by
  simpa using add64 x y 0 hx hy (Int.le_refl 0) (by decide) w

end Go.Proofs.YtkefmapcaggefaaDoor

namespace Go.Proofs.YtkefmapcaggefaaDoor
open Go.RowKit
attribute [local go_sem] setCell_drewN alloc_drewN

theorem upd_words {z : Nat → Int} {p : Nat} {v : Int} (hz : Words z) (hv : 0 ≤ v ∧ v ≤ 18446744073709551615) : Words (fun j => if j = p then v else z j) := fun i => by
  show 0 ≤ (if i = p then v else z i) ∧ (if i = p then v else z i) ≤ _
  split
  · exact hv
  · exact hz i
end Go.Proofs.YtkefmapcaggefaaDoor

namespace Go.Proofs.YtkefmapcaggefaaDoor
open Go.RowKit

/-- a world of the class p -/
structure Wd (p : World → Prop) where
  w : World
  h : p w

theorem wp_region_wd {P : Program} (p : World → Prop) {id : Nat} {Q : Exit → Act → World → Prop} {a : Act} {w : World} {l : List Oper} (hm : P.follows .mixedOrders = true) (hB : Region.lexB .any l.toArray = true) (hp : p w.drew)
    (h : wpQuiet P l.toArray (fun w' => ∃ t : Wd p, w' = t.w) (fun a' => ∀ w', (∃ t : Wd p, w' = t.w) → Q .normal a' w') l a) : (Code.region id l.toArray true).wp P Q a w :=
  wp_region_quiet (C := fun w' => ∃ t : Wd p, w' = t.w) hm hB ⟨⟨_, hp⟩, rfl⟩ (by simpa using h)

theorem calls_wd {P : Program} {p : World → Prop} {f : FuncId} {args : Array Value} {v : Value} (t : Wd p) (hp : ∀ w w', p w → Below w.heap.size w w' → p w')
    (h : Calls P f args t.w fun e w' => e = .returned v ∧ Below t.w.heap.size t.w w') : Calls P f args t.w fun e w'' => e = .returned v ∧ ∃ t' : Wd p, w'' = t'.w :=
  h.mono fun _ w' ⟨h1, h2⟩ => ⟨h1, ⟨w', hp _ _ t.h h2⟩, rfl⟩
end Go.Proofs.YtkefmapcaggefaaDoor

namespace Go.Proofs.YtkefmapcaggefaaDoor
open Go.RowKit

/-- the words of x lie in block g -/
def HasN (g n : Nat) (x : Nat → Int) (w : World) : Prop := g < w.heap.size ∧ ∀ i, i < n → w.cell? ⟨g, i, none⟩ = some (.int .u64 (x i))
theorem HasN.next {g n : Nat} {x : Nat → Int} {w w' : World} (h : HasN g n x w) (hb : Below w.heap.size w w') : HasN g n x w' :=
  ⟨Nat.lt_of_lt_of_le h.1 hb.size, fun i hi => (hb.cell (p := ⟨g, i, none⟩) h.1).trans (h.2 i hi)⟩
theorem HasN.of_alloc (w : World) (cs : Array Value) (t : TypeId) (n : Nat) (x : Nat → Int) (h : ∀ i, i < n → cs[i]? = some (.int .u64 (x i))) : HasN w.heap.size n x (w.alloc (.cells cs t)) :=
  ⟨by simp, fun i hi => by rw [World.cell?_alloc_new]; exact h i hi⟩
theorem HasN.num {g n c m : Nat} {x : Nat → Int} {w : World} (h : HasN g m x w) (hx : Words x) (hn : n ≤ m) (hc : n ≤ c) (hcm : c ≤ maxLen) : Num w (some ⟨g, 0, none⟩) n c (lowW x n) :=
  ⟨hc, hcm, lowW_words hx n, fun i hi => by unfold lowW; rw [if_neg (by omega)], Or.inr ⟨g, 0, rfl, h.1, fun i hi => by rw [Nat.zero_add, h.2 i (by omega)]; unfold lowW; rw [if_pos hi]⟩⟩

/-- all the blocks of the list stand; nothing elder than the call has turned -/
def KP (w0 : World) (l : List (Nat × Nat × (Nat → Int))) (w : World) : Prop := Below w0.heap.size w0 w ∧ ∀ e ∈ l, HasN e.1 e.2.1 e.2.2 w
theorem KP.next {w0 : World} {l : List (Nat × Nat × (Nat → Int))} {w w' : World} (h : KP w0 l w) (hb : Below w.heap.size w w') : KP w0 l w' := ⟨h.1.trans (hb.mono h.1.size), fun e he => (h.2 e he).next hb⟩
theorem KP.drew {w0 : World} {l : List (Nat × Nat × (Nat → Int))} {w : World} (h : KP w0 l w) : KP w0 l w.drew := ⟨h.1.drew, h.2⟩
theorem KP.alloc {w0 : World} {l : List (Nat × Nat × (Nat → Int))} {w : World} (h : KP w0 l w) (o : Obj) : KP w0 l (w.alloc o) := h.next (below1 w o)
theorem KP.setg {w0 : World} {l : List (Nat × Nat × (Nat → Int))} {w wg : World} (h : KP w0 l w) (hg : KP w0 l wg) (i : Nat) (v : Value) : KP w0 l (w.setCell ⟨wg.heap.size, i, none⟩ v) := by
  refine ⟨h.1.setCell hg.1.size v, fun e he => ?_⟩
  have h1 := h.2 e he
  have h2 := (hg.2 e he).1
  have hb : Below (e.1 + 1) w (w.setCell ⟨wg.heap.size, i, none⟩ v) := (Below.refl _ _).setCell (by show e.1 + 1 ≤ wg.heap.size; omega) v
  exact ⟨Nat.lt_of_lt_of_le h1.1 hb.size, fun j hj => (hb.cell (p := ⟨e.1, j, none⟩) (by show e.1 < e.1 + 1; omega)).trans (h1.2 j hj)⟩
theorem KP.cons {w0 : World} {l : List (Nat × Nat × (Nat → Int))} {w : World} (h : KP w0 l w) {g n : Nat} {x : Nat → Int} (hg : HasN g n x w) : KP w0 ((g, n, x) :: l) w := ⟨h.1, fun e he => by
  rcases List.mem_cons.1 he with rfl | he
  · exact hg
  · exact h.2 e he⟩
theorem KP.at {w0 : World} {l : List (Nat × Nat × (Nat → Int))} {w : World} (h : KP w0 l w) {g n : Nat} {x : Nat → Int} (hm : (g, n, x) ∈ l) : HasN g n x w := h.2 _ hm
theorem lt_alloc' {W w3 : World} {o : Obj} {n : Nat} (hb : Below n (W.alloc o) w3) : W.heap.size < w3.heap.size := by
  have h := hb.size
  have h2 : (W.alloc o).heap.size = W.heap.size + 1 := World.size_alloc W o
  omega
theorem KP.new {w0 : World} {l : List (Nat × Nat × (Nat → Int))} {w : World} (h : KP w0 l w) (cs : Array Value) (t : TypeId) (n : Nat) (x : Nat → Int) (hc : ∀ i, i < n → cs[i]? = some (.int .u64 (x i))) : KP w0 ((w.heap.size, n, x) :: l) (w.alloc (.cells cs t)) :=
  (h.alloc _).cons (HasN.of_alloc w cs t n x hc)
/-- n cells of a block that was made some time ago, written one by one -/
def putN (w : World) (g : Nat) (x : Nat → Int) : Nat → World
  | 0 => w
  | n + 1 => (putN w g x n).setCell ⟨g, n, none⟩ (.int .u64 (x n))
theorem putN_kp {w0 : World} {l : List (Nat × Nat × (Nat → Int))} {w wg : World} (h : KP w0 l w) (hg : KP w0 l wg) (x : Nat → Int) : ∀ n, KP w0 l (putN w wg.heap.size x n)
  | 0 => h
  | n + 1 => (putN_kp h hg x n).setg hg n _
theorem putN_size (w : World) (g : Nat) (x : Nat → Int) : ∀ n, w.heap.size ≤ (putN w g x n).heap.size
  | 0 => Nat.le_refl _
  | n + 1 => Nat.le_trans (putN_size w g x n) ((Below.refl 0 _).setCell (Nat.zero_le _) _ : Below 0 _ _).size
theorem putN_cell (w : World) (g N : Nat) (x : Nat → Int) (hc : ∀ i, i < N → (w.cell? ⟨g, i, none⟩).isSome = true) : ∀ n, n ≤ N → ∀ i, i < N → (putN w g x n).cell? ⟨g, i, none⟩ = if i < n then some (.int .u64 (x i)) else w.cell? ⟨g, i, none⟩
  | 0, _, i, _ => by rw [if_neg (by omega)]; rfl
  | n + 1, hn, i, hi => by
    have ih := putN_cell w g N x hc n (by omega)
    show ((putN w g x n).setCell ⟨g, n, none⟩ (.int .u64 (x n))).cell? ⟨g, i, none⟩ = _
    by_cases e : i = n
    · subst e
      rw [if_pos (by omega)]
      have := ih i hi
      rw [if_neg (by omega)] at this
      exact World.cell?_setCell_same' _ _ _ (by rw [this]; exact hc i hi)
    · have hne : (⟨g, n, none⟩ : Addr) ≠ ⟨g, i, none⟩ := by intro h; injection h with h1 h2; exact e h2.symm
      refine Eq.trans (World.cell?_setCell_other (h := hne) ..) ?_
      rw [ih i hi]
      by_cases e2 : i < n
      · rw [if_pos e2, if_pos (by omega)]
      · rw [if_neg e2, if_neg (by omega)]
theorem KP.put {w0 : World} {l : List (Nat × Nat × (Nat → Int))} {w wg : World} (h : KP w0 l w) (hg : KP w0 l wg) (hlt : wg.heap.size < w.heap.size) (x : Nat → Int) (n : Nat) (hc : ∀ i, i < n → (w.cell? ⟨wg.heap.size, i, none⟩).isSome = true) : KP w0 ((wg.heap.size, n, x) :: l) (putN w wg.heap.size x n) :=
  (putN_kp h hg x n).cons ⟨Nat.lt_of_lt_of_le hlt (putN_size w _ x n), fun i hi => by rw [putN_cell w wg.heap.size n x hc n (Nat.le_refl _) i hi, if_pos hi]⟩
end Go.Proofs.YtkefmapcaggefaaDoor
