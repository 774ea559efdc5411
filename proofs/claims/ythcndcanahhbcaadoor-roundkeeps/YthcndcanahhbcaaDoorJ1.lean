/-
  Texts that the proof leans on, joined: Shelf, Ref, Arr, Add, Div, Num, Radd, Left, Right, Cut, Val, Lmul, Tim, Wd, Kp, Nb.
-/
import Derived.Shelf.Small.Bits
import Derived.Shelf.Strconv.Itoa0
import Derived.Shelf.Bits.Mul64
import Derived.Ground.Names2Prog
import Derived.Shelf.Slices.SearchI
import Derived.Test.YthcndcanahhbcaaDoorProg
import Derived.Test.YthcndcanahhbcaaDoorRows
import Derived.WalkKit
import Derived.WalkSpells
import Derived.WalkLawsBesides
import Derived.Laws.Externs
import Derived.Deep.RegionHeld3
import Derived.Deep.DrawnRows
import Derived.BigQuiet
import Derived.Deep.AppendLies
import Derived.BigRegion
import Derived.Deep.Cut
import Derived.Deep.CutRange
import Derived.Laws.IdiomCopy
import Derived.Laws.CopyRow
import Derived.Deep.WholeRow
/-
  DERIVED: THE SHELF's CONTRACTS AT THIS DUMP, IN PLAIN WORDS (tools/lay-plain.mjs out of 'TrydShelf.lean', which tools/lay-shelf.mjs wrote): THE SAME DECLARATIONS UNDER THE SAME NAMES: 'import', 'namespace', 'open', 'def', 'theorem' AND NOTHING ELSE: no command of the shelf's: FOR A HAND-IN. Each laying: the table of numbers ('.._ren') and one theorem, a field a fact of the dump's own or the kernel's comparison; each contract: ONE APPLICATION.
-/
namespace Go.Proofs
open Go.Shelf
def Tryd.lays134_ren : Go.Shelf.Ren := ⟨fun | 134 => 105 | 129 => 55 | n => n, fun | 53 => 25 | 3 => 3 | 4 => 4 | 46 => 81 | 5 => 5 | 9 => 9 | n => n, fun | n => n⟩
theorem Tryd.lays134 : Go.Proofs.Lays.n134 Tryd.prog Tryd.lays134_ren := {
  mixed := by kernel_rfl
  f129 := Tryd.func55.trans (congrArg some (by kernel_rfl))
  f134 := Tryd.func105.trans (congrArg some (by kernel_rfl))
  t3 := Tryd.underlying3
  a3 := Tryd.isAgg3
  z3 := Tryd.sizeOf3
  v3 := Tryd.zeroValue3
  t4 := Tryd.underlying4
  a4 := Tryd.isAgg4
  z4 := Tryd.sizeOf4
  v4 := Tryd.zeroValue4
  t5 := Tryd.underlying5
  a5 := Tryd.isAgg5
  z5 := Tryd.sizeOf5
  v5 := Tryd.zeroValue5
  t9 := Tryd.underlying9
  a9 := Tryd.isAgg9
  z9 := Tryd.sizeOf9
  v9 := Tryd.zeroValue9
  t46 := Tryd.underlying81
  a46 := Tryd.isAgg81
  z46 := Tryd.sizeOf81
  v46 := Tryd.zeroValue81
  t53 := Tryd.underlying25
  a53 := Tryd.isAgg25
  z53 := Tryd.sizeOf25
  v53 := Tryd.zeroValue25 }
/-- bits.LeadingZeros64: "LeadingZeros64 returns the number of leading zero bits in x; the result is 64 for x == 0.": IT RETURNS '64 - Lib.bitLen x'; the world is as it was. ITS CALLEE bits.Len64 IS MET BY ITS OWN CONTRACT OFF THE SHELF (lay that first): entered in place it sends the kernel out of memory. (LAID: no walk: one application.) -/
theorem Tryd.bits_LeadingZeros64 (x : Int) (w : World) (h0 : 0 ≤ x) (h1 : x ≤ 18446744073709551615) :
    Calls Tryd.prog 105 #[.int .u64 x] w fun e w' => e = .returned (.int .i64 (64 - (Lib.bitLen x.toNat : Int))) ∧ w' = w := Any.bits_LeadingZeros64 Tryd.lays134 x w h0 h1
def Tryd.lays129_ren : Go.Shelf.Ren := ⟨fun | 129 => 55 | n => n, fun | 53 => 25 | 3 => 3 | 4 => 4 | 46 => 81 | 5 => 5 | 9 => 9 | n => n, fun | n => n⟩
theorem Tryd.lays129 : Go.Proofs.Lays.n129 Tryd.prog Tryd.lays129_ren := {
  mixed := by kernel_rfl
  f129 := Tryd.func55.trans (congrArg some (by kernel_rfl))
  t3 := Tryd.underlying3
  a3 := Tryd.isAgg3
  z3 := Tryd.sizeOf3
  v3 := Tryd.zeroValue3
  t4 := Tryd.underlying4
  a4 := Tryd.isAgg4
  z4 := Tryd.sizeOf4
  v4 := Tryd.zeroValue4
  t5 := Tryd.underlying5
  a5 := Tryd.isAgg5
  z5 := Tryd.sizeOf5
  v5 := Tryd.zeroValue5
  t9 := Tryd.underlying9
  a9 := Tryd.isAgg9
  z9 := Tryd.sizeOf9
  v9 := Tryd.zeroValue9
  t46 := Tryd.underlying81
  a46 := Tryd.isAgg81
  z46 := Tryd.sizeOf81
  v46 := Tryd.zeroValue81
  t53 := Tryd.underlying25
  a53 := Tryd.isAgg25
  z53 := Tryd.sizeOf25
  v53 := Tryd.zeroValue25 }
/-- bits.Len64: "Len64 returns the minimum number of bits required to represent x; the result is 0 for x == 0.": IT RETURNS 'Lib.bitLen x'; the world is as it was. ('h0', 'h1': x is a uint64.) (LAID: no walk: one application.) -/
theorem Tryd.bits_Len64 (x : Int) (w : World) (h0 : 0 ≤ x) (h1 : x ≤ 18446744073709551615) :
    Calls Tryd.prog 55 #[.int .u64 x] w fun e w' => e = .returned (.int .i64 (Lib.bitLen x.toNat)) ∧ w' = w := Any.bits_Len64 Tryd.lays129 x w h0 h1
def Tryd.lays264_ren : Go.Shelf.Ren := ⟨fun | 264 => 42 | n => n, fun | 53 => 25 | 46 => 81 | n => n, fun | n => n⟩
theorem Tryd.lays264 : Go.Proofs.Lays.n264 Tryd.prog Tryd.lays264_ren := {
  mixed := by kernel_rfl
  f264 := Tryd.func42.trans (congrArg some (by kernel_rfl))
  t46 := Tryd.underlying81
  a46 := Tryd.isAgg81
  z46 := Tryd.sizeOf81
  v46 := Tryd.zeroValue81
  t53 := Tryd.underlying25
  a53 := Tryd.isAgg25
  z53 := Tryd.sizeOf25
  v53 := Tryd.zeroValue25 }
open Go.RowKit Go.Lib in
theorem Tryd.bits_Mul64 (x y : Nat) (hx : x < 18446744073709551616) (hy : y < 18446744073709551616) (w : World) :
    Calls Tryd.prog 42 #[.int .u64 x, .int .u64 y] w fun e w' => e = .returned (.tuple #[.int .u64 ((x * y / 18446744073709551616 : Nat) : Int), .int .u64 ((x * y % 18446744073709551616 : Nat) : Int)]) ∧ w' = w := Any.bits_Mul64 Tryd.lays264 x y hx hy w
def Tryd.laysNm237_ren : Go.Shelf.Ren := ⟨fun | 37 => 102 | n => n, fun | 3 => 3 | 4 => 4 | n => n, fun | n => n⟩
theorem Tryd.laysNm237 : Go.Proofs.Lays2.n37 Tryd.prog Tryd.laysNm237_ren := {
  mixed := by kernel_rfl
  f37 := Tryd.func102.trans (congrArg some (by kernel_rfl))
  t3 := Tryd.underlying3
  a3 := Tryd.isAgg3
  z3 := Tryd.sizeOf3
  v3 := Tryd.zeroValue3
  t4 := Tryd.underlying4
  a4 := Tryd.isAgg4
  z4 := Tryd.sizeOf4
  v4 := Tryd.zeroValue4 }
open Go.RowKit Go.Lib in
/-- cmp.isNaN[int]: 'x != x': false. (LAID: no walk: one application.) -/
theorem Tryd.cmp_isNaN_int2 (x : Int) (w : World) :
    Calls Tryd.prog 102 #[.int .i64 x] w fun e w' => e = .returned (.bool false) ∧ w' = w := Any.cmp_isNaN_int2 Tryd.laysNm237 x w
end Go.Proofs

/-
  What the document's own functions on natural numbers (Size, Len) do: contracts.
-/
set_option maxRecDepth 20000
set_option linter.unusedVariables false
set_option linter.unusedSectionVars false
set_option linter.unusedSimpArgs false
namespace Go.Proofs.YthcndcanahhbcaaDoor
open Go.RowKit

/-- how many words without noughts at the end -/
def sizeL (x : Nat → Int) : Nat → Nat
  | 0 => 0
  | n + 1 => if x n = 0 then sizeL x n else n + 1

theorem sizeL_le (x : Nat → Int) (n : Nat) : sizeL x n ≤ n := by
  induction n with
  | zero => simp [sizeL]
  | succ n ih => simp only [sizeL]; split <;> omega

theorem ret_int {k : IntKind} {a b : Int} (h : a = b) : Ending.returned (.int k a) = .returned (.int k b) := by rw [h]

set_option maxHeartbeats 400000 in
theorem size_any (b off n c : Nat) (x : Nat → Int) (w : World) (hn : n < 9223372036854775808) (hc : ∀ i, i < n → w.cell? ⟨b, off + i, none⟩ = some (.int .u64 (x i))) :
    Calls Tryd.prog 19 #[.slice (some ⟨b, off, none⟩) n c] w fun e w' => e = .returned (.int .i64 (sizeL x n)) ∧ w' = w := by
  go_enter Tryd.func19, Tryd.ntmps19
  go_wp2
  go_loop [3] (fun t => ∃ k : Nat, k ≤ n ∧ sizeL x k = sizeL x n ∧ t = .int .i64 k) (fun t => (intOf t).toNat)
  case atStart => exact ⟨n, Nat.le_refl _, rfl, rfl⟩
  case round =>
    obtain ⟨k, hk, hs, rfl⟩ := hrel
    by_cases h0 : k = 0
    · subst h0
      go_wp2
      go_ret
      exact ⟨ret_int (by rw [← hs]; rfl), rfl⟩
    · obtain ⟨j, rfl⟩ : ∃ j, k = j + 1 := ⟨k - 1, by omega⟩
      have hcj := hc j (by omega)
      by_cases hz : x j = 0
      · have HS : Hid (sizeL x j = sizeL x n) := by
          have : sizeL x (j + 1) = sizeL x j := by simp [sizeL, hz]
          exact this.symm.trans hs
        clear hs
        go_wp2
        go_round
        case rel => exact ⟨j, by omega, HS.out, by go_num⟩
        case measure => simp [intOf]
      · have HS : Hid (((j : Int) + 1) = (sizeL x n : Nat)) := by
          have : sizeL x (j + 1) = j + 1 := by simp [sizeL, hz]
          show _ = _
          rw [← hs, this]; omega
        clear hs
        go_wp2
        go_ret
        exact ⟨ret_int (by exact HS.out), rfl⟩

set_option maxHeartbeats 400000 in
theorem size_nil (w : World) :
    Calls Tryd.prog 19 #[.slice none 0 0] w fun e w' => e = .returned (.int .i64 0) ∧ w' = w := by
  go_enter Tryd.func19, Tryd.ntmps19
  go_wp2
  go_loop [3] (fun t => t = .int .i64 0) (fun t => (intOf t).toNat)
  case atStart => rfl
  case round =>
    subst hrel
    go_wp2
    go_ret
    exact ⟨rfl, rfl⟩

/-- how many bits -/
def lenL (x : Nat → Int) (n : Nat) : Int := if sizeL x n = 0 then 0 else 64 * (sizeL x n : Int) - 64 + Lib.bitLen (x (sizeL x n - 1)).toNat

theorem bitLenAux_le : ∀ f x : Nat, Lib.bitLenAux f x ≤ f
  | 0, x => by simp [Lib.bitLenAux]
  | f + 1, x => by
    have := bitLenAux_le f (x / 2)
    simp only [Lib.bitLenAux]; split <;> omega
theorem bitLen64 (x : Nat) : Lib.bitLen x ≤ 64 := bitLenAux_le 64 x

set_option maxHeartbeats 400000 in
theorem len_any (b off n c : Nat) (x : Nat → Int) (w : World) (hn : n < 100000000) (hx : ∀ i, 0 ≤ x i ∧ x i ≤ 18446744073709551615) (hc : ∀ i, i < n → w.cell? ⟨b, off + i, none⟩ = some (.int .u64 (x i))) :
    Calls Tryd.prog 70 #[.slice (some ⟨b, off, none⟩) n c] w fun e w' => e = .returned (.int .i64 (lenL x n)) ∧ w' = w := by
  have hle := sizeL_le x n
  by_cases h0 : sizeL x n = 0
  · have HL : Hid (lenL x n = 0) := by show _ = _; simp [lenL, h0]
    have hs : Calls Tryd.prog 19 #[.slice (some ⟨b, off, none⟩) n c] w fun e w' => e = .returned (.int .i64 0) ∧ w' = w := by
      have := size_any b off n c x w (by omega) hc
      rw [h0] at this; exact this
    clear h0 hc hx
    go_enter Tryd.func70, Tryd.ntmps70
    go_wp2_with (go_at_call 19; refine hs.mono ?_; rintro e w' ⟨rfl, rfl⟩)
    go_ret
    exact ⟨ret_int HL.out.symm, rfl⟩
  · obtain ⟨j, hj⟩ : ∃ j, sizeL x n = j + 1 := ⟨sizeL x n - 1, by omega⟩
    have hs := size_any b off n c x w (by omega) hc
    have HL : Hid (lenL x n = 64 * (j : Int) + Lib.bitLen (x j).toNat) := by show _ = _; simp [lenL, hj]; omega
    rw [hj] at hs
    have hcj := hc j (by omega)
    have hb := hx j
    have hbl := bitLen64 (x j).toNat
    have hj' : j + 1 ≤ n := by omega
    clear h0 hc hx hj hle
    have hcl := Tryd.bits_Len64 (x j) w hb.1 hb.2
    generalize Lib.bitLen (x j).toNat = L at *
    go_enter Tryd.func70, Tryd.ntmps70
    go_wp2_with (first | (go_at_call 19; refine hs.mono ?_; rintro e w' ⟨rfl, rfl⟩) | (go_at_call 55; refine hcl.mono ?_; rintro e w' ⟨rfl, rfl⟩))
    go_ret
    exact ⟨ret_int (by rw [HL.out]; omega), rfl⟩
end Go.Proofs.YthcndcanahhbcaaDoor

/-
  Arrays of words as values; bits.Add64 and Sub64.
-/
set_option maxRecDepth 20000
set_option linter.unusedVariables false
set_option linter.unusedSectionVars false
set_option linter.unusedSimpArgs false
namespace Go.Proofs.YthcndcanahhbcaaDoor
open Go.RowKit

def arrOf (f : Nat → Int) (n : Nat) : Array Value := ((List.range n).map fun i => Value.int .u64 (f i)).toArray
@[simp] theorem arrOf_size (f : Nat → Int) (n : Nat) : (arrOf f n).size = n := by simp [arrOf]
theorem arrOf_get (f : Nat → Int) (n i : Nat) (h : i < (arrOf f n).size) : (arrOf f n)[i]'h = .int .u64 (f i) := by simp [arrOf]
theorem arrOf_get? (f : Nat → Int) (n i : Nat) (h : i < n) : (arrOf f n)[i]? = some (.int .u64 (f i)) := by simp [arrOf, h]
theorem arrOf_set (f : Nat → Int) (n k : Nat) (v : Int) : (arrOf f n).setIfInBounds k (.int .u64 v) = arrOf (fun i => if i = k then v else f i) n := by
  apply Array.ext
  · simp
  · intro i h1 h2
    rw [Array.getElem_setIfInBounds]
    simp only [arrOf_get]
    by_cases h : k = i
    · subst h; simp
    · simp [h, Ne.symm h]; exact arrOf_get _ _ _ _
    simpa using h2
theorem arrOf_congr {f g : Nat → Int} {n : Nat} (h : ∀ i, i < n → f i = g i) : arrOf f n = arrOf g n := by
  apply Array.ext
  · simp
  · intro i h1 h2
    simp only [arrOf_get]
    rw [h i (by simpa using h1)]
theorem arrOf_of (cs : Array Value) (n : Nat) (f : Nat → Int) (hs : cs.size = n) (h : ∀ i, i < n → cs[i]? = some (.int .u64 (f i))) : cs = arrOf f n := by
  apply Array.ext
  · simp [hs]
  · intro i h1 h2
    rw [arrOf_get]
    have := h i (by omega)
    rw [Array.getElem?_eq_getElem h1] at this
    exact Option.some.inj this

theorem add64 (x y c : Int) (hx : 0 ≤ x) (hy : 0 ≤ y) (hc0 : 0 ≤ c) (hc : c ≤ 1) (w : World) : (callFunc 43 #[.int .u64 x, .int .u64 y, .int .u64 c]).run Tryd.prog w =
    .ok (.value (.tuple #[.int .u64 ((x + y + c) % 18446744073709551616), .int .u64 ((x + y + c) / 18446744073709551616)])) w := by
  rw [run_callFunc_extern Tryd.func43 (by kernel_rfl) (by kernel_rfl) (by kernel_rfl) (e := add64Entry) (by kernel_rfl), run_add64 x y c hx hy hc0 hc]
  rfl

def sub64E : Array Value → Sem Value := fun args => do
  let (x, y, b) ← Extern.MathBitsCarry.three "Sub64" args
  pure (Extern.MathBitsCarry.pair ((x + Extern.MathBitsCarry.m64 - y - b) % Extern.MathBitsCarry.m64) (if x < y + b then 1 else 0))
theorem run_sub64E (x y b : Nat) (hb : b ≤ 1) (w : World) :
    (sub64E #[.int .u64 x, .int .u64 y, .int .u64 b]).run Tryd.prog w =
      .ok (.tuple #[.int .u64 (((x + 18446744073709551616 - y - b) % 18446744073709551616 : Nat) : Int), .int .u64 ((if x < y + b then 1 else 0 : Nat) : Int)]) w := by
  have : b = 0 ∨ b = 1 := by omega
  rcases this with rfl | rfl <;> rfl
/-- what is borrowed -/
def bor (x y b : Int) : Int := if x < y + b then 1 else 0
theorem sub64 (x y b : Int) (hx : 0 ≤ x) (hy : 0 ≤ y) (hy' : y < 18446744073709551616) (hb0 : 0 ≤ b) (hb : b ≤ 1) (w : World) : (callFunc 44 #[.int .u64 x, .int .u64 y, .int .u64 b]).run Tryd.prog w =
    .ok (.value (.tuple #[.int .u64 ((x - y - b) % 18446744073709551616), .int .u64 (bor x y b)])) w := by
  obtain ⟨x, rfl⟩ := Int.eq_ofNat_of_zero_le hx
  obtain ⟨y, rfl⟩ := Int.eq_ofNat_of_zero_le hy
  obtain ⟨b, rfl⟩ := Int.eq_ofNat_of_zero_le hb0
  have e1 : (((x + 18446744073709551616 - y - b) % 18446744073709551616 : Nat) : Int) = ((x : Int) - y - b) % 18446744073709551616 := by omega
  have e2 : ((if x < y + b then 1 else 0 : Nat) : Int) = bor x y b := by unfold bor; split <;> split <;> omega
  rw [run_callFunc_extern Tryd.func44 (by kernel_rfl) (by kernel_rfl) (by kernel_rfl) (e := sub64E) (by kernel_rfl), run_sub64E x y b (by omega), ← e1, ← e2]
  rfl
end Go.Proofs.YthcndcanahhbcaaDoor

/-
  What limbs.Add does at each width: contracts.
-/
set_option maxRecDepth 20000
set_option linter.unusedVariables false
set_option linter.unusedSectionVars false
set_option linter.unusedSimpArgs false
namespace Go.Proofs.YthcndcanahhbcaaDoor
open Go.RowKit
attribute [local go_sem ↓] Go.wp_at_zero Go.wp_at_succ
theorem setCell_drewN (w : World) (n : Nat) (a : Addr) (v : Value) : (w.drewN n).setCell a v = (w.setCell a v).drewN n := rfl
theorem alloc_drewN (w : World) (n : Nat) (o : Obj) : (w.drewN n).alloc o = (w.alloc o).drewN n := rfl
attribute [local go_sem] setCell_drewN alloc_drewN

/-- the carry into word k, and the sum's words -/
def carryW (x y : Nat → Int) : Nat → Int
  | 0 => 0
  | k + 1 => (x k + y k + carryW x y k) / 18446744073709551616
def sumW (x y : Nat → Int) (k : Nat) : Int := (x k + y k + carryW x y k) % 18446744073709551616

def Words (x : Nat → Int) : Prop := ∀ i, 0 ≤ x i ∧ x i ≤ 18446744073709551615
theorem carryW_01 {x y : Nat → Int} (hx : Words x) (hy : Words y) (k : Nat) : 0 ≤ carryW x y k ∧ carryW x y k ≤ 1 := by
  induction k with
  | zero => simp [carryW]
  | succ k ih => have := hx k; have := hy k; simp only [carryW]; omega
/-- the borrow from word k, and the difference's words -/
def borW (x y : Nat → Int) : Nat → Int
  | 0 => 0
  | k + 1 => bor (x k) (y k) (borW x y k)
def difW (x y : Nat → Int) (k : Nat) : Int := (x k - y k - borW x y k) % 18446744073709551616
theorem bor_01 (x y b : Int) : 0 ≤ bor x y b ∧ bor x y b ≤ 1 := by unfold bor; split <;> omega
theorem borW_01 (x y : Nat → Int) (k : Nat) : 0 ≤ borW x y k ∧ borW x y k ≤ 1 := by
  cases k with
  | zero => simp [borW]
  | succ k => exact bor_01 _ _ _

theorem below_alloc4 (w : World) (o1 o2 o3 o4 : Obj) (m : Nat) : Below w.heap.size w ((((((w.alloc o1).alloc o2).alloc o3).alloc o4).drewN m)) := by
  have h := ((((Below.refl w.heap.size w).alloc (Nat.le_refl _) o1).alloc (by simp) o2).alloc (by simp; omega) o3).alloc (by simp; omega) o4
  exact ⟨h.os, h.tape, h.output, h.size, h.block⟩
theorem below_alloc3 (w : World) (o1 o2 o3 : Obj) (m : Nat) : Below w.heap.size w (((((w.alloc o1).alloc o2).alloc o3).drewN m)) := by
  have h := (((Below.refl w.heap.size w).alloc (Nat.le_refl _) o1).alloc (by simp) o2).alloc (by simp; omega) o3
  exact ⟨h.os, h.tape, h.output, h.size, h.block⟩
theorem set_next {ss : Array Value} {k : Nat} {f : Nat → Int} (hss : ∀ j h, ss[j]'h = Value.int .u64 (if j < k then f j else 0)) (j : Nat) (h : j < (ss.setIfInBounds k (.int .u64 (f k))).size) : (ss.setIfInBounds k (.int .u64 (f k)))[j]'h = Value.int .u64 (if j < k + 1 then f j else 0) := by
  have h' : j < ss.size := by simpa using h
  rw [Array.getElem_setIfInBounds]
  by_cases e : k = j
  · subst e; simp
  · rw [if_neg e, hss j h']
    by_cases e2 : j < k
    · simp [e2, Nat.lt_succ_of_lt e2]
    · simp [e2, show ¬ j < k + 1 by omega]
  exact h'





end Go.Proofs.YthcndcanahhbcaaDoor

/-
  What limbs.Div does at the widths: contracts; that the program is awake.
-/
set_option maxRecDepth 20000
set_option linter.unusedVariables false
set_option linter.unusedSectionVars false
set_option linter.unusedSimpArgs false
namespace Go.Proofs.YthcndcanahhbcaaDoor
open Go.RowKit
attribute [local go_sem] setCell_drewN alloc_drewN

set_option maxHeartbeats 1000000 in
theorem div64_0 (lo y : Int) (w : World) (hl : 0 ≤ lo ∧ lo ≤ 18446744073709551615) (hy : 0 < y ∧ y ≤ 18446744073709551615) :
    Calls Tryd.prog 104 #[.int .u64 0, .int .u64 lo, .int .u64 y] w fun e w' => e = .returned (.tuple #[.int .u64 (lo / y), .int .u64 (lo % y)]) ∧ ∃ m, w' = w.drewN m := by
  have hy0 : ¬ y = 0 := by omega
  go_enter Tryd.func104, Tryd.ntmps104
  go_wp2
  go_quiet (fail)
  go_wp2
  go_ret2
  exact ⟨rfl, _, rfl⟩

/-- the rest ahead of word n - 1 - j, and the quotient's words -/
def remJ (x : Nat → Int) (d : Int) (n : Nat) : Nat → Int
  | 0 => 0
  | j + 1 => (remJ x d n j * 18446744073709551616 + x (n - 1 - j)) % d
def quoW (x : Nat → Int) (d : Int) (n j : Nat) : Int := (remJ x d n (n - 1 - j) * 18446744073709551616 + x j) / d
theorem remJ_bd (x : Nat → Int) (d : Int) (n j : Nat) (hd : 0 < d) : 0 ≤ remJ x d n j ∧ remJ x d n j < d := by
  cases j with
  | zero => exact ⟨Int.le_refl _, hd⟩
  | succ j => exact ⟨Int.emod_nonneg _ (by omega), Int.emod_lt_of_pos _ hd⟩
theorem set_prev {ss : Array Value} {k : Nat} {f : Nat → Int} (hss : ∀ j h, ss[j]'h = Value.int .u64 (if k + 1 ≤ j then f j else 0)) (j : Nat) (h : j < (ss.setIfInBounds k (.int .u64 (f k))).size) : (ss.setIfInBounds k (.int .u64 (f k)))[j]'h = Value.int .u64 (if k ≤ j then f j else 0) := by
  have h' : j < ss.size := by simpa using h
  rw [Array.getElem_setIfInBounds]
  by_cases e : k = j
  · subst e; simp
  · rw [if_neg e, hss j h']
    by_cases e2 : k ≤ j
    · simp [e2, show k + 1 ≤ j by omega]
    · simp [e2, show ¬ k + 1 ≤ j by omega]
  exact h'



theorem bcell {W w1 : World} (hb : Below W.heap.size W w1) : (∀ b o, b < W.heap.size → w1.cell? ⟨b, o, none⟩ = W.cell? ⟨b, o, none⟩) ∧ (∀ b o, b < W.heap.size → w1.frozen? ⟨b, o, none⟩ = W.frozen? ⟨b, o, none⟩) :=
  ⟨fun b o h => hb.cell (p := ⟨b, o, none⟩) h, fun b o h => hb.frozen (p := ⟨b, o, none⟩) h⟩


end Go.Proofs.YthcndcanahhbcaaDoor

/-
  Slices of words as natural numbers; what the document's word, Cmp and Trim do: contracts.
-/
set_option linter.unusedVariables false
set_option linter.unusedSimpArgs false
set_option maxRecDepth 20000
set_option linter.unusedSectionVars false
namespace Go.Proofs.YthcndcanahhbcaaDoor
open Go.RowKit

/-- the slice (a, n, c) holds the words x; all further words of x are 0 -/
def Num (w : World) (a : Option Addr) (n c : Nat) (x : Nat → Int) : Prop :=
  n ≤ c ∧ c ≤ maxLen ∧ Words x ∧ (∀ i, n ≤ i → x i = 0) ∧ ((a = none ∧ c = 0) ∨ ∃ b off, a = some ⟨b, off, none⟩ ∧ b < w.heap.size ∧ ∀ i, i < n → w.cell? ⟨b, off + i, none⟩ = some (.int .u64 (x i)))
theorem Num.next {w w' : World} {a : Option Addr} {n c : Nat} {x : Nat → Int} (h : Num w a n c x) (hb : Below w.heap.size w w') : Num w' a n c x := by
  obtain ⟨h1, h2, h3, h4, h5⟩ := h
  refine ⟨h1, h2, h3, h4, ?_⟩
  rcases h5 with h5 | ⟨b, off, h6, h7, h8⟩
  · exact Or.inl h5
  · exact Or.inr ⟨b, off, h6, Nat.lt_of_lt_of_le h7 hb.size, fun i hi => (hb.cell (p := ⟨b, off + i, none⟩) h7).trans (h8 i hi)⟩
theorem Num.drewN {w : World} {a : Option Addr} {n c : Nat} {x : Nat → Int} (h : Num w a n c x) (m : Nat) : Num (w.drewN m) a n c x := h

set_option maxHeartbeats 400000 in
theorem word_any (a : Option Addr) (n c i : Nat) (x : Nat → Int) (w : World) (h : Num w a n c x) :
    Calls Tryd.prog 45 #[.slice a n c, .int .i64 i] w fun e w' => e = .returned (.int .u64 (x i)) ∧ w' = w := by
  obtain ⟨h1, h2, h3, h4, h5⟩ := h
  by_cases hi : i < n
  · rcases h5 with ⟨rfl, rfl⟩ | ⟨b, off, rfl, hbs, hc⟩
    · omega
    · have hci := hc i hi
      have hi' : (i : Int) < n := by omega
      clear hc h4 h3
      go_enter Tryd.func45, Tryd.ntmps45
      go_wp2
      go_ret
      exact ⟨rfl, rfl⟩
  · have hz := h4 i (by omega)
    have HZ : Hid (x i = 0) := hz
    clear hz h4 h3 h5
    go_enter Tryd.func45, Tryd.ntmps45
    go_wp2
    go_ret
    exact ⟨ret_int HZ.out.symm, rfl⟩

/-- -1, 0, 1: the words below n, the highest first -/
def cmpL (x y : Nat → Int) : Nat → Int
  | 0 => 0
  | n + 1 => if x n < y n then -1 else if y n < x n then 1 else cmpL x y n

set_option maxHeartbeats 400000 in
theorem cmp_any (a a' : Option Addr) (n c n' c' : Nat) (x y : Nat → Int) (w : World) (hn : n < 4294967296) (hn' : n' < 4294967296) (h : Num w a n c x) (h' : Num w a' n' c' y) :
    Calls Tryd.prog 21 #[.slice a n c, .slice a' n' c'] w fun e w' => e = .returned (.int .i64 (cmpL x y (max n n'))) ∧ w' = w := by
  have hw1 := fun i => word_any a n c i x w h
  have hw2 := fun i => word_any a' n' c' i y w h'
  clear h h'
  go_enter Tryd.func21, Tryd.ntmps21
  go_wp2
  go_loop [5, 6, 7] (fun t u6 u7 => ∃ k : Nat, k ≤ max n n' ∧ cmpL x y k = cmpL x y (max n n') ∧ t = .int .i64 ((k : Int) - 1)) (fun t _ _ => (intOf t + 1).toNat)
  case atStart => exact ⟨max n n', Nat.le_refl _, rfl, by go_num⟩
  case round =>
    obtain ⟨k, hk, hs, rfl⟩ := hrel
    by_cases h0 : k = 0
    · subst h0
      have HS : Hid (cmpL x y (max n n') = 0) := hs.symm
      clear hs
      go_wp2
      go_ret
      exact ⟨ret_int HS.out.symm, rfl⟩
    · obtain ⟨j, rfl⟩ : ∃ j, k = j + 1 := ⟨k - 1, by omega⟩
      have ej : ((j + 1 : Nat) : Int) - 1 = j := by omega
      have hj : j < 4294967296 := by omega
      rw [ej]
      have HS : Hid ((if x j < y j then -1 else if y j < x j then 1 else cmpL x y j) = cmpL x y (max n n')) := hs
      have hkm : j ≤ max n n' := by omega
      clear hs ej hk
      have hwa := hw1 j
      have hwb := hw2 j
      by_cases hlt : x j < y j
      · have HR : Hid (cmpL x y (max n n') = -1) := by rw [← HS.out, if_pos hlt]; rfl
        clear HS
        go_wp2_with (first | (go_at_call_of 45 (Value.slice a n c); refine hwa.mono ?_; rintro e w' ⟨rfl, rfl⟩) | (go_at_call_of 45 (Value.slice a' n' c'); refine hwb.mono ?_; rintro e w' ⟨rfl, rfl⟩))
        go_ret
        exact ⟨ret_int HR.out.symm, rfl⟩
      · by_cases hgt : y j < x j
        · have HR : Hid (cmpL x y (max n n') = 1) := by rw [← HS.out, if_neg hlt, if_pos hgt]; rfl
          clear HS
          go_wp2_with (first | (go_at_call_of 45 (Value.slice a n c); refine hwa.mono ?_; rintro e w' ⟨rfl, rfl⟩) | (go_at_call_of 45 (Value.slice a' n' c'); refine hwb.mono ?_; rintro e w' ⟨rfl, rfl⟩))
          go_ret
          exact ⟨ret_int HR.out.symm, rfl⟩
        · have HR : Hid (cmpL x y j = cmpL x y (max n n')) := by rw [← HS.out, if_neg hlt, if_neg hgt]; rfl
          clear HS
          go_wp2_with (first | (go_at_call_of 45 (Value.slice a n c); refine hwa.mono ?_; rintro e w' ⟨rfl, rfl⟩) | (go_at_call_of 45 (Value.slice a' n' c'); refine hwb.mono ?_; rintro e w' ⟨rfl, rfl⟩))
          go_round
          case rel => exact ⟨j, hkm, HR.out, by go_num⟩
          case measure => simp [intOf]

theorem Tryd.info25 : (Tryd.prog.info? 25).map (fun i => (i.zero, i.size, i.bytes)) = some (some (.int .u64 0), 1, 8) := by kernel_rfl
theorem num_of_owns {w w' : World} {g k cap base : Nat} {x : Nat → Int} (hx : Words x) (hz : ∀ i, k ≤ i → x i = 0) (h : w'.ownsRow base 25 1 (.slice (some ⟨g, 0, none⟩) k cap) k ((List.range k).map fun i => Value.int .u64 (x i))) (hg : g < w'.heap.size) : Num w' (some ⟨g, 0, none⟩) k cap x := by
  obtain ⟨hl, h⟩ := h
  rcases h with ⟨h, _⟩ | ⟨g', cap', cur, he, hb, hh, h1, h2, h3, h4⟩
  · cases h
  · cases he
    refine ⟨h1, h2, hx, hz, Or.inr ⟨g, 0, rfl, hg, fun i hi => ?_⟩⟩
    rw [Nat.zero_add]
    have hcur : cur[i]? = some (.int .u64 (x i)) := by
      have : (cur.toList.take (k * 1))[i]? = some (.int .u64 (x i)) := by rw [h4]; simp [hi]
      rw [List.getElem?_take] at this
      simpa [hi] using this
    unfold World.cell?
    simp [hh, hcur]

set_option maxHeartbeats 1000000 in
theorem trim_some (b off n c : Nat) (x : Nat → Int) (w : World) (hn : n < 4294967296) (h : Num w (some ⟨b, off, none⟩) n c x) :
    Calls Tryd.prog 35 #[.slice (some ⟨b, off, none⟩) n c] w fun e w' => ∃ g cap, e = .returned (.slice (some ⟨g, 0, none⟩) (sizeL x n) cap) ∧ Num w' (some ⟨g, 0, none⟩) (sizeL x n) cap x ∧ Below w.heap.size w w' := by
  obtain ⟨h1, h2, h3, h4, h5⟩ := h
  have hc : b < w.heap.size ∧ ∀ i, i < n → w.cell? ⟨b, off + i, none⟩ = some (.int .u64 (x i)) := by
    rcases h5 with ⟨h, _⟩ | ⟨b', off', h, hbs, hc⟩
    · cases h
    · cases h; exact ⟨hbs, hc⟩
  obtain ⟨hbs, hc⟩ := hc
  clear h5
  obtain ⟨i0, hi, hz0, hz1, hz2⟩ := info_parts Tryd.info25
  unfold maxLen at h2
  go_enter Tryd.func35, Tryd.ntmps35
  go_wp2
  go_loop [3] (fun t => ∃ k : Nat, k ≤ n ∧ sizeL x k = sizeL x n ∧ (∀ i, k ≤ i → x i = 0) ∧ t = .int .i64 k) (fun t => (intOf t).toNat)
  case atStart => exact ⟨n, Nat.le_refl _, rfl, h4, rfl⟩
  case round =>
    obtain ⟨k, hk, hs, hz, rfl⟩ := hrel
    clear h4
    by_cases h0 : k = 0
    · subst h0
      have HS : Hid (sizeL x n = 0) := hs.symm
      have HN : Hid (Num (w.alloc (.cells #[] 25)) (some ⟨w.heap.size, 0, none⟩) 0 0 x) := ⟨Nat.le_refl _, by unfold maxLen; omega, h3, hz, Or.inr ⟨w.heap.size, 0, rfl, by simp, fun i hi => by omega⟩⟩
      clear hs hz hc h3
      go_wp2
      go_ret
      refine ⟨w.heap.size, 0, ?_, ?_, (Below.refl _ _).alloc (Nat.le_refl _) _⟩
      · rw [HS.out]; rfl
      · rw [HS.out]; exact HN.out
    · obtain ⟨j, rfl⟩ : ∃ j, k = j + 1 := ⟨k - 1, by omega⟩
      have hcj := hc j (by omega)
      by_cases hzj : x j = 0
      · have HS : Hid (sizeL x j = sizeL x n) := by
          have : sizeL x (j + 1) = sizeL x j := by simp [sizeL, hzj]
          exact this.symm.trans hs
        have HZ : Hid (∀ i, j ≤ i → x i = 0) := fun i hji => by
          by_cases e : i = j
          · rw [e]; exact hzj
          · exact hz i (by omega)
        clear hs hz hc
        go_wp2
        go_round
        case rel => exact ⟨j, by omega, HS.out, HZ.out, by go_num⟩
        case measure => simp [intOf]
      · have HS : Hid (sizeL x n = j + 1) := by
          have : sizeL x (j + 1) = j + 1 := by simp [sizeL, hzj]
          exact hs.symm.trans this
        have HZ : Hid (∀ i, j + 1 ≤ i → x i = 0) := hz
        have HC : Hid (∀ i, i < n → w.cell? ⟨b, off + i, none⟩ = some (.int .u64 (x i))) := hc
        clear hs hz hc
        have HOWN : (w.alloc (.cells #[] 25)).ownsRow w.heap.size 25 1 (.slice (some ⟨w.heap.size, 0, none⟩) 0 0) 0 [] :=
          ⟨rfl, Or.inr ⟨w.heap.size, 0, #[], rfl, Nat.le_refl _, (MapKept.heap_alloc w _).1, Nat.le_refl _, by unfold maxLen; omega, rfl, rfl⟩⟩
        have HNEWS : ∀ (q : Nat) (u : Value), ((List.range (j + 1)).map fun i => Value.int .u64 (x i))[q]? = some u → (w.alloc (.cells #[] 25)).cell? ((⟨b, off, none⟩ : Addr).add q) = some u := by
          intro q u hq
          have hql : q < j + 1 := by
            rcases Nat.lt_or_ge q (j + 1) with h | h
            · exact h
            · rw [List.getElem?_eq_none (by simpa using h)] at hq; cases hq
          have e2 : u = .int .u64 (x q) := by simpa [hql] using hq.symm
          rw [e2]
          have ea : (⟨b, off, none⟩ : Addr).add q = ⟨b, off + q, none⟩ := by simp [Addr.add]
          rw [ea]
          exact (((Below.refl w.heap.size w).alloc (Nat.le_refl _) _).cell (p := ⟨b, off + q, none⟩) hbs).trans (HC.out q (by omega))
        have HONE : ∀ u ∈ ((List.range (j + 1)).map fun i => Value.int .u64 (x i)), u.oneCell' = true := by
          intro u hu
          obtain ⟨q, _, rfl⟩ := List.mem_map.1 hu
          rfl
        go_wp2_with (at_builtin; refine wpList_append_lies _ rfl (.tmp 18) (.tmp 21) 22 rfl w.heap.size 25 i0 (.int .u64 0) 1 8 Tryd.underlying22 hi hz0 hz1 hz2 rfl (by decide) (.slice (some ⟨w.heap.size, 0, none⟩) 0 0) 0 [] rfl HOWN ⟨b, off, none⟩ (j + 1) c ((List.range (j + 1)).map fun i => Value.int .u64 (x i)) rfl (by simp) HNEWS HONE (by omega) (by unfold maxLen; omega) (by omega) (by simp) (w.heap.size + 1) (by simp) ?_; intro g cap w1 hown hgrow hat hlt; clear HOWN HNEWS HONE)
        have hown' : w1.ownsRow w.heap.size 25 1 (.slice (some ⟨g, 0, none⟩) (j + 1) cap) (j + 1) ((List.range (j + 1)).map fun i => Value.int .u64 (x i)) := by
          have e0 : 0 + (j + 1) = j + 1 := by omega
          rw [e0] at hown
          simpa using hown
        have HN := num_of_owns (w := w) h3 HZ.out hown' hlt
        have HB : Below w.heap.size w w1 := ((Below.refl _ _).alloc (Nat.le_refl _) _).grown hgrow (by simp) (by intro k hk; cases hk; exact Nat.le_refl _)
        clear hown hown' hgrow
        go_wp2
        go_ret
        refine ⟨g, cap, ?_, ?_, HB⟩
        · rw [HS.out]; simp
        · rw [HS.out]; exact HN

set_option maxHeartbeats 400000 in
theorem trim_nil (x : Nat → Int) (w : World) (hx : ∀ i, x i = 0) :
    Calls Tryd.prog 35 #[.slice none 0 0] w fun e w' => ∃ g cap, e = .returned (.slice (some ⟨g, 0, none⟩) 0 cap) ∧ Num w' (some ⟨g, 0, none⟩) 0 cap x ∧ Below w.heap.size w w' := by
  go_enter Tryd.func35, Tryd.ntmps35
  go_wp2
  go_loop [3] (fun t => t = .int .i64 0) (fun t => (intOf t).toNat)
  case atStart => rfl
  case round =>
    subst hrel
    go_wp2
    go_ret
    refine ⟨w.heap.size, 0, rfl, ?_, (Below.refl _ _).alloc (Nat.le_refl _) _⟩
    exact ⟨Nat.le_refl _, by unfold maxLen; omega, fun i => by rw [hx i]; decide, fun i _ => hx i, Or.inr ⟨w.heap.size, 0, rfl, by simp, fun i hi => by omega⟩⟩
theorem trim_any (a : Option Addr) (n c : Nat) (x : Nat → Int) (w : World) (hn : n < 4294967296) (h : Num w a n c x) :
    Calls Tryd.prog 35 #[.slice a n c] w fun e w' => ∃ g cap, e = .returned (.slice (some ⟨g, 0, none⟩) (sizeL x n) cap) ∧ Num w' (some ⟨g, 0, none⟩) (sizeL x n) cap x ∧ Below w.heap.size w w' := by
  have h' := h
  obtain ⟨h1, h2, h3, h4, h5⟩ := h'
  rcases h5 with ⟨rfl, rfl⟩ | ⟨b, off, rfl, _, _⟩
  · obtain rfl : n = 0 := by omega
    exact trim_nil x w (fun i => h4 i (Nat.zero_le _))
  · exact trim_some b off n c x w hn h
end Go.Proofs.YthcndcanahhbcaaDoor

/-
  What the document's own Add and Less do: contracts.
-/
set_option linter.unusedVariables false
set_option linter.unusedSimpArgs false
set_option maxRecDepth 20000
set_option linter.unusedSectionVars false
namespace Go.Proofs.YthcndcanahhbcaaDoor
open Go.RowKit

theorem made_zero (k : Nat) : madeCells (Value.int .u64 0).cells k = arrOf (fun _ => 0) k := by
  apply Array.ext
  · simp [madeCells]
  · intro i h1 h2
    rw [arrOf_get]
    simp [madeCells, Value.cells, Nat.mod_one]
theorem make_any (L : Int) (k : Nat) (hL : L = k) (hk : k < 8589934592) (w : World) : (Instr.makeSlice 22 (.int .i64 L) (.int .i64 L)).run Tryd.prog w = .ok (.slice (some ⟨w.heap.size, 0, none⟩) k k) (w.alloc (.cells (arrOf (fun _ => 0) k) 25)) := by
  obtain ⟨i0, hi, hz0, hz1, hz2⟩ := info_parts Tryd.info25
  rw [run_make w 22 25 i0 (.int .u64 0) Tryd.underlying22 hi hz0 .i64 .i64 L L (by omega) (by omega) (by rw [hz2]; omega) (by omega)]
  have e1 : L.toNat = k := by omega
  rw [e1, hz1, Nat.mul_one, made_zero]
theorem num_of_block {w : World} {k : Nat} {x : Nat → Int} {ss : Array Value} (hk : k < 8589934592) (hx : Words x) (hz : ∀ i, k ≤ i → x i = 0) (hsz : ss.size = k) (hss : ∀ j h, ss[j]'h = Value.int .u64 (x j)) : Num (w.alloc (.cells ss 25)) (some ⟨w.heap.size, 0, none⟩) k k x := by
  refine ⟨Nat.le_refl _, by unfold maxLen; omega, hx, hz, Or.inr ⟨w.heap.size, 0, rfl, by simp, fun i hi => ?_⟩⟩
  rw [Nat.zero_add, World.cell?_alloc_new, Array.getElem?_eq_getElem (by omega), hss i (by omega)]
theorem below1 (w : World) (o : Obj) : Below w.heap.size w (w.alloc o) := (Below.refl _ _).alloc (Nat.le_refl _) _

theorem sumW_words (x y : Nat → Int) : Words (sumW x y) := fun i => ⟨Int.emod_nonneg _ (by decide), by have := Int.emod_lt_of_pos (x i + y i + carryW x y i) (b := 18446744073709551616) (by decide); unfold sumW; omega⟩
theorem sumW_zero {x y : Nat → Int} {n : Nat} (hx : Words x) (hy : Words y) (zx : ∀ i, n ≤ i → x i = 0) (zy : ∀ i, n ≤ i → y i = 0) : ∀ i, n + 1 ≤ i → sumW x y i = 0 := by
  have hc : ∀ j, n + 1 ≤ j → carryW x y j = 0 := by
    intro j hj
    obtain ⟨q, rfl⟩ : ∃ q, j = q + 1 := ⟨j - 1, by omega⟩
    have := carryW_01 hx hy q
    simp only [carryW]; rw [zx q (by omega), zy q (by omega)]; omega
  intro i hi
  unfold sumW
  rw [zx i (by omega), zy i (by omega), hc i hi]; rfl
theorem difW_words (x y : Nat → Int) : Words (difW x y) := fun i => ⟨Int.emod_nonneg _ (by decide), by have := Int.emod_lt_of_pos (x i - y i - borW x y i) (b := 18446744073709551616) (by decide); unfold difW; omega⟩
/-- the difference, cut at M words -/
def difZ (x y : Nat → Int) (M i : Nat) : Int := if i < M then difW x y i else 0
theorem difZ_words (x y : Nat → Int) (M : Nat) : Words (difZ x y M) := fun i => by unfold difZ; split; exact difW_words x y i; decide

set_option maxHeartbeats 1000000 in
theorem radd_any (a a' : Option Addr) (n c n' c' : Nat) (x y : Nat → Int) (w : World) (hn : n < 4294967290) (hn' : n' < 4294967290) (h : Num w a n c x) (h' : Num w a' n' c' y) :
    Calls Tryd.prog 24 #[.slice a n c, .slice a' n' c'] w fun e w' => ∃ g k cap, e = .returned (.slice (some ⟨g, 0, none⟩) k cap) ∧ k ≤ max n n' + 1 ∧ Num w' (some ⟨g, 0, none⟩) k cap (sumW x y) ∧ Below w.heap.size w w' := by
  have hx := h.2.2.1
  have hy := h'.2.2.1
  have zx := h.2.2.2.1
  have zy := h'.2.2.2.1
  obtain ⟨M, hM⟩ : ∃ M, max n n' + 1 = M := ⟨_, rfl⟩
  have hMi : max (n : Int) n' + 1 = (M : Int) := by omega
  have hMb : M < 4294967292 := by omega
  have hmk := fun w => make_any (max (n : Int) n' + 1) M hMi (by omega) w
  have hfin : ∀ (ss : Array Value), ss.size = M → (∀ j h, ss[j]'h = Value.int .u64 (sumW x y j)) → Num (w.alloc (.cells ss 25)) (some ⟨w.heap.size, 0, none⟩) M M (sumW x y) := fun ss h1 h2 => num_of_block (by omega) (sumW_words x y) (fun i hi => sumW_zero (n := max n n') hx hy (fun i hi => zx i (by omega)) (fun i hi => zy i (by omega)) i (by omega)) h1 (fun j hj => by rw [h2 j hj])
  have hw1 := fun (i : Nat) (ss : Array Value) => word_any a n c i x (w.alloc (.cells ss 25)) (h.next (below1 w _))
  have hw2 := fun (i : Nat) (ss : Array Value) => word_any a' n' c' i y (w.alloc (.cells ss 25)) (h'.next (below1 w _))
  have HM : Hid (max n n' + 1 = M) := hM
  have HZ : Hid ((arrOf (fun _ => 0) M).size = M ∧ ∀ j h, (arrOf (fun _ => 0) M)[j]'h = Value.int .u64 0) := ⟨arrOf_size _ _, fun j h => arrOf_get _ _ _ _⟩
  clear h h' zx zy hM hMi
  generalize arrOf (fun _ => 0) M = zz at *
  go_enter Tryd.func24, Tryd.ntmps24
  go_wp2
  go_loopw [6, 7, 17, 20] (fun c u7 i u20 wr => ∃ (k : Nat) (ss : Array Value), k ≤ M ∧ i = .int .i64 k ∧ c = .int .u64 (carryW x y k) ∧ ss.size = M ∧ (∀ j h, ss[j]'h = Value.int .u64 (if j < k then sumW x y j else 0)) ∧ wr = w.alloc (.cells ss 25)) (fun _ _ i _ _ => M - (intOf i).toNat)
  case atStart => exact ⟨0, zz, Nat.zero_le _, rfl, rfl, HZ.out.1, fun j h => by rw [HZ.out.2 j h]; simp, rfl⟩
  case round =>
    obtain ⟨k, ss, hk, rfl, rfl, hsz, hss, rfl⟩ := hrel
    have hcar := carryW_01 hx hy k
    by_cases h8 : k < M
    · have h8i : (k : Int) < M := by omega
      have h8s : k < ss.size := by omega
      have bx := hx k
      have b_y := hy k
      have hsk : ss[k]? = some (.int .u64 0) := by rw [Array.getElem?_eq_getElem h8s, hss k h8s, if_neg (by omega)]
      have hadd := fun w => add64 (x k) (y k) (carryW x y k) bx.1 b_y.1 hcar.1 hcar.2 w
      have hwa := hw1 k ss
      have hwb := hw2 k ss
      have HR : Hid (∀ (i : Nat) (h : i < (ss.setIfInBounds k (.int .u64 (sumW x y k))).size), (ss.setIfInBounds k (.int .u64 (sumW x y k)))[i]'h = Value.int .u64 (if i < k + 1 then sumW x y i else 0)) := set_next hss
      clear hss hw1 hw2 hfin hmk hx hy
      go_wp2_with (first | (go_at_call_of 45 (Value.slice a n c); refine hwa.mono ?_; rintro e w' ⟨rfl, rfl⟩) | (go_at_call_of 45 (Value.slice a' n' c'); refine hwb.mono ?_; rintro e w' ⟨rfl, rfl⟩))
      go_roundw
      case rel => exact ⟨k + 1, ss.setIfInBounds k (.int .u64 (sumW x y k)), by omega, by go_num, rfl, by simp [hsz], HR.out, rfl⟩
      case measure => simp [intOf]; omega
    · obtain rfl : k = M := by omega
      have hss' : ∀ j h, ss[j]'h = Value.int .u64 (sumW x y j) := by
        intro j h; rw [hss j h, if_pos (by omega)]
      have hT := trim_any _ _ _ _ _ (by omega) (hfin ss hsz hss')
      have hle := sizeL_le (sumW x y) k
      clear hss hss' hw1 hw2 hfin hmk hx hy
      go_wp2_with (go_at_call 35; refine hT.mono ?_; rintro e w1 ⟨g, cap, rfl, hN, hB⟩)
      go_ret
      exact ⟨g, _, cap, rfl, Nat.le_trans hle (Nat.le_of_eq HM.out.symm), hN, (below1 w _).trans (hB.mono (by simp))⟩

set_option maxHeartbeats 1000000 in
theorem rless_any (a a' : Option Addr) (n c n' c' : Nat) (x y : Nat → Int) (w : World) (hn : n < 4294967290) (hn' : n' < 4294967290) (h : Num w a n c x) (h' : Num w a' n' c' y) :
    Calls Tryd.prog 20 #[.slice a n c, .slice a' n' c'] w fun e w' => ∃ g k cap, e = .returned (.slice (some ⟨g, 0, none⟩) k cap) ∧ k ≤ max n n' ∧ Num w' (some ⟨g, 0, none⟩) k cap (difZ x y (max n n')) ∧ Below w.heap.size w w' := by
  have hx := h.2.2.1
  have hy := h'.2.2.1
  have zx := h.2.2.2.1
  have zy := h'.2.2.2.1
  obtain ⟨M, hM⟩ : ∃ M, max n n' = M := ⟨_, rfl⟩
  have hMi : max (n : Int) n' = (M : Int) := by omega
  have hMb : M < 4294967292 := by omega
  have hmk := fun w => make_any (max (n : Int) n') M hMi (by omega) w
  have hfin : ∀ (ss : Array Value), ss.size = M → (∀ j h, ss[j]'h = Value.int .u64 (difW x y j)) → Num (w.alloc (.cells ss 25)) (some ⟨w.heap.size, 0, none⟩) M M (difZ x y (max n n')) := fun ss h1 h2 => num_of_block (by omega) (difZ_words x y _) (fun i hi => by unfold difZ; rw [if_neg (by omega)]) h1 (fun j hj => by rw [h2 j hj]; unfold difZ; rw [if_pos (by omega)])
  have hw1 := fun (i : Nat) (ss : Array Value) => word_any a n c i x (w.alloc (.cells ss 25)) (h.next (below1 w _))
  have hw2 := fun (i : Nat) (ss : Array Value) => word_any a' n' c' i y (w.alloc (.cells ss 25)) (h'.next (below1 w _))
  have HM : Hid (max n n' = M) := hM
  have HZ : Hid ((arrOf (fun _ => 0) M).size = M ∧ ∀ j h, (arrOf (fun _ => 0) M)[j]'h = Value.int .u64 0) := ⟨arrOf_size _ _, fun j h => arrOf_get _ _ _ _⟩
  clear h h' zx zy hM hMi
  generalize arrOf (fun _ => 0) M = zz at *
  go_enter Tryd.func20, Tryd.ntmps20
  go_wp2
  go_loopw [6, 7, 16, 19] (fun c u7 i u20 wr => ∃ (k : Nat) (ss : Array Value), k ≤ M ∧ i = .int .i64 k ∧ c = .int .u64 (borW x y k) ∧ ss.size = M ∧ (∀ j h, ss[j]'h = Value.int .u64 (if j < k then difW x y j else 0)) ∧ wr = w.alloc (.cells ss 25)) (fun _ _ i _ _ => M - (intOf i).toNat)
  case atStart => exact ⟨0, zz, Nat.zero_le _, rfl, rfl, HZ.out.1, fun j h => by rw [HZ.out.2 j h]; simp, rfl⟩
  case round =>
    obtain ⟨k, ss, hk, rfl, rfl, hsz, hss, rfl⟩ := hrel
    have hcar := borW_01 x y k
    by_cases h8 : k < M
    · have h8i : (k : Int) < M := by omega
      have h8s : k < ss.size := by omega
      have bx := hx k
      have b_y := hy k
      have hsk : ss[k]? = some (.int .u64 0) := by rw [Array.getElem?_eq_getElem h8s, hss k h8s, if_neg (by omega)]
      have hadd := fun w => sub64 (x k) (y k) (borW x y k) bx.1 b_y.1 (by omega) hcar.1 hcar.2 w
      have hwa := hw1 k ss
      have hwb := hw2 k ss
      have HR : Hid (∀ (i : Nat) (h : i < (ss.setIfInBounds k (.int .u64 (difW x y k))).size), (ss.setIfInBounds k (.int .u64 (difW x y k)))[i]'h = Value.int .u64 (if i < k + 1 then difW x y i else 0)) := set_next hss
      clear hss hw1 hw2 hfin hmk hx hy
      go_wp2_with (first | (go_at_call_of 45 (Value.slice a n c); refine hwa.mono ?_; rintro e w' ⟨rfl, rfl⟩) | (go_at_call_of 45 (Value.slice a' n' c'); refine hwb.mono ?_; rintro e w' ⟨rfl, rfl⟩))
      go_roundw
      case rel => exact ⟨k + 1, ss.setIfInBounds k (.int .u64 (difW x y k)), by omega, by go_num, rfl, by simp [hsz], HR.out, rfl⟩
      case measure => simp [intOf]; omega
    · obtain rfl : k = M := by omega
      have hss' : ∀ j h, ss[j]'h = Value.int .u64 (difW x y j) := by
        intro j h; rw [hss j h, if_pos (by omega)]
      have hT := trim_any _ _ _ _ _ (by omega) (hfin ss hsz hss')
      have hle := sizeL_le (difZ x y (max n n')) k
      clear hss hss' hw1 hw2 hfin hmk hx hy
      go_wp2_with (go_at_call 35; refine hT.mono ?_; rintro e w1 ⟨g, cap, rfl, hN, hB⟩)
      go_ret
      exact ⟨g, _, cap, rfl, Nat.le_trans hle (Nat.le_of_eq HM.out.symm), hN, (below1 w _).trans (hB.mono (by simp))⟩
end Go.Proofs.YthcndcanahhbcaaDoor

/-
  What the document's own Left does: a contract.
-/
set_option linter.unusedVariables false
set_option linter.unusedSimpArgs false
set_option maxRecDepth 20000
set_option linter.unusedSectionVars false
namespace Go.Proofs.YthcndcanahhbcaaDoor
open Go.RowKit
attribute [local go_sem ↓] Go.wp_at_zero Go.wp_at_succ
attribute [local go_sem] setCell_drewN alloc_drewN

/-- 'or' of two words -/
def orW (a b : Int) : Int := bits BinOp.or IntKind.u64 a b
theorem orW_eq (a b : Int) (ha : 0 ≤ a ∧ a ≤ 18446744073709551615) (hb : 0 ≤ b ∧ b ≤ 18446744073709551615) : orW a b = ((a.toNat ||| b.toNat : Nat) : Int) := u64_or a b ha.1 (by omega) hb.1 (by omega)
theorem orW_comm (a b : Int) (ha : 0 ≤ a ∧ a ≤ 18446744073709551615) (hb : 0 ≤ b ∧ b ≤ 18446744073709551615) : orW a b = orW b a := by
  rw [orW_eq a b ha hb, orW_eq b a hb ha, Nat.or_comm]
theorem orW_zero (a : Int) (ha : 0 ≤ a ∧ a ≤ 18446744073709551615) : orW a 0 = a := by
  rw [orW_eq a 0 ha (by decide)]; simp; omega
theorem zero_orW (a : Int) (ha : 0 ≤ a ∧ a ≤ 18446744073709551615) : orW 0 a = a := by
  rw [orW_eq 0 a (by decide) ha]; simp; omega
theorem orW_word (a b : Int) (ha : 0 ≤ a ∧ a ≤ 18446744073709551615) (hb : 0 ≤ b ∧ b ≤ 18446744073709551615) : 0 ≤ orW a b ∧ orW a b ≤ 18446744073709551615 := by
  rw [orW_eq a b ha hb]
  have : a.toNat ||| b.toNat < 2 ^ 64 := Nat.or_lt_two_pow (by omega) (by omega)
  omega
theorem wrap_word (a : Int) : 0 ≤ IntKind.u64.wrap a ∧ IntKind.u64.wrap a ≤ 18446744073709551615 := by
  simp only [IntKind.wrap, IntKind.bits, IntKind.signed]
  have h1 := Int.emod_nonneg a (b := 18446744073709551616) (by decide)
  have h2 := Int.emod_lt_of_pos a (b := 18446744073709551616) (by decide)
  simp; omega
theorem wrap_id (a : Int) (ha : 0 ≤ a ∧ a ≤ 18446744073709551615) : IntKind.u64.wrap a = a := by
  simp only [IntKind.wrap, IntKind.bits, IntKind.signed]
  simp; omega
theorem div_word (a : Int) (e : Nat) (ha : 0 ≤ a ∧ a ≤ 18446744073709551615) : 0 ≤ a / 2 ^ e ∧ a / 2 ^ e ≤ 18446744073709551615 := by
  have hp : (0 : Int) < 2 ^ e := Int.pow_pos (by decide)
  have h1 := Int.ediv_nonneg ha.1 (Int.le_of_lt hp)
  have h2 := Int.ediv_le_self (2 ^ e) ha.1
  omega

/-- the bits that come in from the word below -/
def lowp (x : Nat → Int) (q r j : Nat) : Int := if q + 1 ≤ j ∧ 0 < r then x (j - q - 1) / 2 ^ (64 - r) else 0
/-- the words of x times 2^(64 q + r) -/
def finL (x : Nat → Int) (q r j : Nat) : Int := if q ≤ j then orW (lowp x q r j) (IntKind.u64.wrap (x (j - q) * 2 ^ r)) else 0
def stL (x : Nat → Int) (q r k j : Nat) : Int := if j < q + k then finL x q r j else if j = q + k then lowp x q r j else 0
theorem lowp_word {x : Nat → Int} (hx : Words x) (q r j : Nat) : 0 ≤ lowp x q r j ∧ lowp x q r j ≤ 18446744073709551615 := by
  unfold lowp; split
  · exact div_word _ _ (hx _)
  · decide
theorem finL_words {x : Nat → Int} (hx : Words x) (q r : Nat) : Words (finL x q r) := fun j => by
  unfold finL; split
  · exact orW_word _ _ (lowp_word hx q r j) (wrap_word _)
  · decide
theorem finL_zero {x : Nat → Int} {n : Nat} (hx : Words x) (zx : ∀ i, n ≤ i → x i = 0) (q r : Nat) (hr : r < 64) : ∀ j, n + q + 1 ≤ j → finL x q r j = 0 := by
  intro j hj
  unfold finL
  rw [if_pos (by omega), zx (j - q) (by omega)]
  have : lowp x q r j = 0 := by
    unfold lowp; split
    · rw [zx (j - q - 1) (by omega)]; simp
    · rfl
  rw [this, Int.zero_mul, wrap_id 0 (by decide), orW_zero 0 (by decide)]
theorem stL_end {x : Nat → Int} {n : Nat} (hx : Words x) (zx : ∀ i, n ≤ i → x i = 0) (q r j : Nat) (hj : j < n + q + 1) : stL x q r n j = finL x q r j := by
  unfold stL
  by_cases h : j < q + n
  · rw [if_pos h]
  · obtain rfl : j = q + n := by omega
    rw [if_neg h, if_pos rfl]
    unfold finL
    rw [if_pos (by omega), zx (q + n - q) (by omega), Int.zero_mul, wrap_id 0 (by decide), orW_zero _ (lowp_word hx q r _)]
theorem stL_step0 {x : Nat → Int} {q k : Nat} {ss : Array Value} (hss : ∀ j h, ss[j]'h = Value.int .u64 (stL x q 0 k j)) (j : Nat) (h : j < (ss.setIfInBounds (k + q) (.int .u64 (finL x q 0 (q + k)))).size) : (ss.setIfInBounds (k + q) (.int .u64 (finL x q 0 (q + k))))[j]'h = Value.int .u64 (stL x q 0 (k + 1) j) := by
  have h' : j < ss.size := by simpa using h
  rw [Array.getElem_setIfInBounds]
  by_cases e : k + q = j
  · subst e; rw [if_pos rfl]; unfold stL; rw [if_pos (by omega), Nat.add_comm]
  · rw [if_neg e, hss j h']
    unfold stL
    by_cases e2 : j < q + k
    · rw [if_pos e2, if_pos (by omega)]
    · rw [if_neg e2, if_neg (by omega), if_neg (by omega)]
      have : lowp x q 0 j = 0 := by unfold lowp; rw [if_neg (by omega)]
      rw [this]; split <;> rfl
  exact h'
theorem stL_step1 {x : Nat → Int} {q r k : Nat} (hr : 0 < r) {ss : Array Value} (hss : ∀ j h, ss[j]'h = Value.int .u64 (stL x q r k j)) (j : Nat) (h : j < ((ss.setIfInBounds (k + q) (.int .u64 (finL x q r (q + k)))).setIfInBounds (k + q + 1) (.int .u64 (x k / 2 ^ (64 - r)))).size) : ((ss.setIfInBounds (k + q) (.int .u64 (finL x q r (q + k)))).setIfInBounds (k + q + 1) (.int .u64 (x k / 2 ^ (64 - r))))[j]'h = Value.int .u64 (stL x q r (k + 1) j) := by
  have h' : j < ss.size := by simpa using h
  rw [Array.getElem_setIfInBounds (by simpa using h')]
  by_cases e0 : k + q + 1 = j
  · subst e0; rw [if_pos rfl]; unfold stL; rw [if_neg (by omega), if_pos (by omega)]; unfold lowp; rw [if_pos ⟨by omega, hr⟩, show k + q + 1 - q - 1 = k by omega]
  · rw [if_neg e0, Array.getElem_setIfInBounds h']
    by_cases e : k + q = j
    · subst e; rw [if_pos rfl]; unfold stL; rw [if_pos (by omega), Nat.add_comm]
    · rw [if_neg e, hss j h']
      unfold stL
      by_cases e2 : j < q + k
      · rw [if_pos e2, if_pos (by omega)]
      · rw [if_neg e2, if_neg (by omega), if_neg (by omega), if_neg (by omega)]

set_option maxHeartbeats 1000000 in
theorem left_z (b off n c q : Nat) (s : Int) (x : Nat → Int) (w : World) (hn : n < 4000000000) (hq0 : q < 100000)  (hq : s / 64 = q) (hr : s % 64 = 0) (hs : 0 ≤ s) (h : Num w (some ⟨b, off, none⟩) n c x) :
    Calls Tryd.prog 84 #[.slice (some ⟨b, off, none⟩) n c, .int .i64 s] w fun e w' => ∃ g k cap, e = .returned (.slice (some ⟨g, 0, none⟩) k cap) ∧ k ≤ n + q + 1 ∧ Num w' (some ⟨g, 0, none⟩) k cap (finL x q 0) ∧ Below w.heap.size w w' := by
  have hx := h.2.2.1
  have zx := h.2.2.2.1
  have hc : b < w.heap.size ∧ ∀ i, i < n → w.cell? ⟨b, off + i, none⟩ = some (.int .u64 (x i)) := by
    rcases h.2.2.2.2 with ⟨h, _⟩ | ⟨b', off', h, hbs, hc⟩
    · cases h
    · cases h; exact ⟨hbs, hc⟩
  obtain ⟨hbs, hc⟩ := hc
  have hcap := h.1
  have hs6 : s < 6400064 := by omega
  obtain ⟨M, hM⟩ : ∃ M, n + q + 1 = M := ⟨_, rfl⟩
  have hMi : (n : Int) + q + 1 = (M : Int) := by omega
  have hmk := fun w => make_any ((n : Int) + q + 1) M hMi (by omega) w
  have hfin : ∀ (ss : Array Value) (m : Nat), ss.size = M → (∀ j h, ss[j]'h = Value.int .u64 (stL x q 0 n j)) → Num ((w.alloc (.cells ss 25)).drewN m) (some ⟨w.heap.size, 0, none⟩) M M (finL x q 0) := fun ss m h1 h2 => (num_of_block (by omega) (finL_words hx q 0) (fun i hi => finL_zero hx zx q 0 (by omega) i (by omega)) h1 (fun j hj => by rw [h2 j hj, stL_end hx zx q 0 j (by omega)])).drewN m
  have HM : Hid (n + q + 1 = M) := hM
  have HZ : Hid ((arrOf (fun _ => 0) M).size = M ∧ ∀ j h, (arrOf (fun _ => 0) M)[j]'h = Value.int .u64 0) := ⟨arrOf_size _ _, fun j h => arrOf_get _ _ _ _⟩
  have hcw : ∀ (ss : Array Value) i, i < n → (w.alloc (.cells ss 25)).cell? ⟨b, off + i, none⟩ = some (.int .u64 (x i)) := fun ss i hi => ((below1 w _).cell (p := ⟨b, off + i, none⟩) hbs).trans (hc i hi)
  clear h zx hMi hc
  generalize arrOf (fun _ => 0) M = zz at *
  go_enter Tryd.func84, Tryd.ntmps84
  go_wp2
  go_loopw [6, 16] (fun u6 i wr => ∃ (k m : Nat) (ss : Array Value), k ≤ n ∧ i = .int .i64 k ∧ ss.size = M ∧ (∀ j h, ss[j]'h = Value.int .u64 (stL x q 0 k j)) ∧ wr = (w.alloc (.cells ss 25)).drewN m) (fun _ i _ => n - (intOf i).toNat)
  case atStart => exact ⟨0, 0, zz, Nat.zero_le _, rfl, HZ.out.1, fun j h => by rw [HZ.out.2 j h]; unfold stL; (by_cases e : j < q + 0); (rw [if_pos e]; unfold finL; rw [if_neg (by omega)]); (rw [if_neg e]; split; (unfold lowp; rw [if_neg (by omega)]); rfl), rfl⟩
  case round =>
    obtain ⟨k, m, ss, hk, rfl, hsz, hss, rfl⟩ := hrel
    by_cases h8 : k < n
    · have h8i : (k : Int) < n := by omega
      have h8s : k + q < ss.size := by omega
      have h8t : (k : Int) + q < M := by omega
      have h8u : (k : Int) + q + 1 < M := by omega
      have bx := hx k
      have hcx := hcw ss k h8
      have hsk : ss[k + q]? = some (.int .u64 (lowp x q 0 (q + k))) := by rw [Array.getElem?_eq_getElem h8s, hss _ h8s]; unfold stL; rw [if_neg (by omega), if_pos (by omega), Nat.add_comm]
      have hgo : ∀ h, ss[k + q]'h = .int .u64 (lowp x q 0 (q + k)) := fun h => by rw [hss _ h]; unfold stL; rw [if_neg (by omega), if_pos (by omega), Nat.add_comm]
      have hlow := lowp_word hx q 0 (q + k)
      have e1 : ((k : Int) + q).toNat = k + q := by omega
      have e2 : ((k : Int) + q + 1).toNat = k + q + 1 := by omega
      have HF : Hid (finL x q 0 (q + k) = bits BinOp.or IntKind.u64 (lowp x q 0 (q + k)) (x k)) := by
        show _ = _; unfold finL; rw [if_pos (by omega), show q + k - q = k by omega]; simp [orW, wrap_id _ bx]
      have HR : Hid (∀ (i : Nat) (h : i < (ss.setIfInBounds (k + q) (.int .u64 (finL x q 0 (q + k)))).size), (ss.setIfInBounds (k + q) (.int .u64 (finL x q 0 (q + k))))[i]'h = Value.int .u64 (stL x q 0 (k + 1) i)) := stL_step0 hss
      clear hss hfin hmk hx
      generalize hlo : lowp x q 0 (q + k) = lo at *
      clear hcw
      go_wp2
      go_region
      go_wp2
      go_roundw
      case rel => refine ⟨k + 1, m + 1, ss.setIfInBounds (k + q) (.int .u64 (finL x q 0 (q + k))), by omega, by go_num, by simp [hsz], HR.out, ?_⟩; rw [HF.out]
      case measure => simp [intOf]; omega
    · obtain rfl : k = n := by omega
      have hT := trim_any _ _ _ _ _ (by omega) (hfin ss m hsz hss)
      have hle := sizeL_le (finL x q 0) M
      clear hss hfin hmk hx hcw
      go_wp2_with (go_at_call 35; refine hT.mono ?_; rintro e w1 ⟨g, cap, rfl, hN, hB⟩)
      go_ret
      exact ⟨g, _, cap, rfl, Nat.le_trans hle (Nat.le_of_eq HM.out.symm), hN, (below_drewN (below1 w _) m).trans (hB.mono (by simp))⟩

set_option maxHeartbeats 1000000 in
theorem left_p (b off n c q r : Nat) (s : Int) (x : Nat → Int) (w : World) (hn : n < 4000000000) (hq0 : q < 100000) (hr0 : r < 64) (hrp : 0 < r) (hq : s / 64 = q) (hr : s % 64 = r) (hs : 0 ≤ s) (h : Num w (some ⟨b, off, none⟩) n c x) :
    Calls Tryd.prog 84 #[.slice (some ⟨b, off, none⟩) n c, .int .i64 s] w fun e w' => ∃ g k cap, e = .returned (.slice (some ⟨g, 0, none⟩) k cap) ∧ k ≤ n + q + 1 ∧ Num w' (some ⟨g, 0, none⟩) k cap (finL x q r) ∧ Below w.heap.size w w' := by
  have hx := h.2.2.1
  have zx := h.2.2.2.1
  have hc : b < w.heap.size ∧ ∀ i, i < n → w.cell? ⟨b, off + i, none⟩ = some (.int .u64 (x i)) := by
    rcases h.2.2.2.2 with ⟨h, _⟩ | ⟨b', off', h, hbs, hc⟩
    · cases h
    · cases h; exact ⟨hbs, hc⟩
  obtain ⟨hbs, hc⟩ := hc
  have hcap := h.1
  have hs6 : s < 6400064 := by omega
  obtain ⟨M, hM⟩ : ∃ M, n + q + 1 = M := ⟨_, rfl⟩
  have hMi : (n : Int) + q + 1 = (M : Int) := by omega
  have hmk := fun w => make_any ((n : Int) + q + 1) M hMi (by omega) w
  have hfin : ∀ (ss : Array Value) (m : Nat), ss.size = M → (∀ j h, ss[j]'h = Value.int .u64 (stL x q r n j)) → Num ((w.alloc (.cells ss 25)).drewN m) (some ⟨w.heap.size, 0, none⟩) M M (finL x q r) := fun ss m h1 h2 => (num_of_block (by omega) (finL_words hx q r) (fun i hi => finL_zero hx zx q r (by omega) i (by omega)) h1 (fun j hj => by rw [h2 j hj, stL_end hx zx q r j (by omega)])).drewN m
  have HM : Hid (n + q + 1 = M) := hM
  have HZ : Hid ((arrOf (fun _ => 0) M).size = M ∧ ∀ j h, (arrOf (fun _ => 0) M)[j]'h = Value.int .u64 0) := ⟨arrOf_size _ _, fun j h => arrOf_get _ _ _ _⟩
  have hcw : ∀ (ss : Array Value) i, i < n → (w.alloc (.cells ss 25)).cell? ⟨b, off + i, none⟩ = some (.int .u64 (x i)) := fun ss i hi => ((below1 w _).cell (p := ⟨b, off + i, none⟩) hbs).trans (hc i hi)
  clear h zx hMi hc
  generalize arrOf (fun _ => 0) M = zz at *
  go_enter Tryd.func84, Tryd.ntmps84
  go_wp2
  go_loopw [6, 16] (fun u6 i wr => ∃ (k m : Nat) (ss : Array Value), k ≤ n ∧ i = .int .i64 k ∧ ss.size = M ∧ (∀ j h, ss[j]'h = Value.int .u64 (stL x q r k j)) ∧ wr = (w.alloc (.cells ss 25)).drewN m) (fun _ i _ => n - (intOf i).toNat)
  case atStart => exact ⟨0, 0, zz, Nat.zero_le _, rfl, HZ.out.1, fun j h => by rw [HZ.out.2 j h]; unfold stL; (by_cases e : j < q + 0); (rw [if_pos e]; unfold finL; rw [if_neg (by omega)]); (rw [if_neg e]; split; (unfold lowp; rw [if_neg (by omega)]); rfl), rfl⟩
  case round =>
    obtain ⟨k, m, ss, hk, rfl, hsz, hss, rfl⟩ := hrel
    by_cases h8 : k < n
    · have h8i : (k : Int) < n := by omega
      have h8s : k + q < ss.size := by omega
      have h8t : (k : Int) + q < M := by omega
      have h8u : (k : Int) + q + 1 < M := by omega
      have bx := hx k
      have hcx := hcw ss k h8
      have hsk : ss[k + q]? = some (.int .u64 (lowp x q r (q + k))) := by rw [Array.getElem?_eq_getElem h8s, hss _ h8s]; unfold stL; rw [if_neg (by omega), if_pos (by omega), Nat.add_comm]
      have hgo : ∀ h, ss[k + q]'h = .int .u64 (lowp x q r (q + k)) := fun h => by rw [hss _ h]; unfold stL; rw [if_neg (by omega), if_pos (by omega), Nat.add_comm]
      have h8v : k + q + 1 < ss.size := by omega
      have hsl : ss[k + q + 1]? = some (.int .u64 0) := by rw [Array.getElem?_eq_getElem h8v, hss _ h8v]; unfold stL; rw [if_neg (by omega), if_neg (by omega)]
      have hlow := lowp_word hx q r (q + k)
      have e1 : ((k : Int) + q).toNat = k + q := by omega
      have e2 : ((k : Int) + q + 1).toNat = k + q + 1 := by omega
      have HF : Hid (finL x q r (q + k) = bits BinOp.or IntKind.u64 (lowp x q r (q + k)) (IntKind.u64.wrap (x k * 2 ^ r))) := by
        show _ = _; unfold finL; rw [if_pos (by omega), show q + k - q = k by omega]; rfl
      have HR : Hid (∀ (i : Nat) (h : i < ((ss.setIfInBounds (k + q) (.int .u64 (finL x q r (q + k)))).setIfInBounds (k + q + 1) (.int .u64 (x k / 2 ^ (64 - r)))).size), ((ss.setIfInBounds (k + q) (.int .u64 (finL x q r (q + k)))).setIfInBounds (k + q + 1) (.int .u64 (x k / 2 ^ (64 - r))))[i]'h = Value.int .u64 (stL x q r (k + 1) i)) := stL_step1 hrp hss
      clear hss hfin hmk hx
      generalize hlo : lowp x q r (q + k) = lo at *
      have hcx' := hcw (ss.setIfInBounds (k + q) (.int .u64 (bits BinOp.or IntKind.u64 lo (IntKind.u64.wrap (x k * 2 ^ r))))) k h8
      clear hcw
      go_wp2
      go_region
      go_wp2
      go_roundw
      case rel => refine ⟨k + 1, m + 1, (ss.setIfInBounds (k + q) (.int .u64 (finL x q r (q + k)))).setIfInBounds (k + q + 1) (.int .u64 (x k / 2 ^ (64 - r))), by omega, by go_num, by simp [hsz], HR.out, ?_⟩; rw [HF.out]
      case measure => simp [intOf]; omega
    · obtain rfl : k = n := by omega
      have hT := trim_any _ _ _ _ _ (by omega) (hfin ss m hsz hss)
      have hle := sizeL_le (finL x q r) M
      clear hss hfin hmk hx hcw
      go_wp2_with (go_at_call 35; refine hT.mono ?_; rintro e w1 ⟨g, cap, rfl, hN, hB⟩)
      go_ret
      exact ⟨g, _, cap, rfl, Nat.le_trans hle (Nat.le_of_eq HM.out.symm), hN, (below_drewN (below1 w _) m).trans (hB.mono (by simp))⟩
end Go.Proofs.YthcndcanahhbcaaDoor

/-
  What the document's own Right does: a contract.
-/
set_option linter.unusedVariables false
set_option linter.unusedSimpArgs false
set_option maxRecDepth 20000
set_option linter.unusedSectionVars false
namespace Go.Proofs.YthcndcanahhbcaaDoor
open Go.RowKit

/-- the words of x divided by 2^(64 q + r) -/
def shrW (x : Nat → Int) (q r j : Nat) : Int := if r = 0 then x (q + j) else orW (x (q + j) / 2 ^ r) (IntKind.u64.wrap (x (q + j + 1) * 2 ^ (64 - r)))
theorem shrW_words {x : Nat → Int} (hx : Words x) (q r : Nat) : Words (shrW x q r) := fun j => by
  unfold shrW; split
  · exact hx _
  · exact orW_word _ _ (div_word _ _ (hx _)) (wrap_word _)
theorem shrW_zero {x : Nat → Int} {n : Nat} (zx : ∀ i, n ≤ i → x i = 0) (q r j : Nat) (hj : n ≤ q + j) : shrW x q r j = 0 := by
  unfold shrW; split
  · exact zx _ hj
  · rw [zx _ hj, zx (q + j + 1) (by omega), Int.zero_mul, Int.zero_ediv, wrap_id 0 (by decide), orW_zero 0 (by decide)]
def wl (f : Nat → Int) (k : Nat) : List Value := (List.range k).map fun i => Value.int .u64 (f i)
theorem wl_succ (f : Nat → Int) (k : Nat) : wl f k ++ [Value.int .u64 (f k)] = wl f (k + 1) := by simp [wl, List.range_succ]
theorem num_of_owns' {w' : World} {ao : Option Addr} {k cap base : Nat} {x : Nat → Int} (hx : Words x) (hz : ∀ i, k ≤ i → x i = 0) (h : w'.ownsRow base 25 1 (.slice ao k cap) k (wl x k)) : Num w' ao k cap x := by
  have h0 := h
  obtain ⟨hl, h1⟩ := h0
  rcases h1 with ⟨h1, h2⟩ | ⟨g, cap', cur, he, hb, hh, _⟩
  · cases h1
    exact ⟨Nat.le_refl _, by unfold maxLen; omega, hx, hz, Or.inl ⟨rfl, rfl⟩⟩
  · cases he
    exact num_of_owns (w := w') hx hz h (by
      rcases Nat.lt_or_ge g w'.heap.size with h3 | h3
      · exact h3
      · rw [Array.getElem?_eq_none h3] at hh; cases hh)

set_option maxHeartbeats 1000000 in
theorem right_z (b off n c q : Nat) (s : Int) (x : Nat → Int) (w : World) (hn : n < 4000000000) (hq0 : q < 100000)  (hq : s / 64 = q) (hr : s % 64 = 0) (hs : 0 ≤ s) (h : Num w (some ⟨b, off, none⟩) n c x) :
    Calls Tryd.prog 71 #[.slice (some ⟨b, off, none⟩) n c, .int .i64 s] w fun e w' => ∃ g k cap z, e = .returned (.tuple #[.slice (some ⟨g, 0, none⟩) k cap, .bool z]) ∧ k ≤ n ∧ Num w' (some ⟨g, 0, none⟩) k cap (shrW x q 0) ∧ Below w.heap.size w w' := by
  have hx := h.2.2.1
  have zx := h.2.2.2.1
  have hc : b < w.heap.size ∧ ∀ i, i < n → w.cell? ⟨b, off + i, none⟩ = some (.int .u64 (x i)) := by
    rcases h.2.2.2.2 with ⟨h, _⟩ | ⟨b', off', h, hbs, hc⟩
    · cases h
    · cases h; exact ⟨hbs, hc⟩
  obtain ⟨hbs, hc⟩ := hc
  have hcap := h.1
  have hs6 : s < 6400064 := by omega
  obtain ⟨i0, hi, hz0, hz1, hz2⟩ := info_parts Tryd.info25
  have HX : Hid (Num w (some ⟨b, off, none⟩) n c x) := h
  clear h
  go_enter Tryd.func71, Tryd.ntmps71
  go_wp2
  go_loop [6, 7, 13] (fun g u7 i => ∃ (k : Nat) (z : Bool), k ≤ n ∧ i = .int .i64 k ∧ g = .bool z) (fun _ _ i => n - (intOf i).toNat)
  case atStart => exact ⟨0, false, Nat.zero_le _, rfl, rfl⟩
  case round =>
    obtain ⟨k, z, hk, rfl, rfl⟩ := hrel
    by_cases h8 : k < n
    · have h8i : (k : Int) < n := by omega
      by_cases hkq : k < q
      · have bx := hx k
        have hcx := hc k h8
        clear hc hx zx hi hz0 hz1 hz2
        have hkq' : (k : Int) < q := by omega
        by_cases hz : x k = 0
        · have hz' : (x k != 0) = false := by simp [hz]
          have hne : ((k : Int) == q) = false := by simp; omega
          go_wp2
          go_round
          case rel => exact ⟨k + 1, z, by omega, by go_num, rfl⟩
          case measure => simp [intOf]; omega
        · have hz' : (x k != 0) = true := by simp [hz]
          go_wp2
          go_round
          case rel => exact ⟨k + 1, true, by omega, by go_num, rfl⟩
          case measure => simp [intOf]; omega
      · have hkq' : ¬ (k : Int) < q := by omega
        by_cases hke : k = q
        · subst hke
          have bx := hx k
          have hcx := hc k h8
          clear hc hx zx hi hz0 hz1 hz2
          go_wp2
          all_goals
            go_round
            case rel => first | exact ⟨k + 1, true, by omega, by go_num, rfl⟩ | exact ⟨k + 1, z, by omega, by go_num, rfl⟩
            case measure => simp [intOf]; omega
        · have hcx := hc k h8
          clear hc hx zx hi hz0 hz1 hz2
          have hne : ((k : Int) == q) = false := by simp; omega
          go_wp2
          go_round
          case rel => exact ⟨k + 1, z, by omega, by go_num, rfl⟩
          case measure => simp [intOf]; omega
    · obtain rfl : k = n := by omega
      go_wp2
      go_loopw [8, 9, 10] (fun v i u10 wr => ∃ (j : Nat) (ao : Option Addr) (cp : Nat), j ≤ k - q ∧ i = .int .i64 ((q : Int) + j) ∧ v = .slice ao j cp ∧ wr.ownsRow w.heap.size 25 1 (.slice ao j cp) j (wl (shrW x q 0) j) ∧ Below w.heap.size w wr) (fun _ i _ _ => k + 1 - (intOf i).toNat)
      case atStart => exact ⟨0, none, 0, Nat.zero_le _, by go_num, rfl, World.ownsRow_nil _ _ _ _, Below.refl _ _⟩
      case round =>
        obtain ⟨j, ao, cp, hj, rfl, rfl, hown, hB⟩ := hrel
        by_cases hlt : q + j < k
        · have hlt' : (q : Int) + j < k := by omega
          have bx := hx (q + j)
          have b_y := hx (q + j + 1)
          have e1 : ((q : Int) + j).toNat = q + j := by omega
          have hcx : wr.cell? ⟨b, off + (q + j), none⟩ = some (.int .u64 (x (q + j))) := (hB.cell (p := ⟨b, off + (q + j), none⟩) hbs).trans (hc (q + j) hlt)
          have HW : Hid (Calls Tryd.prog 45 #[.slice (some ⟨b, off, none⟩) k c, .int .i64 ((q : Int) + j + 1)] wr fun e w' => e = .returned (.int .u64 (x (q + j + 1))) ∧ wr = w') := by
            have := word_any (some ⟨b, off, none⟩) k c (q + j + 1) x wr (HX.out.next hB)
            rw [show ((q + j + 1 : Nat) : Int) = (q : Int) + j + 1 by omega] at this
            exact this.mono fun _ _ h => ⟨h.1, h.2.symm⟩
          have hbw := hB.size
          have HO : Hid (wr.ownsRow w.heap.size 25 1 (.slice ao j cp) j (wl (shrW x q 0) j)) := hown
          have HVAL : Hid (shrW x q 0 j = x (q + j)) := by show _ = _; simp [shrW]
          have HOWN : (wr.alloc (.cells #[.int .u64 (x (q + j))] 25)).ownsRow w.heap.size 25 1 (.slice ao j cp) j (wl (shrW x q 0) j) := hown.alloc _
          have HNEWS : ∀ (p : Nat) (u : Value), [Value.int .u64 (x (q + j))][p]? = some u → (wr.alloc (.cells #[.int .u64 (x (q + j))] 25)).cell? ((⟨wr.heap.size, 0, none⟩ : Addr).add p) = some u := by
            intro p u hp
            match p, hp with
            | 0, hp => simp at hp; subst hp; simp [Addr.add]
          have HONE : ∀ u ∈ [Value.int .u64 (x (q + j))], u.oneCell' = true := by
            intro u hu; simp at hu; subst hu; rfl
          clear hc hx zx hown
          go_wp2_with (first | (at_builtin; refine wpList_append_lies _ rfl (.tmp 77) (.tmp 79) 22 rfl w.heap.size 25 i0 (.int .u64 0) 1 8 Tryd.underlying22 hi hz0 hz1 hz2 rfl (by decide) (.slice ao j cp) j (wl (shrW x q 0) j) rfl HOWN ⟨wr.heap.size, 0, none⟩ 1 1 [Value.int .u64 (x (q + j))] rfl rfl HNEWS HONE (by omega) (by unfold maxLen; omega) (by omega) (by simp; omega) (wr.heap.size + 1) (by simp) ?_; intro g cap w1 hown1 hgrow hat hlt1; clear HOWN HNEWS HONE) | (go_at_call 45; refine HW.out.mono ?_; rintro e w' ⟨rfl, rfl⟩))
          have hown2 : w1.ownsRow w.heap.size 25 1 (.slice (some ⟨g, 0, none⟩) (j + 1) cap) (j + 1) (wl (shrW x q 0) (j + 1)) := by
            rw [← HVAL.out, wl_succ] at hown1; exact hown1
          have HB2 : Below w.heap.size w w1 := (hB.alloc hbw _).grown hgrow (by simp; omega) (by
            intro p hp
            rcases ao with _ | ⟨bb, oo, sp⟩
            · cases hp
            · cases hp
              obtain ⟨_, h1⟩ := HO.out
              rcases h1 with ⟨h1, _⟩ | ⟨g', _, _, h1, h2, _⟩
              · cases h1
              · cases h1; exact h2)
          clear hown1 hgrow
          go_wp2
          go_roundw
          case rel => exact ⟨j + 1, some ⟨g, 0, none⟩, cap, by omega, by go_num, rfl, hown2, HB2⟩
          case measure => simp [intOf]; omega
        · have HZ : ∀ i, j ≤ i → shrW x q 0 i = 0 := fun i hi => shrW_zero zx q 0 i (by omega)
          have hT := trim_any ao j cp _ wr (by omega) (num_of_owns' (shrW_words hx q 0) HZ hown)
          have hle := sizeL_le (shrW x q 0) j
          have hlt' : ¬ (q : Int) + j < k := by omega
          clear hc hx zx hown HZ
          go_wp2_with (go_at_call 35; refine hT.mono ?_; rintro e w1 ⟨g, cap, rfl, hN, hB1⟩)
          go_ret2
          exact ⟨g, _, cap, _, rfl, by omega, hN, hB.trans (hB1.mono hB.size)⟩

set_option maxHeartbeats 1000000 in
theorem right_p (b off n c q r : Nat) (s : Int) (x : Nat → Int) (w : World) (hn : n < 4000000000) (hq0 : q < 100000) (hr0 : r < 64) (hrp : 0 < r) (hq : s / 64 = q) (hr : s % 64 = r) (hs : 0 ≤ s) (h : Num w (some ⟨b, off, none⟩) n c x) :
    Calls Tryd.prog 71 #[.slice (some ⟨b, off, none⟩) n c, .int .i64 s] w fun e w' => ∃ g k cap z, e = .returned (.tuple #[.slice (some ⟨g, 0, none⟩) k cap, .bool z]) ∧ k ≤ n ∧ Num w' (some ⟨g, 0, none⟩) k cap (shrW x q r) ∧ Below w.heap.size w w' := by
  have hx := h.2.2.1
  have zx := h.2.2.2.1
  have hc : b < w.heap.size ∧ ∀ i, i < n → w.cell? ⟨b, off + i, none⟩ = some (.int .u64 (x i)) := by
    rcases h.2.2.2.2 with ⟨h, _⟩ | ⟨b', off', h, hbs, hc⟩
    · cases h
    · cases h; exact ⟨hbs, hc⟩
  obtain ⟨hbs, hc⟩ := hc
  have hcap := h.1
  have hs6 : s < 6400064 := by omega
  obtain ⟨i0, hi, hz0, hz1, hz2⟩ := info_parts Tryd.info25
  have HX : Hid (Num w (some ⟨b, off, none⟩) n c x) := h
  clear h
  go_enter Tryd.func71, Tryd.ntmps71
  go_wp2
  go_loop [6, 7, 13] (fun g u7 i => ∃ (k : Nat) (z : Bool), k ≤ n ∧ i = .int .i64 k ∧ g = .bool z) (fun _ _ i => n - (intOf i).toNat)
  case atStart => exact ⟨0, false, Nat.zero_le _, rfl, rfl⟩
  case round =>
    obtain ⟨k, z, hk, rfl, rfl⟩ := hrel
    by_cases h8 : k < n
    · have h8i : (k : Int) < n := by omega
      by_cases hkq : k < q
      · have bx := hx k
        have hcx := hc k h8
        clear hc hx zx hi hz0 hz1 hz2
        have hkq' : (k : Int) < q := by omega
        by_cases hz : x k = 0
        · have hz' : (x k != 0) = false := by simp [hz]
          have hne : ((k : Int) == q) = false := by simp; omega
          go_wp2
          go_round
          case rel => exact ⟨k + 1, z, by omega, by go_num, rfl⟩
          case measure => simp [intOf]; omega
        · have hz' : (x k != 0) = true := by simp [hz]
          go_wp2
          go_round
          case rel => exact ⟨k + 1, true, by omega, by go_num, rfl⟩
          case measure => simp [intOf]; omega
      · have hkq' : ¬ (k : Int) < q := by omega
        by_cases hke : k = q
        · subst hke
          have bx := hx k
          have hcx := hc k h8
          clear hc hx zx hi hz0 hz1 hz2
          go_wp2
          all_goals
            go_round
            case rel => first | exact ⟨k + 1, true, by omega, by go_num, rfl⟩ | exact ⟨k + 1, z, by omega, by go_num, rfl⟩
            case measure => simp [intOf]; omega
        · have hcx := hc k h8
          clear hc hx zx hi hz0 hz1 hz2
          have hne : ((k : Int) == q) = false := by simp; omega
          go_wp2
          go_round
          case rel => exact ⟨k + 1, z, by omega, by go_num, rfl⟩
          case measure => simp [intOf]; omega
    · obtain rfl : k = n := by omega
      go_wp2
      go_loopw [8, 9, 10] (fun v i u10 wr => ∃ (j : Nat) (ao : Option Addr) (cp : Nat), j ≤ k - q ∧ i = .int .i64 ((q : Int) + j) ∧ v = .slice ao j cp ∧ wr.ownsRow w.heap.size 25 1 (.slice ao j cp) j (wl (shrW x q r) j) ∧ Below w.heap.size w wr) (fun _ i _ _ => k + 1 - (intOf i).toNat)
      case atStart => exact ⟨0, none, 0, Nat.zero_le _, by go_num, rfl, World.ownsRow_nil _ _ _ _, Below.refl _ _⟩
      case round =>
        obtain ⟨j, ao, cp, hj, rfl, rfl, hown, hB⟩ := hrel
        by_cases hlt : q + j < k
        · have hlt' : (q : Int) + j < k := by omega
          have bx := hx (q + j)
          have b_y := hx (q + j + 1)
          have e1 : ((q : Int) + j).toNat = q + j := by omega
          have hcx : wr.cell? ⟨b, off + (q + j), none⟩ = some (.int .u64 (x (q + j))) := (hB.cell (p := ⟨b, off + (q + j), none⟩) hbs).trans (hc (q + j) hlt)
          have HW : Hid (Calls Tryd.prog 45 #[.slice (some ⟨b, off, none⟩) k c, .int .i64 ((q : Int) + j + 1)] wr fun e w' => e = .returned (.int .u64 (x (q + j + 1))) ∧ wr = w') := by
            have := word_any (some ⟨b, off, none⟩) k c (q + j + 1) x wr (HX.out.next hB)
            rw [show ((q + j + 1 : Nat) : Int) = (q : Int) + j + 1 by omega] at this
            exact this.mono fun _ _ h => ⟨h.1, h.2.symm⟩
          have hbw := hB.size
          have HO : Hid (wr.ownsRow w.heap.size 25 1 (.slice ao j cp) j (wl (shrW x q r) j)) := hown
          have HVAL : Hid (shrW x q r j = bits BinOp.or IntKind.u64 (x (q + j) / 2 ^ r) (IntKind.u64.wrap (x (q + j + 1) * 2 ^ (64 - r)))) := by show _ = _; unfold shrW; rw [if_neg (by omega)]; rfl
          have HOWN : (wr.alloc (.cells #[.int .u64 (bits BinOp.or IntKind.u64 (x (q + j) / 2 ^ r) (IntKind.u64.wrap (x (q + j + 1) * 2 ^ (64 - r))))] 25)).ownsRow w.heap.size 25 1 (.slice ao j cp) j (wl (shrW x q r) j) := hown.alloc _
          have HNEWS : ∀ (p : Nat) (u : Value), [Value.int .u64 (bits BinOp.or IntKind.u64 (x (q + j) / 2 ^ r) (IntKind.u64.wrap (x (q + j + 1) * 2 ^ (64 - r))))][p]? = some u → (wr.alloc (.cells #[.int .u64 (bits BinOp.or IntKind.u64 (x (q + j) / 2 ^ r) (IntKind.u64.wrap (x (q + j + 1) * 2 ^ (64 - r))))] 25)).cell? ((⟨wr.heap.size, 0, none⟩ : Addr).add p) = some u := by
            intro p u hp
            match p, hp with
            | 0, hp => simp at hp; subst hp; simp [Addr.add]
          have HONE : ∀ u ∈ [Value.int .u64 (bits BinOp.or IntKind.u64 (x (q + j) / 2 ^ r) (IntKind.u64.wrap (x (q + j + 1) * 2 ^ (64 - r))))], u.oneCell' = true := by
            intro u hu; simp at hu; subst hu; rfl
          clear hc hx zx hown
          go_wp2_with (first | (at_builtin; refine wpList_append_lies _ rfl (.tmp 77) (.tmp 79) 22 rfl w.heap.size 25 i0 (.int .u64 0) 1 8 Tryd.underlying22 hi hz0 hz1 hz2 rfl (by decide) (.slice ao j cp) j (wl (shrW x q r) j) rfl HOWN ⟨wr.heap.size, 0, none⟩ 1 1 [Value.int .u64 (bits BinOp.or IntKind.u64 (x (q + j) / 2 ^ r) (IntKind.u64.wrap (x (q + j + 1) * 2 ^ (64 - r))))] rfl rfl HNEWS HONE (by omega) (by unfold maxLen; omega) (by omega) (by simp; omega) (wr.heap.size + 1) (by simp) ?_; intro g cap w1 hown1 hgrow hat hlt1; clear HOWN HNEWS HONE) | (go_at_call 45; refine HW.out.mono ?_; rintro e w' ⟨rfl, rfl⟩))
          have hown2 : w1.ownsRow w.heap.size 25 1 (.slice (some ⟨g, 0, none⟩) (j + 1) cap) (j + 1) (wl (shrW x q r) (j + 1)) := by
            rw [← HVAL.out, wl_succ] at hown1; exact hown1
          have HB2 : Below w.heap.size w w1 := (hB.alloc hbw _).grown hgrow (by simp; omega) (by
            intro p hp
            rcases ao with _ | ⟨bb, oo, sp⟩
            · cases hp
            · cases hp
              obtain ⟨_, h1⟩ := HO.out
              rcases h1 with ⟨h1, _⟩ | ⟨g', _, _, h1, h2, _⟩
              · cases h1
              · cases h1; exact h2)
          clear hown1 hgrow
          go_wp2
          go_roundw
          case rel => exact ⟨j + 1, some ⟨g, 0, none⟩, cap, by omega, by go_num, rfl, hown2, HB2⟩
          case measure => simp [intOf]; omega
        · have HZ : ∀ i, j ≤ i → shrW x q r i = 0 := fun i hi => shrW_zero zx q r i (by omega)
          have hT := trim_any ao j cp _ wr (by omega) (num_of_owns' (shrW_words hx q r) HZ hown)
          have hle := sizeL_le (shrW x q r) j
          have hlt' : ¬ (q : Int) + j < k := by omega
          clear hc hx zx hown HZ
          go_wp2_with (go_at_call 35; refine hT.mono ?_; rintro e w1 ⟨g, cap, rfl, hN, hB1⟩)
          go_ret2
          exact ⟨g, _, cap, _, rfl, by omega, hN, hB.trans (hB1.mono hB.size)⟩
end Go.Proofs.YthcndcanahhbcaaDoor

/-
  What the statements' own cut, is and added do: contracts.
-/
set_option linter.unusedVariables false
set_option linter.unusedSimpArgs false
set_option maxRecDepth 20000
set_option linter.unusedSectionVars false
namespace Go.Proofs.YthcndcanahhbcaaDoor
open Go.RowKit

/-- the words below q -/
def lowW (x : Nat → Int) (q i : Nat) : Int := if i < q then x i else 0
theorem lowW_words {x : Nat → Int} (hx : Words x) (q : Nat) : Words (lowW x q) := fun i => by unfold lowW; split; exact hx i; decide
theorem cmpL_same {x y : Nat → Int} : ∀ n, (∀ i, i < n → x i = y i) → cmpL x y n = 0
  | 0, _ => rfl
  | n + 1, h => by
    have := h n (by omega)
    simp only [cmpL]
    rw [if_neg (by omega), if_neg (by omega)]
    exact cmpL_same n fun i hi => h i (by omega)

set_option maxHeartbeats 400000 in
theorem same_any (a a' : Option Addr) (n c n' c' : Nat) (x : Nat → Int) (w : World) (hn : n < 4294967296) (hn' : n' < 4294967296) (h : Num w a n c x) (h' : Num w a' n' c' x) :
    Calls Tryd.prog 22 #[.slice a n c, .slice a' n' c'] w fun e w' => e = .returned (.bool true) ∧ w' = w := by
  have hc := cmp_any a a' n c n' c' x x w hn hn' h h'
  rw [cmpL_same _ (fun _ _ => rfl)] at hc
  clear h h'
  go_enter Tryd.func22, Tryd.ntmps22
  go_wp2_with (go_at_call 21; refine hc.mono ?_; rintro e w' ⟨rfl, rfl⟩)
  go_ret
  exact ⟨rfl, rfl⟩
set_option maxHeartbeats 400000 in
theorem finL_back {x : Nat → Int} (hx : Words x) (q j : Nat) : finL (shrW x q 0) q 0 j = if q ≤ j then x j else 0 := by
  unfold finL
  split
  · have e1 : lowp (shrW x q 0) q 0 j = 0 := by unfold lowp; rw [if_neg (by omega)]
    have e2 : shrW x q 0 (j - q) = x j := by unfold shrW; rw [if_pos rfl, show q + (j - q) = j by omega]
    rw [e1, e2, Int.pow_zero, Int.mul_one, wrap_id _ (hx j), zero_orW _ (hx j)]
  · rfl
theorem difZ_cut {x : Nat → Int} {n M : Nat} (hx : Words x) (zx : ∀ i, n ≤ i → x i = 0) (hM : n ≤ M) (q : Nat) : difZ x (finL (shrW x q 0) q 0) M = lowW x q := by
  have hb : ∀ i, borW x (finL (shrW x q 0) q 0) i = 0 := by
    intro i
    induction i with
    | zero => rfl
    | succ i ih =>
      have h1 := hx i
      simp only [borW, ih, bor, finL_back hx]
      rw [if_neg]; split <;> omega
  funext i
  unfold difZ lowW difW
  rw [hb i, finL_back hx]
  have h1 := hx i
  by_cases hi : i < M
  · rw [if_pos hi]
    by_cases hq : q ≤ i
    · rw [if_pos hq, if_neg (by omega)]; simp
    · rw [if_neg hq, if_pos (by omega)]; omega
  · rw [if_neg hi]
    have := zx i (by omega)
    split <;> omega

set_option maxHeartbeats 1000000 in
def oneW (c : Int) (j : Nat) : Int := if j = 0 then c else 0
theorem num_one (w : World) (c : Int) (hc : 0 ≤ c ∧ c ≤ 18446744073709551615) : Num (w.alloc (.cells #[.int .u64 c] 25)) (some ⟨w.heap.size, 0, none⟩) 1 1 (oneW c) :=
  num_of_block (by omega) (fun i => by unfold oneW; split; exact hc; decide) (fun i hi => by unfold oneW; rw [if_neg (by omega)]) rfl (fun j hj => match j, hj with | 0, _ => rfl)

end Go.Proofs.YthcndcanahhbcaaDoor

/-
  The value of a number that is given by its words.
-/
set_option linter.unusedVariables false
set_option maxRecDepth 20000
set_option linter.unusedSectionVars false
set_option linter.unusedSimpArgs false
namespace Go.Proofs.YthcndcanahhbcaaDoor

/-- the value of the n lowest words -/
def val (x : Nat → Int) : Nat → Int
  | 0 => 0
  | n + 1 => val x n + x n * 18446744073709551616 ^ n
theorem val_congr {x y : Nat → Int} : ∀ n, (∀ i, i < n → x i = y i) → val x n = val y n
  | 0, _ => rfl
  | n + 1, h => by simp only [val]; rw [val_congr n fun i hi => h i (by omega), h n (by omega)]
theorem pw_pos (n : Nat) : (0 : Int) < 18446744073709551616 ^ n := Int.pow_pos (by decide)
theorem val_bd {x : Nat → Int} (hx : ∀ i, 0 ≤ x i ∧ x i ≤ 18446744073709551615) : ∀ n, 0 ≤ val x n ∧ val x n < 18446744073709551616 ^ n
  | 0 => by simp [val]
  | n + 1 => by
    have ih := val_bd hx n
    have hb := hx n
    have hp := pw_pos n
    simp only [val]
    have h1 : 0 ≤ x n * 18446744073709551616 ^ n := Int.mul_nonneg hb.1 (Int.le_of_lt hp)
    have h2 : x n * 18446744073709551616 ^ n ≤ 18446744073709551615 * 18446744073709551616 ^ n := Int.mul_le_mul_of_nonneg_right hb.2 (Int.le_of_lt hp)
    rw [Int.pow_succ]
    omega
theorem val_set (x : Nat → Int) (p : Nat) (v : Int) : ∀ n, p < n → val (fun i => if i = p then v else x i) n = val x n + (v - x p) * 18446744073709551616 ^ p
  | 0, h => by omega
  | n + 1, h => by
    simp only [val]
    by_cases e : n = p
    · subst e
      rw [if_pos rfl, val_congr (y := x) n fun i hi => if_neg (by omega), Int.sub_mul]; omega
    · rw [if_neg e, val_set x p v n (by omega)]; omega
/-- words are told by the value -/
theorem val_inj {x y : Nat → Int} (hx : ∀ i, 0 ≤ x i ∧ x i ≤ 18446744073709551615) (hy : ∀ i, 0 ≤ y i ∧ y i ≤ 18446744073709551615) : ∀ n, val x n = val y n → ∀ i, i < n → x i = y i
  | 0, _, i, hi => by omega
  | n + 1, h, i, hi => by
    simp only [val] at h
    have bx := val_bd hx n
    have b_y := val_bd hy n
    have hp := pw_pos n
    have e1 : (val x n + x n * 18446744073709551616 ^ n) / 18446744073709551616 ^ n = x n := by
      rw [Int.add_mul_ediv_right _ _ (Int.ne_of_gt hp), Int.ediv_eq_zero_of_lt bx.1 bx.2]; omega
    have e2 : (val y n + y n * 18446744073709551616 ^ n) / 18446744073709551616 ^ n = y n := by
      rw [Int.add_mul_ediv_right _ _ (Int.ne_of_gt hp), Int.ediv_eq_zero_of_lt b_y.1 b_y.2]; omega
    have e3 : x n = y n := by rw [← e1, ← e2, h]
    by_cases e : i = n
    · subst e; exact e3
    · rw [e3] at h
      exact val_inj hx hy n (by omega) i (by omega)
theorem val_more {x : Nat → Int} {n : Nat} (hz : ∀ i, n ≤ i → x i = 0) : ∀ m, n ≤ m → val x m = val x n
  | 0, h => by obtain rfl : n = 0 := by omega
               rfl
  | m + 1, h => by
    by_cases e : n = m + 1
    · rw [e]
    · simp only [val]; rw [val_more hz m (by omega), hz m (by omega)]; omega

/-- one word's product, the word that lies there and the carry: what is laid and what is carried -/
theorem mul_step (a b z c : Int) (ha : 0 ≤ a ∧ a ≤ 18446744073709551615) (hb : 0 ≤ b ∧ b ≤ 18446744073709551615) (hz : 0 ≤ z ∧ z ≤ 18446744073709551615) (hc : 0 ≤ c ∧ c ≤ 18446744073709551615) :
    ((a * b % 18446744073709551616 + z) % 18446744073709551616 + c) % 18446744073709551616 + (a * b / 18446744073709551616 + (a * b % 18446744073709551616 + z) / 18446744073709551616 + ((a * b % 18446744073709551616 + z) % 18446744073709551616 + c) / 18446744073709551616) * 18446744073709551616 = a * b + z + c ∧
    0 ≤ a * b / 18446744073709551616 + (a * b % 18446744073709551616 + z) / 18446744073709551616 ∧ a * b / 18446744073709551616 + (a * b % 18446744073709551616 + z) / 18446744073709551616 ≤ 18446744073709551615 ∧
    0 ≤ a * b / 18446744073709551616 + (a * b % 18446744073709551616 + z) / 18446744073709551616 + ((a * b % 18446744073709551616 + z) % 18446744073709551616 + c) / 18446744073709551616 ∧ a * b / 18446744073709551616 + (a * b % 18446744073709551616 + z) / 18446744073709551616 + ((a * b % 18446744073709551616 + z) % 18446744073709551616 + c) / 18446744073709551616 ≤ 18446744073709551615 := by
  have h1 : 0 ≤ a * b := Int.mul_nonneg ha.1 hb.1
  have h2 : a * b ≤ 18446744073709551615 * 18446744073709551615 := Int.mul_le_mul ha.2 hb.2 hb.1 (by decide)
  generalize a * b = P at *
  omega
/-- a round of the inner loop -/
theorem mul_inner (V Vi a vb b z c s hi : Int) (i k : Nat) (h : V + c * 18446744073709551616 ^ (i + k) = Vi + a * vb * 18446744073709551616 ^ i) (hs : s + hi * 18446744073709551616 = a * b + z + c) :
    V + (s - z) * 18446744073709551616 ^ (i + k) + hi * 18446744073709551616 ^ (i + (k + 1)) = Vi + a * (vb + b * 18446744073709551616 ^ k) * 18446744073709551616 ^ i := by
  have e1 : s = a * b + z + c - hi * 18446744073709551616 := by omega
  have e2 : (18446744073709551616 : Int) ^ (i + (k + 1)) = 18446744073709551616 ^ (i + k) * 18446744073709551616 := by rw [← Int.pow_succ]; rfl
  have e3 : (18446744073709551616 : Int) ^ (i + k) = 18446744073709551616 ^ i * 18446744073709551616 ^ k := Int.pow_add ..
  rw [e1, e2]
  rw [e3] at h ⊢
  generalize (18446744073709551616 : Int) ^ i = p at *
  generalize (18446744073709551616 : Int) ^ k = q at *
  grind
end Go.Proofs.YthcndcanahhbcaaDoor

/-
  What limbs.Mul does at each width: contracts.
-/
set_option linter.unusedVariables false
set_option linter.unusedSimpArgs false
set_option maxRecDepth 20000
set_option linter.unusedSectionVars false
namespace Go.Proofs.YthcndcanahhbcaaDoor
open Go.RowKit
attribute [local go_sem] setCell_drewN alloc_drewN

theorem mul64 (x y : Int) (hx : 0 ≤ x ∧ x ≤ 18446744073709551615) (hy : 0 ≤ y ∧ y ≤ 18446744073709551615) (w : World) :
    Calls Tryd.prog 42 #[.int .u64 x, .int .u64 y] w fun e w' => e = .returned (.tuple #[.int .u64 (x * y / 18446744073709551616), .int .u64 (x * y % 18446744073709551616)]) ∧ w' = w := by
  obtain ⟨a, rfl⟩ := Int.eq_ofNat_of_zero_le hx.1
  obtain ⟨b, rfl⟩ := Int.eq_ofNat_of_zero_le hy.1
  have h := Tryd.bits_Mul64 a b (by omega) (by omega) w
  rw [Int.natCast_ediv, Int.natCast_emod, Int.natCast_mul] at h
  exact h
theorem add64z (x y : Int) (hx : 0 ≤ x) (hy : 0 ≤ y) (w : World) : (callFunc 43 #[.int .u64 x, .int .u64 y, .int .u64 0]).run Tryd.prog w =
    .ok (.value (.tuple #[.int .u64 ((x + y) % 18446744073709551616), .int .u64 ((x + y) / 18446744073709551616)])) w := by
  simpa using add64 x y 0 hx hy (Int.le_refl 0) (by decide) w

/-- the carry into word k, and the product's words -/
def mulC (x : Nat → Int) (n : Int) : Nat → Int
  | 0 => 0
  | k + 1 => x k * n / 18446744073709551616 + (x k * n % 18446744073709551616 + mulC x n k) / 18446744073709551616
def mulP (x : Nat → Int) (n : Int) (k : Nat) : Int := (x k * n % 18446744073709551616 + mulC x n k) % 18446744073709551616
theorem mul_bd (a b c : Int) (ha : 0 ≤ a ∧ a ≤ 18446744073709551615) (hb : 0 ≤ b ∧ b ≤ 18446744073709551615) (hc : 0 ≤ c ∧ c ≤ 18446744073709551615) : 0 ≤ a * b / 18446744073709551616 + (a * b % 18446744073709551616 + c) / 18446744073709551616 ∧ a * b / 18446744073709551616 + (a * b % 18446744073709551616 + c) / 18446744073709551616 ≤ 18446744073709551615 := by
  have h1 : 0 ≤ a * b := Int.mul_nonneg ha.1 hb.1
  have h2 : a * b ≤ 18446744073709551615 * 18446744073709551615 := Int.mul_le_mul ha.2 hb.2 hb.1 (by decide)
  generalize a * b = P at *
  omega
theorem mulC_word {x : Nat → Int} {n : Int} (hx : Words x) (hn : 0 ≤ n ∧ n ≤ 18446744073709551615) : ∀ k, 0 ≤ mulC x n k ∧ mulC x n k ≤ 18446744073709551615
  | 0 => by simp [mulC]
  | k + 1 => mul_bd _ _ _ (hx k) hn (mulC_word hx hn k)
theorem mulP_words (x : Nat → Int) (n : Int) : Words (mulP x n) := fun i => ⟨Int.emod_nonneg _ (by decide), by have := Int.emod_lt_of_pos (x i * n % 18446744073709551616 + mulC x n i) (b := 18446744073709551616) (by decide); unfold mulP; omega⟩
theorem mul_val (x : Nat → Int) (n : Int) : ∀ k, val (mulP x n) k + mulC x n k * 18446744073709551616 ^ k = val x k * n
  | 0 => by simp [val, mulC]
  | k + 1 => by
    have ih := mul_val x n k
    have e1 : mulP x n k + mulC x n (k + 1) * 18446744073709551616 = x k * n + mulC x n k := by
      simp only [mulP, mulC]; generalize x k * n = P; omega
    simp only [val]
    rw [Int.pow_succ]
    generalize (18446744073709551616 : Int) ^ k = p at *
    generalize mulC x n (k + 1) = c' at *
    generalize mulP x n k = d at *
    have e2 : d = x k * n + mulC x n k - c' * 18446744073709551616 := by omega
    rw [e2]
    grind





end Go.Proofs.YthcndcanahhbcaaDoor

/-
  What the document's own Times does: a contract.
-/
set_option linter.unusedVariables false
set_option linter.unusedSimpArgs false
set_option maxRecDepth 20000
set_option linter.unusedSectionVars false
namespace Go.Proofs.YthcndcanahhbcaaDoor
open Go.RowKit
attribute [local go_sem] setCell_drewN alloc_drewN

theorem upd_get {ss : Array Value} {z : Nat → Int} {p : Nat} {v : Int} (h : ∀ j h, ss[j]'h = Value.int .u64 (z j)) (j : Nat) (hj : j < (ss.setIfInBounds p (.int .u64 v)).size) : (ss.setIfInBounds p (.int .u64 v))[j]'hj = Value.int .u64 (if j = p then v else z j) := by
  have h' : j < ss.size := by simpa using hj
  rw [Array.getElem_setIfInBounds h']
  by_cases e : p = j
  · subst e; simp
  · rw [if_neg e, h j h', if_neg (Ne.symm e)]
theorem upd_words {z : Nat → Int} {p : Nat} {v : Int} (hz : Words z) (hv : 0 ≤ v ∧ v ≤ 18446744073709551615) : Words (fun j => if j = p then v else z j) := fun i => by
  show 0 ≤ (if i = p then v else z i) ∧ (if i = p then v else z i) ≤ _
  split
  · exact hv
  · exact hz i
/-- the end of a round of the outer loop -/
theorem mul_outer (V Vi a vb c : Int) (i k : Nat) (h : V + c * 18446744073709551616 ^ (i + k) = Vi * vb + a * vb * 18446744073709551616 ^ i) : V + (c - 0) * 18446744073709551616 ^ (i + k) = (Vi + a * 18446744073709551616 ^ i) * vb := by
  rw [Int.sub_zero, h]; generalize (18446744073709551616 : Int) ^ i = p; grind

set_option maxHeartbeats 2000000 in
theorem times_raw (b off n c b' off' n' c' : Nat) (x y : Nat → Int) (w : World) (hn : n < 1000000) (hn' : n' < 1000000) (h : Num w (some ⟨b, off, none⟩) n c x) (h' : Num w (some ⟨b', off', none⟩) n' c' y) :
    Calls Tryd.prog 17 #[.slice (some ⟨b, off, none⟩) n c, .slice (some ⟨b', off', none⟩) n' c'] w fun e w' => ∃ g k cap z, e = .returned (.slice (some ⟨g, 0, none⟩) k cap) ∧ k ≤ n + n' + 1 ∧ Num w' (some ⟨g, 0, none⟩) k cap z ∧ val z (n + n' + 1) = val x n * val y n' ∧ Below w.heap.size w w' := by
  have hx := h.2.2.1
  have hy := h'.2.2.1
  have hc : b < w.heap.size ∧ ∀ i, i < n → w.cell? ⟨b, off + i, none⟩ = some (.int .u64 (x i)) := by
    rcases h.2.2.2.2 with ⟨h, _⟩ | ⟨b', off', h, hbs, hc⟩
    · cases h
    · cases h; exact ⟨hbs, hc⟩
  have hc' : b' < w.heap.size ∧ ∀ i, i < n' → w.cell? ⟨b', off' + i, none⟩ = some (.int .u64 (y i)) := by
    rcases h'.2.2.2.2 with ⟨h, _⟩ | ⟨b', off', h, hbs, hc⟩
    · cases h
    · cases h; exact ⟨hbs, hc⟩
  have hcap := h.1
  have hcap' := h'.1
  obtain ⟨M, hM⟩ : ∃ M, n + n' + 1 = M := ⟨_, rfl⟩
  have hMi : (n : Int) + n' + 1 = (M : Int) := by omega
  have hmk := fun w => make_any ((n : Int) + n' + 1) M hMi (by omega) w
  have hcw : ∀ (ss : Array Value) i, i < n → (w.alloc (.cells ss 25)).cell? ⟨b, off + i, none⟩ = some (.int .u64 (x i)) := fun ss i hi => ((below1 w _).cell (p := ⟨b, off + i, none⟩) hc.1).trans (hc.2 i hi)
  have hcw' : ∀ (ss : Array Value) i, i < n' → (w.alloc (.cells ss 25)).cell? ⟨b', off' + i, none⟩ = some (.int .u64 (y i)) := fun ss i hi => ((below1 w _).cell (p := ⟨b', off' + i, none⟩) hc'.1).trans (hc'.2 i hi)
  have HM : Hid (n + n' + 1 = M) := hM
  have HZ : Hid ((arrOf (fun _ => 0) M).size = M ∧ ∀ j h, (arrOf (fun _ => 0) M)[j]'h = Value.int .u64 0) := ⟨arrOf_size _ _, fun j h => arrOf_get _ _ _ _⟩
  clear h h' hMi hc hc' hM
  generalize arrOf (fun _ => 0) M = zz at *
  go_enter Tryd.func17, Tryd.ntmps17
  go_wp2
  go_loopw [22] (fun i wr => ∃ (k m : Nat) (ss : Array Value) (z : Nat → Int), k ≤ n ∧ i = .int .i64 k ∧ ss.size = M ∧ (∀ j h, ss[j]'h = Value.int .u64 (z j)) ∧ Words z ∧ (∀ j, k + n' ≤ j → z j = 0) ∧ val z M = val x k * val y n' ∧ wr = (w.alloc (.cells ss 25)).drewN m) (fun i _ => n - (intOf i).toNat)
  case atStart =>
    refine ⟨0, 0, zz, fun _ => 0, Nat.zero_le _, rfl, HZ.out.1, HZ.out.2, fun _ => (by decide : (0 : Int) ≤ 0 ∧ (0 : Int) ≤ 18446744073709551615), fun _ _ => rfl, ?_, rfl⟩
    have : ∀ m, val (fun _ => 0) m = 0 := by intro m; induction m with | zero => rfl | succ m ih => simp only [val]; rw [ih]; simp
    rw [this]; simp [val]
  case round =>
    obtain ⟨k, m, ss, z, hk, rfl, hsz, hss, hzw, hz0, hv, rfl⟩ := hrel
    by_cases h8 : k < n
    · have h8i : (k : Int) < n := by omega
      have bx := hx k
      have hcx := fun ss => hcw ss k h8
      have h0p : (∀ j, k + n' ≤ j → z j = 0) := hz0
      go_wp2
      go_loopw [7, 27] (fun cc kk wr => ∃ (q m : Nat) (ss : Array Value) (z : Nat → Int) (C : Int), q ≤ n' ∧ kk = .int .i64 q ∧ cc = .int .u64 C ∧ (0 ≤ C ∧ C ≤ 18446744073709551615) ∧ ss.size = M ∧ (∀ j h, ss[j]'h = Value.int .u64 (z j)) ∧ Words z ∧ (∀ j, k + n' ≤ j → z j = 0) ∧ Hid (val z M + C * 18446744073709551616 ^ (k + q) = val x k * val y n' + x k * val y q * 18446744073709551616 ^ k) ∧ wr = (w.alloc (.cells ss 25)).drewN m) (fun _ kk _ => n' - (intOf kk).toNat)
      case atStart => exact ⟨0, m, ss, z, 0, Nat.zero_le _, rfl, rfl, by decide, hsz, hss, hzw, hz0, by show _ = _; rw [hv]; simp [val], rfl⟩
      case round =>
        clear hss hsz hzw hz0 hv h0p
        obtain ⟨q, m2, s2, z2, C, hq, rfl, rfl, hCb, hsz, hss, hzw, hz0, hv, rfl⟩ := hrel
        by_cases hqn : q < n'
        · have hqi : (q : Int) < n' := by omega
          have b_y := hy q
          have hcy := hcw' s2 q hqn
          have hcx2 := hcx s2
          have hp : k + q < s2.size := by have := HM.out; omega
          have hpi : (k : Int) + q < M := by have := HM.out; omega
          have e1 : ((k : Int) + q).toNat = k + q := by omega
          have hsp : s2[k + q]? = some (.int .u64 (z2 (k + q))) := by rw [Array.getElem?_eq_getElem hp, hss _ hp]
          have hsp' : ∀ h, s2[k + q]'h = .int .u64 (z2 (k + q)) := fun h => hss _ h
          have hzp := hzw (k + q)
          have hms := mul_step (x k) (y q) (z2 (k + q)) C bx b_y hzp hCb
          have hmul := mul64 (x k) (y q) bx b_y
          have hL0 : 0 ≤ x k * y q % 18446744073709551616 := Int.emod_nonneg _ (by decide)
          have hH0 : 0 ≤ x k * y q / 18446744073709551616 := Int.ediv_nonneg (Int.mul_nonneg bx.1 b_y.1) (by decide)
          have hA1 := fun w => add64z (x k * y q % 18446744073709551616) (z2 (k + q)) hL0 hzp.1 w
          have hs0 : 0 ≤ (x k * y q % 18446744073709551616 + z2 (k + q)) % 18446744073709551616 := Int.emod_nonneg _ (by decide)
          have hd0 : 0 ≤ (x k * y q % 18446744073709551616 + z2 (k + q)) / 18446744073709551616 := Int.ediv_nonneg (by omega) (by decide)
          have hA2 := fun w => add64z ((x k * y q % 18446744073709551616 + z2 (k + q)) % 18446744073709551616) C hs0 hCb.1 w
          have ht0 : 0 ≤ ((x k * y q % 18446744073709551616 + z2 (k + q)) % 18446744073709551616 + C) % 18446744073709551616 ∧ ((x k * y q % 18446744073709551616 + z2 (k + q)) % 18446744073709551616 + C) % 18446744073709551616 ≤ 18446744073709551615 := by omega
          have hf0 : 0 ≤ ((x k * y q % 18446744073709551616 + z2 (k + q)) % 18446744073709551616 + C) / 18446744073709551616 := Int.ediv_nonneg (by omega) (by decide)
          generalize ((x k * y q % 18446744073709551616 + z2 (k + q)) % 18446744073709551616 + C) % 18446744073709551616 = t2 at *
          generalize ((x k * y q % 18446744073709551616 + z2 (k + q)) % 18446744073709551616 + C) / 18446744073709551616 = f2 at *
          generalize (x k * y q % 18446744073709551616 + z2 (k + q)) % 18446744073709551616 = t1 at *
          generalize (x k * y q % 18446744073709551616 + z2 (k + q)) / 18446744073709551616 = f1 at *
          generalize x k * y q % 18446744073709551616 = lo at *
          generalize x k * y q / 18446744073709551616 = hi at *
          have HMS : Hid (t2 + (hi + f1 + f2) * 18446744073709551616 = x k * y q + z2 (k + q) + C) := hms.1
          have hb1 : 0 ≤ hi + f1 := hms.2.1
          have hb2 : hi + f1 ≤ 18446744073709551615 := hms.2.2.1
          have hb3 : 0 ≤ hi + f1 + f2 := hms.2.2.2.1
          have hb4 : hi + f1 + f2 ≤ 18446744073709551615 := hms.2.2.2.2
          have HSS : Hid (∀ j h, s2[j]'h = Value.int .u64 (z2 j)) := hss
          have HZW : Hid (Words z2) := hzw
          have HZ0 : Hid (∀ j, k + n' ≤ j → z2 j = 0) := hz0
          have HR : Hid (val (fun j => if j = k + q then t2 else z2 j) M + (hi + f1 + f2) * 18446744073709551616 ^ (k + (q + 1)) = val x k * val y n' + x k * val y (q + 1) * 18446744073709551616 ^ k) := by
            show _ = _
            rw [val_set z2 (k + q) t2 M (by have := HM.out; omega)]
            exact mul_inner _ _ _ _ _ _ _ _ _ k q hv.out hms.1
          clear hms hss hzw hz0 hx hy hcw hcw' hmk hv
          go_wp2
          go_quiet ((go_at_call 42; exact (hmul _).mono fun _ _ h => ⟨h.1, _, h.2⟩))
          go_wp2
          go_roundw
          case rel => exact ⟨q + 1, m2 + nq, s2.setIfInBounds (k + q) (.int .u64 t2), fun j => if j = k + q then t2 else z2 j, hi + f1 + f2, by omega, by go_num, rfl, ⟨hb3, hb4⟩, by simp [hsz], upd_get HSS.out, upd_words HZW.out ht0, fun j hj => (if_neg (show ¬ j = k + q by omega)).trans (HZ0.out j hj), HR, by simp [go_sem]⟩
          case measure => simp [intOf]; omega
        · obtain rfl : q = n' := by omega
          have hp : k + q < s2.size := by have := HM.out; omega
          have hpi : (k : Int) + q < M := by have := HM.out; omega
          have e1 : ((k : Int) + q).toNat = k + q := by omega
          have hsp : s2[k + q]? = some (.int .u64 0) := by rw [Array.getElem?_eq_getElem hp, hss _ hp, hz0 _ (Nat.le_refl _)]
          have HR : Hid (val (fun j => if j = k + q then C else z2 j) M = val x (k + 1) * val y q) := by
            show _ = _
            rw [val_set z2 (k + q) C M (by have := HM.out; omega), hz0 _ (Nat.le_refl _)]
            exact mul_outer _ _ _ _ _ k q hv.out
          have HSS : Hid (∀ j h, s2[j]'h = Value.int .u64 (z2 j)) := hss
          have HZW : Hid (Words z2) := hzw
          have HZ0 : Hid (∀ j, k + q ≤ j → z2 j = 0) := hz0
          clear hss hzw hz0 hx hy hcw hcw' hmk hv hcx
          go_wp2
          go_roundw
          case rel => exact ⟨k + 1, m2, s2.setIfInBounds (k + q) (.int .u64 C), fun j => if j = k + q then C else z2 j, by omega, by go_num, by simp [hsz], upd_get HSS.out, upd_words HZW.out hCb, fun j hj => (if_neg (show ¬ j = k + q by omega)).trans (HZ0.out j (by omega)), HR.out, by simp [go_sem]⟩
          case measure => simp [intOf]; omega
    · obtain rfl : k = n := by omega
      have hT := trim_any _ _ _ _ _ (by have := HM.out; omega) ((num_of_block (w := w) (by have := HM.out; omega) hzw (fun i hi => hz0 i (by have := HM.out; omega)) hsz hss).drewN m)
      have hle := sizeL_le z M
      clear hss hmk hx hy hcw hcw' hzw hz0
      go_wp2_with (go_at_call 35; refine hT.mono ?_; rintro e w1 ⟨g, cap, rfl, hN, hB⟩)
      go_ret
      exact ⟨g, _, cap, z, rfl, Nat.le_trans hle (Nat.le_of_eq HM.out.symm), hN, by rw [HM.out]; exact hv, (below_drewN (below1 w _) m).trans (hB.mono (by simp))⟩
end Go.Proofs.YthcndcanahhbcaaDoor

/-
  A region that draws its order, whose callees may make memory of their own: walked once, in the order of the text, over a class of worlds.
-/
set_option maxRecDepth 20000
set_option linter.unusedVariables false
set_option linter.unusedSectionVars false
set_option linter.unusedSimpArgs false
namespace Go.Proofs.YthcndcanahhbcaaDoor
open Go.RowKit

/-- a world of the class p -/
structure Wd (p : World → Prop) where
  w : World
  h : p w

theorem wp_region_wd {P : Program} (p : World → Prop) {id : Nat} {Q : Exit → Act → World → Prop} {a : Act} {w : World} {l : List Oper} (hm : P.follows .mixedOrders = true) (hB : Region.lexB .any l.toArray = true) (hp : p w.drew)
    (h : wpQuiet P l.toArray (fun w' => ∃ t : Wd p, w' = t.w) (fun a' => ∀ w', (∃ t : Wd p, w' = t.w) → Q .normal a' w') l a) : (Code.region id l.toArray true).wp P Q a w :=
  wp_region_quiet (C := fun w' => ∃ t : Wd p, w' = t.w) hm hB ⟨⟨_, hp⟩, rfl⟩ (by simpa using h)

theorem calls_wd {P : Program} {p : World → Prop} {f : FuncId} {args : Array Value} {v : Value} (t : Wd p) (hp : ∀ w w', p w → Below w.heap.size w w' → p w')
    (h : Calls P f args t.w fun e w' => e = .returned v ∧ Below t.w.heap.size t.w w') : Calls P f args t.w fun e w'' => e = .returned v ∧ ∃ t' : Wd p, w'' = t'.w :=
  h.mono fun _ w' ⟨h1, h2⟩ => ⟨h1, ⟨w', hp _ _ t.h h2⟩, rfl⟩
theorem calls_wd_same {P : Program} {p : World → Prop} {f : FuncId} {args : Array Value} {v : Value} (t : Wd p)
    (h : Calls P f args t.w fun e w' => e = .returned v ∧ w' = t.w) : Calls P f args t.w fun e w'' => e = .returned v ∧ ∃ t' : Wd p, w'' = t'.w :=
  h.mono fun _ _ ⟨h1, h2⟩ => ⟨h1, t, h2⟩
end Go.Proofs.YthcndcanahhbcaaDoor

/-
  Blocks of words that stand while other memory is made and written.
-/
set_option linter.unusedVariables false
set_option linter.unusedSimpArgs false
set_option maxRecDepth 20000
set_option linter.unusedSectionVars false
namespace Go.Proofs.YthcndcanahhbcaaDoor
open Go.RowKit

/-- the words of x lie in block g -/
def HasN (g n : Nat) (x : Nat → Int) (w : World) : Prop := g < w.heap.size ∧ ∀ i, i < n → w.cell? ⟨g, i, none⟩ = some (.int .u64 (x i))
theorem HasN.next {g n : Nat} {x : Nat → Int} {w w' : World} (h : HasN g n x w) (hb : Below w.heap.size w w') : HasN g n x w' :=
  ⟨Nat.lt_of_lt_of_le h.1 hb.size, fun i hi => (hb.cell (p := ⟨g, i, none⟩) h.1).trans (h.2 i hi)⟩
theorem HasN.of_alloc (w : World) (cs : Array Value) (t : TypeId) (n : Nat) (x : Nat → Int) (h : ∀ i, i < n → cs[i]? = some (.int .u64 (x i))) : HasN w.heap.size n x (w.alloc (.cells cs t)) :=
  ⟨by simp, fun i hi => by rw [World.cell?_alloc_new]; exact h i hi⟩
theorem HasN.num {g n c m : Nat} {x : Nat → Int} {w : World} (h : HasN g m x w) (hx : Words x) (hn : n ≤ m) (hc : n ≤ c) (hcm : c ≤ maxLen) : Num w (some ⟨g, 0, none⟩) n c (lowW x n) :=
  ⟨hc, hcm, lowW_words hx n, fun i hi => by unfold lowW; rw [if_neg (by omega)], Or.inr ⟨g, 0, rfl, h.1, fun i hi => by rw [Nat.zero_add, h.2 i (by omega)]; unfold lowW; rw [if_pos hi]⟩⟩

/-- all the blocks of the list stand; nothing elder than the call has turned -/
def KP (w0 : World) (l : List (Nat × Nat × (Nat → Int))) (w : World) : Prop := Below w0.heap.size w0 w ∧ ∀ e ∈ l, HasN e.1 e.2.1 e.2.2 w
theorem KP.next {w0 : World} {l : List (Nat × Nat × (Nat → Int))} {w w' : World} (h : KP w0 l w) (hb : Below w.heap.size w w') : KP w0 l w' := ⟨h.1.trans (hb.mono h.1.size), fun e he => (h.2 e he).next hb⟩
theorem KP.drew {w0 : World} {l : List (Nat × Nat × (Nat → Int))} {w : World} (h : KP w0 l w) : KP w0 l w.drew := ⟨h.1.drew, h.2⟩
theorem KP.alloc {w0 : World} {l : List (Nat × Nat × (Nat → Int))} {w : World} (h : KP w0 l w) (o : Obj) : KP w0 l (w.alloc o) := h.next (below1 w o)
theorem KP.setg {w0 : World} {l : List (Nat × Nat × (Nat → Int))} {w wg : World} (h : KP w0 l w) (hg : KP w0 l wg) (i : Nat) (v : Value) : KP w0 l (w.setCell ⟨wg.heap.size, i, none⟩ v) := by
  refine ⟨h.1.setCell hg.1.size v, fun e he => ?_⟩
  have h1 := h.2 e he
  have h2 := (hg.2 e he).1
  have hb : Below (e.1 + 1) w (w.setCell ⟨wg.heap.size, i, none⟩ v) := (Below.refl _ _).setCell (by show e.1 + 1 ≤ wg.heap.size; omega) v
  exact ⟨Nat.lt_of_lt_of_le h1.1 hb.size, fun j hj => (hb.cell (p := ⟨e.1, j, none⟩) (by show e.1 < e.1 + 1; omega)).trans (h1.2 j hj)⟩
theorem KP.cons {w0 : World} {l : List (Nat × Nat × (Nat → Int))} {w : World} (h : KP w0 l w) {g n : Nat} {x : Nat → Int} (hg : HasN g n x w) : KP w0 ((g, n, x) :: l) w := ⟨h.1, fun e he => by
  rcases List.mem_cons.1 he with rfl | he
  · exact hg
  · exact h.2 e he⟩
theorem KP.at {w0 : World} {l : List (Nat × Nat × (Nat → Int))} {w : World} (h : KP w0 l w) {g n : Nat} {x : Nat → Int} (hm : (g, n, x) ∈ l) : HasN g n x w := h.2 _ hm
theorem lt_alloc {W w3 : World} {o : Obj} {n : Nat} (hb : Below n (W.alloc o).drew w3) : W.heap.size < w3.heap.size := by
  have h := hb.size
  have h2 : (W.alloc o).drew.heap.size = W.heap.size + 1 := World.size_alloc W o
  omega
theorem lt_alloc' {W w3 : World} {o : Obj} {n : Nat} (hb : Below n (W.alloc o) w3) : W.heap.size < w3.heap.size := by
  have h := hb.size
  have h2 : (W.alloc o).heap.size = W.heap.size + 1 := World.size_alloc W o
  omega
theorem KP.new {w0 : World} {l : List (Nat × Nat × (Nat → Int))} {w : World} (h : KP w0 l w) (cs : Array Value) (t : TypeId) (n : Nat) (x : Nat → Int) (hc : ∀ i, i < n → cs[i]? = some (.int .u64 (x i))) : KP w0 ((w.heap.size, n, x) :: l) (w.alloc (.cells cs t)) :=
  (h.alloc _).cons (HasN.of_alloc w cs t n x hc)
/-- n cells of a block that was made some time ago, written one by one -/
def putN (w : World) (g : Nat) (x : Nat → Int) : Nat → World
  | 0 => w
  | n + 1 => (putN w g x n).setCell ⟨g, n, none⟩ (.int .u64 (x n))
theorem putN_kp {w0 : World} {l : List (Nat × Nat × (Nat → Int))} {w wg : World} (h : KP w0 l w) (hg : KP w0 l wg) (x : Nat → Int) : ∀ n, KP w0 l (putN w wg.heap.size x n)
  | 0 => h
  | n + 1 => (putN_kp h hg x n).setg hg n _
theorem putN_size (w : World) (g : Nat) (x : Nat → Int) : ∀ n, w.heap.size ≤ (putN w g x n).heap.size
  | 0 => Nat.le_refl _
  | n + 1 => Nat.le_trans (putN_size w g x n) ((Below.refl 0 _).setCell (Nat.zero_le _) _ : Below 0 _ _).size
theorem putN_cell (w : World) (g N : Nat) (x : Nat → Int) (hc : ∀ i, i < N → (w.cell? ⟨g, i, none⟩).isSome = true) : ∀ n, n ≤ N → ∀ i, i < N → (putN w g x n).cell? ⟨g, i, none⟩ = if i < n then some (.int .u64 (x i)) else w.cell? ⟨g, i, none⟩
  | 0, _, i, _ => by rw [if_neg (by omega)]; rfl
  | n + 1, hn, i, hi => by
    have ih := putN_cell w g N x hc n (by omega)
    show ((putN w g x n).setCell ⟨g, n, none⟩ (.int .u64 (x n))).cell? ⟨g, i, none⟩ = _
    by_cases e : i = n
    · subst e
      rw [if_pos (by omega)]
      have := ih i hi
      rw [if_neg (by omega)] at this
      exact World.cell?_setCell_same' _ _ _ (by rw [this]; exact hc i hi)
    · have hne : (⟨g, n, none⟩ : Addr) ≠ ⟨g, i, none⟩ := by intro h; injection h with h1 h2; exact e h2.symm
      refine Eq.trans (World.cell?_setCell_other (h := hne) ..) ?_
      rw [ih i hi]
      by_cases e2 : i < n
      · rw [if_pos e2, if_pos (by omega)]
      · rw [if_neg e2, if_neg (by omega)]
theorem KP.put {w0 : World} {l : List (Nat × Nat × (Nat → Int))} {w wg : World} (h : KP w0 l w) (hg : KP w0 l wg) (hlt : wg.heap.size < w.heap.size) (x : Nat → Int) (n : Nat) (hc : ∀ i, i < n → (w.cell? ⟨wg.heap.size, i, none⟩).isSome = true) : KP w0 ((wg.heap.size, n, x) :: l) (putN w wg.heap.size x n) :=
  (putN_kp h hg x n).cons ⟨Nat.lt_of_lt_of_le hlt (putN_size w _ x n), fun i hi => by rw [putN_cell w wg.heap.size n x hc n (Nat.le_refl _) i hi, if_pos hi]⟩
end Go.Proofs.YthcndcanahhbcaaDoor

/-
  What nat's bare and Trim do: contracts.
-/
set_option linter.unusedVariables false
set_option linter.unusedSimpArgs false
set_option maxRecDepth 20000
set_option linter.unusedSectionVars false
namespace Go.Proofs.YthcndcanahhbcaaDoor
open Go.RowKit

set_option maxHeartbeats 400000 in
theorem bare_any (a : Option Addr) (n c : Nat) (x : Nat → Int) (w : World) (hn : n < 4294967296) (h : Num w a n c x) :
    Calls Tryd.prog 54 #[.slice a n c] w fun e w' => e = .returned (.slice a (sizeL x n) c) ∧ w = w' := by
  obtain ⟨h1, h2, h3, h4, h5⟩ := h
  rcases h5 with ⟨rfl, rfl⟩ | ⟨b, off, rfl, hbs, hc⟩
  · obtain rfl : n = 0 := by omega
    go_enter Tryd.func54, Tryd.ntmps54
    go_wp2
    go_loop [3] (fun t => t = .int .i64 0) (fun t => (intOf t).toNat)
    case atStart => rfl
    case round =>
      subst hrel
      go_wp2
      go_ret
      exact ⟨rfl, rfl⟩
  · unfold maxLen at h2
    clear h3 h4
    go_enter Tryd.func54, Tryd.ntmps54
    go_wp2
    go_loop [3] (fun t => ∃ k : Nat, k ≤ n ∧ sizeL x k = sizeL x n ∧ t = .int .i64 k) (fun t => (intOf t).toNat)
    case atStart => exact ⟨n, Nat.le_refl _, rfl, rfl⟩
    case round =>
      obtain ⟨k, hk, hs, rfl⟩ := hrel
      by_cases h0 : k = 0
      · subst h0
        have HS : Hid (sizeL x n = 0) := hs.symm
        clear hs hc
        go_wp2
        go_ret
        exact ⟨by rw [HS.out]; rfl, rfl⟩
      · obtain ⟨j, rfl⟩ : ∃ j, k = j + 1 := ⟨k - 1, by omega⟩
        have hcj := hc j (by omega)
        by_cases hzj : x j = 0
        · have HS : Hid (sizeL x j = sizeL x n) := by
            have : sizeL x (j + 1) = sizeL x j := by simp [sizeL, hzj]
            exact this.symm.trans hs
          clear hs hc
          go_wp2
          go_round
          case rel => exact ⟨j, by omega, HS.out, by go_num⟩
          case measure => simp [intOf]
        · have HS : Hid (sizeL x n = j + 1) := by
            have : sizeL x (j + 1) = j + 1 := by simp [sizeL, hzj]
            exact hs.symm.trans this
          clear hs hc
          go_wp2
          go_ret
          exact ⟨by rw [HS.out]; rfl, rfl⟩

theorem sizeL_zero {x : Nat → Int} : ∀ n, (∀ i, n ≤ i → x i = 0) → ∀ i, sizeL x n ≤ i → x i = 0
  | 0, h, i, _ => h i (Nat.zero_le _)
  | n + 1, h, i, hi => by
    by_cases hz : x n = 0
    · rw [show sizeL x (n + 1) = sizeL x n by simp [sizeL, hz]] at hi
      exact sizeL_zero n (fun j hj => if e : j = n then e ▸ hz else h j (by omega)) i hi
    · rw [show sizeL x (n + 1) = n + 1 by simp [sizeL, hz]] at hi
      exact h i hi
theorem sizeL_top {x : Nat → Int} : ∀ n, 0 < sizeL x n → x (sizeL x n - 1) ≠ 0
  | 0, h => by simp [sizeL] at h
  | n + 1, h => by
    by_cases hz : x n = 0
    · rw [show sizeL x (n + 1) = sizeL x n by simp [sizeL, hz]] at h ⊢
      exact sizeL_top n h
    · rw [show sizeL x (n + 1) = n + 1 by simp [sizeL, hz]]
      exact hz
theorem sizeL_sizeL (x : Nat → Int) : ∀ n, sizeL x (sizeL x n) = sizeL x n
  | 0 => rfl
  | n + 1 => by
    by_cases hz : x n = 0
    · rw [show sizeL x (n + 1) = sizeL x n by simp [sizeL, hz]]; exact sizeL_sizeL x n
    · have : sizeL x (n + 1) = n + 1 := by simp [sizeL, hz]
      rw [this]; exact this
theorem Num.bare {w : World} {a : Option Addr} {n c : Nat} {x : Nat → Int} (h : Num w a n c x) : Num w a (sizeL x n) c x := by
  obtain ⟨h1, h2, h3, h4, h5⟩ := h
  have hle := sizeL_le x n
  refine ⟨by omega, h2, h3, sizeL_zero n h4, ?_⟩
  rcases h5 with ⟨h, h'⟩ | ⟨b, off, h, hb, hc⟩
  · exact Or.inl ⟨h, h'⟩
  · exact Or.inr ⟨b, off, h, hb, fun i hi => hc i (by omega)⟩
theorem setRow_new (w : World) (cs ds : Array Value) (t : TypeId) : (w.alloc (.cells cs t)).setRow w.heap.size ds = w.alloc (.cells ds t) := World.setRow_alloc_new w cs ds t
theorem wl_get (x : Nat → Int) (k j : Nat) (v : Value) (h : (wl x k)[j]? = some v) : j < k ∧ v = .int .u64 (x j) := by
  have hj : j < k := by
    rcases Nat.lt_or_ge j k with h' | h'
    · exact h'
    · rw [List.getElem?_eq_none (by simpa [wl] using h')] at h; cases h
  refine ⟨hj, ?_⟩
  simpa [wl, hj] using h.symm
theorem copy_num {w : World} {a : Option Addr} {k c N C : Nat} {x : Nat → Int} (ty : TypeId) (h : Num w a k c x) (hN : k ≤ N) :
    (Builtin.copy_ #[22, 22] ty #[.slice (some ⟨w.heap.size, 0, none⟩) N C, .slice a k c]).run Tryd.prog (w.alloc (.cells (arrOf (fun _ => 0) N) 25)) = .ok (goInt k) (w.alloc (.cells (arrOf x N) 25)) := by
  obtain ⟨h1, h2, h3, h4, h5⟩ := h
  have hsz : (Tryd.prog.info? 25).map (·.size) = some 1 := by kernel_rfl
  rcases h5 with ⟨rfl, rfl⟩ | ⟨b, off, rfl, hb, hc⟩
  · obtain rfl : k = 0 := by omega
    rw [run_copy_none _ 22 22 ty 25 _ _ _ _ _ _ Tryd.underlying22 hsz (by simp)]
    have : arrOf (fun _ => 0) N = arrOf x N := arrOf_congr fun i _ => (h4 i (Nat.zero_le _)).symm
    rw [this]; rfl
  · have hl : (wl x k).length = k := by simp [wl]
    rw [run_copy_row _ _ 22 22 ty 25 w.heap.size 0 N C ⟨b, off, none⟩ k c (arrOf (fun _ => 0) N) 25 (wl x k) Tryd.underlying22 hsz (MapKept.heap_alloc w _).1 (by rw [hl]; exact (Nat.min_eq_left hN).symm) ?_ (by rw [hl, arrOf_size]; omega) ?_]
    · rw [hl, setRow_new]
      have : ((arrOf (fun _ => 0) N).toList.take 0 ++ wl x k ++ (arrOf (fun _ => 0) N).toList.drop (0 + k)).toArray = arrOf x N := by
        apply arrOf_of
        · simp [wl, arrOf]; omega
        · intro i hi
          by_cases hik : i < k
          · simp [wl, arrOf, List.getElem?_append, hik]
          · simp [wl, arrOf, List.getElem?_append, hik]
            rw [h4 i (by omega)]
            have : k + (i - k) = i := by omega
            simp [this, hi]
      rw [this]
    · intro j v hj
      obtain ⟨hjk, rfl⟩ := wl_get x k j v hj
      have ea : (⟨b, off, none⟩ : Addr).add j = ⟨b, off + j, none⟩ := by simp [Addr.add]
      rw [ea]
      exact ((below1 w _).cell (p := ⟨b, off + j, none⟩) hb).trans (hc j hjk)
    · intro v hv
      obtain ⟨q, _, rfl⟩ := List.mem_map.1 hv
      rfl

set_option maxHeartbeats 1000000 in
theorem ntrim_any (a : Option Addr) (n c : Nat) (x : Nat → Int) (w : World) (hn : n < 4294967296) (h : Num w a n c x) :
    Calls Tryd.prog 62 #[.slice a n c] w fun e w' => e = .returned (.slice (some ⟨w.heap.size, 0, none⟩) (sizeL x n) (sizeL x n)) ∧ w.alloc (.cells (arrOf x (sizeL x n)) 25) = w' := by
  have hb := bare_any a n c x w hn h
  have hle := sizeL_le x n
  have hmk := fun w => make_any (sizeL x n : Int) (sizeL x n) rfl (by omega) w
  have hcp := fun ty => copy_num (N := sizeL x n) (C := sizeL x n) ty h.bare (Nat.le_refl _)
  clear h
  generalize sizeL x n = s at *
  go_enter Tryd.func62, Tryd.ntmps62
  go_wp2_with (go_at_call 54; refine hb.mono ?_; rintro e w' ⟨rfl, rfl⟩)
  go_ret
  exact ⟨rfl, rfl⟩
end Go.Proofs.YthcndcanahhbcaaDoor
