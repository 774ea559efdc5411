/-
  Texts that the proof leans on.
-/
import Derived.Test.YtpemdcnneabbfaaGreatDoorRows
import Derived.Test.YtpemdcnneabbfaaGreatDoorJ2
import Derived.WalkKit
import Derived.WalkSpells
import Derived.WalkLawsBesides
import Derived.Laws.Externs
import Derived.Deep.RegionHeld3
import Derived.Deep.DrawnRows
import Derived.BigQuiet
set_option linter.unusedVariables false
set_option linter.unusedSectionVars false
set_option linter.unusedSimpArgs false
set_option maxRecDepth 20000
namespace Go.Proofs.YtpemdcnneabbfaaGreatDoor
open Go.RowKit
section
/-- how many words without noughts at the end -/
def sizeL (x : Nat → Int) : Nat → Nat
  | 0 => 0
  | n + 1 => if x n = 0 then sizeL x n else n + 1

theorem sizeL_le (x : Nat → Int) (n : Nat) : sizeL x n ≤ n := by
  induction n with
  | zero => simp [sizeL]
  | succ n ih => simp only [sizeL]; split <;> omega

theorem ret_int {k : IntKind} {a b : Int} (h : a = b) : Ending.returned (.int k a) = .returned (.int k b) := by rw [h]

set_option maxHeartbeats 400000 in
theorem size_any (b off n c : Nat) (x : Nat → Int) (w : World) (hn : n < 9223372036854775808) (hc : ∀ i, i < n → w.cell? ⟨b, off + i, none⟩ = some (.int .u64 (x i))) :
    Calls Tryz.prog 16 #[.slice (some ⟨b, off, none⟩) n c] w fun e w' => e = .returned (.int .i64 (sizeL x n)) ∧ w' = w := by
  go_enter Tryz.func16, Tryz.ntmps16
  go_wp2
  go_loop [3] (fun t => ∃ k : Nat, k ≤ n ∧ sizeL x k = sizeL x n ∧ t = .int .i64 k) (fun t => (intOf t).toNat)
  case atStart => exact ⟨n, Nat.le_refl _, rfl, rfl⟩
  case round =>
    obtain ⟨k, hk, hs, rfl⟩ := hrel
    by_cases h0 : k = 0
    · subst h0
      go_wp2
      go_ret
      exact ⟨ret_int (by rw [← hs]; rfl), rfl⟩
    · obtain ⟨j, rfl⟩ : ∃ j, k = j + 1 := ⟨k - 1, by omega⟩
      have hcj := hc j (by omega)
      by_cases hz : x j = 0
      · have HS : Hid (sizeL x j = sizeL x n) := by
          have : sizeL x (j + 1) = sizeL x j := by simp [sizeL, hz]
          exact this.symm.trans hs
        clear hs
        go_wp2
        go_round
        case rel => exact ⟨j, by omega, HS.out, by go_num⟩
        case measure => simp [intOf]
      · have HS : Hid (((j : Int) + 1) = (sizeL x n : Nat)) := by
          have : sizeL x (j + 1) = j + 1 := by simp [sizeL, hz]
          show _ = _
          rw [← hs, this]; omega
        clear hs
        go_wp2
        go_ret
        exact ⟨ret_int (by exact HS.out), rfl⟩

set_option maxHeartbeats 400000 in
theorem size_nil (w : World) :
    Calls Tryz.prog 16 #[.slice none 0 0] w fun e w' => e = .returned (.int .i64 0) ∧ w' = w := by
  go_enter Tryz.func16, Tryz.ntmps16
  go_wp2
  go_loop [3] (fun t => t = .int .i64 0) (fun t => (intOf t).toNat)
  case atStart => rfl
  case round =>
    subst hrel
    go_wp2
    go_ret
    exact ⟨rfl, rfl⟩

/-- how many bits -/
def lenL (x : Nat → Int) (n : Nat) : Int := if sizeL x n = 0 then 0 else 64 * (sizeL x n : Int) - 64 + Lib.bitLen (x (sizeL x n - 1)).toNat

theorem bitLenAux_le : ∀ f x : Nat, Lib.bitLenAux f x ≤ f
  | 0, x => by simp [Lib.bitLenAux]
  | f + 1, x => by
    have := bitLenAux_le f (x / 2)
    simp only [Lib.bitLenAux]; split <;> omega
theorem bitLen64 (x : Nat) : Lib.bitLen x ≤ 64 := bitLenAux_le 64 x

set_option maxHeartbeats 400000 in
theorem len_any (b off n c : Nat) (x : Nat → Int) (w : World) (hn : n < 100000000) (hx : ∀ i, 0 ≤ x i ∧ x i ≤ 18446744073709551615) (hc : ∀ i, i < n → w.cell? ⟨b, off + i, none⟩ = some (.int .u64 (x i))) :
    Calls Tryz.prog 33 #[.slice (some ⟨b, off, none⟩) n c] w fun e w' => e = .returned (.int .i64 (lenL x n)) ∧ w' = w := by
  have hle := sizeL_le x n
  by_cases h0 : sizeL x n = 0
  · have HL : Hid (lenL x n = 0) := by show _ = _; simp [lenL, h0]
    have hs : Calls Tryz.prog 16 #[.slice (some ⟨b, off, none⟩) n c] w fun e w' => e = .returned (.int .i64 0) ∧ w' = w := by
      have := size_any b off n c x w (by omega) hc
      rw [h0] at this; exact this
    clear h0 hc hx
    go_enter Tryz.func33, Tryz.ntmps33
    go_wp2_with (go_at_call 16; refine hs.mono ?_; rintro e w' ⟨rfl, rfl⟩)
    go_ret
    exact ⟨ret_int HL.out.symm, rfl⟩
  · obtain ⟨j, hj⟩ : ∃ j, sizeL x n = j + 1 := ⟨sizeL x n - 1, by omega⟩
    have hs := size_any b off n c x w (by omega) hc
    have HL : Hid (lenL x n = 64 * (j : Int) + Lib.bitLen (x j).toNat) := by show _ = _; simp [lenL, hj]; omega
    rw [hj] at hs
    have hcj := hc j (by omega)
    have hb := hx j
    have hbl := bitLen64 (x j).toNat
    have hj' : j + 1 ≤ n := by omega
    clear h0 hc hx hj hle
    have hcl := Tryz.bits_Len64 (x j) w hb.1 hb.2
    generalize Lib.bitLen (x j).toNat = L at *
    go_enter Tryz.func33, Tryz.ntmps33
    go_wp2_with (first | (go_at_call 16; refine hs.mono ?_; rintro e w' ⟨rfl, rfl⟩) | (go_at_call 74; refine hcl.mono ?_; rintro e w' ⟨rfl, rfl⟩))
    go_ret
    exact ⟨ret_int (by rw [HL.out]; omega), rfl⟩
end
def arrOf (f : Nat → Int) (n : Nat) : Array Value := ((List.range n).map fun i => Value.int .u64 (f i)).toArray
@[simp] theorem arrOf_size (f : Nat → Int) (n : Nat) : (arrOf f n).size = n := by simp [arrOf]
theorem arrOf_get (f : Nat → Int) (n i : Nat) (h : i < (arrOf f n).size) : (arrOf f n)[i]'h = .int .u64 (f i) := by simp [arrOf]
theorem arrOf_get? (f : Nat → Int) (n i : Nat) (h : i < n) : (arrOf f n)[i]? = some (.int .u64 (f i)) := by simp [arrOf, h]
theorem arrOf_set (f : Nat → Int) (n k : Nat) (v : Int) : (arrOf f n).setIfInBounds k (.int .u64 v) = arrOf (fun i => if i = k then v else f i) n := by
  apply Array.ext
  · simp
  · intro i h1 h2
    rw [Array.getElem_setIfInBounds]
    simp only [arrOf_get]
    by_cases h : k = i
    · subst h; simp
    · simp [h, Ne.symm h]; exact arrOf_get _ _ _ _
    simpa using h2
theorem arrOf_congr {f g : Nat → Int} {n : Nat} (h : ∀ i, i < n → f i = g i) : arrOf f n = arrOf g n := by
  apply Array.ext
  · simp
  · intro i h1 h2
    simp only [arrOf_get]
    rw [h i (by simpa using h1)]
theorem arrOf_of (cs : Array Value) (n : Nat) (f : Nat → Int) (hs : cs.size = n) (h : ∀ i, i < n → cs[i]? = some (.int .u64 (f i))) : cs = arrOf f n := by
  apply Array.ext
  · simp [hs]
  · intro i h1 h2
    rw [arrOf_get]
    have := h i (by omega)
    rw [Array.getElem?_eq_getElem h1] at this
    exact Option.some.inj this

theorem add64 (x y c : Int) (hx : 0 ≤ x) (hy : 0 ≤ y) (hc0 : 0 ≤ c) (hc : c ≤ 1) (w : World) : (callFunc 110 #[.int .u64 x, .int .u64 y, .int .u64 c]).run Tryz.prog w =
    .ok (.value (.tuple #[.int .u64 ((x + y + c) % 18446744073709551616), .int .u64 ((x + y + c) / 18446744073709551616)])) w := by
  rw [run_callFunc_extern Tryz.func110 (by kernel_rfl) (by kernel_rfl) (by kernel_rfl) (e := add64Entry) (by kernel_rfl), run_add64 x y c hx hy hc0 hc]
  rfl

def sub64E : Array Value → Sem Value := fun args => do
  let (x, y, b) ← Extern.MathBitsCarry.three "Sub64" args
  pure (Extern.MathBitsCarry.pair ((x + Extern.MathBitsCarry.m64 - y - b) % Extern.MathBitsCarry.m64) (if x < y + b then 1 else 0))
theorem run_sub64E (x y b : Nat) (hb : b ≤ 1) (w : World) :
    (sub64E #[.int .u64 x, .int .u64 y, .int .u64 b]).run Tryz.prog w =
      .ok (.tuple #[.int .u64 (((x + 18446744073709551616 - y - b) % 18446744073709551616 : Nat) : Int), .int .u64 ((if x < y + b then 1 else 0 : Nat) : Int)]) w := by
  have : b = 0 ∨ b = 1 := by omega
  rcases this with rfl | rfl <;> rfl
/-- what is borrowed -/
def bor (x y b : Int) : Int := if x < y + b then 1 else 0
theorem sub64 (x y b : Int) (hx : 0 ≤ x) (hy : 0 ≤ y) (hy' : y < 18446744073709551616) (hb0 : 0 ≤ b) (hb : b ≤ 1) (w : World) : (callFunc 111 #[.int .u64 x, .int .u64 y, .int .u64 b]).run Tryz.prog w =
    .ok (.value (.tuple #[.int .u64 ((x - y - b) % 18446744073709551616), .int .u64 (bor x y b)])) w := by
  obtain ⟨x, rfl⟩ := Int.eq_ofNat_of_zero_le hx
  obtain ⟨y, rfl⟩ := Int.eq_ofNat_of_zero_le hy
  obtain ⟨b, rfl⟩ := Int.eq_ofNat_of_zero_le hb0
  have e1 : (((x + 18446744073709551616 - y - b) % 18446744073709551616 : Nat) : Int) = ((x : Int) - y - b) % 18446744073709551616 := by omega
  have e2 : ((if x < y + b then 1 else 0 : Nat) : Int) = bor x y b := by unfold bor; split <;> split <;> omega
  rw [run_callFunc_extern Tryz.func111 (by kernel_rfl) (by kernel_rfl) (by kernel_rfl) (e := sub64E) (by kernel_rfl), run_sub64E x y b (by omega), ← e1, ← e2]
  rfl
section
attribute [local go_sem ↓] Go.wp_at_zero Go.wp_at_succ
theorem setCell_drewN (w : World) (n : Nat) (a : Addr) (v : Value) : (w.drewN n).setCell a v = (w.setCell a v).drewN n := rfl
theorem alloc_drewN (w : World) (n : Nat) (o : Obj) : (w.drewN n).alloc o = (w.alloc o).drewN n := rfl
attribute [local go_sem] setCell_drewN alloc_drewN

/-- the carry into word k, and the sum's words -/
def carryW (x y : Nat → Int) : Nat → Int
  | 0 => 0
  | k + 1 => (x k + y k + carryW x y k) / 18446744073709551616
def sumW (x y : Nat → Int) (k : Nat) : Int := (x k + y k + carryW x y k) % 18446744073709551616

def Words (x : Nat → Int) : Prop := ∀ i, 0 ≤ x i ∧ x i ≤ 18446744073709551615
theorem carryW_01 {x y : Nat → Int} (hx : Words x) (hy : Words y) (k : Nat) : 0 ≤ carryW x y k ∧ carryW x y k ≤ 1 := by
  induction k with
  | zero => simp [carryW]
  | succ k ih => have := hx k; have := hy k; simp only [carryW]; omega
/-- the borrow from word k, and the difference's words -/
def borW (x y : Nat → Int) : Nat → Int
  | 0 => 0
  | k + 1 => bor (x k) (y k) (borW x y k)
def difW (x y : Nat → Int) (k : Nat) : Int := (x k - y k - borW x y k) % 18446744073709551616
theorem bor_01 (x y b : Int) : 0 ≤ bor x y b ∧ bor x y b ≤ 1 := by unfold bor; split <;> omega
theorem borW_01 (x y : Nat → Int) (k : Nat) : 0 ≤ borW x y k ∧ borW x y k ≤ 1 := by
  cases k with
  | zero => simp [borW]
  | succ k => exact bor_01 _ _ _

theorem below_alloc4 (w : World) (o1 o2 o3 o4 : Obj) (m : Nat) : Below w.heap.size w ((((((w.alloc o1).alloc o2).alloc o3).alloc o4).drewN m)) := by
  have h := ((((Below.refl w.heap.size w).alloc (Nat.le_refl _) o1).alloc (by simp) o2).alloc (by simp; omega) o3).alloc (by simp; omega) o4
  exact ⟨h.os, h.tape, h.output, h.size, h.block⟩
theorem below_alloc3 (w : World) (o1 o2 o3 : Obj) (m : Nat) : Below w.heap.size w (((((w.alloc o1).alloc o2).alloc o3).drewN m)) := by
  have h := (((Below.refl w.heap.size w).alloc (Nat.le_refl _) o1).alloc (by simp) o2).alloc (by simp; omega) o3
  exact ⟨h.os, h.tape, h.output, h.size, h.block⟩
theorem set_next {ss : Array Value} {k : Nat} {f : Nat → Int} (hss : ∀ j h, ss[j]'h = Value.int .u64 (if j < k then f j else 0)) (j : Nat) (h : j < (ss.setIfInBounds k (.int .u64 (f k))).size) : (ss.setIfInBounds k (.int .u64 (f k)))[j]'h = Value.int .u64 (if j < k + 1 then f j else 0) := by
  have h' : j < ss.size := by simpa using h
  rw [Array.getElem_setIfInBounds]
  by_cases e : k = j
  · subst e; simp
  · rw [if_neg e, hss j h']
    by_cases e2 : j < k
    · simp [e2, Nat.lt_succ_of_lt e2]
    · simp [e2, show ¬ j < k + 1 by omega]
  exact h'
end
section
attribute [local go_sem] setCell_drewN alloc_drewN

set_option maxHeartbeats 1000000 in
theorem div64_0 (lo y : Int) (w : World) (hl : 0 ≤ lo ∧ lo ≤ 18446744073709551615) (hy : 0 < y ∧ y ≤ 18446744073709551615) :
    Calls Tryz.prog 38 #[.int .u64 0, .int .u64 lo, .int .u64 y] w fun e w' => e = .returned (.tuple #[.int .u64 (lo / y), .int .u64 (lo % y)]) ∧ ∃ m, w' = w.drewN m := by
  have hy0 : ¬ y = 0 := by omega
  go_enter Tryz.func38, Tryz.ntmps38
  go_wp2
  go_quiet (fail)
  go_wp2
  go_ret2
  exact ⟨rfl, _, rfl⟩

/-- the rest ahead of word n - 1 - j, and the quotient's words -/
def remJ (x : Nat → Int) (d : Int) (n : Nat) : Nat → Int
  | 0 => 0
  | j + 1 => (remJ x d n j * 18446744073709551616 + x (n - 1 - j)) % d
def quoW (x : Nat → Int) (d : Int) (n j : Nat) : Int := (remJ x d n (n - 1 - j) * 18446744073709551616 + x j) / d
theorem remJ_bd (x : Nat → Int) (d : Int) (n j : Nat) (hd : 0 < d) : 0 ≤ remJ x d n j ∧ remJ x d n j < d := by
  cases j with
  | zero => exact ⟨Int.le_refl _, hd⟩
  | succ j => exact ⟨Int.emod_nonneg _ (by omega), Int.emod_lt_of_pos _ hd⟩
theorem bcell {W w1 : World} (hb : Below W.heap.size W w1) : (∀ b o, b < W.heap.size → w1.cell? ⟨b, o, none⟩ = W.cell? ⟨b, o, none⟩) ∧ (∀ b o, b < W.heap.size → w1.frozen? ⟨b, o, none⟩ = W.frozen? ⟨b, o, none⟩) :=
  ⟨fun b o h => hb.cell (p := ⟨b, o, none⟩) h, fun b o h => hb.frozen (p := ⟨b, o, none⟩) h⟩
end
section
/-- a lies below b, or at it, if the ends count -/
def wiN (c : Bool) (a b : Nat) : Bool := decide (a < b) || (decide (a = b) && c)
/-- what is left ahead of digit k, over Z -/
def rsN (R Z : Nat) : Nat → Nat
  | 0 => R
  | k + 1 => 10 * (rsN R Z k % Z)
def unK (c : Bool) (R d Z k : Nat) : Bool := wiN c (rsN R Z k % Z) (10 ^ k * d)
def ovK (c : Bool) (R u Z k : Nat) : Bool := wiN c (Z - rsN R Z k % Z) (10 ^ k * u)
def stK (c : Bool) (R d u Z k : Nat) : Bool := unK c R d Z k || ovK c R u Z k
section
variable {c : Bool} {R d u Z : Nat} (hZ : 0 < Z)
include hZ
theorem un_big {k : Nat} (h : Z ≤ 10 ^ k * d) : stK c R d u Z k = true := by
  unfold stK unK wiN
  have := Nat.mod_lt (rsN R Z k) hZ
  have : rsN R Z k % Z < 10 ^ k * d := by omega
  simp [this]
theorem st_ex (hd : 0 < d) : ∃ K, stK c R d u Z K = true ∧ ∀ k, k < K → stK c R d u Z k = false := by
  have h1 : ∃ K, stK c R d u Z K = true := ⟨Z, un_big hZ (by
    have h1 : Z < 10 ^ Z := Nat.lt_pow_self (by decide)
    have h2 : 10 ^ Z * 1 ≤ 10 ^ Z * d := Nat.mul_le_mul_left _ hd
    omega)⟩
  obtain ⟨K, hK⟩ := h1
  induction K using Nat.strongRecOn with
  | ind K ih =>
    by_cases h : ∃ k, k < K ∧ stK c R d u Z k = true
    · obtain ⟨k, h1, h2⟩ := h
      exact ih k h1 h2
    · refine ⟨K, hK, fun k hk => ?_⟩
      cases hh : stK c R d u Z k
      · rfl
      · exact absurd ⟨k, hk, hh⟩ h
end
/-- a power of ten isn't above a fraction c times 2^x -/
def zE (x e : Int) : Nat := 4 * 2 ^ (-x).toNat * 10 ^ e.toNat
def oE (x e : Int) : Nat := 2 ^ x.toNat * 10 ^ (-e).toNat
theorem zE_pos (x e : Int) : 0 < zE x e := Nat.mul_pos (Nat.mul_pos (by decide) (Nat.two_pow_pos _)) (Nat.pow_pos (by decide))
theorem oE_pos (x e : Int) : 0 < oE x e := Nat.mul_pos (Nat.two_pow_pos _) (Nat.pow_pos (by decide))
def tnP (c : Nat) (x e : Int) : Prop := zE x e ≤ 4 * c * oE x e
theorem ten_le_two {t p : Nat} (h : 196 * t ≤ 59 * p) : 10 ^ t ≤ 2 ^ p := by
  rcases Nat.lt_or_ge (2 ^ p) (10 ^ t) with h1 | h1
  · exfalso
    have h2 : (2 ^ p) ^ 59 < (10 ^ t) ^ 59 := Nat.pow_lt_pow_left h1 (by decide)
    have h3 : (10 ^ 59) ^ t ≤ (2 ^ 196) ^ t := Nat.pow_le_pow_left (by decide) t
    have h4 : 2 ^ (196 * t) ≤ 2 ^ (59 * p) := Nat.pow_le_pow_right (by decide) h
    have e1 : ((2 : Nat) ^ p) ^ 59 = 2 ^ (59 * p) := by rw [← Nat.pow_mul, Nat.mul_comm]
    have e2 : ((10 : Nat) ^ t) ^ 59 = (10 ^ 59) ^ t := by rw [← Nat.pow_mul, ← Nat.pow_mul, Nat.mul_comm]
    have e3 : ((2 : Nat) ^ 196) ^ t = 2 ^ (196 * t) := by rw [← Nat.pow_mul]
    rw [e1, e2] at h2
    rw [e3] at h3
    omega
  · exact h1
theorem big_ten : (2 : Nat) ^ 100000 ≤ 10 ^ 30103 := by decide +kernel
theorem two_le_ten_n {n m t q : Nat} (hn : n ≠ 0) (hb : (2 : Nat) ^ n ≤ 10 ^ m) (h : m * q ≤ n * t) : 2 ^ q ≤ 10 ^ t := by
  rcases Nat.lt_or_ge (10 ^ t) (2 ^ q) with h1 | h1
  · exfalso
    have h2 : (10 ^ t) ^ n < (2 ^ q) ^ n := Nat.pow_lt_pow_left h1 hn
    have h3 : (2 ^ n) ^ q ≤ (10 ^ m) ^ q := Nat.pow_le_pow_left hb q
    have h4 : 10 ^ (m * q) ≤ 10 ^ (n * t) := Nat.pow_le_pow_right (by decide) h
    have e1 : ((10 : Nat) ^ t) ^ n = 10 ^ (n * t) := by rw [← Nat.pow_mul, Nat.mul_comm]
    have e2 : ((2 : Nat) ^ q) ^ n = (2 ^ n) ^ q := by rw [← Nat.pow_mul, ← Nat.pow_mul, Nat.mul_comm]
    have e3 : ((10 : Nat) ^ m) ^ q = 10 ^ (m * q) := by rw [← Nat.pow_mul]
    rw [e1, e2] at h2
    rw [e3] at h3
    omega
  · exact h1
theorem two_le_ten {t q : Nat} (h : 30103 * q ≤ 100000 * t) : 2 ^ q ≤ 10 ^ t := two_le_ten_n (by decide) big_ten h
/-- the guess is never too high -/
theorem guess_ok {c L : Nat} {x : Int} (hL : 2 ^ L ≤ c) (hb : -20000 ≤ (L : Int) + x ∧ (L : Int) + x ≤ 20000) : tnP c x ((((L : Int) + x) * 30103).tdiv 100000 - 1) := by
  have hq : (((L : Int) + x) * 30103).tdiv 100000 = if 0 ≤ (L : Int) + x then (((L : Int) + x) * 30103) / 100000 else -((-((L : Int) + x) * 30103) / 100000) := by
    split
    · rw [Int.tdiv_eq_ediv_of_nonneg (by omega)]
    · rw [show ((L : Int) + x) * 30103 = -(-((L : Int) + x) * 30103) by omega, Int.neg_tdiv, Int.tdiv_eq_ediv_of_nonneg (by omega)]
  generalize hg : (((L : Int) + x) * 30103).tdiv 100000 - 1 = g at *
  unfold tnP zE oE
  rw [Nat.mul_assoc 4, Nat.mul_assoc 4]
  refine Nat.mul_le_mul_left 4 ?_
  by_cases hg0 : 0 ≤ g
  · have hp : 0 ≤ (L : Int) + x := by
      rcases Int.lt_or_le ((L : Int) + x) 0 with h | h
      · rw [if_neg (by omega)] at hq; omega
      · exact h
    rw [if_pos hp] at hq
    have h1 : 10 ^ g.toNat ≤ 2 ^ ((L : Int) + x).toNat := ten_le_two (by omega)
    rw [show (-g).toNat = 0 by omega, Nat.pow_zero, Nat.mul_one]
    by_cases hx : 0 ≤ x
    · rw [show (-x).toNat = 0 by omega, Nat.pow_zero, Nat.one_mul]
      rw [show ((L : Int) + x).toNat = L + x.toNat by omega, Nat.pow_add] at h1
      exact Nat.le_trans h1 (Nat.mul_le_mul_right _ hL)
    · rw [show x.toNat = 0 by omega, Nat.pow_zero, Nat.mul_one]
      have h2 := Nat.mul_le_mul_left (2 ^ (-x).toNat) h1
      rw [← Nat.pow_add, show (-x).toNat + ((L : Int) + x).toNat = L by omega] at h2
      exact Nat.le_trans h2 hL
  · rw [show g.toNat = 0 by omega, Nat.pow_zero, Nat.mul_one]
    by_cases hp : 0 ≤ (L : Int) + x
    · have h1 : 2 ^ (-x).toNat ≤ c * 2 ^ x.toNat := by
        by_cases hx : 0 ≤ x
        · rw [show (-x).toNat = 0 by omega, Nat.pow_zero]
          have := Nat.two_pow_pos L
          exact Nat.mul_pos (by omega) (Nat.two_pow_pos _)
        · rw [show x.toNat = 0 by omega, Nat.pow_zero, Nat.mul_one]
          exact Nat.le_trans (Nat.pow_le_pow_right (by decide) (by omega)) hL
      rw [← Nat.mul_assoc]
      exact Nat.le_trans h1 (Nat.le_mul_of_pos_right _ (Nat.pow_pos (by decide)))
    · rw [if_neg hp] at hq
      have h1 : 2 ^ (-((L : Int) + x)).toNat ≤ 10 ^ (-g).toNat := two_le_ten (by omega)
      rw [show x.toNat = 0 by omega, Nat.pow_zero, Nat.one_mul]
      rw [show (-x).toNat = L + (-((L : Int) + x)).toNat by omega, Nat.pow_add]
      exact Nat.mul_le_mul hL h1
end
end Go.Proofs.YtpemdcnneabbfaaGreatDoor
