/-
  Texts that the proof leans on.
-/
import Derived.Test.YtgknbdehlmlipaaDoorJ9
import Derived.Deep.RegionHeld3
import Derived.Deep.DrawnRows
import Derived.BigQuiet
import Derived.Deep.AppendLies
import Derived.Test.YtgknbdehlmlipaaDoorJ4
import Derived.Test.YtgknbdehlmlipaaDoorJ5
import Derived.Test.YtgknbdehlmlipaaDoorJ3
import Derived.Deep.Cut
import Derived.Deep.CutRange
set_option maxRecDepth 20000
set_option linter.unusedVariables false
set_option linter.unusedSectionVars false
set_option linter.unusedSimpArgs false
namespace Go.Proofs.YtgknbdehlmlipaaDoor
open Go.RowKit
attribute [local go_sem ↓] Go.wp_at_zero Go.wp_at_succ
theorem setCell_drewN (w : World) (n : Nat) (a : Addr) (v : Value) : (w.drewN n).setCell a v = (w.setCell a v).drewN n := rfl
theorem alloc_drewN (w : World) (n : Nat) (o : Obj) : (w.drewN n).alloc o = (w.alloc o).drewN n := rfl
attribute [local go_sem] setCell_drewN alloc_drewN

/-- the carry into word k, and the sum's words -/
def carryW (x y : Nat → Int) : Nat → Int
  | 0 => 0
  | k + 1 => (x k + y k + carryW x y k) / 18446744073709551616
def sumW (x y : Nat → Int) (k : Nat) : Int := (x k + y k + carryW x y k) % 18446744073709551616

def Words (x : Nat → Int) : Prop := ∀ i, 0 ≤ x i ∧ x i ≤ 18446744073709551615
theorem carryW_01 {x y : Nat → Int} (hx : Words x) (hy : Words y) (k : Nat) : 0 ≤ carryW x y k ∧ carryW x y k ≤ 1 := by
  induction k with
  | zero => simp [carryW]
  | succ k ih => have := hx k; have := hy k; simp only [carryW]; omega
/-- the borrow from word k, and the difference's words -/
def borW (x y : Nat → Int) : Nat → Int
  | 0 => 0
  | k + 1 => bor (x k) (y k) (borW x y k)
def difW (x y : Nat → Int) (k : Nat) : Int := (x k - y k - borW x y k) % 18446744073709551616
theorem bor_01 (x y b : Int) : 0 ≤ bor x y b ∧ bor x y b ≤ 1 := by unfold bor; split <;> omega
theorem borW_01 (x y : Nat → Int) (k : Nat) : 0 ≤ borW x y k ∧ borW x y k ≤ 1 := by
  cases k with
  | zero => simp [borW]
  | succ k => exact bor_01 _ _ _

theorem below_alloc4 (w : World) (o1 o2 o3 o4 : Obj) (m : Nat) : Below w.heap.size w ((((((w.alloc o1).alloc o2).alloc o3).alloc o4).drewN m)) := by
  have h := ((((Below.refl w.heap.size w).alloc (Nat.le_refl _) o1).alloc (by simp) o2).alloc (by simp; omega) o3).alloc (by simp; omega) o4
  exact ⟨h.os, h.tape, h.output, h.size, h.block⟩
theorem below_alloc3 (w : World) (o1 o2 o3 : Obj) (m : Nat) : Below w.heap.size w (((((w.alloc o1).alloc o2).alloc o3).drewN m)) := by
  have h := (((Below.refl w.heap.size w).alloc (Nat.le_refl _) o1).alloc (by simp) o2).alloc (by simp; omega) o3
  exact ⟨h.os, h.tape, h.output, h.size, h.block⟩
theorem set_next {ss : Array Value} {k : Nat} {f : Nat → Int} (hss : ∀ j h, ss[j]'h = Value.int .u64 (if j < k then f j else 0)) (j : Nat) (h : j < (ss.setIfInBounds k (.int .u64 (f k))).size) : (ss.setIfInBounds k (.int .u64 (f k)))[j]'h = Value.int .u64 (if j < k + 1 then f j else 0) := by
  have h' : j < ss.size := by simpa using h
  rw [Array.getElem_setIfInBounds]
  by_cases e : k = j
  · subst e; simp
  · rw [if_neg e, hss j h']
    by_cases e2 : j < k
    · simp [e2, Nat.lt_succ_of_lt e2]
    · simp [e2, show ¬ j < k + 1 by omega]
  exact h'





end Go.Proofs.YtgknbdehlmlipaaDoor

namespace Go.Proofs.YtgknbdehlmlipaaDoor
open Go.RowKit
attribute [local go_sem] setCell_drewN alloc_drewN

set_option maxHeartbeats 1000000 in
theorem div64_0 (lo y : Int) (w : World) (hl : 0 ≤ lo ∧ lo ≤ 18446744073709551615) (hy : 0 < y ∧ y ≤ 18446744073709551615) :
    Calls Tryd.prog 85 #[.int .u64 0, .int .u64 lo, .int .u64 y] w fun e w' => e = .returned (.tuple #[.int .u64 (lo / y), .int .u64 (lo % y)]) ∧ ∃ m, w' = w.drewN m := by
  have hy0 : ¬ y = 0 := by omega
  go_enter Tryd.func85, Tryd.ntmps85
  go_wp2
  go_quiet (fail)
  go_wp2
  go_ret2
  exact ⟨rfl, _, rfl⟩

/-- the rest ahead of word n - 1 - j, and the quotient's words -/
def remJ (x : Nat → Int) (d : Int) (n : Nat) : Nat → Int
  | 0 => 0
  | j + 1 => (remJ x d n j * 18446744073709551616 + x (n - 1 - j)) % d
def quoW (x : Nat → Int) (d : Int) (n j : Nat) : Int := (remJ x d n (n - 1 - j) * 18446744073709551616 + x j) / d
theorem remJ_bd (x : Nat → Int) (d : Int) (n j : Nat) (hd : 0 < d) : 0 ≤ remJ x d n j ∧ remJ x d n j < d := by
  cases j with
  | zero => exact ⟨Int.le_refl _, hd⟩
  | succ j => exact ⟨Int.emod_nonneg _ (by omega), Int.emod_lt_of_pos _ hd⟩
theorem set_prev {ss : Array Value} {k : Nat} {f : Nat → Int} (hss : ∀ j h, ss[j]'h = Value.int .u64 (if k + 1 ≤ j then f j else 0)) (j : Nat) (h : j < (ss.setIfInBounds k (.int .u64 (f k))).size) : (ss.setIfInBounds k (.int .u64 (f k)))[j]'h = Value.int .u64 (if k ≤ j then f j else 0) := by
  have h' : j < ss.size := by simpa using h
  rw [Array.getElem_setIfInBounds]
  by_cases e : k = j
  · subst e; simp
  · rw [if_neg e, hss j h']
    by_cases e2 : k ≤ j
    · simp [e2, show k + 1 ≤ j by omega]
    · simp [e2, show ¬ k + 1 ≤ j by omega]
  exact h'



theorem bcell {W w1 : World} (hb : Below W.heap.size W w1) : (∀ b o, b < W.heap.size → w1.cell? ⟨b, o, none⟩ = W.cell? ⟨b, o, none⟩) ∧ (∀ b o, b < W.heap.size → w1.frozen? ⟨b, o, none⟩ = W.frozen? ⟨b, o, none⟩) :=
  ⟨fun b o h => hb.cell (p := ⟨b, o, none⟩) h, fun b o h => hb.frozen (p := ⟨b, o, none⟩) h⟩


end Go.Proofs.YtgknbdehlmlipaaDoor

namespace Go.Proofs.YtgknbdehlmlipaaDoor
open Go.RowKit

/-- the slice (a, n, c) holds the words x; all further words of x are 0 -/
def Num (w : World) (a : Option Addr) (n c : Nat) (x : Nat → Int) : Prop :=
  n ≤ c ∧ c ≤ maxLen ∧ Words x ∧ (∀ i, n ≤ i → x i = 0) ∧ ((a = none ∧ c = 0) ∨ ∃ b off, a = some ⟨b, off, none⟩ ∧ b < w.heap.size ∧ ∀ i, i < n → w.cell? ⟨b, off + i, none⟩ = some (.int .u64 (x i)))
theorem Num.next {w w' : World} {a : Option Addr} {n c : Nat} {x : Nat → Int} (h : Num w a n c x) (hb : Below w.heap.size w w') : Num w' a n c x := by
  obtain ⟨h1, h2, h3, h4, h5⟩ := h
  refine ⟨h1, h2, h3, h4, ?_⟩
  rcases h5 with h5 | ⟨b, off, h6, h7, h8⟩
  · exact Or.inl h5
  · exact Or.inr ⟨b, off, h6, Nat.lt_of_lt_of_le h7 hb.size, fun i hi => (hb.cell (p := ⟨b, off + i, none⟩) h7).trans (h8 i hi)⟩
theorem Num.drewN {w : World} {a : Option Addr} {n c : Nat} {x : Nat → Int} (h : Num w a n c x) (m : Nat) : Num (w.drewN m) a n c x := h

/-- -1, 0, 1: the words below n, the highest first -/
def cmpL (x y : Nat → Int) : Nat → Int
  | 0 => 0
  | n + 1 => if x n < y n then -1 else if y n < x n then 1 else cmpL x y n

theorem Tryd.info22 : (Tryd.prog.info? 22).map (fun i => (i.zero, i.size, i.bytes)) = some (some (.int .u64 0), 1, 8) := by kernel_rfl
end Go.Proofs.YtgknbdehlmlipaaDoor

namespace Go.Proofs.YtgknbdehlmlipaaDoor
open Go.RowKit
attribute [local go_sem] setCell_drewN alloc_drewN

theorem mul64 (x y : Int) (hx : 0 ≤ x ∧ x ≤ 18446744073709551615) (hy : 0 ≤ y ∧ y ≤ 18446744073709551615) (w : World) :
    Calls Tryd.prog 71 #[.int .u64 x, .int .u64 y] w fun e w' => e = .returned (.tuple #[.int .u64 (x * y / 18446744073709551616), .int .u64 (x * y % 18446744073709551616)]) ∧ w' = w := by
  obtain ⟨a, rfl⟩ := Int.eq_ofNat_of_zero_le hx.1
  obtain ⟨b, rfl⟩ := Int.eq_ofNat_of_zero_le hy.1
  have h := Tryd.bits_Mul64 a b (by omega) (by omega) w
  rw [Int.natCast_ediv, Int.natCast_emod, Int.natCast_mul] at h
  exact h
theorem add64z (x y : Int) (hx : 0 ≤ x) (hy : 0 ≤ y) (w : World) : (callFunc 50 #[.int .u64 x, .int .u64 y, .int .u64 0]).run Tryd.prog w =
    .ok (.value (.tuple #[.int .u64 ((x + y) % 18446744073709551616), .int .u64 ((x + y) / 18446744073709551616)])) w := by
  simpa using add64 x y 0 hx hy (Int.le_refl 0) (by decide) w

/-- the carry into word k, and the product's words -/
def mulC (x : Nat → Int) (n : Int) : Nat → Int
  | 0 => 0
  | k + 1 => x k * n / 18446744073709551616 + (x k * n % 18446744073709551616 + mulC x n k) / 18446744073709551616
def mulP (x : Nat → Int) (n : Int) (k : Nat) : Int := (x k * n % 18446744073709551616 + mulC x n k) % 18446744073709551616
theorem mul_bd (a b c : Int) (ha : 0 ≤ a ∧ a ≤ 18446744073709551615) (hb : 0 ≤ b ∧ b ≤ 18446744073709551615) (hc : 0 ≤ c ∧ c ≤ 18446744073709551615) : 0 ≤ a * b / 18446744073709551616 + (a * b % 18446744073709551616 + c) / 18446744073709551616 ∧ a * b / 18446744073709551616 + (a * b % 18446744073709551616 + c) / 18446744073709551616 ≤ 18446744073709551615 := by
  have h1 : 0 ≤ a * b := Int.mul_nonneg ha.1 hb.1
  have h2 : a * b ≤ 18446744073709551615 * 18446744073709551615 := Int.mul_le_mul ha.2 hb.2 hb.1 (by decide)
  generalize a * b = P at *
  omega
theorem mulC_word {x : Nat → Int} {n : Int} (hx : Words x) (hn : 0 ≤ n ∧ n ≤ 18446744073709551615) : ∀ k, 0 ≤ mulC x n k ∧ mulC x n k ≤ 18446744073709551615
  | 0 => by simp [mulC]
  | k + 1 => mul_bd _ _ _ (hx k) hn (mulC_word hx hn k)
theorem mulP_words (x : Nat → Int) (n : Int) : Words (mulP x n) := fun i => ⟨Int.emod_nonneg _ (by decide), by have := Int.emod_lt_of_pos (x i * n % 18446744073709551616 + mulC x n i) (b := 18446744073709551616) (by decide); unfold mulP; omega⟩
theorem mul_val (x : Nat → Int) (n : Int) : ∀ k, val (mulP x n) k + mulC x n k * 18446744073709551616 ^ k = val x k * n
  | 0 => by simp [val, mulC]
  | k + 1 => by
    have ih := mul_val x n k
    have e1 : mulP x n k + mulC x n (k + 1) * 18446744073709551616 = x k * n + mulC x n k := by
      simp only [mulP, mulC]; generalize x k * n = P; omega
    simp only [val]
    rw [Int.pow_succ]
    generalize (18446744073709551616 : Int) ^ k = p at *
    generalize mulC x n (k + 1) = c' at *
    generalize mulP x n k = d at *
    have e2 : d = x k * n + mulC x n k - c' * 18446744073709551616 := by omega
    rw [e2]
    grind





end Go.Proofs.YtgknbdehlmlipaaDoor

namespace Go.Proofs.YtgknbdehlmlipaaDoor
open Go.RowKit

theorem wrap3 {a e b R : Int} (h : a * 4294967296 + e - b = R) (h0 : 0 ≤ R) (h1 : R ≤ 18446744073709551615) : IntKind.u64.wrap (IntKind.u64.wrap (IntKind.u64.wrap (a * 4294967296) + e) - IntKind.u64.wrap b) = R := by
  simp only [IntKind.wrap, IntKind.bits, IntKind.signed]
  simp
  omega

set_option maxHeartbeats 8000000 in
theorem div64_core (hi lo y Y d1 d0 u v e1 e0 Q1 R1 Q0 R0 : Int) (S : Nat) (w : World) (hh : 0 < hi) (hl : 0 ≤ lo ∧ lo ≤ 18446744073709551615) (hy : hi < y ∧ y ≤ 18446744073709551615) (hS : S < 64)
    (hlz : Calls Tryd.prog 87 #[.int .u64 y] w fun e w' => e = .returned (.int .i64 (S : Int)) ∧ w = w')
    (hY : IntKind.u64.wrap (y * 2 ^ S) = Y) (hd1 : Y / 4294967296 = d1) (hd0 : bits BinOp.and IntKind.u64 Y 4294967295 = d0)
    (hu : bits BinOp.or IntKind.u64 (IntKind.u64.wrap (hi * 2 ^ S)) (lo / 2 ^ (64 - S)) = u) (hv : IntKind.u64.wrap (lo * 2 ^ S) = v) (he1 : v / 4294967296 = e1) (he0 : bits BinOp.and IntKind.u64 v 4294967295 = e0)
    (D1 : Dg u d1 d0 e1) (D0 : Dg R1 d1 d0 e0) (hYe : Y = d1 * 4294967296 + d0) (hY64 : Y ≤ 18446744073709551615)
    (hQ1 : (u * 4294967296 + e1) / (d1 * 4294967296 + d0) = Q1) (hR1 : u * 4294967296 + e1 - Q1 * Y = R1) (hQ0 : (R1 * 4294967296 + e0) / (d1 * 4294967296 + d0) = Q0) (hR0 : R1 * 4294967296 + e0 - Q0 * Y = R0) (hR0b : 0 ≤ R0 ∧ R0 ≤ 18446744073709551615) :
    Calls Tryd.prog 85 #[.int .u64 hi, .int .u64 lo, .int .u64 y] w fun e w' => e = .returned (.tuple #[.int .u64 (Q1 * 4294967296 + Q0), .int .u64 (R0 / 2 ^ S)]) ∧ ∃ m, w' = w.drewN m := by
  have hy0 : (y == 0) = false := by simp; omega
  have hh0 : (hi == 0) = false := by simp; omega
  have f1 := D1.first
  have f0 := D0.first
  rw [hQ1] at f1
  rw [hQ0] at f0
  have d1p := D1.a1
  have d1q := D1.a2
  have d0p := D1.b1
  have d0q := D1.b2
  have e1p := D1.e1
  have e1q := D1.e2
  have e0p := D0.e1
  have e0q := D0.e2
  have up := D1.u1
  have uq : u ≤ 18446744073709551615 := by have := D1.u2; omega
  have vp := D0.u1
  have vq : R1 ≤ 18446744073709551615 := by have := D0.u2; omega
  have hW1 : IntKind.u64.wrap (IntKind.u64.wrap (IntKind.u64.wrap (u * 4294967296) + e1) - IntKind.u64.wrap (Q1 * Y)) = R1 := wrap3 hR1 vp vq
  have hW0 : IntKind.u64.wrap (IntKind.u64.wrap (IntKind.u64.wrap (R1 * 4294967296) + e0) - IntKind.u64.wrap (Q0 * Y)) = R0 := wrap3 hR0 hR0b.1 hR0b.2
  have HQ1 : Hid ((u * 4294967296 + e1) / (d1 * 4294967296 + d0) = Q1) := hQ1
  have HQ0 : Hid ((R1 * 4294967296 + e0) / (d1 * 4294967296 + d0) = Q0) := hQ0
  have k1 : Q1 < 4294967296 := by rw [← hQ1]; exact D1.lt
  have k0 : Q0 < 4294967296 := by rw [← hQ0]; exact D0.lt
  have hq10 : 0 ≤ Q1 := by rw [← hQ1]; exact D1.nonneg
  have hq00 : 0 ≤ Q0 := by rw [← hQ0]; exact D0.nonneg
  clear hQ1 hYe hR1 hQ0 hR0
  obtain ⟨q, hq⟩ : ∃ q, u / d1 = q := ⟨_, rfl⟩
  obtain ⟨r, hr⟩ : ∃ r, u % d1 = r := ⟨_, rfl⟩
  rw [hq, hr] at f1
  obtain ⟨p2, hp2⟩ : ∃ q, R1 / d1 = q := ⟨_, rfl⟩
  obtain ⟨s2, hs2⟩ : ∃ r, R1 % d1 = r := ⟨_, rfl⟩
  rw [hp2, hs2] at f0
  obtain ⟨f1a, f1b, f1c, f1d, f1e⟩ := f1
  obtain ⟨f0a, f0b, f0c, f0d, f0e⟩ := f0
  have hqd0 : 0 ≤ q * d1 := Int.mul_nonneg (by omega) (by omega)
  have hqd1 : q * d1 ≤ 18446744073709551615 := by omega
  have hqr : u - q * d1 = r := by omega
  have hpd0 : 0 ≤ p2 * d1 := Int.mul_nonneg (by omega) (by omega)
  have hpd1 : p2 * d1 ≤ 18446744073709551615 := by omega
  have hpr : R1 - p2 * d1 = s2 := by omega
  have F1A : Hid (q * d1 + r = u) := f1a
  have F0A : Hid (p2 * d1 + s2 = R1) := f0a
  have D1H : Hid (Dg u d1 d0 e1) := D1
  have D0H : Hid (Dg R1 d1 d0 e0) := D0
  clear f1a hr f0a hs2 D1 D0
  go_enter Tryd.func85, Tryd.ntmps85
  go_wp2_with (first | (go_at_call 87; refine hlz.mono ?_; rintro e w' ⟨rfl, rfl⟩))
  go_loop [15, 16] (fun a b => ∃ q r, a = .int .u64 q ∧ b = .int .u64 r ∧ Hid (q * d1 + r = u) ∧ Q1 ≤ q ∧ q ≤ 4294967297 ∧ 0 ≤ r ∧ r < 4294967296) (fun a _ => (intOf a).toNat)
  case atStart => exact ⟨q, r, by first | rfl | rw [hq], rfl, F1A, f1b, f1c, f1d, f1e⟩
  case round =>
    clear f1b f1c f1d f1e hqd0 hqd1 F1A hqr
    obtain ⟨q1, r1, rfl, rfl, hqr, hge, hle, hr0, hr1⟩ := hrel
    have hm0 : 0 ≤ q1 * d0 := Int.mul_nonneg (by omega) d0p
    by_cases hbig : 4294967296 ≤ q1
    · have hg1 : Q1 ≤ q1 - 1 := by have := D1H.out.big' hbig; rw [HQ1.out] at this; exact this
      by_cases hb : r1 + d1 < 4294967296
      · go_wp2
        go_round
        case rel => exact ⟨q1 - 1, r1 + d1, rfl, rfl, by show _ = _; rw [Int.sub_mul]; have := hqr.out; omega, hg1, by omega, by omega, hb⟩
        case measure => simp [intOf]; omega
      · have hqq : q1 - 1 = Q1 := by
          have := D1H.out.right' (q := q1 - 1) (r := r1 + d1) (by rw [Int.sub_mul]; have := hqr.out; omega) (by rw [HQ1.out]; exact hg1) (by omega) (by omega)
          rw [HQ1.out] at this; exact this.symm
        go_wp2
        clear hqr hge hle hr0 hr1 hm0
        go_loop [18, 16] (fun a b => ∃ q r, a = .int .u64 q ∧ b = .int .u64 r ∧ Hid (q * d1 + r = R1) ∧ Q0 ≤ q ∧ q ≤ 4294967297 ∧ 0 ≤ r ∧ r < 4294967296) (fun a _ => (intOf a).toNat)
        case atStart => exact ⟨p2, s2, by first | rfl | rw [hp2], rfl, F0A, f0b, f0c, f0d, f0e⟩
        case round =>
          clear f0b f0c f0d f0e hpd0 hpd1 F0A hpr
          obtain ⟨q3, r3, rfl, rfl, hqr, hge, hle, hr0, hr1⟩ := hrel
          have hm0 : 0 ≤ q3 * d0 := Int.mul_nonneg (by omega) d0p
          by_cases hbig : 4294967296 ≤ q3
          · have hg1 : Q0 ≤ q3 - 1 := by have := D0H.out.big' hbig; rw [HQ0.out] at this; exact this
            by_cases hb : r3 + d1 < 4294967296
            · go_wp2
              go_round
              case rel => exact ⟨q3 - 1, r3 + d1, rfl, rfl, by show _ = _; rw [Int.sub_mul]; have := hqr.out; omega, hg1, by omega, by omega, hb⟩
              case measure => simp [intOf]; omega
            · have hqq : q3 - 1 = Q0 := by
                have := D0H.out.right' (q := q3 - 1) (r := r3 + d1) (by rw [Int.sub_mul]; have := hqr.out; omega) (by rw [HQ0.out]; exact hg1) (by omega) (by omega)
                rw [HQ0.out] at this; exact this.symm
              go_wp2
              go_ret2
              exact ⟨rfl, 0, rfl⟩
          · have hsm : q3 < 4294967296 := by omega
            have hm1 : q3 * d0 ≤ 4294967295 * 4294967295 := Int.mul_le_mul (by omega) (by omega) d0p (by decide)
            by_cases ht : 4294967296 * r3 + e0 < q3 * d0
            · have hg1 : Q0 ≤ q3 - 1 := by have := D0H.out.big hqr.out ht; rw [HQ0.out] at this; exact this
              by_cases hb : r3 + d1 < 4294967296
              · go_wp2
                go_round
                case rel => exact ⟨q3 - 1, r3 + d1, rfl, rfl, by show _ = _; rw [Int.sub_mul]; have := hqr.out; omega, hg1, by omega, by omega, hb⟩
                case measure => simp [intOf]; omega
              · have hqq : q3 - 1 = Q0 := by
                  have := D0H.out.right' (q := q3 - 1) (r := r3 + d1) (by rw [Int.sub_mul]; have := hqr.out; omega) (by rw [HQ0.out]; exact hg1) (by omega) (by omega)
                  rw [HQ0.out] at this; exact this.symm
                go_wp2
                go_ret2
                exact ⟨rfl, 0, rfl⟩
            · obtain rfl : Q0 = q3 := by
                have := D0H.out.right hqr.out (by rw [HQ0.out]; exact hge) (by omega)
                rw [HQ0.out] at this; exact this
              go_wp2
              go_ret2
              exact ⟨rfl, 0, rfl⟩
    · have hsm : q1 < 4294967296 := by omega
      have hm1 : q1 * d0 ≤ 4294967295 * 4294967295 := Int.mul_le_mul (by omega) (by omega) d0p (by decide)
      by_cases ht : 4294967296 * r1 + e1 < q1 * d0
      · have hg1 : Q1 ≤ q1 - 1 := by have := D1H.out.big hqr.out ht; rw [HQ1.out] at this; exact this
        by_cases hb : r1 + d1 < 4294967296
        · go_wp2
          go_round
          case rel => exact ⟨q1 - 1, r1 + d1, rfl, rfl, by show _ = _; rw [Int.sub_mul]; have := hqr.out; omega, hg1, by omega, by omega, hb⟩
          case measure => simp [intOf]; omega
        · have hqq : q1 - 1 = Q1 := by
            have := D1H.out.right' (q := q1 - 1) (r := r1 + d1) (by rw [Int.sub_mul]; have := hqr.out; omega) (by rw [HQ1.out]; exact hg1) (by omega) (by omega)
            rw [HQ1.out] at this; exact this.symm
          go_wp2
          clear hqr hge hle hr0 hr1 hm0
          go_loop [18, 16] (fun a b => ∃ q r, a = .int .u64 q ∧ b = .int .u64 r ∧ Hid (q * d1 + r = R1) ∧ Q0 ≤ q ∧ q ≤ 4294967297 ∧ 0 ≤ r ∧ r < 4294967296) (fun a _ => (intOf a).toNat)
          case atStart => exact ⟨p2, s2, by first | rfl | rw [hp2], rfl, F0A, f0b, f0c, f0d, f0e⟩
          case round =>
            clear f0b f0c f0d f0e hpd0 hpd1 F0A hpr
            obtain ⟨q3, r3, rfl, rfl, hqr, hge, hle, hr0, hr1⟩ := hrel
            have hm0 : 0 ≤ q3 * d0 := Int.mul_nonneg (by omega) d0p
            by_cases hbig : 4294967296 ≤ q3
            · have hg1 : Q0 ≤ q3 - 1 := by have := D0H.out.big' hbig; rw [HQ0.out] at this; exact this
              by_cases hb : r3 + d1 < 4294967296
              · go_wp2
                go_round
                case rel => exact ⟨q3 - 1, r3 + d1, rfl, rfl, by show _ = _; rw [Int.sub_mul]; have := hqr.out; omega, hg1, by omega, by omega, hb⟩
                case measure => simp [intOf]; omega
              · have hqq : q3 - 1 = Q0 := by
                  have := D0H.out.right' (q := q3 - 1) (r := r3 + d1) (by rw [Int.sub_mul]; have := hqr.out; omega) (by rw [HQ0.out]; exact hg1) (by omega) (by omega)
                  rw [HQ0.out] at this; exact this.symm
                go_wp2
                go_ret2
                exact ⟨rfl, 0, rfl⟩
            · have hsm : q3 < 4294967296 := by omega
              have hm1 : q3 * d0 ≤ 4294967295 * 4294967295 := Int.mul_le_mul (by omega) (by omega) d0p (by decide)
              by_cases ht : 4294967296 * r3 + e0 < q3 * d0
              · have hg1 : Q0 ≤ q3 - 1 := by have := D0H.out.big hqr.out ht; rw [HQ0.out] at this; exact this
                by_cases hb : r3 + d1 < 4294967296
                · go_wp2
                  go_round
                  case rel => exact ⟨q3 - 1, r3 + d1, rfl, rfl, by show _ = _; rw [Int.sub_mul]; have := hqr.out; omega, hg1, by omega, by omega, hb⟩
                  case measure => simp [intOf]; omega
                · have hqq : q3 - 1 = Q0 := by
                    have := D0H.out.right' (q := q3 - 1) (r := r3 + d1) (by rw [Int.sub_mul]; have := hqr.out; omega) (by rw [HQ0.out]; exact hg1) (by omega) (by omega)
                    rw [HQ0.out] at this; exact this.symm
                  go_wp2
                  go_ret2
                  exact ⟨rfl, 0, rfl⟩
              · obtain rfl : Q0 = q3 := by
                  have := D0H.out.right hqr.out (by rw [HQ0.out]; exact hge) (by omega)
                  rw [HQ0.out] at this; exact this
                go_wp2
                go_ret2
                exact ⟨rfl, 0, rfl⟩
      · obtain rfl : Q1 = q1 := by
          have := D1H.out.right hqr.out (by rw [HQ1.out]; exact hge) (by omega)
          rw [HQ1.out] at this; exact this
        go_wp2
        clear hqr hge hle hr0 hr1 hm0
        go_loop [18, 16] (fun a b => ∃ q r, a = .int .u64 q ∧ b = .int .u64 r ∧ Hid (q * d1 + r = R1) ∧ Q0 ≤ q ∧ q ≤ 4294967297 ∧ 0 ≤ r ∧ r < 4294967296) (fun a _ => (intOf a).toNat)
        case atStart => exact ⟨p2, s2, by first | rfl | rw [hp2], rfl, F0A, f0b, f0c, f0d, f0e⟩
        case round =>
          clear f0b f0c f0d f0e hpd0 hpd1 F0A hpr
          obtain ⟨q3, r3, rfl, rfl, hqr, hge, hle, hr0, hr1⟩ := hrel
          have hm0 : 0 ≤ q3 * d0 := Int.mul_nonneg (by omega) d0p
          by_cases hbig : 4294967296 ≤ q3
          · have hg1 : Q0 ≤ q3 - 1 := by have := D0H.out.big' hbig; rw [HQ0.out] at this; exact this
            by_cases hb : r3 + d1 < 4294967296
            · go_wp2
              go_round
              case rel => exact ⟨q3 - 1, r3 + d1, rfl, rfl, by show _ = _; rw [Int.sub_mul]; have := hqr.out; omega, hg1, by omega, by omega, hb⟩
              case measure => simp [intOf]; omega
            · have hqq : q3 - 1 = Q0 := by
                have := D0H.out.right' (q := q3 - 1) (r := r3 + d1) (by rw [Int.sub_mul]; have := hqr.out; omega) (by rw [HQ0.out]; exact hg1) (by omega) (by omega)
                rw [HQ0.out] at this; exact this.symm
              go_wp2
              go_ret2
              exact ⟨rfl, 0, rfl⟩
          · have hsm : q3 < 4294967296 := by omega
            have hm1 : q3 * d0 ≤ 4294967295 * 4294967295 := Int.mul_le_mul (by omega) (by omega) d0p (by decide)
            by_cases ht : 4294967296 * r3 + e0 < q3 * d0
            · have hg1 : Q0 ≤ q3 - 1 := by have := D0H.out.big hqr.out ht; rw [HQ0.out] at this; exact this
              by_cases hb : r3 + d1 < 4294967296
              · go_wp2
                go_round
                case rel => exact ⟨q3 - 1, r3 + d1, rfl, rfl, by show _ = _; rw [Int.sub_mul]; have := hqr.out; omega, hg1, by omega, by omega, hb⟩
                case measure => simp [intOf]; omega
              · have hqq : q3 - 1 = Q0 := by
                  have := D0H.out.right' (q := q3 - 1) (r := r3 + d1) (by rw [Int.sub_mul]; have := hqr.out; omega) (by rw [HQ0.out]; exact hg1) (by omega) (by omega)
                  rw [HQ0.out] at this; exact this.symm
                go_wp2
                go_ret2
                exact ⟨rfl, 0, rfl⟩
            · obtain rfl : Q0 = q3 := by
                have := D0H.out.right hqr.out (by rw [HQ0.out]; exact hge) (by omega)
                rw [HQ0.out] at this; exact this
              go_wp2
              go_ret2
              exact ⟨rfl, 0, rfl⟩
end Go.Proofs.YtgknbdehlmlipaaDoor
