/-
  Texts that the proof leans on, joined: Hld, Npw, Fit, Bu, Bv, Bp, Eq, Lai, Lift, Lfw, Lfd, Da, Dg, Rf.
-/
import Derived.Test.YtpgihikbdmmdpaaJ7
import Derived.Test.YtpgihikbdmmdpaaJ5
import Derived.Test.YtpgihikbdmmdpaaJ4
import Derived.Test.YtpgihikbdmmdpaaJ3
import Derived.Deep.QuietTactic
import Derived.BigQuiet
import Derived.Test.YtpgihikbdmmdpaaJ6
import Derived.DeepKeys
import Derived.Lib.SmallJoins
import Derived.ProofKit
import Derived.OpenShut
import Derived.Carry
import Derived.Deep.DeepHandedRow
import Derived.Test.YtpgihikbdmmdpaaJ2
import Derived.Test.YtpgihikbdmmdpaaJ1
set_option linter.unusedVariables false
set_option linter.unusedSimpArgs false
set_option maxRecDepth 20000
set_option linter.unusedSectionVars false
namespace Go.Proofs.Ytpgihikbdmmdpaa
open Go.RowKit

def baseN : Int → Int
  | 1 => 2
  | 2 => 2
  | 3 => 2
  | 4 => 2
  | 5 => 2
  | 6 => 2
  | 7 => 10
  | 8 => 10
  | 9 => 10
  | 10 => 10
  | 11 => 10
  | 12 => 10
  | _ => 0
def widthN : Int → Int
  | 1 => 16
  | 2 => 16
  | 3 => 32
  | 4 => 64
  | 5 => 128
  | 6 => 256
  | 7 => 32
  | 8 => 64
  | 9 => 128
  | 10 => 32
  | 11 => 64
  | 12 => 128
  | _ => 0
def precN : Int → Int
  | 1 => 11
  | 2 => 8
  | 3 => 24
  | 4 => 53
  | 5 => 113
  | 6 => 241
  | 7 => 7
  | 8 => 16
  | 9 => 34
  | 10 => 7
  | 11 => 16
  | 12 => 34
  | _ => 0
def expN : Int → Int
  | 1 => 5
  | 2 => 8
  | 3 => 8
  | 4 => 11
  | 5 => 15
  | 6 => 15
  | 7 => 96
  | 8 => 384
  | 9 => 6144
  | 10 => 96
  | 11 => 384
  | 12 => 6144
  | _ => 0
def leastN : Int → Int
  | 1 => -24
  | 2 => -133
  | 3 => -149
  | 4 => -1074
  | 5 => -16494
  | 6 => -16622
  | 7 => -101
  | 8 => -398
  | 9 => -6176
  | 10 => -101
  | 11 => -398
  | 12 => -6176
  | _ => 0
def mostN : Int → Int
  | 1 => 5
  | 2 => 120
  | 3 => 104
  | 4 => 971
  | 5 => 16271
  | 6 => 16143
  | 7 => 90
  | 8 => 369
  | 9 => 6111
  | 10 => 90
  | 11 => 369
  | 12 => 6111
  | _ => 0
set_option maxHeartbeats 400000 in
def holdsP (f g : Int) : Prop := okN f ∧ okN g ∧ baseN f = baseN g ∧ precN f ≤ precN g ∧ leastN g ≤ leastN f ∧ mostN f + precN f ≤ mostN g + precN g
instance (f g : Int) : Decidable (holdsP f g) := inferInstanceAs (Decidable (_ ∧ _))
end Go.Proofs.Ytpgihikbdmmdpaa

namespace Go.Proofs.Ytpgihikbdmmdpaa
open Go.RowKit

theorem val_one1 (c : Int) : val (oneW c) 1 = c := by simp [val, oneW]
theorem pow_half (s : Int) (m : Nat) : s ^ m = (if m % 2 = 1 then s else 1) * (s * s) ^ (m / 2) := by
  have e : (s * s) ^ (m / 2) = s ^ (2 * (m / 2)) := by rw [Int.pow_mul]; congr 1; rw [Int.pow_succ, Int.pow_succ, Int.pow_zero, Int.one_mul]
  rw [e]
  by_cases h : m % 2 = 1
  · rw [if_pos h, Int.mul_comm, ← Int.pow_succ]; congr 1; omega
  · rw [if_neg h, Int.one_mul]; congr 1; omega

set_option maxHeartbeats 2000000 in
theorem rpow_any (b : Int) (n : Nat) (w : World) (hb : 0 ≤ b ∧ b ≤ 18446744073709551615) (hn : n ≤ 17000) :
    Calls Try.prog 20 #[.int .u64 b, .int .i64 n] w fun e w' => ∃ g k cap z, e = .returned (.slice (some ⟨g, 0, none⟩) k cap) ∧ k ≤ 4 * n + 2 ∧ Num w' (some ⟨g, 0, none⟩) k cap z ∧ val z k = b ^ n ∧ Below w.heap.size w w' := by
  have hN1 := num_one w 1 (by decide)
  have hB1 := below1 w (.cells #[.int .u64 1] 30)
  have hN2 := num_one (w.alloc (.cells #[.int .u64 1] 30)) b hb
  have hB2 := below1 (w.alloc (.cells #[.int .u64 1] 30)) (.cells #[.int .u64 b] 30)
  have hN1' := hN1.next hB2
  have hB := hB1.trans (hB2.mono hB1.size)
  have hs : (w.alloc (.cells #[.int .u64 1] 30)).heap.size = w.heap.size + 1 := by simp
  rw [hs] at hN2
  have HB : Hid (Below w.heap.size w ((w.alloc (.cells #[.int .u64 1] 30)).alloc (.cells #[.int .u64 b] 30))) := hB
  clear hN1 hB1 hB2 hB hs
  go_enter Try.func20, Try.ntmps20
  go_wp2
  generalize (w.alloc (.cells #[.int .u64 1] 30)).alloc (.cells #[.int .u64 b] 30) = wA at *
  go_loopw [1, 5, 6] (fun nv ov sv wr => ∃ (m P g1 k1 p1 g2 k2 p2 : Nat) (z1 z2 : Nat → Int), nv = .int .i64 m ∧ m ≤ n ∧ 1 ≤ P ∧ m * P ≤ n ∧ P ≤ 2 * n + 1 ∧ ov = .slice (some ⟨g1, 0, none⟩) k1 p1 ∧ sv = .slice (some ⟨g2, 0, none⟩) k2 p2 ∧ k1 + 1 ≤ 2 * P ∧ k2 + 1 ≤ 2 * P ∧ Num wr (some ⟨g1, 0, none⟩) k1 p1 z1 ∧ Num wr (some ⟨g2, 0, none⟩) k2 p2 z2 ∧ Hid (val z1 k1 * val z2 k2 ^ m = b ^ n) ∧ Below w.heap.size w wr) (fun nv _ _ _ => (intOf nv).toNat)
  case atStart => exact ⟨n, 1, w.heap.size, 1, 1, w.heap.size + 1, 1, 1, oneW 1, oneW b, rfl, Nat.le_refl _, Nat.le_refl _, by omega, by omega, rfl, rfl, by omega, by omega, hN1', hN2, by show _ = _; rw [val_one1, val_one1, Int.one_mul], HB.out⟩
  case round =>
    clear hN1' hN2 HB
    obtain ⟨m, P, g1, k1, p1, g2, k2, p2, z1, z2, rfl, hmn, hP, hmP, hP2, rfl, rfl, hk1, hk2, hN1, hN2, hv, hB⟩ := hrel
    by_cases h0 : m = 0
    · subst h0
      have HV : Hid (val z1 k1 = b ^ n) := by show _ = _; have := hv.out; simpa using this
      have HN1 : Hid (Num wr (some ⟨g1, 0, none⟩) k1 p1 z1) := hN1
      clear hN1 hN2 hv
      go_wp2
      go_ret
      exact ⟨g1, k1, p1, z1, rfl, by omega, HN1.out, HV.out, hB⟩
    · have hm0 : (0 : Int) < m := by omega
      have hPn : P ≤ n := by
        have : 1 * P ≤ m * P := Nat.mul_le_mul_right P (by omega)
        omega
      have hq2 : (m : Int) / 2 = ((m / 2 : Nat) : Int) := by omega
      have hr2 : (m : Int) % 2 = ((m % 2 : Nat) : Int) := by omega
      have hmP' : m / 2 * (2 * P) ≤ n := by
        have h1 : m / 2 * 2 ≤ m := Nat.div_mul_le_self m 2
        have h2 : m / 2 * 2 * P ≤ m * P := Nat.mul_le_mul_right P h1
        rw [← Nat.mul_assoc]; omega
      have HPH : Hid (val z2 k2 ^ m = (if m % 2 = 1 then val z2 k2 else 1) * (val z2 k2 * val z2 k2) ^ (m / 2)) := pow_half _ _
      have tt := fun wr (hb : Below w.heap.size w wr) h1 h2 => times_val g1 0 k1 p1 g2 0 k2 p2 z1 z2 wr (by omega) (by omega) h1 h2
      have ts := fun wr (hb : Below w.heap.size w wr) h2 => times_val g2 0 k2 p2 g2 0 k2 p2 z2 z2 wr (by omega) (by omega) h2 h2
      generalize hq : m / 2 = q at *
      by_cases hodd : m % 2 = 1
      · rw [hodd] at hr2
        rw [if_pos hodd] at HPH
        have t1 := tt wr hB hN1 hN2
        by_cases hq0 : q = 0
        · subst hq0
          have hq00 : (m : Int) / 2 = 0 := hq2
          clear hq2
          go_wp2_with (go_at_call 39; refine t1.mono ?_; rintro e w1 ⟨g3, k3, p3, z3, rfl, hk3, hN3, hv3, hb1⟩; clear tt t1)
          have HV3 : Hid (val z3 k3 * val z2 k2 ^ 0 = b ^ n) := by
            show _ = _
            rw [hv3, ← hv.out, HPH.out]; simp
          have HN3 : Hid (Num w1 (some ⟨g3, 0, none⟩) k3 p3 z3) := hN3
          have HN2 : Hid (Num w1 (some ⟨g2, 0, none⟩) k2 p2 z2) := hN2.next hb1
          have hB1 := hB.trans (hb1.mono hB.size)
          clear hN1 hN2 hN3 hv hv3 ts
          go_roundw
          case rel => exact ⟨0, 2 * P, g3, k3, p3, g2, k2, p2, z3, z2, rfl, by omega, by omega, by omega, by omega, rfl, rfl, by omega, by omega, HN3.out, HN2.out, HV3, hB1⟩
          case measure => simp [intOf]; omega
        · have hq0' : (0 : Int) < q := by omega
          go_wp2_with (go_at_call 39; refine t1.mono ?_; rintro e w1 ⟨g3, k3, p3, z3, rfl, hk3, hN3, hv3, hb1⟩; clear tt t1)
          have hB1 := hB.trans (hb1.mono hB.size)
          have hN21 := hN2.next hb1
          have t2 := ts w1 hB1 hN21
          go_wp2_with (go_at_call 39; refine t2.mono ?_; rintro e w2 ⟨g4, k4, p4, z4, rfl, hk4, hN4, hv4, hb2⟩; clear ts t2)
          have HV3 : Hid (val z3 k3 * val z4 k4 ^ q = b ^ n) := by
            show _ = _
            rw [hv3, hv4, ← hv.out, HPH.out, Int.mul_assoc]
          have HN3 : Hid (Num w2 (some ⟨g3, 0, none⟩) k3 p3 z3) := hN3.next hb2
          have HN4 : Hid (Num w2 (some ⟨g4, 0, none⟩) k4 p4 z4) := hN4
          have hB2 := hB1.trans (hb2.mono hB1.size)
          clear hN1 hN2 hN3 hN21 hN4 hv hv3 hv4
          go_roundw
          case rel => exact ⟨q, 2 * P, g3, k3, p3, g4, k4, p4, z3, z4, rfl, by omega, by omega, by omega, by omega, rfl, rfl, by omega, by omega, HN3.out, HN4.out, HV3, hB2⟩
          case measure => simp [intOf]; omega
      · have h20 : m % 2 = 0 := by omega
        rw [h20] at hr2
        rw [if_neg hodd, Int.one_mul] at HPH
        have hq0' : (0 : Int) < q := by omega
        have t2 := ts wr hB hN2
        go_wp2_with (go_at_call 39; refine t2.mono ?_; rintro e w2 ⟨g4, k4, p4, z4, rfl, hk4, hN4, hv4, hb2⟩; clear ts tt t2)
        have HV3 : Hid (val z1 k1 * val z4 k4 ^ q = b ^ n) := by
          show _ = _
          rw [hv4, ← hv.out, HPH.out]
        have HN3 : Hid (Num w2 (some ⟨g1, 0, none⟩) k1 p1 z1) := hN1.next hb2
        have HN4 : Hid (Num w2 (some ⟨g4, 0, none⟩) k4 p4 z4) := hN4
        have hB2 := hB.trans (hb2.mono hB.size)
        clear hN1 hN2 hN4 hv hv4
        go_roundw
        case rel => exact ⟨q, 2 * P, g1, k1, p1, g4, k4, p4, z1, z4, rfl, by omega, by omega, by omega, by omega, rfl, rfl, by omega, by omega, HN3.out, HN4.out, HV3, hB2⟩
        case measure => simp [intOf]; omega
end Go.Proofs.Ytpgihikbdmmdpaa

namespace Go.Proofs.Ytpgihikbdmmdpaa
open Go.RowKit

def fitsP (n : Int) (x : Nat → Int) : Prop := okN n ∧ lenL (lowW x 4) 4 ≤ widthN n
instance (n : Int) (x : Nat → Int) : Decidable (fitsP n x) := inferInstanceAs (Decidable (_ ∧ _))
theorem box_num {w0 w : World} {ax : Array Value} {t : TypeId} {x : Nat → Int} (hx : Words x) (hax : ∀ i, i < 4 → ax[i]? = some (.int .u64 (x i))) (hb : Below (w0.alloc (.cells ax t)).heap.size (w0.alloc (.cells ax t)) w) :
    Num w (some ⟨w0.heap.size, 0, none⟩) 4 4 (lowW x 4) :=
  ((HasN.of_alloc w0 ax t 4 x hax).next hb).num hx (Nat.le_refl _) (Nat.le_refl _) (by unfold maxLen; omega)
end Go.Proofs.Ytpgihikbdmmdpaa

namespace Go.Proofs.Ytpgihikbdmmdpaa
open Go.RowKit

theorem cell_set_map (W : World) (b i : Nat) (v : Value) : (W.setCell ⟨b, i, none⟩ v).cell? ⟨b, i, none⟩ = (W.cell? ⟨b, i, none⟩).map fun _ => v := by
  unfold World.cell? World.setCell
  simp only [Array.getElem?_modify, if_true]
  cases h : W.heap[b]? with
  | none => simp
  | some o =>
    cases o with
    | cells c e fr =>
      simp only [Option.map_some, Option.isSome_none, Bool.false_eq_true, if_false]
      by_cases hi : i < c.size
      · simp [hi]
      · simp [hi]
    | _ => simp
/-- a datum: class, sign, signal, exponent, coefficient -/
structure Dat where
  c : Int
  s : Bool
  g : Bool
  x : Int
  k : Nat
theorem W4_zero (i : Nat) : W4 0 i = 0 := by unfold W4; simp
/-- what the pattern with that fraction means, the exponent all ones -/
def spc (f : Nat) (s : Bool) (F : Nat) : Dat := if F = 0 then ⟨2, s, false, 0, 0⟩ else if F < 2 ^ (f - 1) then ⟨3, s, true, 0, F⟩ else ⟨3, s, false, 0, F - 2 ^ (f - 1)⟩

end Go.Proofs.Ytpgihikbdmmdpaa

namespace Go.Proofs.Ytpgihikbdmmdpaa
open Go.RowKit

/-- a binary format -/
def binN (n : Int) : Prop := 1 ≤ n ∧ n ≤ 6
instance (n : Int) : Decidable (binN n) := inferInstanceAs (Decidable (_ ∧ _))
def fN (n : Int) : Nat := (precN n - 1).toNat
def eN (n : Int) : Nat := (expN n).toNat
/-- a binary format's pattern -/
def goodN (n : Int) (B : Nat) : Prop := binN n ∧ B < 2 ^ (fN n + eN n + 1)
instance (n : Int) (B : Nat) : Decidable (goodN n B) := inferInstanceAs (Decidable (_ ∧ _))
theorem A4_get (B : Nat) : ∀ i, i < 4 → (#[Value.int .u64 (W4 B 0), .int .u64 (W4 B 1), .int .u64 (W4 B 2), .int .u64 (W4 B 3)] : Array Value)[i]? = some (.int .u64 (W4 B i)) := fun i hi => by
  have : i = 0 ∨ i = 1 ∨ i = 2 ∨ i = 3 := by omega
  rcases this with rfl | rfl | rfl | rfl <;> rfl
end Go.Proofs.Ytpgihikbdmmdpaa

namespace Go.Proofs.Ytpgihikbdmmdpaa
open Go.RowKit

abbrev Z4 : Value := .agg #[.int .u64 0, .int .u64 0, .int .u64 0, .int .u64 0]
theorem Z4_eq : A4 0 = Z4 := by unfold A4 Z4; simp only [W4_zero]

/-- is a datum the format's? -/
def isD (f : Nat) (l m : Int) (d : Dat) : Prop :=
  (d.c = 1 ∧ d.g = false ∧ d.k < 2 ^ (f + 1) ∧ l ≤ d.x ∧ d.x ≤ m ∧ (2 ^ f ≤ d.k ∨ d.x = l)) ∨
  (d.c = 2 ∧ d.g = false ∧ d.x = 0 ∧ d.k = 0) ∨
  (d.c = 3 ∧ d.x = 0 ∧ d.k < 2 ^ (f - 1) ∧ (d.k ≠ 0 ∨ d.g = false))
instance (f : Nat) (l m : Int) (d : Dat) : Decidable (isD f l m d) := inferInstanceAs (Decidable (_ ∨ _ ∨ _))
end Go.Proofs.Ytpgihikbdmmdpaa

namespace Go.Proofs.Ytpgihikbdmmdpaa
open Go.RowKit

theorem eq24d (d : Nat) (a0 a1 a2 a3 b0 b1 b2 b3 : Int) (w : World) :
    Sem.run Try.prog (Op.equalIn (d + 2) 32 (.agg #[.int .u64 a0, .int .u64 a1, .int .u64 a2, .int .u64 a3]) (.agg #[.int .u64 b0, .int .u64 b1, .int .u64 b2, .int .u64 b3])) w = .ok (decide (a0 = b0 ∧ a1 = b1 ∧ a2 = b2 ∧ a3 = b3)) w := by
  obtain ⟨i22, hi⟩ : ∃ i, Try.prog.info? 30 = some i := ⟨_, rfl⟩
  have h := run_equalIn_array (P := Try.prog) w (d + 1) (t := 32) (e := 30) (n := 4) #[.int .u64 a0, .int .u64 a1, .int .u64 a2, .int .u64 a3] #[.int .u64 b0, .int .u64 b1, .int .u64 b2, .int .u64 b3] (by kernel_rfl) hi
  refine h.trans ?_
  have hc : Try.prog.cellsOf 30 = 1 := by kernel_rfl
  rw [hc]
  simp [List.range_succ, Op.eqItems, go_sem]
  by_cases h0 : a0 = b0 <;> by_cases h1 : a1 = b1 <;> by_cases h2 : a2 = b2 <;> by_cases h3 : a3 = b3 <;> simp [h0, h1, h2, h3]
theorem eq24 (a0 a1 a2 a3 b0 b1 b2 b3 : Int) (w : World) :
    Sem.run Try.prog (Op.equalIn 10000 32 (.agg #[.int .u64 a0, .int .u64 a1, .int .u64 a2, .int .u64 a3]) (.agg #[.int .u64 b0, .int .u64 b1, .int .u64 b2, .int .u64 b3])) w = .ok (decide (a0 = b0 ∧ a1 = b1 ∧ a2 = b2 ∧ a3 = b3)) w :=
  eq24d 9998 a0 a1 a2 a3 b0 b1 b2 b3 w
end Go.Proofs.Ytpgihikbdmmdpaa

namespace Go.Proofs.Ytpgihikbdmmdpaa
open Go.RowKit

section
variable {H : Type} {enc : TypeId × Value → H} {W : World} {base : Nat} {sp : Nat → Bool} {held : Bool}
theorem c9 : Try.prog.cellsOf 9 = 1 := by kernel_rfl
theorem c3 : Try.prog.cellsOf 3 = 1 := by kernel_rfl
end
end Go.Proofs.Ytpgihikbdmmdpaa

namespace Go.Proofs.Ytpgihikbdmmdpaa
open Go.ChangeShapes Go.WideShapes Go.ChangeAt Go.RowKit

theorem Try.own : ownKnob Try.prog.godebug = none := by kernel_rfl
theorem Try.laidOut : laidOutB Try.prog = true := by kernel_rfl
end Go.Proofs.Ytpgihikbdmmdpaa

set_option maxRecDepth 100000
set_option maxRecDepth 20000
namespace Go.Proofs.Ytpgihikbdmmdpaa
open Go.ChangeShapes Go.WideShapes Go.ChangeAt Go.RowKit

theorem Try.cells30 : Try.prog.cellsOf 30 = 1 := by kernel_rfl
section
variable {H : Type} {enc : TypeId × Value → H} {W : World} {r : Reach} {base b : Nat} {sp : Nat → Bool} {held : Bool} {t : TypeId} {n : Nat} {v : Value} {d : DataW H} {p : List MemPlace}
theorem open_words (ht : Try.prog.underlying t = some (.array n 30)) (hc : Try.prog.cellsOf t = n) (hok : Value.okWide Try.prog W r base t v) (h : DataW.Trod enc Try.prog W b sp held t v d p) :
    ∃ x, Words x ∧ v = .agg (arrOf x n) ∧ p = [] := by
  have ho : ∃ cs, v = .agg cs ∧ cs.size = n := by
    simp only [Value.okWide, ht] at hok
    obtain ⟨cs, h1, h2, _⟩ := hok
    exact ⟨cs, h1, by rw [h2, hc]⟩
  obtain ⟨cs, rfl, hcs⟩ := ho
  obtain ⟨fuel, hf⟩ := h
  obtain ⟨xs, m, rfl, hx, hl, hlen, hi⟩ := DataW.trod_array ht hf
  have hcell : ∀ i, i < n → ∃ z, cs[i]? = some (.int .u64 z) ∧ xs[i]? = some (.lit (.int .u64 z), []) ∧ (0 ≤ z ∧ z ≤ 18446744073709551615) := by
    intro i hin
    have h1 := hi i hin
    rw [Try.cells30] at h1
    have hix : i < xs.length := by omega
    rw [List.getElem?_eq_getElem hix] at h1
    obtain ⟨z, hz, hxz, hw⟩ := DataW.trod_int Try.underlying30 h1
    refine ⟨z, ?_, ?_, bounds_u64 hw⟩
    · have hic : i < cs.size := by omega
      have : ((Value.agg cs).cells.toList.drop (i * 1)).take 1 = [cs[i]] := by
        simp [Value.cells, List.take_one, List.head?_drop, hic]
      rw [this] at hz
      rw [Array.getElem?_eq_getElem hic]
      simpa using hz
    · rw [List.getElem?_eq_getElem hix, hxz]
  refine ⟨fun i => match cs[i]? with | some (.int .u64 z) => (if i < n then z else 0) | _ => 0, ?_, ?_, ?_⟩
  · intro i
    by_cases hin : i < n
    · obtain ⟨z, h1, _, h3⟩ := hcell i hin
      simp only [h1, if_pos hin]; exact h3
    · have : cs[i]? = none := by simp; omega
      simp only [this]; omega
  · congr 1
    refine arrOf_of cs n _ hcs fun i hin => ?_
    obtain ⟨z, h1, _, _⟩ := hcell i hin
    simp only [h1, if_pos hin]
  · have : p = xs.flatMap (·.2) := by
      have := congrArg Prod.snd hx; simpa using this
    rw [this]
    simp only [List.flatMap_eq_nil_iff]
    intro y hy
    obtain ⟨i, hin, rfl⟩ := List.getElem_of_mem hy
    obtain ⟨z, _, h2, _⟩ := hcell i (by omega)
    rw [List.getElem?_eq_getElem hin] at h2
    rw [Option.some.inj h2]
end
end Go.Proofs.Ytpgihikbdmmdpaa

set_option maxRecDepth 100000
namespace Go.Proofs.Ytpgihikbdmmdpaa
open Go.ChangeShapes Go.WideShapes Go.ChangeAt Go.RowKit

section
variable {H : Type} {enc : TypeId × Value → H} {W : World} {r : Reach} {base b : Nat} {sp : Nat → Bool} {held : Bool} {t : TypeId} {n : Nat} {v : Value} {d : DataW H} {p : List MemPlace}
theorem open_bits (hok : Value.okWide Try.prog W r base 32 v) (h : DataW.Trod enc Try.prog W b sp held 32 v d p) : ∃ A, A < 2 ^ 256 ∧ v = A4 A ∧ p = [] := by
  obtain ⟨x, hx, rfl, hp⟩ := open_words Try.underlying32 (by kernel_rfl) hok h
  obtain ⟨A, hA, he, _⟩ := words_A4 hx
  exact ⟨A, hA, he, hp⟩
theorem bits_stay {W' : World} {sp' : Nat → Bool} (h : DataW.Trod enc Try.prog W 0 (fun _ => true) true 32 v d []) : DataW.Trod enc Try.prog W' 0 sp' true 32 v d [] :=
  WideElems.Trod_stays Try.laidOut (by kernel_rfl) (of_decide_eq_true (by kernel_rfl)) h (by simp) (by simp)
end
end Go.Proofs.Ytpgihikbdmmdpaa

set_option maxRecDepth 20000
namespace Go.Proofs.Ytpgihikbdmmdpaa
open Go.RowKit

/-- which digits are great -/
def dlG (n : Nat) : Nat := n / 100 / 8 * 4 + n / 10 % 10 / 8 * 2 + n % 10 / 8
/-- the table's row -/
def dlR (g : Nat) : Nat × Nat × Nat :=
  if g = 0 then (10, 11, 22) else if g = 1 then (10, 11, 4) else if g = 2 then (10, 12, 5) else if g = 4 then (12, 11, 6) else if g = 3 then (10, 2, 7) else if g = 5 then (11, 1, 7) else if g = 6 then (12, 0, 7) else (0, 3, 7)
/-- two bits, by a cell of the row -/
def dlT (n r : Nat) : Nat := if 10 ≤ r then (if r % 10 = 0 then n / 100 else if r % 10 = 1 then n / 10 % 10 else n % 10) / 2 % 4 else r
/-- a number's declet -/
def dlE (n : Nat) : Nat := dlT n (dlR (dlG n)).1 * 256 + n / 100 % 2 * 128 + dlT n (dlR (dlG n)).2.1 * 32 + n / 10 % 10 % 2 * 16 + dlT n (dlR (dlG n)).2.2 * 2 + n % 10 % 2
/-- does the declet d mean n? (two bits of the last row mean nothing) -/
def dlM (d n : Nat) : Bool := dlE n == d || (d / 32 % 4 == 3 && d / 2 % 8 == 7 && dlE n == d % 256)
/-- what a declet means -/
def dlD (d : Nat) : Nat :=
  let a := d / 128; let b := d / 16 % 8; let x := d % 2
  let p := d / 256; let q := d / 128 % 2; let s := d / 32 % 4; let t := d / 16 % 2
  if d / 8 % 2 = 0 then a * 100 + b * 10 + d % 8
  else if d / 2 % 4 = 0 then a * 100 + b * 10 + (8 + x)
  else if d / 2 % 4 = 1 then a * 100 + (8 + t) * 10 + (s * 2 + x)
  else if d / 2 % 4 = 2 then (8 + q) * 100 + b * 10 + (p * 2 + x)
  else if s = 0 then (8 + q) * 100 + (8 + t) * 10 + (p * 2 + x)
  else if s = 1 then (8 + q) * 100 + (p * 2 + t) * 10 + (8 + x)
  else if s = 2 then a * 100 + (8 + t) * 10 + (8 + x)
  else (8 + q) * 100 + (8 + t) * 10 + (8 + x)
def upTo (f : Nat → Bool) : Nat → Bool
  | 0 => true
  | i + 1 => f i && upTo f i
theorem upTo_all {f : Nat → Bool} : ∀ {m : Nat}, upTo f m = true → ∀ i, i < m → f i = true
  | 0, _, i, hi => absurd hi (Nat.not_lt_zero i)
  | m + 1, h, i, hi => by
    unfold upTo at h
    rw [Bool.and_eq_true] at h
    rcases Nat.lt_succ_iff_lt_or_eq.1 hi with h1 | h1
    · exact upTo_all h.2 i h1
    · rw [h1]; exact h.1
/-- a number's declet means it, and is below 1024 -/
theorem dl_back : ∀ n, n < 1000 → dlD (dlE n) = n ∧ dlE n < 1024 := fun n hn => by
  have h := upTo_all (f := fun n => decide (dlD (dlE n) = n ∧ dlE n < 1024)) (m := 1000) (by decide +kernel) n hn
  exact of_decide_eq_true h
/-- every declet means a number -/
theorem dl_means : ∀ d, d < 1024 → dlD d < 1000 ∧ dlM d (dlD d) = true ∧ (d / 32 % 4 = 3 → d / 2 % 8 = 7 → dlD (d % 256) = dlD d) := fun d hd => by
  have h := upTo_all (f := fun d => decide (dlD d < 1000 ∧ dlM d (dlD d) = true ∧ (d / 32 % 4 = 3 → d / 2 % 8 = 7 → dlD (d % 256) = dlD d))) (m := 1024) (by decide +kernel) d hd
  exact of_decide_eq_true h
/-- and no other one -/
theorem dl_only {d n : Nat} (hd : d < 1024) (hn : n < 1000) : dlM d n = true ↔ n = dlD d := by
  constructor
  · intro h
    unfold dlM at h
    rw [Bool.or_eq_true, Bool.and_eq_true, Bool.and_eq_true] at h
    have hb := (dl_back n hn).1
    rcases h with h | ⟨⟨h1, h2⟩, h3⟩
    · rw [beq_iff_eq] at h
      rw [← hb, h]
    · rw [beq_iff_eq] at h1 h2 h3
      rw [← hb, h3]
      exact (dl_means d hd).2.2 h1 h2
  · rintro rfl
    exact (dl_means d hd).2.1
/-- how many declets below m are canonical -/
def dlC : Nat → Nat
  | 0 => 0
  | d + 1 => dlC d + if dlE (dlD d) = d then 1 else 0
theorem dl_thousand : dlC 1024 = 1000 := by decide +kernel
/-- a number of small digits -/
theorem dl_small {x y z : Nat} (hx : x < 8) (hy : y < 8) (hz : z < 8) : dlE (100 * x + 10 * y + z) = x * 128 + y * 16 + z := by
  have h := upTo_all (f := fun i => decide (dlE (100 * (i / 64) + 10 * (i / 8 % 8) + i % 8) = i / 64 * 128 + i / 8 % 8 * 16 + i % 8)) (m := 512) (by decide +kernel) (x * 64 + y * 8 + z) (by omega)
  have h' := of_decide_eq_true h
  rw [show (x * 64 + y * 8 + z) / 64 = x by omega, show (x * 64 + y * 8 + z) / 8 % 8 = y by omega, show (x * 64 + y * 8 + z) % 8 = z by omega] at h'
  exact h'
theorem dl_low {n : Nat} (hn : n < 1000) : dlE n % 2 = n % 2 := by
  have h := upTo_all (f := fun n => decide (dlE n % 2 = n % 2)) (m := 1000) (by decide +kernel) n hn
  exact of_decide_eq_true h
/-! declets in a row -/
/-- a coefficient's declets -/
def dlP : Nat → Nat → Nat
  | 0, _ => 0
  | c + 1, a => dlE (a % 1000) + 1024 * dlP c (a / 1000)
/-- what declets in a row mean -/
def dlU : Nat → Nat → Nat
  | 0, _ => 0
  | c + 1, b => dlD (b % 1024) + 1000 * dlU c (b / 1024)
theorem dlP_lt : ∀ (c a : Nat), dlP c a < 1024 ^ c
  | 0, a => by unfold dlP; decide
  | c + 1, a => by
    unfold dlP
    have h1 := (dl_back (a % 1000) (Nat.mod_lt _ (by decide))).2
    have h2 := dlP_lt c (a / 1000)
    rw [Nat.pow_succ]
    omega
theorem dlU_lt : ∀ (c b : Nat), dlU c b < 1000 ^ c
  | 0, b => by unfold dlU; decide
  | c + 1, b => by
    unfold dlU
    have h1 := (dl_means (b % 1024) (Nat.mod_lt _ (by decide))).1
    have h2 := dlU_lt c (b / 1024)
    rw [Nat.pow_succ]
    omega
theorem dl_there : ∀ (c a : Nat), a < 1000 ^ c → dlU c (dlP c a) = a
  | 0, a, h => by
    rw [Nat.pow_zero] at h
    unfold dlU
    omega
  | c + 1, a, h => by
    unfold dlU dlP
    obtain ⟨h1, h2⟩ := dl_back (a % 1000) (Nat.mod_lt _ (by decide))
    rw [Nat.add_mul_mod_self_left, Nat.mod_eq_of_lt h2, h1, Nat.add_mul_div_left _ _ (by decide), Nat.div_eq_of_lt h2, Nat.zero_add, dl_there c (a / 1000) (by rw [Nat.pow_succ] at h; omega)]
    omega
theorem dlE_zero : dlE 0 = 0 := by decide +kernel
theorem dlP_zero : ∀ c, dlP c 0 = 0
  | 0 => rfl
  | c + 1 => by
    unfold dlP
    rw [Nat.zero_mod, Nat.zero_div, dlE_zero, dlP_zero c]
/-- with one declet more it is the same -/
theorem dlP_more : ∀ (c a : Nat), a < 1000 ^ c → dlP (c + 1) a = dlP c a
  | 0, a, h => by
    rw [Nat.pow_zero] at h
    have : a = 0 := by omega
    subst this
    rw [dlP_zero, dlP_zero]
  | c + 1, a, h => by
    show dlE (a % 1000) + 1024 * dlP (c + 1) (a / 1000) = dlE (a % 1000) + 1024 * dlP c (a / 1000)
    rw [dlP_more c (a / 1000) (by rw [Nat.pow_succ] at h; omega)]
end Go.Proofs.Ytpgihikbdmmdpaa

namespace Go.Proofs.Ytpgihikbdmmdpaa
open Go.RowKit

/-- Encode: its number, its error -/
def dEv (n : Int) : Int := if 0 ≤ n ∧ n ≤ 999 then (dlE n.toNat : Int) else 0
def dEe (n : Int) : Int := if 0 ≤ n ∧ n ≤ 999 then 0 else 3
/-- Decode: its number, its error -/
def dDv (n : Int) : Int := if 0 ≤ n ∧ n ≤ 1023 then (dlD n.toNat : Int) else 0
def dDe (n : Int) : Int := if 0 ≤ n ∧ n ≤ 1023 then 0 else 3
/-- Canonical -/
def dCb (n : Int) : Bool := decide ((0 ≤ n ∧ n ≤ 1023) ∧ dlE (dlD n.toNat) = n.toNat)
/-- Pack: its pattern, its error -/
def dPv (C : Nat) (n : Int) : Nat := if 0 ≤ n ∧ n ≤ 11 then (if C < 1000 ^ n.toNat then dlP n.toNat C else 0) else 0
def dPe (C : Nat) (n : Int) : Int := if 0 ≤ n ∧ n ≤ 11 then (if C < 1000 ^ n.toNat then 0 else 3) else 1
/-- Unpack: its number, its error -/
def dUv (B : Nat) (n : Int) : Nat := if 0 ≤ n ∧ n ≤ 11 then (if B < 1024 ^ n.toNat then dlU n.toNat B else 0) else 0
def dUe (B : Nat) (n : Int) : Int := if 0 ≤ n ∧ n ≤ 11 then (if B < 1024 ^ n.toNat then 0 else 3) else 1
/-- one declet more, at the high end -/
theorem dlP_snoc : ∀ (c a : Nat), dlP (c + 1) a = dlP c a + dlE (a / 1000 ^ c % 1000) * 1024 ^ c
  | 0, a => by
    show dlE (a % 1000) + 1024 * dlP 0 (a / 1000) = dlP 0 a + _
    rw [show dlP 0 (a / 1000) = 0 from rfl, show dlP 0 a = 0 from rfl]
    simp
  | c + 1, a => by
    show dlE (a % 1000) + 1024 * dlP (c + 1) (a / 1000) = (dlE (a % 1000) + 1024 * dlP c (a / 1000)) + _
    rw [dlP_snoc c (a / 1000), Nat.div_div_eq_div_mul, show 1000 * 1000 ^ c = 1000 ^ (c + 1) by rw [Nat.pow_succ, Nat.mul_comm], Nat.pow_succ 1024 c, Nat.mul_add, Nat.mul_comm 1024 (dlE _ * _), Nat.mul_assoc, Nat.add_assoc]
theorem dlP_256 (c a : Nat) (hc : c ≤ 11) : dlP c a < 2 ^ 256 := by
  have h := dlP_lt c a
  have h2 : (1024 : Nat) ^ c ≤ 1024 ^ 11 := Nat.pow_le_pow_right (by decide) hc
  have h3 : (1024 : Nat) ^ 11 < 2 ^ 256 := by decide
  omega
/-- what c declets mean, from the highest of them on: i of them, at the bits from 10 (c - i) on -/
theorem dlU_step : ∀ (c b : Nat), dlU (c + 1) b = dlU c (b / 1024) * 1000 + dlD (b % 1024) := fun c b => by
  show dlD (b % 1024) + 1000 * dlU c (b / 1024) = _
  omega
end Go.Proofs.Ytpgihikbdmmdpaa

namespace Go.Proofs.Ytpgihikbdmmdpaa
open Go.RowKit
theorem rless_tr (a a' : Option Addr) (n c n' c' : Nat) (x y : Nat → Int) (w : World) (hn : n < 4294967290) (hn' : n' < 4294967290) (h : Num w a n c x) (h' : Num w a' n' c' y) :
    Calls Try.prog 51 #[.slice a n c, .slice a' n' c'] w fun e w' => ∃ g k cap, e = .returned (.slice (some ⟨g, 0, none⟩) k cap) ∧ k ≤ max n n' ∧ Num w' (some ⟨g, 0, none⟩) k cap (difZ x y (max n n')) ∧ sizeL (difZ x y (max n n')) k = k ∧ Below w.heap.size w w' := by
  have hx := h.2.2.1
  have hy := h'.2.2.1
  have zx := h.2.2.2.1
  have zy := h'.2.2.2.1
  obtain ⟨M, hM⟩ : ∃ M, max n n' = M := ⟨_, rfl⟩
  have hMi : max (n : Int) n' = (M : Int) := by omega
  have hMb : M < 4294967292 := by omega
  have hmk := fun w => make_any (max (n : Int) n') M hMi (by omega) w
  have hfin : ∀ (ss : Array Value), ss.size = M → (∀ j h, ss[j]'h = Value.int .u64 (difW x y j)) → Num (w.alloc (.cells ss 30)) (some ⟨w.heap.size, 0, none⟩) M M (difZ x y (max n n')) := fun ss h1 h2 => num_of_block (by omega) (difZ_words x y _) (fun i hi => by unfold difZ; rw [if_neg (by omega)]) h1 (fun j hj => by rw [h2 j hj]; unfold difZ; rw [if_pos (by omega)])
  have hw1 := fun (i : Nat) (ss : Array Value) => word_any a n c i x (w.alloc (.cells ss 30)) (h.next (below1 w _))
  have hw2 := fun (i : Nat) (ss : Array Value) => word_any a' n' c' i y (w.alloc (.cells ss 30)) (h'.next (below1 w _))
  have HM : Hid (max n n' = M) := hM
  have HZ : Hid ((arrOf (fun _ => 0) M).size = M ∧ ∀ j h, (arrOf (fun _ => 0) M)[j]'h = Value.int .u64 0) := ⟨arrOf_size _ _, fun j h => arrOf_get _ _ _ _⟩
  clear h h' zx zy hM hMi
  generalize arrOf (fun _ => 0) M = zz at *
  go_enter Try.func51, Try.ntmps51
  go_wp2
  go_loopw [6, 7, 16, 19] (fun c u7 i u20 wr => ∃ (k : Nat) (ss : Array Value), k ≤ M ∧ i = .int .i64 k ∧ c = .int .u64 (borW x y k) ∧ ss.size = M ∧ (∀ j h, ss[j]'h = Value.int .u64 (if j < k then difW x y j else 0)) ∧ wr = w.alloc (.cells ss 30)) (fun _ _ i _ _ => M - (intOf i).toNat)
  case atStart => exact ⟨0, zz, Nat.zero_le _, rfl, rfl, HZ.out.1, fun j h => by rw [HZ.out.2 j h]; simp, rfl⟩
  case round =>
    obtain ⟨k, ss, hk, rfl, rfl, hsz, hss, rfl⟩ := hrel
    have hcar := borW_01 x y k
    by_cases h8 : k < M
    · have h8i : (k : Int) < M := by omega
      have h8s : k < ss.size := by omega
      have bx := hx k
      have b_y := hy k
      have hsk : ss[k]? = some (.int .u64 0) := by rw [Array.getElem?_eq_getElem h8s, hss k h8s, if_neg (by omega)]
      have hadd := fun w => sub64 (x k) (y k) (borW x y k) bx.1 b_y.1 (by omega) hcar.1 hcar.2 w
      have hwa := hw1 k ss
      have hwb := hw2 k ss
      have HR : Hid (∀ (i : Nat) (h : i < (ss.setIfInBounds k (.int .u64 (difW x y k))).size), (ss.setIfInBounds k (.int .u64 (difW x y k)))[i]'h = Value.int .u64 (if i < k + 1 then difW x y i else 0)) := set_next hss
      clear hss hw1 hw2 hfin hmk hx hy
      go_wp2_with (first | (go_at_call_of 41 (Value.slice a n c); refine hwa.mono ?_; rintro e w' ⟨rfl, rfl⟩) | (go_at_call_of 41 (Value.slice a' n' c'); refine hwb.mono ?_; rintro e w' ⟨rfl, rfl⟩))
      go_roundw
      case rel => exact ⟨k + 1, ss.setIfInBounds k (.int .u64 (difW x y k)), by omega, by go_num, rfl, by simp [hsz], HR.out, rfl⟩
      case measure => simp [intOf]; omega
    · obtain rfl : k = M := by omega
      have hss' : ∀ j h, ss[j]'h = Value.int .u64 (difW x y j) := by
        intro j h; rw [hss j h, if_pos (by omega)]
      have hT := trim_any _ _ _ _ _ (by omega) (hfin ss hsz hss')
      have hle := sizeL_le (difZ x y (max n n')) k
      clear hss hss' hw1 hw2 hfin hmk hx hy
      go_wp2_with (go_at_call 47; refine hT.mono ?_; rintro e w1 ⟨g, cap, rfl, hN, hB⟩)
      go_ret
      exact ⟨g, _, cap, rfl, Nat.le_trans hle (Nat.le_of_eq HM.out.symm), hN, sizeL_sizeL _ _, (below1 w _).trans (hB.mono (by simp))⟩

/-- a natural number, of at most K words -/
def NV (K V : Nat) (v : Value) (w : World) : Prop := ∃ g k cap z, v = .slice (some ⟨g, 0, none⟩) k cap ∧ k ≤ K ∧ Num w (some ⟨g, 0, none⟩) k cap z ∧ val z k = (V : Int)
theorem NV.next {K V : Nat} {v : Value} {w w' : World} (h : NV K V v w) (hb : Below w.heap.size w w') : NV K V v w' := by
  obtain ⟨g, k, cap, z, h1, h2, h3, h4⟩ := h
  exact ⟨g, k, cap, z, h1, h2, h3.next hb, h4⟩
theorem rright_nv {K A : Nat} {v : Value} {w : World} (s : Nat) (hK : K < 1000) (hs : s ≤ 600) (h : NV K A v w) :
    Calls Try.prog 52 #[v, .int .i64 s] w fun e w' => ∃ v' b, e = .returned (.tuple #[v', .bool b]) ∧ NV K (A / 2 ^ s) v' w' ∧ Below w.heap.size w w' := by
  obtain ⟨g, k, cap, z, rfl, hk, hN, hv⟩ := h
  obtain ⟨q, hq⟩ : ∃ q : Nat, (s : Int) / 64 = q := ⟨((s : Int) / 64).toNat, by omega⟩
  obtain ⟨r, hr⟩ : ∃ r : Nat, (s : Int) % 64 = r := ⟨((s : Int) % 64).toNat, by omega⟩
  have hsn : s = 64 * q + r := by omega
  have hr6 : r < 64 := by omega
  have key : ∀ (w' : World) (g' k' cap' : Nat), k' ≤ k → Num w' (some ⟨g', 0, none⟩) k' cap' (shrW z q r) → NV K (A / 2 ^ s) (.slice (some ⟨g', 0, none⟩) k' cap') w' := fun w' g' k' cap' hk' hN' => by
    refine ⟨g', k', cap', _, rfl, by omega, hN', ?_⟩
    rw [← val_more hN'.2.2.2.1 k hk', hsn]
    exact shrW_val hN.2.2.1 hN.2.2.2.1 hr6 k (Nat.le_refl _) hv
  by_cases h0 : r = 0
  · subst h0
    refine (right_z g 0 k cap q s z w (by omega) (by omega) hq (by omega) (by omega) hN).mono ?_
    rintro e w' ⟨g', k', cap', b, rfl, hk', hN', hb⟩
    exact ⟨_, b, rfl, key w' g' k' cap' hk' hN', hb⟩
  · refine (right_p g 0 k cap q r s z w (by omega) (by omega) hr6 (by omega) hq hr (by omega) hN).mono ?_
    rintro e w' ⟨g', k', cap', b, rfl, hk', hN', hb⟩
    exact ⟨_, b, rfl, key w' g' k' cap' hk' hN', hb⟩
theorem rleft_nv {K A : Nat} {v : Value} {w : World} (s : Nat) (hK : K < 1000) (hs : s ≤ 600) (h : NV K A v w) :
    Calls Try.prog 50 #[v, .int .i64 s] w fun e w' => ∃ v', e = .returned v' ∧ NV (K + 11) (A * 2 ^ s) v' w' ∧ Below w.heap.size w w' := by
  obtain ⟨g, k, cap, z, rfl, hk, hN, hv⟩ := h
  obtain ⟨q, hq⟩ : ∃ q : Nat, (s : Int) / 64 = q := ⟨((s : Int) / 64).toNat, by omega⟩
  obtain ⟨r, hr⟩ : ∃ r : Nat, (s : Int) % 64 = r := ⟨((s : Int) % 64).toNat, by omega⟩
  have hsn : s = 64 * q + r := by omega
  have hr6 : r < 64 := by omega
  have key : ∀ (w' : World) (g' k' cap' : Nat), k' ≤ k + q + 1 → Num w' (some ⟨g', 0, none⟩) k' cap' (finL z q r) → NV (K + 11) (A * 2 ^ s) (.slice (some ⟨g', 0, none⟩) k' cap') w' := fun w' g' k' cap' hk' hN' => by
    refine ⟨g', k', cap', _, rfl, by omega, hN', ?_⟩
    rw [← val_more hN'.2.2.2.1 (k + q + 1) hk', finL_val hN.2.2.1 hN.2.2.2.1 q hr6, hv, hsn]
    simp
  by_cases h0 : r = 0
  · subst h0
    refine (left_z g 0 k cap q s z w (by omega) (by omega) hq (by omega) (by omega) hN).mono ?_
    rintro e w' ⟨g', k', cap', rfl, hk', hN', hb⟩
    exact ⟨_, rfl, key w' g' k' cap' hk' hN', hb⟩
  · refine (left_p g 0 k cap q r s z w (by omega) (by omega) hr6 (by omega) hq hr (by omega) hN).mono ?_
    rintro e w' ⟨g', k', cap', rfl, hk', hN', hb⟩
    exact ⟨_, rfl, key w' g' k' cap' hk' hN', hb⟩
/-- a natural number without noughts at its end -/
def NT (K V : Nat) (v : Value) (w : World) : Prop := ∃ g k cap z, v = .slice (some ⟨g, 0, none⟩) k cap ∧ k ≤ K ∧ Num w (some ⟨g, 0, none⟩) k cap z ∧ val z k = (V : Int) ∧ sizeL z k = k
theorem NT.nv {K V : Nat} {v : Value} {w : World} (h : NT K V v w) : NV K V v w := by
  obtain ⟨g, k, cap, z, h1, h2, h3, h4, _⟩ := h
  exact ⟨g, k, cap, z, h1, h2, h3, h4⟩
theorem NT.next {K V : Nat} {v : Value} {w w' : World} (h : NT K V v w) (hb : Below w.heap.size w w') : NT K V v w' := by
  obtain ⟨g, k, cap, z, h1, h2, h3, h4, h5⟩ := h
  exact ⟨g, k, cap, z, h1, h2, h3.next hb, h4, h5⟩
theorem rless_nt {K K' A B : Nat} {v v' : Value} {w : World} (hK : K < 1000) (hK' : K' < 1000) (h : NV K A v w) (h' : NV K' B v' w) (hv : B ≤ A) :
    Calls Try.prog 51 #[v, v'] w fun e w' => ∃ r, e = .returned r ∧ NT (K + K') (A - B) r w' ∧ Below w.heap.size w w' := by
  obtain ⟨g, k, c, z, rfl, hk, hN, hz⟩ := h
  obtain ⟨g2, k2, c2, z2, rfl, hk2, hN2, hz2⟩ := h'
  refine (rless_tr _ _ k c k2 c2 z z2 w (by omega) (by omega) hN hN2).mono fun e w' ⟨g3, k3, cap3, e1, hk3, hN3, ht, hB⟩ => ⟨_, e1, ⟨g3, k3, cap3, _, rfl, by omega, hN3, ?_, ht⟩, hB⟩
  have ex := val_more hN.2.2.2.1 (max k k2) (by omega)
  have ey := val_more hN2.2.2.2.1 (max k k2) (by omega)
  have e := dif_val hN.2.2.1 hN2.2.2.1 (max k k2)
  rw [borW_end hN.2.2.1 hN2.2.2.1 (by omega), ex, ey] at e
  rw [← val_more hN3.2.2.2.1 _ hk3, val_congr (y := difW z z2) (max k k2) fun i hi => by unfold difZ; rw [if_pos hi]]
  omega
theorem radd_nv {K K' A B : Nat} {v v' : Value} {w : World} (hK : K < 1000000) (hK' : K' < 1000000) (h : NV K A v w) (h' : NV K' B v' w) :
    Calls Try.prog 38 #[v, v'] w fun e w' => ∃ r, e = .returned r ∧ NV (K + K' + 1) (A + B) r w' ∧ Below w.heap.size w w' := by
  obtain ⟨g, k, c, z, rfl, hk, hN, hz⟩ := h
  obtain ⟨g2, k2, c2, z2, rfl, hk2, hN2, hz2⟩ := h'
  refine (radd_val _ _ k c k2 c2 z z2 w (by omega) (by omega) hN hN2).mono fun e w' ⟨g3, k3, cap3, z3, e1, hk3, hN3, hv3, hB⟩ => ⟨_, e1, ⟨g3, k3, cap3, z3, rfl, by omega, hN3, ?_⟩, hB⟩
  rw [hv3, hz, hz2]; omega
theorem NT.zero {K V : Nat} {v : Value} {w : World} (h : NT K V v w) : ∃ g k cap, v = .slice (some ⟨g, 0, none⟩) k cap ∧ k ≤ K ∧ (k = 0 ↔ V = 0) := by
  obtain ⟨g, k, cap, z, h1, h2, h3, h4, h5⟩ := h
  refine ⟨g, k, cap, h1, h2, ?_⟩
  constructor
  · intro hk; subst hk
    have : val z 0 = 0 := rfl
    omega
  · intro hV
    rcases Nat.eq_zero_or_pos k with hk | hk
    · exact hk
    · exfalso
      have ht := sizeL_top (x := z) k (by omega)
      rw [h5] at ht
      obtain ⟨j, rfl⟩ : ∃ j, k = j + 1 := ⟨k - 1, by omega⟩
      have hs : val z (j + 1) = val z j + z j * 18446744073709551616 ^ j := rfl
      have hb := val_bd h3.2.2.1 j
      have hp := pw_pos j
      have hj := h3.2.2.1 j
      have hz : z j ≠ 0 := ht
      have : 1 * 18446744073709551616 ^ j ≤ z j * 18446744073709551616 ^ j := Int.mul_le_mul_of_nonneg_right (by omega) (Int.le_of_lt hp)
      omega
end Go.Proofs.Ytpgihikbdmmdpaa
