/-
  Texts that the proof leans on, joined: Si8, Lift, Lfw, Lfd, Lk, Sj8, Sk8, Sl8, Sm8.
-/
import Derived.Test.YtoobncgmcnmgjaaGreatDoorL40
import Derived.Test.YtoobncgmcnmgjaaGreatDoorL1
import Derived.Test.YtoobncgmcnmgjaaGreatDoorL34
import Derived.ProofKit
import Derived.OpenShut
import Derived.Carry
import Derived.Deep.DeepHandedRow
import Derived.Test.YtoobncgmcnmgjaaGreatDoorL3
import Derived.Test.YtoobncgmcnmgjaaGreatDoorL2
import Derived.Test.YtoobncgmcnmgjaaGreatDoorL16
import Derived.Test.YtoobncgmcnmgjaaGreatDoorL26
import Derived.Test.YtoobncgmcnmgjaaGreatDoorRows
import Derived.LaidLaws
import Derived.ChangeMaps5
set_option linter.unusedVariables false
set_option linter.unusedSectionVars false
set_option linter.unusedSimpArgs false
set_option maxRecDepth 20000
namespace Go.Proofs.YtoobncgmcnmgjaaGreatDoor
open Go.RowKit

attribute [local irreducible] W4
section
variable (n : Int) (V : Nat) (w : World) (hT : Tab w) (hT10 : Tb10 w)
variable (c9 : ∀ W, Below w.heap.size w W → Calls Tryz.prog 9 #[] W fun r w' => r = .returned (.bool true) ∧ Below W.heap.size W w')
include hT hT10 c9
set_option maxHeartbeats 2000000 in
theorem law5_e (E : Int) (hE : (E != 0) = true) (c12 : ∀ W, Tab W → Tb10 W → Calls Tryz.prog 12 #[.int .i64 n, A4 V] W fun r w' => r = .returned (.tuple #[.string ⟨#[]⟩, .int .i64 E]) ∧ Below W.heap.size W w')
    (c14 : ∀ W, Calls Tryz.prog 14 #[.int .i64 n, A4 V] W fun r w' => r = .returned (.bool false) ∧ Below W.heap.size W w') :
    Calls Tryz.prog 5 #[.int .i64 n, A4 V] w fun r w' => r = .returned (.bool true) ∧ Below w.heap.size w w' := by
  have hsm := cell_set_map
  unfold A4 at *
  go_enter Tryz.func5, Tryz.ntmps5
  go_wp2_with (first
    | (go_at_call 9; refine (c9 _ bgo).mono ?_; rintro r w1 ⟨rfl, hb1⟩; obtain ⟨hc1, hf1⟩ := bcell hb1; have hz1_0 : w.heap.size < w1.heap.size := lt_below hb1 ltg; have hl1_0 := Nat.le_of_lt hz1_0; have hA1 := bnext (w0 := w) bgo hb1; have hs1 := hA1.size; clear hb1)
    | (go_at_call 12; refine (c12 _ (hT.go bgo) (hT10.next bgo)).mono ?_; rintro r w2 ⟨rfl, hb2⟩; obtain ⟨hc2, hf2⟩ := bcell hb2; have hz2_0 : w.heap.size < w2.heap.size := lt_below hb2 ltg; have hl2_0 := Nat.le_of_lt hz2_0; have hA2 := bnext (w0 := w) bgo hb2; have hs2 := hA2.size; clear hb2)
    | (go_at_call 14; refine (c14 _).mono ?_; rintro r w3 ⟨rfl, hb3⟩; obtain ⟨hc3, hf3⟩ := bcell hb3; have hz3_0 : w.heap.size < w3.heap.size := lt_below hb3 ltg; have hl3_0 := Nat.le_of_lt hz3_0; have hA3 := bnext (w0 := w) bgo hb3; have hs3 := hA3.size; clear hb3))
  go_ret
  exact ⟨by simp, bgo⟩
set_option maxHeartbeats 4000000 in
theorem law5_w (T : List UInt8) (F : Int) (hF : F = 0 ∨ F = 8 ∨ F = 12)
    (c12 : ∀ W, Tab W → Tb10 W → Calls Tryz.prog 12 #[.int .i64 n, A4 V] W fun r w' => r = .returned (.tuple #[.string (B T), .int .i64 0]) ∧ Below W.heap.size W w')
    (c15 : ∀ W, Tab W → Tb10 W → Calls Tryz.prog 15 #[.int .i64 n, .int .i64 0, .string (B T)] W fun r w' => r = .returned (.tuple #[A4 V, .int .i64 F, .int .i64 0]) ∧ Below W.heap.size W w') :
    Calls Tryz.prog 5 #[.int .i64 n, A4 V] w fun r w' => r = .returned (.bool true) ∧ Below w.heap.size w w' := by
  have hsm := cell_set_map
  have h24 := eq24 (W4 V 0) (W4 V 1) (W4 V 2) (W4 V 3) (W4 V 0) (W4 V 1) (W4 V 2) (W4 V 3)
  rw [show decide (W4 V 0 = W4 V 0 ∧ W4 V 1 = W4 V 1 ∧ W4 V 2 = W4 V 2 ∧ W4 V 3 = W4 V 3) = true by simp] at h24
  unfold A4 at *
  rcases hF with rfl | rfl | rfl
  all_goals
    go_enter Tryz.func5, Tryz.ntmps5
    go_wp2_with (first
      | (go_at_call 9; refine (c9 _ bgo).mono ?_; rintro r w1 ⟨rfl, hb1⟩; obtain ⟨hc1, hf1⟩ := bcell hb1; have hz1_0 : w.heap.size < w1.heap.size := lt_below hb1 ltg; have hl1_0 := Nat.le_of_lt hz1_0; have hA1 := bnext (w0 := w) bgo hb1; have hs1 := hA1.size; clear hb1)
      | (go_at_call 12; refine (c12 _ (hT.go bgo) (hT10.next bgo)).mono ?_; rintro r w2 ⟨rfl, hb2⟩; obtain ⟨hc2, hf2⟩ := bcell hb2; have hz2_0 : w.heap.size < w2.heap.size := lt_below hb2 ltg; have hl2_0 := Nat.le_of_lt hz2_0; have hA2 := bnext (w0 := w) bgo hb2; have hs2 := hA2.size; clear hb2)
      | (go_at_call 15; refine (c15 _ (hT.go bgo) (hT10.next bgo)).mono ?_; rintro r w3 ⟨rfl, hb3⟩; obtain ⟨hc3, hf3⟩ := bcell hb3; have hz3_0 : w.heap.size < w3.heap.size := lt_below hb3 ltg; have hl3_0 := Nat.le_of_lt hz3_0; have hA3 := bnext (w0 := w) bgo hb3; have hs3 := hA3.size; clear hb3))
    go_ret
    exact ⟨by simp, bgo⟩
end
/-- ShortestBack -/
theorem shortestBack_any (n : Int) (V : Nat) (w : World) (hT : Tab w) (hT10 : Tb10 w) (hV : V < 2 ^ 256) :
    Calls Tryz.prog 5 #[.int .i64 n, A4 V] w fun r w' => r = .returned (.bool true) ∧ Below w.heap.size w w' := by
  have c9 := fun W (hW : Below w.heap.size w W) => awake9 W (hT.go hW) (hT10.next hW)
  by_cases hg : goodN n V
  · obtain ⟨E, K, hS⟩ := shd_any n V
    have hS := hS hg
    obtain ⟨p, hp, hpv, hpf⟩ := wr_back hg hS
    have hl : (sgL (unD n V).s ++ wrT n V E K).length ≤ 3001 := by
      rw [List.length_append]
      have h1 := wrT_len hg hS
      have : (sgL (unD n V).s).length ≤ 1 := by cases (unD n V).s <;> decide
      omega
    refine law5_w n V w hT hT10 c9 _ _ hpf (fun W hW hW10 => write1_of hg hV hS W hW hW10) fun W hW hW10 => ?_
    have := read_v (n := n) (d := 0) hg.1 (by decide) hp hl W hW hW10
    rw [hpv] at this
    exact this
  · have c22 := fun W (hW : Tab W) => unpack_any n V W hW hV
    have e1 : unE n V = 1 := if_neg hg
    rw [e1] at c22
    refine law5_e n V w hT hT10 c9 1 (by decide) (fun W hW _ => wr_e n V (unD n V).c (unD n V).s (unD n V).g (unD n V).x (unD n V).k W hW 1 (by decide) c22) fun W => ?_
    have := rgood_any n V hV W
    rw [decide_eq_false hg] at this
    exact this
end Go.Proofs.YtoobncgmcnmgjaaGreatDoor

namespace Go.Proofs.YtoobncgmcnmgjaaGreatDoor
open Go.ChangeShapes Go.WideShapes Go.ChangeAt Go.RowKit

theorem Tryz.own : ownKnob Tryz.prog.godebug = none := by kernel_rfl
theorem Tryz.laidOut : laidOutB Tryz.prog = true := by kernel_rfl
def tabCells : Array Value := ((List.range 12).flatMap fun i => (List.range 4).map fun k => rowV i k).toArray
def layCells (c : Array Value) : Obj → Obj
  | .cells _ t frozen => .cells c t frozen
  | o => o
end Go.Proofs.YtoobncgmcnmgjaaGreatDoor

set_option maxRecDepth 100000
set_option maxRecDepth 20000
namespace Go.Proofs.YtoobncgmcnmgjaaGreatDoor
open Go.ChangeShapes Go.WideShapes Go.ChangeAt Go.RowKit

theorem Tryz.cells22 : Tryz.prog.cellsOf 22 = 1 := by kernel_rfl
section
variable {H : Type} {enc : TypeId × Value → H} {W : World} {r : Reach} {base b : Nat} {sp : Nat → Bool} {held : Bool} {t : TypeId} {n : Nat} {v : Value} {d : DataW H} {p : List MemPlace}
theorem open_words (ht : Tryz.prog.underlying t = some (.array n 22)) (hc : Tryz.prog.cellsOf t = n) (hok : Value.okWide Tryz.prog W r base t v) (h : DataW.Trod enc Tryz.prog W b sp held t v d p) :
    ∃ x, Words x ∧ v = .agg (arrOf x n) ∧ p = [] := by
  have ho : ∃ cs, v = .agg cs ∧ cs.size = n := by
    simp only [Value.okWide, ht] at hok
    obtain ⟨cs, h1, h2, _⟩ := hok
    exact ⟨cs, h1, by rw [h2, hc]⟩
  obtain ⟨cs, rfl, hcs⟩ := ho
  obtain ⟨fuel, hf⟩ := h
  obtain ⟨xs, m, rfl, hx, hl, hlen, hi⟩ := DataW.trod_array ht hf
  have hcell : ∀ i, i < n → ∃ z, cs[i]? = some (.int .u64 z) ∧ xs[i]? = some (.lit (.int .u64 z), []) ∧ (0 ≤ z ∧ z ≤ 18446744073709551615) := by
    intro i hin
    have h1 := hi i hin
    rw [Tryz.cells22] at h1
    have hix : i < xs.length := by omega
    rw [List.getElem?_eq_getElem hix] at h1
    obtain ⟨z, hz, hxz, hw⟩ := DataW.trod_int Tryz.underlying22 h1
    refine ⟨z, ?_, ?_, bounds_u64 hw⟩
    · have hic : i < cs.size := by omega
      have : ((Value.agg cs).cells.toList.drop (i * 1)).take 1 = [cs[i]] := by
        simp [Value.cells, List.take_one, List.head?_drop, hic]
      rw [this] at hz
      rw [Array.getElem?_eq_getElem hic]
      simpa using hz
    · rw [List.getElem?_eq_getElem hix, hxz]
  refine ⟨fun i => match cs[i]? with | some (.int .u64 z) => (if i < n then z else 0) | _ => 0, ?_, ?_, ?_⟩
  · intro i
    by_cases hin : i < n
    · obtain ⟨z, h1, _, h3⟩ := hcell i hin
      simp only [h1, if_pos hin]; exact h3
    · have : cs[i]? = none := by simp; omega
      simp only [this]; omega
  · congr 1
    refine arrOf_of cs n _ hcs fun i hin => ?_
    obtain ⟨z, h1, _, _⟩ := hcell i hin
    simp only [h1, if_pos hin]
  · have : p = xs.flatMap (·.2) := by
      have := congrArg Prod.snd hx; simpa using this
    rw [this]
    simp only [List.flatMap_eq_nil_iff]
    intro y hy
    obtain ⟨i, hin, rfl⟩ := List.getElem_of_mem hy
    obtain ⟨z, _, h2, _⟩ := hcell i (by omega)
    rw [List.getElem?_eq_getElem hin] at h2
    rw [Option.some.inj h2]
end
end Go.Proofs.YtoobncgmcnmgjaaGreatDoor

set_option maxRecDepth 100000
namespace Go.Proofs.YtoobncgmcnmgjaaGreatDoor
open Go.ChangeShapes Go.WideShapes Go.ChangeAt Go.RowKit

section
variable {H : Type} {enc : TypeId × Value → H} {W : World} {r : Reach} {base b : Nat} {sp : Nat → Bool} {held : Bool} {t : TypeId} {n : Nat} {v : Value} {d : DataW H} {p : List MemPlace}
theorem open_bits (hok : Value.okWide Tryz.prog W r base 24 v) (h : DataW.Trod enc Tryz.prog W b sp held 24 v d p) : ∃ A, A < 2 ^ 256 ∧ v = A4 A ∧ p = [] := by
  obtain ⟨x, hx, rfl, hp⟩ := open_words Tryz.underlying24 (by kernel_rfl) hok h
  obtain ⟨A, hA, he, _⟩ := words_A4 hx
  exact ⟨A, hA, he, hp⟩
theorem bits_stay {W' : World} {sp' : Nat → Bool} (h : DataW.Trod enc Tryz.prog W 0 (fun _ => true) true 24 v d []) : DataW.Trod enc Tryz.prog W' 0 sp' true 24 v d [] :=
  WideElems.Trod_stays Tryz.laidOut (by kernel_rfl) (of_decide_eq_true (by kernel_rfl)) h (by simp) (by simp)
end
end Go.Proofs.YtoobncgmcnmgjaaGreatDoor

namespace Go.Proofs.YtoobncgmcnmgjaaGreatDoor
open Go.ChangeShapes Go.WideShapes Go.ChangeAt Go.RowKit

/-- Go's tables, as cells -/
def firstCells : Array Value := (((List.replicate 128 240 ++ List.replicate 66 241 ++ List.replicate 30 2 ++ [19] ++ List.replicate 12 3 ++ [35] ++ List.replicate 2 3 ++ [52] ++ List.replicate 3 4 ++ [68] ++ List.replicate 11 241 : List Int)).map fun n => Value.int .u8 n).toArray
def rangeCells : Array Value := ((([128, 191, 160, 191, 128, 159, 144, 191, 128, 143] ++ List.replicate 22 0 : List Int)).map fun n => Value.int .u8 n).toArray
def db32Cells : Array Value := (([0, 1, 28, 2, 29, 14, 24, 3, 30, 22, 20, 15, 25, 17, 4, 8, 31, 27, 13, 23, 21, 19, 16, 7, 26, 12, 18, 6, 11, 5, 10, 9] : List Int).map fun n => Value.int .u8 n).toArray
def db64Cells : Array Value := ((([0, 1, 56, 2, 57, 49, 28, 3, 61, 58, 42, 50, 38, 29, 17, 4, 62, 47, 59, 36, 45, 43, 51, 22, 53, 39, 33, 30, 24, 18, 12, 5] ++ [63, 55, 48, 27, 60, 41, 37, 16, 46, 35, 44, 21, 52, 32, 23, 11, 54, 26, 40, 15, 34, 20, 31, 10, 25, 14, 19, 9, 13, 8, 7, 6] : List Int)).map fun n => Value.int .u8 n).toArray
def pow10Cells : Array Value := ((List.range 20).map fun k => Value.int .u64 ((10 ^ k : Nat) : Int)).toArray
noncomputable def laidWorld8 (os : Os) : World :=
  { World.holding Tryz.prog os ⟨#[], #[], []⟩ with heap := ((((((World.holding Tryz.prog os ⟨#[], #[], []⟩).heap.modify 0 (layCells tabCells)).modify 3 (layCells pow10Cells)).modify 4 (layCells db32Cells)).modify 5 (layCells db64Cells)).modify 6 (layCells firstCells)).modify 7 (layCells rangeCells) }
theorem laid_tail {P : Program} {W : World} {x : String × DataW Unit} {r : List (String × DataW Unit)} (h : laidMet P (x :: r) W) : laidMet P r W := by
  obtain ⟨ps, ⟨g, t, cs, fuel, p, q, _, _, _, _, hr, rfl⟩, hn, hc⟩ := h
  refine ⟨q, hr, ?_, fun b off hm => hc b off (by simp [hm])⟩
  exact (List.nodup_append.1 hn).2.1
theorem pw10_of_list {W : World} {x y : String × DataW Unit} {r : List (String × DataW Unit)} (h : laidMet Tryz.prog (x :: y :: ("internal/strconv.uint64pow10", Lib.tabData .u64 Lib.pow10Tab) :: r) W) : Tb10 W :=
  Lib.tabIs_of_head (P := Tryz.prog) (name := "internal/strconv.uint64pow10") (k := .u64) (zs := Lib.pow10Tab) (g := 3) (t := 211) (e := 22) (n := 20) (by kernel_rfl) (by kernel_rfl) (by kernel_rfl) (by kernel_rfl) (by kernel_rfl) (by kernel_rfl) (laid_tail (laid_tail h))
theorem tab_of_list {W : World} {x0 x1 x2 x3 : String × DataW Unit} {r : List (String × DataW Unit)} (h : laidMet Tryz.prog (x0 :: x1 :: x2 :: x3 :: ("caliper/desc.rows", Rows.laid_caliper_desc_rows) :: r) W) : Tab W :=
  tab_of_laid (laid_tail (laid_tail (laid_tail (laid_tail h))))
section
variable {H : Type} {enc : TypeId × Value → H} {W : World} {r : Reach} {base b : Nat} {sp : Nat → Bool} {held : Bool} {t : TypeId} {n : Nat} {v : Value} {d : DataW H} {p : List MemPlace}
end
end Go.Proofs.YtoobncgmcnmgjaaGreatDoor

namespace Go.Proofs.YtoobncgmcnmgjaaGreatDoor

theorem sd_far {n : Int} {s : Bool} {x : Int} {k : Nat} {E : Int} {K j : Nat} (hbn : binN n) (h : isD (fN n) (leastN n) (mostN n) ⟨1, s, false, x, k⟩) (hk : k ≠ 0) (hS : Shd n x k E K) (hj : j < K) (e : Int) (he : e = E - j) (u : Nat) (hu : u = 0 ∨ u = 1) :
    rdV n 0 s (tN (dV (dsN (4 * k * oE x E) (zE x E) (j + 1)) + u) e) (tD e) e ≠ pkV n ⟨1, s, false, x, k⟩ := by
  have hZ := zE_pos x E
  have hO := oE_pos x E
  have hR : 4 * k * oE x E < 10 * zE x E := by
    have := hS.t1
    rw [tn_next] at this
    omega
  have hr := ds_rest hZ hR j
  have hst := hS.mn j hj
  unfold stK at hst
  rw [Bool.or_eq_false_iff] at hst
  obtain ⟨hun, hov⟩ := hst
  generalize dV (dsN (4 * k * oE x E) (zE x E) (j + 1)) = m at *
  obtain ⟨t1, t2⟩ := ten_shift n 0 s (m + u) e
  rw [← t1]
  have hD0 : 10 ^ (-e).toNat ≠ 0 := Nat.pos_iff_ne_zero.1 (Nat.pow_pos (by decide))
  obtain ⟨u1, u2⟩ := rd_shift n 0 s ((m + u) * 10 ^ e.toNat) hD0 (-x).toNat x.toNat x
  rw [show x + (((-x).toNat : Int) - (x.toNat : Int)) = 0 by omega] at u1 u2
  rw [← u1]
  have hD : 0 < 10 ^ (-e).toNat * 2 ^ x.toNat := Nat.mul_pos (Nat.pow_pos (by decide)) (Nat.two_pow_pos _)
  have hP : 0 < 10 ^ j * oE x E := Nat.mul_pos (Nat.pow_pos (by decide)) hO
  have hl := ten_link (A := m + u) (C := 0) (j := j) (E := E) (e := e) (x := x) rfl (by omega)
  rw [Nat.pow_zero, Nat.mul_one] at hl
  generalize (m + u) * 10 ^ e.toNat * 2 ^ (-x).toNat = N at *
  generalize 10 ^ (-e).toNat * 2 ^ x.toNat = D at *
  have eR : 10 ^ j * (4 * k * oE x E) = 4 * k * (10 ^ j * oE x E) := Nat.mul_left_comm _ _ _
  have eO : ∀ l, 10 ^ j * (l * oE x E) = l * (10 ^ j * oE x E) := fun l => Nat.mul_left_comm _ _ _
  rw [eR] at hr
  have hlt : rsN (4 * k * oE x E) (zE x E) j % zE x E < zE x E := Nat.mod_lt _ hZ
  refine rd_far hbn h hk (by omega) ?_
  rcases hu with rfl | rfl
  · unfold unK at hun
    rw [eO] at hun
    rw [Nat.add_zero] at hl
    have key := (near_link (c := evK k) (k := k) (l := lwN n x k) hP hD hl).1 (by omega)
    refine Or.inr ⟨key.1, ?_⟩
    rw [key.2, ← hr, Nat.add_sub_cancel_left]
    exact hun
  · unfold ovK at hov
    rw [eO] at hov
    have hs : (m + 1) * zE x E = m * zE x E + zE x E := Nat.succ_mul _ _
    have key := (near_link (c := evK k) (k := k) (l := 2) hP hD hl).2 (by omega)
    refine Or.inl ⟨key.1, ?_⟩
    rw [key.2, hs, ← hr, Nat.add_sub_add_left]
    exact hov
/-- a decimal number's text: what Read answers -/
theorem dec_cut (s : Bool) {D : List UInt8} {e ex : Int} (hg : gdD D) (h0 : D ≠ []) (hl : D.length ≤ 3950) (he : -50000 ≤ ex ∧ ex ≤ 50000) (hE : e = ex + D.length - 1) :
    cutP (sgL s ++ unT D e) = some ⟨1, s, false, D, ex⟩ := by
  cases D with
  | nil => exact absurd rfl h0
  | cons c r =>
    have ha := gdD_all hg
    rw [List.all_cons, Bool.and_eq_true] at ha
    have hc0 : (c.toNat : Int) ≠ 48 := by
      rcases hg with h | ⟨_, h⟩
      · cases h
      · rw [by_zero] at h; exact h
    rw [List.length_cons] at hl hE
    have := un_cut s (e := e) ha.1 hc0 ha.2 (by omega) (by omega)
    rw [this, hE]
    congr 2
    omega
/-- one digit less, below -/
theorem low_facts {n x : Int} {k : Nat} {E : Int} {j : Nat} (hS : Shd n x k E (j + 1)) : gdD (dsN (4 * k * oE x E) (zE x E) (j + 1)) ∧ sdT n x k E (j + 1) = dsN (4 * k * oE x E) (zE x E) (j + 1) ++ [UInt8.ofNat (48 + laK (evK k) (4 * k * oE x E) (lwN n x k * oE x E) (2 * oE x E) (zE x E) (j + 1))] ∧
    1 ≤ laK (evK k) (4 * k * oE x E) (lwN n x k * oE x E) (2 * oE x E) (zE x E) (j + 1) ∧ laK (evK k) (4 * k * oE x E) (lwN n x k * oE x E) (2 * oE x E) (zE x E) (j + 1) ≤ 9 ∧ sdC n x k E (j + 1) = 0 := by
  have hZ := zE_pos x E
  have hZR : zE x E ≤ 4 * k * oE x E := hS.t0
  have hR : 4 * k * oE x E < 10 * zE x E := by
    have := hS.t1
    rw [tn_next] at this
    omega
  have hl9 := la_lt (c := evK k) (d := lwN n x k * oE x E) (u := 2 * oE x E) (K := j + 1) hZ (Nat.succ_pos j) hR hS.mn
  have hl1 := la_pos (c := evK k) (d := lwN n x k * oE x E) (u := 2 * oE x E) hZ hZR hS.st hS.mn
  have ha := ds_all hZ hR (j + 1)
  have h9 := dgK_le hZ hR 0
  have h1 := dg0_pos hZ hZR
  obtain ⟨r, hr⟩ := ds_first hZ hR hZR j
  refine ⟨?_, ?_, hl1, hl9, ?_⟩
  · rw [hr] at ha ⊢
    exact gd_cons ha (by rw [ofNat_dg h9]; omega)
  · unfold sdT shT
    rw [if_neg (by omega)]
  · unfold sdC shC
    rw [if_neg (by omega)]
end Go.Proofs.YtoobncgmcnmgjaaGreatDoor

set_option maxRecDepth 20000
namespace Go.Proofs.YtoobncgmcnmgjaaGreatDoor
open Go.RowKit

attribute [local irreducible] W4
section
variable (n : Int) (V : Nat) (w : World) (hT : Tab w) (hT10 : Tb10 w)
variable (c9 : ∀ W, Below w.heap.size w W → Calls Tryz.prog 9 #[] W fun r w' => r = .returned (.bool true) ∧ Below W.heap.size W w')
include hT hT10 c9
set_option maxHeartbeats 2000000 in
theorem law6_e (E : Int) (hE : (E != 0) = true) (T : List UInt8) (at_ : Int) (c10 : ∀ W, Tab W → Calls Tryz.prog 10 #[.int .i64 n, A4 V] W fun r w' => r = .returned (.tuple #[.string (B T), .int .i64 at_, .int .i64 E]) ∧ Below W.heap.size W w') :
    Calls Tryz.prog 6 #[.int .i64 n, A4 V] w fun r w' => r = .returned (.bool true) ∧ Below w.heap.size w w' := by
  have hsm := cell_set_map
  unfold A4 at *
  go_enter Tryz.func6, Tryz.ntmps6
  go_wp2_with (first
    | (go_at_call 9; refine (c9 _ bgo).mono ?_; rintro r w1 ⟨rfl, hb1⟩; obtain ⟨hc1, hf1⟩ := bcell hb1; have hz1_0 : w.heap.size < w1.heap.size := lt_below hb1 ltg; have hl1_0 := Nat.le_of_lt hz1_0; have hA1 := bnext (w0 := w) bgo hb1; have hs1 := hA1.size; clear hb1)
    | (go_at_call 10; refine (c10 _ (hT.go bgo)).mono ?_; rintro r w2 ⟨rfl, hb2⟩; obtain ⟨hc2, hf2⟩ := bcell hb2; have hz2_0 : w.heap.size < w2.heap.size := lt_below hb2 ltg; have hl2_0 := Nat.le_of_lt hz2_0; have hA2 := bnext (w0 := w) bgo hb2; have hs2 := hA2.size; clear hb2))
  go_ret
  exact ⟨by simp, bgo⟩
set_option maxHeartbeats 2000000 in
theorem law6_1 (c : UInt8) (at_ : Int) (c10 : ∀ W, Tab W → Calls Tryz.prog 10 #[.int .i64 n, A4 V] W fun r w' => r = .returned (.tuple #[.string (B [c]), .int .i64 at_, .int .i64 0]) ∧ Below W.heap.size W w') :
    Calls Tryz.prog 6 #[.int .i64 n, A4 V] w fun r w' => r = .returned (.bool true) ∧ Below w.heap.size w w' := by
  have hsm := cell_set_map
  have z0 : (B [c]).size = 1 := rfl
  generalize B [c] = Bc at *
  unfold A4 at *
  go_enter Tryz.func6, Tryz.ntmps6
  go_wp2_with (first
    | (go_at_call 9; refine (c9 _ bgo).mono ?_; rintro r w1 ⟨rfl, hb1⟩; obtain ⟨hc1, hf1⟩ := bcell hb1; have hz1_0 : w.heap.size < w1.heap.size := lt_below hb1 ltg; have hl1_0 := Nat.le_of_lt hz1_0; have hA1 := bnext (w0 := w) bgo hb1; have hs1 := hA1.size; clear hb1)
    | (go_at_call 10; refine (c10 _ (hT.go bgo)).mono ?_; rintro r w2 ⟨rfl, hb2⟩; obtain ⟨hc2, hf2⟩ := bcell hb2; have hz2_0 : w.heap.size < w2.heap.size := lt_below hb2 ltg; have hl2_0 := Nat.le_of_lt hz2_0; have hA2 := bnext (w0 := w) bgo hb2; have hs2 := hA2.size; clear hb2))
  go_ret
  exact ⟨by simp, bgo⟩
variable (T L H TL TH : List UInt8) (m M X Y : Nat) (F G at_ c x : Int) (s g : Bool) (k : Nat)
  (hm : m ≤ 1000) (hz : (B T).size = m + 2) (hL : (B T).extract 0 (m + 1) = B L) (hat : -100000 ≤ at_ ∧ at_ ≤ 100000)
  (c10 : ∀ W, Tab W → Calls Tryz.prog 10 #[.int .i64 n, A4 V] W fun r w' => r = .returned (.tuple #[.string (B T), .int .i64 at_, .int .i64 0]) ∧ Below W.heap.size W w')
  (c16 : ∀ W, Calls Tryz.prog 16 #[.int .i64 n, A4 V] W fun r w' => r = .returned (.tuple #[DV c s g x k, .int .i64 0]) ∧ Below W.heap.size W w')
  (c19 : ∀ W, Calls Tryz.prog 19 #[.string (B L)] W fun r w' => ∃ v, r = .returned v ∧ NT 6 M v w' ∧ Below W.heap.size W w')
  (c18 : ∀ W v, NT 6 M v W → Calls Tryz.prog 18 #[v, .slice (some ⟨W.heap.size, 0, none⟩) 1 1] (W.alloc (.cells #[.int .u64 1] 22)) fun r w' => ∃ u, r = .returned u ∧ NV 8 (M + 1) u w' ∧ Below W.heap.size W w')
  (c17 : ∀ W u, NV 8 (M + 1) u W → Calls Tryz.prog 17 #[u] W fun r w' => r = .returned (.string (B H)) ∧ Below W.heap.size W w')
  (c20l : ∀ W, Tb10 W → Calls Tryz.prog 20 #[.bool s, .string (B L), .int .i64 (at_ + 1)] W fun r w' => r = .returned (.string (B TL)) ∧ Below W.heap.size W w')
  (c20h : ∀ W, Tb10 W → Calls Tryz.prog 20 #[.bool s, .string (B H), .int .i64 (at_ + 1)] W fun r w' => r = .returned (.string (B TH)) ∧ Below W.heap.size W w')
  (c15l : ∀ W, Tab W → Tb10 W → Calls Tryz.prog 15 #[.int .i64 n, .int .i64 0, .string (B TL)] W fun r w' => r = .returned (.tuple #[A4 X, .int .i64 F, .int .i64 0]) ∧ Below W.heap.size W w')
  (c15h : ∀ W, Tab W → Tb10 W → Calls Tryz.prog 15 #[.int .i64 n, .int .i64 0, .string (B TH)] W fun r w' => r = .returned (.tuple #[A4 Y, .int .i64 G, .int .i64 0]) ∧ Below W.heap.size W w')
  (hx : decide (W4 X 0 = W4 V 0 ∧ W4 X 1 = W4 V 1 ∧ W4 X 2 = W4 V 2 ∧ W4 X 3 = W4 V 3) = false) (hy : decide (W4 Y 0 = W4 V 0 ∧ W4 Y 1 = W4 V 1 ∧ W4 Y 2 = W4 V 2 ∧ W4 Y 3 = W4 V 3) = false)
  (hf : by_ T 0 ≠ 48) (hl : by_ T (m + 1) ≠ 48)
include hm hz hL hat c10 c16 c19 c18 c17 c20l c20h c15l c15h hx hy hf hl
set_option maxHeartbeats 4000000 in
theorem law6_w : Calls Tryz.prog 6 #[.int .i64 n, A4 V] w fun r w' => r = .returned (.bool true) ∧ Below w.heap.size w w' := by
  have hsm := cell_set_map
  have hX := eq24 (W4 X 0) (W4 X 1) (W4 X 2) (W4 X 3) (W4 V 0) (W4 V 1) (W4 V 2) (W4 V 3)
  have hY := eq24 (W4 Y 0) (W4 Y 1) (W4 Y 2) (W4 Y 3) (W4 V 0) (W4 V 1) (W4 V 2) (W4 V 3)
  rw [hx] at hX
  rw [hy] at hY
  have hi0 := by_lt (l := T) (i := 0) (by omega)
  have hi1 := by_lt (l := T) (i := m + 1) (by omega)
  clear hx hy
  unfold DV A4 at *
  go_enter Tryz.func6, Tryz.ntmps6
  go_wp2_with (first
    | (go_at_call 9; refine (c9 _ bgo).mono ?_; rintro r w1 ⟨rfl, hb1⟩; obtain ⟨hc1, hf1⟩ := bcell hb1; have hz1_0 : w.heap.size < w1.heap.size := lt_below hb1 ltg; have hl1_0 := Nat.le_of_lt hz1_0; have hA1 := bnext (w0 := w) bgo hb1; have hs1 := hA1.size; clear hb1)
    | (go_at_call 10; refine (c10 _ (hT.go bgo)).mono ?_; rintro r w2 ⟨rfl, hb2⟩; obtain ⟨hc2, hf2⟩ := bcell hb2; have hz2_0 : w.heap.size < w2.heap.size := lt_below hb2 ltg; have hl2_0 := Nat.le_of_lt hz2_0; have hA2 := bnext (w0 := w) bgo hb2; have hs2 := hA2.size; clear hb2)
    | (go_at_call 16; refine (c16 _).mono ?_; rintro r w3 ⟨rfl, hb3⟩; obtain ⟨hc3, hf3⟩ := bcell hb3; have hz3_0 : w.heap.size < w3.heap.size := lt_below hb3 ltg; have hl3_0 := Nat.le_of_lt hz3_0; have hA3 := bnext (w0 := w) bgo hb3; have hs3 := hA3.size; clear hb3)
    | (go_at_call 19; refine (c19 _).mono ?_; rintro r w4 ⟨v4, rfl, hv4, hb4⟩; obtain ⟨hc4, hf4⟩ := bcell hb4; have hz4_0 : w.heap.size < w4.heap.size := lt_below hb4 ltg; have hl4_0 := Nat.le_of_lt hz4_0; have hz4_1 : w3.heap.size < w4.heap.size := lt_below hb4 ltg; have hl4_1 := Nat.le_of_lt hz4_1; have hA4 := bnext (w0 := w) bgo hb4; have hs4 := hA4.size; clear hb4)
    | (go_at_call 18; refine (c18 _ _ hv4).mono ?_; rintro r w5 ⟨v5, rfl, hv5, hb5⟩; obtain ⟨hc5, hf5⟩ := bcell hb5; have hz5_0 : w.heap.size < w5.heap.size := lt_below hb5 ltg; have hl5_0 := Nat.le_of_lt hz5_0; have hz5_1 : w3.heap.size < w5.heap.size := lt_below hb5 ltg; have hl5_1 := Nat.le_of_lt hz5_1; have hA5 := bnext (w0 := w) bgo hb5; have hs5 := hA5.size; clear hb5)
    | (go_at_call 17; refine (c17 _ _ hv5).mono ?_; rintro r w6 ⟨rfl, hb6⟩; obtain ⟨hc6, hf6⟩ := bcell hb6; have hz6_0 : w.heap.size < w6.heap.size := lt_below hb6 ltg; have hl6_0 := Nat.le_of_lt hz6_0; have hz6_1 : w3.heap.size < w6.heap.size := lt_below hb6 ltg; have hl6_1 := Nat.le_of_lt hz6_1; have hA6 := bnext (w0 := w) bgo hb6; have hs6 := hA6.size; clear hb6)
    | (have := hA8; go_at_call 20; refine (c20h _ (hT10.next bgo)).mono ?_; rintro r w9 ⟨rfl, hb9⟩; obtain ⟨hc9, hf9⟩ := bcell hb9; have hz9_0 : w.heap.size < w9.heap.size := lt_below hb9 ltg; have hl9_0 := Nat.le_of_lt hz9_0; have hz9_1 : w3.heap.size < w9.heap.size := lt_below hb9 ltg; have hl9_1 := Nat.le_of_lt hz9_1; have hz9_2 : w8.heap.size < w9.heap.size := lt_below hb9 ltg; have hl9_2 := Nat.le_of_lt hz9_2; have hA9 := bnext (w0 := w) bgo hb9; have hs9 := hA9.size; clear hb9)
    | (have := hA9; go_at_call 15; refine (c15h _ (hT.go bgo) (hT10.next bgo)).mono ?_; rintro r w10 ⟨rfl, hb10⟩; obtain ⟨hc10, hf10⟩ := bcell hb10; have hz10_0 : w.heap.size < w10.heap.size := lt_below hb10 ltg; have hl10_0 := Nat.le_of_lt hz10_0; have hz10_1 : w3.heap.size < w10.heap.size := lt_below hb10 ltg; have hl10_1 := Nat.le_of_lt hz10_1; have hz10_2 : w8.heap.size < w10.heap.size := lt_below hb10 ltg; have hl10_2 := Nat.le_of_lt hz10_2; have hA10 := bnext (w0 := w) bgo hb10; have hs10 := hA10.size; clear hb10)
    | (go_at_call 20; refine (c20l _ (hT10.next bgo)).mono ?_; rintro r w7 ⟨rfl, hb7⟩; obtain ⟨hc7, hf7⟩ := bcell hb7; have hz7_0 : w.heap.size < w7.heap.size := lt_below hb7 ltg; have hl7_0 := Nat.le_of_lt hz7_0; have hz7_1 : w3.heap.size < w7.heap.size := lt_below hb7 ltg; have hl7_1 := Nat.le_of_lt hz7_1; have hA7 := bnext (w0 := w) bgo hb7; have hs7 := hA7.size; clear hb7)
    | (go_at_call 15; refine (c15l _ (hT.go bgo) (hT10.next bgo)).mono ?_; rintro r w8 ⟨rfl, hb8⟩; obtain ⟨hc8, hf8⟩ := bcell hb8; have hz8_0 : w.heap.size < w8.heap.size := lt_below hb8 ltg; have hl8_0 := Nat.le_of_lt hz8_0; have hz8_1 : w3.heap.size < w8.heap.size := lt_below hb8 ltg; have hl8_1 := Nat.le_of_lt hz8_1; have hA8 := bnext (w0 := w) bgo hb8; have hs8 := hA8.size; clear hb8))
  go_ret
  exact ⟨by simp; exact ⟨hf, hl⟩, bgo⟩
end
end Go.Proofs.YtoobncgmcnmgjaaGreatDoor

namespace Go.Proofs.YtoobncgmcnmgjaaGreatDoor
open Go.RowKit

theorem rd0_256 (n : Int) (s : Bool) (N D : Nat) (x : Int) : rdV n 0 s N D x < 2 ^ 256 := by
  unfold rdV
  have : inB 0 s = true := by cases s <;> decide
  rw [this]
  split
  · exact pkV_256 _ _
  · split
    · simp only [if_true]; exact pkV_256 _ _
    · exact pkV_256 _ _
theorem w4_ne {X V : Nat} (hX : X < 2 ^ 256) (hV : V < 2 ^ 256) (h : X ≠ V) : decide (W4 X 0 = W4 V 0 ∧ W4 X 1 = W4 V 1 ∧ W4 X 2 = W4 V 2 ∧ W4 X 3 = W4 V 3) = false := by
  refine decide_eq_false fun ⟨h0, h1, h2, h3⟩ => h (A4_inj hX hV fun i hi => ?_)
  rcases i with _ | _ | _ | _ | i
  · exact h0
  · exact h1
  · exact h2
  · exact h3
  · omega
theorem by_snoc {l : List UInt8} {c : UInt8} : by_ (l ++ [c]) l.length = (c.toNat : Int) := by
  unfold by_
  rw [dif_pos (by simp)]
  simp
/-- a decimal number's text is read as its value is rounded -/
theorem lay_read {n : Int} (hb : binN n) (s : Bool) {D : List UInt8} {ex : Int} (hg : gdD D) (h0 : D ≠ []) (hl : D.length ≤ 100) (he : -7000 ≤ ex ∧ ex + D.length ≤ 6000) (he2 : -6000 ≤ ex + D.length) :
    (∀ W, Tb10 W → Calls Tryz.prog 20 #[.bool s, .string (B D), .int .i64 ex] W fun r w' => r = .returned (.string (B (sgL s ++ unT D (ex + D.length - 1)))) ∧ Below W.heap.size W w') ∧
    (∀ W, Tab W → Tb10 W → Calls Tryz.prog 15 #[.int .i64 n, .int .i64 0, .string (B (sgL s ++ unT D (ex + D.length - 1)))] W fun r w' => r = .returned (.tuple #[A4 (rdV n 0 s (tN (dV D) ex) (tD ex) ex), .int .i64 (rdF n 0 s (tN (dV D) ex) (tD ex) ex), .int .i64 0]) ∧ Below W.heap.size W w') := by
  have hD1 : 1 ≤ D.length := by
    cases D with
    | nil => exact absurd rfl h0
    | cons c r => simp
  have hcut := dec_cut s (e := ex + D.length - 1) hg h0 (by omega) (ex := ex) (by omega) rfl
  refine ⟨fun W hW => lay_v s D ex W hW (by omega) (by omega), fun W hW hW10 => ?_⟩
  have hlen : (sgL s ++ unT D (ex + D.length - 1)).length ≤ 3001 := by
    rw [List.length_append]
    have h1 := unT_len (D := D) (e := ex + D.length - 1) (by omega) (by omega)
    have : (sgL s).length ≤ 1 := by cases s <;> decide
    omega
  have := read_v (n := n) (d := 0) hb (by decide) hcut hlen W hW hW10
  have hp : pwE D.length ex = ex := by unfold pwE; omega
  unfold mkV mkF at this
  rw [if_pos rfl, if_pos rfl] at this
  dsimp only at this
  rw [hp] at this
  exact this
theorem tn_low {k : Nat} {x E : Int} (hk : k ≠ 0) (hx : -16990 ≤ x) (h : ¬ tnP k x (E + 1)) : -5200 ≤ E := by
  apply Classical.byContradiction
  intro hE
  apply h
  unfold tnP zE oE
  have e1 : (E + 1).toNat = 0 := by omega
  rw [e1, Nat.pow_zero, Nat.mul_one]
  obtain ⟨t, ht⟩ : ∃ t : Nat, t = 5115 := ⟨_, rfl⟩
  obtain ⟨a, ha⟩ : ∃ a : Nat, a = 16990 := ⟨_, rfl⟩
  have h1 : 10 ^ t ≤ 10 ^ (-(E + 1)).toNat := Nat.pow_le_pow_right (by decide) (by omega)
  have h2 : 2 ^ (-x).toNat ≤ 2 ^ a := Nat.pow_le_pow_right (by decide) (by omega)
  have h4 : 2 ^ a ≤ 10 ^ t := two_le_ten (by omega)
  have h5 : 1 ≤ 2 ^ x.toNat := Nat.two_pow_pos _
  have h6 : 1 * 10 ^ (-(E + 1)).toNat ≤ 2 ^ x.toNat * 10 ^ (-(E + 1)).toNat := Nat.mul_le_mul_right _ h5
  have h7 : 1 * (2 ^ x.toNat * 10 ^ (-(E + 1)).toNat) ≤ k * (2 ^ x.toNat * 10 ^ (-(E + 1)).toNat) := Nat.mul_le_mul_right _ (Nat.pos_of_ne_zero hk)
  rw [Nat.mul_assoc]
  exact Nat.mul_le_mul_left 4 (by omega)
/-- ShortestLeast -/
theorem shortestLeast_any (n : Int) (V : Nat) (w : World) (hT : Tab w) (hT10 : Tb10 w) (hV : V < 2 ^ 256) :
    Calls Tryz.prog 6 #[.int .i64 n, A4 V] w fun r w' => r = .returned (.bool true) ∧ Below w.heap.size w w' := by
  have c9 := fun W (hW : Below w.heap.size w W) => awake9 W (hT.go hW) (hT10.next hW)
  have c22 := fun W (hW : Tab W) => unpack_any n V W hW hV
  have c16 := fun W => runpack_any n V W hV
  by_cases hg : goodN n V
  · have e0 : unE n V = 0 := if_pos hg
    rw [e0] at c22 c16
    by_cases hc : (unD n V).c = 1
    · by_cases hk : (unD n V).k = 0
      · refine law6_e n V w hT hT10 c9 6 (by decide) [] 0 (fun W hW => ?_)
        refine dig10_0 n V (unD n V).c (unD n V).s (unD n V).g (unD n V).x (unD n V).k W hW c22 hc (fun W' => ?_)
        have := none_v 1 (unD n V).s (unD n V).g (unD n V).x (unD n V).k W' (by rw [hk]; decide)
        rw [decide_eq_true hk] at this
        exact this
      · have hf : finP n V := ⟨hg, hc, hk⟩
        obtain ⟨hb, hkb, hx1, hx2, hD⟩ := fin_facts hf
        obtain ⟨E, K, hS⟩ := Shd.ex (n := n) hkb hk ⟨hx1, hx2⟩
        have c10 := fun W (hW : Tab W) => digits_fin hf hV hS W hW
        obtain ⟨b1, b2, b3⟩ := hS.bd hkb hk ⟨hx1, hx2⟩
        have hfar := tn_far hkb hx2 hS.t0
        have hlow := tn_low hk hx1 hS.t1
        have hl := sd_len hkb hk hS
        have hpk := (back_un hg).2
        have hgf : (unD n V).g = false := by
          rcases hD with ⟨_, h, _⟩ | ⟨h, _⟩ | ⟨h, _⟩
          · exact h
          · rw [hc] at h; exact absurd h (by decide)
          · rw [hc] at h; exact absurd h (by decide)
        cases K with
        | zero =>
          obtain ⟨c, r, hT1, _⟩ := sd_cons hS
          have hr : r = [] := by
            rw [hT1, List.length_cons] at hl
            exact List.eq_nil_of_length_eq_zero (by omega)
          rw [hT1, hr] at c10
          exact law6_1 n V w hT hT10 c9 c _ c10
        | succ j =>
          obtain ⟨g1, g2, g3, g4, g5⟩ := low_facts hS
          have hZ := zE_pos (unD n V).x E
          have hR : 4 * (unD n V).k * oE (unD n V).x E < 10 * zE (unD n V).x E := by
            have := hS.t1
            rw [tn_next] at this
            omega
          obtain ⟨c0, r0, hT1, _, hc0, _⟩ := sd_cons hS
          rw [hl, g5, show E + ((0 : Nat) : Int) + 1 - ((j + 1 + 1 : Nat) : Int) = E - j - 1 by omega] at c10
          have hall := ds_all hZ hR (j + 1)
          have hlen := dsN_len (4 * (unD n V).k * oE (unD n V).x E) (zE (unD n V).x E) (j + 1)
          have hdlt := (dV_lt hall).1
          rw [hlen] at hdlt
          have hdd : isD (fN n) (leastN n) (mostN n) ⟨1, (unD n V).s, false, (unD n V).x, (unD n V).k⟩ := by
            have h := hD
            rw [show unD n V = ⟨(unD n V).c, (unD n V).s, (unD n V).g, (unD n V).x, (unD n V).k⟩ from rfl, hc, hgf] at h
            exact h
          have hpk2 : pkV n ⟨1, (unD n V).s, false, (unD n V).x, (unD n V).k⟩ = V := by
            have h := hpk
            rw [show unD n V = ⟨(unD n V).c, (unD n V).s, (unD n V).g, (unD n V).x, (unD n V).k⟩ from rfl, hc, hgf] at h
            exact h
          have far0 := sd_far (s := (unD n V).s) hb hdd hk hS (Nat.lt_succ_self j) (E - j) rfl 0 (Or.inl rfl)
          have far1 := sd_far (s := (unD n V).s) hb hdd hk hS (Nat.lt_succ_self j) (E - j) rfl 1 (Or.inr rfl)
          rw [hpk2] at far0 far1
          rw [Nat.add_zero] at far0
          have c19 : ∀ W, Calls Tryz.prog 19 #[.string (B (dsN (4 * (unD n V).k * oE (unD n V).x E) (zE (unD n V).x E) (j + 1)))] W fun r w' => ∃ v, r = .returned v ∧ NT 6 (dV (dsN (4 * (unD n V).k * oE (unD n V).x E) (zE (unD n V).x E) (j + 1))) v w' ∧ Below W.heap.size W w' := fun W =>
            (number8 _ W hall (by omega)).mono fun r w' ⟨v, e1, e2, e3⟩ => ⟨v, e1, e2.tight (bl_10 (dV_lt hall).1 (by omega)), e3⟩
          rw [g2] at c10
          have hT2 := hT1
          rw [g2] at hT2
          generalize laK (evK (unD n V).k) (4 * (unD n V).k * oE (unD n V).x E) (lwN n (unD n V).x (unD n V).k * oE (unD n V).x E) (2 * oE (unD n V).x E) (zE (unD n V).x E) (j + 1) = la at *
          generalize dsN (4 * (unD n V).k * oE (unD n V).x E) (zE (unD n V).x E) (j + 1) = Lo at *
          have hLo0 : Lo ≠ [] := by intro h; rw [h] at hlen; simp at hlen
          obtain ⟨f1, f2, f3⟩ := dcD_facts (V := ((dV Lo + 1 : Nat) : Int)) (L := j + 2) (by omega) (by
            have e : ((10 : Int) ^ (j + 2)) = ((10 ^ (j + 2) : Nat) : Int) := by simp
            rw [e]
            have : 10 ^ (j + 2) = 10 * 10 ^ (j + 1) := by rw [Nat.pow_succ, Nat.mul_comm]
            omega)
          have f2' : dV (dcD ((dV Lo + 1 : Nat) : Int) (j + 2)) = dV Lo + 1 := by omega
          generalize dcD ((dV Lo + 1 : Nat) : Int) (j + 2) = Hi at *
          have hHi0 : Hi ≠ [] := by intro h; rw [h, dV_nil] at f2'; omega
          have hHi1 : 1 ≤ Hi.length := by
            cases Hi with
            | nil => exact absurd rfl hHi0
            | cons c r => simp
          obtain ⟨l20, l15⟩ := lay_read hb (unD n V).s (ex := E - j) g1 hLo0 (by omega) (by omega) (by omega)
          obtain ⟨h20, h15⟩ := lay_read hb (unD n V).s (ex := E - j) f1 hHi0 (by omega) (by omega) (by omega)
          rw [f2'] at h15
          rw [show E - (j : Int) = E - j - 1 + 1 by omega] at l20 h20
          refine law6_w n V w hT hT10 c9 _ Lo Hi _ _ j (dV Lo) _ _ _ _ (E - j - 1) _ _ _ _ _ (by omega) ?_ ?_ (by omega) c10 c16 c19 ?_ ?_ l20 h20 (by rw [show E - (j : Int) - 1 + 1 = E - j by omega]; exact l15) (by rw [show E - (j : Int) - 1 + 1 = E - j by omega]; exact h15)
            (w4_ne (rd0_256 _ _ _ _ _) hV far0) (w4_ne (rd0_256 _ _ _ _ _) hV far1) ?_ ?_
          · rw [B_size, List.length_append, hlen]; rfl
          · rw [B_ext, List.drop_zero, ← hlen, List.take_left']
            rfl
          · exact fun W v h => (radd_nv (by decide) (by decide) (h.next (below1 _ _)).nv (nt_un1 (W := W) (V := 1) rfl rfl (by decide) (by decide)).nv).mono fun r w' ⟨u, e1, e2, e3⟩ => ⟨u, e1, e2, bnx (below1 _ _) e3⟩
          · exact fun W u h => dec_is f1 f2' h
          · rw [hT2, by_zero]; exact hc0
          · rw [← hlen, by_snoc, ofNat_dg g4]; omega
    · have hc' : ((unD n V).c != 1) = true := by simpa using hc
      exact law6_e n V w hT hT10 c9 6 (by decide) [] 0 (fun W hW => dig10_c n V (unD n V).c (unD n V).s (unD n V).g (unD n V).x (unD n V).k W hW c22 hc')
  · have e1 : unE n V = 1 := if_neg hg
    rw [e1] at c22 c16
    exact law6_e n V w hT hT10 c9 1 (by decide) [] 0 (fun W hW => dig10_e n V (unD n V).c (unD n V).s (unD n V).g (unD n V).x (unD n V).k W hW 1 (by decide) c22)
end Go.Proofs.YtoobncgmcnmgjaaGreatDoor

namespace Go.Proofs.YtoobncgmcnmgjaaGreatDoor

/-- what is left, of a whole number -/
theorem whole_rest {m c q : Nat} (hc : 0 < c) : ∀ j : Nat, j ≤ q → rsN (c * m) (c * 10 ^ q) j % (c * 10 ^ q) = c * (10 ^ j * (m % 10 ^ (q - j)))
  | 0, _ => by
    show c * m % (c * 10 ^ q) = _
    rw [Nat.mul_mod_mul_left, Nat.pow_zero, Nat.one_mul, Nat.sub_zero]
  | j + 1, h => by
    have ih := whole_rest (m := m) (q := q) hc j (Nat.le_of_succ_le h)
    show 10 * (rsN (c * m) (c * 10 ^ q) j % (c * 10 ^ q)) % (c * 10 ^ q) = _
    rw [ih]
    have e1 : 10 * (c * (10 ^ j * (m % 10 ^ (q - j)))) = c * (10 ^ (j + 1) * (m % 10 ^ (q - j))) := by
      rw [Nat.pow_succ, Nat.mul_left_comm 10 c, Nat.mul_comm (10 ^ j) 10, Nat.mul_assoc 10]
    have e2 : 10 ^ q = 10 ^ (j + 1) * 10 ^ (q - (j + 1)) := by rw [← Nat.pow_add]; congr 1; omega
    rw [e1, Nat.mul_mod_mul_left]
    congr 1
    rw [e2, Nat.mul_mod_mul_left]
    congr 1
    have e3 : 10 ^ (q - j) = 10 ^ (q - (j + 1)) * 10 := by rw [← Nat.pow_succ]; congr 1; omega
    rw [e3]
    exact Nat.mod_mul_right_mod _ _ _
/-- a whole number's first digit's place and how many digits it has -/
theorem whole_shd {n : Int} {m a q K : Nat} (hq1 : 10 ^ q ≤ m) (hq2 : m < 10 ^ (q + 1)) (hK : K ≤ q) (hz : m % 10 ^ (q - K) = 0) (hmin : ∀ j, j < K → m % 10 ^ (q - j) ≠ 0) :
    Shd n (-(a : Int)) (m * 2 ^ a) q K ∧ sdC n (-(a : Int)) (m * 2 ^ a) q K = 0 ∧ dV (sdT n (-(a : Int)) (m * 2 ^ a) q K) = m / 10 ^ (q - K) := by
  have hz' : ∀ e : Nat, zE (-(a : Int)) e = 4 * 2 ^ a * 10 ^ e := fun e => by
    unfold zE
    rw [show (-(-(a : Int))).toNat = a by omega, show ((e : Int)).toNat = e by omega]
  have ho : ∀ e : Nat, oE (-(a : Int)) e = 1 := fun e => by
    unfold oE
    rw [show (-(a : Int)).toNat = 0 by omega, show (-(e : Int)).toNat = 0 by omega]
  have hR : 4 * (m * 2 ^ a) * 1 = 4 * 2 ^ a * m := by rw [Nat.mul_one, Nat.mul_comm m, Nat.mul_assoc]
  have hc : 0 < 4 * 2 ^ a := Nat.mul_pos (by decide) (Nat.two_pow_pos _)
  have hc4 : 4 ≤ 4 * 2 ^ a := Nat.le_mul_of_pos_right _ (Nat.two_pow_pos _)
  have hZ : 0 < 4 * 2 ^ a * 10 ^ q := Nat.mul_pos hc (Nat.pow_pos (by decide))
  have hlw : 1 ≤ lwN n (-(a : Int)) (m * 2 ^ a) ∧ lwN n (-(a : Int)) (m * 2 ^ a) ≤ 2 := by unfold lwN; split <;> omega
  have hlt : 4 * 2 ^ a * m < 10 * (4 * 2 ^ a * 10 ^ q) := by
    rw [Nat.mul_left_comm, ← Nat.pow_succ']
    exact Nat.mul_lt_mul_of_pos_left hq2 hc
  have hno : ∀ j, j < K → stK (evK (m * 2 ^ a)) (4 * 2 ^ a * m) (lwN n (-(a : Int)) (m * 2 ^ a) * 1) (2 * 1) (4 * 2 ^ a * 10 ^ q) j = false := fun j hj => by
    have hr := whole_rest (m := m) (q := q) hc j (by omega)
    have h1 : 1 ≤ m % 10 ^ (q - j) := Nat.pos_of_ne_zero (hmin j hj)
    have h2 : m % 10 ^ (q - j) < 10 ^ (q - j) := Nat.mod_lt _ (Nat.pow_pos (by decide))
    have hp : 0 < 10 ^ j := Nat.pow_pos (by decide)
    have e2 : 10 ^ q = 10 ^ j * 10 ^ (q - j) := by rw [← Nat.pow_add]; congr 1; omega
    have k1 : 4 * 10 ^ j ≤ 4 * 2 ^ a * (10 ^ j * (m % 10 ^ (q - j))) := Nat.mul_le_mul hc4 (Nat.le_mul_of_pos_right _ h1)
    have k2 : 4 * 2 ^ a * (10 ^ j * (m % 10 ^ (q - j))) + 4 * 10 ^ j ≤ 4 * 2 ^ a * 10 ^ q := by
      have h3 : 10 ^ j * (m % 10 ^ (q - j)) + 10 ^ j ≤ 10 ^ q := by
        rw [e2, ← Nat.mul_succ]
        exact Nat.mul_le_mul_left _ h2
      have h4 := Nat.mul_le_mul_left (4 * 2 ^ a) h3
      rw [Nat.mul_add] at h4
      have h5 : 4 * 10 ^ j ≤ 4 * 2 ^ a * 10 ^ j := Nat.mul_le_mul_right _ hc4
      omega
    have k3 : 10 ^ j * (lwN n (-(a : Int)) (m * 2 ^ a) * 1) ≤ 10 ^ j * 2 := Nat.mul_le_mul_left _ (by omega)
    unfold stK unK ovK wiN
    rw [hr]
    simp only [Bool.or_eq_false_iff, Bool.and_eq_false_iff, decide_eq_false_iff_not]
    refine ⟨⟨by omega, Or.inl (by omega)⟩, by omega, Or.inl (by omega)⟩
  have hrK := whole_rest (m := m) (q := q) hc K hK
  rw [hz, Nat.mul_zero, Nat.mul_zero] at hrK
  have hunK : unK (evK (m * 2 ^ a)) (4 * 2 ^ a * m) (lwN n (-(a : Int)) (m * 2 ^ a) * 1) (4 * 2 ^ a * 10 ^ q) K = true := by
    unfold unK wiN
    rw [hrK]
    have : 0 < 10 ^ K * (lwN n (-(a : Int)) (m * 2 ^ a) * 1) := Nat.mul_pos (Nat.pow_pos (by decide)) (by omega)
    rw [decide_eq_true this]; rfl
  have hup : upK (evK (m * 2 ^ a)) (4 * 2 ^ a * m) (lwN n (-(a : Int)) (m * 2 ^ a) * 1) (2 * 1) (4 * 2 ^ a * 10 ^ q) K = false := by
    unfold upK
    rw [hunK, Bool.true_and]
    split
    · unfold sdK
      rw [hrK]
      simp
      omega
    · rename_i h; simpa using h
  have hS : Shd n (-(a : Int)) (m * 2 ^ a) q K := by
    refine ⟨?_, ?_, ?_, ?_⟩
    · unfold tnP
      rw [hz', ho, hR]
      exact Nat.mul_le_mul_left _ hq1
    · rw [tn_next, hz', ho, hR]
      omega
    · rw [hz', ho, hR]
      unfold stK
      rw [hunK]; rfl
    · rw [hz', ho, hR]
      exact hno
  refine ⟨hS, ?_⟩
  unfold sdC sdT
  rw [hz', ho, hR]
  have hv := shd_val (c := evK (m * 2 ^ a)) (d := lwN n (-(a : Int)) (m * 2 ^ a) * 1) (u := 2 * 1) hZ hlt hno
  have hds := ds_rest hZ hlt K
  rw [hup, if_neg (by decide), Nat.add_zero] at hv
  have hC : shC (evK (m * 2 ^ a)) (4 * 2 ^ a * m) (lwN n (-(a : Int)) (m * 2 ^ a) * 1) (2 * 1) (4 * 2 ^ a * 10 ^ q) K = 0 := by
    unfold shC laK
    rw [hup]
    have := dgK_le hZ hlt K
    rw [if_neg (by simp; omega)]
  rw [hC, Nat.pow_zero, Nat.mul_one] at hv
  refine ⟨hC, ?_⟩
  rw [← hv]
  rw [hrK, Nat.add_zero] at hds
  have e2 : 10 ^ q = 10 ^ K * 10 ^ (q - K) := by rw [← Nat.pow_add]; congr 1; omega
  have e3 : dV (dsN (4 * 2 ^ a * m) (4 * 2 ^ a * 10 ^ q) (K + 1)) * 10 ^ (q - K) = m := by
    have hp : 0 < 4 * 2 ^ a * 10 ^ K := Nat.mul_pos hc (Nat.pow_pos (by decide))
    refine Nat.eq_of_mul_eq_mul_left hp ?_
    generalize dV (dsN (4 * 2 ^ a * m) (4 * 2 ^ a * 10 ^ q) (K + 1)) = D at *
    rw [e2] at hds
    generalize 4 * 2 ^ a = c at *
    generalize 10 ^ K = u at *
    generalize 10 ^ (q - K) = v at *
    have l : c * u * (D * v) = D * (c * (u * v)) := by simp only [Nat.mul_assoc, Nat.mul_comm, Nat.mul_left_comm]
    have r : c * u * m = u * (c * m) := by simp only [Nat.mul_assoc, Nat.mul_comm, Nat.mul_left_comm]
    rw [l, r, hds]
  exact (Nat.div_eq_of_eq_mul_left (Nat.pow_pos (by decide)) e3.symm).symm
end Go.Proofs.YtoobncgmcnmgjaaGreatDoor
