/-
  Texts that the proof leans on, joined: Lfw, Fit, Lv4, Qt, Bs, Qa.
-/
import Derived.Test.YthcndcanahhbcaaDoorJ1
import Derived.Test.YthcndcanahhbcaaDoorJ5
import Derived.Test.YthcndcanahhbcaaDoorJ2
import Derived.Deep.QuietTactic
import Derived.BigQuiet
import Derived.Test.YthcndcanahhbcaaDoorJ6
import Derived.StillTail
import Derived.WalkKit
/-
  Arrays of words, opened and shut again.
-/
set_option linter.unusedVariables false
set_option maxRecDepth 100000
set_option maxRecDepth 20000
set_option linter.unusedSectionVars false
set_option linter.unusedSimpArgs false
namespace Go.Proofs.YthcndcanahhbcaaDoor
open Go.ChangeShapes Go.WideShapes Go.ChangeAt Go.RowKit

theorem Tryd.cells27 : Tryd.prog.cellsOf 27 = 4 := by kernel_rfl
theorem Tryd.cells25 : Tryd.prog.cellsOf 25 = 1 := by kernel_rfl
theorem Tryd.rec27 : Tryd.prog.readableRec 27 = true := by kernel_rfl
theorem Tryd.row27 : (27 : TypeId) < Tryd.prog.types.size := of_decide_eq_true (by kernel_rfl)

section
variable {H : Type} {enc : TypeId × Value → H} {W : World} {r : Reach} {base b : Nat} {sp : Nat → Bool} {held : Bool} {t : TypeId} {n : Nat} {v : Value} {d : DataW H} {p : List MemPlace}
theorem open_words (ht : Tryd.prog.underlying t = some (.array n 25)) (hc : Tryd.prog.cellsOf t = n) (hok : Value.okWide Tryd.prog W r base t v) (h : DataW.Trod enc Tryd.prog W b sp held t v d p) :
    ∃ x, Words x ∧ v = .agg (arrOf x n) ∧ p = [] := by
  have ho : ∃ cs, v = .agg cs ∧ cs.size = n := by
    simp only [Value.okWide, ht] at hok
    obtain ⟨cs, h1, h2, _⟩ := hok
    exact ⟨cs, h1, by rw [h2, hc]⟩
  obtain ⟨cs, rfl, hcs⟩ := ho
  obtain ⟨fuel, hf⟩ := h
  obtain ⟨xs, m, rfl, hx, hl, hlen, hi⟩ := DataW.trod_array ht hf
  have hcell : ∀ i, i < n → ∃ z, cs[i]? = some (.int .u64 z) ∧ xs[i]? = some (.lit (.int .u64 z), []) ∧ (0 ≤ z ∧ z ≤ 18446744073709551615) := by
    intro i hin
    have h1 := hi i hin
    rw [Tryd.cells25] at h1
    have hix : i < xs.length := by omega
    rw [List.getElem?_eq_getElem hix] at h1
    obtain ⟨z, hz, hxz, hw⟩ := DataW.trod_int Tryd.underlying25 h1
    refine ⟨z, ?_, ?_, bounds_u64 hw⟩
    · have hic : i < cs.size := by omega
      have : ((Value.agg cs).cells.toList.drop (i * 1)).take 1 = [cs[i]] := by
        simp [Value.cells, List.take_one, List.head?_drop, hic]
      rw [this] at hz
      rw [Array.getElem?_eq_getElem hic]
      simpa using hz
    · rw [List.getElem?_eq_getElem hix, hxz]
  refine ⟨fun i => match cs[i]? with | some (.int .u64 z) => (if i < n then z else 0) | _ => 0, ?_, ?_, ?_⟩
  · intro i
    by_cases hin : i < n
    · obtain ⟨z, h1, _, h3⟩ := hcell i hin
      simp only [h1, if_pos hin]; exact h3
    · have : cs[i]? = none := by simp; omega
      simp only [this]; omega
  · congr 1
    refine arrOf_of cs n _ hcs fun i hin => ?_
    obtain ⟨z, h1, _, _⟩ := hcell i hin
    simp only [h1, if_pos hin]
  · have : p = xs.flatMap (·.2) := by
      have := congrArg Prod.snd hx; simpa using this
    rw [this]
    simp only [List.flatMap_eq_nil_iff]
    intro y hy
    obtain ⟨i, hin, rfl⟩ := List.getElem_of_mem hy
    obtain ⟨z, _, h2, _⟩ := hcell i (by omega)
    rw [List.getElem?_eq_getElem hin] at h2
    rw [Option.some.inj h2]
theorem words_stay {W' : World} {sp' : Nat → Bool} (h : DataW.Trod enc Tryd.prog W 0 (fun _ => true) true 27 v d []) : DataW.Trod enc Tryd.prog W' 0 sp' true 27 v d [] :=
  WideElems.Trod_stays Tryd.laidOut Tryd.rec27 Tryd.row27 h (by simp) (by simp)
end
end Go.Proofs.YthcndcanahhbcaaDoor

/-
  What Fits and the document's Fits do; the law DescFits: it returns true.
-/
set_option linter.unusedVariables false
set_option linter.unusedSimpArgs false
set_option maxRecDepth 20000
set_option linter.unusedSectionVars false
namespace Go.Proofs.YthcndcanahhbcaaDoor
open Go.RowKit

def fitsP (n : Int) (x : Nat → Int) : Prop := okN n ∧ lenL (lowW x 4) 4 ≤ widthN n
instance (n : Int) (x : Nat → Int) : Decidable (fitsP n x) := inferInstanceAs (Decidable (_ ∧ _))
theorem box_num {w0 w : World} {ax : Array Value} {t : TypeId} {x : Nat → Int} (hx : Words x) (hax : ∀ i, i < 4 → ax[i]? = some (.int .u64 (x i))) (hb : Below (w0.alloc (.cells ax t)).heap.size (w0.alloc (.cells ax t)) w) :
    Num w (some ⟨w0.heap.size, 0, none⟩) 4 4 (lowW x 4) :=
  ((HasN.of_alloc w0 ax t 4 x hax).next hb).num hx (Nat.le_refl _) (Nat.le_refl _) (by unfold maxLen; omega)
theorem below_drewN {B : Nat} {a w : World} {m : Nat} (h : Below B a w) : Below B a (w.drewN m) := ⟨h.os, h.tape, h.output, h.size, h.block⟩
theorem num_drewN {w : World} {a : Option Addr} {n c : Nat} {x : Nat → Int} (h : Num w a n c x) (m : Nat) : Num (w.drewN m) a n c x := h
theorem num_drew {w : World} {a : Option Addr} {n c : Nat} {x : Nat → Int} (h : Num w a n c x) : Num w.drew a n c x := h

set_option maxHeartbeats 1000000 in
theorem fits_any (n : Int) (x : Nat → Int) (hx : Words x) (ax : Array Value) (hax : ∀ i, i < 4 → ax[i]? = some (.int .u64 (x i))) (hs : ax.size = 4) (w : World) (hT : Tab w) :
    Calls Tryd.prog 74 #[.int .i64 n, .agg ax] w fun e w' => e = .returned (.bool (decide (fitsP n x))) ∧ Below w.heap.size w w' := by
  have c1 := fun w hT => ofv_any n w hT
  have f1 := fields_bounds n
  by_cases hn : okN n
  · have hE : infoE n = 0 := if_pos hn
    rw [hE] at c1
    have hd : decide (fitsP n x) = decide (lenL (lowW x 4) 4 ≤ widthN n) := by unfold fitsP; simp [hn]
    go_enter Tryd.func74, Tryd.ntmps74
    go_wp2_with (go_at_call 52; refine (c1 _ (hT.alloc _)).mono ?_; rintro e w1 ⟨rfl, hb⟩)
    have hN := ((box_num hx hax hb).next (below1' w1 (.cells #[.int .i64 (numN n), .string (nameN n), .int .i64 (baseN n), .int .i64 (widthN n), .int .i64 (precN n), .int .i64 (expN n), .int .i64 (leastN n), .int .i64 (mostN n), .int .i64 (payN n), .bool (denseN n)] 48)))
    have cl := fun m => (nlen_any _ _ _ _ _ (by decide) (num_drewN hN m)).mono (fun e w' h => (⟨h.1, h.2.symm⟩ : e = .returned (.int .i64 (lenL (lowW x 4) 4)) ∧ w' = _))
    clear hN
    go_quiet ((go_at_call 26; exact Calls.quiet_of_same (cl _)))
    all_goals
      go_wp2
      go_ret
      refine ⟨?_, below_drewN (((below1' w _).trans (hb.mono (below1' w _).size)).alloc (Nat.le_trans (below1' w _).size hb.size) _)⟩
      rw [hd]
      rfl
  · have hE : infoE n = 1 := if_neg hn
    rw [hE] at c1
    have hd : decide (fitsP n x) = false := decide_eq_false fun h => hn h.1
    rw [hd]
    go_enter Tryd.func74, Tryd.ntmps74
    go_wp2_with (go_at_call 52; refine (c1 _ (hT.alloc _)).mono ?_; rintro e w1 ⟨rfl, hb⟩)
    go_quiet (fail)
    all_goals
      go_wp2
      go_ret
      exact ⟨rfl, below_drewN (((below1' w _).trans (hb.mono (below1' w _).size)).alloc (Nat.le_trans (below1' w _).size hb.size) _)⟩

set_option maxHeartbeats 1000000 in
theorem rfits_any (n : Int) (x : Nat → Int) (hx : Words x) (ax : Array Value) (hax : ∀ i, i < 4 → ax[i]? = some (.int .u64 (x i))) (hs : ax.size = 4) (w : World) :
    Calls Tryd.prog 83 #[.int .i64 n, .agg ax] w fun e w' => e = .returned (.bool (decide (fitsP n x))) ∧ Below w.heap.size w w' := by
  have c1 := fun w => rofv_any n w
  have f1 := fields_bounds n
  by_cases hn : okN n
  · have hE : infoE n = 0 := if_pos hn
    rw [hE] at c1
    have hd : decide (fitsP n x) = decide (lenL (lowW x 4) 4 ≤ widthN n) := by unfold fitsP; simp [hn]
    go_enter Tryd.func83, Tryd.ntmps83
    go_wp2_with (go_at_call 47; refine (c1 _).mono ?_; rintro e w1 ⟨rfl, hb⟩)
    have hN := ((box_num hx hax hb).next (below1' w1 (.cells #[.int .i64 (numN n), .string (nameN n), .int .i64 (baseN n), .int .i64 (widthN n), .int .i64 (precN n), .int .i64 (expN n), .int .i64 (leastN n), .int .i64 (mostN n), .int .i64 (payN n), .bool (denseN n)] 77)))
    have cl := fun m => (rlen_num _ _ _ _ _ (by decide) (num_drewN hN m)).mono (fun e w' h => (⟨h.1, h.2.symm⟩ : e = .returned (.int .i64 (lenL (lowW x 4) 4)) ∧ w' = _))
    clear hN
    go_quiet ((go_at_call 70; exact Calls.quiet_of_same (cl _)))
    all_goals
      go_wp2
      go_ret
      refine ⟨?_, below_drewN (((below1' w _).trans (hb.mono (below1' w _).size)).alloc (Nat.le_trans (below1' w _).size hb.size) _)⟩
      rw [hd]
      rfl
  · have hE : infoE n = 1 := if_neg hn
    rw [hE] at c1
    have hd : decide (fitsP n x) = false := decide_eq_false fun h => hn h.1
    rw [hd]
    go_enter Tryd.func83, Tryd.ntmps83
    go_wp2_with (go_at_call 47; refine (c1 _).mono ?_; rintro e w1 ⟨rfl, hb⟩)
    go_quiet (fail)
    all_goals
      go_wp2
      go_ret
      exact ⟨rfl, below_drewN (((below1' w _).trans (hb.mono (below1' w _).size)).alloc (Nat.le_trans (below1' w _).size hb.size) _)⟩

/-- the boxed pattern stands, nothing elder than the call has turned -/
def FP (w0 : World) (x : Nat → Int) (w : World) : Prop := HasN w0.heap.size 4 x w ∧ Below w0.heap.size w0 w
end Go.Proofs.YthcndcanahhbcaaDoor

/-
  What limbs' functions do at the width of four words, by value.
-/
set_option linter.unusedSectionVars false
set_option linter.unusedVariables false
set_option linter.unusedSimpArgs false
set_option maxRecDepth 20000
namespace Go.Proofs.YthcndcanahhbcaaDoor
open Go.RowKit

/-- the words of a number -/
def W4 (A : Nat) (i : Nat) : Int := ((A / 2 ^ (64 * i) % 18446744073709551616 : Nat) : Int)
/-- a number of four words -/
abbrev A4 (A : Nat) : Value := .agg #[.int .u64 (W4 A 0), .int .u64 (W4 A 1), .int .u64 (W4 A 2), .int .u64 (W4 A 3)]
theorem W4_words (A : Nat) : Words (W4 A) := fun i => by
  unfold W4
  have := Nat.mod_lt (A / 2 ^ (64 * i)) (show 0 < 18446744073709551616 by decide)
  omega
theorem p64n (n : Nat) : (18446744073709551616 : Int) ^ n = ((2 ^ (64 * n) : Nat) : Int) := by
  rw [Nat.pow_mul]
  simp
theorem W4_val (A : Nat) : ∀ n, val (W4 A) n = ((A % 2 ^ (64 * n) : Nat) : Int)
  | 0 => by simp [val, Nat.mod_one]
  | n + 1 => by
    show val (W4 A) n + W4 A n * 18446744073709551616 ^ n = _
    have e : A % 2 ^ (64 * (n + 1)) = A % 2 ^ (64 * n) + 2 ^ (64 * n) * (A / 2 ^ (64 * n) % 18446744073709551616) := by
      rw [show 64 * (n + 1) = 64 * n + 64 by omega, Nat.pow_add]
      exact Nat.mod_mul
    rw [W4_val A n, p64n, e]
    unfold W4
    rw [Int.natCast_add, Int.natCast_mul, Int.mul_comm]
theorem W4_val4 {A : Nat} (h : A < 2 ^ 256) : val (W4 A) 4 = A := by
  rw [W4_val, Nat.mod_eq_of_lt h]
theorem arr_eq {x y : Nat → Int} (hx : Words x) (hy : Words y) (h : val x 4 = val y 4) : arrOf x 4 = arrOf y 4 :=
  arrOf_congr (val_inj hx hy 4 h)
theorem arr_A4 {x : Nat → Int} (hx : Words x) {A : Nat} (h : val x 4 = ((A % 2 ^ 256 : Nat) : Int)) : Value.agg (arrOf x 4) = A4 A := by
  have e : arrOf x 4 = arrOf (W4 A) 4 := arr_eq hx (W4_words A) (by rw [h, W4_val])
  rw [e]; rfl
theorem A4_mod (A : Nat) : A4 (A % 2 ^ 256) = A4 A := by
  have := arr_A4 (W4_words (A % 2 ^ 256)) (A := A) (by rw [W4_val, Nat.mod_mod])
  exact this
theorem A4_inj {A B : Nat} (hA : A < 2 ^ 256) (hB : B < 2 ^ 256) (h : ∀ i, i < 4 → W4 A i = W4 B i) : A = B := by
  have := val_congr (x := W4 A) (y := W4 B) 4 h
  rw [W4_val4 hA, W4_val4 hB] at this
  omega
/-- every pattern is a number's words -/
theorem words_A4 {x : Nat → Int} (hx : Words x) : ∃ A, A < 2 ^ 256 ∧ Value.agg (arrOf x 4) = A4 A ∧ val x 4 = A := by
  have hb := val_bd hx 4
  have e : (18446744073709551616 : Int) ^ 4 = ((2 ^ 256 : Nat) : Int) := by decide
  rw [e] at hb
  obtain ⟨A, hA⟩ := Int.eq_ofNat_of_zero_le hb.1
  have hlt : A < 2 ^ 256 := by rw [hA] at hb; exact Int.ofNat_lt.1 hb.2
  exact ⟨A, hlt, arr_A4 hx (by rw [Nat.mod_eq_of_lt hlt]; exact hA), hA⟩

theorem add4 (A B : Nat) (w : World) (hA : A < 2 ^ 256) (hB : B < 2 ^ 256) :
    Calls Tryd.prog 40 #[A4 A, A4 B] w fun e w' => e = .returned (.tuple #[A4 (A + B), .int .u64 (((A + B) / 2 ^ 256 : Nat) : Int)]) ∧ Below w.heap.size w w' := by
  refine (limAdd4 (W4 A) (W4 B) w (W4_words A) (W4_words B)).mono ?_
  rintro e w' ⟨rfl, hb⟩
  refine ⟨?_, hb⟩
  have hs := sum_val (x := W4 A) (y := W4 B) 4
  have hc := carryW_01 (W4_words A) (W4_words B) 4
  have hv := val_bd (sumW_words (W4 A) (W4 B)) 4
  rw [W4_val4 hA, W4_val4 hB] at hs
  have e4 : (18446744073709551616 : Int) ^ 4 = 115792089237316195423570985008687907853269984665640564039457584007913129639936 := by decide
  have e4n : (2 : Nat) ^ 256 = 115792089237316195423570985008687907853269984665640564039457584007913129639936 := by decide
  rw [e4] at hs hv
  rw [e4n] at hA hB ⊢
  rw [arr_A4 (sumW_words _ _) (A := A + B) (by rw [e4n]; omega)]
  have : carryW (W4 A) (W4 B) 4 = (((A + B) / 115792089237316195423570985008687907853269984665640564039457584007913129639936 : Nat) : Int) := by omega
  rw [this]
theorem sub4 (A B : Nat) (w : World) (hA : A < 2 ^ 256) (hB : B < 2 ^ 256) :
    Calls Tryd.prog 78 #[A4 A, A4 B] w fun e w' => e = .returned (.tuple #[A4 (A + 2 ^ 256 - B), .int .u64 (if A < B then 1 else 0)]) ∧ Below w.heap.size w w' := by
  refine (limSub4 (W4 A) (W4 B) w (W4_words A) (W4_words B)).mono ?_
  rintro e w' ⟨rfl, hb⟩
  refine ⟨?_, hb⟩
  have hs := dif_val (x := W4 A) (y := W4 B) (W4_words A) (W4_words B) 4
  have hc := borW_01 (W4 A) (W4 B) 4
  have hv := val_bd (difW_words (W4 A) (W4 B)) 4
  rw [W4_val4 hA, W4_val4 hB] at hs
  have e4 : (18446744073709551616 : Int) ^ 4 = 115792089237316195423570985008687907853269984665640564039457584007913129639936 := by decide
  have e4n : (2 : Nat) ^ 256 = 115792089237316195423570985008687907853269984665640564039457584007913129639936 := by decide
  rw [e4] at hs hv
  rw [e4n] at hA hB ⊢
  rw [arr_A4 (difW_words _ _) (A := A + 115792089237316195423570985008687907853269984665640564039457584007913129639936 - B) (by rw [e4n]; omega)]
  have : borW (W4 A) (W4 B) 4 = if A < B then 1 else 0 := by split <;> omega
  rw [this]
theorem A4_sub {A B : Nat} (h : B ≤ A) : A4 (A + 2 ^ 256 - B) = A4 (A - B) := by
  rw [← A4_mod (A - B), ← A4_mod (A + 2 ^ 256 - B), show A + 2 ^ 256 - B = A - B + 2 ^ 256 by omega, Nat.add_mod_right]

theorem shl4 (A n : Nat) (w : World) (hA : A < 2 ^ 256) (hn : n ≤ 100000) :
    Calls Tryd.prog 79 #[A4 A, .int .i64 n] w fun e w' => e = .returned (A4 (A * 2 ^ n)) ∧ Below w.heap.size w w' := by
  refine (shlA4 (W4 A) n w (W4_words A) (by omega)).mono ?_
  rintro e w' ⟨rfl, hb⟩
  refine ⟨?_, hb⟩
  congr 1
  by_cases h1 : n = 0
  · subst h1
    have e : shlA (W4 A) ((0 : Nat) : Int) = W4 A := by funext j; unfold shlA; rw [if_pos (by omega)]
    rw [e, Nat.pow_zero, Nat.mul_one]; rfl
  refine arr_A4 (shlA_words (W4_words A) _) ?_
  have hlow := shlL_fin (W4_words A) (N := 4) (((n : Int) / 64).toNat) (((n : Int) % 64).toNat)
  have es : shlA (W4 A) (n : Int) = shlL (W4 A) ((n : Int) / 64).toNat ((n : Int) % 64).toNat := by funext j; unfold shlA; rw [if_neg (by omega)]
  rw [es]
  obtain ⟨q, hq⟩ : ∃ q : Nat, ((n : Int) / 64).toNat = q := ⟨_, rfl⟩
  obtain ⟨r, hr⟩ : ∃ r : Nat, ((n : Int) % 64).toNat = r := ⟨_, rfl⟩
  rw [hq, hr] at hlow ⊢
  have hn : n = 64 * q + r := by omega
  have hr6 : r < 64 := by omega
  have h4 : val (shlL (W4 A) q r) 4 = val (finL (lowW (W4 A) 4) q r) 4 := by
    refine val_congr 4 fun i hi => ?_
    have := congrFun hlow i
    rw [lowW_lt hi, lowW_lt hi] at this
    exact this
  have hlw : Words (lowW (W4 A) 4) := lowW_words (W4_words A) 4
  have hz : ∀ i, 4 ≤ i → lowW (W4 A) 4 i = 0 := fun i hi => lowW_ge hi
  have hF := finL_val hlw hz q hr6
  have hvl : val (lowW (W4 A) 4) 4 = A := by
    rw [val_congr (x := lowW (W4 A) 4) (y := W4 A) 4 (fun i hi => lowW_lt hi), W4_val4 hA]
  rw [hvl, ← hn] at hF
  have hsp := val_split (finL (lowW (W4 A) 4) q r) 4 (q + 1)
  rw [show 4 + (q + 1) = 4 + q + 1 by omega, hF] at hsp
  have hbd := val_bd (finL_words hlw (q := q) (r := r)) 4
  have e4 : (18446744073709551616 : Int) ^ 4 = ((2 ^ 256 : Nat) : Int) := by decide
  rw [e4] at hbd hsp
  rw [h4]
  have : (A : Int) * 2 ^ n = ((A * 2 ^ n : Nat) : Int) := by simp
  rw [this] at hsp
  have h5 := congrArg (· % ((2 ^ 256 : Nat) : Int)) hsp
  simp only [Int.add_mul_emod_self_right, Int.emod_eq_of_lt hbd.1 hbd.2] at h5
  rw [← h5]
  rfl
theorem shr4 (A n : Nat) (w : World) (hA : A < 2 ^ 256) (hn : n ≤ 100000) :
    Calls Tryd.prog 77 #[A4 A, .int .i64 n] w fun e w' => e = .returned (A4 (A / 2 ^ n)) ∧ Below w.heap.size w w' := by
  refine (shrA4 (W4 A) n w (W4_words A) (by omega)).mono ?_
  rintro e w' ⟨rfl, hb⟩
  refine ⟨?_, hb⟩
  congr 1
  by_cases h1 : n = 0
  · subst h1
    have e : shrA (W4 A) ((0 : Nat) : Int) 4 = W4 A := by funext j; unfold shrA; rw [if_pos (by omega)]
    rw [e, Nat.pow_zero, Nat.div_one]; rfl
  refine arr_A4 (shrA_words (W4_words A) _ _) ?_
  have hlow := shrL_fin (W4_words A) (N := 4) (((n : Int) / 64).toNat) (((n : Int) % 64).toNat)
  have es : shrA (W4 A) (n : Int) 4 = shrL (W4 A) ((n : Int) / 64).toNat ((n : Int) % 64).toNat 4 := by funext j; unfold shrA; rw [if_neg (by omega)]
  rw [es]
  obtain ⟨q, hq⟩ : ∃ q : Nat, ((n : Int) / 64).toNat = q := ⟨_, rfl⟩
  obtain ⟨r, hr⟩ : ∃ r : Nat, ((n : Int) % 64).toNat = r := ⟨_, rfl⟩
  rw [hq, hr] at hlow ⊢
  have hn : n = 64 * q + r := by omega
  have hr6 : r < 64 := by omega
  have h4 : val (shrL (W4 A) q r 4) 4 = val (shrW (lowW (W4 A) 4) q r) 4 := by
    refine val_congr 4 fun i hi => ?_
    have := congrFun hlow i
    rw [lowW_lt hi] at this
    exact this
  rw [h4]
  exact (shrW_val (lowW_words (W4_words A) 4) (fun i hi => lowW_ge hi) hr6 4 (Nat.le_refl _) (by
    rw [val_congr (x := lowW (W4 A) 4) (y := W4 A) 4 (fun i hi => lowW_lt hi), W4_val4 hA])).trans (by rw [← hn, Nat.mod_eq_of_lt (Nat.lt_of_le_of_lt (Nat.div_le_self _ _) hA)])
theorem len4_le {A k : Nat} (hA : A < 2 ^ 256) : lenL (W4 A) 4 ≤ (k : Int) ↔ A < 2 ^ k := by
  have hv := W4_val4 hA
  by_cases h0 : 0 < sizeL (W4 A) 4
  · obtain ⟨L, h1, h2, h3⟩ := len_bd (W4_words A) h0
    rw [hv] at h2 h3
    rw [h1]
    have h2' : 2 ^ L ≤ A := by have : ((2 ^ L : Nat) : Int) ≤ A := by simpa using h2
                               omega
    have h3' : A < 2 ^ (L + 1) := by have : (A : Int) < ((2 ^ (L + 1) : Nat) : Int) := by simpa using h3
                                     omega
    constructor
    · intro h
      exact Nat.lt_of_lt_of_le h3' (Nat.pow_le_pow_right (by decide) (by omega))
    · intro h
      have : 2 ^ L < 2 ^ k := Nat.lt_of_le_of_lt h2' h
      have := (Nat.pow_lt_pow_iff_right (a := 2) (by decide)).1 this
      omega
  · have hz : sizeL (W4 A) 4 = 0 := by omega
    have hl : lenL (W4 A) 4 = 0 := by unfold lenL; rw [if_pos hz]
    have hA0 : (A : Int) = 0 := by
      rw [← hv, ← val_bare 4, hz]; rfl
    rw [hl]
    have : A = 0 := by omega
    subst this
    exact ⟨fun _ => Nat.two_pow_pos k, fun _ => by omega⟩
theorem len4_zero {A : Nat} (hA : A < 2 ^ 256) : lenL (W4 A) 4 = 0 ↔ A = 0 := by
  have h := len4_le (k := 0) hA
  have h2 : 0 ≤ lenL (W4 A) 4 := by
    by_cases h0 : 0 < sizeL (W4 A) 4
    · obtain ⟨L, h1, _⟩ := len_bd (W4_words A) h0
      omega
    · unfold lenL; rw [if_pos (by omega)]; exact Int.le_refl _
  constructor
  · intro h3; have := h.1 (by omega); omega
  · intro h3; have := h.2 (by omega); omega
theorem lenL_low (A : Nat) : lenL (lowW (W4 A) 4) 4 = lenL (W4 A) 4 := by
  unfold lenL
  rw [sizeL_congr (x := lowW (W4 A) 4) (y := W4 A) 4 (fun i hi => lowW_lt hi)]
  by_cases h : sizeL (W4 A) 4 = 0
  · rw [if_pos h, if_pos h]
  · have := sizeL_le (W4 A) 4
    rw [if_neg h, if_neg h, lowW_lt (by omega)]
theorem len4' (A : Nat) (w : World) : Calls Tryd.prog 80 #[A4 A] w fun e w' => e = .returned (.int .i64 (lenL (W4 A) 4)) ∧ Below w.heap.size w w' := len4 (W4 A) w (W4_words A)
theorem bit4 (A n : Nat) (w : World) (hA : A < 2 ^ 256) (hn : n < 256) :
    Calls Tryd.prog 76 #[A4 A, .int .i64 n] w fun e w' => e = .returned (.int .u64 ((A / 2 ^ n % 2 : Nat) : Int)) ∧ Below w.heap.size w w' := by
  refine (limBit4 (W4 A) n w (W4_words A) (by omega) (by omega)).mono ?_
  rintro e w' ⟨rfl, hb⟩
  refine ⟨?_, hb⟩
  have hb := W4_words A ((n : Int) / 64).toNat
  have h1 : bitV (W4 A ((n : Int) / 64).toNat) n = ((A / 2 ^ n % 2 : Nat) : Int) := by
    unfold bitV
    have h2 := and_mask (y := W4 A ((n : Int) / 64).toNat / 2 ^ ((n : Int) % 64).toNat) (r := 1) (div_word _ _ hb) (by decide)
    rw [show (1 : Int) = 2 ^ 1 - 1 by decide, h2]
    unfold W4
    obtain ⟨q, hq⟩ : ∃ q : Nat, ((n : Int) / 64).toNat = q := ⟨_, rfl⟩
    obtain ⟨r, hr⟩ : ∃ r : Nat, ((n : Int) % 64).toNat = r := ⟨_, rfl⟩
    rw [hq, hr]
    have hn : n = 64 * q + r := by omega
    have hr6 : r < 64 := by omega
    have e1 : ((2 : Int) ^ r) = ((2 ^ r : Nat) : Int) := by simp
    rw [e1, ← Int.natCast_ediv]
    have e2 : A / 2 ^ n = A / 2 ^ (64 * q) / 2 ^ r := by rw [hn, Nat.pow_add, Nat.div_div_eq_div_mul]
    rw [e2]
    generalize A / 2 ^ (64 * q) = B
    have e3 : B % 18446744073709551616 / 2 ^ r % 2 = B / 2 ^ r % 2 := by
      rw [show (18446744073709551616 : Nat) = 2 ^ r * (2 * 2 ^ (63 - r)) by rw [← Nat.pow_succ', ← Nat.pow_add, show r + (63 - r + 1) = 64 by omega]]
      rw [Nat.mod_mul_right_div_self, Nat.mod_mul_right_mod]
    have e4 : ((2 : Int) ^ 1) = ((2 : Nat) : Int) := by decide
    rw [e4, ← Int.natCast_emod, e3]
  rw [h1]
set_option maxHeartbeats 400000 in
theorem of4 (u : Nat) (w : World) (hu : u < 18446744073709551616) :
    Calls Tryd.prog 82 #[.int .u64 u] w fun e w' => e = .returned (A4 u) ∧ Below w.heap.size w w' := by
  have e0 : W4 u 0 = u := by unfold W4; rw [Nat.mul_zero, Nat.pow_zero, Nat.div_one, Nat.mod_eq_of_lt hu]
  have e1 : ∀ i, 0 < i → W4 u i = 0 := fun i hi => by
    unfold W4
    have : u < 2 ^ (64 * i) := Nat.lt_of_lt_of_le hu (by rw [show (18446744073709551616 : Nat) = 2 ^ 64 by decide]; exact Nat.pow_le_pow_right (by decide) (by omega))
    rw [Nat.div_eq_of_lt this]; rfl
  unfold A4
  rw [e0, e1 1 (by decide), e1 2 (by decide), e1 3 (by decide)]
  go_enter Tryd.func82, Tryd.ntmps82
  go_wp2
  exact bodyPost_ret (v := .agg #[.int .u64 u, .int .u64 0, .int .u64 0, .int .u64 0]) (by simp [results, Tryd.results82, go_sem]) rfl ⟨rfl, ((Below.refl _ _).alloc (Nat.le_refl _) _).alloc (by simp) _⟩
end Go.Proofs.YthcndcanahhbcaaDoor

/-
  A region that draws its order, whose first operations read, and call what may make memory of its own, and whose last ones stand in a row: the first ones walked once, in the order of the text, over a class of worlds; the last ones as they stand.
-/
set_option linter.unusedVariables false
set_option linter.unusedSimpArgs false
set_option linter.unusedSectionVars false
set_option maxRecDepth 20000
namespace Go.Proofs.YthcndcanahhbcaaDoor
open Go.RowKit

section
variable {P : Program} {ops : Array Oper} {md : Region.Mode} {C : World → Prop}

/-- the first k of m have come up -/
def fdone (k m : Nat) : Array Bool := (List.replicate k true ++ List.replicate (m - k) false).toArray
theorem fdone_size {k m : Nat} (h : k ≤ m) : (fdone k m).size = m := by simp [fdone]; omega
theorem fdone_zero (m : Nat) : fdone 0 m = Array.replicate m false := by
  simp [fdone]
theorem fdone_next {k m : Nat} (h : k < m) : (fdone k m).setIfInBounds k true = fdone (k + 1) m := by
  apply Array.ext
  · simp [fdone]; omega
  · intro i h1 h2
    have hi : i < m := by simp [fdone] at h2; omega
    simp only [fdone, List.setIfInBounds_toArray, List.getElem_toArray, List.getElem_set, List.getElem_append, List.length_replicate, List.getElem_replicate]
    split
    · subst_vars; simp
    · by_cases hk : i < k
      · simp [hk, show i < k + 1 by omega]
      · simp [hk, show ¬ i < k + 1 by omega]
theorem fdone_out {k m j : Nat} (h : (fdone k m).getD j true = false) : k ≤ j := by
  rcases Nat.lt_or_ge j k with h1 | h1
  · simp [fdone, List.getElem?_append, h1] at h
  · exact h1

/-- every one behind n waits for one between n and itself -/
def chainC (md : Region.Mode) (ops : Array Oper) (n : Nat) : Bool :=
  (List.range ops.size).all fun t => decide (t ≤ n) || (List.range t).any fun s => decide (n ≤ s) && Region.waitsFor md ops t s
/-- all the checks of a head in one -/
def headB (md : Region.Mode) (ops : Array Oper) (n : Nat) : Bool :=
  Region.noSelect ops && decide (n < ops.size) && Region.sinkB md ops n && chainC md ops n && (List.range n).all fun k => (Region.ready md ops (fdone k ops.size)).contains k && Region.free md ops (fdone k ops.size) k

theorem waits_sink {n : Nat} {done : Array Bool} (hs : Region.sinkB md ops n = true) (hn : n < ops.size) (inv : HeadInv md ops n done) :
    ∀ (d i : Nat), n - i = d → i < n → done.getD i true = false → n ∉ Region.ready md ops done := by
  intro d
  induction d using Nat.strongRecOn with
  | _ d ih =>
    intro i hd hi hun hr
    obtain ⟨_, ot, hot, hall⟩ := mem_ready.1 hr
    obtain ⟨j, hj, hj2⟩ := List.any_eq_true.1 (List.all_eq_true.1 hs i (List.mem_range.2 hi))
    simp only [Bool.and_eq_true, decide_eq_true_eq] at hj2
    obtain ⟨oj, hoj, e, he, hb, hon⟩ := Region.waitsFor_spec hj2.2
    have hjle : j ≤ n := by have := List.mem_range.1 hj; omega
    by_cases hjn : j = n
    · subst hjn
      obtain rfl : oj = ot := Option.some.inj (hoj.symm.trans hot)
      have h2 := hall e he hb
      rw [hon, getD_both hun] at h2
      cases h2
    · cases hl : done.getD j false with
      | true =>
        have h2 := inv.closed j oj hoj hl e he hb
        rw [hon, getD_both hun] at h2
        cases h2
      | false =>
        exact ih (n - j) (by omega) j rfl (by omega) (getD_in (by rw [inv.size]; omega) hl) hr
theorem waits_tail {n i : Nat} {done : Array Bool} (hs : Region.sinkB md ops n = true) (hc : chainC md ops n = true) (hn : n < ops.size) (inv : HeadInv md ops n done) (hi : i < n) (hun : done.getD i true = false) (t : Nat) (ht : n ≤ t) : t ∉ Region.ready md ops done := by
  intro hr
  by_cases htn : t = n
  · subst htn; exact waits_sink hs hn inv _ i rfl hi hun hr
  · obtain ⟨_, ot, hot, hall⟩ := mem_ready.1 hr
    have htlt : t < ops.size := (Array.getElem?_eq_some_iff.1 hot).1
    have h1 := List.all_eq_true.1 hc t (List.mem_range.2 htlt)
    simp only [Bool.or_eq_true, decide_eq_true_eq] at h1
    rcases h1 with h1 | h1
    · omega
    · obtain ⟨s, hsm, hs2⟩ := List.any_eq_true.1 h1
      simp only [Bool.and_eq_true, decide_eq_true_eq] at hs2
      obtain ⟨o', ho', e, he, hb, hon⟩ := Region.waitsFor_spec hs2.2
      obtain rfl : o' = ot := Option.some.inj (ho'.symm.trans hot)
      have hst := List.mem_range.1 hsm
      have h2 := hall e he hb
      rw [hon, getD_both (inv.tail s hs2.1 (by omega))] at h2
      cases h2

/-- the first n come up in any order, each quiet in the class -/
def headQ (P : Program) (md : Region.Mode) (ops : Array Oper) (C : World → Prop) (n : Nat) (L : Array Bool → Act → Prop) : Nat → Array Bool → Act → Prop
  | 0, done, a => L done a
  | f + 1, done, a => Region.ready md ops done ≠ [] ∧ ∀ i ∈ Region.ready md ops done, i < n ∧ qOp P ops C i (headQ P md ops C n L f (done.setIfInBounds i true)) a

theorem headQ_any {n g : Nat} {L : Array Bool → Act → Prop} {Q : Exit → Act → World → Prop} (hL : ∀ done a w, C w → L done a → wpAny P md ops Q g done a w) :
    ∀ (f : Nat) (done : Array Bool) (a : Act) (w : World), C w → headQ P md ops C n L f done a → wpAny P md ops Q (f + g) done a w
  | 0, done, a, w, hw, h => by rw [Nat.zero_add]; exact hL _ _ _ hw h
  | f + 1, done, a, w, hw, h => by
    rw [show f + 1 + g = (f + g) + 1 by omega]
    exact ⟨fun h0 => absurd h0 h.1, fun i hi => wpOp_of_qOp hw (fun a' w' hw' h' => headQ_any hL f _ a' w' hw' h') (h.2 i hi).2⟩

theorem headQ_first {n i : Nat} {oi : Oper} {v : Value} {L : Array Bool → Act → Prop} (hi : ops[i]? = some oi) (hsel : ∀ (j : Nat) (o : Oper) cs b, ops[j]? = some o → o.op ≠ .select cs b)
    (hs : Region.sinkB md ops n = true) (hc : chainC md ops n = true) (hn : n < ops.size) (hin : i < n) (hend : ∀ done a, L done a → ∀ j ∈ Region.ready md ops done, n ≤ j) :
    ∀ (f : Nat) (done : Array Bool) (a : Act), HeadInv md ops n done →
      (∀ j oj, ops[j]? = some oj → j ≠ i → done.getD j true = false → (∀ e ∈ oj.after, Region.binds md e = true → e.on ≠ i) → oi.apart ops oj = true) →
      i ∈ Region.ready md ops done → YieldsIn P ops C oi v a → headQ P md ops C n L f (done.setIfInBounds i true) (a.put oi.dst v) → headQ P md ops C n L (f + 1) done a := by
  intro f
  induction f with
  | zero =>
    intro done a inv _ hr hy H
    refine ⟨fun h => (by rw [h] at hr; cases hr), fun j hj => ?_⟩
    have hjn : j < n := Nat.lt_of_not_le fun h => waits_tail hs hc hn inv hin (mem_ready.1 hr).1 j h hj
    refine ⟨hjn, ?_⟩
    by_cases hji : j = i
    · subst hji; exact hy.qOp hi H
    · have := hend _ _ H j (ready_mono hj hji)
      omega
  | succ f ih =>
    intro done a inv hfree hr hy H
    have hun := (mem_ready.1 hr).1
    refine ⟨fun h => (by rw [h] at hr; cases hr), fun j hj => ?_⟩
    have hjn : j < n := Nat.lt_of_not_le fun h => waits_tail hs hc hn inv hin hun j h hj
    refine ⟨hjn, ?_⟩
    by_cases hji : j = i
    · subst hji; exact hy.qOp hi H
    · obtain ⟨hjun, oj, hoj, hall⟩ := mem_ready.1 hj
      have hnot : ∀ e ∈ oj.after, Region.binds md e = true → e.on ≠ i := fun e he hb heq => by
        have h1 := hall e he hb
        rw [heq, getD_both hun] at h1
        cases h1
      have h2 := qOp_put hoj (hfree j oj hoj hji hjun hnot) (fun cs b => hsel i oi cs b hi) (fun cs b => hsel j oj cs b hoj) hy (H.2 j (ready_mono hj hji)).2
      refine qOp_mono (fun a' h3 => ih (done.setIfInBounds j true) a' (inv.set hj hjn) (fun k ok hk hki hku hno => hfree k ok hk hki ?_ hno) (ready_mono hr (Ne.symm hji)) h3.1 ?_) h2
      · by_cases hjk : j = k
        · subst hjk; exact hjun
        · rw [getD_set_ne true hjk] at hku; exact hku
      · rw [Array.setIfInBounds_comm _ _ hji]
        exact h3.2

theorem headQ_lex {n : Nat} {K : Act → Prop} (hsel : Region.noSelect ops = true) (hs : Region.sinkB md ops n = true) (hc : chainC md ops n = true) (hn : n < ops.size)
    (hB : ∀ k, k < n → (Region.ready md ops (fdone k ops.size)).contains k = true ∧ Region.free md ops (fdone k ops.size) k = true) :
    ∀ (l : List Oper) (k : Nat) (a : Act), (∀ j, j < l.length → l[j]? = ops[k + j]?) → k + l.length = n → HeadInv md ops n (fdone k ops.size) →
    wpQuiet P ops C K l a → headQ P md ops C n (fun done' a' => done' = fdone n ops.size ∧ K a') l.length (fdone k ops.size) a
  | [], k, a, _, hk, _, h => by
    have : k = n := by simpa using hk
    subst this
    exact ⟨rfl, h⟩
  | o :: l, k, a, hl, hk, inv, h => by
    have h0 : ops[k]? = some o := by simpa using (hl 0 (by simp)).symm
    have hkn : k < n := by simp only [List.length_cons] at hk; omega
    obtain ⟨hr, hf⟩ := hB k hkn
    have hr' : k ∈ Region.ready md ops (fdone k ops.size) := by simpa using hr
    have hst : qOp P ops C k (wpQuiet P ops C K l) a := by unfold qOp; simp only [h0]; exact h
    obtain ⟨v, hy, hK⟩ := yieldsIn_of_qOp h0 hst
    have inv' := inv.set hr' hkn
    rw [fdone_next (by omega)] at inv'
    refine headQ_first h0 (Region.noSelect_spec hsel) hs hc hn hkn (fun done' a' hL j hj => ?_) l.length _ a inv (Region.free_spec h0 hf) hr' hy ?_
    · rw [hL.1] at hj; exact fdone_out (mem_ready.1 hj).1
    · rw [fdone_next (by omega)]
      exact headQ_lex hsel hs hc hn hB l (k + 1) _ (fun j hj => by have := hl (j + 1) (by simp; omega); simpa [Nat.add_assoc, Nat.add_comm 1 j] using this) (by simp only [List.length_cons] at hk; omega) inv' hK

/-- what only hands values on -/
def wless : Op → Bool
  | .move _ => true
  | .assign _ => true
  | .extract _ _ => true
  | _ => false
theorem wless_run {o : Oper} {a : Act} {w : World} {K : Act → World → Prop} {Q : Exit → Act → World → Prop} (hk : wless o.op = true) (h : o.wp P a w K Q ∨ (o.asks P a w ∧ LetsOut Q)) :
    ∃ v, (∀ w, (execOp a.eval o).run P w = .ok (.value v) w) ∧ K (a.put o.dst v) w := by
  have key : ∀ v, execOp a.eval o = pure (.value v) → ∃ v, (∀ w, (execOp a.eval o).run P w = .ok (.value v) w) ∧ K (a.put o.dst v) w := by
    intro v hv
    rcases h with h | ⟨h, _⟩
    · refine ⟨v, fun w => by rw [hv]; rfl, ?_⟩
      unfold Oper.wp at h
      rw [hv] at h
      exact h
    · exfalso
      have h1 := h.1
      rw [hv] at h1
      have e : (Sem.runT P (pure (Next.value v)) w #[]).2 = #[] := rfl
      rw [e] at h1
      simp at h1
  cases hop : o.op <;> simp only [hop, wless, Bool.false_eq_true] at hk
  case move x => exact key (a.eval x) (by simp [execOp, hop])
  case assign x => exact key (a.eval x) (by simp [execOp, hop])
  case extract x ix =>
    have bad : ∀ st, execOp a.eval o = ((stuck st : Sem Value) >>= fun v => pure (Next.value v)) → False := by
      intro st hst
      rcases h with h | ⟨h, _⟩
      · unfold Oper.wp at h
        rw [hst] at h
        exact h
      · have h1 := h.1
        rw [hst] at h1
        have e : (Sem.runT P ((stuck st : Sem Value) >>= fun v => pure (Next.value v)) w #[]).2 = #[] := rfl
        rw [e] at h1
        simp at h1
    cases hx : a.eval x
    case tuple vs =>
      cases hv : vs[ix]? with
      | some v => exact key v (by simp [execOp, hop, Instr.extract, hx, hv])
      | none => exact (bad "Extract: no such component" (by simp only [execOp, hop, Instr.extract, hx, hv])).elim
    all_goals exact (bad "Extract: tuple expected" (by simp only [execOp, hop, Instr.extract, hx])).elim

/-- what is left comes up one by one, but for what only hands values on -/
def restB (md : Region.Mode) (ops : Array Oper) (n : Nat) : Bool :=
  Region.noSelect ops && (List.range (ops.size - n)).all (fun j => decide (Region.ready md ops (fdone (n + j) ops.size) = [n + j]) || ((Region.ready md ops (fdone (n + j) ops.size)).contains (n + j) && Region.free md ops (fdone (n + j) ops.size) (n + j) && ((ops[n + j]?).map fun o => wless o.op && o.guard.isNone).getD false)) && (Region.ready md ops (fdone ops.size ops.size)).isEmpty
theorem wpAny_rest {Q : Exit → Act → World → Prop} (hsel : Region.noSelect ops = true) (hQ : ∀ c a d v w, Q (.panic c) (Act.put a d v) w → Q (.panic c) a w) (hend : Region.ready md ops (fdone ops.size ops.size) = []) :
    ∀ (l : List Oper) (k : Nat) (a : Act) (w : World), (∀ j, l[j]? = ops[k + j]?) → k + l.length = ops.size →
    (∀ j, k ≤ j → j < ops.size → Region.ready md ops (fdone j ops.size) = [j] ∨ ((Region.ready md ops (fdone j ops.size)).contains j = true ∧ Region.free md ops (fdone j ops.size) j = true ∧ ∃ o, ops[j]? = some o ∧ wless o.op = true ∧ o.guard = none)) →
    wpList P ops Q l a w → wpAny P md ops Q l.length (fdone k ops.size) a w
  | [], k, a, w, _, hk, _, h => by
    have : k = ops.size := by simpa using hk
    subst this
    exact ⟨hend, h⟩
  | o :: l, k, a, w, hl, hk, hB, h => by
    have h0 : ops[k]? = some o := by simpa using (hl 0).symm
    have hks : k < ops.size := by simp only [List.length_cons] at hk; omega
    have hl' : ∀ j, l[j]? = ops[k + 1 + j]? := fun j => by have := hl (j + 1); simpa [Nat.add_assoc, Nat.add_comm 1 j] using this
    have hk' : k + 1 + l.length = ops.size := by simp only [List.length_cons] at hk; omega
    have ih := fun a w => wpAny_rest hsel hQ hend l (k + 1) a w hl' hk' (fun j h1 h2 => hB j (by omega) h2)
    rcases hB k (Nat.le_refl _) hks with hr | ⟨hr, hf, o', ho', hwl, hg⟩
    · refine ⟨fun h1 => (by rw [hr] at h1; cases h1), fun i hi => ?_⟩
      rw [hr] at hi
      obtain rfl : i = k := by simpa using hi
      rw [fdone_next hks]
      have hw : wpOp P ops Q i (wpList P ops Q l) a w := by unfold wpOp; simp only [h0]; exact h
      exact wpOp_mono (fun a' w' h' => ih a' w' h') hw
    · obtain rfl : o' = o := Option.some.inj (ho'.symm.trans h0)
      have hwt : Region.wanted o' (yielded ops a.tmps) = true := by unfold Region.wanted; rw [hg]
      unfold wpList at h
      rw [if_pos hwt] at h
      obtain ⟨v, hv, hK⟩ := wless_run hwl h
      refine wpAny_take h0 hsel hf hr (fun c a w => hQ c a _ v w) (Or.inl ⟨hwt, hv⟩) ?_
      rw [fdone_next hks]
      exact ih _ _ hK

theorem wpQuiet_mono {K K' : Act → Prop} (h : ∀ a, K a → K' a) : ∀ (l : List Oper) (a : Act), wpQuiet P ops C K l a → wpQuiet P ops C K' l a
  | [], a, hh => h a hh
  | o :: l, a, hh => by
    unfold wpQuiet at *
    split
    · rename_i hw; rw [if_pos hw] at hh; exact Oper.quiet_mono (wpQuiet_mono h l) hh
    · rename_i hw; rw [if_neg hw] at hh; exact wpQuiet_mono h l _ hh
/-- the class: whatever has been made behind w -/
abbrev Bk (w : World) : World → Prop := fun W => Below w.heap.size w W
theorem bk_iff {w : World} (X : World → Prop) : (∀ w', (∃ t : Wd (Bk w), w' = t.w) → X w') = (∀ w', Below w.heap.size w w' → X w') :=
  propext ⟨fun h w' hb => h w' ⟨⟨w', hb⟩, rfl⟩, fun h w' ⟨t, e⟩ => h w' (by rw [e]; exact t.h)⟩
theorem bk_next {w : World} : ∀ v v' : World, Bk w v → Below v.heap.size v v' → Bk w v' := fun v v' h hb => h.trans (hb.mono h.size)

/-- **A region that draws its order: the first n, which read and call, walked once in the order of the text; what is left then may still come up in any order.** -/
theorem wp_head {id : Nat} {Q : Exit → Act → World → Prop} {a : Act} {w : World} {l : List Oper} (n : Nat) (hm : P.follows .mixedOrders = true) (hB : headB .any l.toArray n = true)
    (h : Nonempty (Wd (Bk w)) → (∀ (t : Wd (Bk w)) (b o : Nat), b < w.heap.size → t.w.cell? ⟨b, o, none⟩ = w.cell? ⟨b, o, none⟩) →
      wpQuiet P l.toArray (fun w' => ∃ t : Wd (Bk w), w' = t.w) (fun a' => ∀ w', Below w.heap.size w w' → wpAny P .any l.toArray Q (l.length - n) (fdone n l.length) a' w') (l.take n) a) : (Code.region id l.toArray true).wp P Q a w := by
  simp only [headB, Bool.and_eq_true, decide_eq_true_eq] at hB
  obtain ⟨⟨⟨⟨hsel, hn⟩, hs⟩, hc⟩, hlex⟩ := hB
  have hn' : n < l.length := by simpa using hn
  have htl : (l.take n).length = n := by simp; omega
  have h' := h ⟨⟨w, Below.refl _ _⟩⟩ fun t b o hb => t.h.cell (p := ⟨b, o, none⟩) hb
  simp only [← bk_iff] at h'
  have hsz : l.toArray.size = l.length := by simp
  have inv0 : HeadInv .any l.toArray n (fdone 0 l.toArray.size) := by
    rw [fdone_zero]
    exact ⟨by simp, fun j oj _ hl => (by rw [getD_replicate_false] at hl; cases hl), fun t _ ht => getD_in (by simpa using ht) (getD_replicate_false _ _)⟩
  have H := headQ_lex (md := .any) hsel hs hc hn (fun k hk => by
    have := List.all_eq_true.1 hlex k (List.mem_range.2 hk)
    simpa only [Bool.and_eq_true] using this) (l.take n) 0 a (fun j hj => by
    have hj' : j < n := by rw [htl] at hj; exact hj
    simp [hj']) (by simpa using htl) inv0 h'
  refine wp_region_any hm ?_
  have := headQ_any (Q := Q) (g := l.length - n) (fun done a' w' hw' hL => by
    rw [hL.1, hsz]
    exact hL.2 w' hw') _ _ _ w.drew ⟨⟨w.drew, (Below.refl _ _).drew⟩, rfl⟩ H
  rw [htl, show n + (l.length - n) = l.toArray.size by rw [hsz]; omega, fdone_zero] at this
  exact this
theorem wp_tail {id : Nat} {Q : Exit → Act → World → Prop} {a : Act} {w : World} {l : List Oper} (n : Nat) (hm : P.follows .mixedOrders = true) (hB : headB .any l.toArray n = true) (hR : restB .any l.toArray n = true) (hQ : ∀ c a d v w, Q (.panic c) (Act.put a d v) w → Q (.panic c) a w)
    (h : Nonempty (Wd (Bk w)) → (∀ (t : Wd (Bk w)) (b o : Nat), b < w.heap.size → t.w.cell? ⟨b, o, none⟩ = w.cell? ⟨b, o, none⟩) →
      wpQuiet P l.toArray (fun w' => ∃ t : Wd (Bk w), w' = t.w) (fun a' => ∀ w', Below w.heap.size w w' → wpList P l.toArray Q (l.drop n) a' w') (l.take n) a) : (Code.region id l.toArray true).wp P Q a w := by
  refine wp_head n hm hB fun h1 h2 => ?_
  have hsz : l.toArray.size = l.length := by simp
  have hn : n < l.length := by
    simp only [headB, Bool.and_eq_true, decide_eq_true_eq] at hB
    have := hB.1.1.1.2; rwa [hsz] at this
  simp only [restB, Bool.and_eq_true, List.isEmpty_iff] at hR
  obtain ⟨⟨hsel, hall⟩, hend⟩ := hR
  refine wpQuiet_mono (fun a' h3 w' hw' => ?_) (l.take n) a (h h1 h2)
  have := wpAny_rest (P := P) (md := .any) (Q := Q) hsel hQ hend (l.drop n) n a' w' (fun j => by simp [List.getElem?_drop]) (by simp; omega) (fun j hj1 hj2 => by
    have h5 := List.all_eq_true.1 hall (j - n) (List.mem_range.2 (by omega))
    rw [show n + (j - n) = j by omega] at h5
    simp only [Bool.or_eq_true, Bool.and_eq_true, decide_eq_true_eq] at h5
    rcases h5 with h5 | ⟨⟨h5, h6⟩, h7⟩
    · exact Or.inl h5
    · refine Or.inr ⟨h5, h6, ?_⟩
      cases ho : l.toArray[j]? with
      | none => rw [ho] at h7; cases h7
      | some o =>
        rw [ho] at h7
        simp only [Option.map_some, Option.getD_some, Bool.and_eq_true, Option.isNone_iff_eq_none] at h7
        exact ⟨o, rfl, h7.1, h7.2⟩) (h3 w' hw')
  rw [hsz] at this
  simpa using this
theorem wp_whole {id : Nat} {Q : Exit → Act → World → Prop} {a : Act} {w : World} {l : List Oper} (hm : P.follows .mixedOrders = true) (hB : Region.lexB .any l.toArray = true)
    (h : Nonempty (Wd (Bk w)) → (∀ (t : Wd (Bk w)) (b o : Nat), b < w.heap.size → t.w.cell? ⟨b, o, none⟩ = w.cell? ⟨b, o, none⟩) →
      wpQuiet P l.toArray (fun w' => ∃ t : Wd (Bk w), w' = t.w) (fun a' => ∀ w', Below w.heap.size w w' → Q .normal a' w') l a) : (Code.region id l.toArray true).wp P Q a w := by
  refine wp_region_wd (Bk w) hm hB (Below.refl _ _).drew ?_
  simp only [bk_iff]
  exact h ⟨⟨w, Below.refl _ _⟩⟩ fun t b o hb => t.h.cell (p := ⟨b, o, none⟩) hb
end
end Go.Proofs.YthcndcanahhbcaaDoor

/-
  What binary's inner functions do: the layout, its powers, a pattern cut up.
-/
set_option linter.unusedVariables false
set_option linter.unusedSectionVars false
set_option linter.unusedSimpArgs false
set_option maxRecDepth 20000
namespace Go.Proofs.YthcndcanahhbcaaDoor
open Go.RowKit

/-- a binary format's layout: bits of the fraction, bits of the exponent, least and most -/
structure Fm (f e : Nat) (l m : Int) : Prop where
  f2 : 2 ≤ f
  f240 : f ≤ 240
  e2 : 2 ≤ e
  e15 : e ≤ 15
  fe : f + e ≤ 255
  l1 : -1000000 ≤ l
  l0 : l ≤ 0
  m : m = l + 2 ^ e - 3
abbrev LV (f e : Nat) (l m : Int) : Value := .agg #[.int .i64 f, .int .i64 e, .int .i64 l, .int .i64 m]
theorem pow_e {e : Nat} (h2 : 2 ≤ e) (h15 : e ≤ 15) : (4 : Int) ≤ 2 ^ e ∧ (2 : Int) ^ e ≤ 32768 := by
  have a : (2 : Nat) ^ 2 ≤ 2 ^ e := Nat.pow_le_pow_right (by decide) h2
  have b : (2 : Nat) ^ e ≤ 2 ^ 15 := Nat.pow_le_pow_right (by decide) h15
  have c : ((2 : Int) ^ e) = ((2 ^ e : Nat) : Int) := by simp
  rw [c]; omega
theorem below2 (w : World) (o1 o2 : Obj) : Below w.heap.size w ((w.alloc o1).alloc o2) := ((Below.refl _ _).alloc (Nat.le_refl _) _).alloc (by simp) _
set_option maxHeartbeats 400000 in
theorem special_any (f e : Nat) (l m : Int) (w : World) (h : Fm f e l m) :
    Calls Tryd.prog 38 #[LV f e l m] w fun x w' => x = .returned (.int .u64 ((2 ^ e - 1 : Nat) : Int)) ∧ Below w.heap.size w w' := by
  have h2 := h.e2
  have h15 := h.e15
  have hp := pow_e h2 h15
  have hc : ((2 ^ e - 1 : Nat) : Int) = 2 ^ e - 1 := by
    have c : ((2 : Int) ^ e) = ((2 ^ e : Nat) : Int) := by simp
    have : 1 ≤ 2 ^ e := Nat.one_le_two_pow
    rw [c]; omega
  rw [hc]
  clear hc h
  go_enter Tryd.func38, Tryd.ntmps38
  go_wp2
  go_ret
  exact ⟨rfl, (Below.refl _ _).alloc (Nat.le_refl _) _⟩
theorem lt_below {n g : Nat} {W W' : World} (hb : Below n W W') (h : g < W.heap.size) : g < W'.heap.size := Nat.lt_of_lt_of_le h hb.size
theorem bnext {w0 W W' : World} (h : Below w0.heap.size w0 W) (hb : Below W.heap.size W W') : Below w0.heap.size w0 W' := h.trans (hb.mono h.size)
set_option maxHeartbeats 400000 in
theorem power_any (n : Nat) (w : World) (hn : n ≤ 100000) :
    Calls Tryd.prog 41 #[.int .i64 n] w fun x w' => x = .returned (A4 (2 ^ n)) ∧ Below w.heap.size w w' := by
  have c1 := fun w => of4 1 w (by decide)
  have c2 := fun w => shl4 1 n w (by decide) hn
  rw [Nat.one_mul] at c2
  go_enter Tryd.func41, Tryd.ntmps41
  go_wp2_with (first
    | (go_at_call 82; refine (c1 _).mono ?_; rintro x w1 ⟨rfl, hb1⟩; obtain ⟨hc1, hf1⟩ := bcell hb1; have hz1 := lt_alloc' hb1; have hA1 := bnext (w0 := w) (by (repeat (first | with_reducible assumption | with_reducible exact Below.refl _ _ | with_reducible refine Below.setCell ?_ (by first | omega | (dsimp only; omega) | (simp <;> omega)) _ | with_reducible refine Below.alloc ?_ (by first | omega | (simp <;> omega)) _ | with_reducible refine Below.drew ?_))) hb1; clear hb1)
    | (go_at_call 79; refine (c2 _).mono ?_; rintro x w2 ⟨rfl, hb2⟩; obtain ⟨hc2, hf2⟩ := bcell hb2; have hz2 := Nat.lt_of_lt_of_le hz1 hb2.size; have hA2 := bnext (w0 := w) (by (repeat (first | with_reducible assumption | with_reducible exact Below.refl _ _ | with_reducible refine Below.setCell ?_ (by first | omega | (dsimp only; omega) | (simp <;> omega)) _ | with_reducible refine Below.alloc ?_ (by first | omega | (simp <;> omega)) _ | with_reducible refine Below.drew ?_))) hb2; clear hb2))
  exact bodyPost_ret (v := A4 (2 ^ n)) (by simp [results, Tryd.results41, go_sem, *]) rfl ⟨rfl, by (repeat (first | with_reducible assumption | with_reducible exact Below.refl _ _ | with_reducible refine Below.setCell ?_ (by first | omega | (dsimp only; omega) | (simp <;> omega)) _ | with_reducible refine Below.alloc ?_ (by first | omega | (simp <;> omega)) _ | with_reducible refine Below.drew ?_))⟩
set_option maxHeartbeats 400000 in
theorem quiet_any (f e : Nat) (l m : Int) (w : World) (h : Fm f e l m) :
    Calls Tryd.prog 81 #[LV f e l m] w fun x w' => x = .returned (A4 (2 ^ (f - 1))) ∧ Below w.heap.size w w' := by
  have h2 := h.f2
  have h240 := h.f240
  have c1 := fun w => power_any (f - 1) w (by omega)
  rw [show ((f - 1 : Nat) : Int) = (f : Int) - 1 by omega] at c1
  clear h
  go_enter Tryd.func81, Tryd.ntmps81
  go_wp2_with (go_at_call 41; refine (c1 _).mono ?_; rintro x w1 ⟨rfl, hb1⟩; obtain ⟨hc1, hf1⟩ := bcell hb1)
  have hA1 := bnext (w0 := w) (by (repeat (first | with_reducible assumption | with_reducible exact Below.refl _ _ | with_reducible refine Below.setCell ?_ (by first | omega | (dsimp only; omega) | (simp <;> omega)) _ | with_reducible refine Below.alloc ?_ (by first | omega | (simp <;> omega)) _ | with_reducible refine Below.drew ?_))) hb1
  exact bodyPost_ret (v := A4 (2 ^ (f - 1))) (by simp [results, Tryd.results81, go_sem, hc1, hf1]) rfl ⟨rfl, by (repeat (first | with_reducible assumption | with_reducible exact Below.refl _ _ | with_reducible refine Below.setCell ?_ (by first | omega | (dsimp only; omega) | (simp <;> omega)) _ | with_reducible refine Below.alloc ?_ (by first | omega | (simp <;> omega)) _ | with_reducible refine Below.drew ?_))⟩
theorem mod_and {f e B : Nat} (he : e ≤ 15) : bits BinOp.and IntKind.u64 (W4 (B / 2 ^ f) 0) ((2 ^ e - 1 : Nat) : Int) = ((B / 2 ^ f % 2 ^ e : Nat) : Int) := by
  have hc : ((2 ^ e - 1 : Nat) : Int) = 2 ^ e - 1 := by
    have c : ((2 : Int) ^ e) = ((2 ^ e : Nat) : Int) := by simp
    have : 1 ≤ 2 ^ e := Nat.one_le_two_pow
    rw [c]; omega
  rw [hc, and_mask (W4_words _ 0) (by omega)]
  unfold W4
  rw [Nat.mul_zero, Nat.pow_zero, Nat.div_one]
  have e2 : ((2 : Int) ^ e) = ((2 ^ e : Nat) : Int) := by simp
  rw [e2, ← Int.natCast_emod]
  congr 1
  rw [show (18446744073709551616 : Nat) = 2 ^ e * 2 ^ (64 - e) by rw [← Nat.pow_add, show e + (64 - e) = 64 by omega]]
  exact Nat.mod_mul_right_mod _ _ _
theorem cell_set {W : World} {p : Addr} {u : Value} (h : W.cell? p = some u) (v : Value) : (W.setCell p v).cell? p = some v := by simp [go_sem, h]
theorem cell_set_ne {W : World} {g i j : Nat} (hij : i ≠ j) (v : Value) : (W.setCell ⟨g, i, none⟩ v).cell? ⟨g, j, none⟩ = W.cell? ⟨g, j, none⟩ := by simp [go_sem, hij]
theorem put4 {W : World} {g : Nat} {u0 u1 u2 u3 : Value} (h0 : W.cell? ⟨g, 0, none⟩ = some u0) (h1 : W.cell? ⟨g, 1, none⟩ = some u1) (h2 : W.cell? ⟨g, 2, none⟩ = some u2) (h3 : W.cell? ⟨g, 3, none⟩ = some u3) (v0 v1 v2 v3 : Value) :
    (W.setCell ⟨g, 0, none⟩ v0).cell? ⟨g, 0, none⟩ = some v0 ∧ ((W.setCell ⟨g, 0, none⟩ v0).setCell ⟨g, 1, none⟩ v1).cell? ⟨g, 1, none⟩ = some v1 ∧ (((W.setCell ⟨g, 0, none⟩ v0).setCell ⟨g, 1, none⟩ v1).setCell ⟨g, 2, none⟩ v2).cell? ⟨g, 2, none⟩ = some v2 ∧ ((((W.setCell ⟨g, 0, none⟩ v0).setCell ⟨g, 1, none⟩ v1).setCell ⟨g, 2, none⟩ v2).setCell ⟨g, 3, none⟩ v3).cell? ⟨g, 3, none⟩ = some v3 :=
  ⟨cell_set h0 _, cell_set ((cell_set_ne (by decide) _).trans h1) _, cell_set ((cell_set_ne (by decide) _).trans ((cell_set_ne (by decide) _).trans h2)) _, cell_set ((cell_set_ne (by decide) _).trans ((cell_set_ne (by decide) _).trans ((cell_set_ne (by decide) _).trans h3))) _⟩
/-- the sign's bit -/
def sgB (f e B : Nat) : Bool := (((B / 2 ^ (f + e) % 2 : Nat) : Int) == 1)
set_option maxHeartbeats 1000000 in
theorem split_any (f e : Nat) (l m : Int) (B : Nat) (w : World) (h : Fm f e l m) (hB : B < 2 ^ 256) :
    Calls Tryd.prog 37 #[LV f e l m, A4 B] w fun x w' => x = .returned (.tuple #[.bool (sgB f e B), .int .u64 ((B / 2 ^ f % 2 ^ e : Nat) : Int), A4 (B % 2 ^ f)]) ∧ Below w.heap.size w w' := by
  have hf2 := h.f2
  have hf240 := h.f240
  have he15 := h.e15
  have hfe := h.fe
  have c43 := fun w => bit4 B (f + e) w hB (by omega)
  have c44 := fun w => shr4 B f w hB (by omega)
  have c20 := fun w => special_any f e l m w h
  have hd : B / 2 ^ f < 2 ^ 256 := Nat.lt_of_le_of_lt (Nat.div_le_self _ _) hB
  have c45 := fun w => shl4 (B / 2 ^ f) f w hd (by omega)
  have hle : B / 2 ^ f * 2 ^ f ≤ B := Nat.div_mul_le_self _ _
  have c39 := fun w => sub4 B (B / 2 ^ f * 2 ^ f) w hB (Nat.lt_of_le_of_lt hle hB)
  rw [A4_sub hle, show B - B / 2 ^ f * 2 ^ f = B % 2 ^ f by have := Nat.div_add_mod' B (2 ^ f); omega, if_neg (show ¬ B < B / 2 ^ f * 2 ^ f by omega)] at c39
  have hand := mod_and (f := f) (B := B) he15
  unfold sgB
  rw [Int.natCast_add] at c43
  clear h hd hle hB
  generalize ((B / 2 ^ (f + e) % 2 : Nat) : Int) = S at *
  generalize ((B / 2 ^ f % 2 ^ e : Nat) : Int) = E at *
  generalize ((2 ^ e - 1 : Nat) : Int) = sp at *
  generalize B % 2 ^ f = Fr at *
  generalize B / 2 ^ f * 2 ^ f = Sh at *
  generalize B / 2 ^ f = Ab at *
  go_enter Tryd.func37, Tryd.ntmps37
  go_wp2_with (first
    | (go_at_call 76; refine (c43 _).mono ?_; rintro x w1 ⟨rfl, hb1⟩; obtain ⟨hc1, hf1⟩ := bcell hb1; have hz1_0 : w.heap.size < w1.heap.size := lt_below hb1 (by first | with_reducible assumption | (simp; done) | (simp; omega)); have hl1_0 := Nat.le_of_lt hz1_0; have hz1_1 : w.heap.size + 1 < w1.heap.size := lt_below hb1 (by first | with_reducible assumption | (simp; done) | (simp; omega)); have hl1_1 := Nat.le_of_lt hz1_1; have hz1_2 : w.heap.size + 1 + 1 < w1.heap.size := lt_below hb1 (by first | with_reducible assumption | (simp; done) | (simp; omega)); have hl1_2 := Nat.le_of_lt hz1_2; have hA1 := bnext (w0 := w) (by (repeat (first | with_reducible assumption | with_reducible exact Below.refl _ _ | with_reducible refine Below.setCell ?_ (by first | omega | (dsimp only; omega) | (simp <;> omega)) _ | with_reducible refine Below.alloc ?_ (by first | omega | (simp <;> omega)) _ | with_reducible refine Below.drew ?_))) hb1; have hs1 := hA1.size; clear hb1)
    | (go_at_call 77; refine (c44 _).mono ?_; rintro x w2 ⟨rfl, hb2⟩; obtain ⟨hc2, hf2⟩ := bcell hb2; have hz2_0 : w.heap.size < w2.heap.size := lt_below hb2 (by first | with_reducible assumption | (simp; done) | (simp; omega)); have hl2_0 := Nat.le_of_lt hz2_0; have hz2_1 : w.heap.size + 1 < w2.heap.size := lt_below hb2 (by first | with_reducible assumption | (simp; done) | (simp; omega)); have hl2_1 := Nat.le_of_lt hz2_1; have hz2_2 : w.heap.size + 1 + 1 < w2.heap.size := lt_below hb2 (by first | with_reducible assumption | (simp; done) | (simp; omega)); have hl2_2 := Nat.le_of_lt hz2_2; have hA2 := bnext (w0 := w) (by (repeat (first | with_reducible assumption | with_reducible exact Below.refl _ _ | with_reducible refine Below.setCell ?_ (by first | omega | (dsimp only; omega) | (simp <;> omega)) _ | with_reducible refine Below.alloc ?_ (by first | omega | (simp <;> omega)) _ | with_reducible refine Below.drew ?_))) hb2; have hs2 := hA2.size; clear hb2))
  refine wp_whole (by kernel_rfl) (by kernel_rfl) fun hne hcell => ?_
  repeat go_big_quiet_step (fail)
  go_big_quiet_step ((go_at_call 38; exact calls_wd _ bk_next (c20 _)))
  repeat go_big_quiet_step (fail)
  refine wpQuiet_nil fun w3 hb3 => ?_
  obtain ⟨hc3, hf3⟩ := bcell hb3; have hz3_0 : w.heap.size < w3.heap.size := lt_below hb3 (by first | with_reducible assumption | (simp; done) | (simp; omega)); have hl3_0 := Nat.le_of_lt hz3_0; have hz3_1 : w.heap.size + 1 < w3.heap.size := lt_below hb3 (by first | with_reducible assumption | (simp; done) | (simp; omega)); have hl3_1 := Nat.le_of_lt hz3_1; have hz3_2 : w.heap.size + 1 + 1 < w3.heap.size := lt_below hb3 (by first | with_reducible assumption | (simp; done) | (simp; omega)); have hl3_2 := Nat.le_of_lt hz3_2; have hz3_3 : w2.heap.size < w3.heap.size := lt_below hb3 (by first | with_reducible assumption | (simp; done) | (simp; omega)); have hl3_3 := Nat.le_of_lt hz3_3; have hA3 := bnext (w0 := w) (by (repeat (first | with_reducible assumption | with_reducible exact Below.refl _ _ | with_reducible refine Below.setCell ?_ (by first | omega | (dsimp only; omega) | (simp <;> omega)) _ | with_reducible refine Below.alloc ?_ (by first | omega | (simp <;> omega)) _ | with_reducible refine Below.drew ?_))) hb3; have hs3 := hA3.size; clear hb3
  go_wp2
  refine wp_tail 6 (by kernel_rfl) (by kernel_rfl) (by kernel_rfl) (fun _ _ d _ _ h => by cases d <;> exact h) fun hne hcell => ?_
  simp only [List.take_succ_cons, List.take_zero, List.drop_succ_cons, List.drop_zero]
  repeat go_big_quiet_step (fail)
  go_big_quiet_step ((go_at_call 79; exact calls_wd _ bk_next (c45 _)))
  repeat go_big_quiet_step (fail)
  go_big_quiet_step ((go_at_call 78; exact calls_wd _ bk_next (c39 _)))
  repeat go_big_quiet_step (fail)
  refine wpQuiet_nil fun w4 hb4 => ?_
  obtain ⟨hc4, hf4⟩ := bcell hb4; have hz4_0 : w.heap.size < w4.heap.size := lt_below hb4 (by first | with_reducible assumption | (simp; done) | (simp; omega)); have hl4_0 := Nat.le_of_lt hz4_0; have hz4_1 : w.heap.size + 1 < w4.heap.size := lt_below hb4 (by first | with_reducible assumption | (simp; done) | (simp; omega)); have hl4_1 := Nat.le_of_lt hz4_1; have hz4_2 : w.heap.size + 1 + 1 < w4.heap.size := lt_below hb4 (by first | with_reducible assumption | (simp; done) | (simp; omega)); have hl4_2 := Nat.le_of_lt hz4_2; have hz4_3 : w2.heap.size < w4.heap.size := lt_below hb4 (by first | with_reducible assumption | (simp; done) | (simp; omega)); have hl4_3 := Nat.le_of_lt hz4_3; have hA4 := bnext (w0 := w) (by (repeat (first | with_reducible assumption | with_reducible exact Below.refl _ _ | with_reducible refine Below.setCell ?_ (by first | omega | (dsimp only; omega) | (simp <;> omega)) _ | with_reducible refine Below.alloc ?_ (by first | omega | (simp <;> omega)) _ | with_reducible refine Below.drew ?_))) hb4; have hs4 := hA4.size; clear hb4
  have k4_wheapsize11_0 : w4.cell? ⟨w.heap.size + 1 + 1, 0, none⟩ = some (.int .u64 0) := (by go_simp); have k4_wheapsize11_1 : w4.cell? ⟨w.heap.size + 1 + 1, 1, none⟩ = some (.int .u64 0) := (by go_simp); have k4_wheapsize11_2 : w4.cell? ⟨w.heap.size + 1 + 1, 2, none⟩ = some (.int .u64 0) := (by go_simp); have k4_wheapsize11_3 : w4.cell? ⟨w.heap.size + 1 + 1, 3, none⟩ = some (.int .u64 0) := (by go_simp)
  go_wp2
  refine wp_tail 5 (by kernel_rfl) (by kernel_rfl) (by kernel_rfl) (fun _ _ d _ _ h => by cases d <;> exact h) fun hne hcell => ?_
  simp only [List.take_succ_cons, List.take_zero, List.drop_succ_cons, List.drop_zero]
  repeat go_big_quiet_step (fail)
  refine wpQuiet_nil fun w5 hb5 => ?_
  obtain ⟨hc5, hf5⟩ := bcell hb5; have hz5_0 : w.heap.size < w5.heap.size := lt_below hb5 (by first | with_reducible assumption | (simp; done) | (simp; omega)); have hl5_0 := Nat.le_of_lt hz5_0; have hz5_1 : w.heap.size + 1 < w5.heap.size := lt_below hb5 (by first | with_reducible assumption | (simp; done) | (simp; omega)); have hl5_1 := Nat.le_of_lt hz5_1; have hz5_2 : w.heap.size + 1 + 1 < w5.heap.size := lt_below hb5 (by first | with_reducible assumption | (simp; done) | (simp; omega)); have hl5_2 := Nat.le_of_lt hz5_2; have hz5_3 : w2.heap.size < w5.heap.size := lt_below hb5 (by first | with_reducible assumption | (simp; done) | (simp; omega)); have hl5_3 := Nat.le_of_lt hz5_3; have hA5 := bnext (w0 := w) (by (repeat (first | with_reducible assumption | with_reducible exact Below.refl _ _ | with_reducible refine Below.setCell ?_ (by first | omega | (dsimp only; omega) | (simp <;> omega)) _ | with_reducible refine Below.alloc ?_ (by first | omega | (simp <;> omega)) _ | with_reducible refine Below.drew ?_))) hb5; have hs5 := hA5.size; clear hb5
  have k5_wheapsize11_0 : w5.cell? ⟨w.heap.size + 1 + 1, 0, none⟩ = some (.int .u64 (W4 Fr 0)) := (by go_simp); have k5_wheapsize11_1 : w5.cell? ⟨w.heap.size + 1 + 1, 1, none⟩ = some (.int .u64 (W4 Fr 1)) := (by go_simp); have k5_wheapsize11_2 : w5.cell? ⟨w.heap.size + 1 + 1, 2, none⟩ = some (.int .u64 (W4 Fr 2)) := (by go_simp); have k5_wheapsize11_3 : w5.cell? ⟨w.heap.size + 1 + 1, 3, none⟩ = some (.int .u64 (W4 Fr 3)) := (by go_simp)
  obtain ⟨p5_0, p5_1, p5_2, p5_3⟩ := put4 k5_wheapsize11_0 k5_wheapsize11_1 k5_wheapsize11_2 k5_wheapsize11_3 (.int .u64 (W4 Fr 0)) (.int .u64 (W4 Fr 1)) (.int .u64 (W4 Fr 2)) (.int .u64 (W4 Fr 3))
  go_wp2
  exact bodyPost_ret (v := .tuple #[.bool (S == 1), .int .u64 E, A4 Fr]) (by simp only [results, Tryd.results37]; go_simp) rfl ⟨rfl, by (repeat (first | with_reducible assumption | with_reducible exact Below.refl _ _ | with_reducible refine Below.setCell ?_ (by first | omega | (dsimp only; omega) | (simp <;> omega)) _ | with_reducible refine Below.alloc ?_ (by first | omega | (simp <;> omega)) _ | with_reducible refine Below.drew ?_))⟩
end Go.Proofs.YthcndcanahhbcaaDoor

/-
  A region that draws its order, whose first operations read and call, with one that makes a block, at any time: the first ones walked once, the block wherever it came to lie.
-/
set_option linter.unusedVariables false
set_option linter.unusedSimpArgs false
set_option linter.unusedSectionVars false
set_option maxRecDepth 20000
namespace Go.Proofs.YthcndcanahhbcaaDoor
open Go.RowKit

section
variable {P : Program} {ops : Array Oper} {md : Region.Mode} {C : World → Prop} {ph : Option Nat → World → Prop}

/-- one value, in every world of every class -/
def YieldsAll (P : Program) (ops : Array Oper) (ph : Option Nat → World → Prop) (o : Oper) (v : Value) (a : Act) : Prop :=
  (Region.wanted o (yielded ops a.tmps) = true ∧ ∀ al w, ph al w → o.quietAt P a (ph al) w v) ∨ (Region.wanted o (yielded ops a.tmps) = false ∧ v = undef)
theorem YieldsAll.of_same {o : Oper} {v : Value} {a a' : Act} (hy : YieldsAll P ops ph o v a) (he : execOp a'.eval o = execOp a.eval o) (hw : Region.wanted o (yielded ops a'.tmps) = Region.wanted o (yielded ops a.tmps)) : YieldsAll P ops ph o v a' := by
  unfold YieldsAll Oper.quietAt at *
  rw [he, hw]
  exact hy
theorem YieldsAll.yin {o : Oper} {v : Value} {a : Act} (hy : YieldsAll P ops ph o v a) (al : Option Nat) : YieldsIn P ops (ph al) o v a := by
  rcases hy with ⟨h1, h2⟩ | ⟨h1, h2⟩
  · exact Or.inl ⟨h1, fun w hw => h2 al w hw⟩
  · exact Or.inr ⟨h1, h2⟩
def lexAll (P : Program) (ops : Array Oper) (ph : Option Nat → World → Prop) (K : Act → Prop) : List Oper → Act → Prop
  | [], a => K a
  | o :: l, a => ∃ v, YieldsAll P ops ph o v a ∧ lexAll P ops ph K l (a.put o.dst v)

theorem put_get_ne {b : Act} {x : Option Tmp} {v : Value} {d : Nat} (h : x ≠ some d) : (b.put x v).tmps[d]? = b.tmps[d]? := by
  cases x with
  | none => rfl
  | some t =>
    have : t ≠ d := fun e => h (by rw [e])
    simp [Act.put, Array.getElem?_setIfInBounds_ne this]
theorem quiet_slot {a' : Act} {d : Nat} : ∀ (l : List Oper) (b : Act), (∀ o ∈ l, o.dst ≠ some d) → wpQuiet P ops C (fun a => a = a') l b → a'.tmps[d]? = b.tmps[d]?
  | [], b, _, h => by
    have h' : b = a' := h
    rw [h']
  | o :: l, b, hd, h => by
    unfold wpQuiet at h
    split at h
    · obtain ⟨v, _, h2⟩ := h
      rw [quiet_slot l _ (fun o' ho' => hd o' (List.mem_cons_of_mem _ ho')) h2, put_get_ne (hd o List.mem_cons_self)]
    · rw [quiet_slot l _ (fun o' ho' => hd o' (List.mem_cons_of_mem _ ho')) h, put_get_ne (hd o List.mem_cons_self)]
/-- each writes a slot of its own -/
def dstsB (m : Nat) : List Oper → Bool
  | [] => true
  | o :: l => (match o.dst with
    | some d => decide (d < m) && l.all (fun o' => o'.dst != some d)
    | none => false) && dstsB m l
theorem lexAll_of {a' : Act} (h0 : ∃ w, ph none w) : ∀ (l : List Oper) (a : Act), dstsB a.tmps.size l = true → (∀ al, (∃ w, ph al w) → wpQuiet P ops (ph al) (fun b => b = a') l a) → lexAll P ops ph (fun b => b = a') l a
  | [], a, _, h => h none h0
  | o :: l, a, hd, h => by
    unfold dstsB at hd
    cases ho : o.dst with
    | none => rw [ho] at hd; simp at hd
    | some d =>
      rw [ho] at hd
      simp only [Bool.and_eq_true, decide_eq_true_eq, List.all_eq_true, bne_iff_ne] at hd
      obtain ⟨⟨hlt, hne⟩, hds⟩ := hd
      have hsz : ∀ v, dstsB (a.put (some d) v).tmps.size l = true := fun v => by simpa [Act.put] using hds
      by_cases hw : Region.wanted o (yielded ops a.tmps) = true
      · have hv : ∀ al, (∃ w, ph al w) → ∃ v, (∀ w, ph al w → o.quietAt P a (ph al) w v) ∧ wpQuiet P ops (ph al) (fun b => b = a') l (a.put (some d) v) := fun al hal => by
          have h1 := h al hal
          unfold wpQuiet at h1
          rw [if_pos hw] at h1
          unfold Oper.quiet at h1
          rw [ho] at h1
          exact h1
        have key : ∀ al v, wpQuiet P ops (ph al) (fun b => b = a') l (a.put (some d) v) → a'.tmps[d]? = some v := fun al v hr => by
          rw [quiet_slot l _ (fun o' ho' => hne o' ho') hr]
          simp [Act.put, hlt]
        obtain ⟨v0, q0, r0⟩ := hv none h0
        have hk := key none v0 r0
        have same : ∀ al, (∃ w, ph al w) → (∀ w, ph al w → o.quietAt P a (ph al) w v0) ∧ wpQuiet P ops (ph al) (fun b => b = a') l (a.put (some d) v0) := fun al hal => by
          obtain ⟨v1, q1, r1⟩ := hv al hal
          have : v1 = v0 := Option.some.inj ((key al v1 r1).symm.trans hk)
          subst this
          exact ⟨q1, r1⟩
        refine ⟨v0, Or.inl ⟨hw, fun al w hw' => (same al ⟨w, hw'⟩).1 w hw'⟩, ?_⟩
        rw [ho]
        exact lexAll_of h0 l _ (hsz v0) (fun al hal => (same al hal).2)
      · refine ⟨undef, Or.inr ⟨by simpa using hw, rfl⟩, ?_⟩
        rw [ho]
        refine lexAll_of h0 l _ (hsz undef) (fun al hal => ?_)
        have h1 := h al hal
        unfold wpQuiet at h1
        rw [if_neg hw, ho] at h1
        exact h1

/-- every one behind n, but for ia, waits for one between n and itself that is not ia -/
def chainA (md : Region.Mode) (ops : Array Oper) (n ia : Nat) : Bool :=
  (List.range ops.size).all fun t => decide (t ≤ n) || t == ia || (List.range t).any fun s => decide (n ≤ s) && s != ia && Region.waitsFor md ops t s
def headA (md : Region.Mode) (ops : Array Oper) (n ia : Nat) : Bool :=
  Region.noSelect ops && decide (n < ia) && decide (ia < ops.size) && Region.sinkB md ops n && chainA md ops n ia && !Region.waitsFor md ops n ia && ((List.range n).all fun k => (Region.ready md ops (fdone k ops.size)).contains k && Region.free md ops (fdone k ops.size) k) &&
    (match ops[ia]? with
      | some oa => oa.guard.isNone && (List.range n).all fun j => (match ops[j]? with
        | some oj => oa.apart ops oj
        | none => false)
      | none => false)

/-- while one of the first n has not come up, none behind n has a turn but ia -/
theorem waits_A {n ia i : Nat} {done d2 : Array Bool} (hs : Region.sinkB md ops n = true) (hc : chainA md ops n ia = true) (hw : Region.waitsFor md ops n ia = false) (hn : n < ia) (hia : ia < ops.size) (inv : HeadInv md ops n done) (hd2 : d2 = done ∨ d2 = done.setIfInBounds ia true) (hi : i < n) (hun : done.getD i true = false) (t : Nat) (ht : n ≤ t) (hta : t ≠ ia) : t ∉ Region.ready md ops d2 := by
  intro hr
  have hback : ∀ j, j ≠ ia → d2.getD j false = done.getD j false := fun j hj => by
    rcases hd2 with rfl | rfl
    · rfl
    · rw [getD_set_ne false (fun h => hj h.symm)]
  by_cases htn : t = n
  · subst htn
    refine waits_sink hs (by omega) inv _ i rfl hi hun (mem_ready.2 ?_)
    obtain ⟨h1, o, ho, hall⟩ := mem_ready.1 hr
    refine ⟨inv.tail t (Nat.le_refl _) (by omega), o, ho, fun e he hb => ?_⟩
    by_cases hea : e.on = ia
    · exfalso
      unfold Region.waitsFor at hw
      rw [ho] at hw
      have := Array.any_eq_false.1 hw
      obtain ⟨k, hk, rfl⟩ := Array.getElem_of_mem he
      exact this k hk (by simp [hb, hea])
    · rw [← hback _ hea]; exact hall e he hb
  · obtain ⟨_, ot, hot, hall⟩ := mem_ready.1 hr
    have htlt : t < ops.size := (Array.getElem?_eq_some_iff.1 hot).1
    have h1 := List.all_eq_true.1 hc t (List.mem_range.2 htlt)
    simp only [Bool.or_eq_true, decide_eq_true_eq, beq_iff_eq] at h1
    rcases h1 with (h1 | h1) | h1
    · omega
    · exact hta h1
    · obtain ⟨s, hsm, hs2⟩ := List.any_eq_true.1 h1
      simp only [Bool.and_eq_true, decide_eq_true_eq, bne_iff_ne] at hs2
      obtain ⟨o', ho', e, he, hb, hon⟩ := Region.waitsFor_spec hs2.2
      obtain rfl : o' = ot := Option.some.inj (ho'.symm.trans hot)
      have hst := List.mem_range.1 hsm
      have h2 := hall e he hb
      rw [hon, hback _ hs2.1.2, getD_both (inv.tail s hs2.1.1 (by omega))] at h2
      cases h2

/-- the first n come up in any order, each of one value; ia is left aside -/
def headP (P : Program) (md : Region.Mode) (ops : Array Oper) (ph : Option Nat → World → Prop) (n ia : Nat) (L : Array Bool → Act → Prop) : Nat → Array Bool → Act → Prop
  | 0, done, a => L done a
  | f + 1, done, a => (∃ i ∈ Region.ready md ops done, i ≠ ia) ∧ ∀ i ∈ Region.ready md ops done, i ≠ ia → i < n ∧ ∃ oi v, ops[i]? = some oi ∧ YieldsAll P ops ph oi v a ∧ headP P md ops ph n ia L f (done.setIfInBounds i true) (a.put oi.dst v)

theorem headP_first {n ia i : Nat} {oi : Oper} {v : Value} {L : Array Bool → Act → Prop} (hi : ops[i]? = some oi) (hsel : ∀ (j : Nat) (o : Oper) cs b, ops[j]? = some o → o.op ≠ .select cs b)
    (hs : Region.sinkB md ops n = true) (hc : chainA md ops n ia = true) (hw : Region.waitsFor md ops n ia = false) (hn : n < ia) (hia : ia < ops.size) (hin : i < n) (hend : ∀ done a, L done a → ∀ j ∈ Region.ready md ops done, n ≤ j) :
    ∀ (f : Nat) (done : Array Bool) (a : Act), HeadInv md ops n done →
      (∀ j oj, ops[j]? = some oj → j ≠ i → done.getD j true = false → (∀ e ∈ oj.after, Region.binds md e = true → e.on ≠ i) → oi.apart ops oj = true) →
      i ∈ Region.ready md ops done → YieldsAll P ops ph oi v a → headP P md ops ph n ia L f (done.setIfInBounds i true) (a.put oi.dst v) → headP P md ops ph n ia L (f + 1) done a := by
  intro f
  induction f with
  | zero =>
    intro done a inv _ hr hy H
    refine ⟨⟨i, hr, by omega⟩, fun j hj hja => ?_⟩
    have hjn : j < n := Nat.lt_of_not_le fun h => waits_A hs hc hw hn hia inv (Or.inl rfl) hin (mem_ready.1 hr).1 j h hja hj
    refine ⟨hjn, ?_⟩
    by_cases hji : j = i
    · subst hji; exact ⟨oi, v, hi, hy, H⟩
    · have := hend _ _ H j (ready_mono hj hji)
      omega
  | succ f ih =>
    intro done a inv hfree hr hy H
    have hun := (mem_ready.1 hr).1
    refine ⟨⟨i, hr, by omega⟩, fun j hj hja => ?_⟩
    have hjn : j < n := Nat.lt_of_not_le fun h => waits_A hs hc hw hn hia inv (Or.inl rfl) hin hun j h hja hj
    refine ⟨hjn, ?_⟩
    by_cases hji : j = i
    · subst hji; exact ⟨oi, v, hi, hy, H⟩
    · obtain ⟨hjun, oj, hoj, hall⟩ := mem_ready.1 hj
      have hnot : ∀ e ∈ oj.after, Region.binds md e = true → e.on ≠ i := fun e he hb heq => by
        have h1 := hall e he hb
        rw [heq, getD_both hun] at h1
        cases h1
      obtain ⟨_, oj', u, hoj', hyj, Hj⟩ := H.2 j (ready_mono hj hji) hja
      obtain rfl : oj' = oj := Option.some.inj (hoj'.symm.trans hoj)
      obtain ⟨h1, h2, h3⟩ := Oper.apart_spec (hfree j oj' hoj hji hjun hnot)
      refine ⟨oj', u, hoj, hyj.of_same (execOp_put oj' (fun cs b => hsel j oj' cs b hoj) a oi.dst v h1).symm (wanted_put oj' a oi.dst v h1).symm, ?_⟩
      refine ih (done.setIfInBounds j true) (a.put oj'.dst u) (inv.set hj hjn) (fun k ok hk hki hku hno => hfree k ok hk hki ?_ hno) (ready_mono hr (Ne.symm hji)) (hy.of_same (execOp_put oi (fun cs b => hsel i oi cs b hi) a oj'.dst u h3) (wanted_put oi a oj'.dst u h3)) ?_
      · by_cases hjk : j = k
        · subst hjk; exact hjun
        · rw [getD_set_ne true hjk] at hku; exact hku
      · rw [Array.setIfInBounds_comm _ _ hji, ← Act.put_comm a v u h2]
        exact Hj

theorem headP_lex {n ia : Nat} {K : Act → Prop} (hsel : Region.noSelect ops = true) (hs : Region.sinkB md ops n = true) (hc : chainA md ops n ia = true) (hw : Region.waitsFor md ops n ia = false) (hn : n < ia) (hia : ia < ops.size)
    (hB : ∀ k, k < n → (Region.ready md ops (fdone k ops.size)).contains k = true ∧ Region.free md ops (fdone k ops.size) k = true) :
    ∀ (l : List Oper) (k : Nat) (a : Act), (∀ j, j < l.length → l[j]? = ops[k + j]?) → k + l.length = n → HeadInv md ops n (fdone k ops.size) →
    lexAll P ops ph K l a → headP P md ops ph n ia (fun done' a' => done' = fdone n ops.size ∧ K a') l.length (fdone k ops.size) a
  | [], k, a, _, hk, _, h => by
    have : k = n := by simpa using hk
    subst this
    exact ⟨rfl, h⟩
  | o :: l, k, a, hl, hk, inv, h => by
    have h0 : ops[k]? = some o := by simpa using (hl 0 (by simp)).symm
    have hkn : k < n := by simp only [List.length_cons] at hk; omega
    obtain ⟨hr, hf⟩ := hB k hkn
    have hr' : k ∈ Region.ready md ops (fdone k ops.size) := by simpa using hr
    obtain ⟨v, hy, hK⟩ := h
    have inv' := inv.set hr' hkn
    rw [fdone_next (by omega)] at inv'
    refine headP_first h0 (Region.noSelect_spec hsel) hs hc hw hn hia hkn (fun done' a' hL j hj => ?_) l.length _ a inv (Region.free_spec h0 hf) hr' hy ?_
    · rw [hL.1] at hj; exact fdone_out (mem_ready.1 hj).1
    · rw [fdone_next (by omega)]
      exact headP_lex hsel hs hc hw hn hia hB l (k + 1) _ (fun j hj => by have := hl (j + 1) (by simp; omega); simpa [Nat.add_assoc, Nat.add_comm 1 j] using this) (by simp only [List.length_cons] at hk; omega) inv' hK

/-- the block is made: it goes on with it -/
theorem headP_made {n ia g1 da g : Nat} {oa : Oper} {L : Array Bool → Act → Prop} {Q : Exit → Act → World → Prop} (hsel : ∀ (j : Nat) (o : Oper) cs b, ops[j]? = some o → o.op ≠ .select cs b)
    (hs : Region.sinkB md ops n = true) (hc : chainA md ops n ia = true) (hw : Region.waitsFor md ops n ia = false) (hn : n < ia) (hia : ia < ops.size) (hoa : ops[ia]? = some oa) (hda : oa.dst = some da)
    (hdep : ∀ j oj, j < n → ops[j]? = some oj → (∀ e ∈ oj.after, Region.binds md e = true → e.on ≠ ia) ∧ oa.apart ops oj = true)
    (hL : ∀ done a w, ph (some g) w → L done a → wpAny P md ops Q g1 (done.setIfInBounds ia true) (a.put (some da) (.pointer (some ⟨g, 0, none⟩))) w) :
    ∀ (f : Nat) (done : Array Bool) (a : Act) (w : World), HeadInv md ops n done → ph (some g) w → headP P md ops ph n ia L f done a → wpAny P md ops Q (f + g1) (done.setIfInBounds ia true) (a.put (some da) (.pointer (some ⟨g, 0, none⟩))) w
  | 0, done, a, w, _, hp, h => by rw [Nat.zero_add]; exact hL _ _ _ hp h
  | f + 1, done, a, w, inv, hp, h => by
    rw [show f + 1 + g1 = (f + g1) + 1 by omega]
    obtain ⟨⟨i0, hi0, hi0a⟩, hall⟩ := h
    have hi0n := (hall i0 hi0 hi0a).1
    have hi0u := (mem_ready.1 hi0).1
    refine ⟨fun h0 => ?_, fun i hi => ?_⟩
    · have := ready_mono hi0 hi0a
      rw [h0] at this; cases this
    · have hia' : i ≠ ia := fun e => by
        subst e
        have := (mem_ready.1 hi).1
        have hlt : i < done.size := by rw [inv.size]; exact hia
        simp [hlt] at this
      have hin : i < n := Nat.lt_of_not_le fun h => waits_A hs hc hw hn hia inv (Or.inr rfl) hi0n hi0u i h hia' hi
      obtain ⟨hu, oi, hoi, hdeps⟩ := mem_ready.1 hi
      have hr : i ∈ Region.ready md ops done := mem_ready.2 ⟨by rw [getD_set_ne true (fun h => hia' h.symm)] at hu; exact hu, oi, hoi, fun e he hb => by
        have := hdeps e he hb
        rw [getD_set_ne false (fun h => (hdep i oi hin hoi).1 e he hb h.symm)] at this
        exact this⟩
      obtain ⟨_, oi', v, hoi', hy, Hi⟩ := hall i hr hia'
      obtain rfl : oi' = oi := Option.some.inj (hoi'.symm.trans hoi)
      obtain ⟨h1, h2, h3⟩ := Oper.apart_spec (hdep i oi' hin hoi).2
      rw [hda] at h1 h2
      have hy' := (hy.of_same (execOp_put oi' (fun cs b => hsel i oi' cs b hoi) a (some da) (.pointer (some ⟨g, 0, none⟩)) h1) (wanted_put oi' a (some da) _ h1)).yin (some g)
      refine wpOp_of_qOp (C := ph (some g)) (K := fun b => b = (a.put (some da) (.pointer (some ⟨g, 0, none⟩))).put oi'.dst v) hp (fun a' w' hw' e => ?_) (hy'.qOp hoi rfl)
      rw [e, Act.put_comm a _ v h2, Array.setIfInBounds_comm _ _ (Ne.symm hia')]
      exact headP_made hsel hs hc hw hn hia hoa hda hdep hL f _ _ w' (inv.set hr hin) hw' Hi
theorem headP_any {n ia g1 da : Nat} {oa : Oper} {L : Array Bool → Act → Prop} {Q : Exit → Act → World → Prop} (hsel : ∀ (j : Nat) (o : Oper) cs b, ops[j]? = some o → o.op ≠ .select cs b)
    (hs : Region.sinkB md ops n = true) (hc : chainA md ops n ia = true) (hw : Region.waitsFor md ops n ia = false) (hn : n < ia) (hia : ia < ops.size) (hoa : ops[ia]? = some oa) (hda : oa.dst = some da) (hga : oa.guard = none)
    (hdep : ∀ j oj, j < n → ops[j]? = some oj → (∀ e ∈ oj.after, Region.binds md e = true → e.on ≠ ia) ∧ oa.apart ops oj = true)
    (hrun : ∀ (a : Act) (w : World), ph none w → ∃ g w', (execOp a.eval oa).run P w = .ok (.value (.pointer (some ⟨g, 0, none⟩))) w' ∧ ph (some g) w')
    (hL0 : ∀ done a w, ph none w → L done a → wpAny P md ops Q (g1 + 1) done a w)
    (hL1 : ∀ g done a w, ph (some g) w → L done a → wpAny P md ops Q g1 (done.setIfInBounds ia true) (a.put (some da) (.pointer (some ⟨g, 0, none⟩))) w) :
    ∀ (f : Nat) (done : Array Bool) (a : Act) (w : World), HeadInv md ops n done → ph none w → headP P md ops ph n ia L f done a → wpAny P md ops Q (f + (g1 + 1)) done a w
  | 0, done, a, w, _, hp, h => by rw [Nat.zero_add]; exact hL0 _ _ _ hp h
  | f + 1, done, a, w, inv, hp, h => by
    have hsave := h
    rw [show f + 1 + (g1 + 1) = (f + (g1 + 1)) + 1 by omega]
    obtain ⟨⟨i0, hi0, hi0a⟩, hall⟩ := h
    refine ⟨fun h0 => (by rw [h0] at hi0; cases hi0), fun i hi => ?_⟩
    by_cases hia' : i = ia
    · subst hia'
      obtain ⟨g, w', hr, hp'⟩ := hrun a w hp
      unfold wpOp
      simp only [hoa]
      rw [if_pos (by unfold Region.wanted; rw [hga])]
      refine Or.inl ?_
      unfold Oper.wp
      rw [hr, Oper.upon_value, hda, show f + (g1 + 1) = f + 1 + g1 by omega]
      exact headP_made hsel hs hc hw hn hia hoa hda hdep (hL1 g) (f + 1) done a w' inv hp' hsave
    · obtain ⟨hin, oi, v, hoi, hy, Hi⟩ := hall i hi hia'
      refine wpOp_of_qOp (C := ph none) (K := fun b => b = a.put oi.dst v) hp (fun a' w' hw' e => ?_) ((hy.yin none).qOp hoi rfl)
      rw [e]
      exact headP_any hsel hs hc hw hn hia hoa hda hga hdep hrun hL0 hL1 f _ _ w' (inv.set hi hin) hw' Hi

/-- what is left, in this order, but for what only hands values on -/
def idxB (md : Region.Mode) (ops : Array Oper) : List Nat → Array Bool → Bool
  | [], done => (Region.ready md ops done).isEmpty
  | k :: ks, done => (decide (Region.ready md ops done = [k]) || ((Region.ready md ops done).contains k && Region.free md ops done k && ((ops[k]?).map fun o => wless o.op && o.guard.isNone).getD false)) && idxB md ops ks (done.setIfInBounds k true)
theorem wpAny_idx {Q : Exit → Act → World → Prop} (hsel : Region.noSelect ops = true) (hQ : ∀ c a d v w, Q (.panic c) (Act.put a d v) w → Q (.panic c) a w) :
    ∀ (ks : List Nat) (l : List Oper) (done : Array Bool) (a : Act) (w : World), ks.map (fun k => ops[k]?) = l.map some → idxB md ops ks done = true → wpList P ops Q l a w → wpAny P md ops Q ks.length done a w
  | [], l, done, a, w, hl, hB, h => by
    have : l = [] := by simpa using hl.symm
    subst this
    exact ⟨by simpa [idxB] using hB, h⟩
  | k :: ks, [], done, a, w, hl, hB, h => by simp at hl
  | k :: ks, o :: l, done, a, w, hl, hB, h => by
    simp only [List.map_cons, List.cons.injEq] at hl
    obtain ⟨h0, hl'⟩ := hl
    simp only [idxB, Bool.and_eq_true, Bool.or_eq_true, decide_eq_true_eq] at hB
    obtain ⟨hB, hB'⟩ := hB
    have ih := fun a w => wpAny_idx hsel hQ ks l (done.setIfInBounds k true) a w hl' hB'
    rcases hB with hr | ⟨⟨hr, hf⟩, hwl⟩
    · refine ⟨fun h1 => (by rw [hr] at h1; cases h1), fun i hi => ?_⟩
      rw [hr] at hi
      obtain rfl : i = k := by simpa using hi
      have hw : wpOp P ops Q i (wpList P ops Q l) a w := by unfold wpOp; simp only [h0]; exact h
      exact wpOp_mono (fun a' w' h' => ih a' w' h') hw
    · rw [h0] at hwl
      simp only [Option.map_some, Option.getD_some, Bool.and_eq_true, Option.isNone_iff_eq_none] at hwl
      have hwt : Region.wanted o (yielded ops a.tmps) = true := by unfold Region.wanted; rw [hwl.2]
      unfold wpList at h
      rw [if_pos hwt] at h
      obtain ⟨v, hv, hK⟩ := wless_run hwl.1 h
      exact wpAny_take h0 hsel hf hr (fun c a w => hQ c a _ v w) (Or.inl ⟨hwt, hv⟩) (ih _ _ hK)

/-- what stands behind w; and a block g of these cells, made behind w -/
def Al (w : World) (cs : Array Value) : Option Nat → World → Prop
  | none => fun W => Below w.heap.size w W
  | some g => fun W => Below w.heap.size w W ∧ w.heap.size ≤ g ∧ g < W.heap.size ∧ (∀ i, W.cell? ⟨g, i, none⟩ = cs[i]?) ∧ ∀ i, W.frozen? ⟨g, i, none⟩ = false
theorem al_below {w : World} {cs : Array Value} {al : Option Nat} {W : World} (h : Al w cs al W) : Below w.heap.size w W := by
  cases al with
  | none => exact h
  | some g => exact h.1
theorem al_next {w : World} {cs : Array Value} {al : Option Nat} : ∀ v v' : World, Al w cs al v → Below v.heap.size v v' → Al w cs al v' := by
  intro v v' h hb
  cases al with
  | none => exact Below.trans h (hb.mono (Below.size h))
  | some g =>
    obtain ⟨h1, h2, h3, h4, h5⟩ := h
    exact ⟨h1.trans (hb.mono h1.size), h2, Nat.lt_of_lt_of_le h3 hb.size, fun i => (hb.cell (p := ⟨g, i, none⟩) h3).trans (h4 i), fun i => (hb.frozen (p := ⟨g, i, none⟩) h3).trans (h5 i)⟩
theorem wp_made {id : Nat} {Q : Exit → Act → World → Prop} {a : Act} {w : World} {l : List Oper} (n ia da : Nat) (cs : Array Value) (hm : P.follows .mixedOrders = true) (hB : headA .any l.toArray n ia = true) (hD : dstsB a.tmps.size (l.take n) = true)
    (hda : (l[ia]?).bind (·.dst) = some da)
    (hrun : ∀ oa, l[ia]? = some oa → ∀ (a : Act) (w : World), ∃ t, (execOp a.eval oa).run P w = .ok (.value (.pointer (some ⟨w.heap.size, 0, none⟩))) (w.alloc (.cells cs t)))
    (hk0 : idxB .any l.toArray ((List.range l.length).drop n) (fdone n l.length) = true) (hk1 : idxB .any l.toArray (((List.range l.length).drop n).eraseIdx (ia - n)) ((fdone n l.length).setIfInBounds ia true) = true)
    (hl0 : ((List.range l.length).drop n).map (fun k => l.toArray[k]?) = (l.drop n).map some) (hl1 : (((List.range l.length).drop n).eraseIdx (ia - n)).map (fun k => l.toArray[k]?) = ((l.drop n).eraseIdx (ia - n)).map some)
    (hQ : ∀ c a d v w, Q (.panic c) (Act.put a d v) w → Q (.panic c) a w)
    (h : ∃ a', (∀ al, Nonempty (Wd (Al w cs al)) → (∀ (t : Wd (Al w cs al)) (b o : Nat), b < w.heap.size → t.w.cell? ⟨b, o, none⟩ = w.cell? ⟨b, o, none⟩) →
        wpQuiet P l.toArray (fun w' => ∃ t : Wd (Al w cs al), w' = t.w) (fun b => b = a') (l.take n) a) ∧
      (∀ w', Below w.heap.size w w' → wpList P l.toArray Q (l.drop n) a' w') ∧
      ∀ g w', Below w.heap.size w w' → w.heap.size ≤ g → g < w'.heap.size → (∀ i, w'.cell? ⟨g, i, none⟩ = cs[i]?) → (∀ i, w'.frozen? ⟨g, i, none⟩ = false) → wpList P l.toArray Q ((l.drop n).eraseIdx (ia - n)) (a'.put (some da) (.pointer (some ⟨g, 0, none⟩))) w') :
    (Code.region id l.toArray true).wp P Q a w := by
  simp only [headA, Bool.and_eq_true, decide_eq_true_eq, Bool.not_eq_true'] at hB
  obtain ⟨⟨⟨⟨⟨⟨⟨hsel, hn⟩, hia⟩, hs⟩, hc⟩, hw⟩, hlex⟩, hoa⟩ := hB
  have hsz : l.toArray.size = l.length := by simp
  have hia' : ia < l.length := by rw [← hsz]; exact hia
  have hla : l.toArray[ia]? = l[ia]? := by simp
  cases hoe : l[ia]? with
  | none => rw [hla, hoe] at hoa; cases hoa
  | some oa =>
    rw [hla, hoe] at hoa
    simp only [Bool.and_eq_true, Option.isNone_iff_eq_none] at hoa
    rw [hoe] at hda
    obtain ⟨a', h1, h2, h3⟩ := h
    have htl : (l.take n).length = n := by simp; omega
    have inv0 : HeadInv .any l.toArray n (fdone 0 l.toArray.size) := by
      rw [fdone_zero]
      exact ⟨by simp, fun j oj _ hl => (by rw [getD_replicate_false] at hl; cases hl), fun t _ ht => getD_in (by simpa using ht) (getD_replicate_false _ _)⟩
    have hready : ∀ k, k < n → (Region.ready .any l.toArray (fdone k l.toArray.size)).contains k = true ∧ Region.free .any l.toArray (fdone k l.toArray.size) k = true := fun k hk => by
      have := List.all_eq_true.1 hlex k (List.mem_range.2 hk)
      simpa only [Bool.and_eq_true] using this
    have hlexA : lexAll P l.toArray (fun al w' => ∃ t : Wd (Al w cs al), w' = t.w) (fun b => b = a') (l.take n) a :=
      lexAll_of (ph := fun al w' => ∃ t : Wd (Al w cs al), w' = t.w) ⟨w, ⟨w, Below.refl _ _⟩, rfl⟩ (l.take n) a hD fun al ⟨_, t, _⟩ => h1 al ⟨t⟩ fun t b o hb => (al_below t.h).cell (p := ⟨b, o, none⟩) hb
    have H := headP_lex (md := .any) hsel hs hc hw hn hia hready (l.take n) 0 a (fun j hj => by
      have hj' : j < n := by rw [htl] at hj; exact hj
      simp [hj']) (by simpa using htl) inv0 hlexA
    have hlen0 : ((List.range l.length).drop n).length = l.length - n - 1 + 1 := by simp; omega
    have hlen1 : (((List.range l.length).drop n).eraseIdx (ia - n)).length = l.length - n - 1 := by
      rw [List.length_eraseIdx]; simp; omega
    refine wp_region_any hm ?_
    have := headP_any (Q := Q) (g1 := l.length - n - 1) (Region.noSelect_spec hsel) hs hc hw hn hia (hla.trans hoe) hda hoa.1 (fun j oj hj hoj => by
        refine ⟨fun e he hb heq => ?_, ?_⟩
        · have hr : j ∈ Region.ready .any l.toArray (fdone j l.toArray.size) := by simpa using (hready j hj).1
          obtain ⟨_, o', ho', hall⟩ := mem_ready.1 hr
          obtain rfl : o' = oj := Option.some.inj (ho'.symm.trans hoj)
          have h5 := hall e he hb
          rw [heq] at h5
          have : (fdone j l.toArray.size).getD ia false = false := by
            simp [fdone, List.getElem?_append, show ¬ ia < j by omega, List.getElem?_replicate]
            split <;> rfl
          rw [this] at h5; cases h5
        · have := List.all_eq_true.1 hoa.2 j (List.mem_range.2 hj)
          rw [hoj] at this
          exact this)
      (fun b W hW => by
        obtain ⟨t, rfl⟩ := hW
        obtain ⟨ty, hr⟩ := hrun oa hoe b t.w
        refine ⟨_, _, hr, ⟨⟨_, ?_⟩, rfl⟩⟩
        have hb : Below w.heap.size w t.w := t.h
        exact ⟨hb.alloc hb.size _, hb.size, by simp, fun i => World.cell?_alloc_new _ _ _ _, fun i => by simp [go_sem]⟩)
      (fun done b W hW hL => by
        obtain ⟨t, rfl⟩ := hW
        rw [hL.1, hL.2, hsz]
        have := wpAny_idx (P := P) (md := .any) (Q := Q) hsel hQ ((List.range l.length).drop n) (l.drop n) (fdone n l.length) a' t.w hl0 hk0 (h2 t.w t.h)
        rw [hlen0] at this
        exact this)
      (fun g done b W hW hL => by
        obtain ⟨t, rfl⟩ := hW
        rw [hL.1, hL.2, hsz]
        obtain ⟨q1, q2, q3, q4, q5⟩ := t.h
        have := wpAny_idx (P := P) (md := .any) (Q := Q) hsel hQ (((List.range l.length).drop n).eraseIdx (ia - n)) ((l.drop n).eraseIdx (ia - n)) ((fdone n l.length).setIfInBounds ia true) _ t.w hl1 hk1 (h3 g t.w q1 q2 q3 q4 q5)
        rw [hlen1] at this
        exact this)
      _ _ _ w.drew inv0 ⟨⟨w.drew, (Below.refl _ _).drew⟩, rfl⟩ H
    rw [htl, show n + (l.length - n - 1 + 1) = l.toArray.size by rw [hsz]; omega, fdone_zero] at this
    exact this
end
end Go.Proofs.YthcndcanahhbcaaDoor
