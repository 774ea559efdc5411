/-
  Texts that the proof leans on, joined: Ce, Cw, Lai, Lift, Lfw, Lfd.
-/
import Derived.Test.YtkefmapcaggefaaGreatDoorJ30
import Derived.Test.YtkefmapcaggefaaGreatDoorJ23
import Derived.Test.YtkefmapcaggefaaGreatDoorJ31
import Derived.Test.YtkefmapcaggefaaGreatDoorJ27
import Derived.Test.YtkefmapcaggefaaGreatDoorJ1
import Derived.Test.YtkefmapcaggefaaGreatDoorJ13
import Derived.Lib.SmallJoins
import Derived.ProofKit
import Derived.OpenShut
import Derived.Carry
import Derived.Deep.DeepHandedRow
import Derived.Test.YtkefmapcaggefaaGreatDoorJ2
import Derived.Test.YtkefmapcaggefaaGreatDoorJ18
set_option linter.unusedVariables false
set_option linter.unusedSectionVars false
set_option linter.unusedSimpArgs false
set_option maxRecDepth 20000
namespace Go.Proofs.YtkefmapcaggefaaGreatDoor
open Go.RowKit
attribute [local irreducible] W4 NT NV

theorem cvx_bd {m : Int} {B : Nat} (h : goodN m B) : -17000 ≤ (unD m B).x ∧ (unD m B).x ≤ 17000 := by
  have hi := und_is h
  have hl : -17000 ≤ leastN m ∧ mostN m ≤ 17000 := by rcases bin_cases h.1 with rfl | rfl | rfl | rfl | rfl | rfl <;> decide
  rcases hi with ⟨h1, h2, h3, h4, h5, h6⟩ | ⟨h1, h2, h3, h4⟩ | ⟨h1, h2, h3, h4⟩ <;> omega
theorem into_v {t d : Int} (hb : binN t) (hd : knB d) {m : Int} {B : Nat} (hg : goodN m B) (w : World) :
    Calls Tryz.prog 17 #[.int .i64 t, .int .i64 d, (unD m B).v, .int .u64 2] w fun r w' => r = .returned (.tuple #[A4 (cvV t d (unD m B)), .int .i64 (cvF t d (unD m B)), .int .i64 0]) ∧ Below w.heap.size w w' := by
  have hi := und_is hg
  have hx := cvx_bd hg
  have hk := unD_k m B
  generalize unD m B = D at *
  obtain ⟨c, s, g, x, k⟩ := D
  dsimp only at hx hk
  show Calls Tryz.prog 17 #[.int .i64 t, .int .i64 d, DV c s g x k, .int .u64 2] w _
  rcases hi with ⟨h1, h2, h3, h4, h5, h6⟩ | ⟨h1, h2, h3, h4⟩ | ⟨h1, h2, h3, h4⟩
  · dsimp only at h1 h2
    subst h1
    have hV : cvV t d ⟨1, s, g, x, k⟩ = rdV t d s k 1 x := rfl
    have hF : cvF t d ⟨1, s, g, x, k⟩ = rdF t d s k 1 x := rfl
    rw [hV, hF]
    by_cases h0 : k = 0
    · subst h0
      refine into_0 t d 1 x s g 0 w rfl _ _ (fun W => ?_) (fun W vn vd hn hd' => ?_)
      · refine (rnat_v 0 W (by decide)).mono ?_
        rintro r w' ⟨v, rfl, hv, hb'⟩
        obtain ⟨gv, kv, cv, rfl, _, hz⟩ := hv.zero
        have : kv = 0 := hz.2 rfl
        subst this
        exact ⟨gv, cv, rfl, hv, hb'⟩
      · have h := round_v t d 0 s (hn.more (K' := 2001) (by decide)) (hd'.more (K' := 2001) (by decide)) hb hd (by decide) (by decide) (by decide)
        obtain ⟨e1, e2⟩ := do_eq d s 0 (D := 1) 0 hb (by decide) (by decide) (by decide)
        rw [e1, e2, (r_zero d s 1 0 hb).1, (r_zero d s 1 0 hb).2, ← (r_zero d s 1 x hb).1] at h
        rw [(r_zero d s 1 x hb).2]
        exact h
    · have hbk : bl k ≤ 256 := bl_le.2 hk
      refine into_1 t d 1 x s g k w rfl _ (k * 2 ^ x.toNat) (1 * 2 ^ (-x).toNat) _ (fun W => ?_) (fun W vn vd hn hd' => rscale2 x hx (hn.more (by decide)) hd' (by omega) (by decide)) (fun W vn vd hn hd' => ?_)
      · refine (rnat_v k W hk).mono ?_
        rintro r w' ⟨v, rfl, hv, hb'⟩
        obtain ⟨gv, kv, cv, rfl, _, hz⟩ := hv.zero
        have : kv ≠ 0 := fun e => h0 (hz.1 e)
        exact ⟨gv, kv, cv, rfl, by omega, hv, hb'⟩
      · have b0 : ∀ M, 256 + x.toNat ≤ M → bl (k * 2 ^ x.toNat) ≤ M := fun M hM => bl_le.2 (by
          have h1 : k * 2 ^ x.toNat < 2 ^ 256 * 2 ^ x.toNat := Nat.mul_lt_mul_of_pos_right hk (Nat.two_pow_pos _)
          rw [← Nat.pow_add] at h1
          exact Nat.lt_of_lt_of_le h1 (Nat.pow_le_pow_right (by decide) hM))
        have b1 : bl (k * 2 ^ x.toNat) ≤ 120000 := b0 _ (by omega)
        have b3 : ∀ M, (-x).toNat < M → bl (1 * 2 ^ (-x).toNat) ≤ M := fun M hM => bl_le.2 (by
          rw [Nat.one_mul]
          exact Nat.pow_lt_pow_right (by decide) hM)
        have b2 : bl (1 * 2 ^ (-x).toNat) ≤ 120000 := b3 _ (by omega)
        have hD0 : 1 * 2 ^ (-x).toNat ≠ 0 := by
          rw [Nat.one_mul]
          exact Nat.pos_iff_ne_zero.1 (Nat.two_pow_pos _)
        have h := round_v t d 0 s (hn.more (K' := 2001) (by decide)) (hd'.more (K' := 2001) (by decide)) hb hd hD0 b1 b2
        obtain ⟨e1, e2⟩ := do_eq d s (k * 2 ^ x.toNat) 0 hb hD0 b1 b2
        obtain ⟨s1, s2⟩ := rd_shift t d s k (D := 1) (by decide) x.toNat (-x).toNat 0
        rw [show (0 : Int) + ((x.toNat : Int) - ((-x).toNat : Int)) = x by omega] at s1 s2
        rw [e1, e2, s1, s2] at h
        exact h
  · dsimp only at h1 h2 h3 h4
    subst h1 h2 h3 h4
    have c53 := fun W => rpack_any t ⟨2, s, false, 0, 0⟩ W (show 0 < 2 ^ 256 by decide)
    rw [show (Dat.v ⟨2, s, false, 0, 0⟩) = _ from DV_zero 2 s false 0] at c53
    exact into_2 t d 2 0 s false 0 w rfl _ _ c53
  · dsimp only at h1 h2 h3 h4
    subst h1 h2
    have hk' : (if k < 2 ^ (fN t - 1) then k else 0) < 2 ^ 256 := by split <;> omega
    exact into_3 t d 3 0 s g k w rfl _ _ _ _ (fun W => rnan_v hb 3 0 s g k hk W) (fun W => rpack_any t ⟨3, s, false, 0, if k < 2 ^ (fN t - 1) then k else 0⟩ W hk')
theorem rconv_v (m t d : Int) (B : Nat) (w : World) (hB : B < 2 ^ 256) :
    Calls Tryz.prog 6 #[.int .i64 m, .int .i64 t, .int .i64 d, A4 B] w fun r w' => r = .returned (.tuple #[A4 (cnV m t d B), .int .i64 (cnF m t d B), .int .i64 (cnE m t d B)]) ∧ Below w.heap.size w w' := by
  have c8 := fun W => rgood_any m B hB W
  have c14 : ∀ W, Calls Tryz.prog 14 #[.int .i64 t] W fun r w' => r = .returned (.bool (decide (binN t))) ∧ W = w' := fun W => (rbinary_any t W).mono fun r w' h => ⟨h.1, h.2.symm⟩
  have c10 := fun W => rdir_any d W
  unfold cnV cnF cnE
  by_cases h : cnG m t d B
  · rw [if_pos h, if_pos h, if_pos h]
    obtain ⟨h1, h2, h3⟩ := h
    rw [decide_eq_true h1] at c8
    rw [decide_eq_true h2] at c14
    rw [decide_eq_true h3] at c10
    have c40 := fun W => runpack_any m B W hB
    rw [show unE m B = 0 from if_pos h1] at c40
    exact rcv_y m t d B w _ _ _ _ _ _ _ c8 c14 c10 c40 (fun W => into_v h2 h3 h1 W)
  · rw [if_neg h, if_neg h, if_neg h]
    refine rcv_n m t d B w _ _ _ ?_ c8 c14 c10
    by_cases a1 : goodN m B
    · by_cases a2 : binN t
      · have a3 : ¬ knB d := fun a3 => h ⟨a1, a2, a3⟩
        rw [decide_eq_false a3, Bool.and_false]
      · rw [decide_eq_false a2, Bool.and_false, Bool.false_and]
    · rw [decide_eq_false a1, Bool.false_and, Bool.false_and]
end Go.Proofs.YtkefmapcaggefaaGreatDoor

namespace Go.Proofs.YtkefmapcaggefaaGreatDoor
open Go.RowKit
attribute [local irreducible] W4

section
variable (m t d : Int) (B : Nat) (w : World) (hT : Tab w)
  (c7 : ∀ W, Below w.heap.size w W → Calls Tryz.prog 4 #[] W fun r w' => r = .returned (.bool true) ∧ Below W.heap.size W w')
include hT c7
set_option maxHeartbeats 2000000 in
theorem converts_k (V : Nat) (F E : Int)
    (c12 : ∀ W, Tab W → Calls Tryz.prog 5 #[.int .i64 m, .int .i64 t, .int .i64 d, A4 B] W fun r w' => r = .returned (.tuple #[A4 V, .int .i64 F, .int .i64 E]) ∧ Below W.heap.size W w')
    (c25 : ∀ W, Calls Tryz.prog 6 #[.int .i64 m, .int .i64 t, .int .i64 d, A4 B] W fun r w' => r = .returned (.tuple #[A4 V, .int .i64 F, .int .i64 E]) ∧ Below W.heap.size W w') :
    Calls Tryz.prog 3 #[.int .i64 m, .int .i64 t, .int .i64 d, A4 B] w fun r w' => r = .returned (.bool true) ∧ Below w.heap.size w w' := by
  have hQ := A4_self V
  go_enter Tryz.func3, Tryz.ntmps3
  go_wp2_with (first
    | (go_at_call 4; refine (c7 _ bgo).mono ?_; rintro r w1 ⟨rfl, hb1⟩; obtain ⟨hc1, hf1⟩ := bcell hb1; have hz1_0 : w.heap.size < w1.heap.size := lt_below hb1 ltg; have hl1_0 := Nat.le_of_lt hz1_0; have hA1 := bnext (w0 := w) bgo hb1; have hs1 := hA1.size; clear hb1)
    | (go_at_call 5; refine (c12 _ (hT.go bgo)).mono ?_; rintro r w2 ⟨rfl, hb2⟩; obtain ⟨hc2, hf2⟩ := bcell hb2; have hz2_0 : w.heap.size < w2.heap.size := lt_below hb2 ltg; have hl2_0 := Nat.le_of_lt hz2_0; have hA2 := bnext (w0 := w) bgo hb2; have hs2 := hA2.size; clear hb2)
    | (go_at_call 6; refine (c25 _).mono ?_; rintro r w3 ⟨rfl, hb3⟩; obtain ⟨hc3, hf3⟩ := bcell hb3; have hz3_0 : w.heap.size < w3.heap.size := lt_below hb3 ltg; have hl3_0 := Nat.le_of_lt hz3_0; have hz3_1 : w2.heap.size < w3.heap.size := lt_below hb3 ltg; have hl3_1 := Nat.le_of_lt hz3_1; have hA3 := bnext (w0 := w) bgo hb3; have hs3 := hA3.size; clear hb3))
  go_ret
  exact ⟨by first | rfl | simp, bgo⟩
end
theorem binconvConverts_any (m t d : Int) (B : Nat) (w : World) (hT : Tab w) (hB : B < 2 ^ 256) : Calls Tryz.prog 3 #[.int .i64 m, .int .i64 t, .int .i64 d, A4 B] w fun r w' => r = .returned (.bool true) ∧ Below w.heap.size w w' :=
  converts_k m t d B w hT (fun W hW => awake12 W (hT.go hW)) _ _ _ (fun W h => conv_v m t d B W h hB) (fun W => rconv_v m t d B W hB)
end Go.Proofs.YtkefmapcaggefaaGreatDoor

namespace Go.Proofs.YtkefmapcaggefaaGreatDoor
open Go.RowKit

section
variable {H : Type} {enc : TypeId × Value → H} {W : World} {base : Nat} {sp : Nat → Bool} {held : Bool}
theorem u59 : ∃ a b c d, Tryz.prog.underlying 57 = some (.struct #[a, b, c, d]) ∧ a.offset = 0 ∧ b.offset = 1 ∧ c.offset = 2 ∧ d.offset = 3 ∧ a.type = 9 ∧ b.type = 3 ∧ c.type = 3 ∧ d.type = 3 :=
  ⟨_, _, _, _, Tryz.underlying57, rfl, rfl, rfl, rfl, rfl, rfl, rfl, rfl⟩
theorem c9 : Tryz.prog.cellsOf 9 = 1 := by kernel_rfl
theorem c3 : Tryz.prog.cellsOf 3 = 1 := by kernel_rfl
theorem c59 : Tryz.prog.cellsOf 57 = 4 := by kernel_rfl
theorem c60 : Tryz.prog.cellsOf 58 = 48 := by kernel_rfl
theorem u60 : Tryz.prog.underlying 58 = some (.array 12 57) := by kernel_rfl
theorem row_cells {fuel : Nat} {cs : List Value} {nm : List UInt8} {a b c : Int} {p : DataW H × List MemPlace} (hp : p.1 = .agg [.lit (.string nm), .lit (.int .i64 a), .lit (.int .i64 b), .lit (.int .i64 c)])
    (h : DataW.trod enc Tryz.prog W base sp held fuel 57 cs = some p) : cs = [.string ⟨nm.toArray⟩, .int .i64 a, .int .i64 b, .int .i64 c] := by
  obtain ⟨f0, f1, f2, f3, hu, o0, o1, o2, o3, t0, t1, t2, t3⟩ := u59
  obtain ⟨y0, y1, y2, y3, n, rfl, hl, h0, h1, h2, h3⟩ := Joins.trod_struct4 hu h
  rw [o0, t0, c9] at h0
  rw [o1, t1, c3] at h1
  rw [o2, t2, c3] at h2
  rw [o3, t3, c3] at h3
  obtain ⟨s, hs, rfl, _⟩ := DataW.trod_string Tryz.underlying9 h0
  obtain ⟨z1, hz1, rfl, _⟩ := DataW.trod_int Tryz.underlying3 h1
  obtain ⟨z2, hz2, rfl, _⟩ := DataW.trod_int Tryz.underlying3 h2
  obtain ⟨z3, hz3, rfl, _⟩ := DataW.trod_int Tryz.underlying3 h3
  simp only [DataW.agg.injEq, List.cons.injEq, DataW.lit.injEq, Lit.string.injEq, Lit.int.injEq, true_and, and_true] at hp
  obtain ⟨rfl, rfl, rfl, rfl⟩ := hp
  rw [c59] at hl
  match cs, hl with
  | [v0, v1, v2, v3], _ =>
    simp at hs hz1 hz2 hz3
    subst hs hz1 hz2 hz3
    rfl
theorem row_at {cs : List Value} {i : Nat} {v0 v1 v2 v3 : Value} (h : (cs.drop (i * 4)).take 4 = [v0, v1, v2, v3]) : cs[i * 4]? = some v0 ∧ cs[i * 4 + 1]? = some v1 ∧ cs[i * 4 + 2]? = some v2 ∧ cs[i * 4 + 3]? = some v3 := by
  have g : ∀ k, k < 4 → cs[i * 4 + k]? = [v0, v1, v2, v3][k]? := fun k hk => by
    rw [← h, List.getElem?_take_of_lt hk, List.getElem?_drop]
  exact ⟨g 0 (by decide), g 1 (by decide), g 2 (by decide), g 3 (by decide)⟩
theorem tab_of_trod {fuel : Nat} {cs : List Value} {p : List MemPlace} (h : DataW.trod enc Tryz.prog W base sp held fuel 58 cs = some (Rows.laid_caliper_desc_rows, p)) :
    ∀ i k, i < 12 → k < 4 → cs[i * 4 + k]? = some (rowV i k) := by
  cases fuel with
  | zero => simp [DataW.trod] at h
  | succ fuel =>
    simp only [DataW.trod, u60, c59, c60] at h
    split at h
    · rename_i hl
      obtain ⟨xs, hm, hx⟩ := Option.map_eq_some_iff.1 h
      have hxs := congrArg Prod.fst hx
      simp only [Rows.laid_caliper_desc_rows, DataW.agg.injEq] at hxs
      intro i k hi hk
      obtain ⟨b, hb, hf⟩ := Lib.mapM_at hm i i (by simp [hi])
      have hd : (xs.map (·.1))[i]? = some b.1 := by simp [hb]
      rw [hxs] at hd
      have key : ∀ (nm : List UInt8) (x y z : Int), b.1 = .agg [.lit (.string nm), .lit (.int .i64 x), .lit (.int .i64 y), .lit (.int .i64 z)] → cs[i * 4]? = some (.string ⟨nm.toArray⟩) ∧ cs[i * 4 + 1]? = some (.int .i64 x) ∧ cs[i * 4 + 2]? = some (.int .i64 y) ∧ cs[i * 4 + 3]? = some (.int .i64 z) :=
        fun nm x y z e => row_at (row_cells e hf)
      have hk' : k = 0 ∨ k = 1 ∨ k = 2 ∨ k = 3 := by omega
      have hi' : i = 0 ∨ i = 1 ∨ i = 2 ∨ i = 3 ∨ i = 4 ∨ i = 5 ∨ i = 6 ∨ i = 7 ∨ i = 8 ∨ i = 9 ∨ i = 10 ∨ i = 11 := by omega
      rcases hi' with rfl | rfl | rfl | rfl | rfl | rfl | rfl | rfl | rfl | rfl | rfl | rfl
      all_goals
        obtain ⟨q0, q1, q2, q3⟩ := key _ _ _ _ (Option.some.inj hd).symm
        rcases hk' with rfl | rfl | rfl | rfl
        · exact q0
        · exact q1
        · exact q2
        · exact q3
    · cases h
end
theorem tab_of_laid {W : World} {rest : List (String × DataW Unit)} (h : laidMet Tryz.prog (("caliper/desc.rows", Rows.laid_caliper_desc_rows) :: rest) W) : Tab W := by
  obtain ⟨ps, ⟨g', t', cs, fuel, p, q, hg', ht', hvar, hd, _, _⟩, _⟩ := h
  have hg : Tryz.prog.globalNamed "caliper/desc.rows" = some 0 := by kernel_rfl
  have hty : (Tryz.prog.globals[0]?).map (·.type) = some 58 := by kernel_rfl
  obtain rfl := Option.some.inj (hg.symm.trans hg')
  obtain rfl := Option.some.inj (hty.symm.trans ht')
  have hc := tab_of_trod hd
  have hcell : ∀ i k, i < 12 → k < 4 → W.cell? ⟨0, i * 4 + k, none⟩ = some (rowV i k) := fun i k hi hk => by
    have := World.var?_cell hg hvar (i * 4 + k)
    rw [this, ← hc i k hi hk]
    simp
  refine ⟨?_, hcell⟩
  have h0 := hcell 0 0 (by decide) (by decide)
  by_cases hz : 0 < W.heap.size
  · exact hz
  · have : W.heap[0]? = none := Array.getElem?_eq_none (by omega)
    simp [World.cell?, this] at h0
end Go.Proofs.YtkefmapcaggefaaGreatDoor

namespace Go.Proofs.YtkefmapcaggefaaGreatDoor
open Go.ChangeShapes Go.WideShapes Go.ChangeAt Go.RowKit

theorem Tryz.own : ownKnob Tryz.prog.godebug = none := by kernel_rfl
theorem Tryz.laidOut : laidOutB Tryz.prog = true := by kernel_rfl
def tabCells : Array Value := ((List.range 12).flatMap fun i => (List.range 4).map fun k => rowV i k).toArray
def layCells (c : Array Value) : Obj → Obj
  | .cells _ t frozen => .cells c t frozen
  | o => o
noncomputable def laidWorld (os : Os) : World :=
  { World.holding Tryz.prog os ⟨#[], #[], []⟩ with heap := (World.holding Tryz.prog os ⟨#[], #[], []⟩).heap.modify 0 (layCells tabCells) }
end Go.Proofs.YtkefmapcaggefaaGreatDoor

set_option maxRecDepth 100000
set_option maxRecDepth 20000
namespace Go.Proofs.YtkefmapcaggefaaGreatDoor
open Go.ChangeShapes Go.WideShapes Go.ChangeAt Go.RowKit

theorem Tryz.cells22 : Tryz.prog.cellsOf 22 = 1 := by kernel_rfl
section
variable {H : Type} {enc : TypeId × Value → H} {W : World} {r : Reach} {base b : Nat} {sp : Nat → Bool} {held : Bool} {t : TypeId} {n : Nat} {v : Value} {d : DataW H} {p : List MemPlace}
theorem open_words (ht : Tryz.prog.underlying t = some (.array n 22)) (hc : Tryz.prog.cellsOf t = n) (hok : Value.okWide Tryz.prog W r base t v) (h : DataW.Trod enc Tryz.prog W b sp held t v d p) :
    ∃ x, Words x ∧ v = .agg (arrOf x n) ∧ p = [] := by
  have ho : ∃ cs, v = .agg cs ∧ cs.size = n := by
    simp only [Value.okWide, ht] at hok
    obtain ⟨cs, h1, h2, _⟩ := hok
    exact ⟨cs, h1, by rw [h2, hc]⟩
  obtain ⟨cs, rfl, hcs⟩ := ho
  obtain ⟨fuel, hf⟩ := h
  obtain ⟨xs, m, rfl, hx, hl, hlen, hi⟩ := DataW.trod_array ht hf
  have hcell : ∀ i, i < n → ∃ z, cs[i]? = some (.int .u64 z) ∧ xs[i]? = some (.lit (.int .u64 z), []) ∧ (0 ≤ z ∧ z ≤ 18446744073709551615) := by
    intro i hin
    have h1 := hi i hin
    rw [Tryz.cells22] at h1
    have hix : i < xs.length := by omega
    rw [List.getElem?_eq_getElem hix] at h1
    obtain ⟨z, hz, hxz, hw⟩ := DataW.trod_int Tryz.underlying22 h1
    refine ⟨z, ?_, ?_, bounds_u64 hw⟩
    · have hic : i < cs.size := by omega
      have : ((Value.agg cs).cells.toList.drop (i * 1)).take 1 = [cs[i]] := by
        simp [Value.cells, List.take_one, List.head?_drop, hic]
      rw [this] at hz
      rw [Array.getElem?_eq_getElem hic]
      simpa using hz
    · rw [List.getElem?_eq_getElem hix, hxz]
  refine ⟨fun i => match cs[i]? with | some (.int .u64 z) => (if i < n then z else 0) | _ => 0, ?_, ?_, ?_⟩
  · intro i
    by_cases hin : i < n
    · obtain ⟨z, h1, _, h3⟩ := hcell i hin
      simp only [h1, if_pos hin]; exact h3
    · have : cs[i]? = none := by simp; omega
      simp only [this]; omega
  · congr 1
    refine arrOf_of cs n _ hcs fun i hin => ?_
    obtain ⟨z, h1, _, _⟩ := hcell i hin
    simp only [h1, if_pos hin]
  · have : p = xs.flatMap (·.2) := by
      have := congrArg Prod.snd hx; simpa using this
    rw [this]
    simp only [List.flatMap_eq_nil_iff]
    intro y hy
    obtain ⟨i, hin, rfl⟩ := List.getElem_of_mem hy
    obtain ⟨z, _, h2, _⟩ := hcell i (by omega)
    rw [List.getElem?_eq_getElem hin] at h2
    rw [Option.some.inj h2]
end
end Go.Proofs.YtkefmapcaggefaaGreatDoor

set_option maxRecDepth 100000
namespace Go.Proofs.YtkefmapcaggefaaGreatDoor
open Go.ChangeShapes Go.WideShapes Go.ChangeAt Go.RowKit

section
variable {H : Type} {enc : TypeId × Value → H} {W : World} {r : Reach} {base b : Nat} {sp : Nat → Bool} {held : Bool} {t : TypeId} {n : Nat} {v : Value} {d : DataW H} {p : List MemPlace}
theorem open_bits (hok : Value.okWide Tryz.prog W r base 24 v) (h : DataW.Trod enc Tryz.prog W b sp held 24 v d p) : ∃ A, A < 2 ^ 256 ∧ v = A4 A ∧ p = [] := by
  obtain ⟨x, hx, rfl, hp⟩ := open_words Tryz.underlying24 (by kernel_rfl) hok h
  obtain ⟨A, hA, he, _⟩ := words_A4 hx
  exact ⟨A, hA, he, hp⟩
theorem bits_stay {W' : World} {sp' : Nat → Bool} (h : DataW.Trod enc Tryz.prog W 0 (fun _ => true) true 24 v d []) : DataW.Trod enc Tryz.prog W' 0 sp' true 24 v d [] :=
  WideElems.Trod_stays Tryz.laidOut (by kernel_rfl) (of_decide_eq_true (by kernel_rfl)) h (by simp) (by simp)
end
end Go.Proofs.YtkefmapcaggefaaGreatDoor
