/-
  Texts that the proof leans on, joined: Ym, Lai, Lift, Lfw, Lfn.
-/
import Derived.Test.YtpfnfaekgaipjaaDoorJ19
import Derived.Test.YtpfnfaekgaipjaaDoorJ8
import Derived.Lib.SmallJoins
import Derived.ProofKit
import Derived.OpenShut
import Derived.Carry
import Derived.Deep.DeepHandedRow
import Derived.Test.YtpfnfaekgaipjaaDoorJ2
import Derived.Test.YtpfnfaekgaipjaaDoorJ12
set_option linter.unusedVariables false
set_option linter.unusedSectionVars false
set_option linter.unusedSimpArgs false
set_option maxRecDepth 20000
namespace Go.Proofs.YtpfnfaekgaipjaaDoor
open Go.RowKit

theorem sm_none {F : Nat → Int} (h : ∀ i, F i = 0) : smF F 5 = 0 := by
  unfold smF smF smF smF smF smF
  simp [h]
theorem tdiv_one {x : Int} (h : x = 8 ∨ x = 10 ∨ x = 12) : x.tdiv 8 = 1 := by
  rcases h with rfl | rfl | rfl <;> rfl
theorem sm_all {F : Nat → Int} (h : ∀ i, F i = 8 ∨ F i = 10 ∨ F i = 12) : smF F 5 = 5 := by
  unfold smF smF smF smF smF smF
  rw [tdiv_one (h 0), tdiv_one (h 1), tdiv_one (h 2), tdiv_one (h 3), tdiv_one (h 4)]
  rfl
theorem rd_256 (n d : Int) (s : Bool) (N : Nat) {D : Nat} (x : Int) (hb : binN n) (hD : D ≠ 0) : rdV n d s N D x < 2 ^ 256 := by
  have hF := bin_fm hb
  have h1 : fN n + eN n + 1 ≤ 256 := by have := hF.fe; omega
  have h2 : rdV n d s N D x < 2 ^ (fN n + eN n + 1) := by
    have ht := tp_lt hb
    have e : (2 : Nat) ^ (fN n + eN n + 1) = 2 ^ (fN n + eN n) + 2 ^ (fN n + eN n) := by rw [Nat.pow_succ]; omega
    have hs : sgN n s ≤ 2 ^ (fN n + eN n) := by unfold sgN; split <;> omega
    by_cases hN : N = 0
    · subst hN
      rw [(r_zero d s D x hb).1, e]
      have := Nat.two_pow_pos (fN n + eN n)
      omega
    · rw [r_pat d s x hb hN hD, e]
      have := cap_le (tpN n) (inB d s) (rP n d s N D x)
      omega
  exact Nat.lt_of_lt_of_le h2 (Nat.pow_le_pow_right (by decide) h1)
/-- RoundSides -/
theorem roundSides_any (n : Int) (s : Bool) (a : Option Addr) (k c : Nat) (z : Nat → Int) (a' : Option Addr) (k' c' : Nat) (z' : Nat → Int) (x : Int) (w : World) (hT : Tab w) (h : Num w a k c z) (h' : Num w a' k' c' z') :
    Calls Tryd.prog 3 #[.int .i64 n, .bool s, .slice a k c, .slice a' k' c', .int .i64 x] w fun r w' => r = .returned (.bool true) ∧ Below w.heap.size w w' := by
  have m1 := h.2.1
  have m2 := h'.2.1
  unfold maxLen at m1 m2
  have hk : k ≤ c ∧ (c : Int) ≤ 9223372036854775807 := ⟨h.1, by omega⟩
  have hk' : k' ≤ c' ∧ (c' : Int) ≤ 9223372036854775807 := ⟨h'.1, by omega⟩
  by_cases h1 : (100 : Int) < k
  · exact sd_l1 n x s a a' k c k' c' w hT hk hk' h1
  have h1' : (k : Int) ≤ 100 := by omega
  by_cases h2 : (100 : Int) < k'
  · exact sd_l2 n x s a a' k c k' c' w hT hk hk' h1' h2
  have h2' : (k' : Int) ≤ 100 := by omega
  by_cases hb : binN n
  · have c5 : ∀ W, Calls Tryd.prog 5 #[.int .i64 n] W fun r w' => r = .returned (.bool true) ∧ W = w' := fun W => by
      have := rbinary_any n W
      rw [decide_eq_true hb] at this
      exact this.mono fun _ _ ⟨h1, h2⟩ => ⟨h1, h2.symm⟩
    have v0 := (val_bd h.2.2.1 k).1
    have v0' := (val_bd h'.2.2.1 k').1
    obtain ⟨N, hN⟩ : ∃ N : Nat, val z k = (N : Int) := ⟨(val z k).toNat, by omega⟩
    obtain ⟨D, hD⟩ : ∃ D : Nat, val z' k' = (D : Int) := ⟨(val z' k').toNat, by omega⟩
    have tN : Nt 100 N (.slice a k c) w := ⟨a, k, c, z, rfl, by omega, h, hN⟩
    have tD : Nt 100 D (.slice a' k' c') w := ⟨a', k', c', z', rfl, by omega, h', hD⟩
    obtain ⟨m, ⟨mk, m0, mb⟩, c6⟩ := rsize_nt (by decide) tD
    by_cases hD0 : D = 0
    · have em : m = 0 := m0.2 hD0
      subst em
      exact sd_z n x s a a' k c k' c' w hT hk hk' h1' h2' c5 (fun W hW => c6 W hW)
    · have hm : m ≠ 0 := fun e => hD0 (m0.1 e)
      have hbN : bl N ≤ 51200 := by
        have := (size_bl (m := 100) h.2.2.1 hN).1 (Nat.le_trans (sizeL_le z k) (by omega))
        omega
      have hbD : bl D ≤ 51200 := by
        have := (size_bl (m := 100) h'.2.2.1 hD).1 (Nat.le_trans (sizeL_le z' k') (by omega))
        omega
      have c7 : ∀ (i : Nat) W, i < 5 → Below w.heap.size w W → Calls Tryd.prog 7 #[.int .i64 n, .int .i64 (i : Int), .bool s, .slice a k c, .slice a' k' c', .int .i64 x] W fun r w' => r = .returned (.tuple #[A4 (rdV n i s N D x), .int .i64 (rdF n i s N D x), .int .i64 0]) ∧ Below W.heap.size W w' := fun i W hi hW =>
        rnd_good n i x s (hT.go hW) ((tN.next hW).more (by decide)) ((tD.next hW).more (by decide)) hb ⟨by omega, by omega⟩ hD0 hbN hbD
      have hF : ∀ i : Nat, 0 ≤ rdF n i s N D x ∧ rdF n i s N D x ≤ 100 := fun i => by
        rcases sides_ways s N x hb hD0 with hw | ⟨hw, _⟩
        · rw [(hw i).1]; decide
        · rcases hw i with e | e | e <;> rw [e] <;> decide
      have bR : ∀ i : Nat, rdV n i s N D x < 2 ^ 256 := fun i => rd_256 n i s N x hb hD0
      have hsz : ((m : Int) == 0) = false := by rw [beq_eq_false_iff_ne]; omega
      rcases sides_ways s N x hb hD0 with hw | ⟨hw, hH, e2, e0, e1⟩
      · have hall : ∀ i : Nat, i < 5 → rdV n i s N D x = rdV n 4 s N D x := fun i _ => (hw i).2
        have hs5 : smF (fun i : Nat => rdF n i s N D x) 5 = 0 := sm_none fun i => (hw i).1
        cases s with
        | false => exact sd_Af n x false a a' k c k' c' w hT hk hk' h1' h2' c5 m hsz c6 (fun i => rdV n i false N D x) (fun i => rdF n i false N D x) hF c7 rfl _ hall (bR 4) hs5
        | true => exact sd_At n x true a a' k c k' c' w hT hk hk' h1' h2' c5 m hsz c6 (fun i => rdV n i true N D x) (fun i => rdF n i true N D x) hF c7 rfl _ hall (bR 4) hs5
      · have hs5 : smF (fun i : Nat => rdF n i s N D x) 5 = 5 := sm_all fun i => hw i
        cases s with
        | false => exact sd_Bf n x false a a' k c k' c' w hT hk hk' h1' h2' c5 m hsz c6 (fun i => rdV n i false N D x) (fun i => rdF n i false N D x) hF c7 rfl bR hs5 hH e2 e0 e1
        | true => exact sd_Bt n x true a a' k c k' c' w hT hk hk' h1' h2' c5 m hsz c6 (fun i => rdV n i true N D x) (fun i => rdF n i true N D x) hF c7 rfl bR hs5 hH e2 e0 e1
  · refine sd_nb n x s a a' k c k' c' w hT hk hk' h1' h2' (fun W => ?_)
    have := rbinary_any n W
    rw [decide_eq_false hb] at this
    exact this.mono fun _ _ ⟨h1, h2⟩ => ⟨h1, h2.symm⟩
end Go.Proofs.YtpfnfaekgaipjaaDoor

namespace Go.Proofs.YtpfnfaekgaipjaaDoor
open Go.RowKit

section
variable {H : Type} {enc : TypeId × Value → H} {W : World} {base : Nat} {sp : Nat → Bool} {held : Bool}
theorem u59 : ∃ a b c d, Tryd.prog.underlying 67 = some (.struct #[a, b, c, d]) ∧ a.offset = 0 ∧ b.offset = 1 ∧ c.offset = 2 ∧ d.offset = 3 ∧ a.type = 9 ∧ b.type = 3 ∧ c.type = 3 ∧ d.type = 3 :=
  ⟨_, _, _, _, Tryd.underlying67, rfl, rfl, rfl, rfl, rfl, rfl, rfl, rfl⟩
theorem c9 : Tryd.prog.cellsOf 9 = 1 := by kernel_rfl
theorem c3 : Tryd.prog.cellsOf 3 = 1 := by kernel_rfl
theorem c59 : Tryd.prog.cellsOf 67 = 4 := by kernel_rfl
theorem c60 : Tryd.prog.cellsOf 68 = 48 := by kernel_rfl
theorem u60 : Tryd.prog.underlying 68 = some (.array 12 67) := by kernel_rfl
theorem row_cells {fuel : Nat} {cs : List Value} {nm : List UInt8} {a b c : Int} {p : DataW H × List MemPlace} (hp : p.1 = .agg [.lit (.string nm), .lit (.int .i64 a), .lit (.int .i64 b), .lit (.int .i64 c)])
    (h : DataW.trod enc Tryd.prog W base sp held fuel 67 cs = some p) : cs = [.string ⟨nm.toArray⟩, .int .i64 a, .int .i64 b, .int .i64 c] := by
  obtain ⟨f0, f1, f2, f3, hu, o0, o1, o2, o3, t0, t1, t2, t3⟩ := u59
  obtain ⟨y0, y1, y2, y3, n, rfl, hl, h0, h1, h2, h3⟩ := Joins.trod_struct4 hu h
  rw [o0, t0, c9] at h0
  rw [o1, t1, c3] at h1
  rw [o2, t2, c3] at h2
  rw [o3, t3, c3] at h3
  obtain ⟨s, hs, rfl, _⟩ := DataW.trod_string Tryd.underlying9 h0
  obtain ⟨z1, hz1, rfl, _⟩ := DataW.trod_int Tryd.underlying3 h1
  obtain ⟨z2, hz2, rfl, _⟩ := DataW.trod_int Tryd.underlying3 h2
  obtain ⟨z3, hz3, rfl, _⟩ := DataW.trod_int Tryd.underlying3 h3
  simp only [DataW.agg.injEq, List.cons.injEq, DataW.lit.injEq, Lit.string.injEq, Lit.int.injEq, true_and, and_true] at hp
  obtain ⟨rfl, rfl, rfl, rfl⟩ := hp
  rw [c59] at hl
  match cs, hl with
  | [v0, v1, v2, v3], _ =>
    simp at hs hz1 hz2 hz3
    subst hs hz1 hz2 hz3
    rfl
theorem row_at {cs : List Value} {i : Nat} {v0 v1 v2 v3 : Value} (h : (cs.drop (i * 4)).take 4 = [v0, v1, v2, v3]) : cs[i * 4]? = some v0 ∧ cs[i * 4 + 1]? = some v1 ∧ cs[i * 4 + 2]? = some v2 ∧ cs[i * 4 + 3]? = some v3 := by
  have g : ∀ k, k < 4 → cs[i * 4 + k]? = [v0, v1, v2, v3][k]? := fun k hk => by
    rw [← h, List.getElem?_take_of_lt hk, List.getElem?_drop]
  exact ⟨g 0 (by decide), g 1 (by decide), g 2 (by decide), g 3 (by decide)⟩
theorem tab_of_trod {fuel : Nat} {cs : List Value} {p : List MemPlace} (h : DataW.trod enc Tryd.prog W base sp held fuel 68 cs = some (Rows.laid_caliper_desc_rows, p)) :
    ∀ i k, i < 12 → k < 4 → cs[i * 4 + k]? = some (rowV i k) := by
  cases fuel with
  | zero => simp [DataW.trod] at h
  | succ fuel =>
    simp only [DataW.trod, u60, c59, c60] at h
    split at h
    · rename_i hl
      obtain ⟨xs, hm, hx⟩ := Option.map_eq_some_iff.1 h
      have hxs := congrArg Prod.fst hx
      simp only [Rows.laid_caliper_desc_rows, DataW.agg.injEq] at hxs
      intro i k hi hk
      obtain ⟨b, hb, hf⟩ := Lib.mapM_at hm i i (by simp [hi])
      have hd : (xs.map (·.1))[i]? = some b.1 := by simp [hb]
      rw [hxs] at hd
      have key : ∀ (nm : List UInt8) (x y z : Int), b.1 = .agg [.lit (.string nm), .lit (.int .i64 x), .lit (.int .i64 y), .lit (.int .i64 z)] → cs[i * 4]? = some (.string ⟨nm.toArray⟩) ∧ cs[i * 4 + 1]? = some (.int .i64 x) ∧ cs[i * 4 + 2]? = some (.int .i64 y) ∧ cs[i * 4 + 3]? = some (.int .i64 z) :=
        fun nm x y z e => row_at (row_cells e hf)
      have hk' : k = 0 ∨ k = 1 ∨ k = 2 ∨ k = 3 := by omega
      have hi' : i = 0 ∨ i = 1 ∨ i = 2 ∨ i = 3 ∨ i = 4 ∨ i = 5 ∨ i = 6 ∨ i = 7 ∨ i = 8 ∨ i = 9 ∨ i = 10 ∨ i = 11 := by omega
      rcases hi' with rfl | rfl | rfl | rfl | rfl | rfl | rfl | rfl | rfl | rfl | rfl | rfl
      all_goals
        obtain ⟨q0, q1, q2, q3⟩ := key _ _ _ _ (Option.some.inj hd).symm
        rcases hk' with rfl | rfl | rfl | rfl
        · exact q0
        · exact q1
        · exact q2
        · exact q3
    · cases h
end
theorem tab_of_laid {W : World} {rest : List (String × DataW Unit)} (h : laidMet Tryd.prog (("caliper/desc.rows", Rows.laid_caliper_desc_rows) :: rest) W) : Tab W := by
  obtain ⟨ps, ⟨g', t', cs, fuel, p, q, hg', ht', hvar, hd, _, _⟩, _⟩ := h
  have hg : Tryd.prog.globalNamed "caliper/desc.rows" = some 0 := by kernel_rfl
  have hty : (Tryd.prog.globals[0]?).map (·.type) = some 68 := by kernel_rfl
  obtain rfl := Option.some.inj (hg.symm.trans hg')
  obtain rfl := Option.some.inj (hty.symm.trans ht')
  have hc := tab_of_trod hd
  have hcell : ∀ i k, i < 12 → k < 4 → W.cell? ⟨0, i * 4 + k, none⟩ = some (rowV i k) := fun i k hi hk => by
    have := World.var?_cell hg hvar (i * 4 + k)
    rw [this, ← hc i k hi hk]
    simp
  refine ⟨?_, hcell⟩
  have h0 := hcell 0 0 (by decide) (by decide)
  by_cases hz : 0 < W.heap.size
  · exact hz
  · have : W.heap[0]? = none := Array.getElem?_eq_none (by omega)
    simp [World.cell?, this] at h0
end Go.Proofs.YtpfnfaekgaipjaaDoor

namespace Go.Proofs.YtpfnfaekgaipjaaDoor
open Go.ChangeShapes Go.WideShapes Go.ChangeAt Go.RowKit

theorem Tryd.own : ownKnob Tryd.prog.godebug = none := by kernel_rfl
theorem Tryd.laidOut : laidOutB Tryd.prog = true := by kernel_rfl
def tabCells : Array Value := ((List.range 12).flatMap fun i => (List.range 4).map fun k => rowV i k).toArray
def layCells (c : Array Value) : Obj → Obj
  | .cells _ t frozen => .cells c t frozen
  | o => o
noncomputable def laidWorld (os : Os) : World :=
  { World.holding Tryd.prog os ⟨#[], #[], []⟩ with heap := (World.holding Tryd.prog os ⟨#[], #[], []⟩).heap.modify 0 (layCells tabCells) }
end Go.Proofs.YtpfnfaekgaipjaaDoor

set_option maxRecDepth 100000
set_option maxRecDepth 20000
namespace Go.Proofs.YtpfnfaekgaipjaaDoor
open Go.ChangeShapes Go.WideShapes Go.ChangeAt Go.RowKit

theorem Tryd.cells26 : Tryd.prog.cellsOf 26 = 1 := by kernel_rfl
section
variable {H : Type} {enc : TypeId × Value → H} {W : World} {r : Reach} {base b : Nat} {sp : Nat → Bool} {held : Bool} {t : TypeId} {n : Nat} {v : Value} {d : DataW H} {p : List MemPlace}
end
end Go.Proofs.YtpfnfaekgaipjaaDoor

namespace Go.Proofs.YtpfnfaekgaipjaaDoor
open Go.ChangeShapes Go.WideShapes Go.ChangeAt Go.RowKit

theorem Tryd.rec22 : Tryd.prog.readableRec 22 = true := by kernel_rfl
theorem Tryd.row22 : (22 : TypeId) < Tryd.prog.types.size := of_decide_eq_true (by kernel_rfl)
section
variable {H : Type} {enc : TypeId × Value → H} {W : World} {r : Reach} {base : Nat} {v : Value} {d : DataW H} {p : List MemPlace}
def lenW (zs : List Int) (len i : Nat) : Int := if i < len then zs.getD i 0 else 0
theorem open_nat (hok : Value.okWide Tryd.prog W r base 22 v) (h : DataW.Trod enc Tryd.prog W 0 (fun _ => true) true 22 v d p) : ∃ a n c x, v = .slice a n c ∧ Num W a n c x := by
  obtain ⟨a0, len0, cap0, rfl⟩ := okWide_slice Tryd.underlying22 hok
  obtain ⟨fuel, hf⟩ := h
  rcases open_ints Tryd.underlying22 Tryd.underlying26 Tryd.cells26 hf with ⟨h1, _⟩ | ⟨a, len, cap, zs, h1, hb, hl, hm, hz, hx, hc, hw⟩
  · cases (List.cons.inj (show [Value.slice a0 len0 cap0] = [.slice none 0 0] from h1)).1
    exact ⟨none, 0, 0, fun _ => 0, rfl, Nat.le_refl _, by unfold maxLen; omega, fun _ => (by decide : (0 : Int) ≤ 0 ∧ (0 : Int) ≤ 18446744073709551615), fun _ _ => rfl, Or.inl ⟨rfl, rfl⟩⟩
  · cases (List.cons.inj (show [Value.slice a0 len0 cap0] = [.slice (some a) len cap] from h1)).1
    simp only [if_true] at hz
    have hh : a.spot = none ∧ a.block < W.heap.size := by
      simp only [Value.okWide, Tryd.underlying22, Cell.okWide, Cell.ok] at hok
      obtain ⟨_, _, hh⟩ := hok
      obtain ⟨_, h2, row, cells, h3, _⟩ := hh
      refine ⟨h2, ?_⟩
      rcases Nat.lt_or_ge a.block W.heap.size with h' | h'
      · exact h'
      · unfold World.shape? at h3; rw [Array.getElem?_eq_none h'] at h3; cases h3
    obtain ⟨b, off, spot⟩ := a
    obtain ⟨h2, h3⟩ := hh
    simp only at h2 h3
    subst h2
    refine ⟨some ⟨b, off, none⟩, len0, cap0, lenW zs len0, rfl, hl, hm, ?_, fun i hi => if_neg (by omega), Or.inr ⟨b, off, rfl, h3, fun i hi => ?_⟩⟩
    · intro i
      unfold lenW
      split
      · have := range_u64 hw i
        simpa [List.getD] using this
      · decide
    · have := hc i (by omega)
      rw [show (⟨b, off, none⟩ : Addr).add i = ⟨b, off + i, none⟩ by simp [Addr.add]] at this
      rw [this]; unfold lenW; rw [if_pos hi]
end
end Go.Proofs.YtpfnfaekgaipjaaDoor
