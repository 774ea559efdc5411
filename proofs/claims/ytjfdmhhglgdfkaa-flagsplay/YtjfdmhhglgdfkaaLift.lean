/-
  Slices of integers and of calls, opened; a call that starts no goroutine, in a row that lets others leave.
-/
import Derived.Test.YtjfdmhhglgdfkaaSty
import Derived.Test.YtjfdmhhglgdfkaaPly
import Derived.ProofKit
import Derived.OpenShut
import Derived.Carry
import Derived.Deep.SlicePairs
import Derived.Conc.LeavingOf
set_option linter.unusedVariables false
set_option maxRecDepth 20000
namespace Go.Proofs.Ytjfdmhhglgdfkaa
open Go.ChangeShapes Go.WideShapes Go.ChangeAt Go.RowKit

theorem Try.own : ownKnob Try.prog.godebug = none := by kernel_rfl
theorem Try.laidOut : laidOutB Try.prog = true := by kernel_rfl
theorem Try.cells3 : Try.prog.cellsOf 3 = 1 := by kernel_rfl
theorem Try.cells36 : Try.prog.cellsOf 36 = 2 := by kernel_rfl
theorem Try.rec22 : Try.prog.readableRec 22 = true := by kernel_rfl
theorem Try.row22 : (22 : TypeId) < Try.prog.types.size := of_decide_eq_true (by kernel_rfl)
theorem Try.rec45 : Try.prog.readableRec 45 = true := by kernel_rfl
theorem Try.row45 : (45 : TypeId) < Try.prog.types.size := of_decide_eq_true (by kernel_rfl)
theorem Try.rec47 : Try.prog.readableRec 47 = true := by kernel_rfl
theorem Try.row47 : (47 : TypeId) < Try.prog.types.size := of_decide_eq_true (by kernel_rfl)

section
variable {H : Type} {enc : TypeId × Value → H} {W : World} {r : Reach} {base : Nat} {v : Value} {d : DataW H} {p : List MemPlace}
theorem slice_place {t e : TypeId} {a : Addr} {n c : Nat} (ht : Try.prog.underlying t = some (.slice e)) (hok : Value.okWide Try.prog W r base t (.slice (some a) n c)) : a.spot = none ∧ a.block < W.heap.size := by
  simp only [Value.okWide, ht, Cell.okWide, Cell.ok] at hok
  obtain ⟨_, _, hh⟩ := hok
  obtain ⟨_, h2, row, cells, h3, _⟩ := hh
  refine ⟨h2, ?_⟩
  rcases Nat.lt_or_ge a.block W.heap.size with h' | h'
  · exact h'
  · unfold World.shape? at h3; rw [Array.getElem?_eq_none h'] at h3; cases h3
theorem open_list (hok : Value.okWide Try.prog W r base 45 v) (h : DataW.Trod enc Try.prog W 0 (fun _ => true) true 45 v d p) : ∃ a n c x, v = .slice a n c ∧ Ints W a n x := by
  obtain ⟨a0, len0, cap0, rfl⟩ := okWide_slice Try.underlying45 hok
  obtain ⟨fuel, hf⟩ := h
  rcases open_ints Try.underlying45 Try.underlying3 Try.cells3 hf with ⟨h1, _⟩ | ⟨a, len, cap, zs, h1, hb, hl, hm, hz, hx, hc, hw⟩
  · cases (List.cons.inj (show [Value.slice a0 len0 cap0] = [.slice none 0 0] from h1)).1
    exact ⟨none, 0, 0, fun _ => 0, rfl, by omega, Or.inl ⟨rfl, rfl⟩⟩
  · cases (List.cons.inj (show [Value.slice a0 len0 cap0] = [.slice (some a) len cap] from h1)).1
    obtain ⟨h2, h3⟩ := slice_place Try.underlying45 hok
    obtain ⟨b, off, spot⟩ := a
    simp only at h2 h3
    subst h2
    simp only [if_true] at hz
    refine ⟨some ⟨b, off, none⟩, len0, cap0, fun i => zs.getD i 0, rfl, by unfold maxLen at hm; omega, Or.inr ⟨b, off, rfl, h3, fun i hi => ?_⟩⟩
    have := hc i (by omega)
    rw [show (⟨b, off, none⟩ : Addr).add i = ⟨b, off + i, none⟩ by simp [Addr.add]] at this
    exact this
theorem add_off (b off i : Nat) : (⟨b, off, none⟩ : Addr).add i = ⟨b, off + i, none⟩ := by
  unfold Addr.add; split <;> simp_all
theorem open_script (hok : Value.okWide Try.prog W r base 22 v) (h : DataW.Trod enc Try.prog W 0 (fun _ => true) true 22 v d p) : ∃ a n c kd x, v = .slice a n c ∧ Scr W a n kd x := by
  obtain ⟨a0, len0, cap0, rfl⟩ := okWide_slice Try.underlying22 hok
  obtain ⟨fuel, hf⟩ := h
  rcases Go.Deep.open_slice_pairs Try.underlying22 Try.underlying36 Try.cells36 rfl rfl Try.cells3 Try.cells3 hf with ⟨h1, _⟩ | ⟨a, len, cap, m, k, V0, V1, D0, D1, P0, P1, h1, hb, hl, hm, hmm, hx, hc⟩
  · cases (List.cons.inj (show [Value.slice a0 len0 cap0] = [.slice none 0 0] from h1)).1
    exact ⟨none, 0, 0, fun _ => 0, fun _ => 0, rfl, by omega, Or.inl ⟨rfl, rfl⟩⟩
  · cases (List.cons.inj (show [Value.slice a0 len0 cap0] = [.slice (some a) len cap] from h1)).1
    obtain ⟨h2, h3⟩ := slice_place Try.underlying22 hok
    obtain ⟨b, off, spot⟩ := a
    simp only at h2 h3
    subst h2
    simp only [if_true] at hmm
    have key : ∀ i, i < len0 → ∃ q : Int × Int, W.cell? ⟨b, off + i * 2, none⟩ = some (.int .i64 q.1) ∧ W.cell? ⟨b, off + i * 2 + 1, none⟩ = some (.int .i64 q.2) := by
      intro i hi
      obtain ⟨c0, c1, t0, t1⟩ := hc i (by omega)
      obtain ⟨z0, e0, _, _⟩ := DataW.trod_int Try.underlying3 t0
      obtain ⟨z1, e1, _, _⟩ := DataW.trod_int Try.underlying3 t1
      rw [add_off] at c0 c1
      simp only [List.cons.injEq, and_true] at e0 e1
      exact ⟨(z0, z1), by rw [c0, e0], by rw [Nat.add_assoc, c1, e1]⟩
    obtain ⟨q, hq⟩ := Go.Deep.choose_lt key
    exact ⟨some ⟨b, off, none⟩, len0, cap0, fun i => (q i).1, fun i => (q i).2, rfl, by unfold maxLen at hm; omega, Or.inr ⟨b, off, rfl, h3, hq⟩⟩
end

theorem quiet_leaving {P : Program} {m : Machine} {w : World} {t : Trace} (h : aloneAtReturn P m w t) : leavingAtReturn P m w t := by
  obtain ⟨⟨h1, h2⟩, h3, h4⟩ := h
  refine ⟨h3, ⟨fun g hg => ⟨0, ?_⟩, h2⟩, h4⟩
  unfold Machine.othersDone at h1
  have := List.all_eq_true.1 h1 g hg
  simpa [Goroutine.LeavesIn] using this
theorem handed_leaving {a : Assume} {C : Checked} {os : Os} {f : FuncId} {r : Reach} {Pre : World → Array Value → Prop} {Post : World → Array Value → Value → World → Prop}
    (h : ReturnsInHanded a C os f r Pre Post) : ReturnsInLeavingWide a C os f r Pre Post :=
  fun enter => ReturnsInOpen.mono (fun _ _ _ x => quiet_leaving x) (fun _ x => x) (h enter)
end Go.Proofs.Ytjfdmhhglgdfkaa
