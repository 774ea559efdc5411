/-
  What slices.Clone does with a list of words: a contract.
-/
import Derived.Test.YtcjbdmgaooojlaaDoorPob
import Derived.Lib.SliceRun
set_option linter.unusedVariables false
set_option linter.unusedSimpArgs false
set_option maxRecDepth 20000
namespace Go.Proofs.YtcjbdmgaooojlaaDoor
open Go.RowKit

theorem owns_loose {w : World} {base t s g n cap : Nat} {vs : List Value} (h : w.ownsRow base t s (.slice (some ⟨g, 0, none⟩) n cap) n vs) : base ≤ g ∧ ∀ i, w.frozen? ⟨g, i, none⟩ = false := by
  obtain ⟨h1, h2⟩ := h
  rcases h2 with ⟨h2, _⟩ | ⟨q, cap', cur, e, h4, h5, h6⟩
  · cases h2
  · cases e
    exact ⟨h4, fun i => by simp [World.frozen?, h5]⟩

set_option maxHeartbeats 1000000 in
theorem clone_any (b n c : Nat) (x : Nat → Int) (w : World) (hn : n < 4294967296) (h0 : 0 < n) (h : Num w (some ⟨b, 0, none⟩) n c x) :
    Calls Tryd.prog 37 #[.slice (some ⟨b, 0, none⟩) n c] w fun e w' => ∃ g cap, e = .returned (.slice (some ⟨g, 0, none⟩) n cap) ∧ Num w' (some ⟨g, 0, none⟩) n cap x ∧ Below w.heap.size w w' ∧ w.heap.size ≤ g ∧ ∀ i, w'.frozen? ⟨g, i, none⟩ = false := by
  obtain ⟨h1, h2, h3, h4, h5⟩ := h
  have hc : b < w.heap.size ∧ ∀ i, i < n → w.cell? ⟨b, 0 + i, none⟩ = some (.int .u64 (x i)) := by
    rcases h5 with ⟨h, _⟩ | ⟨b', off', h, hbs, hc⟩
    · cases h
    · cases h; exact ⟨hbs, hc⟩
  obtain ⟨hbs, hc⟩ := hc
  clear h5
  obtain ⟨i0, hi, hz0, hz1, hz2⟩ := info_parts Tryd.info37
  unfold maxLen at h2
  have HZ : Hid (∀ i, n ≤ i → x i = 0) := h4
  have HC : Hid (∀ i, i < n → w.cell? ⟨b, 0 + i, none⟩ = some (.int .u64 (x i))) := hc
  clear h4 hc
  have HOWN : (w.alloc (.cells #[] 37)).ownsRow w.heap.size 37 1 (.slice (some ⟨w.heap.size, 0, none⟩) 0 0) 0 [] :=
    ⟨rfl, Or.inr ⟨w.heap.size, 0, #[], rfl, Nat.le_refl _, (MapKept.heap_alloc w _).1, Nat.le_refl _, by unfold maxLen; omega, rfl, rfl⟩⟩
  have HNEWS : ∀ (q : Nat) (u : Value), ((List.range n).map fun i => Value.int .u64 (x i))[q]? = some u → (w.alloc (.cells #[] 37)).cell? ((⟨b, 0, none⟩ : Addr).add q) = some u := by
    intro q u hq
    have hql : q < n := by
      rcases Nat.lt_or_ge q n with h | h
      · exact h
      · rw [List.getElem?_eq_none (by simpa using h)] at hq; cases hq
    have e2 : u = .int .u64 (x q) := by simpa [hql] using hq.symm
    rw [e2]
    have ea : (⟨b, 0, none⟩ : Addr).add q = ⟨b, 0 + q, none⟩ := by simp [Addr.add]; omega
    rw [ea]
    exact (((Below.refl w.heap.size w).alloc (Nat.le_refl _) _).cell (p := ⟨b, 0 + q, none⟩) hbs).trans (HC.out q hql)
  have HONE : ∀ u ∈ ((List.range n).map fun i => Value.int .u64 (x i)), u.oneCell' = true := by
    intro u hu
    obtain ⟨q, _, rfl⟩ := List.mem_map.1 hu
    rfl
  have heq := Lib.run_eql_slice_nil (P := Tryd.prog) w 43 37 (some ⟨b, 0, none⟩) n c 0 0 Tryd.underlying43
  go_enter Tryd.func37, Tryd.ntmps37
  go_wp2_with (at_builtin; refine wpList_append_lies _ rfl (.tmp 5) (.tmp 6) 43 rfl w.heap.size 37 i0 (.int .u64 0) 1 8 Tryd.underlying43 hi hz0 hz1 hz2 rfl (by decide) (.slice (some ⟨w.heap.size, 0, none⟩) 0 0) 0 [] rfl HOWN ⟨b, 0, none⟩ n c ((List.range n).map fun i => Value.int .u64 (x i)) rfl (by simp) HNEWS HONE (by omega) (by unfold maxLen; omega) (by omega) (by simp) (w.heap.size + 1) (by simp) ?_; intro g cap w1 hown hgrow hat hlt; clear HOWN HNEWS HONE)
  have hown' : w1.ownsRow w.heap.size 37 1 (.slice (some ⟨g, 0, none⟩) n cap) n ((List.range n).map fun i => Value.int .u64 (x i)) := by
    have e0 : 0 + n = n := by omega
    rw [e0] at hown
    simpa using hown
  have HN := num_of_owns (w := w) h3 HZ.out hown' hlt
  have HL := owns_loose hown'
  have HB : Below w.heap.size w w1 := ((Below.refl _ _).alloc (Nat.le_refl _) _).grown hgrow (by simp) (by intro k hk; cases hk; exact Nat.le_refl _)
  clear hown hown' hgrow
  go_wp2
  go_ret
  refine ⟨g, cap, ?_, HN, HB, HL.1, HL.2⟩
  simp
end Go.Proofs.YtcjbdmgaooojlaaDoor
