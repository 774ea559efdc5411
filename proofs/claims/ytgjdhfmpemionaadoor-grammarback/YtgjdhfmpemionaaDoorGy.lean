/-
  What the law GrammarBack does, of all parts and every text: it returns true.
-/
import Derived.Test.YtgjdhfmpemionaaDoorGw
set_option linter.unusedVariables false
set_option linter.unusedSimpArgs false
set_option maxRecDepth 20000
namespace Go.Proofs.YtgjdhfmpemionaaDoor
open Go.RowKit

theorem cutE_bad {l : List UInt8} (h : cutE l ≠ 0) : cutV l = Prt.zero := by
  unfold cutE at h
  unfold cutV cutP
  by_cases h1 : 4000 < l.length
  · rw [if_pos h1]; rfl
  · rw [if_neg h1] at h
    unfold cutP at h
    rw [if_neg h1] at h
    rw [if_neg h1]
    cases h2 : bodP (sgB l) (sgR l) with
    | none => rfl
    | some p => rw [h2] at h; simp at h
theorem cutV_ex (l : List UInt8) : -9223372036854775808 ≤ (cutV l).ex ∧ (cutV l).ex ≤ 9223372036854775807 := by
  unfold cutV cutP
  by_cases h1 : 4000 < l.length
  · rw [if_pos h1]; exact ⟨by decide, by decide⟩
  · rw [if_neg h1]
    unfold bodP
    split
    · show -9223372036854775808 ≤ finE _ ∧ finE _ ≤ 9223372036854775807
      unfold finE clampE; omega
    · split
      · show -9223372036854775808 ≤ (0 : Int) ∧ (0 : Int) ≤ 9223372036854775807; omega
      · split
        · show -9223372036854775808 ≤ (0 : Int) ∧ (0 : Int) ≤ 9223372036854775807; omega
        · exact ⟨by decide, by decide⟩
theorem cut_tex {p : Prt} (h : jnP p) (he : -9223372036854775808 ≤ p.ex ∧ p.ex ≤ 9223372036854775807) (W : World) :
    Calls Tryd.prog 9 #[.string (B (texT p.cls p.sg p.sn p.dig p.ex))] W fun x w' => x = .returned (.tuple #[p.v, .int .i64 0]) ∧ Below W.heap.size W w' := by
  obtain ⟨e1, e2⟩ := cutE_some h.2
  have c9 := cut_any (texT p.cls p.sg p.sn p.dig p.ex) W (by have := texT_len (c := p.cls) (s := p.sg) (g := p.sn) h.1 he; omega)
  rw [e1, e2] at c9
  exact c9
theorem grammarBack_any (p : Prt) (l : List UInt8) (w : World) (hT : Tb10 w) (he : -9223372036854775808 ≤ p.ex ∧ p.ex ≤ 9223372036854775807) :
    Calls Tryd.prog 5 #[p.v, .string (B l)] w fun x w' => x = .returned (.bool true) ∧ Below w.heap.size w w' := by
  by_cases h0 : 10000 < p.dig.length ∨ 10000 < l.length
  · exact back_long _ _ _ _ _ l w h0
  · have hd : p.dig.length ≤ 10000 := by omega
    have hl : l.length ≤ 10000 := by omega
    have c9 := fun W => cut_any l W (by omega)
    have jy := fun W (hW : Below w.heap.size w W) (h : jnP p) => join_y p W (hT.next hW) he h
    have jn := fun W (hW : Below w.heap.size w W) (h : ¬ jnP p) => join_n p W (hT.next hW) he h
    by_cases hE : cutE l = 0
    · have hx := cutV_ex l
      rw [hE] at c9
      have ky := fun W (hW : Below w.heap.size w W) (h : jnP (cutV l)) => join_y (cutV l) W (hT.next hW) hx h
      have kn := fun W (hW : Below w.heap.size w W) (h : ¬ jnP (cutV l)) => join_n (cutV l) W (hT.next hW) hx h
      by_cases hp : jnP p
      · by_cases hq : jnP (cutV l)
        · exact back_yy _ _ _ _ _ l _ w hd hl _ _ _ _ _ _ (fun W hW => jy W hW hp) (fun W => cut_tex hp he W) c9 (fun W hW => ky W hW hq) (fun W => cut_tex hq hx W)
        · exact back_yn _ _ _ _ _ l _ w hd hl _ _ _ _ _ _ (fun W hW => jy W hW hp) (fun W => cut_tex hp he W) c9 (fun W hW => kn W hW hq)
      · by_cases hq : jnP (cutV l)
        · exact back_ny _ _ _ _ _ l _ w hd hl _ _ _ _ _ _ (fun W hW => jn W hW hp) c9 (fun W hW => ky W hW hq) (fun W => cut_tex hq hx W)
        · exact back_nn _ _ _ _ _ l _ w hd hl _ _ _ _ _ _ (fun W hW => jn W hW hp) c9 (fun W hW => kn W hW hq)
    · rw [cutE_bad hE] at c9
      have hE' : (cutE l != 0) = true := by simpa using hE
      by_cases hp : jnP p
      · exact back_ye _ _ _ _ _ l _ w hd hl _ hE' (fun W hW => jy W hW hp) (fun W => cut_tex hp he W) c9
      · exact back_ne _ _ _ _ _ l _ w hd hl _ hE' (fun W hW => jn W hW hp) c9
end Go.Proofs.YtgjdhfmpemionaaDoor
