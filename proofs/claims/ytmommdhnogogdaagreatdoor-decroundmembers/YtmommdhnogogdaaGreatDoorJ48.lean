/-
  Texts that the proof leans on, joined: Uq.
-/
import Derived.Test.YtmommdhnogogdaaGreatDoorJ47
import Derived.Test.YtmommdhnogogdaaGreatDoorJ46
import Derived.Test.YtmommdhnogogdaaGreatDoorJ19
set_option linter.unusedVariables false
set_option linter.unusedSectionVars false
set_option linter.unusedSimpArgs false
set_option maxRecDepth 20000
namespace Go.Proofs.YtmommdhnogogdaaGreatDoor
open Go.RowKit
theorem Nt.wide {K K' V : Nat} {v : Value} {w : World} (h : Nt K V v w) (hK : K ≤ K') : Nt K' V v w := by
  obtain ⟨a, k, c, z, e, h2, h3, h4⟩ := h
  exact ⟨a, k, c, z, e, by omega, h3, h4⟩
theorem vUE_ways (n : Int) (B : Nat) : (vUE n B = 0 ∧ goodD n B ∧ vUD n B = vM (fD n) B) ∨ (vUE n B != 0) = true := by
  by_cases h : goodD n B
  · left
    unfold vUE vUD
    rw [if_pos h, if_pos h]
    exact ⟨rfl, h, rfl⟩
  · right
    unfold vUE
    rw [if_neg h]; rfl
/-- what Keep answers, in a class of worlds -/
structure DrdK (TT : World → Prop) : Prop where
  keep : ∀ n d x s N vn W, i6 n → i6 d → i6 x → TT W → Nt 2001 N vn W → Calls Tryz.prog 6 #[.int .i64 n, .int .i64 d, .bool s, vn, .int .i64 x] W fun r w' => r = .returned (.tuple #[(rqD n d s N 1 x x).v, .int .i64 (rqF n d s N 1 x), .int .i64 (rqE n d N 1)]) ∧ Below W.heap.size W w'
theorem keeps15_v {TT : World → Prop} (h : DrdC TT) (hK : DrdK TT) (n d x : Int) (B : Nat) (an : Option Addr) (kn cn : Nat) (zn : Nat → Int) (w : World) (hT : TT w) (i1 : i6 n) (i2 : i6 d) (i3 : i6 x) (hn : Num w an kn cn zn) (hB : B < 2 ^ 256) :
    Calls Tryz.prog 3 #[.int .i64 n, .int .i64 d, A4 B, .slice an kn cn, .int .i64 x] w fun r w' => r = .returned (.bool true) ∧ Below w.heap.size w w' := by
  by_cases h1 : (500 : Int) < (kn : Int)
  · exact keeps15_l TT h.next n d x B an kn cn w hT h.awk h1
  · have c10 : ∀ W, TT W → Below w.heap.size w W → _ := fun W hW hb => hK.keep n d x false _ _ W i1 i2 i3 hW (num_Nt (hn.next hb) (by omega))
    have c11 : ∀ W, Below w.heap.size w W → _ := fun W hb => rk15_any n d x false (num_Nt (hn.next hb) (by omega)) (w := W)
    have c12 := fun W => runp14 n B W hB
    rcases vUE_ways n B with ⟨e1, e2, e3⟩ | e
    · by_cases hc : (vUD n B).c = 1
      · have c13 := fun W => rdir_any d W
        by_cases hd : knB d
        · rw [decide_eq_true hd] at c13
          have hi : vI (fD n) (vUD n B) := by rw [e3]; exact vM_is (fD_ok n) B
          obtain ⟨r1, r2, r3⟩ := rq_keep (d := d) e2.1 hd hi hc
          have hx : i6 (vUD n B).x := by
            obtain ⟨m0, m1, l0, l1, lm, j0, j1⟩ := ok_m (fD_ok n)
            rcases hi with ⟨_, _, _, a, b⟩ | ⟨a, _⟩ | ⟨a, _⟩
            · unfold i6 DF.m at *; omega
            · rw [hc] at a; exact absurd a (by decide)
            · rw [hc] at a; exact absurd a (by decide)
          refine keeps15_k TT h.next n d x B an kn cn w hT h.awk h1 _ _ _ _ _ _ _ c10 c11 _ _ _ _ _ _ _ c12 e1 hc (vUD_256 n B) c13 ?_
          intro W v hW hv
          have c := hK.keep n d (vUD n B).x (vUD n B).s (vUD n B).k v W i1 i2 hx hW (hv.wide (by omega))
          rw [r1, r2, r3] at c
          exact c
        · rw [decide_eq_false hd] at c13
          exact keeps15_d TT h.next n d x B an kn cn w hT h.awk h1 _ _ _ _ _ _ _ c10 c11 _ _ _ _ _ _ _ c12 e1 hc c13
      · exact keeps15_c TT h.next n d x B an kn cn w hT h.awk h1 _ _ _ _ _ _ _ c10 c11 _ _ _ _ _ _ _ c12 e1 (by simpa using hc)
    · exact keeps15_g TT h.next n d x B an kn cn w hT h.awk h1 _ _ _ _ _ _ _ c10 c11 _ _ _ _ _ _ _ c12 e
end Go.Proofs.YtmommdhnogogdaaGreatDoor
