/-
  Texts that the proof leans on.
-/
import Derived.Test.YtpemdcnneabbfaaDoorJ32
import Derived.Test.YtpemdcnneabbfaaDoorJ31
import Derived.Test.YtpemdcnneabbfaaDoorJ24
import Derived.Test.YtpemdcnneabbfaaDoorJ3
set_option linter.unusedVariables false
set_option linter.unusedSectionVars false
set_option linter.unusedSimpArgs false
set_option maxRecDepth 20000
namespace Go.Proofs.YtpemdcnneabbfaaDoor
open Go.RowKit
section
attribute [local irreducible] W4 Nt
set_option maxHeartbeats 1000000 in
theorem scaled_good (n d x : Int) (s : Bool) (B : Nat) (w : World) (hT : Tab w) (hb : binN n) (hk : knB d) (hB : B < 2 ^ 256) :
    Calls Tryd.prog 22 #[.int .i64 n, .int .i64 d, .bool s, A4 B, .int .i64 x] w fun r w' => r = .returned (.tuple #[A4 (rdV n d s B 1 x), .int .i64 (rdF n d s B 1 x), .int .i64 0]) ∧ Below w.heap.size w w' := by
  have c11 := fun W (vn vd : Value) (hT : Tab W) (h1 : Nt 2001 B vn W) (h2 : Nt 2001 1 vd W) => rnd_good n d x s hT h1 h2 hb hk (by decide) (bl_256 hB) (by decide)
  have hbx := fun W hW => (nv_nt (box_nv (w0 := w) (w := W) (B := B) (t := 25) hB hW)).more (show 4 ≤ 2001 by decide)
  generalize rdV n d s B 1 x = R at *
  generalize rdF n d s B 1 x = F at *
  have hsm := cell_set_map
  go_enter Tryd.func22, Tryd.ntmps22
  go_wp2_with (go_at_call 35; refine (c11 _ _ _ (hT.go bgo) (hbx _ bgo) ((nt_one (by simp) rfl (by decide)).more (by decide))).mono ?_; rintro r w1 ⟨rfl, hb1⟩; obtain ⟨hc1, hf1⟩ := bcell hb1; have hz1_0 : w.heap.size < w1.heap.size := lt_below hb1 ltg; have hl1_0 := Nat.le_of_lt hz1_0; have hz1_1 : w.heap.size + 1 < w1.heap.size := lt_below hb1 ltg; have hl1_1 := Nat.le_of_lt hz1_1; have hA1 := bnext (w0 := w) bgo hb1; have hs1 := hA1.size; clear hb1)
  exact bodyPost_ret (v := .tuple #[A4 R, .int .i64 F, .int .i64 0]) (by simp only [results, Tryd.results22]; go_simp) rfl ⟨rfl, bgo⟩
end
end Go.Proofs.YtpemdcnneabbfaaDoor
