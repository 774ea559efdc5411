/-
  Texts that the proof leans on.
-/
import Derived.Test.YtahfkpjhlbiamaaGreatDoorR26
import Derived.Test.YtahfkpjhlbiamaaGreatDoorR24
set_option linter.unusedVariables false
set_option linter.unusedSectionVars false
set_option linter.unusedSimpArgs false
set_option maxRecDepth 20000
namespace Go.Proofs.YtahfkpjhlbiamaaGreatDoor
open Go.RowKit
section
attribute [local irreducible] W4 NT NV
theorem zDw {W:World}{g:Nat}(hg:g=W.heap.size):NT 900 1 (.slice (some ⟨g,0,none⟩) 1 1) (W.alloc (.cells #[.int .u64 1] 22)):=by
 have h:=zA4 (W:=W) (V:=1) (vi:=1) hg rfl (by decide) (by decide)
 unfold NT at h ⊢
 obtain ⟨g',k',c',z,h1,h2,h3⟩:=h
 exact ⟨g',k',c',z,h1,Nat.le_trans h2 (by decide),h3⟩
end
end Go.Proofs.YtahfkpjhlbiamaaGreatDoor
