/-
  Texts that the proof leans on, joined: Fmt.
-/
import Derived.Test.YtpgihikbdmmdpaaRows
import Derived.WalkKit
import Derived.WalkSpells
import Derived.WalkLawsBesides
import Derived.Below
import Derived.RegionTactic
import Derived.ChangeAlike
import Derived.Laws.ResultCell
import Derived.LaidLaws
import Derived.Lib.LaidTab
set_option linter.unusedVariables false
set_option linter.unusedSimpArgs false
set_option maxRecDepth 20000
set_option linter.unusedSectionVars false
namespace Go.Proofs.Ytpgihikbdmmdpaa
open Go.RowKit

def okN (n : Int) : Prop := 1 ≤ n ∧ n ≤ 12
instance (n : Int) : Decidable (okN n) := inferInstanceAs (Decidable (_ ∧ _))
end Go.Proofs.Ytpgihikbdmmdpaa
