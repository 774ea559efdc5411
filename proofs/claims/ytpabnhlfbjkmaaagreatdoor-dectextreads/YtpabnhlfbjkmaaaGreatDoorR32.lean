/-
  Texts that the proof leans on.
-/
import Derived.Test.YtpabnhlfbjkmaaaGreatDoorR1
import Derived.Test.YtpabnhlfbjkmaaaGreatDoorR29
set_option linter.unusedVariables false
set_option linter.unusedSectionVars false
set_option linter.unusedSimpArgs false
set_option maxRecDepth 20000
namespace Go.Proofs.YtpabnhlfbjkmaaaGreatDoor
open Go.RowKit
theorem yAb {K X:Nat}{v:Value}{w:World}(hK:K<100000)(hX:bl X<=128000)(h0:X≠0)(h:Nt K X v w):CB 30 #[v] w (.tuple #[.string (B (dcW X)),.int .i64 0]):=by
 obtain ⟨a,n,c,z,rfl,hn,hN,hv⟩:=h
 have hs:sizeL z n<=2000:=(zId hN.2.2.1 hv).2 hX
 unfold dcW
 rw [if_neg h0]
 have hX0:(0:Int)<X:=by omega
 have hL:(X:Int)<10^bl X:=by
  have h1:=(yLd h0).2.1
  have h2:=Nat.pow_le_pow_left (show 2<=10 by decide) (bl X)
  have h3:X<10^bl X:=by omega
  exact_mod_cast h3
 refine (zNg a n c z w (by omega) hN hs).mono fun r w' ⟨L,hL',he,hB⟩=>⟨?_,hB⟩
 rw [hv] at hL' he
 rw [he,zIk (Int.le_of_lt hX0) hL' hL,← zLs hX0 hL]
 show _=Ending.returned (.tuple #[.string (B (dcD X (bl X))),.int .i64 0])
 unfold dcD
 rw [B_of]
end Go.Proofs.YtpabnhlfbjkmaaaGreatDoor
