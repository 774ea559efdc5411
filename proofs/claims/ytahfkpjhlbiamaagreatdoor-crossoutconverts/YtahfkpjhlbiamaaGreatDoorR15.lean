/-
  Texts that the proof leans on.
-/
import Derived.Test.YtahfkpjhlbiamaaGreatDoorR1
import Derived.Test.YtahfkpjhlbiamaaGreatDoorR12
import Derived.Deep.Cut
import Derived.Deep.CutRange
set_option linter.unusedVariables false
set_option linter.unusedSectionVars false
set_option linter.unusedSimpArgs false
set_option maxRecDepth 20000
namespace Go.Proofs.YtahfkpjhlbiamaaGreatDoor
open Go.RowKit
section
def ld (N D:Nat):Int:=let p:=(bl N:Int)-bl D;if N*2^(-p).toNat<D*2^p.toNat then p-1 else p
section
variable (vn vd:Value)(LN LD s:Int)(w:World)(hLN:0<=LN/\LN<=60000)(hLD:0<=LD/\LD<=60000)
 (c26:∀ W,Below w.heap.size w W->CQ 110 #[vn] W (.int .i64 LN))
 (c26d:∀ W,Below w.heap.size w W->CQ 110 #[vd] W (.int .i64 LD))
 (c57:∀ n:Int,n=-(LN-LD)->Calls Tryz.prog 149 #[vn,vd,.int .i64 n] w fun e w'=>∃ va vb,e=.returned (.tuple #[va,vb])/\(∀ W,Below w'.heap.size w' W->Calls Tryz.prog 57 #[va,vb] W fun e w''=>e=.returned (.int .i64 s)/\Below W.heap.size W w'')/\Below w.heap.size w w')
include hLN hLD c26 c26d c57
end
end
end Go.Proofs.YtahfkpjhlbiamaaGreatDoor

namespace Go.Proofs.YtahfkpjhlbiamaaGreatDoor
theorem zZ9 {V:Nat}(h:V≠0):2^(bl V-1)<=V/\V<2^bl V/\1<=bl V:=by
 have h0:bl V≠0:=fun e=>h (bl_zero.1 e)
 exact ⟨bl_ge.1 (by omega),bl_le.1 (Nat.le_refl _),by omega⟩
end Go.Proofs.YtahfkpjhlbiamaaGreatDoor
