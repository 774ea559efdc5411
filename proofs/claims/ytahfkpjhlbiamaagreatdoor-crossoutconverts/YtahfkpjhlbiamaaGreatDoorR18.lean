/-
  Texts that the proof leans on.
-/
import Derived.Test.YtahfkpjhlbiamaaGreatDoorR1
import Derived.Test.YtahfkpjhlbiamaaGreatDoorR16
import Derived.Deep.Cut
import Derived.Deep.CutRange
import Derived.Deep.RegionWith
set_option linter.unusedVariables false
set_option linter.unusedSectionVars false
set_option linter.unusedSimpArgs false
set_option maxRecDepth 20000
namespace Go.Proofs.YtahfkpjhlbiamaaGreatDoor
open Go.RowKit
section
attribute [local irreducible] W4
section
variable (n:Int)(nm:ByteArray)(wd:Int)(f e:Nat)(l m d:Int)(s:Bool)(R:Nat)(E:Int)(w:World)(hT:Tab w)
include hT
end
abbrev IZ:Value:=.agg #[.int .i64 0,.string ⟨#[]⟩,.int .i64 0,.int .i64 0,.int .i64 0,.int .i64 0,.int .i64 0,.int .i64 0,.int .i64 0,.bool false]
section
variable (n d:Int)(nm:ByteArray)(wd:Int)(f e:Nat)(l m:Int)(N D:Nat)(vn vd I:Value)(w:World)(hT:Tab w)
 (c26:∀ W,Below w.heap.size w W->CQ 110 #[vn] W (.int .i64 (bl N:Int)))
 (c26d:∀ W,Below w.heap.size w W->CQ 110 #[vd] W (.int .i64 (bl D:Int)))
include hT c26 c26d
end
end
section
structure Ib (w:World) (g:Nat) (n:Int) (nm:ByteArray) (wd:Int) (f e:Nat) (l m:Int):Prop where
 c0:w.cell? ⟨g,0,none⟩=some (.int .i64 n)
 c1:w.cell? ⟨g,1,none⟩=some (.string nm)
 c2:w.cell? ⟨g,2,none⟩=some (.int .i64 2)
 c3:w.cell? ⟨g,3,none⟩=some (.int .i64 wd)
 c4:w.cell? ⟨g,4,none⟩=some (.int .i64 ((f:Int)+1))
 c5:w.cell? ⟨g,5,none⟩=some (.int .i64 e)
 c6:w.cell? ⟨g,6,none⟩=some (.int .i64 l)
 c7:w.cell? ⟨g,7,none⟩=some (.int .i64 m)
 c8:w.cell? ⟨g,8,none⟩=some (.int .i64 ((f:Int)-1))
 c9:w.cell? ⟨g,9,none⟩=some (.bool false)
theorem Ib.next {w w':World}{g:Nat}{n:Int}{nm:ByteArray}{wd:Int}{f e:Nat}{l m:Int}(h:Ib w g n nm wd f e l m)(hg:g<w.heap.size)(hb:Below w.heap.size w w'):Ib w' g n nm wd f e l m :=
 ⟨by rw [hb.cell (p:=⟨g,0,none⟩) hg,h.c0],by rw [hb.cell (p:=⟨g,1,none⟩) hg,h.c1],by rw [hb.cell (p:=⟨g,2,none⟩) hg,h.c2],by rw [hb.cell (p:=⟨g,3,none⟩) hg,h.c3],by rw [hb.cell (p:=⟨g,4,none⟩) hg,h.c4],by rw [hb.cell (p:=⟨g,5,none⟩) hg,h.c5],by rw [hb.cell (p:=⟨g,6,none⟩) hg,h.c6],by rw [hb.cell (p:=⟨g,7,none⟩) hg,h.c7],by rw [hb.cell (p:=⟨g,8,none⟩) hg,h.c8],by rw [hb.cell (p:=⟨g,9,none⟩) hg,h.c9]⟩
attribute [local irreducible] W4 Nz Nt
section
variable (n d x:Int)(s:Bool)(vn vd:Value)(w:World)(hT:Tab w)
variable (nm:ByteArray)(wd:Int)(f e:Nat)(l m:Int)(N C:Nat)(R:Nat)(E fl lead x1 q0:Int)(ex:Bool)
 (c25:∀ W,Below w.heap.size w W->CB 145 #[.int .i64 n,.int .i64 d,vn,vd] W (.tuple #[DI n nm wd f e l m,.int .i64 0]))
 (c26:∀ W,Below w.heap.size w W->CQ 110 #[vn] W (.int .i64 (bl N:Int)))
include hT c25 c26
variable (hf:f<=300)(hl:-100000<=l/\l<=100000)(hm:-100000<=m/\m<=100000)(hld:-100000<=lead/\lead<=100000)(hx1:-300000<=x1/\x1<=300000)(hq0:q0=max l (lead+x1-((f:Int)+1)+1))
 (hN:(((bl N:Nat):Int)==0)=false)
 (c28:∀ W,Below w.heap.size w W->CB 147 #[vn,vd] W (.int .i64 lead))
 (c29:∀ W,CB 148 #[DI n nm wd f e l m,.int .i64 lead,.int .i64 x] W (.int .i64 x1))
 (c30:∀ W k,k=x1-q0->Below w.heap.size w W->Calls Tryz.prog 149 #[vn,vd,.int .i64 k] W fun r w'=>∃ va vb,r=.returned (.tuple #[va,vb])/\Below W.heap.size W w'/\(Calls Tryz.prog 99 #[.int .i64 d,.bool s,va,vb] w' fun r w''=>∃ v,r=.returned (.tuple #[v,.bool ex])/\Nz 2003 C v w''/\Below w'.heap.size w' w''))
 (c26c:∀ W v,Nz 2003 C v W->CQ 110 #[v] W (.int .i64 (bl C:Int)))
 (c31:∀ W v,Nz 2003 C v W->Calls Tryz.prog 150 #[v,.int .i64 1] W fun r w'=>∃ v' b,r=.returned (.tuple #[v',.bool b])/\Nz 2003 (C/2) v' w'/\Below W.heap.size W w')
include hf hl hm hld hx1 hq0 hN c28 c29 c30 c26c c31
end
end
end Go.Proofs.YtahfkpjhlbiamaaGreatDoor
