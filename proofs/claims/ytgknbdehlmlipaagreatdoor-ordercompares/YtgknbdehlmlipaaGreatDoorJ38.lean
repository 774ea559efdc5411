/-
  Texts that the proof leans on.
-/
import Derived.Test.YtgknbdehlmlipaaGreatDoorJ29
import Derived.Test.YtgknbdehlmlipaaGreatDoorJ24
import Derived.Test.YtgknbdehlmlipaaGreatDoorJ20
set_option linter.unusedVariables false
set_option linter.unusedSectionVars false
set_option linter.unusedSimpArgs false
set_option maxRecDepth 20000
namespace Go.Proofs.YtgknbdehlmlipaaGreatDoor
open Go.RowKit
section
attribute [local irreducible] W4 Nz Nt NT
def nbB (n x:Int)(k:Nat):Bool:=decide (leastN n<x)&&decide (k=2^fN n)
end
section
structure Mut (g:Nat) (w w':World):Prop where
 os:w'.os=w.os
 tape:w'.tape=w.tape
 output:w'.output=w.output
 size:w.heap.size<=w'.heap.size
 block:∀ k,k<w.heap.size->k≠g->w'.heap[k]?=w.heap[k]?
theorem Mut.refl (g:Nat)(w:World):Mut g w w:=⟨rfl,rfl,rfl,Nat.le_refl _,fun _ _ _=>rfl⟩
theorem Mut.trans {g:Nat}{a b c:World}(h:Mut g a b)(k:Mut g b c):Mut g a c :=
 ⟨k.os.trans h.os,k.tape.trans h.tape,k.output.trans h.output,Nat.le_trans h.size k.size,fun i hi hg=>(k.block i (Nat.lt_of_lt_of_le hi h.size) hg).trans (h.block i hi hg)⟩
theorem Mut.below {g:Nat}{a b:World}(h:Below a.heap.size a b):Mut g a b:=⟨h.os,h.tape,h.output,h.size,fun k hk _=>h.block k hk⟩
theorem Mut.set {g:Nat}{a b:World}(h:Mut g a b)(i:Nat)(v:Value):Mut g a (b.setCell ⟨g,i,none⟩ v) :=
 h.trans ⟨rfl,rfl,rfl,by simp [World.setCell],fun k _ hk=>Below.heap_setCell _ _ _ _ hk⟩
theorem Mut.out {g B:Nat}{w0 w w':World}(h:Mut g w w')(h0:Below B w0 w)(hB:B<=g)(hs:B<=w0.heap.size):Below B w0 w' :=
 h0.trans ⟨h.os,h.tape,h.output,h.size,fun k hk=>h.block k (by have:=h0.size;omega) (by omega)⟩
attribute [local irreducible] W4 Nz Nt NT
end
end Go.Proofs.YtgknbdehlmlipaaGreatDoor
