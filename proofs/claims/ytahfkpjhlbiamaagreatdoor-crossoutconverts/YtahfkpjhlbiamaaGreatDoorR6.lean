/-
  Texts that the proof leans on.
-/
import Derived.Test.YtahfkpjhlbiamaaGreatDoorR3
set_option linter.unusedVariables false
set_option linter.unusedSectionVars false
set_option linter.unusedSimpArgs false
set_option maxRecDepth 20000
namespace Go.Proofs.YtahfkpjhlbiamaaGreatDoor
open Go.RowKit
section
section
variable {P:Program}{Q:Exit->Act->World->Prop}
def dstM (l:List Oper)(D:List Nat)(n m:Nat):Bool :=
 (List.range n).all fun i=>(match l[i]? with
  | some o=>(o.dst==none||(o.dst==some (D.getD i 0)&&decide (D.getD i 0<m)))&&o.guard.isNone
  | none=>false)&&(List.range n).all fun j=>j==i||D.getD j 0 != D.getD i 0
theorem zMx {l:List Oper}{D:List Nat}{n m:Nat}(h:dstM l D n m=true)(i:Nat)(hi:i<n)(o:Oper)(ho:l[i]?=some o) :
  (o.dst=none∨(o.dst=some (D.getD i 0)/\D.getD i 0<m))/\o.guard=none/\∀ j,j<n->j≠i->D.getD j 0≠D.getD i 0:=by
 have h1:=List.all_eq_true.1 h i (List.mem_range.2 hi)
 simp only [ho,Bool.and_eq_true,decide_eq_true_eq,beq_iff_eq,List.all_eq_true,Bool.or_eq_true,bne_iff_ne,List.mem_range,Option.isNone_iff_eq_none] at h1
 exact ⟨h1.1.1,h1.1.2,fun j hj hne=>(h1.2 j hj).resolve_left hne⟩
def wrS (l:List Oper)(D:List Nat)(j:Nat):Prop:=(l[j]?).bind Oper.dst=some (D.getD j 0)
theorem zDl (n m:Nat)(D:List Nat)(S:List (Value->World->Prop))(T:World->World->Prop)(M:(Nat->Prop)->(Nat->Value)->World->Prop){id:Nat}{l:List Oper}{a0:Act}{w0:World}(hm:P.follows .mixedOrders=true)(hI:invB .any l.toArray n=true)(hD:dstM l D n m=true)
  (hsz:a0.tmps.size=m) (hS:∀ p ∈ S,∀ v w w',p v w->T w w'->p v w') (hM0:M (fun _=>False) (slot a0) w0.drew)
  (hstep:∀ (L:Nat->Prop) i o a w,i<n->l[i]?=some o->¬ L i->(∀ j oj,l[j]?=some oj->L j->∀ e ∈ oj.after,Region.binds .any e=true->L e.on)->(∀ e ∈ o.after,Region.binds .any e=true->L e.on)->M L (slot a) w ->
   (∀ t,(∀ i,i<n->D.getD i 0≠t)->slot a t=slot a0 t)->(∀ j,j<n->wrS l D j->L j->(S.getD j fun _ _=>True) (slot a (D.getD j 0)) w) ->
   o.wp P a w (fun a' w'=>∃ v,a'=a.put o.dst v/\(S.getD i fun _ _=>True) v w'/\T w w'/\M (fun j=>L j∨j=i) (fun t=>if o.dst=some t then v else slot a t) w') Q)
  (hend:∀ (L:Nat->Prop) a w,(∀ i,i<n->L i)->M L (slot a) w->a.tmps.size=m->a.defers=a0.defers->(∀ t,(∀ i,i<n->D.getD i 0≠t)->slot a t=slot a0 t)->(∀ i,i<n->wrS l D i->(S.getD i fun _ _=>True) (slot a (D.getD i 0)) w)->wpList P l.toArray Q (l.drop n) a w) :
  (Code.region id l.toArray true).wp P Q a0 w0:=by
 have hSt:∀ i v w w',(S.getD i fun _ _=>True) v w->T w w'->(S.getD i fun _ _=>True) v w':=by
  intro i
  rcases Nat.lt_or_ge i S.length with h|h
  ·rw [List.getD_eq_getElem?_getD,List.getElem?_eq_getElem h];exact hS _ (List.getElem_mem h)
  ·rw [List.getD_eq_getElem?_getD,List.getElem?_eq_none h];exact fun _ _ _ _ _=>trivial
 refine zSj n (fun L a w=>M L (slot a) w/\a.tmps.size=m/\a.defers=a0.defers/\(∀ t,(∀ i,i<n->D.getD i 0≠t)->slot a t=slot a0 t)/\∀ j,j<n->wrS l D j->L j->(S.getD j fun _ _=>True) (slot a (D.getD j 0)) w) hm hI
  ⟨hM0,hsz,rfl,fun _ _=>rfl,fun _ _ _ h=>h.elim⟩ ?_ (fun L a w hL hB=>hend L a w hL hB.1 hB.2.1 hB.2.2.1 hB.2.2.2.1 fun i hi hw=>hB.2.2.2.2 i hi hw (hL i hi))
 intro L i o a w hi ho hL hcl he hB
 obtain ⟨hd,hg,hne⟩:=zMx hD i hi o ho
 have hw:=hstep L i o a w hi ho hL hcl he hB.1 hB.2.2.2.1 hB.2.2.2.2
 unfold wpOp
 have ho':l.toArray[i]?=some o:=by simpa using ho
 simp only [ho']
 rw [if_pos (by unfold Region.wanted;rw [hg])]
 refine Or.inl (Oper.wp_mono ?_ hw)
 rintro a' w' ⟨v,rfl,hv,hT,hM⟩
 rcases hd with hd|⟨hd,hlt⟩
 ·have ea:a.put o.dst v=a:=by rw [hd];rfl
  have em:(fun t=>if o.dst=some t then v else slot a t)=slot a:=by funext t;rw [hd];simp
  rw [ea]
  rw [em] at hM
  refine ⟨hM,hB.2.1,hB.2.2.1,hB.2.2.2.1,fun j hj hwj hLj=>?_⟩
  rcases hLj with hLj|rfl
  ·exact hSt j _ _ _ (hB.2.2.2.2 j hj hwj hLj) hT
  ·unfold wrS at hwj;rw [ho] at hwj;simp [hd] at hwj
 ·have em:(fun t=>if o.dst=some t then v else slot a t)=slot (a.put o.dst v):=by
   funext t
   rw [hd]
   by_cases h:D.getD i 0=t
   ·subst h
    rw [if_pos rfl,zSe (by rw [hB.2.1];exact hlt)]
   ·rw [if_neg (fun e=>h (Option.some.inj e)),zJb h]
  rw [em] at hM
  refine ⟨hM,by rw [hd];simp [Act.put,hB.2.1],by rw [hd];exact hB.2.2.1,fun t ht=>?_,fun j hj hwj hLj=>?_⟩
  ·rw [hd,zJb (ht i hi)];exact hB.2.2.2.1 t ht
  ·by_cases hji:j=i
   ·subst hji
    rw [hd,zSe (by rw [hB.2.1];exact hlt)];exact hv
   ·rw [hd,zJb (fun h=>hne j hj hji h.symm)]
    exact hSt j _ _ _ (hB.2.2.2.2 j hj hwj (hLj.resolve_right hji)) hT
end
end
end Go.Proofs.YtahfkpjhlbiamaaGreatDoor
