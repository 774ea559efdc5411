/-
  Texts that the proof leans on.
-/
import Derived.BigQuiet
import Derived.WalkKit
import Derived.Lib.BitFns
import Derived.StillTail
import Derived.Below
set_option linter.unusedVariables false
set_option linter.unusedSectionVars false
set_option linter.unusedSimpArgs false
set_option maxRecDepth 20000
namespace Go.Proofs.YtahfkpjhlbiamaaGreatDoor
open Go.RowKit
structure Wd (p:World->Prop) where
 w:World
 h:p w
theorem zEn {P:Program}(p:World->Prop){id:Nat}{Q:Exit->Act->World->Prop}{a:Act}{w:World}{l:List Oper}(hm:P.follows .mixedOrders=true)(hB:Region.lexB .any l.toArray=true)(hp:p w.drew)
  (h:wpQuiet P l.toArray (fun w'=>∃ t:Wd p,w'=t.w) (fun a'=>∀ w',(∃ t:Wd p,w'=t.w)->Q .normal a' w') l a):(Code.region id l.toArray true).wp P Q a w :=
 wp_region_quiet (C:=fun w'=>∃ t:Wd p,w'=t.w) hm hB ⟨⟨_,hp⟩,rfl⟩ (by simpa using h)
theorem zBa {P:Program}{p:World->Prop}{f:FuncId}{args:Array Value}{v:Value}(t:Wd p)(hp:∀ w w',p w->Below w.heap.size w w'->p w')
  (h:Calls P f args t.w fun e w'=>e=.returned v/\Below t.w.heap.size t.w w'):Calls P f args t.w fun e w''=>e=.returned v/\∃ t':Wd p,w''=t'.w :=
 h.mono fun _ w' ⟨h1,h2⟩=>⟨h1,⟨w',hp _ _ t.h h2⟩,rfl⟩
end Go.Proofs.YtahfkpjhlbiamaaGreatDoor

namespace Go.Proofs.YtahfkpjhlbiamaaGreatDoor
theorem zAg:∀ (f x:Nat),0<x->x<2^f->1<=Lib.bitLenAux f x/\2^(Lib.bitLenAux f x-1)<=x/\x<2^Lib.bitLenAux f x
 | 0,x,h0,h=>by simp at h;omega
 | f+1,x,h0,h=>by
  simp only [Lib.bitLenAux]
  rw [if_neg (by omega)]
  by_cases h1:x/2=0
  ·have hx:x=1:=by omega
   subst hx
   have:Lib.bitLenAux f (1/2)=0:=by cases f<;>simp [Lib.bitLenAux]
   rw [this];decide
  ·have ih:=zAg f (x/2) (by omega) (by rw [Nat.pow_succ] at h;omega)
   generalize Lib.bitLenAux f (x/2)=k at ih
   obtain ⟨j,rfl⟩:∃ j,k=j+1:=⟨k-1,by omega⟩
   simp only [Nat.add_sub_cancel] at ih
   refine ⟨by omega,?_,?_⟩
   ·rw [show 1+(j+1)-1=j+1 by omega,Nat.pow_succ];omega
   ·rw [show 1+(j+1)=(j+1)+1 by omega,Nat.pow_succ];omega
theorem zRc (x:Nat)(h0:0<x)(h:x<18446744073709551616):1<=Lib.bitLen x/\Lib.bitLen x<=64/\2^(Lib.bitLen x-1)<=x/\x<2^Lib.bitLen x:=by
 have h1:=zAg 64 x h0 h
 have h2:Lib.bitLen x<=64:=by
  rcases Nat.lt_or_ge 64 (Lib.bitLen x) with h3|h3
  ·exfalso
   have h4:2^64<=2^(Lib.bitLen x-1):=Nat.pow_le_pow_right (by decide) (by omega)
   have h5:2^(Lib.bitLen x-1)<=x:=h1.2.1
   have:(2:Nat)^64=18446744073709551616:=by decide
   omega
  ·exact h3
 exact ⟨h1.1,h2,h1.2.1,h1.2.2⟩
theorem zTx (y:Nat)(h0:0<y)(h:y<18446744073709551616):9223372036854775808<=y*2^(64-Lib.bitLen y)/\y*2^(64-Lib.bitLen y)<18446744073709551616/\64-Lib.bitLen y<64:=by
 obtain ⟨h1,h2,h3,h4⟩:=zRc y h0 h
 generalize hL:Lib.bitLen y=L at *
 have p1:2^(L-1)*2^(64-L)=9223372036854775808:=by rw [← Nat.pow_add,show L-1+(64-L)=63 by omega]
 have p2:2^L*2^(64-L)=18446744073709551616:=by rw [← Nat.pow_add,show L+(64-L)=64 by omega]
 have hp:0<2^(64-L):=Nat.pow_pos (by decide)
 exact ⟨by rw [← p1];exact Nat.mul_le_mul_right _ h3,by rw [← p2];exact Nat.mul_lt_mul_of_pos_right h4 hp,by omega⟩
theorem zSx (hi lo y s:Nat)(hs:s<64)(hh:hi<y)(hl:lo<18446744073709551616)(hy:y*2^s<18446744073709551616) :
  (hi*2^s) ||| (lo/2^(64-s))=hi*2^s+lo/2^(64-s)/\(hi*2^s+lo/2^(64-s))*18446744073709551616+(lo*2^s)%18446744073709551616=(hi*18446744073709551616+lo)*2^s/\hi*2^s+lo/2^(64-s)<y*2^s:=by
 have hp:0<2^s:=Nat.pow_pos (by decide)
 have hq:0<2^(64-s):=Nat.pow_pos (by decide)
 have hpq:2^(64-s)*2^s=18446744073709551616:=by rw [← Nat.pow_add,show 64-s+s=64 by omega]
 have hlt:lo/2^(64-s)<2^s:=by
  rw [Nat.div_lt_iff_lt_mul hq,Nat.mul_comm,hpq];exact hl
 have hsum:lo*2^s=(lo/2^(64-s))*18446744073709551616+(lo*2^s)%18446744073709551616:=by
  have h1:lo*2^s/18446744073709551616=lo/2^(64-s):=by rw [← hpq,Nat.mul_div_mul_right _ _ hp]
  have h2:=Nat.div_add_mod (lo*2^s) 18446744073709551616
  rw [h1] at h2
  omega
 refine ⟨?_,?_,?_⟩
 ·exact nat_join s _ _ (Nat.mul_mod_left _ _) hlt
 ·rw [Nat.add_mul,Nat.add_mul,Nat.mul_right_comm hi 18446744073709551616 (2^s)]
  omega
 ·have:(hi+1)*2^s<=y*2^s:=Nat.mul_le_mul_right _ hh
  rw [Nat.add_mul] at this
  omega
theorem zUx (n y s q r:Nat)(h:n*2^s=q*(y*2^s)+r)(hr:r<y*2^s):q=n/y/\r/2^s=n%y:=by
 have hp:0<2^s:=Nat.pow_pos (by decide)
 have hy:0<y:=by
  rcases Nat.eq_zero_or_pos y with h0|h0
  ·subst h0;simp at hr
  ·exact h0
 have h1:r=(n-q*y)*2^s:=by
  rw [Nat.sub_mul,Nat.mul_assoc];omega
 have h2:n-q*y<y:=by
  rw [h1] at hr;exact Nat.lt_of_mul_lt_mul_right hr
 have h3:q*y<=n:=by
  have:q*y*2^s<=n*2^s:=by rw [h,Nat.mul_assoc];omega
  exact Nat.le_of_mul_le_mul_right this hp
 have h4:n=y*q+(n-q*y):=by rw [Nat.mul_comm y q];omega
 constructor
 ·rw [h4,Nat.mul_add_div hy,Nat.div_eq_of_lt h2];omega
 ·rw [h1,Nat.mul_div_cancel _ hp]
  conv=>rhs;rw [h4]
  rw [Nat.mul_add_mod,Nat.mod_eq_of_lt h2]
end Go.Proofs.YtahfkpjhlbiamaaGreatDoor

namespace Go.Proofs.YtahfkpjhlbiamaaGreatDoor
open Go.RowKit
section
section
variable {P:Program}{ops:Array Oper}{md:Region.Mode}{C:World->Prop}
def zGb (k m:Nat):Array Bool:=(List.replicate k true++List.replicate (m-k) false).toArray
theorem zQf (m:Nat):zGb 0 m=Array.replicate m false:=by
 simp [zGb]
theorem zMd {k m:Nat}(h:k<m):(zGb k m).setIfInBounds k true=zGb (k+1) m:=by
 apply Array.ext
 ·simp [zGb];omega
 ·intro i h1 h2
  have hi:i<m:=by simp [zGb] at h2;omega
  simp only [zGb,List.setIfInBounds_toArray,List.getElem_toArray,List.getElem_set,List.getElem_append,List.length_replicate,List.getElem_replicate]
  split
  ·subst_vars;simp
  ·by_cases hk:i<k
   ·simp [hk,show i<k+1 by omega]
   ·simp [hk,show ¬ i<k+1 by omega]
theorem zRo {k m j:Nat}(h:(zGb k m).getD j true=false):k<=j:=by
 rcases Nat.lt_or_ge j k with h1|h1
 ·simp [zGb,List.getElem?_append,h1] at h
 ·exact h1
def zQl (md:Region.Mode)(ops:Array Oper)(n:Nat):Bool :=
 (List.range ops.size).all fun t=>decide (t<=n)||(List.range t).any fun s=>decide (n<=s)&&Region.waitsFor md ops t s
def zT3 (md:Region.Mode)(ops:Array Oper)(n:Nat):Bool :=
 Region.noSelect ops&&decide (n<ops.size)&&Region.sinkB md ops n&&zQl md ops n&&(List.range n).all fun k=>(Region.ready md ops (zGb k ops.size)).contains k&&Region.free md ops (zGb k ops.size) k
theorem zWk {n:Nat}{done:Array Bool}(hs:Region.sinkB md ops n=true)(hn:n<ops.size)(inv:HeadInv md ops n done) :
  ∀ (d i:Nat),n-i=d->i<n->done.getD i true=false->n ∉ Region.ready md ops done:=by
 intro d
 induction d using Nat.strongRecOn with
 | _ d ih =>
  intro i hd hi hun hr
  obtain ⟨_,ot,hot,hall⟩:=mem_ready.1 hr
  obtain ⟨j,hj,hj2⟩:=List.any_eq_true.1 (List.all_eq_true.1 hs i (List.mem_range.2 hi))
  simp only [Bool.and_eq_true,decide_eq_true_eq] at hj2
  obtain ⟨oj,hoj,e,he,hb,hon⟩:=Region.waitsFor_spec hj2.2
  have hjle:j<=n:=by have:=List.mem_range.1 hj;omega
  by_cases hjn:j=n
  ·subst hjn
   obtain rfl:oj=ot:=Option.some.inj (hoj.symm.trans hot)
   have h2:=hall e he hb
   rw [hon,getD_both hun] at h2
   cases h2
  ·cases hl:done.getD j false with
   | true =>
    have h2:=inv.closed j oj hoj hl e he hb
    rw [hon,getD_both hun] at h2
    cases h2
   | false =>
    exact ih (n-j) (by omega) j rfl (by omega) (getD_in (by rw [inv.size];omega) hl) hr
theorem zMh {n i:Nat}{done:Array Bool}(hs:Region.sinkB md ops n=true)(hc:zQl md ops n=true)(hn:n<ops.size)(inv:HeadInv md ops n done)(hi:i<n)(hun:done.getD i true=false)(t:Nat)(ht:n<=t):t ∉ Region.ready md ops done:=by
 intro hr
 by_cases htn:t=n
 ·subst htn;exact zWk hs hn inv _ i rfl hi hun hr
 ·obtain ⟨_,ot,hot,hall⟩:=mem_ready.1 hr
  have htlt:t<ops.size:=(Array.getElem?_eq_some_iff.1 hot).1
  have h1:=List.all_eq_true.1 hc t (List.mem_range.2 htlt)
  simp only [Bool.or_eq_true,decide_eq_true_eq] at h1
  rcases h1 with h1|h1
  ·omega
  ·obtain ⟨s,hsm,hs2⟩:=List.any_eq_true.1 h1
   simp only [Bool.and_eq_true,decide_eq_true_eq] at hs2
   obtain ⟨o',ho',e,he,hb,hon⟩:=Region.waitsFor_spec hs2.2
   obtain rfl:o'=ot:=Option.some.inj (ho'.symm.trans hot)
   have hst:=List.mem_range.1 hsm
   have h2:=hall e he hb
   rw [hon,getD_both (inv.tail s hs2.1 (by omega))] at h2
   cases h2
def zIy (P:Program)(md:Region.Mode)(ops:Array Oper)(C:World->Prop)(n:Nat)(L:Array Bool->Act->Prop):Nat->Array Bool->Act->Prop
 | 0,done,a=>L done a
 | f+1,done,a=>Region.ready md ops done≠[]/\∀ i ∈ Region.ready md ops done,i<n/\qOp P ops C i (zIy P md ops C n L f (done.setIfInBounds i true)) a
theorem zKo {n g:Nat}{L:Array Bool->Act->Prop}{Q:Exit->Act->World->Prop}(hL:∀ done a w,C w->L done a->wpAny P md ops Q g done a w) :
  ∀ (f:Nat) (done:Array Bool) (a:Act) (w:World),C w->zIy P md ops C n L f done a->wpAny P md ops Q (f+g) done a w
 | 0,done,a,w,hw,h=>by rw [Nat.zero_add];exact hL _ _ _ hw h
 | f+1,done,a,w,hw,h=>by
  rw [show f+1+g=(f+g)+1 by omega]
  exact ⟨fun h0=>absurd h0 h.1,fun i hi=>wpOp_of_qOp hw (fun a' w' hw' h'=>zKo hL f _ a' w' hw' h') (h.2 i hi).2⟩
theorem zIq {n i:Nat}{oi:Oper}{v:Value}{L:Array Bool->Act->Prop}(hi:ops[i]?=some oi)(hsel:∀ (j:Nat) (o:Oper) cs b,ops[j]?=some o->o.op≠.select cs b)
  (hs:Region.sinkB md ops n=true) (hc:zQl md ops n=true) (hn:n<ops.size) (hin:i<n) (hend:∀ done a,L done a->∀ j ∈ Region.ready md ops done,n<=j) :
  ∀ (f:Nat) (done:Array Bool) (a:Act),HeadInv md ops n done ->
   (∀ j oj,ops[j]?=some oj->j≠i->done.getD j true=false->(∀ e ∈ oj.after,Region.binds md e=true->e.on≠i)->oi.apart ops oj=true) ->
   i ∈ Region.ready md ops done->YieldsIn P ops C oi v a->zIy P md ops C n L f (done.setIfInBounds i true) (a.put oi.dst v)->zIy P md ops C n L (f+1) done a:=by
 intro f
 induction f with
 | zero =>
  intro done a inv _ hr hy H
  refine ⟨fun h=>(by rw [h] at hr;cases hr),fun j hj=>?_⟩
  have hjn:j<n:=Nat.lt_of_not_le fun h=>zMh hs hc hn inv hin (mem_ready.1 hr).1 j h hj
  refine ⟨hjn,?_⟩
  by_cases hji:j=i
  ·subst hji;exact hy.qOp hi H
  ·have:=hend _ _ H j (ready_mono hj hji)
   omega
 | succ f ih =>
  intro done a inv hfree hr hy H
  have hun:=(mem_ready.1 hr).1
  refine ⟨fun h=>(by rw [h] at hr;cases hr),fun j hj=>?_⟩
  have hjn:j<n:=Nat.lt_of_not_le fun h=>zMh hs hc hn inv hin hun j h hj
  refine ⟨hjn,?_⟩
  by_cases hji:j=i
  ·subst hji;exact hy.qOp hi H
  ·obtain ⟨hjun,oj,hoj,hall⟩:=mem_ready.1 hj
   have hnot:∀ e ∈ oj.after,Region.binds md e=true->e.on≠i:=fun e he hb heq=>by
    have h1:=hall e he hb
    rw [heq,getD_both hun] at h1
    cases h1
   have h2:=qOp_put hoj (hfree j oj hoj hji hjun hnot) (fun cs b=>hsel i oi cs b hi) (fun cs b=>hsel j oj cs b hoj) hy (H.2 j (ready_mono hj hji)).2
   refine qOp_mono (fun a' h3=>ih (done.setIfInBounds j true) a' (inv.set hj hjn) (fun k ok hk hki hku hno=>hfree k ok hk hki ?_ hno) (ready_mono hr (Ne.symm hji)) h3.1 ?_) h2
   ·by_cases hjk:j=k
    ·subst hjk;exact hjun
    ·rw [getD_set_ne true hjk] at hku;exact hku
   ·rw [Array.setIfInBounds_comm _ _ hji]
    exact h3.2
theorem zJo {n:Nat}{K:Act->Prop}(hsel:Region.noSelect ops=true)(hs:Region.sinkB md ops n=true)(hc:zQl md ops n=true)(hn:n<ops.size)
  (hB:∀ k,k<n->(Region.ready md ops (zGb k ops.size)).contains k=true/\Region.free md ops (zGb k ops.size) k=true) :
  ∀ (l:List Oper) (k:Nat) (a:Act),(∀ j,j<l.length->l[j]?=ops[k+j]?)->k+l.length=n->HeadInv md ops n (zGb k ops.size) ->
  wpQuiet P ops C K l a->zIy P md ops C n (fun done' a'=>done'=zGb n ops.size/\K a') l.length (zGb k ops.size) a
 | [],k,a,_,hk,_,h=>by
  have:k=n:=by simpa using hk
  subst this
  exact ⟨rfl,h⟩
 | o::l,k,a,hl,hk,inv,h=>by
  have h0:ops[k]?=some o:=by simpa using (hl 0 (by simp)).symm
  have hkn:k<n:=by simp only [List.length_cons] at hk;omega
  obtain ⟨hr,hf⟩:=hB k hkn
  have hr':k ∈ Region.ready md ops (zGb k ops.size):=by simpa using hr
  have hst:qOp P ops C k (wpQuiet P ops C K l) a:=by unfold qOp;simp only [h0];exact h
  obtain ⟨v,hy,hK⟩:=yieldsIn_of_qOp h0 hst
  have inv':=inv.set hr' hkn
  rw [zMd (by omega)] at inv'
  refine zIq h0 (Region.noSelect_spec hsel) hs hc hn hkn (fun done' a' hL j hj=>?_) l.length _ a inv (Region.free_spec h0 hf) hr' hy ?_
  ·rw [hL.1] at hj;exact zRo (mem_ready.1 hj).1
  ·rw [zMd (by omega)]
   exact zJo hsel hs hc hn hB l (k+1) _ (fun j hj=>by have:=hl (j+1) (by simp;omega);simpa [Nat.add_assoc,Nat.add_comm 1 j] using this) (by simp only [List.length_cons] at hk;omega) inv' hK
def zBv:Op->Bool
 | .move _=>true
 | .assign _=>true
 | .extract _ _=>true
 | _=>false
theorem zGn {o:Oper}{a:Act}{w:World}{K:Act->World->Prop}{Q:Exit->Act->World->Prop}(hk:zBv o.op=true)(h:o.wp P a w K Q∨(o.asks P a w/\LetsOut Q)) :
  ∃ v,(∀ w,(execOp a.eval o).run P w=.ok (.value v) w)/\K (a.put o.dst v) w:=by
 have key:∀ v,execOp a.eval o=pure (.value v)->∃ v,(∀ w,(execOp a.eval o).run P w=.ok (.value v) w)/\K (a.put o.dst v) w:=by
  intro v hv
  rcases h with h|⟨h,_⟩
  ·refine ⟨v,fun w=>by rw [hv];rfl,?_⟩
   unfold Oper.wp at h
   rw [hv] at h
   exact h
  ·exfalso
   have h1:=h.1
   rw [hv] at h1
   have e:(Sem.runT P (pure (Next.value v)) w #[]).2=#[]:=rfl
   rw [e] at h1
   simp at h1
 cases hop:o.op<;>simp only [hop,zBv,Bool.false_eq_true] at hk
 case move x=>exact key (a.eval x) (by simp [execOp,hop])
 case assign x=>exact key (a.eval x) (by simp [execOp,hop])
 case extract x ix =>
  have bad:∀ st,execOp a.eval o=((stuck st:Sem Value) >>= fun v=>pure (Next.value v))->False:=by
   intro st hst
   rcases h with h|⟨h,_⟩
   ·unfold Oper.wp at h
    rw [hst] at h
    exact h
   ·have h1:=h.1
    rw [hst] at h1
    have e:(Sem.runT P ((stuck st:Sem Value) >>= fun v=>pure (Next.value v)) w #[]).2=#[]:=rfl
    rw [e] at h1
    simp at h1
  cases hx:a.eval x
  case tuple vs =>
   cases hv:vs[ix]? with
   | some v=>exact key v (by simp [execOp,hop,Instr.extract,hx,hv])
   | none=>exact (bad "Extract: no such component" (by simp only [execOp,hop,Instr.extract,hx,hv])).elim
  all_goals exact (bad "Extract: tuple expected" (by simp only [execOp,hop,Instr.extract,hx])).elim
def zYt (md:Region.Mode)(ops:Array Oper)(n:Nat):Bool :=
 Region.noSelect ops&&(List.range (ops.size-n)).all (fun j=>decide (Region.ready md ops (zGb (n+j) ops.size)=[n+j])||((Region.ready md ops (zGb (n+j) ops.size)).contains (n+j)&&Region.free md ops (zGb (n+j) ops.size) (n+j)&&((ops[n+j]?).map fun o=>zBv o.op&&o.guard.isNone).getD false))&&(Region.ready md ops (zGb ops.size ops.size)).isEmpty
theorem zLh {Q:Exit->Act->World->Prop}(hsel:Region.noSelect ops=true)(hQ:∀ c a d v w,Q (.panic c) (Act.put a d v) w->Q (.panic c) a w)(hend:Region.ready md ops (zGb ops.size ops.size)=[]) :
  ∀ (l:List Oper) (k:Nat) (a:Act) (w:World),(∀ j,l[j]?=ops[k+j]?)->k+l.length=ops.size ->
  (∀ j,k<=j->j<ops.size->Region.ready md ops (zGb j ops.size)=[j]∨((Region.ready md ops (zGb j ops.size)).contains j=true/\Region.free md ops (zGb j ops.size) j=true/\∃ o,ops[j]?=some o/\zBv o.op=true/\o.guard=none)) ->
  wpList P ops Q l a w->wpAny P md ops Q l.length (zGb k ops.size) a w
 | [],k,a,w,_,hk,_,h=>by
  have:k=ops.size:=by simpa using hk
  subst this
  exact ⟨hend,h⟩
 | o::l,k,a,w,hl,hk,hB,h=>by
  have h0:ops[k]?=some o:=by simpa using (hl 0).symm
  have hks:k<ops.size:=by simp only [List.length_cons] at hk;omega
  have hl':∀ j,l[j]?=ops[k+1+j]?:=fun j=>by have:=hl (j+1);simpa [Nat.add_assoc,Nat.add_comm 1 j] using this
  have hk':k+1+l.length=ops.size:=by simp only [List.length_cons] at hk;omega
  have ih:=fun a w=>zLh hsel hQ hend l (k+1) a w hl' hk' (fun j h1 h2=>hB j (by omega) h2)
  rcases hB k (Nat.le_refl _) hks with hr|⟨hr,hf,o',ho',hwl,hg⟩
  ·refine ⟨fun h1=>(by rw [hr] at h1;cases h1),fun i hi=>?_⟩
   rw [hr] at hi
   obtain rfl:i=k:=by simpa using hi
   rw [zMd hks]
   have hw:wpOp P ops Q i (wpList P ops Q l) a w:=by unfold wpOp;simp only [h0];exact h
   exact wpOp_mono (fun a' w' h'=>ih a' w' h') hw
  ·obtain rfl:o'=o:=Option.some.inj (ho'.symm.trans h0)
   have hwt:Region.wanted o' (yielded ops a.tmps)=true:=by unfold Region.wanted;rw [hg]
   unfold wpList at h
   rw [if_pos hwt] at h
   obtain ⟨v,hv,hK⟩:=zGn hwl h
   refine wpAny_take h0 hsel hf hr (fun c a w=>hQ c a _ v w) (Or.inl ⟨hwt,hv⟩) ?_
   rw [zMd hks]
   exact ih _ _ hK
theorem zYe {K K':Act->Prop}(h:∀ a,K a->K' a):∀ (l:List Oper) (a:Act),wpQuiet P ops C K l a->wpQuiet P ops C K' l a
 | [],a,hh=>h a hh
 | o::l,a,hh=>by
  unfold wpQuiet at *
  split
  ·rename_i hw;rw [if_pos hw] at hh;exact Oper.quiet_mono (zYe h l) hh
  ·rename_i hw;rw [if_neg hw] at hh;exact zYe h l _ hh
abbrev Bk (w:World):World->Prop:=fun W=>Below w.heap.size w W
theorem zC7 {w:World}(X:World->Prop):(∀ w',(∃ t:Wd (Bk w),w'=t.w)->X w')=(∀ w',Below w.heap.size w w'->X w') :=
 propext ⟨fun h w' hb=>h w' ⟨⟨w',hb⟩,rfl⟩,fun h w' ⟨t,e⟩=>h w' (by rw [e];exact t.h)⟩
theorem zHa {w:World}:∀ v v':World,Bk w v->Below v.heap.size v v'->Bk w v':=fun v v' h hb=>h.trans (hb.mono h.size)
theorem zI7 {id:Nat}{Q:Exit->Act->World->Prop}{a:Act}{w:World}{l:List Oper}(n:Nat)(hm:P.follows .mixedOrders=true)(hB:zT3 .any l.toArray n=true)
  (h:Nonempty (Wd (Bk w))->(∀ (t:Wd (Bk w)) (b o:Nat),b<w.heap.size->t.w.cell? ⟨b,o,none⟩=w.cell? ⟨b,o,none⟩) ->
   wpQuiet P l.toArray (fun w'=>∃ t:Wd (Bk w),w'=t.w) (fun a'=>∀ w',Below w.heap.size w w'->wpAny P .any l.toArray Q (l.length-n) (zGb n l.length) a' w') (l.take n) a):(Code.region id l.toArray true).wp P Q a w:=by
 simp only [zT3,Bool.and_eq_true,decide_eq_true_eq] at hB
 obtain ⟨⟨⟨⟨hsel,hn⟩,hs⟩,hc⟩,hlex⟩:=hB
 have hn':n<l.length:=by simpa using hn
 have htl:(l.take n).length=n:=by simp;omega
 have h':=h ⟨⟨w,Below.refl _ _⟩⟩ fun t b o hb=>t.h.cell (p:=⟨b,o,none⟩) hb
 simp only [← zC7] at h'
 have hsz:l.toArray.size=l.length:=by simp
 have inv0:HeadInv .any l.toArray n (zGb 0 l.toArray.size):=by
  rw [zQf]
  exact ⟨by simp,fun j oj _ hl=>(by rw [getD_replicate_false] at hl;cases hl),fun t _ ht=>getD_in (by simpa using ht) (getD_replicate_false _ _)⟩
 have H:=zJo (md:=.any) hsel hs hc hn (fun k hk=>by
  have:=List.all_eq_true.1 hlex k (List.mem_range.2 hk)
  simpa only [Bool.and_eq_true] using this) (l.take n) 0 a (fun j hj=>by
  have hj':j<n:=by rw [htl] at hj;exact hj
  simp [hj']) (by simpa using htl) inv0 h'
 refine wp_region_any hm ?_
 have:=zKo (Q:=Q) (g:=l.length-n) (fun done a' w' hw' hL=>by
  rw [hL.1,hsz]
  exact hL.2 w' hw') _ _ _ w.drew ⟨⟨w.drew,(Below.refl _ _).drew⟩,rfl⟩ H
 rw [htl,show n+(l.length-n)=l.toArray.size by rw [hsz];omega,zQf] at this
 exact this
theorem zZa {id:Nat}{Q:Exit->Act->World->Prop}{a:Act}{w:World}{l:List Oper}(n:Nat)(hm:P.follows .mixedOrders=true)(hB:zT3 .any l.toArray n=true)(hR:zYt .any l.toArray n=true)(hQ:∀ c a d v w,Q (.panic c) (Act.put a d v) w->Q (.panic c) a w)
  (h:Nonempty (Wd (Bk w))->(∀ (t:Wd (Bk w)) (b o:Nat),b<w.heap.size->t.w.cell? ⟨b,o,none⟩=w.cell? ⟨b,o,none⟩) ->
   wpQuiet P l.toArray (fun w'=>∃ t:Wd (Bk w),w'=t.w) (fun a'=>∀ w',Below w.heap.size w w'->wpList P l.toArray Q (l.drop n) a' w') (l.take n) a):(Code.region id l.toArray true).wp P Q a w:=by
 refine zI7 n hm hB fun h1 h2=>?_
 have hsz:l.toArray.size=l.length:=by simp
 have hn:n<l.length:=by
  simp only [zT3,Bool.and_eq_true,decide_eq_true_eq] at hB
  have:=hB.1.1.1.2;rwa [hsz] at this
 simp only [zYt,Bool.and_eq_true,List.isEmpty_iff] at hR
 obtain ⟨⟨hsel,hall⟩,hend⟩:=hR
 refine zYe (fun a' h3 w' hw'=>?_) (l.take n) a (h h1 h2)
 have:=zLh (P:=P) (md:=.any) (Q:=Q) hsel hQ hend (l.drop n) n a' w' (fun j=>by simp [List.getElem?_drop]) (by simp;omega) (fun j hj1 hj2=>by
  have h5:=List.all_eq_true.1 hall (j-n) (List.mem_range.2 (by omega))
  rw [show n+(j-n)=j by omega] at h5
  simp only [Bool.or_eq_true,Bool.and_eq_true,decide_eq_true_eq] at h5
  rcases h5 with h5|⟨⟨h5,h6⟩,h7⟩
  ·exact Or.inl h5
  ·refine Or.inr ⟨h5,h6,?_⟩
   cases ho:l.toArray[j]? with
   | none=>rw [ho] at h7;cases h7
   | some o =>
    rw [ho] at h7
    simp only [Option.map_some,Option.getD_some,Bool.and_eq_true,Option.isNone_iff_eq_none] at h7
    exact ⟨o,rfl,h7.1,h7.2⟩) (h3 w' hw')
 rw [hsz] at this
 simpa using this
theorem zJf {id:Nat}{Q:Exit->Act->World->Prop}{a:Act}{w:World}{l:List Oper}(hm:P.follows .mixedOrders=true)(hB:Region.lexB .any l.toArray=true)
  (h:Nonempty (Wd (Bk w))->(∀ (t:Wd (Bk w)) (b o:Nat),b<w.heap.size->t.w.cell? ⟨b,o,none⟩=w.cell? ⟨b,o,none⟩) ->
   wpQuiet P l.toArray (fun w'=>∃ t:Wd (Bk w),w'=t.w) (fun a'=>∀ w',Below w.heap.size w w'->Q .normal a' w') l a):(Code.region id l.toArray true).wp P Q a w:=by
 refine zEn (Bk w) hm hB (Below.refl _ _).drew ?_
 simp only [zC7]
 exact h ⟨⟨w,Below.refl _ _⟩⟩ fun t b o hb=>t.h.cell (p:=⟨b,o,none⟩) hb
end
end
section
section
variable {P:Program}{ops:Array Oper}{md:Region.Mode}{C:World->Prop}{ph:Option Nat->World->Prop}
def YieldsAll (P:Program)(ops:Array Oper)(ph:Option Nat->World->Prop)(o:Oper)(v:Value)(a:Act):Prop :=
 (Region.wanted o (yielded ops a.tmps)=true/\∀ al w,ph al w->o.quietAt P a (ph al) w v)∨(Region.wanted o (yielded ops a.tmps)=false/\v=undef)
theorem YieldsAll.of_same {o:Oper}{v:Value}{a a':Act}(hy:YieldsAll P ops ph o v a)(he:execOp a'.eval o=execOp a.eval o)(hw:Region.wanted o (yielded ops a'.tmps)=Region.wanted o (yielded ops a.tmps)):YieldsAll P ops ph o v a':=by
 unfold YieldsAll Oper.quietAt at *
 rw [he,hw]
 exact hy
theorem YieldsAll.yin {o:Oper}{v:Value}{a:Act}(hy:YieldsAll P ops ph o v a)(al:Option Nat):YieldsIn P ops (ph al) o v a:=by
 rcases hy with ⟨h1,h2⟩|⟨h1,h2⟩
 ·exact Or.inl ⟨h1,fun w hw=>h2 al w hw⟩
 ·exact Or.inr ⟨h1,h2⟩
def zDs (P:Program)(ops:Array Oper)(ph:Option Nat->World->Prop)(K:Act->Prop):List Oper->Act->Prop
 | [],a=>K a
 | o::l,a=>∃ v,YieldsAll P ops ph o v a/\zDs P ops ph K l (a.put o.dst v)
theorem zCl {b:Act}{x:Option Tmp}{v:Value}{d:Nat}(h:x≠some d):(b.put x v).tmps[d]?=b.tmps[d]?:=by
 cases x with
 | none=>rfl
 | some t =>
  have:t≠d:=fun e=>h (by rw [e])
  simp [Act.put,Array.getElem?_setIfInBounds_ne this]
theorem zTh {a':Act}{d:Nat}:∀ (l:List Oper) (b:Act),(∀ o ∈ l,o.dst≠some d)->wpQuiet P ops C (fun a=>a=a') l b->a'.tmps[d]?=b.tmps[d]?
 | [],b,_,h=>by
  have h':b=a':=h
  rw [h']
 | o::l,b,hd,h=>by
  unfold wpQuiet at h
  split at h
  ·obtain ⟨v,_,h2⟩:=h
   rw [zTh l _ (fun o' ho'=>hd o' (List.mem_cons_of_mem _ ho')) h2,zCl (hd o List.mem_cons_self)]
  ·rw [zTh l _ (fun o' ho'=>hd o' (List.mem_cons_of_mem _ ho')) h,zCl (hd o List.mem_cons_self)]
def zYy (m:Nat):List Oper->Bool
 | []=>true
 | o::l=>(match o.dst with
  | some d=>decide (d<m)&&l.all (fun o'=>o'.dst != some d)
  | none=>false)&&zYy m l
theorem zXj {a':Act}(h0:∃ w,ph none w):∀ (l:List Oper) (a:Act),zYy a.tmps.size l=true->(∀ al,(∃ w,ph al w)->wpQuiet P ops (ph al) (fun b=>b=a') l a)->zDs P ops ph (fun b=>b=a') l a
 | [],a,_,h=>h none h0
 | o::l,a,hd,h=>by
  unfold zYy at hd
  cases ho:o.dst with
  | none=>rw [ho] at hd;simp at hd
  | some d =>
   rw [ho] at hd
   simp only [Bool.and_eq_true,decide_eq_true_eq,List.all_eq_true,bne_iff_ne] at hd
   obtain ⟨⟨hlt,hne⟩,hds⟩:=hd
   have hsz:∀ v,zYy (a.put (some d) v).tmps.size l=true:=fun v=>by simpa [Act.put] using hds
   by_cases hw:Region.wanted o (yielded ops a.tmps)=true
   ·have hv:∀ al,(∃ w,ph al w)->∃ v,(∀ w,ph al w->o.quietAt P a (ph al) w v)/\wpQuiet P ops (ph al) (fun b=>b=a') l (a.put (some d) v):=fun al hal=>by
     have h1:=h al hal
     unfold wpQuiet at h1
     rw [if_pos hw] at h1
     unfold Oper.quiet at h1
     rw [ho] at h1
     exact h1
    have key:∀ al v,wpQuiet P ops (ph al) (fun b=>b=a') l (a.put (some d) v)->a'.tmps[d]?=some v:=fun al v hr=>by
     rw [zTh l _ (fun o' ho'=>hne o' ho') hr]
     simp [Act.put,hlt]
    obtain ⟨v0,q0,r0⟩:=hv none h0
    have hk:=key none v0 r0
    have same:∀ al,(∃ w,ph al w)->(∀ w,ph al w->o.quietAt P a (ph al) w v0)/\wpQuiet P ops (ph al) (fun b=>b=a') l (a.put (some d) v0):=fun al hal=>by
     obtain ⟨v1,q1,r1⟩:=hv al hal
     have:v1=v0:=Option.some.inj ((key al v1 r1).symm.trans hk)
     subst this
     exact ⟨q1,r1⟩
    refine ⟨v0,Or.inl ⟨hw,fun al w hw'=>(same al ⟨w,hw'⟩).1 w hw'⟩,?_⟩
    rw [ho]
    exact zXj h0 l _ (hsz v0) (fun al hal=>(same al hal).2)
   ·refine ⟨undef,Or.inr ⟨by simpa using hw,rfl⟩,?_⟩
    rw [ho]
    refine zXj h0 l _ (hsz undef) (fun al hal=>?_)
    have h1:=h al hal
    unfold wpQuiet at h1
    rw [if_neg hw,ho] at h1
    exact h1
def zRl (md:Region.Mode)(ops:Array Oper)(n ia:Nat):Bool :=
 (List.range ops.size).all fun t=>decide (t<=n)||t==ia||(List.range t).any fun s=>decide (n<=s)&&s != ia&&Region.waitsFor md ops t s
def headA (md:Region.Mode)(ops:Array Oper)(n ia:Nat):Bool :=
 Region.noSelect ops&&decide (n<ia)&&decide (ia<ops.size)&&Region.sinkB md ops n&&zRl md ops n ia&&!Region.waitsFor md ops n ia&&((List.range n).all fun k=>(Region.ready md ops (zGb k ops.size)).contains k&&Region.free md ops (zGb k ops.size) k) &&
  (match ops[ia]? with
   | some oa=>oa.guard.isNone&&(List.range n).all fun j=>(match ops[j]? with
    | some oj=>oa.apart ops oj
    | none=>false)
   | none=>false)
theorem zJp {n ia i:Nat}{done d2:Array Bool}(hs:Region.sinkB md ops n=true)(hc:zRl md ops n ia=true)(hw:Region.waitsFor md ops n ia=false)(hn:n<ia)(hia:ia<ops.size)(inv:HeadInv md ops n done)(hd2:d2=done∨d2=done.setIfInBounds ia true)(hi:i<n)(hun:done.getD i true=false)(t:Nat)(ht:n<=t)(hta:t≠ia):t ∉ Region.ready md ops d2:=by
 intro hr
 have hback:∀ j,j≠ia->d2.getD j false=done.getD j false:=fun j hj=>by
  rcases hd2 with rfl|rfl
  ·rfl
  ·rw [getD_set_ne false (fun h=>hj h.symm)]
 by_cases htn:t=n
 ·subst htn
  refine zWk hs (by omega) inv _ i rfl hi hun (mem_ready.2 ?_)
  obtain ⟨h1,o,ho,hall⟩:=mem_ready.1 hr
  refine ⟨inv.tail t (Nat.le_refl _) (by omega),o,ho,fun e he hb=>?_⟩
  by_cases hea:e.on=ia
  ·exfalso
   unfold Region.waitsFor at hw
   rw [ho] at hw
   have:=Array.any_eq_false.1 hw
   obtain ⟨k,hk,rfl⟩:=Array.getElem_of_mem he
   exact this k hk (by simp [hb,hea])
  ·rw [← hback _ hea];exact hall e he hb
 ·obtain ⟨_,ot,hot,hall⟩:=mem_ready.1 hr
  have htlt:t<ops.size:=(Array.getElem?_eq_some_iff.1 hot).1
  have h1:=List.all_eq_true.1 hc t (List.mem_range.2 htlt)
  simp only [Bool.or_eq_true,decide_eq_true_eq,beq_iff_eq] at h1
  rcases h1 with (h1|h1)|h1
  ·omega
  ·exact hta h1
  ·obtain ⟨s,hsm,hs2⟩:=List.any_eq_true.1 h1
   simp only [Bool.and_eq_true,decide_eq_true_eq,bne_iff_ne] at hs2
   obtain ⟨o',ho',e,he,hb,hon⟩:=Region.waitsFor_spec hs2.2
   obtain rfl:o'=ot:=Option.some.inj (ho'.symm.trans hot)
   have hst:=List.mem_range.1 hsm
   have h2:=hall e he hb
   rw [hon,hback _ hs2.1.2,getD_both (inv.tail s hs2.1.1 (by omega))] at h2
   cases h2
def zNu (P:Program)(md:Region.Mode)(ops:Array Oper)(ph:Option Nat->World->Prop)(n ia:Nat)(L:Array Bool->Act->Prop):Nat->Array Bool->Act->Prop
 | 0,done,a=>L done a
 | f+1,done,a=>(∃ i ∈ Region.ready md ops done,i≠ia)/\∀ i ∈ Region.ready md ops done,i≠ia->i<n/\∃ oi v,ops[i]?=some oi/\YieldsAll P ops ph oi v a/\zNu P md ops ph n ia L f (done.setIfInBounds i true) (a.put oi.dst v)
theorem zJq {n ia i:Nat}{oi:Oper}{v:Value}{L:Array Bool->Act->Prop}(hi:ops[i]?=some oi)(hsel:∀ (j:Nat) (o:Oper) cs b,ops[j]?=some o->o.op≠.select cs b)
  (hs:Region.sinkB md ops n=true) (hc:zRl md ops n ia=true) (hw:Region.waitsFor md ops n ia=false) (hn:n<ia) (hia:ia<ops.size) (hin:i<n) (hend:∀ done a,L done a->∀ j ∈ Region.ready md ops done,n<=j) :
  ∀ (f:Nat) (done:Array Bool) (a:Act),HeadInv md ops n done ->
   (∀ j oj,ops[j]?=some oj->j≠i->done.getD j true=false->(∀ e ∈ oj.after,Region.binds md e=true->e.on≠i)->oi.apart ops oj=true) ->
   i ∈ Region.ready md ops done->YieldsAll P ops ph oi v a->zNu P md ops ph n ia L f (done.setIfInBounds i true) (a.put oi.dst v)->zNu P md ops ph n ia L (f+1) done a:=by
 intro f
 induction f with
 | zero =>
  intro done a inv _ hr hy H
  refine ⟨⟨i,hr,by omega⟩,fun j hj hja=>?_⟩
  have hjn:j<n:=Nat.lt_of_not_le fun h=>zJp hs hc hw hn hia inv (Or.inl rfl) hin (mem_ready.1 hr).1 j h hja hj
  refine ⟨hjn,?_⟩
  by_cases hji:j=i
  ·subst hji;exact ⟨oi,v,hi,hy,H⟩
  ·have:=hend _ _ H j (ready_mono hj hji)
   omega
 | succ f ih =>
  intro done a inv hfree hr hy H
  have hun:=(mem_ready.1 hr).1
  refine ⟨⟨i,hr,by omega⟩,fun j hj hja=>?_⟩
  have hjn:j<n:=Nat.lt_of_not_le fun h=>zJp hs hc hw hn hia inv (Or.inl rfl) hin hun j h hja hj
  refine ⟨hjn,?_⟩
  by_cases hji:j=i
  ·subst hji;exact ⟨oi,v,hi,hy,H⟩
  ·obtain ⟨hjun,oj,hoj,hall⟩:=mem_ready.1 hj
   have hnot:∀ e ∈ oj.after,Region.binds md e=true->e.on≠i:=fun e he hb heq=>by
    have h1:=hall e he hb
    rw [heq,getD_both hun] at h1
    cases h1
   obtain ⟨_,oj',u,hoj',hyj,Hj⟩:=H.2 j (ready_mono hj hji) hja
   obtain rfl:oj'=oj:=Option.some.inj (hoj'.symm.trans hoj)
   obtain ⟨h1,h2,h3⟩:=Oper.apart_spec (hfree j oj' hoj hji hjun hnot)
   refine ⟨oj',u,hoj,hyj.of_same (execOp_put oj' (fun cs b=>hsel j oj' cs b hoj) a oi.dst v h1).symm (wanted_put oj' a oi.dst v h1).symm,?_⟩
   refine ih (done.setIfInBounds j true) (a.put oj'.dst u) (inv.set hj hjn) (fun k ok hk hki hku hno=>hfree k ok hk hki ?_ hno) (ready_mono hr (Ne.symm hji)) (hy.of_same (execOp_put oi (fun cs b=>hsel i oi cs b hi) a oj'.dst u h3) (wanted_put oi a oj'.dst u h3)) ?_
   ·by_cases hjk:j=k
    ·subst hjk;exact hjun
    ·rw [getD_set_ne true hjk] at hku;exact hku
   ·rw [Array.setIfInBounds_comm _ _ hji,← Act.put_comm a v u h2]
    exact Hj
theorem zLo {n ia:Nat}{K:Act->Prop}(hsel:Region.noSelect ops=true)(hs:Region.sinkB md ops n=true)(hc:zRl md ops n ia=true)(hw:Region.waitsFor md ops n ia=false)(hn:n<ia)(hia:ia<ops.size)
  (hB:∀ k,k<n->(Region.ready md ops (zGb k ops.size)).contains k=true/\Region.free md ops (zGb k ops.size) k=true) :
  ∀ (l:List Oper) (k:Nat) (a:Act),(∀ j,j<l.length->l[j]?=ops[k+j]?)->k+l.length=n->HeadInv md ops n (zGb k ops.size) ->
  zDs P ops ph K l a->zNu P md ops ph n ia (fun done' a'=>done'=zGb n ops.size/\K a') l.length (zGb k ops.size) a
 | [],k,a,_,hk,_,h=>by
  have:k=n:=by simpa using hk
  subst this
  exact ⟨rfl,h⟩
 | o::l,k,a,hl,hk,inv,h=>by
  have h0:ops[k]?=some o:=by simpa using (hl 0 (by simp)).symm
  have hkn:k<n:=by simp only [List.length_cons] at hk;omega
  obtain ⟨hr,hf⟩:=hB k hkn
  have hr':k ∈ Region.ready md ops (zGb k ops.size):=by simpa using hr
  obtain ⟨v,hy,hK⟩:=h
  have inv':=inv.set hr' hkn
  rw [zMd (by omega)] at inv'
  refine zJq h0 (Region.noSelect_spec hsel) hs hc hw hn hia hkn (fun done' a' hL j hj=>?_) l.length _ a inv (Region.free_spec h0 hf) hr' hy ?_
  ·rw [hL.1] at hj;exact zRo (mem_ready.1 hj).1
  ·rw [zMd (by omega)]
   exact zLo hsel hs hc hw hn hia hB l (k+1) _ (fun j hj=>by have:=hl (j+1) (by simp;omega);simpa [Nat.add_assoc,Nat.add_comm 1 j] using this) (by simp only [List.length_cons] at hk;omega) inv' hK
theorem zJl {n ia g1 da g:Nat}{oa:Oper}{L:Array Bool->Act->Prop}{Q:Exit->Act->World->Prop}(hsel:∀ (j:Nat) (o:Oper) cs b,ops[j]?=some o->o.op≠.select cs b)
  (hs:Region.sinkB md ops n=true) (hc:zRl md ops n ia=true) (hw:Region.waitsFor md ops n ia=false) (hn:n<ia) (hia:ia<ops.size) (hoa:ops[ia]?=some oa) (hda:oa.dst=some da)
  (hdep:∀ j oj,j<n->ops[j]?=some oj->(∀ e ∈ oj.after,Region.binds md e=true->e.on≠ia)/\oa.apart ops oj=true)
  (hL:∀ done a w,ph (some g) w->L done a->wpAny P md ops Q g1 (done.setIfInBounds ia true) (a.put (some da) (.pointer (some ⟨g,0,none⟩))) w) :
  ∀ (f:Nat) (done:Array Bool) (a:Act) (w:World),HeadInv md ops n done->ph (some g) w->zNu P md ops ph n ia L f done a->wpAny P md ops Q (f+g1) (done.setIfInBounds ia true) (a.put (some da) (.pointer (some ⟨g,0,none⟩))) w
 | 0,done,a,w,_,hp,h=>by rw [Nat.zero_add];exact hL _ _ _ hp h
 | f+1,done,a,w,inv,hp,h=>by
  rw [show f+1+g1=(f+g1)+1 by omega]
  obtain ⟨⟨i0,hi0,hi0a⟩,hall⟩:=h
  have hi0n:=(hall i0 hi0 hi0a).1
  have hi0u:=(mem_ready.1 hi0).1
  refine ⟨fun h0=>?_,fun i hi=>?_⟩
  ·have:=ready_mono hi0 hi0a
   rw [h0] at this;cases this
  ·have hia':i≠ia:=fun e=>by
    subst e
    have:=(mem_ready.1 hi).1
    have hlt:i<done.size:=by rw [inv.size];exact hia
    simp [hlt] at this
   have hin:i<n:=Nat.lt_of_not_le fun h=>zJp hs hc hw hn hia inv (Or.inr rfl) hi0n hi0u i h hia' hi
   obtain ⟨hu,oi,hoi,hdeps⟩:=mem_ready.1 hi
   have hr:i ∈ Region.ready md ops done:=mem_ready.2 ⟨by rw [getD_set_ne true (fun h=>hia' h.symm)] at hu;exact hu,oi,hoi,fun e he hb=>by
    have:=hdeps e he hb
    rw [getD_set_ne false (fun h=>(hdep i oi hin hoi).1 e he hb h.symm)] at this
    exact this⟩
   obtain ⟨_,oi',v,hoi',hy,Hi⟩:=hall i hr hia'
   obtain rfl:oi'=oi:=Option.some.inj (hoi'.symm.trans hoi)
   obtain ⟨h1,h2,h3⟩:=Oper.apart_spec (hdep i oi' hin hoi).2
   rw [hda] at h1 h2
   have hy':=(hy.of_same (execOp_put oi' (fun cs b=>hsel i oi' cs b hoi) a (some da) (.pointer (some ⟨g,0,none⟩)) h1) (wanted_put oi' a (some da) _ h1)).yin (some g)
   refine wpOp_of_qOp (C:=ph (some g)) (K:=fun b=>b=(a.put (some da) (.pointer (some ⟨g,0,none⟩))).put oi'.dst v) hp (fun a' w' hw' e=>?_) (hy'.qOp hoi rfl)
   rw [e,Act.put_comm a _ v h2,Array.setIfInBounds_comm _ _ (Ne.symm hia')]
   exact zJl hsel hs hc hw hn hia hoa hda hdep hL f _ _ w' (inv.set hr hin) hw' Hi
theorem zMo {n ia g1 da:Nat}{oa:Oper}{L:Array Bool->Act->Prop}{Q:Exit->Act->World->Prop}(hsel:∀ (j:Nat) (o:Oper) cs b,ops[j]?=some o->o.op≠.select cs b)
  (hs:Region.sinkB md ops n=true) (hc:zRl md ops n ia=true) (hw:Region.waitsFor md ops n ia=false) (hn:n<ia) (hia:ia<ops.size) (hoa:ops[ia]?=some oa) (hda:oa.dst=some da) (hga:oa.guard=none)
  (hdep:∀ j oj,j<n->ops[j]?=some oj->(∀ e ∈ oj.after,Region.binds md e=true->e.on≠ia)/\oa.apart ops oj=true)
  (hrun:∀ (a:Act) (w:World),ph none w->∃ g w',(execOp a.eval oa).run P w=.ok (.value (.pointer (some ⟨g,0,none⟩))) w'/\ph (some g) w')
  (hL0:∀ done a w,ph none w->L done a->wpAny P md ops Q (g1+1) done a w)
  (hL1:∀ g done a w,ph (some g) w->L done a->wpAny P md ops Q g1 (done.setIfInBounds ia true) (a.put (some da) (.pointer (some ⟨g,0,none⟩))) w) :
  ∀ (f:Nat) (done:Array Bool) (a:Act) (w:World),HeadInv md ops n done->ph none w->zNu P md ops ph n ia L f done a->wpAny P md ops Q (f+(g1+1)) done a w
 | 0,done,a,w,_,hp,h=>by rw [Nat.zero_add];exact hL0 _ _ _ hp h
 | f+1,done,a,w,inv,hp,h=>by
  have hsave:=h
  rw [show f+1+(g1+1)=(f+(g1+1))+1 by omega]
  obtain ⟨⟨i0,hi0,hi0a⟩,hall⟩:=h
  refine ⟨fun h0=>(by rw [h0] at hi0;cases hi0),fun i hi=>?_⟩
  by_cases hia':i=ia
  ·subst hia'
   obtain ⟨g,w',hr,hp'⟩:=hrun a w hp
   unfold wpOp
   simp only [hoa]
   rw [if_pos (by unfold Region.wanted;rw [hga])]
   refine Or.inl ?_
   unfold Oper.wp
   rw [hr,Oper.upon_value,hda,show f+(g1+1)=f+1+g1 by omega]
   exact zJl hsel hs hc hw hn hia hoa hda hdep (hL1 g) (f+1) done a w' inv hp' hsave
  ·obtain ⟨hin,oi,v,hoi,hy,Hi⟩:=hall i hi hia'
   refine wpOp_of_qOp (C:=ph none) (K:=fun b=>b=a.put oi.dst v) hp (fun a' w' hw' e=>?_) ((hy.yin none).qOp hoi rfl)
   rw [e]
   exact zMo hsel hs hc hw hn hia hoa hda hga hdep hrun hL0 hL1 f _ _ w' (inv.set hi hin) hw' Hi
def idxB (md:Region.Mode)(ops:Array Oper):List Nat->Array Bool->Bool
 | [],done=>(Region.ready md ops done).isEmpty
 | k::ks,done=>(decide (Region.ready md ops done=[k])||((Region.ready md ops done).contains k&&Region.free md ops done k&&((ops[k]?).map fun o=>zBv o.op&&o.guard.isNone).getD false))&&idxB md ops ks (done.setIfInBounds k true)
theorem zNj {Q:Exit->Act->World->Prop}(hsel:Region.noSelect ops=true)(hQ:∀ c a d v w,Q (.panic c) (Act.put a d v) w->Q (.panic c) a w) :
  ∀ (ks:List Nat) (l:List Oper) (done:Array Bool) (a:Act) (w:World),ks.map (fun k=>ops[k]?)=l.map some->idxB md ops ks done=true->wpList P ops Q l a w->wpAny P md ops Q ks.length done a w
 | [],l,done,a,w,hl,hB,h=>by
  have:l=[]:=by simpa using hl.symm
  subst this
  exact ⟨by simpa [idxB] using hB,h⟩
 | k::ks,[],done,a,w,hl,hB,h=>by simp at hl
 | k::ks,o::l,done,a,w,hl,hB,h=>by
  simp only [List.map_cons,List.cons.injEq] at hl
  obtain ⟨h0,hl'⟩:=hl
  simp only [idxB,Bool.and_eq_true,Bool.or_eq_true,decide_eq_true_eq] at hB
  obtain ⟨hB,hB'⟩:=hB
  have ih:=fun a w=>zNj hsel hQ ks l (done.setIfInBounds k true) a w hl' hB'
  rcases hB with hr|⟨⟨hr,hf⟩,hwl⟩
  ·refine ⟨fun h1=>(by rw [hr] at h1;cases h1),fun i hi=>?_⟩
   rw [hr] at hi
   obtain rfl:i=k:=by simpa using hi
   have hw:wpOp P ops Q i (wpList P ops Q l) a w:=by unfold wpOp;simp only [h0];exact h
   exact wpOp_mono (fun a' w' h'=>ih a' w' h') hw
  ·rw [h0] at hwl
   simp only [Option.map_some,Option.getD_some,Bool.and_eq_true,Option.isNone_iff_eq_none] at hwl
   have hwt:Region.wanted o (yielded ops a.tmps)=true:=by unfold Region.wanted;rw [hwl.2]
   unfold wpList at h
   rw [if_pos hwt] at h
   obtain ⟨v,hv,hK⟩:=zGn hwl.1 h
   exact wpAny_take h0 hsel hf hr (fun c a w=>hQ c a _ v w) (Or.inl ⟨hwt,hv⟩) (ih _ _ hK)
def Al (w:World)(cs:Array Value):Option Nat->World->Prop
 | none=>fun W=>Below w.heap.size w W
 | some g=>fun W=>Below w.heap.size w W/\w.heap.size<=g/\g<W.heap.size/\(∀ i,W.cell? ⟨g,i,none⟩=cs[i]?)/\∀ i,W.frozen? ⟨g,i,none⟩=false
theorem zL5 {w:World}{cs:Array Value}{al:Option Nat}{W:World}(h:Al w cs al W):Below w.heap.size w W:=by
 cases al with
 | none=>exact h
 | some g=>exact h.1
theorem zQb {w:World}{cs:Array Value}{al:Option Nat}:∀ v v':World,Al w cs al v->Below v.heap.size v v'->Al w cs al v':=by
 intro v v' h hb
 cases al with
 | none=>exact Below.trans h (hb.mono (Below.size h))
 | some g =>
  obtain ⟨h1,h2,h3,h4,h5⟩:=h
  exact ⟨h1.trans (hb.mono h1.size),h2,Nat.lt_of_lt_of_le h3 hb.size,fun i=>(hb.cell (p:=⟨g,i,none⟩) h3).trans (h4 i),fun i=>(hb.frozen (p:=⟨g,i,none⟩) h3).trans (h5 i)⟩
theorem zBg {id:Nat}{Q:Exit->Act->World->Prop}{a:Act}{w:World}{l:List Oper}(n ia da:Nat)(cs:Array Value)(hm:P.follows .mixedOrders=true)(hB:headA .any l.toArray n ia=true)(hD:zYy a.tmps.size (l.take n)=true)
  (hda:(l[ia]?).bind (·.dst)=some da)
  (hrun:∀ oa,l[ia]?=some oa->∀ (a:Act) (w:World),∃ t,(execOp a.eval oa).run P w=.ok (.value (.pointer (some ⟨w.heap.size,0,none⟩))) (w.alloc (.cells cs t)))
  (hk0:idxB .any l.toArray ((List.range l.length).drop n) (zGb n l.length)=true) (hk1:idxB .any l.toArray (((List.range l.length).drop n).eraseIdx (ia-n)) ((zGb n l.length).setIfInBounds ia true)=true)
  (hl0:((List.range l.length).drop n).map (fun k=>l.toArray[k]?)=(l.drop n).map some) (hl1:(((List.range l.length).drop n).eraseIdx (ia-n)).map (fun k=>l.toArray[k]?)=((l.drop n).eraseIdx (ia-n)).map some)
  (hQ:∀ c a d v w,Q (.panic c) (Act.put a d v) w->Q (.panic c) a w)
  (h:∃ a',(∀ al,Nonempty (Wd (Al w cs al))->(∀ (t:Wd (Al w cs al)) (b o:Nat),b<w.heap.size->t.w.cell? ⟨b,o,none⟩=w.cell? ⟨b,o,none⟩) ->
    wpQuiet P l.toArray (fun w'=>∃ t:Wd (Al w cs al),w'=t.w) (fun b=>b=a') (l.take n) a) /\
   (∀ w',Below w.heap.size w w'->wpList P l.toArray Q (l.drop n) a' w') /\
   ∀ g w',Below w.heap.size w w'->w.heap.size<=g->g<w'.heap.size->(∀ i,w'.cell? ⟨g,i,none⟩=cs[i]?)->(∀ i,w'.frozen? ⟨g,i,none⟩=false)->wpList P l.toArray Q ((l.drop n).eraseIdx (ia-n)) (a'.put (some da) (.pointer (some ⟨g,0,none⟩))) w') :
  (Code.region id l.toArray true).wp P Q a w:=by
 simp only [headA,Bool.and_eq_true,decide_eq_true_eq,Bool.not_eq_true'] at hB
 obtain ⟨⟨⟨⟨⟨⟨⟨hsel,hn⟩,hia⟩,hs⟩,hc⟩,hw⟩,hlex⟩,hoa⟩:=hB
 have hsz:l.toArray.size=l.length:=by simp
 have hia':ia<l.length:=by rw [← hsz];exact hia
 have hla:l.toArray[ia]?=l[ia]?:=by simp
 cases hoe:l[ia]? with
 | none=>rw [hla,hoe] at hoa;cases hoa
 | some oa =>
  rw [hla,hoe] at hoa
  simp only [Bool.and_eq_true,Option.isNone_iff_eq_none] at hoa
  rw [hoe] at hda
  obtain ⟨a',h1,h2,h3⟩:=h
  have htl:(l.take n).length=n:=by simp;omega
  have inv0:HeadInv .any l.toArray n (zGb 0 l.toArray.size):=by
   rw [zQf]
   exact ⟨by simp,fun j oj _ hl=>(by rw [getD_replicate_false] at hl;cases hl),fun t _ ht=>getD_in (by simpa using ht) (getD_replicate_false _ _)⟩
  have hready:∀ k,k<n->(Region.ready .any l.toArray (zGb k l.toArray.size)).contains k=true/\Region.free .any l.toArray (zGb k l.toArray.size) k=true:=fun k hk=>by
   have:=List.all_eq_true.1 hlex k (List.mem_range.2 hk)
   simpa only [Bool.and_eq_true] using this
  have hlexA:zDs P l.toArray (fun al w'=>∃ t:Wd (Al w cs al),w'=t.w) (fun b=>b=a') (l.take n) a :=
   zXj (ph:=fun al w'=>∃ t:Wd (Al w cs al),w'=t.w) ⟨w,⟨w,Below.refl _ _⟩,rfl⟩ (l.take n) a hD fun al ⟨_,t,_⟩=>h1 al ⟨t⟩ fun t b o hb=>(zL5 t.h).cell (p:=⟨b,o,none⟩) hb
  have H:=zLo (md:=.any) hsel hs hc hw hn hia hready (l.take n) 0 a (fun j hj=>by
   have hj':j<n:=by rw [htl] at hj;exact hj
   simp [hj']) (by simpa using htl) inv0 hlexA
  have hlen0:((List.range l.length).drop n).length=l.length-n-1+1:=by simp;omega
  have hlen1:(((List.range l.length).drop n).eraseIdx (ia-n)).length=l.length-n-1:=by
   rw [List.length_eraseIdx];simp;omega
  refine wp_region_any hm ?_
  have:=zMo (Q:=Q) (g1:=l.length-n-1) (Region.noSelect_spec hsel) hs hc hw hn hia (hla.trans hoe) hda hoa.1 (fun j oj hj hoj=>by
    refine ⟨fun e he hb heq=>?_,?_⟩
    ·have hr:j ∈ Region.ready .any l.toArray (zGb j l.toArray.size):=by simpa using (hready j hj).1
     obtain ⟨_,o',ho',hall⟩:=mem_ready.1 hr
     obtain rfl:o'=oj:=Option.some.inj (ho'.symm.trans hoj)
     have h5:=hall e he hb
     rw [heq] at h5
     have:(zGb j l.toArray.size).getD ia false=false:=by
      simp [zGb,List.getElem?_append,show ¬ ia<j by omega,List.getElem?_replicate]
      split<;>rfl
     rw [this] at h5;cases h5
    ·have:=List.all_eq_true.1 hoa.2 j (List.mem_range.2 hj)
     rw [hoj] at this
     exact this)
   (fun b W hW=>by
    obtain ⟨t,rfl⟩:=hW
    obtain ⟨ty,hr⟩:=hrun oa hoe b t.w
    refine ⟨_,_,hr,⟨⟨_,?_⟩,rfl⟩⟩
    have hb:Below w.heap.size w t.w:=t.h
    exact ⟨hb.alloc hb.size _,hb.size,by simp,fun i=>World.cell?_alloc_new _ _ _ _,fun i=>by simp [go_sem]⟩)
   (fun done b W hW hL=>by
    obtain ⟨t,rfl⟩:=hW
    rw [hL.1,hL.2,hsz]
    have:=zNj (P:=P) (md:=.any) (Q:=Q) hsel hQ ((List.range l.length).drop n) (l.drop n) (zGb n l.length) a' t.w hl0 hk0 (h2 t.w t.h)
    rw [hlen0] at this
    exact this)
   (fun g done b W hW hL=>by
    obtain ⟨t,rfl⟩:=hW
    rw [hL.1,hL.2,hsz]
    obtain ⟨q1,q2,q3,q4,q5⟩:=t.h
    have:=zNj (P:=P) (md:=.any) (Q:=Q) hsel hQ (((List.range l.length).drop n).eraseIdx (ia-n)) ((l.drop n).eraseIdx (ia-n)) ((zGb n l.length).setIfInBounds ia true) _ t.w hl1 hk1 (h3 g t.w q1 q2 q3 q4 q5)
    rw [hlen1] at this
    exact this)
   _ _ _ w.drew inv0 ⟨⟨w.drew,(Below.refl _ _).drew⟩,rfl⟩ H
  rw [htl,show n+(l.length-n-1+1)=l.toArray.size by rw [hsz];omega,zQf] at this
  exact this
end
end
section
section
variable {P:Program}{ops:Array Oper}{Q:Exit->Act->World->Prop}{md:Region.Mode}
def zUc (listed:Array Bool):Nat->Nat
 | 0=>0
 | n+1=>zUc listed n+(if listed.getD n true then 0 else 1)
theorem zZk {listed:Array Bool}{i:Nat}:∀ n,n<=i->zUc (listed.setIfInBounds i true) n=zUc listed n
 | 0,_=>rfl
 | n+1,h=>by unfold zUc;rw [zZk n (by omega),getD_set_ne true (by omega)]
theorem zNh {listed:Array Bool}{i:Nat}(hu:listed.getD i true=false):∀ n,i<n->zUc (listed.setIfInBounds i true) n+1=zUc listed n
 | 0,h=>by omega
 | n+1,h=>by
  unfold zUc
  by_cases e:i=n
  ·subst e
   have hlt:i<listed.size:=by
    rcases Nat.lt_or_ge i listed.size with h'|h'
    ·exact h'
    ·simp [Array.getElem?_eq_none h'] at hu
   rw [zZk i (Nat.le_refl _),hu]
   simp [hlt]
  ·rw [getD_set_ne true e]
   have:=zNh hu n (by omega)
   omega
theorem zLe {listed:Array Bool}:∀ n,zUc listed n=0->∀ i,i<n->listed.getD i true=true
 | 0,_,i,h=>by omega
 | n+1,h,i,hi=>by
  unfold zUc at h
  by_cases e:i=n
  ·subst e
   by_cases hl:listed.getD i true=true
   ·exact hl
   ·rw [if_neg hl] at h;omega
  ·exact zLe n (by omega) i (by omega)
theorem zBf {listed:Array Bool}:∀ n,0<zUc listed n->∃ i,i<n/\listed.getD i true=false/\∀ j,j<i->listed.getD j true=true
 | 0,h=>by simp [zUc] at h
 | n+1,h=>by
  by_cases h0:0<zUc listed n
  ·obtain ⟨i,h1,h2,h3⟩:=zBf n h0
   exact ⟨i,by omega,h2,h3⟩
  ·unfold zUc at h
   have hz:=zLe (listed:=listed) n (by omega)
   refine ⟨n,by omega,?_,fun j hj=>hz j hj⟩
   cases hl:listed.getD n true with
   | false=>rfl
   | true=>rw [hl,if_pos rfl] at h;omega
def zJ0 (md:Region.Mode)(ops:Array Oper)(n:Nat):Bool :=
 (List.range n).all fun i=>match ops[i]? with
  | some o=>o.after.all fun e=>!Region.binds md e||decide (e.on<i)
  | none=>false
theorem zRi {n:Nat}(h:zJ0 md ops n=true)(i:Nat)(hi:i<n):∃ o,ops[i]?=some o/\∀ e ∈ o.after,Region.binds md e=true->e.on<i:=by
 have h1:=List.all_eq_true.1 h i (List.mem_range.2 hi)
 cases ho:ops[i]? with
 | none=>simp only [ho] at h1;cases h1
 | some o =>
  simp only [ho] at h1
  refine ⟨o,rfl,fun e he hb=>?_⟩
  have h2:=Array.all_eq_true_iff_forall_mem.1 h1 e he
  simpa [hb] using h2
theorem zWd {listed:Array Bool}{i:Nat}(hi:i<listed.size)(h:listed.getD i true=true):listed.getD i false=true:=by
 simp [hi] at h ⊢;exact h
def zPf (n m:Nat):Array Bool:=(List.replicate n true++List.replicate (m-n) false).toArray
theorem zZj {n:Nat}{listed:Array Bool}(hn:n<=ops.size)(inv:HeadInv md ops n listed)(h:∀ i,i<n->listed.getD i true=true):listed=zPf n ops.size:=by
 apply Array.ext
 ·simp [zPf,inv.size];omega
 ·intro i h1 h2
  by_cases hi:i<n
  ·have:=h i hi
   simp [h1] at this
   rw [this]
   simp [zPf,List.getElem_append,hi]
  ·have:=inv.tail i (by omega) (by rw [← inv.size];exact h1)
   simp [h1] at this
   rw [this]
   simp [zPf,List.getElem_append,hi]
theorem zFn {n:Nat}{B:Act->World->Prop}{R:Nat->Act->World->Prop}{tail:List Oper}(hs:Region.sinkB md ops n=true)(hc:Region.chainB md ops n=true)(hn:n<ops.size)(hb:zJ0 md ops n=true)
  (htl:∀ j,tail[j]?=ops[n+j]?) (hseq:Region.seqB md ops tail.length n (zPf n ops.size)=true)
  (hstep:∀ i o a w,i<n->ops[i]?=some o->B a w->(∀ e ∈ o.after,Region.binds md e=true->R e.on a w)->wpOp P ops Q i (fun a' w'=>B a' w'/\R i a' w'/\∀ j,j<n->j≠i->R j a w->R j a' w') a w)
  (hend:∀ a w,B a w->(∀ i,i<n->R i a w)->wpList P ops Q tail a w) :
  ∀ (f:Nat) (listed:Array Bool) (a:Act) (w:World),HeadInv md ops n listed->zUc listed n=f->B a w->(∀ i,i<n->listed.getD i false=true->R i a w)->wpAny P md ops Q (f+tail.length) listed a w
 | 0,listed,a,w,inv,hf,hB,hR=>by
  have hz:=zLe n hf
  have he:=zZj (Nat.le_of_lt hn) inv hz
  have hw:=hend a w hB fun i hi=>hR i hi (zWd (by rw [inv.size];omega) (hz i hi))
  rw [Nat.zero_add,he]
  exact wpAny_of_seq tail n _ a w htl hseq hw
 | f+1,listed,a,w,inv,hf,hB,hR=>by
  obtain ⟨k,hk,hku,hkl⟩:=zBf (listed:=listed) n (by omega)
  rw [show f+1+tail.length=(f+tail.length)+1 by omega]
  refine ⟨fun h0=>?_,fun i hi=>?_⟩
  ·obtain ⟨o,ho,hlt⟩:=zRi hb k hk
   have:k ∈ Region.ready md ops listed:=mem_ready.2 ⟨hku,o,ho,fun e he hbd=>by
    have:=hlt e he hbd
    exact zWd (by rw [inv.size];omega) (hkl _ this)⟩
   rw [h0] at this;cases this
  ·have hin:i<n:=by
    rcases Nat.lt_or_ge i n with h|h
    ·exact h
    ·exact absurd hi (tail_waits hs hc hn inv _ k rfl hk hku i h)
   obtain ⟨hu,o,ho,hall⟩:=mem_ready.1 hi
   obtain ⟨o',ho',hlt⟩:=zRi hb i hin
   have:o'=o:=Option.some.inj (ho'.symm.trans ho)
   subst this
   refine wpOp_mono (fun a' w' h3=>?_) (hstep i o' a w hin ho hB fun e he hbd=>hR _ (by have:=hlt e he hbd;omega) (hall e he hbd))
   refine zFn hs hc hn hb htl hseq hstep hend f _ a' w' (inv.set hi hin) (by have:=zNh hu n hin;omega) h3.1 fun j hj hl=>?_
   by_cases e:j=i
   ·subst e;exact h3.2.1
   ·rw [getD_set_ne false (fun h=>e h.symm)] at hl
    exact h3.2.2 j hj e (hR j hj hl)
theorem zAd (m:Nat):∀ n,n<=m->zUc (Array.replicate m false) n=n
 | 0,_=>rfl
 | n+1,h=>by unfold zUc;rw [zAd m n (by omega)];simp [show n<m by omega]
def invB (md:Region.Mode)(ops:Array Oper)(n:Nat):Bool :=
 Region.sinkB md ops n&&Region.chainB md ops n&&decide (n<ops.size)&&zJ0 md ops n&&Region.seqB md ops (ops.size-n) n (zPf n ops.size)
theorem zXl (n:Nat)(B:Act->World->Prop)(R:Nat->Act->World->Prop){id:Nat}{l:List Oper}{a:Act}{w:World}(hm:P.follows .mixedOrders=true)(hI:invB .any l.toArray n=true)
  (h0:B a w.drew)
  (hstep:∀ i o a w,i<n->l[i]?=some o->B a w->(∀ e ∈ o.after,Region.binds .any e=true->R e.on a w)->wpOp P l.toArray Q i (fun a' w'=>B a' w'/\R i a' w'/\∀ j,j<n->j≠i->R j a w->R j a' w') a w)
  (hend:∀ a w,B a w->(∀ i,i<n->R i a w)->wpList P l.toArray Q (l.drop n) a w):(Code.region id l.toArray true).wp P Q a w:=by
 simp only [invB,Bool.and_eq_true,decide_eq_true_eq] at hI
 obtain ⟨⟨⟨⟨hs,hc⟩,hn⟩,hb⟩,hseq⟩:=hI
 have hdl:(l.drop n).length=l.toArray.size-n:=by simp
 refine wp_region_any hm ?_
 have H:=zFn (P:=P) (Q:=Q) (md:=.any) (ops:=l.toArray) (n:=n) (B:=B) (R:=R) (tail:=l.drop n) hs hc hn hb (fun j=>by simp [List.getElem?_drop]) (by rw [hdl];exact hseq)
  (fun i o a w hi ho=>hstep i o a w hi (by simpa using ho)) hend n (Array.replicate l.toArray.size false) a w.drew
  ⟨by simp,fun j oj _ hl=>(by rw [getD_replicate_false] at hl;cases hl),fun t _ ht=>getD_in (by simpa using ht) (getD_replicate_false _ _)⟩
  (zAd _ n (Nat.le_of_lt hn)) h0 (fun i hi hl=>by rw [getD_replicate_false] at hl;cases hl)
 rw [hdl,show n+(l.toArray.size-n)=l.toArray.size by omega] at H
 exact H
abbrev slot (a:Act)(t:Nat):Value:=a.tmps[t]?.getD undef
theorem zCc {a:Act}{d t:Nat}{v:Value}(h:d≠t):slot (a.put (some d) v) t=slot a t:=by
 simp [slot,Act.put,Array.getElem?_setIfInBounds_ne h]
theorem zRg {a:Act}{d:Nat}{v:Value}(h:d<a.tmps.size):slot (a.put (some d) v) d=v:=by
 simp [slot,Act.put,h]
def zX0 (p:Value->World->Prop):Prop:=∀ v w w',p v w->Below w.heap.size w w'->p v w'
def dstG (l:List Oper)(D:List Nat)(n m:Nat):Bool :=
 (List.range n).all fun i=>(match l[i]? with
  | some o=>o.dst==some (D.getD i 0)
  | none=>false)&&decide (D.getD i 0<m)&&(List.range n).all fun j=>j==i||D.getD j 0 != D.getD i 0
theorem zSo {l:List Oper}{D:List Nat}{n m:Nat}(h:dstG l D n m=true)(i:Nat)(hi:i<n) :
  ∃ o,l[i]?=some o/\o.dst=some (D.getD i 0)/\D.getD i 0<m/\∀ j,j<n->j≠i->D.getD j 0≠D.getD i 0:=by
 have h1:=List.all_eq_true.1 h i (List.mem_range.2 hi)
 cases ho:l[i]? with
 | none=>simp [ho] at h1
 | some o =>
  simp only [ho,Bool.and_eq_true,decide_eq_true_eq,beq_iff_eq,List.all_eq_true,Bool.or_eq_true,bne_iff_ne,List.mem_range] at h1
  exact ⟨o,rfl,h1.1.1,h1.1.2,fun j hj hne=>(h1.2 j hj).resolve_left hne⟩
def gdB (l:List Oper)(n:Nat):Bool :=
 (List.range n).all fun i=>match l[i]? with
  | some o=>match o.guard with
   | none=>true
   | some (j,_)=>decide (j<n)&&o.after.any fun e=>Region.binds .any e&&e.on==j
  | none=>false
theorem zA4 {l:List Oper}{n:Nat}(h:gdB l n=true)(i:Nat)(hi:i<n)(o:Oper)(ho:l[i]?=some o)(j:Nat)(b:Bool)(hg:o.guard=some (j,b)) :
  j<n/\∃ e ∈ o.after,Region.binds .any e=true/\e.on=j:=by
 have h1:=List.all_eq_true.1 h i (List.mem_range.2 hi)
 simp only [ho,hg,Bool.and_eq_true,decide_eq_true_eq,Array.any_eq_true',beq_iff_eq] at h1
 obtain ⟨h1,e,he,h2,h3⟩:=h1
 exact ⟨h1,e,he,h2,h3⟩
theorem zMj (n m:Nat)(D:List Nat)(S:List (Value->World->Prop))(C:World->Prop){id:Nat}{l:List Oper}{a0:Act}{w0:World}(hm:P.follows .mixedOrders=true)(hI:invB .any l.toArray n=true)(hD:dstG l D n m=true)(hGd:gdB l n=true)
  (hsz:a0.tmps.size=m) (hS:∀ p ∈ S,zX0 p) (hC0:C w0.drew) (hCn:∀ w w',C w->Below w.heap.size w w'->C w')
  (hGv:∀ i o j b,i<n->l[i]?=some o->o.guard=some (j,b)->∀ v w,(S.getD j fun _ _=>True) v w->v=.bool b)
  (hstep:∀ i o a w,i<n->l[i]?=some o->C w->(∀ t,(∀ i,i<n->D.getD i 0≠t)->slot a t=slot a0 t)->(∀ e ∈ o.after,Region.binds .any e=true->(S.getD e.on fun _ _=>True) (slot a (D.getD e.on 0)) w) ->
   o.wp P a w (fun a' w'=>∃ v,a'=a.put o.dst v/\(S.getD i fun _ _=>True) v w'/\Below w.heap.size w w') Q)
  (hend:∀ a w,C w->a.tmps.size=m->a.defers=a0.defers->(∀ t,(∀ i,i<n->D.getD i 0≠t)->slot a t=slot a0 t)->(∀ i,i<n->(S.getD i fun _ _=>True) (slot a (D.getD i 0)) w)->wpList P l.toArray Q (l.drop n) a w) :
  (Code.region id l.toArray true).wp P Q a0 w0:=by
 have hSt:∀ i,zX0 (S.getD i fun _ _=>True):=by
  intro i
  rcases Nat.lt_or_ge i S.length with h|h
  ·rw [List.getD_eq_getElem?_getD,List.getElem?_eq_getElem h];exact hS _ (List.getElem_mem h)
  ·rw [List.getD_eq_getElem?_getD,List.getElem?_eq_none h];exact fun _ _ _ _ _=>trivial
 refine zXl n (fun a w=>C w/\a.tmps.size=m/\a.defers=a0.defers/\∀ t,(∀ i,i<n->D.getD i 0≠t)->slot a t=slot a0 t)
  (fun i a w=>(S.getD i fun _ _=>True) (slot a (D.getD i 0)) w) hm hI ⟨hC0,hsz,rfl,fun _ _=>rfl⟩ ?_ (fun a w h hR=>hend a w h.1 h.2.1 h.2.2.1 h.2.2.2 hR)
 intro i o a w hi ho hB hR
 obtain ⟨o',ho2,hd,hlt,hne⟩:=zSo hD i hi
 have eo:o'=o:=Option.some.inj (ho2.symm.trans ho)
 subst eo
 have hw:=hstep i o' a w hi ho hB.1 hB.2.2.2 hR
 unfold wpOp
 have ho':l.toArray[i]?=some o':=by simpa using ho
 simp only [ho']
 have hwant:Region.wanted o' (yielded l.toArray a.tmps)=true:=by
  unfold Region.wanted
  cases hg:o'.guard with
  | none=>rfl
  | some q =>
   obtain ⟨j,b⟩:=q
   obtain ⟨hj,e,he,hbd,hej⟩:=zA4 hGd i hi o' ho j b hg
   have hv:=hR e he hbd
   rw [hej] at hv
   have hv2:=hGv i o' j b hi ho hg _ _ hv
   obtain ⟨oj,hoj,hdj,hltj,_⟩:=zSo hD j hj
   have hoj':l.toArray[j]?=some oj:=by simpa using hoj
   have hs:D.getD j 0<a.tmps.size:=by rw [hB.2.1];exact hltj
   have ht:a.tmps[D.getD j 0]?=some (.bool b):=by
    have h5:a.tmps[D.getD j 0]?=some a.tmps[D.getD j 0]:=Array.getElem?_eq_getElem hs
    have h6:slot a (D.getD j 0)=a.tmps[D.getD j 0]:=by unfold slot;rw [h5];rfl
    rw [h5,← h6,hv2]
   have hy:yielded l.toArray a.tmps j=some b:=by
    unfold yielded
    simp only [hoj',Option.bind_some,hdj,ht]
   simp [hy]
 rw [if_pos hwant]
 refine Or.inl (Oper.wp_mono ?_ hw)
 rintro a' w' ⟨v,rfl,hv,hb⟩
 rw [hd]
 refine ⟨⟨hCn _ _ hB.1 hb,by simp [Act.put,hB.2.1],hB.2.2.1,fun t ht=>?_⟩,?_,fun j hj hji hRj=>?_⟩
 ·rw [zCc (ht i hi)];exact hB.2.2.2 t ht
 ·show (S.getD i fun _ _=>True) (slot (a.put (some (D.getD i 0)) v) (D.getD i 0)) w'
  rw [zRg (by rw [hB.2.1];exact hlt)];exact hv
 ·show (S.getD j fun _ _=>True) (slot (a.put (some (D.getD i 0)) v) (D.getD j 0)) w'
  rw [zCc (fun h=>hne j hj hji h.symm)]
  exact hSt j _ _ _ hRj hb
end
end
section
section
variable {P:Program}{ops:Array Oper}{Q:Exit->Act->World->Prop}{md:Region.Mode}
def isV (u:Value):Value->World->Prop:=fun v _=>v=u
theorem isV.stays (u:Value):zX0 (isV u):=fun v w w' h _=>h
end
end
section
section
variable {P:Program}{ops:Array Oper}{Q:Exit->Act->World->Prop}{md:Region.Mode}
theorem zKu {listed:Array Bool}{i:Nat}(hi:i<listed.size):(fun j=>(listed.setIfInBounds i true).getD j false=true)=(fun j=>listed.getD j false=true∨j=i):=by
 funext j
 apply propext
 by_cases e:j=i
 ·subst e
  simp [hi]
 ·rw [getD_set_ne false (fun h=>e h.symm)]
  simp [e]
end
end
section
section
variable {P:Program}{Q:Exit->Act->World->Prop}
def dstM (l:List Oper)(D:List Nat)(n m:Nat):Bool :=
 (List.range n).all fun i=>(match l[i]? with
  | some o=>(o.dst==none||(o.dst==some (D.getD i 0)&&decide (D.getD i 0<m)))&&o.guard.isNone
  | none=>false)&&(List.range n).all fun j=>j==i||D.getD j 0 != D.getD i 0
theorem zZy {l:List Oper}{D:List Nat}{n m:Nat}(h:dstM l D n m=true)(i:Nat)(hi:i<n)(o:Oper)(ho:l[i]?=some o) :
  (o.dst=none∨(o.dst=some (D.getD i 0)/\D.getD i 0<m))/\o.guard=none/\∀ j,j<n->j≠i->D.getD j 0≠D.getD i 0:=by
 have h1:=List.all_eq_true.1 h i (List.mem_range.2 hi)
 simp only [ho,Bool.and_eq_true,decide_eq_true_eq,beq_iff_eq,List.all_eq_true,Bool.or_eq_true,bne_iff_ne,List.mem_range,Option.isNone_iff_eq_none] at h1
 exact ⟨h1.1.1,h1.1.2,fun j hj hne=>(h1.2 j hj).resolve_left hne⟩
def wrS (l:List Oper)(D:List Nat)(j:Nat):Prop:=(l[j]?).bind Oper.dst=some (D.getD j 0)
end
end
section
section
variable {P:Program}{ops:Array Oper}{Q:Exit->Act->World->Prop}{md:Region.Mode}
def invR (md:Region.Mode)(ops:Array Oper)(n:Nat):Bool :=
 Region.sinkB md ops n&&zQl md ops n&&decide (n<ops.size)&&zJ0 md ops n&&zYt md ops n
theorem zE9 {n:Nat}{l:List Oper}{a:Act}{w:World}(hn:n<l.length)(hR:zYt .any l.toArray n=true)(hQ:∀ c a d v w,Q (.panic c) (Act.put a d v) w->Q (.panic c) a w)(h:wpList P l.toArray Q (l.drop n) a w):wpAny P .any l.toArray Q (l.drop n).length (zGb n l.toArray.size) a w:=by
 have hsz:l.toArray.size=l.length:=by simp
 simp only [zYt,Bool.and_eq_true,List.isEmpty_iff] at hR
 obtain ⟨⟨hsel,hall⟩,hend⟩:=hR
 exact zLh (P:=P) (md:=.any) (Q:=Q) hsel hQ hend (l.drop n) n a w (fun j=>by simp [List.getElem?_drop]) (by simp;omega) (fun j hj1 hj2=>by
  have h5:=List.all_eq_true.1 hall (j-n) (List.mem_range.2 (by omega))
  rw [show n+(j-n)=j by omega] at h5
  simp only [Bool.or_eq_true,Bool.and_eq_true,decide_eq_true_eq] at h5
  rcases h5 with h5|⟨⟨h5,h6⟩,h7⟩
  ·exact Or.inl h5
  ·refine Or.inr ⟨h5,h6,?_⟩
   cases ho:l.toArray[j]? with
   | none=>rw [ho] at h7;cases h7
   | some o =>
    rw [ho] at h7
    simp only [Option.map_some,Option.getD_some,Bool.and_eq_true,Option.isNone_iff_eq_none] at h7
    exact ⟨o,rfl,h7.1,h7.2⟩) h
theorem zVk {n:Nat}{B:(Nat->Prop)->Act->World->Prop}{l:List Oper}(hs:Region.sinkB .any l.toArray n=true)(hc:zQl .any l.toArray n=true)(hn:n<l.toArray.size)(hb:zJ0 .any l.toArray n=true)(hR:zYt .any l.toArray n=true)(hQ:∀ c a d v w,Q (.panic c) (Act.put a d v) w->Q (.panic c) a w)
  (hstep:∀ (L:Nat->Prop) i o a w,i<n->l.toArray[i]?=some o->¬ L i->(∀ j oj,l.toArray[j]?=some oj->L j->∀ e ∈ oj.after,Region.binds .any e=true->L e.on)->(∀ e ∈ o.after,Region.binds .any e=true->L e.on)->B L a w->wpOp P l.toArray Q i (fun a' w'=>B (fun j=>L j∨j=i) a' w') a w)
  (hend:∀ (L:Nat->Prop) a w,(∀ i,i<n->L i)->B L a w->wpList P l.toArray Q (l.drop n) a w) :
  ∀ (f:Nat) (listed:Array Bool) (a:Act) (w:World),HeadInv .any l.toArray n listed->zUc listed n=f->B (fun j=>listed.getD j false=true) a w->wpAny P .any l.toArray Q (f+(l.drop n).length) listed a w
 | 0,listed,a,w,inv,hf,hB=>by
  have hz:=zLe n hf
  have he:=zZj (Nat.le_of_lt hn) inv hz
  have hw:=hend _ a w (fun i hi=>zWd (by rw [inv.size];omega) (hz i hi)) hB
  rw [Nat.zero_add,he]
  exact zE9 (by simpa using hn) hR hQ hw
 | f+1,listed,a,w,inv,hf,hB=>by
  obtain ⟨k,hk,hku,hkl⟩:=zBf (listed:=listed) n (by omega)
  rw [show f+1+(l.drop n).length=(f+(l.drop n).length)+1 by omega]
  refine ⟨fun h0=>?_,fun i hi=>?_⟩
  ·obtain ⟨o,ho,hlt⟩:=zRi hb k hk
   have:k ∈ Region.ready .any l.toArray listed:=mem_ready.2 ⟨hku,o,ho,fun e he hbd=>by
    have:=hlt e he hbd
    exact zWd (by rw [inv.size];omega) (hkl _ this)⟩
   rw [h0] at this;cases this
  ·have hin:i<n:=by
    rcases Nat.lt_or_ge i n with h|h
    ·exact h
    ·exact absurd hi (zMh hs hc hn inv hk hku i h)
   obtain ⟨hu,o,ho,hall⟩:=mem_ready.1 hi
   refine wpOp_mono (fun a' w' h3=>?_) (hstep (fun j=>listed.getD j false=true) i o a w hin ho (by show ¬ (listed.getD i false=true);rw [getD_both hu];decide) inv.closed hall hB)
   refine zVk hs hc hn hb hR hQ hstep hend f _ a' w' (inv.set hi hin) (by have:=zNh hu n hin;omega) ?_
   rw [zKu (by rw [inv.size];omega)]
   exact h3
theorem zMk (n:Nat)(B:(Nat->Prop)->Act->World->Prop){id:Nat}{l:List Oper}{a:Act}{w:World}(hm:P.follows .mixedOrders=true)(hI:invR .any l.toArray n=true)(hQ:∀ c a d v w,Q (.panic c) (Act.put a d v) w->Q (.panic c) a w)
  (h0:B (fun _=>False) a w.drew)
  (hstep:∀ (L:Nat->Prop) i o a w,i<n->l[i]?=some o->¬ L i->(∀ j oj,l[j]?=some oj->L j->∀ e ∈ oj.after,Region.binds .any e=true->L e.on)->(∀ e ∈ o.after,Region.binds .any e=true->L e.on)->B L a w->wpOp P l.toArray Q i (fun a' w'=>B (fun j=>L j∨j=i) a' w') a w)
  (hend:∀ (L:Nat->Prop) a w,(∀ i,i<n->L i)->B L a w->wpList P l.toArray Q (l.drop n) a w):(Code.region id l.toArray true).wp P Q a w:=by
 simp only [invR,Bool.and_eq_true,decide_eq_true_eq] at hI
 obtain ⟨⟨⟨⟨hs,hc⟩,hn⟩,hb⟩,hR⟩:=hI
 have hdl:(l.drop n).length=l.toArray.size-n:=by simp
 refine wp_region_any hm ?_
 have hf0:(fun j=>(Array.replicate l.toArray.size false).getD j false=true)=fun _=>False:=by
  funext j
  rw [getD_replicate_false]
  simp
 have H:=zVk (P:=P) (Q:=Q) (n:=n) (B:=B) (l:=l) hs hc hn hb hR hQ
  (fun L i o a w hi ho hL hcl he hB=>hstep L i o a w hi (by simpa using ho) hL (fun j oj hj=>hcl j oj (by simpa using hj)) he hB) hend n (Array.replicate l.toArray.size false) a w.drew
  ⟨by simp,fun j oj _ hl=>(by rw [getD_replicate_false] at hl;cases hl),fun t _ ht=>getD_in (by simpa using ht) (getD_replicate_false _ _)⟩
  (zAd _ n (by simpa using Nat.le_of_lt hn)) (by rw [hf0];exact h0)
 rw [hdl] at H
 have:n+(l.toArray.size-n)=l.toArray.size:=by omega
 rw [this] at H
 exact H
theorem zLk (n m:Nat)(D:List Nat)(S:List (Value->World->Prop))(T:World->World->Prop)(M:(Nat->Prop)->(Nat->Value)->World->Prop){id:Nat}{l:List Oper}{a0:Act}{w0:World}(hm:P.follows .mixedOrders=true)(hI:invR .any l.toArray n=true)(hQ:∀ c a d v w,Q (.panic c) (Act.put a d v) w->Q (.panic c) a w)(hD:dstM l D n m=true)
  (hsz:a0.tmps.size=m) (hS:∀ p ∈ S,∀ v w w',p v w->T w w'->p v w') (hM0:M (fun _=>False) (slot a0) w0.drew)
  (hstep:∀ (L:Nat->Prop) i o a w,i<n->l[i]?=some o->¬ L i->(∀ j oj,l[j]?=some oj->L j->∀ e ∈ oj.after,Region.binds .any e=true->L e.on)->(∀ e ∈ o.after,Region.binds .any e=true->L e.on)->M L (slot a) w ->
   (∀ t,(∀ i,i<n->D.getD i 0≠t)->slot a t=slot a0 t)->(∀ j,j<n->wrS l D j->L j->(S.getD j fun _ _=>True) (slot a (D.getD j 0)) w) ->
   o.wp P a w (fun a' w'=>∃ v,a'=a.put o.dst v/\(S.getD i fun _ _=>True) v w'/\T w w'/\M (fun j=>L j∨j=i) (fun t=>if o.dst=some t then v else slot a t) w') Q)
  (hend:∀ (L:Nat->Prop) a w,(∀ i,i<n->L i)->M L (slot a) w->a.tmps.size=m->a.defers=a0.defers->(∀ t,(∀ i,i<n->D.getD i 0≠t)->slot a t=slot a0 t)->(∀ i,i<n->wrS l D i->(S.getD i fun _ _=>True) (slot a (D.getD i 0)) w)->wpList P l.toArray Q (l.drop n) a w) :
  (Code.region id l.toArray true).wp P Q a0 w0:=by
 have hSt:∀ i v w w',(S.getD i fun _ _=>True) v w->T w w'->(S.getD i fun _ _=>True) v w':=by
  intro i
  rcases Nat.lt_or_ge i S.length with h|h
  ·rw [List.getD_eq_getElem?_getD,List.getElem?_eq_getElem h];exact hS _ (List.getElem_mem h)
  ·rw [List.getD_eq_getElem?_getD,List.getElem?_eq_none h];exact fun _ _ _ _ _=>trivial
 refine zMk n (fun L a w=>M L (slot a) w/\a.tmps.size=m/\a.defers=a0.defers/\(∀ t,(∀ i,i<n->D.getD i 0≠t)->slot a t=slot a0 t)/\∀ j,j<n->wrS l D j->L j->(S.getD j fun _ _=>True) (slot a (D.getD j 0)) w) hm hI hQ
  ⟨hM0,hsz,rfl,fun _ _=>rfl,fun _ _ _ h=>h.elim⟩ ?_ (fun L a w hL hB=>hend L a w hL hB.1 hB.2.1 hB.2.2.1 hB.2.2.2.1 fun i hi hw=>hB.2.2.2.2 i hi hw (hL i hi))
 intro L i o a w hi ho hL hcl he hB
 obtain ⟨hd,hg,hne⟩:=zZy hD i hi o ho
 have hw:=hstep L i o a w hi ho hL hcl he hB.1 hB.2.2.2.1 hB.2.2.2.2
 unfold wpOp
 have ho':l.toArray[i]?=some o:=by simpa using ho
 simp only [ho']
 rw [if_pos (by unfold Region.wanted;rw [hg])]
 refine Or.inl (Oper.wp_mono ?_ hw)
 rintro a' w' ⟨v,rfl,hv,hT,hM⟩
 rcases hd with hd|⟨hd,hlt⟩
 ·have ea:a.put o.dst v=a:=by rw [hd];rfl
  have em:(fun t=>if o.dst=some t then v else slot a t)=slot a:=by funext t;rw [hd];simp
  rw [ea]
  rw [em] at hM
  refine ⟨hM,hB.2.1,hB.2.2.1,hB.2.2.2.1,fun j hj hwj hLj=>?_⟩
  rcases hLj with hLj|rfl
  ·exact hSt j _ _ _ (hB.2.2.2.2 j hj hwj hLj) hT
  ·unfold wrS at hwj;rw [ho] at hwj;simp [hd] at hwj
 ·have em:(fun t=>if o.dst=some t then v else slot a t)=slot (a.put o.dst v):=by
   funext t
   rw [hd]
   by_cases h:D.getD i 0=t
   ·subst h
    rw [if_pos rfl,zRg (by rw [hB.2.1];exact hlt)]
   ·rw [if_neg (fun e=>h (Option.some.inj e)),zCc h]
  rw [em] at hM
  refine ⟨hM,by rw [hd];simp [Act.put,hB.2.1],by rw [hd];exact hB.2.2.1,fun t ht=>?_,fun j hj hwj hLj=>?_⟩
  ·rw [hd,zCc (ht i hi)];exact hB.2.2.2.1 t ht
  ·by_cases hji:j=i
   ·subst hji
    rw [hd,zRg (by rw [hB.2.1];exact hlt)];exact hv
   ·rw [hd,zCc (fun h=>hne j hj hji h.symm)]
    exact hSt j _ _ _ (hB.2.2.2.2 j hj hwj (hLj.resolve_right hji)) hT
end
end
end Go.Proofs.YtahfkpjhlbiamaaGreatDoor
