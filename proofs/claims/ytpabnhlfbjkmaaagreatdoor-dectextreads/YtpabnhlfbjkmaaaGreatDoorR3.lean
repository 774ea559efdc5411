/-
  Texts that the proof leans on.
-/
import Derived.WalkKit
import Derived.BigQuiet
import Derived.StillTail
import Derived.Test.YtpabnhlfbjkmaaaGreatDoorProg
import Derived.RowKit
set_option linter.unusedVariables false
set_option maxRecDepth 20000
set_option linter.unusedSectionVars false
set_option linter.unusedSimpArgs false
namespace Go.Proofs.YtpabnhlfbjkmaaaGreatDoor
def val (x:Nat->Int):Nat->Int
 | 0=>0
 | n+1=>val x n+x n*18446744073709551616^n
theorem zIa {x y:Nat->Int}:∀ n,(∀ i,i<n->x i=y i)->val x n=val y n
 | 0,_=>rfl
 | n+1,h=>by simp only [val];rw [zIa n fun i hi=>h i (by omega),h n (by omega)]
theorem zXb (n:Nat):(0:Int)<18446744073709551616^n:=Int.pow_pos (by decide)
theorem zRa {x:Nat->Int}(hx:∀ i,0<=x i/\x i<=18446744073709551615):∀ n,0<=val x n/\val x n<18446744073709551616^n
 | 0=>by simp [val]
 | n+1=>by
  have ih:=zRa hx n
  have hb:=hx n
  have hp:=zXb n
  simp only [val]
  have h1:0<=x n*18446744073709551616^n:=Int.mul_nonneg hb.1 (Int.le_of_lt hp)
  have h2:x n*18446744073709551616^n<=18446744073709551615*18446744073709551616^n:=Int.mul_le_mul_of_nonneg_right hb.2 (Int.le_of_lt hp)
  rw [Int.pow_succ]
  omega
theorem zGd (x:Nat->Int)(p:Nat)(v:Int):∀ n,p<n->val (fun i=>if i=p then v else x i) n=val x n+(v-x p)*18446744073709551616^p
 | 0,h=>by omega
 | n+1,h=>by
  simp only [val]
  by_cases e:n=p
  ·subst e
   rw [if_pos rfl,zIa (y:=x) n fun i hi=>if_neg (by omega),Int.sub_mul];omega
  ·rw [if_neg e,zGd x p v n (by omega)];omega
theorem zZl {x y:Nat->Int}(hx:∀ i,0<=x i/\x i<=18446744073709551615)(hy:∀ i,0<=y i/\y i<=18446744073709551615):∀ n,val x n=val y n->∀ i,i<n->x i=y i
 | 0,_,i,hi=>by omega
 | n+1,h,i,hi=>by
  simp only [val] at h
  have bx:=zRa hx n
  have b_y:=zRa hy n
  have hp:=zXb n
  have e1:(val x n+x n*18446744073709551616^n)/18446744073709551616^n=x n:=by
   rw [Int.add_mul_ediv_right _ _ (Int.ne_of_gt hp),Int.ediv_eq_zero_of_lt bx.1 bx.2];omega
  have e2:(val y n+y n*18446744073709551616^n)/18446744073709551616^n=y n:=by
   rw [Int.add_mul_ediv_right _ _ (Int.ne_of_gt hp),Int.ediv_eq_zero_of_lt b_y.1 b_y.2];omega
  have e3:x n=y n:=by rw [← e1,← e2,h]
  by_cases e:i=n
  ·subst e;exact e3
  ·rw [e3] at h
   exact zZl hx hy n (by omega) i (by omega)
theorem zMa {x:Nat->Int}{n:Nat}(hz:∀ i,n<=i->x i=0):∀ m,n<=m->val x m=val x n
  | 0, h => by obtain rfl : n = 0 := by omega
               rfl
  | m+1,h=>by
    by_cases e:n=m+1
    · rw [e]
    · simp only [val];rw [zMa hz m (by omega),hz m (by omega)];omega
theorem zPm (a b z c:Int)(ha:0<=a/\a<=18446744073709551615)(hb:0<=b/\b<=18446744073709551615)(hz:0<=z/\z<=18446744073709551615)(hc:0<=c/\c<=18446744073709551615) :
  ((a*b%18446744073709551616+z)%18446744073709551616+c)%18446744073709551616+(a*b/18446744073709551616+(a*b%18446744073709551616+z)/18446744073709551616+((a*b%18446744073709551616+z)%18446744073709551616+c)/18446744073709551616)*18446744073709551616=a*b+z+c /\
  0<=a*b/18446744073709551616+(a*b%18446744073709551616+z)/18446744073709551616/\a*b/18446744073709551616+(a*b%18446744073709551616+z)/18446744073709551616<=18446744073709551615 /\
  0<=a*b/18446744073709551616+(a*b%18446744073709551616+z)/18446744073709551616+((a*b%18446744073709551616+z)%18446744073709551616+c)/18446744073709551616/\a*b/18446744073709551616+(a*b%18446744073709551616+z)/18446744073709551616+((a*b%18446744073709551616+z)%18446744073709551616+c)/18446744073709551616<=18446744073709551615:=by
 have h1:0<=a*b:=Int.mul_nonneg ha.1 hb.1
 have h2:a*b<=18446744073709551615*18446744073709551615:=Int.mul_le_mul ha.2 hb.2 hb.1 (by decide)
 generalize a*b=P at *
 omega
theorem zAk (V Vi a vb b z c s hi:Int)(i k:Nat)(h:V+c*18446744073709551616^(i+k)=Vi+a*vb*18446744073709551616^i)(hs:s+hi*18446744073709551616=a*b+z+c) :
  V+(s-z)*18446744073709551616^(i+k)+hi*18446744073709551616^(i+(k+1))=Vi+a*(vb+b*18446744073709551616^k)*18446744073709551616^i:=by
 have e1:s=a*b+z+c-hi*18446744073709551616:=by omega
 have e2:(18446744073709551616:Int)^(i+(k+1))=18446744073709551616^(i+k)*18446744073709551616:=by rw [← Int.pow_succ];rfl
 have e3:(18446744073709551616:Int)^(i+k)=18446744073709551616^i*18446744073709551616^k:=Int.pow_add ..
 rw [e1,e2]
 rw [e3] at h ⊢
 generalize (18446744073709551616:Int)^i=p at *
 generalize (18446744073709551616:Int)^k=q at *
 grind
end Go.Proofs.YtpabnhlfbjkmaaaGreatDoor

namespace Go.Proofs.YtpabnhlfbjkmaaaGreatDoor
open Go.RowKit
structure Wd (p:World->Prop) where
 w:World
 h:p w
theorem zKa {P:Program}{p:World->Prop}{f:FuncId}{args:Array Value}{v:Value}(t:Wd p)(hp:∀ w w',p w->Below w.heap.size w w'->p w')
  (h:Calls P f args t.w fun e w'=>e=.returned v/\Below t.w.heap.size t.w w'):Calls P f args t.w fun e w''=>e=.returned v/\∃ t':Wd p,w''=t'.w :=
 h.mono fun _ w' ⟨h1,h2⟩=>⟨h1,⟨w',hp _ _ t.h h2⟩,rfl⟩
end Go.Proofs.YtpabnhlfbjkmaaaGreatDoor

namespace Go.Proofs.YtpabnhlfbjkmaaaGreatDoor
structure Dg (u d1 d0 e:Int):Prop where
 a1:2147483648<=d1
 a2:d1<4294967296
 b1:0<=d0
 b2:d0<4294967296
 e1:0<=e
 e2:e<4294967296
 u1:0<=u
 u2:u<d1*4294967296+d0
theorem Dg.pos {u d1 d0 e:Int}(h:Dg u d1 d0 e):0<d1*4294967296+d0:=by have:=h.a1;have:=h.b1;omega
theorem mulY (q d1 d0:Int):q*(d1*4294967296+d0)=(q*d1)*4294967296+q*d0:=by rw [Int.mul_add,Int.mul_assoc]
theorem Dg.lt {u d1 d0 e:Int}(h:Dg u d1 d0 e):(u*4294967296+e)/(d1*4294967296+d0)<4294967296:=by
 apply Int.ediv_lt_of_lt_mul h.pos
 have:=h.u2;have:=h.e2;omega
theorem Dg.nonneg {u d1 d0 e:Int}(h:Dg u d1 d0 e):0<=(u*4294967296+e)/(d1*4294967296+d0):=Int.ediv_nonneg (by have:=h.u1;have:=h.e1;omega) (by have:=h.pos;omega)
theorem Dg.big {u d1 d0 e q r:Int}(h:Dg u d1 d0 e)(hq:q*d1+r=u)(ht:4294967296*r+e<q*d0):(u*4294967296+e)/(d1*4294967296+d0)<=q-1:=by
 have:(u*4294967296+e)/(d1*4294967296+d0)<q:=by
  apply Int.ediv_lt_of_lt_mul h.pos
  rw [mulY];omega
 omega
theorem Dg.big' {u d1 d0 e q:Int}(h:Dg u d1 d0 e)(ht:4294967296<=q):(u*4294967296+e)/(d1*4294967296+d0)<=q-1:=by
 have:=h.lt;omega
theorem Dg.right {u d1 d0 e q r:Int}(h:Dg u d1 d0 e)(hq:q*d1+r=u)(hge:(u*4294967296+e)/(d1*4294967296+d0)<=q)(ht:q*d0<=4294967296*r+e):(u*4294967296+e)/(d1*4294967296+d0)=q:=by
 have:q<=(u*4294967296+e)/(d1*4294967296+d0):=by
  apply Int.le_ediv_of_mul_le h.pos
  rw [mulY];omega
 omega
theorem Dg.right' {u d1 d0 e q r:Int}(h:Dg u d1 d0 e)(hq:q*d1+r=u)(hge:(u*4294967296+e)/(d1*4294967296+d0)<=q)(hq2:q<=4294967296)(hr:4294967296<=r):(u*4294967296+e)/(d1*4294967296+d0)=q:=by
 refine h.right hq hge ?_
 have h0:0<=q:=Int.le_trans h.nonneg hge
 have h1:q*d0<=4294967296*d0:=Int.mul_le_mul_of_nonneg_right hq2 h.b1
 have:=h.b2;have:=h.e1
 omega
theorem Dg.first {u d1 d0 e:Int}(h:Dg u d1 d0 e):(u/d1)*d1+u%d1=u/\(u*4294967296+e)/(d1*4294967296+d0)<=u/d1/\u/d1<=4294967297/\0<=u%d1/\u%d1<4294967296:=by
 have a1:=h.a1;have a2:=h.a2
 have hd:0<d1:=by omega
 have e0:(u/d1)*d1+u%d1=u:=Int.mul_comm d1 _▸Int.mul_ediv_add_emod u d1
 have m0:=Int.emod_nonneg u (show d1≠0 by omega)
 have m1:=Int.emod_lt_of_pos u hd
 refine ⟨e0,?_,?_,m0,by omega⟩
 ·have:(u*4294967296+e)/(d1*4294967296+d0)<u/d1+1:=by
   apply Int.ediv_lt_of_lt_mul h.pos
   rw [mulY,Int.add_mul]
   have p0:0<=(u/d1+1)*d0:=Int.mul_nonneg (by have:=Int.ediv_nonneg h.u1 (Int.le_of_lt hd);omega) h.b1
   have:=h.e2
   omega
  omega
 ·have:u/d1<4294967298:=by
   apply Int.ediv_lt_of_lt_mul hd
   have:=h.u2;have:=h.b2
   omega
  omega
end Go.Proofs.YtpabnhlfbjkmaaaGreatDoor

namespace Go.Proofs.YtpabnhlfbjkmaaaGreatDoor
open Go.RowKit
section
section
variable {P:Program}{ops:Array Oper}{md:Region.Mode}{C:World->Prop}
def zKb (k m:Nat):Array Bool:=(List.replicate k true++List.replicate (m-k) false).toArray
theorem zFg (m:Nat):zKb 0 m=Array.replicate m false:=by
 simp [zKb]
theorem zQd {k m:Nat}(h:k<m):(zKb k m).setIfInBounds k true=zKb (k+1) m:=by
 apply Array.ext
 ·simp [zKb];omega
 ·intro i h1 h2
  have hi:i<m:=by simp [zKb] at h2;omega
  simp only [zKb,List.setIfInBounds_toArray,List.getElem_toArray,List.getElem_set,List.getElem_append,List.length_replicate,List.getElem_replicate]
  split
  ·subst_vars;simp
  ·by_cases hk:i<k
   ·simp [hk,show i<k+1 by omega]
   ·simp [hk,show ¬ i<k+1 by omega]
theorem zDp {k m j:Nat}(h:(zKb k m).getD j true=false):k<=j:=by
 rcases Nat.lt_or_ge j k with h1|h1
 ·simp [zKb,List.getElem?_append,h1] at h
 ·exact h1
def zOs (md:Region.Mode)(ops:Array Oper)(n:Nat):Bool :=
 (List.range ops.size).all fun t=>decide (t<=n)||(List.range t).any fun s=>decide (n<=s)&&Region.waitsFor md ops t s
def zH4 (md:Region.Mode)(ops:Array Oper)(n:Nat):Bool :=
 Region.noSelect ops&&decide (n<ops.size)&&Region.sinkB md ops n&&zOs md ops n&&(List.range n).all fun k=>(Region.ready md ops (zKb k ops.size)).contains k&&Region.free md ops (zKb k ops.size) k
theorem zCl {n:Nat}{done:Array Bool}(hs:Region.sinkB md ops n=true)(hn:n<ops.size)(inv:HeadInv md ops n done) :
  ∀ (d i:Nat),n-i=d->i<n->done.getD i true=false->n ∉ Region.ready md ops done:=by
 intro d
 induction d using Nat.strongRecOn with
 | _ d ih =>
  intro i hd hi hun hr
  obtain ⟨_,ot,hot,hall⟩:=mem_ready.1 hr
  obtain ⟨j,hj,hj2⟩:=List.any_eq_true.1 (List.all_eq_true.1 hs i (List.mem_range.2 hi))
  simp only [Bool.and_eq_true,decide_eq_true_eq] at hj2
  obtain ⟨oj,hoj,e,he,hb,hon⟩:=Region.waitsFor_spec hj2.2
  have hjle:j<=n:=by have:=List.mem_range.1 hj;omega
  by_cases hjn:j=n
  ·subst hjn
   obtain rfl:oj=ot:=Option.some.inj (hoj.symm.trans hot)
   have h2:=hall e he hb
   rw [hon,getD_both hun] at h2
   cases h2
  ·cases hl:done.getD j false with
   | true =>
    have h2:=inv.closed j oj hoj hl e he hb
    rw [hon,getD_both hun] at h2
    cases h2
   | false =>
    exact ih (n-j) (by omega) j rfl (by omega) (getD_in (by rw [inv.size];omega) hl) hr
theorem zBl {n i:Nat}{done:Array Bool}(hs:Region.sinkB md ops n=true)(hc:zOs md ops n=true)(hn:n<ops.size)(inv:HeadInv md ops n done)(hi:i<n)(hun:done.getD i true=false)(t:Nat)(ht:n<=t):t ∉ Region.ready md ops done:=by
 intro hr
 by_cases htn:t=n
 ·subst htn;exact zCl hs hn inv _ i rfl hi hun hr
 ·obtain ⟨_,ot,hot,hall⟩:=mem_ready.1 hr
  have htlt:t<ops.size:=(Array.getElem?_eq_some_iff.1 hot).1
  have h1:=List.all_eq_true.1 hc t (List.mem_range.2 htlt)
  simp only [Bool.or_eq_true,decide_eq_true_eq] at h1
  rcases h1 with h1|h1
  ·omega
  ·obtain ⟨s,hsm,hs2⟩:=List.any_eq_true.1 h1
   simp only [Bool.and_eq_true,decide_eq_true_eq] at hs2
   obtain ⟨o',ho',e,he,hb,hon⟩:=Region.waitsFor_spec hs2.2
   obtain rfl:o'=ot:=Option.some.inj (ho'.symm.trans hot)
   have hst:=List.mem_range.1 hsm
   have h2:=hall e he hb
   rw [hon,getD_both (inv.tail s hs2.1 (by omega))] at h2
   cases h2
def zXy (P:Program)(md:Region.Mode)(ops:Array Oper)(C:World->Prop)(n:Nat)(L:Array Bool->Act->Prop):Nat->Array Bool->Act->Prop
 | 0,done,a=>L done a
 | f+1,done,a=>Region.ready md ops done≠[]/\∀ i ∈ Region.ready md ops done,i<n/\qOp P ops C i (zXy P md ops C n L f (done.setIfInBounds i true)) a
theorem zZo {n g:Nat}{L:Array Bool->Act->Prop}{Q:Exit->Act->World->Prop}(hL:∀ done a w,C w->L done a->wpAny P md ops Q g done a w) :
  ∀ (f:Nat) (done:Array Bool) (a:Act) (w:World),C w->zXy P md ops C n L f done a->wpAny P md ops Q (f+g) done a w
 | 0,done,a,w,hw,h=>by rw [Nat.zero_add];exact hL _ _ _ hw h
 | f+1,done,a,w,hw,h=>by
  rw [show f+1+g=(f+g)+1 by omega]
  exact ⟨fun h0=>absurd h0 h.1,fun i hi=>wpOp_of_qOp hw (fun a' w' hw' h'=>zZo hL f _ a' w' hw' h') (h.2 i hi).2⟩
theorem zKq {n i:Nat}{oi:Oper}{v:Value}{L:Array Bool->Act->Prop}(hi:ops[i]?=some oi)(hsel:∀ (j:Nat) (o:Oper) cs b,ops[j]?=some o->o.op≠.select cs b)
  (hs:Region.sinkB md ops n=true) (hc:zOs md ops n=true) (hn:n<ops.size) (hin:i<n) (hend:∀ done a,L done a->∀ j ∈ Region.ready md ops done,n<=j) :
  ∀ (f:Nat) (done:Array Bool) (a:Act),HeadInv md ops n done ->
   (∀ j oj,ops[j]?=some oj->j≠i->done.getD j true=false->(∀ e ∈ oj.after,Region.binds md e=true->e.on≠i)->oi.apart ops oj=true) ->
   i ∈ Region.ready md ops done->YieldsIn P ops C oi v a->zXy P md ops C n L f (done.setIfInBounds i true) (a.put oi.dst v)->zXy P md ops C n L (f+1) done a:=by
 intro f
 induction f with
 | zero =>
  intro done a inv _ hr hy H
  refine ⟨fun h=>(by rw [h] at hr;cases hr),fun j hj=>?_⟩
  have hjn:j<n:=Nat.lt_of_not_le fun h=>zBl hs hc hn inv hin (mem_ready.1 hr).1 j h hj
  refine ⟨hjn,?_⟩
  by_cases hji:j=i
  ·subst hji;exact hy.qOp hi H
  ·have:=hend _ _ H j (ready_mono hj hji)
   omega
 | succ f ih =>
  intro done a inv hfree hr hy H
  have hun:=(mem_ready.1 hr).1
  refine ⟨fun h=>(by rw [h] at hr;cases hr),fun j hj=>?_⟩
  have hjn:j<n:=Nat.lt_of_not_le fun h=>zBl hs hc hn inv hin hun j h hj
  refine ⟨hjn,?_⟩
  by_cases hji:j=i
  ·subst hji;exact hy.qOp hi H
  ·obtain ⟨hjun,oj,hoj,hall⟩:=mem_ready.1 hj
   have hnot:∀ e ∈ oj.after,Region.binds md e=true->e.on≠i:=fun e he hb heq=>by
    have h1:=hall e he hb
    rw [heq,getD_both hun] at h1
    cases h1
   have h2:=qOp_put hoj (hfree j oj hoj hji hjun hnot) (fun cs b=>hsel i oi cs b hi) (fun cs b=>hsel j oj cs b hoj) hy (H.2 j (ready_mono hj hji)).2
   refine qOp_mono (fun a' h3=>ih (done.setIfInBounds j true) a' (inv.set hj hjn) (fun k ok hk hki hku hno=>hfree k ok hk hki ?_ hno) (ready_mono hr (Ne.symm hji)) h3.1 ?_) h2
   ·by_cases hjk:j=k
    ·subst hjk;exact hjun
    ·rw [getD_set_ne true hjk] at hku;exact hku
   ·rw [Array.setIfInBounds_comm _ _ hji]
    exact h3.2
theorem zYo {n:Nat}{K:Act->Prop}(hsel:Region.noSelect ops=true)(hs:Region.sinkB md ops n=true)(hc:zOs md ops n=true)(hn:n<ops.size)
  (hB:∀ k,k<n->(Region.ready md ops (zKb k ops.size)).contains k=true/\Region.free md ops (zKb k ops.size) k=true) :
  ∀ (l:List Oper) (k:Nat) (a:Act),(∀ j,j<l.length->l[j]?=ops[k+j]?)->k+l.length=n->HeadInv md ops n (zKb k ops.size) ->
  wpQuiet P ops C K l a->zXy P md ops C n (fun done' a'=>done'=zKb n ops.size/\K a') l.length (zKb k ops.size) a
 | [],k,a,_,hk,_,h=>by
  have:k=n:=by simpa using hk
  subst this
  exact ⟨rfl,h⟩
 | o::l,k,a,hl,hk,inv,h=>by
  have h0:ops[k]?=some o:=by simpa using (hl 0 (by simp)).symm
  have hkn:k<n:=by simp only [List.length_cons] at hk;omega
  obtain ⟨hr,hf⟩:=hB k hkn
  have hr':k ∈ Region.ready md ops (zKb k ops.size):=by simpa using hr
  have hst:qOp P ops C k (wpQuiet P ops C K l) a:=by unfold qOp;simp only [h0];exact h
  obtain ⟨v,hy,hK⟩:=yieldsIn_of_qOp h0 hst
  have inv':=inv.set hr' hkn
  rw [zQd (by omega)] at inv'
  refine zKq h0 (Region.noSelect_spec hsel) hs hc hn hkn (fun done' a' hL j hj=>?_) l.length _ a inv (Region.free_spec h0 hf) hr' hy ?_
  ·rw [hL.1] at hj;exact zDp (mem_ready.1 hj).1
  ·rw [zQd (by omega)]
   exact zYo hsel hs hc hn hB l (k+1) _ (fun j hj=>by have:=hl (j+1) (by simp;omega);simpa [Nat.add_assoc,Nat.add_comm 1 j] using this) (by simp only [List.length_cons] at hk;omega) inv' hK
def zQu:Op->Bool
 | .move _=>true
 | .assign _=>true
 | .extract _ _=>true
 | _=>false
theorem zPn {o:Oper}{a:Act}{w:World}{K:Act->World->Prop}{Q:Exit->Act->World->Prop}(hk:zQu o.op=true)(h:o.wp P a w K Q∨(o.asks P a w/\LetsOut Q)) :
  ∃ v,(∀ w,(execOp a.eval o).run P w=.ok (.value v) w)/\K (a.put o.dst v) w:=by
 have key:∀ v,execOp a.eval o=pure (.value v)->∃ v,(∀ w,(execOp a.eval o).run P w=.ok (.value v) w)/\K (a.put o.dst v) w:=by
  intro v hv
  rcases h with h|⟨h,_⟩
  ·refine ⟨v,fun w=>by rw [hv];rfl,?_⟩
   unfold Oper.wp at h
   rw [hv] at h
   exact h
  ·exfalso
   have h1:=h.1
   rw [hv] at h1
   have e:(Sem.runT P (pure (Next.value v)) w #[]).2=#[]:=rfl
   rw [e] at h1
   simp at h1
 cases hop:o.op<;>simp only [hop,zQu,Bool.false_eq_true] at hk
 case move x=>exact key (a.eval x) (by simp [execOp,hop])
 case assign x=>exact key (a.eval x) (by simp [execOp,hop])
 case extract x ix =>
  have bad:∀ st,execOp a.eval o=((stuck st:Sem Value) >>= fun v=>pure (Next.value v))->False:=by
   intro st hst
   rcases h with h|⟨h,_⟩
   ·unfold Oper.wp at h
    rw [hst] at h
    exact h
   ·have h1:=h.1
    rw [hst] at h1
    have e:(Sem.runT P ((stuck st:Sem Value) >>= fun v=>pure (Next.value v)) w #[]).2=#[]:=rfl
    rw [e] at h1
    simp at h1
  cases hx:a.eval x
  case tuple vs =>
   cases hv:vs[ix]? with
   | some v=>exact key v (by simp [execOp,hop,Instr.extract,hx,hv])
   | none=>exact (bad "Extract: no such component" (by simp only [execOp,hop,Instr.extract,hx,hv])).elim
  all_goals exact (bad "Extract: tuple expected" (by simp only [execOp,hop,Instr.extract,hx])).elim
def restB (md:Region.Mode)(ops:Array Oper)(n:Nat):Bool :=
 Region.noSelect ops&&(List.range (ops.size-n)).all (fun j=>decide (Region.ready md ops (zKb (n+j) ops.size)=[n+j])||((Region.ready md ops (zKb (n+j) ops.size)).contains (n+j)&&Region.free md ops (zKb (n+j) ops.size) (n+j)&&((ops[n+j]?).map fun o=>zQu o.op&&o.guard.isNone).getD false))&&(Region.ready md ops (zKb ops.size ops.size)).isEmpty
theorem zZk {Q:Exit->Act->World->Prop}(hsel:Region.noSelect ops=true)(hQ:∀ c a d v w,Q (.panic c) (Act.put a d v) w->Q (.panic c) a w)(hend:Region.ready md ops (zKb ops.size ops.size)=[]) :
  ∀ (l:List Oper) (k:Nat) (a:Act) (w:World),(∀ j,l[j]?=ops[k+j]?)->k+l.length=ops.size ->
  (∀ j,k<=j->j<ops.size->Region.ready md ops (zKb j ops.size)=[j]∨((Region.ready md ops (zKb j ops.size)).contains j=true/\Region.free md ops (zKb j ops.size) j=true/\∃ o,ops[j]?=some o/\zQu o.op=true/\o.guard=none)) ->
  wpList P ops Q l a w->wpAny P md ops Q l.length (zKb k ops.size) a w
 | [],k,a,w,_,hk,_,h=>by
  have:k=ops.size:=by simpa using hk
  subst this
  exact ⟨hend,h⟩
 | o::l,k,a,w,hl,hk,hB,h=>by
  have h0:ops[k]?=some o:=by simpa using (hl 0).symm
  have hks:k<ops.size:=by simp only [List.length_cons] at hk;omega
  have hl':∀ j,l[j]?=ops[k+1+j]?:=fun j=>by have:=hl (j+1);simpa [Nat.add_assoc,Nat.add_comm 1 j] using this
  have hk':k+1+l.length=ops.size:=by simp only [List.length_cons] at hk;omega
  have ih:=fun a w=>zZk hsel hQ hend l (k+1) a w hl' hk' (fun j h1 h2=>hB j (by omega) h2)
  rcases hB k (Nat.le_refl _) hks with hr|⟨hr,hf,o',ho',hwl,hg⟩
  ·refine ⟨fun h1=>(by rw [hr] at h1;cases h1),fun i hi=>?_⟩
   rw [hr] at hi
   obtain rfl:i=k:=by simpa using hi
   rw [zQd hks]
   have hw:wpOp P ops Q i (wpList P ops Q l) a w:=by unfold wpOp;simp only [h0];exact h
   exact wpOp_mono (fun a' w' h'=>ih a' w' h') hw
  ·obtain rfl:o'=o:=Option.some.inj (ho'.symm.trans h0)
   have hwt:Region.wanted o' (yielded ops a.tmps)=true:=by unfold Region.wanted;rw [hg]
   unfold wpList at h
   rw [if_pos hwt] at h
   obtain ⟨v,hv,hK⟩:=zPn hwl h
   refine wpAny_take h0 hsel hf hr (fun c a w=>hQ c a _ v w) (Or.inl ⟨hwt,hv⟩) ?_
   rw [zQd hks]
   exact ih _ _ hK
theorem zHf {K K':Act->Prop}(h:∀ a,K a->K' a):∀ (l:List Oper) (a:Act),wpQuiet P ops C K l a->wpQuiet P ops C K' l a
 | [],a,hh=>h a hh
 | o::l,a,hh=>by
  unfold wpQuiet at *
  split
  ·rename_i hw;rw [if_pos hw] at hh;exact Oper.quiet_mono (zHf h l) hh
  ·rename_i hw;rw [if_neg hw] at hh;exact zHf h l _ hh
abbrev Bk (w:World):World->Prop:=fun W=>Below w.heap.size w W
theorem bk_iff {w:World}(X:World->Prop):(∀ w',(∃ t:Wd (Bk w),w'=t.w)->X w')=(∀ w',Below w.heap.size w w'->X w') :=
 propext ⟨fun h w' hb=>h w' ⟨⟨w',hb⟩,rfl⟩,fun h w' ⟨t,e⟩=>h w' (by rw [e];exact t.h)⟩
theorem zQa {w:World}:∀ v v':World,Bk w v->Below v.heap.size v v'->Bk w v':=fun v v' h hb=>h.trans (hb.mono h.size)
theorem zF8 {id:Nat}{Q:Exit->Act->World->Prop}{a:Act}{w:World}{l:List Oper}(n:Nat)(hm:P.follows .mixedOrders=true)(hB:zH4 .any l.toArray n=true)
  (h:Nonempty (Wd (Bk w))->(∀ (t:Wd (Bk w)) (b o:Nat),b<w.heap.size->t.w.cell? ⟨b,o,none⟩=w.cell? ⟨b,o,none⟩) ->
   wpQuiet P l.toArray (fun w'=>∃ t:Wd (Bk w),w'=t.w) (fun a'=>∀ w',Below w.heap.size w w'->wpAny P .any l.toArray Q (l.length-n) (zKb n l.length) a' w') (l.take n) a):(Code.region id l.toArray true).wp P Q a w:=by
 simp only [zH4,Bool.and_eq_true,decide_eq_true_eq] at hB
 obtain ⟨⟨⟨⟨hsel,hn⟩,hs⟩,hc⟩,hlex⟩:=hB
 have hn':n<l.length:=by simpa using hn
 have htl:(l.take n).length=n:=by simp;omega
 have h':=h ⟨⟨w,Below.refl _ _⟩⟩ fun t b o hb=>t.h.cell (p:=⟨b,o,none⟩) hb
 simp only [← bk_iff] at h'
 have hsz:l.toArray.size=l.length:=by simp
 have inv0:HeadInv .any l.toArray n (zKb 0 l.toArray.size):=by
  rw [zFg]
  exact ⟨by simp,fun j oj _ hl=>(by rw [getD_replicate_false] at hl;cases hl),fun t _ ht=>getD_in (by simpa using ht) (getD_replicate_false _ _)⟩
 have H:=zYo (md:=.any) hsel hs hc hn (fun k hk=>by
  have:=List.all_eq_true.1 hlex k (List.mem_range.2 hk)
  simpa only [Bool.and_eq_true] using this) (l.take n) 0 a (fun j hj=>by
  have hj':j<n:=by rw [htl] at hj;exact hj
  simp [hj']) (by simpa using htl) inv0 h'
 refine wp_region_any hm ?_
 have:=zZo (Q:=Q) (g:=l.length-n) (fun done a' w' hw' hL=>by
  rw [hL.1,hsz]
  exact hL.2 w' hw') _ _ _ w.drew ⟨⟨w.drew,(Below.refl _ _).drew⟩,rfl⟩ H
 rw [htl,show n+(l.length-n)=l.toArray.size by rw [hsz];omega,zFg] at this
 exact this
theorem zSb {id:Nat}{Q:Exit->Act->World->Prop}{a:Act}{w:World}{l:List Oper}(n:Nat)(hm:P.follows .mixedOrders=true)(hB:zH4 .any l.toArray n=true)(hR:restB .any l.toArray n=true)(hQ:∀ c a d v w,Q (.panic c) (Act.put a d v) w->Q (.panic c) a w)
  (h:Nonempty (Wd (Bk w))->(∀ (t:Wd (Bk w)) (b o:Nat),b<w.heap.size->t.w.cell? ⟨b,o,none⟩=w.cell? ⟨b,o,none⟩) ->
   wpQuiet P l.toArray (fun w'=>∃ t:Wd (Bk w),w'=t.w) (fun a'=>∀ w',Below w.heap.size w w'->wpList P l.toArray Q (l.drop n) a' w') (l.take n) a):(Code.region id l.toArray true).wp P Q a w:=by
 refine zF8 n hm hB fun h1 h2=>?_
 have hsz:l.toArray.size=l.length:=by simp
 have hn:n<l.length:=by
  simp only [zH4,Bool.and_eq_true,decide_eq_true_eq] at hB
  have:=hB.1.1.1.2;rwa [hsz] at this
 simp only [restB,Bool.and_eq_true,List.isEmpty_iff] at hR
 obtain ⟨⟨hsel,hall⟩,hend⟩:=hR
 refine zHf (fun a' h3 w' hw'=>?_) (l.take n) a (h h1 h2)
 have:=zZk (P:=P) (md:=.any) (Q:=Q) hsel hQ hend (l.drop n) n a' w' (fun j=>by simp [List.getElem?_drop]) (by simp;omega) (fun j hj1 hj2=>by
  have h5:=List.all_eq_true.1 hall (j-n) (List.mem_range.2 (by omega))
  rw [show n+(j-n)=j by omega] at h5
  simp only [Bool.or_eq_true,Bool.and_eq_true,decide_eq_true_eq] at h5
  rcases h5 with h5|⟨⟨h5,h6⟩,h7⟩
  ·exact Or.inl h5
  ·refine Or.inr ⟨h5,h6,?_⟩
   cases ho:l.toArray[j]? with
   | none=>rw [ho] at h7;cases h7
   | some o =>
    rw [ho] at h7
    simp only [Option.map_some,Option.getD_some,Bool.and_eq_true,Option.isNone_iff_eq_none] at h7
    exact ⟨o,rfl,h7.1,h7.2⟩) (h3 w' hw')
 rw [hsz] at this
 simpa using this
end
end
def B (l:List UInt8):ByteArray:=⟨l.toArray⟩
theorem B_of (s:ByteArray):B s.data.toList=s:=by cases s;rfl
theorem zCa (l:List UInt8):(B l).size=l.length:=rfl
theorem B_get {l:List UInt8}{i:Nat}(h:i<(B l).size):(B l)[i]'h=l[i]'(by rwa [zCa] at h):=by
 show (B l).data[i]'_=_
 simp [B]
theorem zVh (l:List UInt8)(a b:Nat):(B l).extract a b=B ((l.take b).drop a):=by
 apply ByteArray.ext
 rw [ByteArray.data_extract]
 show l.toArray.extract a b=((l.take b).drop a).toArray
 rw [List.extract_toArray,List.extract_eq_take_drop,List.drop_take]
theorem zTa (a b:List UInt8):B a++B b=B (a++b):=by
 apply ByteArray.ext
 rw [ByteArray.data_append]
 show a.toArray++b.toArray=(a++b).toArray
 simp
def by_ (l:List UInt8)(i:Nat):Int:=if h:i<l.length then ((l[i]'h).toNat:Int) else 0
theorem zMc {l:List UInt8}{i:Nat}(h:i<(B l).size):(((B l)[i]'h).toNat:Int)=by_ l i:=by
 rw [B_get h];unfold by_;rw [dif_pos (by rwa [zCa] at h)]
theorem zQ0 (l:List UInt8)(i:Nat):0<=by_ l i/\by_ l i<=255:=by
 unfold by_;split
 ·rename_i h;have:=(l[i]'h).toNat_lt;omega
 ·omega
theorem zSg (c:UInt8)(r:List UInt8)(i:Nat):by_ (c::r) (i+1)=by_ r i:=by
 unfold by_
 by_cases h:i<r.length
 ·rw [dif_pos h,dif_pos (by simpa using h)];rfl
 ·rw [dif_neg h,dif_neg (by simpa using h)]
theorem zXa (c:UInt8)(r:List UInt8):by_ (c::r) 0=(c.toNat:Int):=by simp [by_]
def dg (c:UInt8):Bool:=decide (48<=c.toNat/\c.toNat<=57)
def dgs (l:List UInt8):List UInt8:=l.takeWhile dg
def rst (l:List UInt8):List UInt8:=l.dropWhile dg
theorem zUd (l:List UInt8):dgs l++rst l=l:=List.takeWhile_append_dropWhile
theorem zLe (l:List UInt8):(dgs l).length<=l.length:=by
 have:=congrArg List.length (zUd l)
 rw [List.length_append] at this;omega
theorem zEr (l:List UInt8):l.take (dgs l).length=dgs l:=by
 conv=>lhs;arg 2;rw [← zUd l]
 simp
theorem zGs (l:List UInt8):l.drop (dgs l).length=rst l:=by
 conv=>lhs;arg 2;rw [← zUd l]
 simp
theorem zD0:∀ (l:List UInt8) (i:Nat),i<(dgs l).length->48<=by_ l i/\by_ l i<=57
 | [],i,h=>by simp [dgs] at h
 | c::r,i,h=>by
  unfold dgs at h
  rw [List.takeWhile_cons] at h
  split at h
  ·rename_i hc
   unfold dg at hc
   simp at hc
   cases i with
   | zero=>simp [by_];omega
   | succ i =>
    have:=zD0 r i (by simpa [dgs] using h)
    rw [zSg]
    exact this
  ·simp at h
theorem zEn:∀ (l:List UInt8),(dgs l).length<l.length->¬ (48<=by_ l (dgs l).length/\by_ l (dgs l).length<=57)
 | [],h=>by simp [dgs] at h
 | c::r,h=>by
  unfold dgs at h ⊢
  rw [List.takeWhile_cons] at h ⊢
  split at h
  ·rename_i hc
   rw [if_pos hc]
   have:=zEn r (by simpa [dgs] using h)
   rw [List.length_cons,zSg]
   exact this
  ·rename_i hc
   rw [if_neg hc]
   unfold dg at hc
   simp at hc
   simp [by_]
   intro h1
   omega
end Go.Proofs.YtpabnhlfbjkmaaaGreatDoor
