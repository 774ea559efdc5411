/-
  Texts that the proof leans on.
-/
import Derived.WalkKit
import Derived.BigQuiet
import Derived.StillTail
import Derived.Test.YtahfkpjhlbiamaaGreatDoorProg
import Derived.RowKit
import Derived.Below
set_option linter.unusedVariables false
set_option maxRecDepth 20000
set_option linter.unusedSectionVars false
set_option linter.unusedSimpArgs false
namespace Go.Proofs.YtahfkpjhlbiamaaGreatDoor
def val (x:Nat->Int):Nat->Int
 | 0=>0
 | n+1=>val x n+x n*18446744073709551616^n
theorem val_congr {x y:Nat->Int}:∀ n,(∀ i,i<n->x i=y i)->val x n=val y n
 | 0,_=>rfl
 | n+1,h=>by simp only [val];rw [val_congr n fun i hi=>h i (by omega),h n (by omega)]
theorem pw_pos (n:Nat):(0:Int)<18446744073709551616^n:=Int.pow_pos (by decide)
theorem val_bd {x:Nat->Int}(hx:∀ i,0<=x i/\x i<=18446744073709551615):∀ n,0<=val x n/\val x n<18446744073709551616^n
 | 0=>by simp [val]
 | n+1=>by
  have ih:=val_bd hx n
  have hb:=hx n
  have hp:=pw_pos n
  simp only [val]
  have h1:0<=x n*18446744073709551616^n:=Int.mul_nonneg hb.1 (Int.le_of_lt hp)
  have h2:x n*18446744073709551616^n<=18446744073709551615*18446744073709551616^n:=Int.mul_le_mul_of_nonneg_right hb.2 (Int.le_of_lt hp)
  rw [Int.pow_succ]
  omega
theorem val_set (x:Nat->Int)(p:Nat)(v:Int):∀ n,p<n->val (fun i=>if i=p then v else x i) n=val x n+(v-x p)*18446744073709551616^p
 | 0,h=>by omega
 | n+1,h=>by
  simp only [val]
  by_cases e:n=p
  ·subst e
   rw [if_pos rfl,val_congr (y:=x) n fun i hi=>if_neg (by omega),Int.sub_mul];omega
  ·rw [if_neg e,val_set x p v n (by omega)];omega
theorem val_inj {x y:Nat->Int}(hx:∀ i,0<=x i/\x i<=18446744073709551615)(hy:∀ i,0<=y i/\y i<=18446744073709551615):∀ n,val x n=val y n->∀ i,i<n->x i=y i
 | 0,_,i,hi=>by omega
 | n+1,h,i,hi=>by
  simp only [val] at h
  have bx:=val_bd hx n
  have b_y:=val_bd hy n
  have hp:=pw_pos n
  have e1:(val x n+x n*18446744073709551616^n)/18446744073709551616^n=x n:=by
   rw [Int.add_mul_ediv_right _ _ (Int.ne_of_gt hp),Int.ediv_eq_zero_of_lt bx.1 bx.2];omega
  have e2:(val y n+y n*18446744073709551616^n)/18446744073709551616^n=y n:=by
   rw [Int.add_mul_ediv_right _ _ (Int.ne_of_gt hp),Int.ediv_eq_zero_of_lt b_y.1 b_y.2];omega
  have e3:x n=y n:=by rw [← e1,← e2,h]
  by_cases e:i=n
  ·subst e;exact e3
  ·rw [e3] at h
   exact val_inj hx hy n (by omega) i (by omega)
theorem val_more {x:Nat->Int}{n:Nat}(hz:∀ i,n<=i->x i=0):∀ m,n<=m->val x m=val x n
  | 0, h => by obtain rfl : n = 0 := by omega
               rfl
  | m+1,h=>by
    by_cases e:n=m+1
    · rw [e]
    · simp only [val];rw [val_more hz m (by omega),hz m (by omega)];omega
theorem mul_step (a b z c:Int)(ha:0<=a/\a<=18446744073709551615)(hb:0<=b/\b<=18446744073709551615)(hz:0<=z/\z<=18446744073709551615)(hc:0<=c/\c<=18446744073709551615) :
  ((a*b%18446744073709551616+z)%18446744073709551616+c)%18446744073709551616+(a*b/18446744073709551616+(a*b%18446744073709551616+z)/18446744073709551616+((a*b%18446744073709551616+z)%18446744073709551616+c)/18446744073709551616)*18446744073709551616=a*b+z+c /\
  0<=a*b/18446744073709551616+(a*b%18446744073709551616+z)/18446744073709551616/\a*b/18446744073709551616+(a*b%18446744073709551616+z)/18446744073709551616<=18446744073709551615 /\
  0<=a*b/18446744073709551616+(a*b%18446744073709551616+z)/18446744073709551616+((a*b%18446744073709551616+z)%18446744073709551616+c)/18446744073709551616/\a*b/18446744073709551616+(a*b%18446744073709551616+z)/18446744073709551616+((a*b%18446744073709551616+z)%18446744073709551616+c)/18446744073709551616<=18446744073709551615:=by
 have h1:0<=a*b:=Int.mul_nonneg ha.1 hb.1
 have h2:a*b<=18446744073709551615*18446744073709551615:=Int.mul_le_mul ha.2 hb.2 hb.1 (by decide)
 generalize a*b=P at *
 omega
theorem mul_inner (V Vi a vb b z c s hi:Int)(i k:Nat)(h:V+c*18446744073709551616^(i+k)=Vi+a*vb*18446744073709551616^i)(hs:s+hi*18446744073709551616=a*b+z+c) :
  V+(s-z)*18446744073709551616^(i+k)+hi*18446744073709551616^(i+(k+1))=Vi+a*(vb+b*18446744073709551616^k)*18446744073709551616^i:=by
 have e1:s=a*b+z+c-hi*18446744073709551616:=by omega
 have e2:(18446744073709551616:Int)^(i+(k+1))=18446744073709551616^(i+k)*18446744073709551616:=by rw [← Int.pow_succ];rfl
 have e3:(18446744073709551616:Int)^(i+k)=18446744073709551616^i*18446744073709551616^k:=Int.pow_add ..
 rw [e1,e2]
 rw [e3] at h ⊢
 generalize (18446744073709551616:Int)^i=p at *
 generalize (18446744073709551616:Int)^k=q at *
 grind
end Go.Proofs.YtahfkpjhlbiamaaGreatDoor

namespace Go.Proofs.YtahfkpjhlbiamaaGreatDoor
open Go.RowKit
structure Wd (p:World->Prop) where
 w:World
 h:p w
theorem wp_region_wd {P:Program}(p:World->Prop){id:Nat}{Q:Exit->Act->World->Prop}{a:Act}{w:World}{l:List Oper}(hm:P.follows .mixedOrders=true)(hB:Region.lexB .any l.toArray=true)(hp:p w.drew)
  (h:wpQuiet P l.toArray (fun w'=>∃ t:Wd p,w'=t.w) (fun a'=>∀ w',(∃ t:Wd p,w'=t.w)->Q .normal a' w') l a):(Code.region id l.toArray true).wp P Q a w :=
 wp_region_quiet (C:=fun w'=>∃ t:Wd p,w'=t.w) hm hB ⟨⟨_,hp⟩,rfl⟩ (by simpa using h)
theorem calls_wd {P:Program}{p:World->Prop}{f:FuncId}{args:Array Value}{v:Value}(t:Wd p)(hp:∀ w w',p w->Below w.heap.size w w'->p w')
  (h:Calls P f args t.w fun e w'=>e=.returned v/\Below t.w.heap.size t.w w'):Calls P f args t.w fun e w''=>e=.returned v/\∃ t':Wd p,w''=t'.w :=
 h.mono fun _ w' ⟨h1,h2⟩=>⟨h1,⟨w',hp _ _ t.h h2⟩,rfl⟩
section
section
variable {P:Program}{ops:Array Oper}{md:Region.Mode}{C:World->Prop}
def fdone (k m:Nat):Array Bool:=(List.replicate k true++List.replicate (m-k) false).toArray
theorem fdone_zero (m:Nat):fdone 0 m=Array.replicate m false:=by
 simp [fdone]
theorem fdone_next {k m:Nat}(h:k<m):(fdone k m).setIfInBounds k true=fdone (k+1) m:=by
 apply Array.ext
 ·simp [fdone];omega
 ·intro i h1 h2
  have hi:i<m:=by simp [fdone] at h2;omega
  simp only [fdone,List.setIfInBounds_toArray,List.getElem_toArray,List.getElem_set,List.getElem_append,List.length_replicate,List.getElem_replicate]
  split
  ·subst_vars;simp
  ·by_cases hk:i<k
   ·simp [hk,show i<k+1 by omega]
   ·simp [hk,show ¬ i<k+1 by omega]
theorem fdone_out {k m j:Nat}(h:(fdone k m).getD j true=false):k<=j:=by
 rcases Nat.lt_or_ge j k with h1|h1
 ·simp [fdone,List.getElem?_append,h1] at h
 ·exact h1
def chainC (md:Region.Mode)(ops:Array Oper)(n:Nat):Bool :=
 (List.range ops.size).all fun t=>decide (t<=n)||(List.range t).any fun s=>decide (n<=s)&&Region.waitsFor md ops t s
def headB (md:Region.Mode)(ops:Array Oper)(n:Nat):Bool :=
 Region.noSelect ops&&decide (n<ops.size)&&Region.sinkB md ops n&&chainC md ops n&&(List.range n).all fun k=>(Region.ready md ops (fdone k ops.size)).contains k&&Region.free md ops (fdone k ops.size) k
theorem waits_sink {n:Nat}{done:Array Bool}(hs:Region.sinkB md ops n=true)(hn:n<ops.size)(inv:HeadInv md ops n done) :
  ∀ (d i:Nat),n-i=d->i<n->done.getD i true=false->n ∉ Region.ready md ops done:=by
 intro d
 induction d using Nat.strongRecOn with
 | _ d ih =>
  intro i hd hi hun hr
  obtain ⟨_,ot,hot,hall⟩:=mem_ready.1 hr
  obtain ⟨j,hj,hj2⟩:=List.any_eq_true.1 (List.all_eq_true.1 hs i (List.mem_range.2 hi))
  simp only [Bool.and_eq_true,decide_eq_true_eq] at hj2
  obtain ⟨oj,hoj,e,he,hb,hon⟩:=Region.waitsFor_spec hj2.2
  have hjle:j<=n:=by have:=List.mem_range.1 hj;omega
  by_cases hjn:j=n
  ·subst hjn
   obtain rfl:oj=ot:=Option.some.inj (hoj.symm.trans hot)
   have h2:=hall e he hb
   rw [hon,getD_both hun] at h2
   cases h2
  ·cases hl:done.getD j false with
   | true =>
    have h2:=inv.closed j oj hoj hl e he hb
    rw [hon,getD_both hun] at h2
    cases h2
   | false =>
    exact ih (n-j) (by omega) j rfl (by omega) (getD_in (by rw [inv.size];omega) hl) hr
theorem waits_tail {n i:Nat}{done:Array Bool}(hs:Region.sinkB md ops n=true)(hc:chainC md ops n=true)(hn:n<ops.size)(inv:HeadInv md ops n done)(hi:i<n)(hun:done.getD i true=false)(t:Nat)(ht:n<=t):t ∉ Region.ready md ops done:=by
 intro hr
 by_cases htn:t=n
 ·subst htn;exact waits_sink hs hn inv _ i rfl hi hun hr
 ·obtain ⟨_,ot,hot,hall⟩:=mem_ready.1 hr
  have htlt:t<ops.size:=(Array.getElem?_eq_some_iff.1 hot).1
  have h1:=List.all_eq_true.1 hc t (List.mem_range.2 htlt)
  simp only [Bool.or_eq_true,decide_eq_true_eq] at h1
  rcases h1 with h1|h1
  ·omega
  ·obtain ⟨s,hsm,hs2⟩:=List.any_eq_true.1 h1
   simp only [Bool.and_eq_true,decide_eq_true_eq] at hs2
   obtain ⟨o',ho',e,he,hb,hon⟩:=Region.waitsFor_spec hs2.2
   obtain rfl:o'=ot:=Option.some.inj (ho'.symm.trans hot)
   have hst:=List.mem_range.1 hsm
   have h2:=hall e he hb
   rw [hon,getD_both (inv.tail s hs2.1 (by omega))] at h2
   cases h2
def headQ (P:Program)(md:Region.Mode)(ops:Array Oper)(C:World->Prop)(n:Nat)(L:Array Bool->Act->Prop):Nat->Array Bool->Act->Prop
 | 0,done,a=>L done a
 | f+1,done,a=>Region.ready md ops done≠[]/\∀ i ∈ Region.ready md ops done,i<n/\qOp P ops C i (headQ P md ops C n L f (done.setIfInBounds i true)) a
theorem headQ_any {n g:Nat}{L:Array Bool->Act->Prop}{Q:Exit->Act->World->Prop}(hL:∀ done a w,C w->L done a->wpAny P md ops Q g done a w) :
  ∀ (f:Nat) (done:Array Bool) (a:Act) (w:World),C w->headQ P md ops C n L f done a->wpAny P md ops Q (f+g) done a w
 | 0,done,a,w,hw,h=>by rw [Nat.zero_add];exact hL _ _ _ hw h
 | f+1,done,a,w,hw,h=>by
  rw [show f+1+g=(f+g)+1 by omega]
  exact ⟨fun h0=>absurd h0 h.1,fun i hi=>wpOp_of_qOp hw (fun a' w' hw' h'=>headQ_any hL f _ a' w' hw' h') (h.2 i hi).2⟩
theorem headQ_first {n i:Nat}{oi:Oper}{v:Value}{L:Array Bool->Act->Prop}(hi:ops[i]?=some oi)(hsel:∀ (j:Nat) (o:Oper) cs b,ops[j]?=some o->o.op≠.select cs b)
  (hs:Region.sinkB md ops n=true) (hc:chainC md ops n=true) (hn:n<ops.size) (hin:i<n) (hend:∀ done a,L done a->∀ j ∈ Region.ready md ops done,n<=j) :
  ∀ (f:Nat) (done:Array Bool) (a:Act),HeadInv md ops n done ->
   (∀ j oj,ops[j]?=some oj->j≠i->done.getD j true=false->(∀ e ∈ oj.after,Region.binds md e=true->e.on≠i)->oi.apart ops oj=true) ->
   i ∈ Region.ready md ops done->YieldsIn P ops C oi v a->headQ P md ops C n L f (done.setIfInBounds i true) (a.put oi.dst v)->headQ P md ops C n L (f+1) done a:=by
 intro f
 induction f with
 | zero =>
  intro done a inv _ hr hy H
  refine ⟨fun h=>(by rw [h] at hr;cases hr),fun j hj=>?_⟩
  have hjn:j<n:=Nat.lt_of_not_le fun h=>waits_tail hs hc hn inv hin (mem_ready.1 hr).1 j h hj
  refine ⟨hjn,?_⟩
  by_cases hji:j=i
  ·subst hji;exact hy.qOp hi H
  ·have:=hend _ _ H j (ready_mono hj hji)
   omega
 | succ f ih =>
  intro done a inv hfree hr hy H
  have hun:=(mem_ready.1 hr).1
  refine ⟨fun h=>(by rw [h] at hr;cases hr),fun j hj=>?_⟩
  have hjn:j<n:=Nat.lt_of_not_le fun h=>waits_tail hs hc hn inv hin hun j h hj
  refine ⟨hjn,?_⟩
  by_cases hji:j=i
  ·subst hji;exact hy.qOp hi H
  ·obtain ⟨hjun,oj,hoj,hall⟩:=mem_ready.1 hj
   have hnot:∀ e ∈ oj.after,Region.binds md e=true->e.on≠i:=fun e he hb heq=>by
    have h1:=hall e he hb
    rw [heq,getD_both hun] at h1
    cases h1
   have h2:=qOp_put hoj (hfree j oj hoj hji hjun hnot) (fun cs b=>hsel i oi cs b hi) (fun cs b=>hsel j oj cs b hoj) hy (H.2 j (ready_mono hj hji)).2
   refine qOp_mono (fun a' h3=>ih (done.setIfInBounds j true) a' (inv.set hj hjn) (fun k ok hk hki hku hno=>hfree k ok hk hki ?_ hno) (ready_mono hr (Ne.symm hji)) h3.1 ?_) h2
   ·by_cases hjk:j=k
    ·subst hjk;exact hjun
    ·rw [getD_set_ne true hjk] at hku;exact hku
   ·rw [Array.setIfInBounds_comm _ _ hji]
    exact h3.2
theorem headQ_lex {n:Nat}{K:Act->Prop}(hsel:Region.noSelect ops=true)(hs:Region.sinkB md ops n=true)(hc:chainC md ops n=true)(hn:n<ops.size)
  (hB:∀ k,k<n->(Region.ready md ops (fdone k ops.size)).contains k=true/\Region.free md ops (fdone k ops.size) k=true) :
  ∀ (l:List Oper) (k:Nat) (a:Act),(∀ j,j<l.length->l[j]?=ops[k+j]?)->k+l.length=n->HeadInv md ops n (fdone k ops.size) ->
  wpQuiet P ops C K l a->headQ P md ops C n (fun done' a'=>done'=fdone n ops.size/\K a') l.length (fdone k ops.size) a
 | [],k,a,_,hk,_,h=>by
  have:k=n:=by simpa using hk
  subst this
  exact ⟨rfl,h⟩
 | o::l,k,a,hl,hk,inv,h=>by
  have h0:ops[k]?=some o:=by simpa using (hl 0 (by simp)).symm
  have hkn:k<n:=by simp only [List.length_cons] at hk;omega
  obtain ⟨hr,hf⟩:=hB k hkn
  have hr':k ∈ Region.ready md ops (fdone k ops.size):=by simpa using hr
  have hst:qOp P ops C k (wpQuiet P ops C K l) a:=by unfold qOp;simp only [h0];exact h
  obtain ⟨v,hy,hK⟩:=yieldsIn_of_qOp h0 hst
  have inv':=inv.set hr' hkn
  rw [fdone_next (by omega)] at inv'
  refine headQ_first h0 (Region.noSelect_spec hsel) hs hc hn hkn (fun done' a' hL j hj=>?_) l.length _ a inv (Region.free_spec h0 hf) hr' hy ?_
  ·rw [hL.1] at hj;exact fdone_out (mem_ready.1 hj).1
  ·rw [fdone_next (by omega)]
   exact headQ_lex hsel hs hc hn hB l (k+1) _ (fun j hj=>by have:=hl (j+1) (by simp;omega);simpa [Nat.add_assoc,Nat.add_comm 1 j] using this) (by simp only [List.length_cons] at hk;omega) inv' hK
def wless:Op->Bool
 | .move _=>true
 | .assign _=>true
 | .extract _ _=>true
 | _=>false
theorem wless_run {o:Oper}{a:Act}{w:World}{K:Act->World->Prop}{Q:Exit->Act->World->Prop}(hk:wless o.op=true)(h:o.wp P a w K Q∨(o.asks P a w/\LetsOut Q)) :
  ∃ v,(∀ w,(execOp a.eval o).run P w=.ok (.value v) w)/\K (a.put o.dst v) w:=by
 have key:∀ v,execOp a.eval o=pure (.value v)->∃ v,(∀ w,(execOp a.eval o).run P w=.ok (.value v) w)/\K (a.put o.dst v) w:=by
  intro v hv
  rcases h with h|⟨h,_⟩
  ·refine ⟨v,fun w=>by rw [hv];rfl,?_⟩
   unfold Oper.wp at h
   rw [hv] at h
   exact h
  ·exfalso
   have h1:=h.1
   rw [hv] at h1
   have e:(Sem.runT P (pure (Next.value v)) w #[]).2=#[]:=rfl
   rw [e] at h1
   simp at h1
 cases hop:o.op<;>simp only [hop,wless,Bool.false_eq_true] at hk
 case move x=>exact key (a.eval x) (by simp [execOp,hop])
 case assign x=>exact key (a.eval x) (by simp [execOp,hop])
 case extract x ix =>
  have bad:∀ st,execOp a.eval o=((stuck st:Sem Value) >>= fun v=>pure (Next.value v))->False:=by
   intro st hst
   rcases h with h|⟨h,_⟩
   ·unfold Oper.wp at h
    rw [hst] at h
    exact h
   ·have h1:=h.1
    rw [hst] at h1
    have e:(Sem.runT P ((stuck st:Sem Value) >>= fun v=>pure (Next.value v)) w #[]).2=#[]:=rfl
    rw [e] at h1
    simp at h1
  cases hx:a.eval x
  case tuple vs =>
   cases hv:vs[ix]? with
   | some v=>exact key v (by simp [execOp,hop,Instr.extract,hx,hv])
   | none=>exact (bad "Extract: no such component" (by simp only [execOp,hop,Instr.extract,hx,hv])).elim
  all_goals exact (bad "Extract: tuple expected" (by simp only [execOp,hop,Instr.extract,hx])).elim
def restB (md:Region.Mode)(ops:Array Oper)(n:Nat):Bool :=
 Region.noSelect ops&&(List.range (ops.size-n)).all (fun j=>decide (Region.ready md ops (fdone (n+j) ops.size)=[n+j])||((Region.ready md ops (fdone (n+j) ops.size)).contains (n+j)&&Region.free md ops (fdone (n+j) ops.size) (n+j)&&((ops[n+j]?).map fun o=>wless o.op&&o.guard.isNone).getD false))&&(Region.ready md ops (fdone ops.size ops.size)).isEmpty
theorem wpAny_rest {Q:Exit->Act->World->Prop}(hsel:Region.noSelect ops=true)(hQ:∀ c a d v w,Q (.panic c) (Act.put a d v) w->Q (.panic c) a w)(hend:Region.ready md ops (fdone ops.size ops.size)=[]) :
  ∀ (l:List Oper) (k:Nat) (a:Act) (w:World),(∀ j,l[j]?=ops[k+j]?)->k+l.length=ops.size ->
  (∀ j,k<=j->j<ops.size->Region.ready md ops (fdone j ops.size)=[j]∨((Region.ready md ops (fdone j ops.size)).contains j=true/\Region.free md ops (fdone j ops.size) j=true/\∃ o,ops[j]?=some o/\wless o.op=true/\o.guard=none)) ->
  wpList P ops Q l a w->wpAny P md ops Q l.length (fdone k ops.size) a w
 | [],k,a,w,_,hk,_,h=>by
  have:k=ops.size:=by simpa using hk
  subst this
  exact ⟨hend,h⟩
 | o::l,k,a,w,hl,hk,hB,h=>by
  have h0:ops[k]?=some o:=by simpa using (hl 0).symm
  have hks:k<ops.size:=by simp only [List.length_cons] at hk;omega
  have hl':∀ j,l[j]?=ops[k+1+j]?:=fun j=>by have:=hl (j+1);simpa [Nat.add_assoc,Nat.add_comm 1 j] using this
  have hk':k+1+l.length=ops.size:=by simp only [List.length_cons] at hk;omega
  have ih:=fun a w=>wpAny_rest hsel hQ hend l (k+1) a w hl' hk' (fun j h1 h2=>hB j (by omega) h2)
  rcases hB k (Nat.le_refl _) hks with hr|⟨hr,hf,o',ho',hwl,hg⟩
  ·refine ⟨fun h1=>(by rw [hr] at h1;cases h1),fun i hi=>?_⟩
   rw [hr] at hi
   obtain rfl:i=k:=by simpa using hi
   rw [fdone_next hks]
   have hw:wpOp P ops Q i (wpList P ops Q l) a w:=by unfold wpOp;simp only [h0];exact h
   exact wpOp_mono (fun a' w' h'=>ih a' w' h') hw
  ·obtain rfl:o'=o:=Option.some.inj (ho'.symm.trans h0)
   have hwt:Region.wanted o' (yielded ops a.tmps)=true:=by unfold Region.wanted;rw [hg]
   unfold wpList at h
   rw [if_pos hwt] at h
   obtain ⟨v,hv,hK⟩:=wless_run hwl h
   refine wpAny_take h0 hsel hf hr (fun c a w=>hQ c a _ v w) (Or.inl ⟨hwt,hv⟩) ?_
   rw [fdone_next hks]
   exact ih _ _ hK
theorem wpQuiet_mono {K K':Act->Prop}(h:∀ a,K a->K' a):∀ (l:List Oper) (a:Act),wpQuiet P ops C K l a->wpQuiet P ops C K' l a
 | [],a,hh=>h a hh
 | o::l,a,hh=>by
  unfold wpQuiet at *
  split
  ·rename_i hw;rw [if_pos hw] at hh;exact Oper.quiet_mono (wpQuiet_mono h l) hh
  ·rename_i hw;rw [if_neg hw] at hh;exact wpQuiet_mono h l _ hh
abbrev Bk (w:World):World->Prop:=fun W=>Below w.heap.size w W
theorem bk_iff {w:World}(X:World->Prop):(∀ w',(∃ t:Wd (Bk w),w'=t.w)->X w')=(∀ w',Below w.heap.size w w'->X w') :=
 propext ⟨fun h w' hb=>h w' ⟨⟨w',hb⟩,rfl⟩,fun h w' ⟨t,e⟩=>h w' (by rw [e];exact t.h)⟩
theorem bk_next {w:World}:∀ v v':World,Bk w v->Below v.heap.size v v'->Bk w v':=fun v v' h hb=>h.trans (hb.mono h.size)
theorem wp_head {id:Nat}{Q:Exit->Act->World->Prop}{a:Act}{w:World}{l:List Oper}(n:Nat)(hm:P.follows .mixedOrders=true)(hB:headB .any l.toArray n=true)
  (h:Nonempty (Wd (Bk w))->(∀ (t:Wd (Bk w)) (b o:Nat),b<w.heap.size->t.w.cell? ⟨b,o,none⟩=w.cell? ⟨b,o,none⟩) ->
   wpQuiet P l.toArray (fun w'=>∃ t:Wd (Bk w),w'=t.w) (fun a'=>∀ w',Below w.heap.size w w'->wpAny P .any l.toArray Q (l.length-n) (fdone n l.length) a' w') (l.take n) a):(Code.region id l.toArray true).wp P Q a w:=by
 simp only [headB,Bool.and_eq_true,decide_eq_true_eq] at hB
 obtain ⟨⟨⟨⟨hsel,hn⟩,hs⟩,hc⟩,hlex⟩:=hB
 have hn':n<l.length:=by simpa using hn
 have htl:(l.take n).length=n:=by simp;omega
 have h':=h ⟨⟨w,Below.refl _ _⟩⟩ fun t b o hb=>t.h.cell (p:=⟨b,o,none⟩) hb
 simp only [← bk_iff] at h'
 have hsz:l.toArray.size=l.length:=by simp
 have inv0:HeadInv .any l.toArray n (fdone 0 l.toArray.size):=by
  rw [fdone_zero]
  exact ⟨by simp,fun j oj _ hl=>(by rw [getD_replicate_false] at hl;cases hl),fun t _ ht=>getD_in (by simpa using ht) (getD_replicate_false _ _)⟩
 have H:=headQ_lex (md:=.any) hsel hs hc hn (fun k hk=>by
  have:=List.all_eq_true.1 hlex k (List.mem_range.2 hk)
  simpa only [Bool.and_eq_true] using this) (l.take n) 0 a (fun j hj=>by
  have hj':j<n:=by rw [htl] at hj;exact hj
  simp [hj']) (by simpa using htl) inv0 h'
 refine wp_region_any hm ?_
 have:=headQ_any (Q:=Q) (g:=l.length-n) (fun done a' w' hw' hL=>by
  rw [hL.1,hsz]
  exact hL.2 w' hw') _ _ _ w.drew ⟨⟨w.drew,(Below.refl _ _).drew⟩,rfl⟩ H
 rw [htl,show n+(l.length-n)=l.toArray.size by rw [hsz];omega,fdone_zero] at this
 exact this
theorem wp_tail {id:Nat}{Q:Exit->Act->World->Prop}{a:Act}{w:World}{l:List Oper}(n:Nat)(hm:P.follows .mixedOrders=true)(hB:headB .any l.toArray n=true)(hR:restB .any l.toArray n=true)(hQ:∀ c a d v w,Q (.panic c) (Act.put a d v) w->Q (.panic c) a w)
  (h:Nonempty (Wd (Bk w))->(∀ (t:Wd (Bk w)) (b o:Nat),b<w.heap.size->t.w.cell? ⟨b,o,none⟩=w.cell? ⟨b,o,none⟩) ->
   wpQuiet P l.toArray (fun w'=>∃ t:Wd (Bk w),w'=t.w) (fun a'=>∀ w',Below w.heap.size w w'->wpList P l.toArray Q (l.drop n) a' w') (l.take n) a):(Code.region id l.toArray true).wp P Q a w:=by
 refine wp_head n hm hB fun h1 h2=>?_
 have hsz:l.toArray.size=l.length:=by simp
 have hn:n<l.length:=by
  simp only [headB,Bool.and_eq_true,decide_eq_true_eq] at hB
  have:=hB.1.1.1.2;rwa [hsz] at this
 simp only [restB,Bool.and_eq_true,List.isEmpty_iff] at hR
 obtain ⟨⟨hsel,hall⟩,hend⟩:=hR
 refine wpQuiet_mono (fun a' h3 w' hw'=>?_) (l.take n) a (h h1 h2)
 have:=wpAny_rest (P:=P) (md:=.any) (Q:=Q) hsel hQ hend (l.drop n) n a' w' (fun j=>by simp [List.getElem?_drop]) (by simp;omega) (fun j hj1 hj2=>by
  have h5:=List.all_eq_true.1 hall (j-n) (List.mem_range.2 (by omega))
  rw [show n+(j-n)=j by omega] at h5
  simp only [Bool.or_eq_true,Bool.and_eq_true,decide_eq_true_eq] at h5
  rcases h5 with h5|⟨⟨h5,h6⟩,h7⟩
  ·exact Or.inl h5
  ·refine Or.inr ⟨h5,h6,?_⟩
   cases ho:l.toArray[j]? with
   | none=>rw [ho] at h7;cases h7
   | some o =>
    rw [ho] at h7
    simp only [Option.map_some,Option.getD_some,Bool.and_eq_true,Option.isNone_iff_eq_none] at h7
    exact ⟨o,rfl,h7.1,h7.2⟩) (h3 w' hw')
 rw [hsz] at this
 simpa using this
theorem wp_whole {id:Nat}{Q:Exit->Act->World->Prop}{a:Act}{w:World}{l:List Oper}(hm:P.follows .mixedOrders=true)(hB:Region.lexB .any l.toArray=true)
  (h:Nonempty (Wd (Bk w))->(∀ (t:Wd (Bk w)) (b o:Nat),b<w.heap.size->t.w.cell? ⟨b,o,none⟩=w.cell? ⟨b,o,none⟩) ->
   wpQuiet P l.toArray (fun w'=>∃ t:Wd (Bk w),w'=t.w) (fun a'=>∀ w',Below w.heap.size w w'->Q .normal a' w') l a):(Code.region id l.toArray true).wp P Q a w:=by
 refine wp_region_wd (Bk w) hm hB (Below.refl _ _).drew ?_
 simp only [bk_iff]
 exact h ⟨⟨w,Below.refl _ _⟩⟩ fun t b o hb=>t.h.cell (p:=⟨b,o,none⟩) hb
end
end
def B (l:List UInt8):ByteArray:=⟨l.toArray⟩
theorem B_of (s:ByteArray):B s.data.toList=s:=by cases s;rfl
theorem B_size (l:List UInt8):(B l).size=l.length:=rfl
theorem B_get {l:List UInt8}{i:Nat}(h:i<(B l).size):(B l)[i]'h=l[i]'(by rwa [B_size] at h):=by
 show (B l).data[i]'_=_
 simp [B]
theorem B_ext (l:List UInt8)(a b:Nat):(B l).extract a b=B ((l.take b).drop a):=by
 apply ByteArray.ext
 rw [ByteArray.data_extract]
 show l.toArray.extract a b=((l.take b).drop a).toArray
 rw [List.extract_toArray,List.extract_eq_take_drop,List.drop_take]
theorem B_app (a b:List UInt8):B a++B b=B (a++b):=by
 apply ByteArray.ext
 rw [ByteArray.data_append]
 show a.toArray++b.toArray=(a++b).toArray
 simp
def by_ (l:List UInt8)(i:Nat):Int:=if h:i<l.length then ((l[i]'h).toNat:Int) else 0
theorem by_lt {l:List UInt8}{i:Nat}(h:i<(B l).size):(((B l)[i]'h).toNat:Int)=by_ l i:=by
 rw [B_get h];unfold by_;rw [dif_pos (by rwa [B_size] at h)]
theorem by_bd (l:List UInt8)(i:Nat):0<=by_ l i/\by_ l i<=255:=by
 unfold by_;split
 ·rename_i h;have:=(l[i]'h).toNat_lt;omega
 ·omega
theorem by_succ (c:UInt8)(r:List UInt8)(i:Nat):by_ (c::r) (i+1)=by_ r i:=by
 unfold by_
 by_cases h:i<r.length
 ·rw [dif_pos h,dif_pos (by simpa using h)];rfl
 ·rw [dif_neg h,dif_neg (by simpa using h)]
theorem by_zero (c:UInt8)(r:List UInt8):by_ (c::r) 0=(c.toNat:Int):=by simp [by_]
def dg (c:UInt8):Bool:=decide (48<=c.toNat/\c.toNat<=57)
def dgs (l:List UInt8):List UInt8:=l.takeWhile dg
def rst (l:List UInt8):List UInt8:=l.dropWhile dg
theorem dgs_rst (l:List UInt8):dgs l++rst l=l:=List.takeWhile_append_dropWhile
theorem dgs_le (l:List UInt8):(dgs l).length<=l.length:=by
 have:=congrArg List.length (dgs_rst l)
 rw [List.length_append] at this;omega
theorem take_dgs (l:List UInt8):l.take (dgs l).length=dgs l:=by
 conv=>lhs;arg 2;rw [← dgs_rst l]
 simp
theorem drop_dgs (l:List UInt8):l.drop (dgs l).length=rst l:=by
 conv=>lhs;arg 2;rw [← dgs_rst l]
 simp
theorem dgs_at:∀ (l:List UInt8) (i:Nat),i<(dgs l).length->48<=by_ l i/\by_ l i<=57
 | [],i,h=>by simp [dgs] at h
 | c::r,i,h=>by
  unfold dgs at h
  rw [List.takeWhile_cons] at h
  split at h
  ·rename_i hc
   unfold dg at hc
   simp at hc
   cases i with
   | zero=>simp [by_];omega
   | succ i =>
    have:=dgs_at r i (by simpa [dgs] using h)
    rw [by_succ]
    exact this
  ·simp at h
theorem dgs_stop:∀ (l:List UInt8),(dgs l).length<l.length->¬ (48<=by_ l (dgs l).length/\by_ l (dgs l).length<=57)
 | [],h=>by simp [dgs] at h
 | c::r,h=>by
  unfold dgs at h ⊢
  rw [List.takeWhile_cons] at h ⊢
  split at h
  ·rename_i hc
   rw [if_pos hc]
   have:=dgs_stop r (by simpa [dgs] using h)
   rw [List.length_cons,by_succ]
   exact this
  ·rename_i hc
   rw [if_neg hc]
   unfold dg at hc
   simp at hc
   simp [by_]
   intro h1
   omega
section
section
variable {P:Program}{ops:Array Oper}{Q:Exit->Act->World->Prop}{md:Region.Mode}
def toCome (listed:Array Bool):Nat->Nat
 | 0=>0
 | n+1=>toCome listed n+(if listed.getD n true then 0 else 1)
theorem toCome_out {listed:Array Bool}{i:Nat}:∀ n,n<=i->toCome (listed.setIfInBounds i true) n=toCome listed n
 | 0,_=>rfl
 | n+1,h=>by unfold toCome;rw [toCome_out n (by omega),getD_set_ne true (by omega)]
theorem toCome_set {listed:Array Bool}{i:Nat}(hu:listed.getD i true=false):∀ n,i<n->toCome (listed.setIfInBounds i true) n+1=toCome listed n
 | 0,h=>by omega
 | n+1,h=>by
  unfold toCome
  by_cases e:i=n
  ·subst e
   have hlt:i<listed.size:=by
    rcases Nat.lt_or_ge i listed.size with h'|h'
    ·exact h'
    ·simp [Array.getElem?_eq_none h'] at hu
   rw [toCome_out i (Nat.le_refl _),hu]
   simp [hlt]
  ·rw [getD_set_ne true e]
   have:=toCome_set hu n (by omega)
   omega
theorem toCome_zero {listed:Array Bool}:∀ n,toCome listed n=0->∀ i,i<n->listed.getD i true=true
 | 0,_,i,h=>by omega
 | n+1,h,i,hi=>by
  unfold toCome at h
  by_cases e:i=n
  ·subst e
   by_cases hl:listed.getD i true=true
   ·exact hl
   ·rw [if_neg hl] at h;omega
  ·exact toCome_zero n (by omega) i (by omega)
theorem toCome_least {listed:Array Bool}:∀ n,0<toCome listed n->∃ i,i<n/\listed.getD i true=false/\∀ j,j<i->listed.getD j true=true
 | 0,h=>by simp [toCome] at h
 | n+1,h=>by
  by_cases h0:0<toCome listed n
  ·obtain ⟨i,h1,h2,h3⟩:=toCome_least n h0
   exact ⟨i,by omega,h2,h3⟩
  ·unfold toCome at h
   have hz:=toCome_zero (listed:=listed) n (by omega)
   refine ⟨n,by omega,?_,fun j hj=>hz j hj⟩
   cases hl:listed.getD n true with
   | false=>rfl
   | true=>rw [hl,if_pos rfl] at h;omega
def backB (md:Region.Mode)(ops:Array Oper)(n:Nat):Bool :=
 (List.range n).all fun i=>match ops[i]? with
  | some o=>o.after.all fun e=>!Region.binds md e||decide (e.on<i)
  | none=>false
theorem backB_spec {n:Nat}(h:backB md ops n=true)(i:Nat)(hi:i<n):∃ o,ops[i]?=some o/\∀ e ∈ o.after,Region.binds md e=true->e.on<i:=by
 have h1:=List.all_eq_true.1 h i (List.mem_range.2 hi)
 cases ho:ops[i]? with
 | none=>simp only [ho] at h1;cases h1
 | some o =>
  simp only [ho] at h1
  refine ⟨o,rfl,fun e he hb=>?_⟩
  have h2:=Array.all_eq_true_iff_forall_mem.1 h1 e he
  simpa [hb] using h2
theorem getD_true_in {listed:Array Bool}{i:Nat}(hi:i<listed.size)(h:listed.getD i true=true):listed.getD i false=true:=by
 simp [hi] at h ⊢;exact h
def headDone (n m:Nat):Array Bool:=(List.replicate n true++List.replicate (m-n) false).toArray
theorem headDone_eq {n:Nat}{listed:Array Bool}(hn:n<=ops.size)(inv:HeadInv md ops n listed)(h:∀ i,i<n->listed.getD i true=true):listed=headDone n ops.size:=by
 apply Array.ext
 ·simp [headDone,inv.size];omega
 ·intro i h1 h2
  by_cases hi:i<n
  ·have:=h i hi
   simp [h1] at this
   rw [this]
   simp [headDone,List.getElem_append,hi]
  ·have:=inv.tail i (by omega) (by rw [← inv.size];exact h1)
   simp [h1] at this
   rw [this]
   simp [headDone,List.getElem_append,hi]
theorem wpAny_inv {n:Nat}{B:Act->World->Prop}{R:Nat->Act->World->Prop}{tail:List Oper}(hs:Region.sinkB md ops n=true)(hc:Region.chainB md ops n=true)(hn:n<ops.size)(hb:backB md ops n=true)
  (htl:∀ j,tail[j]?=ops[n+j]?) (hseq:Region.seqB md ops tail.length n (headDone n ops.size)=true)
  (hstep:∀ i o a w,i<n->ops[i]?=some o->B a w->(∀ e ∈ o.after,Region.binds md e=true->R e.on a w)->wpOp P ops Q i (fun a' w'=>B a' w'/\R i a' w'/\∀ j,j<n->j≠i->R j a w->R j a' w') a w)
  (hend:∀ a w,B a w->(∀ i,i<n->R i a w)->wpList P ops Q tail a w) :
  ∀ (f:Nat) (listed:Array Bool) (a:Act) (w:World),HeadInv md ops n listed->toCome listed n=f->B a w->(∀ i,i<n->listed.getD i false=true->R i a w)->wpAny P md ops Q (f+tail.length) listed a w
 | 0,listed,a,w,inv,hf,hB,hR=>by
  have hz:=toCome_zero n hf
  have he:=headDone_eq (Nat.le_of_lt hn) inv hz
  have hw:=hend a w hB fun i hi=>hR i hi (getD_true_in (by rw [inv.size];omega) (hz i hi))
  rw [Nat.zero_add,he]
  exact wpAny_of_seq tail n _ a w htl hseq hw
 | f+1,listed,a,w,inv,hf,hB,hR=>by
  obtain ⟨k,hk,hku,hkl⟩:=toCome_least (listed:=listed) n (by omega)
  rw [show f+1+tail.length=(f+tail.length)+1 by omega]
  refine ⟨fun h0=>?_,fun i hi=>?_⟩
  ·obtain ⟨o,ho,hlt⟩:=backB_spec hb k hk
   have:k ∈ Region.ready md ops listed:=mem_ready.2 ⟨hku,o,ho,fun e he hbd=>by
    have:=hlt e he hbd
    exact getD_true_in (by rw [inv.size];omega) (hkl _ this)⟩
   rw [h0] at this;cases this
  ·have hin:i<n:=by
    rcases Nat.lt_or_ge i n with h|h
    ·exact h
    ·exact absurd hi (tail_waits hs hc hn inv _ k rfl hk hku i h)
   obtain ⟨hu,o,ho,hall⟩:=mem_ready.1 hi
   obtain ⟨o',ho',hlt⟩:=backB_spec hb i hin
   have:o'=o:=Option.some.inj (ho'.symm.trans ho)
   subst this
   refine wpOp_mono (fun a' w' h3=>?_) (hstep i o' a w hin ho hB fun e he hbd=>hR _ (by have:=hlt e he hbd;omega) (hall e he hbd))
   refine wpAny_inv hs hc hn hb htl hseq hstep hend f _ a' w' (inv.set hi hin) (by have:=toCome_set hu n hin;omega) h3.1 fun j hj hl=>?_
   by_cases e:j=i
   ·subst e;exact h3.2.1
   ·rw [getD_set_ne false (fun h=>e h.symm)] at hl
    exact h3.2.2 j hj e (hR j hj hl)
theorem toCome_replicate (m:Nat):∀ n,n<=m->toCome (Array.replicate m false) n=n
 | 0,_=>rfl
 | n+1,h=>by unfold toCome;rw [toCome_replicate m n (by omega)];simp [show n<m by omega]
def invB (md:Region.Mode)(ops:Array Oper)(n:Nat):Bool :=
 Region.sinkB md ops n&&Region.chainB md ops n&&decide (n<ops.size)&&backB md ops n&&Region.seqB md ops (ops.size-n) n (headDone n ops.size)
theorem wp_region_inv (n:Nat)(B:Act->World->Prop)(R:Nat->Act->World->Prop){id:Nat}{l:List Oper}{a:Act}{w:World}(hm:P.follows .mixedOrders=true)(hI:invB .any l.toArray n=true)
  (h0:B a w.drew)
  (hstep:∀ i o a w,i<n->l[i]?=some o->B a w->(∀ e ∈ o.after,Region.binds .any e=true->R e.on a w)->wpOp P l.toArray Q i (fun a' w'=>B a' w'/\R i a' w'/\∀ j,j<n->j≠i->R j a w->R j a' w') a w)
  (hend:∀ a w,B a w->(∀ i,i<n->R i a w)->wpList P l.toArray Q (l.drop n) a w):(Code.region id l.toArray true).wp P Q a w:=by
 simp only [invB,Bool.and_eq_true,decide_eq_true_eq] at hI
 obtain ⟨⟨⟨⟨hs,hc⟩,hn⟩,hb⟩,hseq⟩:=hI
 have hdl:(l.drop n).length=l.toArray.size-n:=by simp
 refine wp_region_any hm ?_
 have H:=wpAny_inv (P:=P) (Q:=Q) (md:=.any) (ops:=l.toArray) (n:=n) (B:=B) (R:=R) (tail:=l.drop n) hs hc hn hb (fun j=>by simp [List.getElem?_drop]) (by rw [hdl];exact hseq)
  (fun i o a w hi ho=>hstep i o a w hi (by simpa using ho)) hend n (Array.replicate l.toArray.size false) a w.drew
  ⟨by simp,fun j oj _ hl=>(by rw [getD_replicate_false] at hl;cases hl),fun t _ ht=>getD_in (by simpa using ht) (getD_replicate_false _ _)⟩
  (toCome_replicate _ n (Nat.le_of_lt hn)) h0 (fun i hi hl=>by rw [getD_replicate_false] at hl;cases hl)
 rw [hdl,show n+(l.toArray.size-n)=l.toArray.size by omega] at H
 exact H
abbrev slot (a:Act)(t:Nat):Value:=a.tmps[t]?.getD undef
theorem slot_put_ne {a:Act}{d t:Nat}{v:Value}(h:d≠t):slot (a.put (some d) v) t=slot a t:=by
 simp [slot,Act.put,Array.getElem?_setIfInBounds_ne h]
theorem slot_put {a:Act}{d:Nat}{v:Value}(h:d<a.tmps.size):slot (a.put (some d) v) d=v:=by
 simp [slot,Act.put,h]
def Stays (p:Value->World->Prop):Prop:=∀ v w w',p v w->Below w.heap.size w w'->p v w'
def dstG (l:List Oper)(D:List Nat)(n m:Nat):Bool :=
 (List.range n).all fun i=>(match l[i]? with
  | some o=>o.dst==some (D.getD i 0)
  | none=>false)&&decide (D.getD i 0<m)&&(List.range n).all fun j=>j==i||D.getD j 0 != D.getD i 0
theorem dstG_spec {l:List Oper}{D:List Nat}{n m:Nat}(h:dstG l D n m=true)(i:Nat)(hi:i<n) :
  ∃ o,l[i]?=some o/\o.dst=some (D.getD i 0)/\D.getD i 0<m/\∀ j,j<n->j≠i->D.getD j 0≠D.getD i 0:=by
 have h1:=List.all_eq_true.1 h i (List.mem_range.2 hi)
 cases ho:l[i]? with
 | none=>simp [ho] at h1
 | some o =>
  simp only [ho,Bool.and_eq_true,decide_eq_true_eq,beq_iff_eq,List.all_eq_true,Bool.or_eq_true,bne_iff_ne,List.mem_range] at h1
  exact ⟨o,rfl,h1.1.1,h1.1.2,fun j hj hne=>(h1.2 j hj).resolve_left hne⟩
def gdB (l:List Oper)(n:Nat):Bool :=
 (List.range n).all fun i=>match l[i]? with
  | some o=>match o.guard with
   | none=>true
   | some (j,_)=>decide (j<n)&&o.after.any fun e=>Region.binds .any e&&e.on==j
  | none=>false
theorem gdB_spec {l:List Oper}{n:Nat}(h:gdB l n=true)(i:Nat)(hi:i<n)(o:Oper)(ho:l[i]?=some o)(j:Nat)(b:Bool)(hg:o.guard=some (j,b)) :
  j<n/\∃ e ∈ o.after,Region.binds .any e=true/\e.on=j:=by
 have h1:=List.all_eq_true.1 h i (List.mem_range.2 hi)
 simp only [ho,hg,Bool.and_eq_true,decide_eq_true_eq,Array.any_eq_true',beq_iff_eq] at h1
 obtain ⟨h1,e,he,h2,h3⟩:=h1
 exact ⟨h1,e,he,h2,h3⟩
theorem wp_region_gvals (n m:Nat)(D:List Nat)(S:List (Value->World->Prop))(C:World->Prop){id:Nat}{l:List Oper}{a0:Act}{w0:World}(hm:P.follows .mixedOrders=true)(hI:invB .any l.toArray n=true)(hD:dstG l D n m=true)(hGd:gdB l n=true)
  (hsz:a0.tmps.size=m) (hS:∀ p ∈ S,Stays p) (hC0:C w0.drew) (hCn:∀ w w',C w->Below w.heap.size w w'->C w')
  (hGv:∀ i o j b,i<n->l[i]?=some o->o.guard=some (j,b)->∀ v w,(S.getD j fun _ _=>True) v w->v=.bool b)
  (hstep:∀ i o a w,i<n->l[i]?=some o->C w->(∀ t,(∀ i,i<n->D.getD i 0≠t)->slot a t=slot a0 t)->(∀ e ∈ o.after,Region.binds .any e=true->(S.getD e.on fun _ _=>True) (slot a (D.getD e.on 0)) w) ->
   o.wp P a w (fun a' w'=>∃ v,a'=a.put o.dst v/\(S.getD i fun _ _=>True) v w'/\Below w.heap.size w w') Q)
  (hend:∀ a w,C w->a.tmps.size=m->a.defers=a0.defers->(∀ t,(∀ i,i<n->D.getD i 0≠t)->slot a t=slot a0 t)->(∀ i,i<n->(S.getD i fun _ _=>True) (slot a (D.getD i 0)) w)->wpList P l.toArray Q (l.drop n) a w) :
  (Code.region id l.toArray true).wp P Q a0 w0:=by
 have hSt:∀ i,Stays (S.getD i fun _ _=>True):=by
  intro i
  rcases Nat.lt_or_ge i S.length with h|h
  ·rw [List.getD_eq_getElem?_getD,List.getElem?_eq_getElem h];exact hS _ (List.getElem_mem h)
  ·rw [List.getD_eq_getElem?_getD,List.getElem?_eq_none h];exact fun _ _ _ _ _=>trivial
 refine wp_region_inv n (fun a w=>C w/\a.tmps.size=m/\a.defers=a0.defers/\∀ t,(∀ i,i<n->D.getD i 0≠t)->slot a t=slot a0 t)
  (fun i a w=>(S.getD i fun _ _=>True) (slot a (D.getD i 0)) w) hm hI ⟨hC0,hsz,rfl,fun _ _=>rfl⟩ ?_ (fun a w h hR=>hend a w h.1 h.2.1 h.2.2.1 h.2.2.2 hR)
 intro i o a w hi ho hB hR
 obtain ⟨o',ho2,hd,hlt,hne⟩:=dstG_spec hD i hi
 have eo:o'=o:=Option.some.inj (ho2.symm.trans ho)
 subst eo
 have hw:=hstep i o' a w hi ho hB.1 hB.2.2.2 hR
 unfold wpOp
 have ho':l.toArray[i]?=some o':=by simpa using ho
 simp only [ho']
 have hwant:Region.wanted o' (yielded l.toArray a.tmps)=true:=by
  unfold Region.wanted
  cases hg:o'.guard with
  | none=>rfl
  | some q =>
   obtain ⟨j,b⟩:=q
   obtain ⟨hj,e,he,hbd,hej⟩:=gdB_spec hGd i hi o' ho j b hg
   have hv:=hR e he hbd
   rw [hej] at hv
   have hv2:=hGv i o' j b hi ho hg _ _ hv
   obtain ⟨oj,hoj,hdj,hltj,_⟩:=dstG_spec hD j hj
   have hoj':l.toArray[j]?=some oj:=by simpa using hoj
   have hs:D.getD j 0<a.tmps.size:=by rw [hB.2.1];exact hltj
   have ht:a.tmps[D.getD j 0]?=some (.bool b):=by
    have h5:a.tmps[D.getD j 0]?=some a.tmps[D.getD j 0]:=Array.getElem?_eq_getElem hs
    have h6:slot a (D.getD j 0)=a.tmps[D.getD j 0]:=by unfold slot;rw [h5];rfl
    rw [h5,← h6,hv2]
   have hy:yielded l.toArray a.tmps j=some b:=by
    unfold yielded
    simp only [hoj',Option.bind_some,hdj,ht]
   simp [hy]
 rw [if_pos hwant]
 refine Or.inl (Oper.wp_mono ?_ hw)
 rintro a' w' ⟨v,rfl,hv,hb⟩
 rw [hd]
 refine ⟨⟨hCn _ _ hB.1 hb,by simp [Act.put,hB.2.1],hB.2.2.1,fun t ht=>?_⟩,?_,fun j hj hji hRj=>?_⟩
 ·rw [slot_put_ne (ht i hi)];exact hB.2.2.2 t ht
 ·show (S.getD i fun _ _=>True) (slot (a.put (some (D.getD i 0)) v) (D.getD i 0)) w'
  rw [slot_put (by rw [hB.2.1];exact hlt)];exact hv
 ·show (S.getD j fun _ _=>True) (slot (a.put (some (D.getD i 0)) v) (D.getD j 0)) w'
  rw [slot_put_ne (fun h=>hne j hj hji h.symm)]
  exact hSt j _ _ _ hRj hb
end
end
end Go.Proofs.YtahfkpjhlbiamaaGreatDoor
