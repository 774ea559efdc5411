/-
  Texts that the proof leans on.
-/
import Derived.WalkKit
import Derived.Lib.BitFns
import Derived.StillTail
import Derived.Below
set_option linter.unusedVariables false
set_option maxRecDepth 20000
set_option linter.unusedSectionVars false
set_option linter.unusedSimpArgs false
namespace Go.Proofs.YtahfkpjhlbiamaaGreatDoor
def val (x:Nat->Int):Nat->Int
 | 0=>0
 | n+1=>val x n+x n*18446744073709551616^n
theorem zIa {x y:Nat->Int}:∀ n,(∀ i,i<n->x i=y i)->val x n=val y n
 | 0,_=>rfl
 | n+1,h=>by simp only [val];rw [zIa n fun i hi=>h i (by omega),h n (by omega)]
theorem zPb (n:Nat):(0:Int)<18446744073709551616^n:=Int.pow_pos (by decide)
theorem zOa {x:Nat->Int}(hx:∀ i,0<=x i/\x i<=18446744073709551615):∀ n,0<=val x n/\val x n<18446744073709551616^n
 | 0=>by simp [val]
 | n+1=>by
  have ih:=zOa hx n
  have hb:=hx n
  have hp:=zPb n
  simp only [val]
  have h1:0<=x n*18446744073709551616^n:=Int.mul_nonneg hb.1 (Int.le_of_lt hp)
  have h2:x n*18446744073709551616^n<=18446744073709551615*18446744073709551616^n:=Int.mul_le_mul_of_nonneg_right hb.2 (Int.le_of_lt hp)
  rw [Int.pow_succ]
  omega
theorem zJd (x:Nat->Int)(p:Nat)(v:Int):∀ n,p<n->val (fun i=>if i=p then v else x i) n=val x n+(v-x p)*18446744073709551616^p
 | 0,h=>by omega
 | n+1,h=>by
  simp only [val]
  by_cases e:n=p
  ·subst e
   rw [if_pos rfl,zIa (y:=x) n fun i hi=>if_neg (by omega),Int.sub_mul];omega
  ·rw [if_neg e,zJd x p v n (by omega)];omega
theorem zRo {x y:Nat->Int}(hx:∀ i,0<=x i/\x i<=18446744073709551615)(hy:∀ i,0<=y i/\y i<=18446744073709551615):∀ n,val x n=val y n->∀ i,i<n->x i=y i
 | 0,_,i,hi=>by omega
 | n+1,h,i,hi=>by
  simp only [val] at h
  have bx:=zOa hx n
  have b_y:=zOa hy n
  have hp:=zPb n
  have e1:(val x n+x n*18446744073709551616^n)/18446744073709551616^n=x n:=by
   rw [Int.add_mul_ediv_right _ _ (Int.ne_of_gt hp),Int.ediv_eq_zero_of_lt bx.1 bx.2];omega
  have e2:(val y n+y n*18446744073709551616^n)/18446744073709551616^n=y n:=by
   rw [Int.add_mul_ediv_right _ _ (Int.ne_of_gt hp),Int.ediv_eq_zero_of_lt b_y.1 b_y.2];omega
  have e3:x n=y n:=by rw [← e1,← e2,h]
  by_cases e:i=n
  ·subst e;exact e3
  ·rw [e3] at h
   exact zRo hx hy n (by omega) i (by omega)
theorem zLa {x:Nat->Int}{n:Nat}(hz:∀ i,n<=i->x i=0):∀ m,n<=m->val x m=val x n
  | 0, h => by obtain rfl : n = 0 := by omega
               rfl
  | m+1,h=>by
    by_cases e:n=m+1
    · rw [e]
    · simp only [val];rw [zLa hz m (by omega),hz m (by omega)];omega
theorem zVl (a b z c:Int)(ha:0<=a/\a<=18446744073709551615)(hb:0<=b/\b<=18446744073709551615)(hz:0<=z/\z<=18446744073709551615)(hc:0<=c/\c<=18446744073709551615) :
  ((a*b%18446744073709551616+z)%18446744073709551616+c)%18446744073709551616+(a*b/18446744073709551616+(a*b%18446744073709551616+z)/18446744073709551616+((a*b%18446744073709551616+z)%18446744073709551616+c)/18446744073709551616)*18446744073709551616=a*b+z+c /\
  0<=a*b/18446744073709551616+(a*b%18446744073709551616+z)/18446744073709551616/\a*b/18446744073709551616+(a*b%18446744073709551616+z)/18446744073709551616<=18446744073709551615 /\
  0<=a*b/18446744073709551616+(a*b%18446744073709551616+z)/18446744073709551616+((a*b%18446744073709551616+z)%18446744073709551616+c)/18446744073709551616/\a*b/18446744073709551616+(a*b%18446744073709551616+z)/18446744073709551616+((a*b%18446744073709551616+z)%18446744073709551616+c)/18446744073709551616<=18446744073709551615:=by
 have h1:0<=a*b:=Int.mul_nonneg ha.1 hb.1
 have h2:a*b<=18446744073709551615*18446744073709551615:=Int.mul_le_mul ha.2 hb.2 hb.1 (by decide)
 generalize a*b=P at *
 omega
theorem zFj (V Vi a vb b z c s hi:Int)(i k:Nat)(h:V+c*18446744073709551616^(i+k)=Vi+a*vb*18446744073709551616^i)(hs:s+hi*18446744073709551616=a*b+z+c) :
  V+(s-z)*18446744073709551616^(i+k)+hi*18446744073709551616^(i+(k+1))=Vi+a*(vb+b*18446744073709551616^k)*18446744073709551616^i:=by
 have e1:s=a*b+z+c-hi*18446744073709551616:=by omega
 have e2:(18446744073709551616:Int)^(i+(k+1))=18446744073709551616^(i+k)*18446744073709551616:=by rw [← Int.pow_succ];rfl
 have e3:(18446744073709551616:Int)^(i+k)=18446744073709551616^i*18446744073709551616^k:=Int.pow_add ..
 rw [e1,e2]
 rw [e3] at h ⊢
 generalize (18446744073709551616:Int)^i=p at *
 generalize (18446744073709551616:Int)^k=q at *
 grind
end Go.Proofs.YtahfkpjhlbiamaaGreatDoor

namespace Go.Proofs.YtahfkpjhlbiamaaGreatDoor
structure Dg (u d1 d0 e:Int):Prop where
 a1:2147483648<=d1
 a2:d1<4294967296
 b1:0<=d0
 b2:d0<4294967296
 e1:0<=e
 e2:e<4294967296
 u1:0<=u
 u2:u<d1*4294967296+d0
theorem Dg.pos {u d1 d0 e:Int}(h:Dg u d1 d0 e):0<d1*4294967296+d0:=by have:=h.a1;have:=h.b1;omega
theorem mulY (q d1 d0:Int):q*(d1*4294967296+d0)=(q*d1)*4294967296+q*d0:=by rw [Int.mul_add,Int.mul_assoc]
theorem Dg.lt {u d1 d0 e:Int}(h:Dg u d1 d0 e):(u*4294967296+e)/(d1*4294967296+d0)<4294967296:=by
 apply Int.ediv_lt_of_lt_mul h.pos
 have:=h.u2;have:=h.e2;omega
theorem Dg.nonneg {u d1 d0 e:Int}(h:Dg u d1 d0 e):0<=(u*4294967296+e)/(d1*4294967296+d0):=Int.ediv_nonneg (by have:=h.u1;have:=h.e1;omega) (by have:=h.pos;omega)
theorem Dg.big {u d1 d0 e q r:Int}(h:Dg u d1 d0 e)(hq:q*d1+r=u)(ht:4294967296*r+e<q*d0):(u*4294967296+e)/(d1*4294967296+d0)<=q-1:=by
 have:(u*4294967296+e)/(d1*4294967296+d0)<q:=by
  apply Int.ediv_lt_of_lt_mul h.pos
  rw [mulY];omega
 omega
theorem Dg.big' {u d1 d0 e q:Int}(h:Dg u d1 d0 e)(ht:4294967296<=q):(u*4294967296+e)/(d1*4294967296+d0)<=q-1:=by
 have:=h.lt;omega
theorem Dg.right {u d1 d0 e q r:Int}(h:Dg u d1 d0 e)(hq:q*d1+r=u)(hge:(u*4294967296+e)/(d1*4294967296+d0)<=q)(ht:q*d0<=4294967296*r+e):(u*4294967296+e)/(d1*4294967296+d0)=q:=by
 have:q<=(u*4294967296+e)/(d1*4294967296+d0):=by
  apply Int.le_ediv_of_mul_le h.pos
  rw [mulY];omega
 omega
theorem Dg.right' {u d1 d0 e q r:Int}(h:Dg u d1 d0 e)(hq:q*d1+r=u)(hge:(u*4294967296+e)/(d1*4294967296+d0)<=q)(hq2:q<=4294967296)(hr:4294967296<=r):(u*4294967296+e)/(d1*4294967296+d0)=q:=by
 refine h.right hq hge ?_
 have h0:0<=q:=Int.le_trans h.nonneg hge
 have h1:q*d0<=4294967296*d0:=Int.mul_le_mul_of_nonneg_right hq2 h.b1
 have:=h.b2;have:=h.e1
 omega
theorem Dg.first {u d1 d0 e:Int}(h:Dg u d1 d0 e):(u/d1)*d1+u%d1=u/\(u*4294967296+e)/(d1*4294967296+d0)<=u/d1/\u/d1<=4294967297/\0<=u%d1/\u%d1<4294967296:=by
 have a1:=h.a1;have a2:=h.a2
 have hd:0<d1:=by omega
 have e0:(u/d1)*d1+u%d1=u:=Int.mul_comm d1 _▸Int.mul_ediv_add_emod u d1
 have m0:=Int.emod_nonneg u (show d1≠0 by omega)
 have m1:=Int.emod_lt_of_pos u hd
 refine ⟨e0,?_,?_,m0,by omega⟩
 ·have:(u*4294967296+e)/(d1*4294967296+d0)<u/d1+1:=by
   apply Int.ediv_lt_of_lt_mul h.pos
   rw [mulY,Int.add_mul]
   have p0:0<=(u/d1+1)*d0:=Int.mul_nonneg (by have:=Int.ediv_nonneg h.u1 (Int.le_of_lt hd);omega) h.b1
   have:=h.e2
   omega
  omega
 ·have:u/d1<4294967298:=by
   apply Int.ediv_lt_of_lt_mul hd
   have:=h.u2;have:=h.b2
   omega
  omega
end Go.Proofs.YtahfkpjhlbiamaaGreatDoor

namespace Go.Proofs.YtahfkpjhlbiamaaGreatDoor
theorem zHg:∀ (f x:Nat),0<x->x<2^f->1<=Lib.bitLenAux f x/\2^(Lib.bitLenAux f x-1)<=x/\x<2^Lib.bitLenAux f x
 | 0,x,h0,h=>by simp at h;omega
 | f+1,x,h0,h=>by
  simp only [Lib.bitLenAux]
  rw [if_neg (by omega)]
  by_cases h1:x/2=0
  ·have hx:x=1:=by omega
   subst hx
   have:Lib.bitLenAux f (1/2)=0:=by cases f<;>simp [Lib.bitLenAux]
   rw [this];decide
  ·have ih:=zHg f (x/2) (by omega) (by rw [Nat.pow_succ] at h;omega)
   generalize Lib.bitLenAux f (x/2)=k at ih
   obtain ⟨j,rfl⟩:∃ j,k=j+1:=⟨k-1,by omega⟩
   simp only [Nat.add_sub_cancel] at ih
   refine ⟨by omega,?_,?_⟩
   ·rw [show 1+(j+1)-1=j+1 by omega,Nat.pow_succ];omega
   ·rw [show 1+(j+1)=(j+1)+1 by omega,Nat.pow_succ];omega
theorem zPc (x:Nat)(h0:0<x)(h:x<18446744073709551616):1<=Lib.bitLen x/\Lib.bitLen x<=64/\2^(Lib.bitLen x-1)<=x/\x<2^Lib.bitLen x:=by
 have h1:=zHg 64 x h0 h
 have h2:Lib.bitLen x<=64:=by
  rcases Nat.lt_or_ge 64 (Lib.bitLen x) with h3|h3
  ·exfalso
   have h4:2^64<=2^(Lib.bitLen x-1):=Nat.pow_le_pow_right (by decide) (by omega)
   have h5:2^(Lib.bitLen x-1)<=x:=h1.2.1
   have:(2:Nat)^64=18446744073709551616:=by decide
   omega
  ·exact h3
 exact ⟨h1.1,h2,h1.2.1,h1.2.2⟩
theorem zHw (y:Nat)(h0:0<y)(h:y<18446744073709551616):9223372036854775808<=y*2^(64-Lib.bitLen y)/\y*2^(64-Lib.bitLen y)<18446744073709551616/\64-Lib.bitLen y<64:=by
 obtain ⟨h1,h2,h3,h4⟩:=zPc y h0 h
 generalize hL:Lib.bitLen y=L at *
 have p1:2^(L-1)*2^(64-L)=9223372036854775808:=by rw [← Nat.pow_add,show L-1+(64-L)=63 by omega]
 have p2:2^L*2^(64-L)=18446744073709551616:=by rw [← Nat.pow_add,show L+(64-L)=64 by omega]
 have hp:0<2^(64-L):=Nat.pow_pos (by decide)
 exact ⟨by rw [← p1];exact Nat.mul_le_mul_right _ h3,by rw [← p2];exact Nat.mul_lt_mul_of_pos_right h4 hp,by omega⟩
theorem zGw (hi lo y s:Nat)(hs:s<64)(hh:hi<y)(hl:lo<18446744073709551616)(hy:y*2^s<18446744073709551616) :
  (hi*2^s) ||| (lo/2^(64-s))=hi*2^s+lo/2^(64-s)/\(hi*2^s+lo/2^(64-s))*18446744073709551616+(lo*2^s)%18446744073709551616=(hi*18446744073709551616+lo)*2^s/\hi*2^s+lo/2^(64-s)<y*2^s:=by
 have hp:0<2^s:=Nat.pow_pos (by decide)
 have hq:0<2^(64-s):=Nat.pow_pos (by decide)
 have hpq:2^(64-s)*2^s=18446744073709551616:=by rw [← Nat.pow_add,show 64-s+s=64 by omega]
 have hlt:lo/2^(64-s)<2^s:=by
  rw [Nat.div_lt_iff_lt_mul hq,Nat.mul_comm,hpq];exact hl
 have hsum:lo*2^s=(lo/2^(64-s))*18446744073709551616+(lo*2^s)%18446744073709551616:=by
  have h1:lo*2^s/18446744073709551616=lo/2^(64-s):=by rw [← hpq,Nat.mul_div_mul_right _ _ hp]
  have h2:=Nat.div_add_mod (lo*2^s) 18446744073709551616
  rw [h1] at h2
  omega
 refine ⟨?_,?_,?_⟩
 ·exact nat_join s _ _ (Nat.mul_mod_left _ _) hlt
 ·rw [Nat.add_mul,Nat.add_mul,Nat.mul_right_comm hi 18446744073709551616 (2^s)]
  omega
 ·have:(hi+1)*2^s<=y*2^s:=Nat.mul_le_mul_right _ hh
  rw [Nat.add_mul] at this
  omega
theorem zIw (n y s q r:Nat)(h:n*2^s=q*(y*2^s)+r)(hr:r<y*2^s):q=n/y/\r/2^s=n%y:=by
 have hp:0<2^s:=Nat.pow_pos (by decide)
 have hy:0<y:=by
  rcases Nat.eq_zero_or_pos y with h0|h0
  ·subst h0;simp at hr
  ·exact h0
 have h1:r=(n-q*y)*2^s:=by
  rw [Nat.sub_mul,Nat.mul_assoc];omega
 have h2:n-q*y<y:=by
  rw [h1] at hr;exact Nat.lt_of_mul_lt_mul_right hr
 have h3:q*y<=n:=by
  have:q*y*2^s<=n*2^s:=by rw [h,Nat.mul_assoc];omega
  exact Nat.le_of_mul_le_mul_right this hp
 have h4:n=y*q+(n-q*y):=by rw [Nat.mul_comm y q];omega
 constructor
 ·rw [h4,Nat.mul_add_div hy,Nat.div_eq_of_lt h2];omega
 ·rw [h1,Nat.mul_div_cancel _ hp]
  conv=>rhs;rw [h4]
  rw [Nat.mul_add_mod,Nat.mod_eq_of_lt h2]
end Go.Proofs.YtahfkpjhlbiamaaGreatDoor

namespace Go.Proofs.YtahfkpjhlbiamaaGreatDoor
open Go.RowKit
section
section
variable {P:Program}{ops:Array Oper}{Q:Exit->Act->World->Prop}{md:Region.Mode}
def zJc (listed:Array Bool):Nat->Nat
 | 0=>0
 | n+1=>zJc listed n+(if listed.getD n true then 0 else 1)
theorem zHk {listed:Array Bool}{i:Nat}:∀ n,n<=i->zJc (listed.setIfInBounds i true) n=zJc listed n
 | 0,_=>rfl
 | n+1,h=>by unfold zJc;rw [zHk n (by omega),getD_set_ne true (by omega)]
theorem zNf {listed:Array Bool}{i:Nat}(hu:listed.getD i true=false):∀ n,i<n->zJc (listed.setIfInBounds i true) n+1=zJc listed n
 | 0,h=>by omega
 | n+1,h=>by
  unfold zJc
  by_cases e:i=n
  ·subst e
   have hlt:i<listed.size:=by
    rcases Nat.lt_or_ge i listed.size with h'|h'
    ·exact h'
    ·simp [Array.getElem?_eq_none h'] at hu
   rw [zHk i (Nat.le_refl _),hu]
   simp [hlt]
  ·rw [getD_set_ne true e]
   have:=zNf hu n (by omega)
   omega
theorem zKd {listed:Array Bool}:∀ n,zJc listed n=0->∀ i,i<n->listed.getD i true=true
 | 0,_,i,h=>by omega
 | n+1,h,i,hi=>by
  unfold zJc at h
  by_cases e:i=n
  ·subst e
   by_cases hl:listed.getD i true=true
   ·exact hl
   ·rw [if_neg hl] at h;omega
  ·exact zKd n (by omega) i (by omega)
theorem zSd {listed:Array Bool}:∀ n,0<zJc listed n->∃ i,i<n/\listed.getD i true=false/\∀ j,j<i->listed.getD j true=true
 | 0,h=>by simp [zJc] at h
 | n+1,h=>by
  by_cases h0:0<zJc listed n
  ·obtain ⟨i,h1,h2,h3⟩:=zSd n h0
   exact ⟨i,by omega,h2,h3⟩
  ·unfold zJc at h
   have hz:=zKd (listed:=listed) n (by omega)
   refine ⟨n,by omega,?_,fun j hj=>hz j hj⟩
   cases hl:listed.getD n true with
   | false=>rfl
   | true=>rw [hl,if_pos rfl] at h;omega
def zUt (md:Region.Mode)(ops:Array Oper)(n:Nat):Bool :=
 (List.range n).all fun i=>match ops[i]? with
  | some o=>o.after.all fun e=>!Region.binds md e||decide (e.on<i)
  | none=>false
theorem zPe {n:Nat}(h:zUt md ops n=true)(i:Nat)(hi:i<n):∃ o,ops[i]?=some o/\∀ e ∈ o.after,Region.binds md e=true->e.on<i:=by
 have h1:=List.all_eq_true.1 h i (List.mem_range.2 hi)
 cases ho:ops[i]? with
 | none=>simp only [ho] at h1;cases h1
 | some o =>
  simp only [ho] at h1
  refine ⟨o,rfl,fun e he hb=>?_⟩
  have h2:=Array.all_eq_true_iff_forall_mem.1 h1 e he
  simpa [hb] using h2
theorem zEc {listed:Array Bool}{i:Nat}(hi:i<listed.size)(h:listed.getD i true=true):listed.getD i false=true:=by
 simp [hi] at h ⊢;exact h
def zZe (n m:Nat):Array Bool:=(List.replicate n true++List.replicate (m-n) false).toArray
theorem zIj {n:Nat}{listed:Array Bool}(hn:n<=ops.size)(inv:HeadInv md ops n listed)(h:∀ i,i<n->listed.getD i true=true):listed=zZe n ops.size:=by
 apply Array.ext
 ·simp [zZe,inv.size];omega
 ·intro i h1 h2
  by_cases hi:i<n
  ·have:=h i hi
   simp [h1] at this
   rw [this]
   simp [zZe,List.getElem_append,hi]
  ·have:=inv.tail i (by omega) (by rw [← inv.size];exact h1)
   simp [h1] at this
   rw [this]
   simp [zZe,List.getElem_append,hi]
theorem zQm {n:Nat}{B:Act->World->Prop}{R:Nat->Act->World->Prop}{tail:List Oper}(hs:Region.sinkB md ops n=true)(hc:Region.chainB md ops n=true)(hn:n<ops.size)(hb:zUt md ops n=true)
  (htl:∀ j,tail[j]?=ops[n+j]?) (hseq:Region.seqB md ops tail.length n (zZe n ops.size)=true)
  (hstep:∀ i o a w,i<n->ops[i]?=some o->B a w->(∀ e ∈ o.after,Region.binds md e=true->R e.on a w)->wpOp P ops Q i (fun a' w'=>B a' w'/\R i a' w'/\∀ j,j<n->j≠i->R j a w->R j a' w') a w)
  (hend:∀ a w,B a w->(∀ i,i<n->R i a w)->wpList P ops Q tail a w) :
  ∀ (f:Nat) (listed:Array Bool) (a:Act) (w:World),HeadInv md ops n listed->zJc listed n=f->B a w->(∀ i,i<n->listed.getD i false=true->R i a w)->wpAny P md ops Q (f+tail.length) listed a w
 | 0,listed,a,w,inv,hf,hB,hR=>by
  have hz:=zKd n hf
  have he:=zIj (Nat.le_of_lt hn) inv hz
  have hw:=hend a w hB fun i hi=>hR i hi (zEc (by rw [inv.size];omega) (hz i hi))
  rw [Nat.zero_add,he]
  exact wpAny_of_seq tail n _ a w htl hseq hw
 | f+1,listed,a,w,inv,hf,hB,hR=>by
  obtain ⟨k,hk,hku,hkl⟩:=zSd (listed:=listed) n (by omega)
  rw [show f+1+tail.length=(f+tail.length)+1 by omega]
  refine ⟨fun h0=>?_,fun i hi=>?_⟩
  ·obtain ⟨o,ho,hlt⟩:=zPe hb k hk
   have:k ∈ Region.ready md ops listed:=mem_ready.2 ⟨hku,o,ho,fun e he hbd=>by
    have:=hlt e he hbd
    exact zEc (by rw [inv.size];omega) (hkl _ this)⟩
   rw [h0] at this;cases this
  ·have hin:i<n:=by
    rcases Nat.lt_or_ge i n with h|h
    ·exact h
    ·exact absurd hi (tail_waits hs hc hn inv _ k rfl hk hku i h)
   obtain ⟨hu,o,ho,hall⟩:=mem_ready.1 hi
   obtain ⟨o',ho',hlt⟩:=zPe hb i hin
   have:o'=o:=Option.some.inj (ho'.symm.trans ho)
   subst this
   refine wpOp_mono (fun a' w' h3=>?_) (hstep i o' a w hin ho hB fun e he hbd=>hR _ (by have:=hlt e he hbd;omega) (hall e he hbd))
   refine zQm hs hc hn hb htl hseq hstep hend f _ a' w' (inv.set hi hin) (by have:=zNf hu n hin;omega) h3.1 fun j hj hl=>?_
   by_cases e:j=i
   ·subst e;exact h3.2.1
   ·rw [getD_set_ne false (fun h=>e h.symm)] at hl
    exact h3.2.2 j hj e (hR j hj hl)
theorem zAc (m:Nat):∀ n,n<=m->zJc (Array.replicate m false) n=n
 | 0,_=>rfl
 | n+1,h=>by unfold zJc;rw [zAc m n (by omega)];simp [show n<m by omega]
def invB (md:Region.Mode)(ops:Array Oper)(n:Nat):Bool :=
 Region.sinkB md ops n&&Region.chainB md ops n&&decide (n<ops.size)&&zUt md ops n&&Region.seqB md ops (ops.size-n) n (zZe n ops.size)
theorem zEl (n:Nat)(B:Act->World->Prop)(R:Nat->Act->World->Prop){id:Nat}{l:List Oper}{a:Act}{w:World}(hm:P.follows .mixedOrders=true)(hI:invB .any l.toArray n=true)
  (h0:B a w.drew)
  (hstep:∀ i o a w,i<n->l[i]?=some o->B a w->(∀ e ∈ o.after,Region.binds .any e=true->R e.on a w)->wpOp P l.toArray Q i (fun a' w'=>B a' w'/\R i a' w'/\∀ j,j<n->j≠i->R j a w->R j a' w') a w)
  (hend:∀ a w,B a w->(∀ i,i<n->R i a w)->wpList P l.toArray Q (l.drop n) a w):(Code.region id l.toArray true).wp P Q a w:=by
 simp only [invB,Bool.and_eq_true,decide_eq_true_eq] at hI
 obtain ⟨⟨⟨⟨hs,hc⟩,hn⟩,hb⟩,hseq⟩:=hI
 have hdl:(l.drop n).length=l.toArray.size-n:=by simp
 refine wp_region_any hm ?_
 have H:=zQm (P:=P) (Q:=Q) (md:=.any) (ops:=l.toArray) (n:=n) (B:=B) (R:=R) (tail:=l.drop n) hs hc hn hb (fun j=>by simp [List.getElem?_drop]) (by rw [hdl];exact hseq)
  (fun i o a w hi ho=>hstep i o a w hi (by simpa using ho)) hend n (Array.replicate l.toArray.size false) a w.drew
  ⟨by simp,fun j oj _ hl=>(by rw [getD_replicate_false] at hl;cases hl),fun t _ ht=>getD_in (by simpa using ht) (getD_replicate_false _ _)⟩
  (zAc _ n (Nat.le_of_lt hn)) h0 (fun i hi hl=>by rw [getD_replicate_false] at hl;cases hl)
 rw [hdl,show n+(l.toArray.size-n)=l.toArray.size by omega] at H
 exact H
abbrev slot (a:Act)(t:Nat):Value:=a.tmps[t]?.getD undef
theorem zJb {a:Act}{d t:Nat}{v:Value}(h:d≠t):slot (a.put (some d) v) t=slot a t:=by
 simp [slot,Act.put,Array.getElem?_setIfInBounds_ne h]
theorem zSe {a:Act}{d:Nat}{v:Value}(h:d<a.tmps.size):slot (a.put (some d) v) d=v:=by
 simp [slot,Act.put,h]
def zFq (p:Value->World->Prop):Prop:=∀ v w w',p v w->Below w.heap.size w w'->p v w'
def dstG (l:List Oper)(D:List Nat)(n m:Nat):Bool :=
 (List.range n).all fun i=>(match l[i]? with
  | some o=>o.dst==some (D.getD i 0)
  | none=>false)&&decide (D.getD i 0<m)&&(List.range n).all fun j=>j==i||D.getD j 0 != D.getD i 0
theorem zFh {l:List Oper}{D:List Nat}{n m:Nat}(h:dstG l D n m=true)(i:Nat)(hi:i<n) :
  ∃ o,l[i]?=some o/\o.dst=some (D.getD i 0)/\D.getD i 0<m/\∀ j,j<n->j≠i->D.getD j 0≠D.getD i 0:=by
 have h1:=List.all_eq_true.1 h i (List.mem_range.2 hi)
 cases ho:l[i]? with
 | none=>simp [ho] at h1
 | some o =>
  simp only [ho,Bool.and_eq_true,decide_eq_true_eq,beq_iff_eq,List.all_eq_true,Bool.or_eq_true,bne_iff_ne,List.mem_range] at h1
  exact ⟨o,rfl,h1.1.1,h1.1.2,fun j hj hne=>(h1.2 j hj).resolve_left hne⟩
def gdB (l:List Oper)(n:Nat):Bool :=
 (List.range n).all fun i=>match l[i]? with
  | some o=>match o.guard with
   | none=>true
   | some (j,_)=>decide (j<n)&&o.after.any fun e=>Region.binds .any e&&e.on==j
  | none=>false
theorem zLr {l:List Oper}{n:Nat}(h:gdB l n=true)(i:Nat)(hi:i<n)(o:Oper)(ho:l[i]?=some o)(j:Nat)(b:Bool)(hg:o.guard=some (j,b)) :
  j<n/\∃ e ∈ o.after,Region.binds .any e=true/\e.on=j:=by
 have h1:=List.all_eq_true.1 h i (List.mem_range.2 hi)
 simp only [ho,hg,Bool.and_eq_true,decide_eq_true_eq,Array.any_eq_true',beq_iff_eq] at h1
 obtain ⟨h1,e,he,h2,h3⟩:=h1
 exact ⟨h1,e,he,h2,h3⟩
theorem zRi (n m:Nat)(D:List Nat)(S:List (Value->World->Prop))(C:World->Prop){id:Nat}{l:List Oper}{a0:Act}{w0:World}(hm:P.follows .mixedOrders=true)(hI:invB .any l.toArray n=true)(hD:dstG l D n m=true)(hGd:gdB l n=true)
  (hsz:a0.tmps.size=m) (hS:∀ p ∈ S,zFq p) (hC0:C w0.drew) (hCn:∀ w w',C w->Below w.heap.size w w'->C w')
  (hGv:∀ i o j b,i<n->l[i]?=some o->o.guard=some (j,b)->∀ v w,(S.getD j fun _ _=>True) v w->v=.bool b)
  (hstep:∀ i o a w,i<n->l[i]?=some o->C w->(∀ t,(∀ i,i<n->D.getD i 0≠t)->slot a t=slot a0 t)->(∀ e ∈ o.after,Region.binds .any e=true->(S.getD e.on fun _ _=>True) (slot a (D.getD e.on 0)) w) ->
   o.wp P a w (fun a' w'=>∃ v,a'=a.put o.dst v/\(S.getD i fun _ _=>True) v w'/\Below w.heap.size w w') Q)
  (hend:∀ a w,C w->a.tmps.size=m->a.defers=a0.defers->(∀ t,(∀ i,i<n->D.getD i 0≠t)->slot a t=slot a0 t)->(∀ i,i<n->(S.getD i fun _ _=>True) (slot a (D.getD i 0)) w)->wpList P l.toArray Q (l.drop n) a w) :
  (Code.region id l.toArray true).wp P Q a0 w0:=by
 have hSt:∀ i,zFq (S.getD i fun _ _=>True):=by
  intro i
  rcases Nat.lt_or_ge i S.length with h|h
  ·rw [List.getD_eq_getElem?_getD,List.getElem?_eq_getElem h];exact hS _ (List.getElem_mem h)
  ·rw [List.getD_eq_getElem?_getD,List.getElem?_eq_none h];exact fun _ _ _ _ _=>trivial
 refine zEl n (fun a w=>C w/\a.tmps.size=m/\a.defers=a0.defers/\∀ t,(∀ i,i<n->D.getD i 0≠t)->slot a t=slot a0 t)
  (fun i a w=>(S.getD i fun _ _=>True) (slot a (D.getD i 0)) w) hm hI ⟨hC0,hsz,rfl,fun _ _=>rfl⟩ ?_ (fun a w h hR=>hend a w h.1 h.2.1 h.2.2.1 h.2.2.2 hR)
 intro i o a w hi ho hB hR
 obtain ⟨o',ho2,hd,hlt,hne⟩:=zFh hD i hi
 have eo:o'=o:=Option.some.inj (ho2.symm.trans ho)
 subst eo
 have hw:=hstep i o' a w hi ho hB.1 hB.2.2.2 hR
 unfold wpOp
 have ho':l.toArray[i]?=some o':=by simpa using ho
 simp only [ho']
 have hwant:Region.wanted o' (yielded l.toArray a.tmps)=true:=by
  unfold Region.wanted
  cases hg:o'.guard with
  | none=>rfl
  | some q =>
   obtain ⟨j,b⟩:=q
   obtain ⟨hj,e,he,hbd,hej⟩:=zLr hGd i hi o' ho j b hg
   have hv:=hR e he hbd
   rw [hej] at hv
   have hv2:=hGv i o' j b hi ho hg _ _ hv
   obtain ⟨oj,hoj,hdj,hltj,_⟩:=zFh hD j hj
   have hoj':l.toArray[j]?=some oj:=by simpa using hoj
   have hs:D.getD j 0<a.tmps.size:=by rw [hB.2.1];exact hltj
   have ht:a.tmps[D.getD j 0]?=some (.bool b):=by
    have h5:a.tmps[D.getD j 0]?=some a.tmps[D.getD j 0]:=Array.getElem?_eq_getElem hs
    have h6:slot a (D.getD j 0)=a.tmps[D.getD j 0]:=by unfold slot;rw [h5];rfl
    rw [h5,← h6,hv2]
   have hy:yielded l.toArray a.tmps j=some b:=by
    unfold yielded
    simp only [hoj',Option.bind_some,hdj,ht]
   simp [hy]
 rw [if_pos hwant]
 refine Or.inl (Oper.wp_mono ?_ hw)
 rintro a' w' ⟨v,rfl,hv,hb⟩
 rw [hd]
 refine ⟨⟨hCn _ _ hB.1 hb,by simp [Act.put,hB.2.1],hB.2.2.1,fun t ht=>?_⟩,?_,fun j hj hji hRj=>?_⟩
 ·rw [zJb (ht i hi)];exact hB.2.2.2 t ht
 ·show (S.getD i fun _ _=>True) (slot (a.put (some (D.getD i 0)) v) (D.getD i 0)) w'
  rw [zSe (by rw [hB.2.1];exact hlt)];exact hv
 ·show (S.getD j fun _ _=>True) (slot (a.put (some (D.getD i 0)) v) (D.getD j 0)) w'
  rw [zJb (fun h=>hne j hj hji h.symm)]
  exact hSt j _ _ _ hRj hb
end
end
section
section
variable {P:Program}{ops:Array Oper}{Q:Exit->Act->World->Prop}{md:Region.Mode}
theorem zEk {B:Act->World->Prop}{R:Nat->Act->World->Prop}(hb:zUt md ops ops.size=true)
  (hstep:∀ i o a w,ops[i]?=some o->B a w->(∀ e ∈ o.after,Region.binds md e=true->R e.on a w)->wpOp P ops Q i (fun a' w'=>B a' w'/\R i a' w'/\∀ j,j<ops.size->j≠i->R j a w->R j a' w') a w)
  (hend:∀ a w,B a w->(∀ i,i<ops.size->R i a w)->Q .normal a w) :
  ∀ (f:Nat) (listed:Array Bool) (a:Act) (w:World),listed.size=ops.size->zJc listed ops.size=f->B a w->(∀ i,i<ops.size->listed.getD i false=true->R i a w)->wpAny P md ops Q f listed a w
 | 0,listed,a,w,hsz,hf,hB,hR=>by
  have hz:=zKd ops.size hf
  refine ⟨?_,hend a w hB fun i hi=>hR i hi (zEc (by rw [hsz];exact hi) (hz i hi))⟩
  refine List.eq_nil_iff_forall_not_mem.2 fun j hj=>?_
  obtain ⟨hu,o,ho,_⟩:=mem_ready.1 hj
  have hlt:j<ops.size:=(Array.getElem?_eq_some_iff.1 ho).1
  rw [hz j hlt] at hu;cases hu
 | f+1,listed,a,w,hsz,hf,hB,hR=>by
  obtain ⟨k,hk,hku,hkl⟩:=zSd (listed:=listed) ops.size (by omega)
  refine ⟨fun h0=>?_,fun i hi=>?_⟩
  ·obtain ⟨o,ho,hlt⟩:=zPe hb k hk
   have:k ∈ Region.ready md ops listed:=mem_ready.2 ⟨hku,o,ho,fun e he hbd=>by
    have:=hlt e he hbd
    exact zEc (by rw [hsz];omega) (hkl _ this)⟩
   rw [h0] at this;cases this
  ·obtain ⟨hu,o,ho,hall⟩:=mem_ready.1 hi
   have hin:i<ops.size:=(Array.getElem?_eq_some_iff.1 ho).1
   obtain ⟨o',ho',hlt⟩:=zPe hb i hin
   obtain rfl:o'=o:=Option.some.inj (ho'.symm.trans ho)
   refine wpOp_mono (fun a' w' h3=>?_) (hstep i o' a w ho hB fun e he hbd=>hR _ (by have:=hlt e he hbd;omega) (hall e he hbd))
   refine zEk hb hstep hend f _ a' w' (by simp [hsz]) (by have:=zNf hu ops.size hin;omega) h3.1 fun j hj hl=>?_
   by_cases e:j=i
   ·subst e;exact h3.2.1
   ·rw [getD_set_ne false (fun h=>e h.symm)] at hl
    exact h3.2.2 j hj e (hR j hj hl)
theorem zTj (m:Nat)(D:List Nat)(S:List (Value->World->Prop))(C:World->Prop){id:Nat}{l:List Oper}{a0:Act}{w0:World}(hm:P.follows .mixedOrders=true)(hI:zUt .any l.toArray l.length=true)(hD:dstG l D l.length m=true)(hGd:gdB l l.length=true)
  (hsz:a0.tmps.size=m) (hS:∀ p ∈ S,zFq p) (hC0:C w0.drew) (hCn:∀ w w',C w->Below w.heap.size w w'->C w')
  (hGv:∀ i o j b,i<l.length->l[i]?=some o->o.guard=some (j,b)->∀ v w,(S.getD j fun _ _=>True) v w->v=.bool b)
  (hstep:∀ i o a w,i<l.length->l[i]?=some o->C w->(∀ t,(∀ i,i<l.length->D.getD i 0≠t)->slot a t=slot a0 t)->(∀ e ∈ o.after,Region.binds .any e=true->(S.getD e.on fun _ _=>True) (slot a (D.getD e.on 0)) w) ->
   o.wp P a w (fun a' w'=>∃ v,a'=a.put o.dst v/\(S.getD i fun _ _=>True) v w'/\Below w.heap.size w w') Q)
  (hend:∀ a w,C w->a.tmps.size=m->a.defers=a0.defers->(∀ t,(∀ i,i<l.length->D.getD i 0≠t)->slot a t=slot a0 t)->(∀ i,i<l.length->(S.getD i fun _ _=>True) (slot a (D.getD i 0)) w)->Q .normal a w) :
  (Code.region id l.toArray true).wp P Q a0 w0:=by
 have hSt:∀ i,zFq (S.getD i fun _ _=>True):=by
  intro i
  rcases Nat.lt_or_ge i S.length with h|h
  ·rw [List.getD_eq_getElem?_getD,List.getElem?_eq_getElem h];exact hS _ (List.getElem_mem h)
  ·rw [List.getD_eq_getElem?_getD,List.getElem?_eq_none h];exact fun _ _ _ _ _=>trivial
 have hsl:l.toArray.size=l.length:=by simp
 refine wp_region_any hm ?_
 have H:=zEk (P:=P) (Q:=Q) (md:=.any) (ops:=l.toArray) (B:=fun a w=>C w/\a.tmps.size=m/\a.defers=a0.defers/\∀ t,(∀ i,i<l.length->D.getD i 0≠t)->slot a t=slot a0 t)
  (R:=fun i a w=>(S.getD i fun _ _=>True) (slot a (D.getD i 0)) w) (by rw [hsl];exact hI) ?_ (fun a w h hR=>hend a w h.1 h.2.1 h.2.2.1 h.2.2.2 (fun i hi=>hR i (by rw [hsl];exact hi))) l.toArray.size (Array.replicate l.toArray.size false) a0 w0.drew (by simp) (zAc _ _ (Nat.le_refl _)) ⟨hC0,hsz,rfl,fun _ _=>rfl⟩ (fun i hi hl=>by rw [getD_replicate_false] at hl;cases hl)
 ·exact H
 intro i o a w ho0 hB hR
 have ho:l[i]?=some o:=by simpa using ho0
 have hi:i<l.length:=(List.getElem?_eq_some_iff.1 ho).1
 obtain ⟨o',ho2,hd,hlt,hne⟩:=zFh hD i hi
 have eo:o'=o:=Option.some.inj (ho2.symm.trans ho)
 subst eo
 have hw:=hstep i o' a w hi ho hB.1 hB.2.2.2 hR
 unfold wpOp
 simp only [ho0]
 have hwant:Region.wanted o' (yielded l.toArray a.tmps)=true:=by
  unfold Region.wanted
  cases hg:o'.guard with
  | none=>rfl
  | some q =>
   obtain ⟨j,b⟩:=q
   obtain ⟨hj,e,he,hbd,hej⟩:=zLr hGd i hi o' ho j b hg
   have hv:=hR e he hbd
   rw [hej] at hv
   have hv2:=hGv i o' j b hi ho hg _ _ hv
   obtain ⟨oj,hoj,hdj,hltj,_⟩:=zFh hD j hj
   have hoj':l.toArray[j]?=some oj:=by simpa using hoj
   have hs:D.getD j 0<a.tmps.size:=by rw [hB.2.1];exact hltj
   have ht:a.tmps[D.getD j 0]?=some (.bool b):=by
    have h5:a.tmps[D.getD j 0]?=some a.tmps[D.getD j 0]:=Array.getElem?_eq_getElem hs
    have h6:slot a (D.getD j 0)=a.tmps[D.getD j 0]:=by unfold slot;rw [h5];rfl
    rw [h5,← h6,hv2]
   have hy:yielded l.toArray a.tmps j=some b:=by
    unfold yielded
    simp only [hoj',Option.bind_some,hdj,ht]
   simp [hy]
 rw [if_pos hwant]
 refine Or.inl (Oper.wp_mono ?_ hw)
 rintro a' w' ⟨v,rfl,hv,hb⟩
 rw [hd]
 refine ⟨⟨hCn _ _ hB.1 hb,by simp [Act.put,hB.2.1],hB.2.2.1,fun t ht=>?_⟩,?_,fun j hj hji hRj=>?_⟩
 ·rw [zJb (ht i hi)];exact hB.2.2.2 t ht
 ·show (S.getD i fun _ _=>True) (slot (a.put (some (D.getD i 0)) v) (D.getD i 0)) w'
  rw [zSe (by rw [hB.2.1];exact hlt)];exact hv
 ·show (S.getD j fun _ _=>True) (slot (a.put (some (D.getD i 0)) v) (D.getD j 0)) w'
  rw [zJb (fun h=>hne j (by rw [← hsl];exact hj) hji h.symm)]
  exact hSt j _ _ _ hRj hb
def isV (u:Value):Value->World->Prop:=fun v _=>v=u
theorem isV.stays (u:Value):zFq (isV u):=fun v w w' h _=>h
end
end
section
section
variable {P:Program}{ops:Array Oper}{Q:Exit->Act->World->Prop}{md:Region.Mode}
theorem zGt {listed:Array Bool}{i:Nat}(hi:i<listed.size):(fun j=>(listed.setIfInBounds i true).getD j false=true)=(fun j=>listed.getD j false=true∨j=i):=by
 funext j
 apply propext
 by_cases e:j=i
 ·subst e
  simp [hi]
 ·rw [getD_set_ne false (fun h=>e h.symm)]
  simp [e]
theorem zDk {n:Nat}{B:(Nat->Prop)->Act->World->Prop}{tail:List Oper}(hs:Region.sinkB md ops n=true)(hc:Region.chainB md ops n=true)(hn:n<ops.size)(hb:zUt md ops n=true)
  (htl:∀ j,tail[j]?=ops[n+j]?) (hseq:Region.seqB md ops tail.length n (zZe n ops.size)=true)
  (hstep:∀ (L:Nat->Prop) i o a w,i<n->ops[i]?=some o->¬ L i->(∀ j oj,ops[j]?=some oj->L j->∀ e ∈ oj.after,Region.binds md e=true->L e.on)->(∀ e ∈ o.after,Region.binds md e=true->L e.on)->B L a w->wpOp P ops Q i (fun a' w'=>B (fun j=>L j∨j=i) a' w') a w)
  (hend:∀ (L:Nat->Prop) a w,(∀ i,i<n->L i)->B L a w->wpList P ops Q tail a w) :
  ∀ (f:Nat) (listed:Array Bool) (a:Act) (w:World),HeadInv md ops n listed->zJc listed n=f->B (fun j=>listed.getD j false=true) a w->wpAny P md ops Q (f+tail.length) listed a w
 | 0,listed,a,w,inv,hf,hB=>by
  have hz:=zKd n hf
  have he:=zIj (Nat.le_of_lt hn) inv hz
  have hw:=hend _ a w (fun i hi=>zEc (by rw [inv.size];omega) (hz i hi)) hB
  rw [Nat.zero_add,he]
  exact wpAny_of_seq tail n _ a w htl hseq hw
 | f+1,listed,a,w,inv,hf,hB=>by
  obtain ⟨k,hk,hku,hkl⟩:=zSd (listed:=listed) n (by omega)
  rw [show f+1+tail.length=(f+tail.length)+1 by omega]
  refine ⟨fun h0=>?_,fun i hi=>?_⟩
  ·obtain ⟨o,ho,hlt⟩:=zPe hb k hk
   have:k ∈ Region.ready md ops listed:=mem_ready.2 ⟨hku,o,ho,fun e he hbd=>by
    have:=hlt e he hbd
    exact zEc (by rw [inv.size];omega) (hkl _ this)⟩
   rw [h0] at this;cases this
  ·have hin:i<n:=by
    rcases Nat.lt_or_ge i n with h|h
    ·exact h
    ·exact absurd hi (tail_waits hs hc hn inv _ k rfl hk hku i h)
   obtain ⟨hu,o,ho,hall⟩:=mem_ready.1 hi
   refine wpOp_mono (fun a' w' h3=>?_) (hstep (fun j=>listed.getD j false=true) i o a w hin ho (by show ¬ (listed.getD i false=true);rw [getD_both hu];decide) inv.closed hall hB)
   refine zDk hs hc hn hb htl hseq hstep hend f _ a' w' (inv.set hi hin) (by have:=zNf hu n hin;omega) ?_
   rw [zGt (by rw [inv.size];omega)]
   exact h3
theorem zSj (n:Nat)(B:(Nat->Prop)->Act->World->Prop){id:Nat}{l:List Oper}{a:Act}{w:World}(hm:P.follows .mixedOrders=true)(hI:invB .any l.toArray n=true)
  (h0:B (fun _=>False) a w.drew)
  (hstep:∀ (L:Nat->Prop) i o a w,i<n->l[i]?=some o->¬ L i->(∀ j oj,l[j]?=some oj->L j->∀ e ∈ oj.after,Region.binds .any e=true->L e.on)->(∀ e ∈ o.after,Region.binds .any e=true->L e.on)->B L a w->wpOp P l.toArray Q i (fun a' w'=>B (fun j=>L j∨j=i) a' w') a w)
  (hend:∀ (L:Nat->Prop) a w,(∀ i,i<n->L i)->B L a w->wpList P l.toArray Q (l.drop n) a w):(Code.region id l.toArray true).wp P Q a w:=by
 simp only [invB,Bool.and_eq_true,decide_eq_true_eq] at hI
 obtain ⟨⟨⟨⟨hs,hc⟩,hn⟩,hb⟩,hseq⟩:=hI
 have hdl:(l.drop n).length=l.toArray.size-n:=by simp
 refine wp_region_any hm ?_
 have hf0:(fun j=>(Array.replicate l.toArray.size false).getD j false=true)=fun _=>False:=by
  funext j
  rw [getD_replicate_false]
  simp
 have H:=zDk (P:=P) (Q:=Q) (md:=.any) (ops:=l.toArray) (n:=n) (B:=B) (tail:=l.drop n) hs hc hn hb (fun j=>by simp [List.getElem?_drop]) (by rw [hdl];exact hseq)
  (fun L i o a w hi ho hL hcl he hB=>hstep L i o a w hi (by simpa using ho) hL (fun j oj hj=>hcl j oj (by simpa using hj)) he hB) hend n (Array.replicate l.toArray.size false) a w.drew
  ⟨by simp,fun j oj _ hl=>(by rw [getD_replicate_false] at hl;cases hl),fun t _ ht=>getD_in (by simpa using ht) (getD_replicate_false _ _)⟩
  (zAc _ n (by simpa using Nat.le_of_lt hn)) (by rw [hf0];exact h0)
 rw [hdl] at H
 have:n+(l.toArray.size-n)=l.toArray.size:=by omega
 rw [this] at H
 exact H
end
end
end Go.Proofs.YtahfkpjhlbiamaaGreatDoor
