/-
  Texts that the proof leans on.
-/
import Derived.Test.YtahfkpjhlbiamaaGreatDoorR1
import Derived.Test.YtahfkpjhlbiamaaGreatDoorR24
import Derived.Test.YtahfkpjhlbiamaaGreatDoorR22
import Derived.Test.YtahfkpjhlbiamaaGreatDoorR20
import Derived.Test.YtahfkpjhlbiamaaGreatDoorR16
import Derived.Deep.Cut
import Derived.Deep.CutRange
import Derived.Test.YtahfkpjhlbiamaaGreatDoorR3
import Derived.Test.YtahfkpjhlbiamaaGreatDoorR11
import Derived.Test.YtahfkpjhlbiamaaGreatDoorR23
import Derived.Test.YtahfkpjhlbiamaaGreatDoorR18
import Derived.Test.YtahfkpjhlbiamaaGreatDoorR15
import Derived.Test.YtahfkpjhlbiamaaGreatDoorR13
import Derived.Deep.RegionWith
import Derived.Test.YtahfkpjhlbiamaaGreatDoorR12
import Derived.Test.YtahfkpjhlbiamaaGreatDoorR31
import Derived.Test.YtahfkpjhlbiamaaGreatDoorR4
import Derived.Test.YtahfkpjhlbiamaaGreatDoorR2
set_option maxHeartbeats 8000000
set_option linter.unusedVariables false
set_option linter.unusedSectionVars false
set_option linter.unusedSimpArgs false
set_option maxRecDepth 20000
namespace Go.Proofs.YtahfkpjhlbiamaaGreatDoor
open Go.RowKit
section
theorem zN6 {N D:Nat}{vn vd:Value}{w:World}(x:Int)(hx:-17000<=x/\x<=17000)(h:NT 900 N vn w)(h':NT 900 D vd w)(hN:bl N<=300)(hD:bl D<=300) :
  Calls Tryz.prog 65 #[vn,vd,.int .u64 2,.int .i64 x] w fun e w'=>∃ a b,e=.returned (.tuple #[a,b])/\NT 900 (N*2^x.toNat) a w'/\NT 900 (D*2^(-x).toNat) b w'/\Below w.heap.size w w':=by
 have hc:clZ x=x:=by unfold clZ;omega
 have e1:sN N x=N*2^x.toNat:=by unfold sN;rw [hc]
 have e2:sD D x=D*2^(-x).toNat:=by unfold sD;rw [hc]
 have a1:=zKh N (2^x.toNat)
 have a2:=zKh D (2^(-x).toNat)
 have b1:=zT3 x.toNat
 have b2:=zT3 (-x).toNat
 refine (zIv x (by decide) h h').mono fun e w' ⟨a,b,h1,h2,h3,h4⟩=>⟨a,b,h1,?_,?_,h4⟩
 ·rw [e1] at h2;exact h2.tight (by omega)
 ·rw [e2] at h3;exact h3.tight (by omega)
theorem nt_at0 {W:World}{g k:Nat}(hk:k<2^256)(hg:g<W.heap.size)(h0:W.cell? ⟨g,0,none⟩=some (.int .u64 (W4 k 0)))(h1:W.cell? ⟨g,1,none⟩=some (.int .u64 (W4 k 1)))(h2:W.cell? ⟨g,2,none⟩=some (.int .u64 (W4 k 2)))(h3:W.cell? ⟨g,3,none⟩=some (.int .u64 (W4 k 3))) :
  Nt 4 k (.slice (some ⟨g,0,none⟩) 4 4) W:=by
 unfold Nt
 refine ⟨some ⟨g,0,none⟩,4,4,fun i=>if i<4 then W4 k i else 0,rfl,Nat.le_refl _,⟨Nat.le_refl _,by unfold maxLen;omega,fun i=>?_,fun i hi=>if_neg (by omega),Or.inr ⟨g,0,rfl,hg,fun i hi=>?_⟩⟩,?_⟩
 ·dsimp only
  split
  ·exact zHa k i
  ·exact ⟨Int.le_refl _,by decide⟩
 ·have:i=0∨i=1∨i=2∨i=3:=by omega
  rcases this with rfl|rfl|rfl|rfl
  ·exact h0
  ·exact h1
  ·exact h2
  ·exact h3
 ·have e:=zOb hk
  rw [← e]
  simp [val]
attribute [local irreducible] W4 Nz Nt NT NV
theorem rnat_v (k:Nat)(w:World)(hk:k<2^256) :
  CE 66 #[A4 k] w (NT 4 k):=by
 have hn0:Nt 4 k (.slice (some ⟨w.heap.size,0,none⟩) 4 4) (w.alloc (.cells #[.int .u64 (W4 k 0),.int .u64 (W4 k 1),.int .u64 (W4 k 2),.int .u64 (W4 k 3)] 24)):=nt_at0 hk (by simp) (by go_simp) (by go_simp) (by go_simp) (by go_simp)
 have c49:=zP0 (by decide) hn0
 have hb0:=zBa w (.cells #[.int .u64 (W4 k 0),.int .u64 (W4 k 1),.int .u64 (W4 k 2),.int .u64 (W4 k 3)] 24)
 clear hn0
 unfold A4
 go_enter Tryz.func66,Tryz.ntmps66
 go_wp2_with (go_at_call 128;refine c49.mono ?_;rintro r w1 ⟨v,rfl,hv,hb1⟩)
 go_ret
 exact ⟨v,rfl,hv,bnx hb0 hb1⟩
section
variable {a:Act}{w:World}{K:Act->World->Prop}{Q:Exit->Act->World->Prop}{d p q:Nat}{ty:TypeId}{pos:String}{after:Array Edge}{gd:Option (Nat×Bool)}
theorem zE7 {g:Nat}(h1:slot a p=.pointer (some ⟨g,0,none⟩))(hK:K (a.put (some d) (.pointer (some ⟨g,4,none⟩))) w):Oper.wp Tryz.prog { dst:=some d,op:=Op.fieldAddr 32 (Operand.tmp p) 4,type:=ty,pos:=pos,after:=after,guard:=gd } a w K Q:=by
 unfold slot at h1
 simp [go_sem,h1]
 exact hK
theorem zD7 {p0:Nat}{u0:Value}{ts:Array TypeId}(h0:slot a p0=u0)(hc:Calls Tryz.prog 66 #[u0] w fun e w'=>∃ v,e=.returned v/\K (a.put (some d) v) w'):Oper.wp Tryz.prog { dst:=some d,op:=Op.call { callee:=Callee.value (Operand.func 66),args:=#[Operand.tmp p0],argTypes:=ts },type:=ty,pos:=pos,after:=after,guard:=gd } a w K Q:=by
 unfold slot at h0
 simp [go_sem,h0]
 refine hc.mono ?_
 rintro e w' ⟨v,rfl,hK⟩
 exact hK
theorem zC7 {v:Value}(h1:slot a p=v)(hK:K (a.put (some d) v) w):Oper.wp Tryz.prog { dst:=some d,op:=Op.move (Operand.tmp p),type:=ty,pos:=pos,after:=after,guard:=gd } a w K Q:=by
 unfold slot at h1
 simp [go_sem,h1]
 exact hK
theorem zB7 {g:Nat}(h1:slot a p=.pointer (some ⟨g,0,none⟩))(hK:K (a.put (some d) (.pointer (some ⟨g,3,none⟩))) w):Oper.wp Tryz.prog { dst:=some d,op:=Op.fieldAddr 32 (Operand.tmp p) 3,type:=ty,pos:=pos,after:=after,guard:=gd } a w K Q:=by
 unfold slot at h1
 simp [go_sem,h1]
 exact hK
theorem zA7 {g i:Nat}{v:Value}(h1:slot a p=.pointer (some ⟨g,i,none⟩))(h2:w.cell? ⟨g,i,none⟩=some v)(hK:K (a.put (some d) v) w):Oper.wp Tryz.prog { dst:=some d,op:=Op.load 3 (Operand.tmp p),type:=ty,pos:=pos,after:=after,guard:=gd } a w K Q:=by
 unfold slot at h1
 simp [go_sem,h1,h2]
 exact hK
theorem zZ6 {p0:Nat}{u0:Value}{p1:Nat}{u1:Value}{p2:Nat}{u2:Value}{p3:Nat}{u3:Value}{ts:Array TypeId}(h0:slot a p0=u0)(h1:slot a p1=u1)(h2:slot a p2=u2)(h3:slot a p3=u3)(hc:Calls Tryz.prog 65 #[u0,u1,u2,u3] w fun e w'=>∃ v,e=.returned v/\K (a.put (some d) v) w'):Oper.wp Tryz.prog { dst:=some d,op:=Op.call { callee:=Callee.value (Operand.func 65),args:=#[Operand.tmp p0,Operand.tmp p1,Operand.tmp p2,Operand.tmp p3],argTypes:=ts },type:=ty,pos:=pos,after:=after,guard:=gd } a w K Q:=by
 unfold slot at h0 h1 h2 h3
 simp [go_sem,h0,h1,h2,h3]
 refine hc.mono ?_
 rintro e w' ⟨v,rfl,hK⟩
 exact hK
end
noncomputable def zWj:List Oper:=match Tryz.f29.body with
 | some (.seq _ (.seq (.region _ o _) _))=>o.toList
 | _=>[]
def zF6:List Nat:=[6,7,8,9,10,11,12,13,14,15]
section
variable {a:Act}{w:World}{K:Act->World->Prop}{Q:Exit->Act->World->Prop}{d p q p2 p3 p4:Nat}{ty:TypeId}{pos:String}{after:Array Edge}{gd:Option (Nat×Bool)}
theorem oq_l24 {g k:Nat}(h1:slot a p=.pointer (some ⟨g,4,none⟩))(c0:w.cell? ⟨g,4,none⟩=some (.int .u64 (W4 k 0)))(c1:w.cell? ⟨g,5,none⟩=some (.int .u64 (W4 k 1)))(c2:w.cell? ⟨g,6,none⟩=some (.int .u64 (W4 k 2)))(c3:w.cell? ⟨g,7,none⟩=some (.int .u64 (W4 k 3)))(hK:K (a.put (some d) (A4 k)) w) :
  Oper.wp Tryz.prog { dst:=some d,op:=Op.load 24 (Operand.tmp p),type:=ty,pos:=pos,after:=after,guard:=gd } a w K Q:=by
 unfold slot at h1
 simp [go_sem,h1,c0,c1,c2,c3]
 exact hK
theorem oq_bs1 (hK:K (a.put (some d) (.slice (some ⟨w.heap.size,0,none⟩) 1 1)) (w.alloc (.cells #[.int .u64 1] 22))) :
  Oper.wp Tryz.prog { dst:=some d,op:=Op.buildSlice 61 1 #[(0,Operand.const (Value.int IntKind.u64 1))],type:=ty,pos:=pos,after:=after,guard:=gd } a w K Q:=by
 simp [go_sem]
 exact hK
theorem oq_ex0 {u v:Value}(h1:slot a p=.tuple #[u,v])(hK:K (a.put (some d) u) w):Oper.wp Tryz.prog { dst:=some d,op:=Op.extract (Operand.tmp p) 0,type:=ty,pos:=pos,after:=after,guard:=gd } a w K Q:=by
 unfold slot at h1
 simp [go_sem,h1]
 exact hK
theorem oq_ex1 {u v:Value}(h1:slot a p=.tuple #[u,v])(hK:K (a.put (some d) v) w):Oper.wp Tryz.prog { dst:=some d,op:=Op.extract (Operand.tmp p) 1,type:=ty,pos:=pos,after:=after,guard:=gd } a w K Q:=by
 unfold slot at h1
 simp [go_sem,h1]
 exact hK
end
theorem regV1 {h4 k A B:Nat}{x:Int}{a0:Act}{ws:World}{Q:Exit->Act->World->Prop}(hs:a0.tmps.size=16)(g2:slot a0 2=.pointer (some ⟨h4,0,none⟩))(g1:slot a0 1=.int .u64 2)(hlt:h4<ws.heap.size)(k3:ws.cell? ⟨h4,3,none⟩=some (.int .i64 x))(k4:ws.cell? ⟨h4,4,none⟩=some (.int .u64 (W4 k 0)))(k5:ws.cell? ⟨h4,5,none⟩=some (.int .u64 (W4 k 1)))(k6:ws.cell? ⟨h4,6,none⟩=some (.int .u64 (W4 k 2)))(k7:ws.cell? ⟨h4,7,none⟩=some (.int .u64 (W4 k 3)))
  (c26:∀ W,CE 66 #[A4 k] W (NT 4 k))
  (c30:∀ W v v',NT 4 k v W->NT 1 1 v' W->Calls Tryz.prog 65 #[v,v',.int .u64 2,.int .i64 x] W fun e w'=>∃ u,e=.returned u/\(∃ a b,u=.tuple #[a,b]/\NT 900 A a w'/\NT 900 B b w')/\Below W.heap.size W w')
  (hQ:∀ (a:Act) (w:World) (x0 x1:Value),slot a 4=x0->slot a 5=x1->NT 900 A x0 w->NT 900 B x1 w->a.tmps.size=16->a.defers=a0.defers->Below ws.heap.size ws w->Q .normal a w) :
  (Code.region 1 zWj.toArray true).wp Tryz.prog Q a0 ws:=by
 refine zDl 10 16 zF6 [isW (.pointer (some ⟨h4,4,none⟩)),isW (A4 k),NT 4 k,NT 1 1,isW (.int .u64 2),isW (.pointer (some ⟨h4,3,none⟩)),isW (.int .i64 x),(fun v w=>∃ a b,v=.tuple #[a,b]/\NT 900 A a w/\NT 900 B b w),NT 900 A,NT 900 B] (fun w w'=>Below w.heap.size w w') (fun _ _ w=>Below ws.heap.size ws w) (by kernel_rfl) (by kernel_rfl) (by kernel_rfl) hs ?_ (Below.refl _ _).drew ?_ ?_
 ·intro p hp
  simp only [List.mem_cons,List.not_mem_nil,or_false] at hp
  rcases hp with rfl|rfl|rfl|rfl|rfl|rfl|rfl|rfl|rfl|rfl
  all_goals first|exact fun _ _ _ h _=>h|exact fun _ _ _ h hb=>h.next hb|exact fun _ _ _ ⟨a,b,e,z0,z1⟩ hb=>⟨a,b,e,z0.next hb,z1.next hb⟩
 ·intro L i o a w hi ho hL hcl he hM hF hv
  have f2:slot a 2=.pointer (some ⟨h4,0,none⟩):=(hF 2 (by decide)).trans g2
  have f1:slot a 1=.int .u64 2:=(hF 1 (by decide)).trans g1
  have hor:i=0∨i=1∨i=2∨i=3∨i=4∨i=5∨i=6∨i=7∨i=8∨i=9:=by omega
  rcases hor with rfl|rfl|rfl|rfl|rfl|rfl|rfl|rfl|rfl|rfl
  ·obtain rfl:=Option.some.inj (show zWj[0]?=some o from ho)
   exact zE7 (f2:slot a 2=.pointer (some ⟨h4,0,none⟩)) ⟨_,rfl,rfl,Below.refl _ _,hM⟩
  ·obtain rfl:=Option.some.inj (show zWj[1]?=some o from ho)
   exact oq_l24 (hv 0 (by decide) rfl (he ⟨0,.data⟩ (by simp) rfl):slot a 6=.pointer (some ⟨h4,4,none⟩)) ((hM.cell (p:=⟨h4,4,none⟩) hlt).trans k4) ((hM.cell (p:=⟨h4,5,none⟩) hlt).trans k5) ((hM.cell (p:=⟨h4,6,none⟩) hlt).trans k6) ((hM.cell (p:=⟨h4,7,none⟩) hlt).trans k7) ⟨_,rfl,rfl,Below.refl _ _,hM⟩
  ·obtain rfl:=Option.some.inj (show zWj[2]?=some o from ho)
   refine zD7 (hv 1 (by decide) rfl (he ⟨1,.data⟩ (by simp) rfl):slot a 7=A4 k) ((c26 w).mono ?_)
   rintro e w' ⟨v,rfl,hSv,hb⟩
   exact ⟨v,rfl,_,rfl,hSv,hb,bnx hM hb⟩
  ·obtain rfl:=Option.some.inj (show zWj[3]?=some o from ho)
   have hb:=zBa w (.cells #[.int .u64 1] 22)
   exact oq_bs1 ⟨_,rfl,zA4 rfl rfl (by decide) (by decide),hb,bnx hM hb⟩
  ·obtain rfl:=Option.some.inj (show zWj[4]?=some o from ho)
   exact zC7 (f1:slot a 1=.int .u64 2) ⟨_,rfl,rfl,Below.refl _ _,hM⟩
  ·obtain rfl:=Option.some.inj (show zWj[5]?=some o from ho)
   exact zB7 (f2:slot a 2=.pointer (some ⟨h4,0,none⟩)) ⟨_,rfl,rfl,Below.refl _ _,hM⟩
  ·obtain rfl:=Option.some.inj (show zWj[6]?=some o from ho)
   exact zA7 (hv 5 (by decide) rfl (he ⟨5,.data⟩ (by simp) rfl):slot a 11=.pointer (some ⟨h4,3,none⟩)) ((hM.cell (p:=⟨h4,3,none⟩) hlt).trans k3) ⟨_,rfl,rfl,Below.refl _ _,hM⟩
  ·obtain rfl:=Option.some.inj (show zWj[7]?=some o from ho)
   refine zZ6 rfl rfl (hv 4 (by decide) rfl (he ⟨4,.data⟩ (by simp) rfl):slot a 10=.int .u64 2) (hv 6 (by decide) rfl (he ⟨6,.data⟩ (by simp) rfl):slot a 12=.int .i64 x) ((c30 w _ _ (hv 2 (by decide) rfl (he ⟨2,.data⟩ (by simp) rfl)) (hv 3 (by decide) rfl (he ⟨3,.data⟩ (by simp) rfl))).mono ?_)
   rintro e w' ⟨v,rfl,hSv,hb⟩
   exact ⟨v,rfl,_,rfl,hSv,hb,bnx hM hb⟩
  ·obtain rfl:=Option.some.inj (show zWj[8]?=some o from ho)
   obtain ⟨x0,x1,e13,z0,z1⟩:∃ x0 x1,slot a 13=.tuple #[x0,x1]/\NT 900 A x0 w/\NT 900 B x1 w:=(hv 7 (by decide) rfl (he ⟨7,.data⟩ (by simp) rfl))
   exact oq_ex0 e13 ⟨_,rfl,z0,Below.refl _ _,hM⟩
  ·obtain rfl:=Option.some.inj (show zWj[9]?=some o from ho)
   obtain ⟨x0,x1,e13,z0,z1⟩:∃ x0 x1,slot a 13=.tuple #[x0,x1]/\NT 900 A x0 w/\NT 900 B x1 w:=(hv 7 (by decide) rfl (he ⟨7,.data⟩ (by simp) rfl))
   exact oq_ex1 e13 ⟨_,rfl,z1,Below.refl _ _,hM⟩
 ·intro L a w hL hM hsz hdf hF hv
  have z0:NT 900 A (slot a 14) w:=hv 8 (by decide) rfl
  have z1:NT 900 B (slot a 15) w:=hv 9 (by decide) rfl
  refine BigFrame.wpList_want rfl fun K hK=>zXv rfl (hK _ _ ?_)
  clear K hK
  have e15:slot (a.put (some 4) (slot a 14)) 15=slot a 15:=by rw [zJb (by decide)]
  refine BigFrame.wpList_want rfl fun K hK=>zXv e15 (hK _ _ ?_)
  clear K hK
  refine hQ _ _ _ _ ?_ (zSe (by simp [Act.put];omega)) z0 z1 (by simp [Act.put,hsz]) hdf hM
  rw [zJb (by decide)]
  exact zSe (by omega)
end
section
attribute [local irreducible] W4 Nz Nt NT NV
theorem zO0 (c:Int)(s g:Bool)(x:Int)(k:Nat)(w:World)(hk:k<2^256)(hx:-16990<=x/\x<=16990) :
  Calls Tryz.prog 29 #[DV c s g x k,.int .u64 2] w fun r w'=>∃ a b,r=.returned (.tuple #[a,b])/\NT 900 (k*2^x.toNat) a w'/\NT 900 (2^(-x).toNat) b w'/\Below w.heap.size w w':=by
 have hbk:bl k<=256:=bl_le.2 hk
 have c26:=fun W=>rnat_v k W hk
 have c30:∀ W v v',NT 4 k v W->NT 1 1 v' W->Calls Tryz.prog 65 #[v,v',.int .u64 2,.int .i64 x] W fun e w'=>∃ u,e=.returned u/\(∃ a b,u=.tuple #[a,b]/\NT 900 (k*2^x.toNat) a w'/\NT 900 (2^(-x).toNat) b w')/\Below W.heap.size W w':=fun W v v' h1 h2 =>
  (zN6 x (by omega) (h1.more (by decide)) (h2.more (by decide)) (by omega) (by decide)).mono fun e w' ⟨a,b,e1,e2,e3,e4⟩=>⟨_,e1,⟨a,b,rfl,e2,by rw [Nat.one_mul] at e3;exact e3⟩,e4⟩
 have hb0:=zBa w (.cells #[.int .i64 c,.bool s,.bool g,.int .i64 x,.int .u64 (W4 k 0),.int .u64 (W4 k 1),.int .u64 (W4 k 2),.int .u64 (W4 k 3)] 32)
 unfold DV
 go_enter Tryz.func29,Tryz.ntmps29
 go_wp2
 refine regV1 (h4:=w.heap.size) (k:=k) (x:=x) (A:=k*2^x.toNat) (B:=2^(-x).toNat) rfl rfl rfl (by simp) (by go_simp) (by go_simp) (by go_simp) (by go_simp) (by go_simp) c26 c30 ?_
 intro a w1 x0 x1 u4 u5 z0 z1 hsz hdf hb1
 go_wp2
 refine bodyPost_ret (v:=.tuple #[x0,x1]) ?_ hdf ⟨x0,x1,rfl,z0,z1,bnx hb0 hb1⟩
 unfold slot at u4 u5
 rw [Array.getElem?_eq_getElem (by omega)] at u4 u5
 simp only [results,Tryz.results29]
 go_simp
end
theorem dV_ge {l:List UInt8}(hd:l.all dg=true)(h0:by_ l 0≠48)(hl:l≠[]):10^(l.length-1)<=dV l:=by
 cases l with
 | nil=>exact absurd rfl hl
 | cons c r =>
  have hr:r.all dg=true:=by rw [List.all_cons] at hd;simp at hd;simpa using hd.2
  have hc:dg c=true:=by rw [List.all_cons] at hd;simp at hd;exact hd.1
  unfold dg at hc
  have hc':=of_decide_eq_true hc
  rw [zMg] at h0
  have h:=zXq (s:=B (c::r)) (u:=B r) 1 (B r).size (fun i hi=>by rw [zRs,zRs,Nat.add_comm,zBq])
  have hs:(B (c::r)).size=1+(B r).size:=by rw [zGa,zGa,List.length_cons];omega
  have h1:numV (B (c::r)) 1=(c.toNat:Int)-48:=by
   have:numV (B (c::r)) 1=numV (B (c::r)) 0*10+(sb (B (c::r)) 0-48):=rfl
   rw [this,zRs,zMg]
   have:numV (B (c::r)) 0=0:=rfl
   omega
  have hb:=(zOp _ (dig_B hr)).1
  have e:=(zR9 hd).2
  rw [hs,h,h1] at e
  rw [zGa] at e hb
  have hp:((10:Int)^r.length)=((10^r.length:Nat):Int):=by simp
  rw [hp] at e
  show 10^(r.length+1-1)<=_
  rw [Nat.add_sub_cancel]
  have hm:1*((10^r.length:Nat):Int)<=((c.toNat:Int)-48)*((10^r.length:Nat):Int):=Int.mul_le_mul_of_nonneg_right (by omega) (Int.natCast_nonneg _)
  omega
theorem zC5:dV []=0:=rfl
theorem zG0 {c:Int}{s g:Bool}{d:List UInt8}{e:Int}(he:-9223372036854775808<=e/\e<=9223372036854775807):(zOh c s g d e).length<=d.length+100:=by
 have hi:=Lib.itoa_length_le e he.1 he.2
 have h1:(zX9 c g d e).length<=d.length+50:=by
  unfold zX9
  split
  ·simp
  ·split
   ·unfold zOm
    simp only [List.length_append,List.length_cons]
    split<;>split<;>simp<;>omega
   ·unfold zPt dgT exT
    simp only [List.length_append]
    split<;>split<;>simp<;>omega
 unfold zOh
 rw [List.length_append]
 split<;>simp<;>omega
def Prt.at (p:Prt)(s:Bool):Prt:=⟨p.cls,s,p.sn,p.dig,p.ex⟩
/-! Make by value -/
/-! Read by value -/
theorem zUr {V:Int}{L:Nat}(h0:0<V)(h:V<10^L):zZ0 V (sizeL (dgt V) L)=zFy V L:=by
 unfold zFy zZ0
 rw [if_neg]
 intro e
 have:=zXl (Int.le_of_lt h0) L h
 rw [e] at this;simp at this;omega
theorem zM6 {l:List Int}(hl:∀ v ∈ l,48<=v/\v<=57){i:Nat}(hi:i<l.length):sb (strOfNums l) i=l[i]:=by
 unfold sb
 rw [dif_pos (by rw [strOfNums_size];exact hi)]
 have h:=hl l[i] (List.getElem_mem hi)
 have e:(strOfNums l)[i]'(by rw [strOfNums_size];exact hi)=UInt8.ofNat l[i].toNat:=by
  show (strOfNums l).data[i]'_=_
  simp [strOfNums]
 rw [e]
 simp
 omega
theorem zWq {V:Int}{K:Nat}{u:ByteArray}(hu:∀ i,i<K->sb u i=48+dgt V (K-1-i))(h0:0<=V)(hV:V<10^K):∀ j,j<=K->numV u j=V/10^(K-j)
 | 0,_=>by rw [Nat.sub_zero,Int.ediv_eq_zero_of_lt h0 hV];rfl
 | j+1,h=>by
  have ih:=zWq hu h0 hV j (by omega)
  simp only [numV]
  rw [ih,hu j (by omega)]
  have e1:K-j=(K-(j+1))+1:=by omega
  have e2:K-1-j=K-(j+1):=by omega
  rw [e1,e2]
  unfold dgt
  rw [← zNj]
  generalize V/10^(K-(j+1))=W
  omega
def dcD (V:Int)(L:Nat):List UInt8:=(strOfNums (zZ0 V (sizeL (dgt V) L))).data.toList
theorem zHo {V:Int}{L:Nat}(h0:0<V)(h:V<10^L):gdD (dcD V L)/\(dV (dcD V L):Int)=V/\(dcD V L).length<=L:=by
 have hK:=zXl (Int.le_of_lt h0) L h
 have hKp:0<sizeL (dgt V) L:=by
  rcases Nat.eq_zero_or_pos (sizeL (dgt V) L) with e|e
  ·rw [e] at hK;simp at hK;omega
  ·exact e
 have hKL:=zCa (dgt V) L
 have htop:=zFc L hKp
 have hB:B (dcD V L)=strOfNums (zZ0 V (sizeL (dgt V) L)):=B_of _
 have hd:∀ v ∈ zZ0 V (sizeL (dgt V) L),48<=v/\v<=57:=by
  intro v hv
  simp [zZ0] at hv
  obtain ⟨i,_,rfl⟩:=hv
  have:=zAy V (sizeL (dgt V) L-1-i)
  omega
 have hrl:(zZ0 V (sizeL (dgt V) L)).length=sizeL (dgt V) L:=by simp [zZ0]
 have hsz:(dcD V L).length=sizeL (dgt V) L:=by
  rw [← zGa,hB,strOfNums_size,hrl]
 have hby:∀ i,i<sizeL (dgt V) L->by_ (dcD V L) i=48+dgt V (sizeL (dgt V) L-1-i):=fun i hi=>by
  rw [← zRs,hB,zM6 hd (by rw [hrl];exact hi)];simp [zZ0]
 have hall:(dcD V L).all dg=true:=(zAz _).2 fun i hi=>by
  rw [hsz] at hi
  rw [hby i hi]
  have:=zAy V (sizeL (dgt V) L-1-i)
  omega
 refine ⟨Or.inr ⟨?_,?_⟩,?_,by omega⟩
 ·unfold isd
  rw [hall]
  have:dcD V L≠[]:=fun e=>by rw [e] at hsz;simp at hsz;omega
  simp [this]
 ·rw [hby 0 hKp,Nat.sub_zero]
  intro e
  exact htop (by omega)
 ·rw [(zR9 hall).2,zGa,hsz]
  rw [zWq (K:=sizeL (dgt V) L) (fun i hi=>by rw [zRs];exact hby i hi) (Int.le_of_lt h0) hK _ (Nat.le_refl _)]
  simp
section
theorem NT.head {K V:Nat}{v:Value}{w:World}(h:NT K V v w)(hV:V≠0):∃ g k cap z0,v=.slice (some ⟨g,0,none⟩) k cap/\0<k/\k<=K/\g<w.heap.size/\w.cell? ⟨g,0,none⟩=some (.int .u64 z0)/\0<=z0/\z0<=18446744073709551615/\z0%2=((V%2:Nat):Int):=by
 have hz:=h.zero
 obtain ⟨g,k,cap,z,rfl,hk,⟨n1,n2,n3,n4,n5⟩,hv,hs⟩:=h
 obtain ⟨g',k',cap',e,_,hz'⟩:=hz
 cases e
 have hk0:k≠0:=fun e=>hV (hz'.1 e)
 rcases n5 with ⟨n5,_⟩|⟨b,off,e,hb,hc⟩
 ·cases n5
 ·cases e
  have hc0:=hc 0 (by omega)
  have hw:=n3 0
  have hp:=zDu (by omega:0<k) hv
  exact ⟨g,k,cap,z 0,rfl,by omega,hk,hb,hc0,hw.1,hw.2,by omega⟩
attribute [local irreducible] W4 Nz Nt NT NV
end
section
def sgL (s:Bool):List UInt8:=if s then [45] else []
attribute [local irreducible] W4
end
section
def dcL (k:Nat):List UInt8:=if k=0 then [] else dcD (k:Int) 660
theorem k660 {k:Nat}(hk:k<2^256):(k:Int)<10^660:=by
 have h:(2:Nat)^256<=10^100:=by decide
 have h2:(10:Int)^100<=10^660:=by decide +kernel
 have h3:((10^100:Nat):Int)=(10:Int)^100:=by decide
 omega
theorem zGh {k:Nat}(hk:k<2^256):gdD (dcL k)/\dV (dcL k)=k/\(dcL k).length<=660:=by
 unfold dcL
 by_cases h:k=0
 ·rw [if_pos h];exact ⟨Or.inl rfl,by rw [h,zC5],by decide⟩
 ·rw [if_neg h]
  obtain ⟨h1,h2,h3⟩:=zHo (V:=(k:Int)) (L:=660) (by omega) (k660 hk)
  exact ⟨h1,by omega,h3⟩
theorem zE4 {K k:Nat}{v:Value}{w:World}(hK:K<=1000)(hk:k<2^256)(hk0:k≠0)(h:Nt K k v w):CB 48 #[v] w (.tuple #[.string (B (dcL k)),.int .i64 0]):=by
 obtain ⟨a,n,c,z,rfl,hn,hN,hz⟩:=h
 have hle:=zCa z n
 refine (zJg a n c z w (by omega) hN (by omega)).mono fun r w' ⟨L,hL,he,hB⟩=>⟨?_,hB⟩
 rw [he,hz] at *
 have h0:(0:Int)<k:=by omega
 have h660:=k660 hk
 rw [zOj (Int.le_of_lt h0) hL h660,← zUr h0 h660]
 unfold dcL
 rw [if_neg hk0]
 unfold dcD
 rw [B_of]
attribute [local irreducible] W4 Nt
end
theorem zM4 (e:Int)(h:-1000000000<=e/\e<=1000000000):exB (101::Lib.itoa e)=true/\exI (101::Lib.itoa e)=e/\Lib.hasPrefix (101::Lib.itoa e) [46]=false/\dgs (101::Lib.itoa e)=[]/\rst (101::Lib.itoa e)=101::Lib.itoa e:=by
 by_cases h0:e=0
 ·subst h0
  have e0:Lib.itoa 0=[48]:=by kernel_rfl
  rw [e0]
  exact ⟨by decide,by decide,by decide,by decide,by decide⟩
 ·have:=zJx e h
  unfold exT at this
  rw [if_neg h0] at this
  exact this
theorem zIm {e:Int}(h:-1000000000<=e/\e<=1000000000):zGg e=e:=by unfold zGg;omega
theorem un_cut (s:Bool){c:UInt8}{r:List UInt8}{e:Int}(hc:dg c=true)(hc0:(c.toNat:Int)≠48)(hr:r.all dg=true)(hl:r.length<=3950)(he:-100000<=e/\e<=100000) :
  zVr (sgL s++unT (c::r) e)=some ⟨1,s,false,c::r,e-r.length⟩:=by
 have hlen:(unT (c::r) e).length<=r.length+26:=by have:=zHf (D:=c::r) he;rw [List.length_cons] at this;omega
 obtain ⟨x1,x2,x3,x4,x5⟩:=zM4 e (by omega)
 have hcn:=zTr hc
 have hall:[c].all dg=true:=by simp [hc]
 have hbar:bar (c::r)=c::r:=by rw [zLm,if_neg hc0]
 have key:zSk (unT (c::r) e)=true/\finD (unT (c::r) e)=c::r/\finE (unT (c::r) e)=e-r.length/\∃ t,unT (c::r) e=c::t:=by
  cases hr0:r with
  | nil =>
   have hu:unT [c] e=[c]++(101::Lib.itoa e):=rfl
   rw [hu]
   obtain ⟨d1,d2⟩:=zWf (m:=101::Lib.itoa e) hall x4
   have f1:zZn ([c]++101::Lib.itoa e)=[]:=by unfold zZn;rw [d2,x3];rfl
   have f2:zKc ([c]++101::Lib.itoa e)=101::Lib.itoa e:=by unfold zKc;rw [d2,x3];rfl
   refine ⟨?_,?_,?_,_,rfl⟩
   ·unfold zSk;rw [f1,f2,x1,d1];rfl
   ·unfold finD;rw [f1,d1]
    rw [hr0] at hbar
    exact hbar
   ·unfold finE;rw [f1,f2,x2]
    exact zIm (by simp;omega)
  | cons a t =>
   rw [← hr0]
   have hu:unT (c::r) e=[c]++46::(r++(101::Lib.itoa e)):=by
    unfold unT
    rw [hr0]
    simp
   rw [hu]
   obtain ⟨d1,d2⟩:=zWf (m:=46::(r++(101::Lib.itoa e))) hall rfl
   obtain ⟨d3,d4⟩:=zWf (m:=101::Lib.itoa e) hr x4
   have e1:Lib.hasPrefix (46::(r++(101::Lib.itoa e))) [46]=true:=rfl
   have e2:Lib.trimPrefix (46::(r++(101::Lib.itoa e))) [46]=r++(101::Lib.itoa e):=rfl
   have f1:zZn ([c]++46::(r++(101::Lib.itoa e)))=r:=by unfold zZn;rw [d2,e1,e2,d3];rfl
   have f2:zKc ([c]++46::(r++(101::Lib.itoa e)))=101::Lib.itoa e:=by unfold zKc;rw [d2,e1,e2,d4];rfl
   refine ⟨?_,?_,?_,_,rfl⟩
   ·unfold zSk;rw [f1,f2,x1,d1];rfl
   ·unfold finD;rw [f1,d1]
    exact hbar
   ·unfold finE;rw [f1,f2,x2]
    exact zIm (by omega)
 obtain ⟨k1,k2,k3,t,k4⟩:=key
 unfold zVr
 have hs:(sgL s++unT (c::r) e).length<=4000:=by
  rw [List.length_append]
  have:(sgL s).length<=1:=by cases s<;>decide
  omega
 rw [if_neg (by omega)]
 have hsg:gsgB (sgL s++unT (c::r) e)=s/\sgR (sgL s++unT (c::r) e)=unT (c::r) e:=by
  rw [k4]
  exact zYi s c t ⟨by omega,by omega⟩
 rw [hsg.1,hsg.2]
 unfold zE5
 rw [if_pos k1,k2,k3]
end Go.Proofs.YtahfkpjhlbiamaaGreatDoor

namespace Go.Proofs.YtahfkpjhlbiamaaGreatDoor
theorem zJ9 (s:Bool){D:List UInt8}{e ex:Int}(hg:gdD D)(h0:D≠[])(hl:D.length<=3950)(he:-50000<=ex/\ex<=50000)(hE:e=ex+D.length-1) :
  zVr (sgL s++unT D e)=some ⟨1,s,false,D,ex⟩:=by
 cases D with
 | nil=>exact absurd rfl h0
 | cons c r =>
  have ha:=zJj hg
  rw [List.all_cons,Bool.and_eq_true] at ha
  have hc0:(c.toNat:Int)≠48:=by
   rcases hg with h|⟨_,h⟩
   ·cases h
   ·rw [zMg] at h;exact h
  rw [List.length_cons] at hl hE
  have:=un_cut s (e:=e) ha.1 hc0 ha.2 (by omega) (by omega)
  rw [this,hE]
  congr 2
  omega
end Go.Proofs.YtahfkpjhlbiamaaGreatDoor

namespace Go.Proofs.YtahfkpjhlbiamaaGreatDoor
open Go.RowKit
def dcW (X:Nat):List UInt8:=if X=0 then [] else dcD X (bl X)
theorem zGo (X:Nat):gdD (dcW X)/\dV (dcW X)=X:=by
 unfold dcW
 by_cases h0:X=0
 ·rw [if_pos h0]
  exact ⟨Or.inl rfl,h0▸rfl⟩
 ·rw [if_neg h0]
  have hX:(0:Int)<X:=by omega
  have hL:(X:Int)<10^bl X:=by
   have h1:=(zZ9 h0).2.1
   have h2:=Nat.pow_le_pow_left (show 2<=10 by decide) (bl X)
   have h3:X<10^bl X:=by omega
   exact_mod_cast h3
  obtain ⟨d1,d2,d3⟩:=zHo hX hL
  exact ⟨d1,by omega⟩
theorem dcW_ne {X:Nat}(h:X≠0):dcW X≠[]:=fun e=>h (by rw [← (zGo X).2,e];rfl)
theorem ten_28 {m q:Nat}(hm:m<=93*q):2^m<=10^(28*q):=by
 have a1:2^m<=2^(93*q):=Nat.pow_le_pow_right (by decide) hm
 have a2:(2:Nat)^(93*q)<=10^(28*q):=by
  rw [Nat.pow_mul,Nat.pow_mul 10]
  exact Nat.pow_le_pow_left (by decide) _
 exact Nat.le_trans a1 a2
theorem zGy {X:Nat}(h0:X≠0):1<=(dcW X).length/\10^((dcW X).length-1)<=X/\X<10^(dcW X).length:=by
 obtain ⟨d1,d2⟩:=zGo X
 have hne:=dcW_ne h0
 have hlt:=(zR9 (zJj d1)).1
 rcases d1 with h|⟨h,hh⟩
 ·exact absurd h hne
 have hge:=dV_ge (zRp h) hh hne
 rw [d2] at hlt hge
 refine ⟨?_,hge,hlt⟩
 rcases Nat.eq_zero_or_pos (dcW X).length with h|h
 ·exact absurd (List.eq_nil_of_length_eq_zero h) hne
 ·exact h
theorem zFm {X:Nat}(h0:X≠0)(hb:bl X<=39785):(dcW X).length<=11984:=by
 obtain ⟨h1,h2,h3⟩:=zGy h0
 have h4:X<2^bl X:=bl_le.1 (Nat.le_refl _)
 obtain ⟨q,hq⟩:∃ q:Nat,q=428:=⟨_,rfl⟩
 have h5:=ten_28 (m:=bl X) (q:=q) (by omega)
 have h6:10^((dcW X).length-1)<10^(28*q):=Nat.lt_of_le_of_lt h2 (Nat.lt_of_lt_of_le h4 h5)
 have:=(Nat.pow_lt_pow_iff_right (by decide:1<10)).1 h6
 omega
theorem zP7 {K X:Nat}{v:Value}{w:World}(hK:K<100000)(hX:bl X<=128000)(h0:X≠0)(h:Nt K X v w):CB 48 #[v] w (.tuple #[.string (B (dcW X)),.int .i64 0]):=by
 obtain ⟨a,n,c,z,rfl,hn,hN,hv⟩:=h
 have hs:sizeL z n<=2000:=(zZd hN.2.2.1 hv).2 hX
 unfold dcW
 rw [if_neg h0]
 have hX0:(0:Int)<X:=by omega
 have hL:(X:Int)<10^bl X:=by
  have h1:=(zZ9 h0).2.1
  have h2:=Nat.pow_le_pow_left (show 2<=10 by decide) (bl X)
  have h3:X<10^bl X:=by omega
  exact_mod_cast h3
 refine (zJg a n c z w (by omega) hN hs).mono fun r w' ⟨L,hL',he,hB⟩=>⟨?_,hB⟩
 rw [hv] at hL' he
 rw [he,zOj (Int.le_of_lt hX0) hL' hL,← zUr hX0 hL]
 show _=Ending.returned (.tuple #[.string (B (dcD X (bl X))),.int .i64 0])
 unfold dcD
 rw [B_of]
end Go.Proofs.YtahfkpjhlbiamaaGreatDoor
