/-
  Texts that the proof leans on.
-/
import Derived.Test.YtjfeaiaafbaobaaGreatDoorL1
import Derived.Test.YtjfeaiaafbaobaaGreatDoorL17
import Derived.Test.YtjfeaiaafbaobaaGreatDoorL3
import Derived.Test.YtjfeaiaafbaobaaGreatDoorL6
set_option linter.unusedVariables false
set_option linter.unusedSectionVars false
set_option linter.unusedSimpArgs false
set_option maxRecDepth 20000
namespace Go.Proofs.YtjfeaiaafbaobaaGreatDoor
open Go.RowKit
theorem finite_v (n:Int)(nm:ByteArray)(wd:Int)(f e:Nat)(l m:Int)(s:Bool)(x fl:Int){K C:Nat}{v:Value}{w:World}(hT:Tab w)(h:Nz K C v w)(hC:C<2^256) :
  CB 111 #[DI n nm wd f e l m,.bool s,v,.int .i64 x,.int .i64 fl] w (.tuple #[A4 (pkV n ⟨1,s,false,x,C⟩),.int .i64 fl,.int .i64 (pkE n ⟨1,s,false,x,C⟩)]):=by
 obtain ⟨a,k,cap,z,rfl,hk,hN,hv,hs⟩:=h
 have hk4:k<=4:=by
  have:=(size_bl (m:=4) hN.2.2.1 hv).2 (bl_le.2 hC)
  omega
 have hv4:val z 4=(C:Int):=by rw [val_more hN.2.2.2.1 4 hk4,hv]
 have hz:∀ i,i<4->z i=W4 C i:=val_inj hN.2.2.1 (W4_words C) 4 (by rw [hv4,W4_val4 hC])
 have c56:=fun W hT=>pack_any n ⟨1,s,false,x,C⟩ W hT hC
 have ed:(Dat.mk 1 s false x C).v=.agg #[.int .i64 1,.bool s,.bool false,.int .i64 x,.int .u64 (z 0),.int .u64 (z 1),.int .u64 (z 2),.int .u64 (z 3)]:=by
  unfold Dat.v DV
  rw [hz 0 (by decide),hz 1 (by decide),hz 2 (by decide),hz 3 (by decide)]
 rw [ed] at c56
 have z0:=hN.2.2.2.1
 generalize pkV n ⟨1,s,false,x,C⟩=R at *
 generalize pkE n ⟨1,s,false,x,C⟩=E at *
 obtain ⟨n1,n2,n3,n4,n5⟩:=hN
 rcases n5 with ⟨rfl,rfl⟩|⟨b,off,rfl,hb,hc⟩
 ·obtain rfl:k=0:=by omega
  rw [z0 0 (by omega),z0 1 (by omega),z0 2 (by omega),z0 3 (by omega)] at c56
  exact fin_n n nm wd f e l m s x fl E R w hT c56
 ·have:k=0∨k=1∨k=2∨k=3∨k=4:=by omega
  rcases this with rfl|rfl|rfl|rfl|rfl
  ·rw [z0 0 (by omega),z0 1 (by omega),z0 2 (by omega),z0 3 (by omega)] at c56
   exact fin_0 n nm wd f e l m s x fl E R w hT b off cap hb c56
  ·rw [z0 1 (by omega),z0 2 (by omega),z0 3 (by omega)] at c56
   exact fin_1 n nm wd f e l m s x fl E R z w hT b off cap hb (hc 0 (by decide)) c56
  ·rw [z0 2 (by omega),z0 3 (by omega)] at c56
   exact fin_2 n nm wd f e l m s x fl E R z w hT b off cap hb (hc 0 (by decide)) (hc 1 (by decide)) c56
  ·rw [z0 3 (by omega)] at c56
   exact fin_3 n nm wd f e l m s x fl E R z w hT b off cap hb (hc 0 (by decide)) (hc 1 (by decide)) (hc 2 (by decide)) c56
  ·exact fin_4 n nm wd f e l m s x fl E R z w hT b off cap hb (hc 0 (by decide)) (hc 1 (by decide)) (hc 2 (by decide)) (hc 3 (by decide)) c56
section
theorem NT.stays (K V:Nat):Stays (NT K V):=fun v w w' h hb=>h.next hb
section
variable {a:Act}{w:World}{K:Act->World->Prop}{Q:Exit->Act->World->Prop}{d p q r:Nat}{ty:TypeId}{pos:String}{after:Array Edge}{gd:Option (Nat×Bool)}
end
end
section
theorem puts_slot (a:Act):∀ (D:List Nat) (b:Act),(D.foldl (fun b d=>b.put (some d) (slot a d)) b).tmps.size=b.tmps.size/\(D.foldl (fun b d=>b.put (some d) (slot a d)) b).defers=b.defers/\∀ t,t<b.tmps.size->slot (D.foldl (fun b d=>b.put (some d) (slot a d)) b) t=if t ∈ D then slot a t else slot b t
 | [],b=>⟨rfl,rfl,fun t ht=>by simp⟩
 | d::D,b=>by
  obtain ⟨h1,h2,h3⟩:=puts_slot a D (b.put (some d) (slot a d))
  have hs:(b.put (some d) (slot a d)).tmps.size=b.tmps.size:=by simp [Act.put]
  refine ⟨h1.trans hs,h2,fun t ht=>?_⟩
  rw [List.foldl_cons,h3 t (by rw [hs];exact ht)]
  by_cases hD:t ∈ D
  ·rw [if_pos hD,if_pos (List.mem_cons_of_mem _ hD)]
  ·rw [if_neg hD]
   by_cases hd:t=d
   ·subst hd
    rw [if_pos List.mem_cons_self,slot_put ht]
   ·rw [if_neg (by simp [hd,hD]),slot_put_ne (fun h=>hd h.symm)]
theorem act_of {a a0:Act}(D:List Nat)(n:Nat)(hn:D.length=n)(hsz:a.tmps.size=a0.tmps.size)(hdf:a.defers=a0.defers)(hF:∀ t,(∀ i,i<n->D.getD i 0≠t)->slot a t=slot a0 t) :
  a=D.foldl (fun b d=>b.put (some d) (slot a d)) a0:=by
 obtain ⟨h1,h2,h3⟩:=puts_slot a D a0
 generalize D.foldl (fun b d=>b.put (some d) (slot a d)) a0=b at *
 have key:∀ t,t<a0.tmps.size->slot a t=slot b t:=fun t ht=>by
  rw [h3 t ht]
  by_cases hD:t ∈ D
  ·rw [if_pos hD]
  ·rw [if_neg hD]
   refine hF t fun i hi e=>hD ?_
   rw [← e,List.getD_eq_getElem?_getD,List.getElem?_eq_getElem (by omega)]
   exact List.getElem_mem _
 have ht:a.tmps=b.tmps:=by
  apply Array.ext (by omega)
  intro i h4 h5
  have:=key i (by omega)
  unfold slot at this
  rw [Array.getElem?_eq_getElem h4,Array.getElem?_eq_getElem h5] at this
  exact this
 cases a;cases b
 simp only at ht hdf h2 ⊢
 rw [ht,hdf,h2]
attribute [local irreducible] W4 NT NV
end
section
def findR (n:Nat):Code->Option (List Oper)
 | .region i o _=>if i=n then some o.toList else none
 | .seq a b=>match findR n a with|some l=>some l|none=>findR n b
 | .cond _ a b=>match findR n a with|some l=>some l|none=>findR n b
 | .block _ c=>findR n c
 | .loop c=>findR n c
 | _=>none
abbrev iW (v:Value):Value->World->Prop:=fun x _=>x=v
section
variable {P:Program}{a:Act}{w:World}{K:Act->World->Prop}{Q:Exit->Act->World->Prop}{d p q:Nat}{ty:TypeId}{pos:String}{after:Array Edge}{gd:Option (Nat×Bool)}
theorem og_mv {v:Value}(h1:slot a p=v)(hK:K (a.put (some d) v) w):Oper.wp P { dst:=some d,op:=Op.move (Operand.tmp p),type:=ty,pos:=pos,after:=after,guard:=gd } a w K Q:=by
 unfold slot at h1
 simp [go_sem,h1]
 exact hK
theorem og_as {v:Value}(h1:slot a p=v)(hK:K (a.put (some d) v) w):Oper.wp P { dst:=some d,op:=Op.assign (Operand.tmp p),type:=ty,pos:=pos,after:=after,guard:=gd } a w K Q:=by
 unfold slot at h1
 simp [go_sem,h1]
 exact hK
theorem og_ld3 {g i:Nat}{v:Value}(h1:slot a p=.pointer (some ⟨g,i,none⟩))(h2:w.cell? ⟨g,i,none⟩=some v)(hK:K (a.put (some d) v) w):Oper.wp Tryz.prog { dst:=some d,op:=Op.load 3 (Operand.tmp p),type:=ty,pos:=pos,after:=after,guard:=gd } a w K Q:=by
 unfold slot at h1
 simp [go_sem,h1,h2]
 exact hK
theorem og_pow {p1:Nat}{u0 u1:Value}{ts:Array TypeId}(h1:slot a p1=u1)(hc:Calls Tryz.prog 17 #[u0,u1] w fun e w'=>∃ v,e=.returned v/\K (a.put (some d) v) w'):Oper.wp Tryz.prog { dst:=some d,op:=Op.call { callee:=Callee.value (Operand.func 17),args:=#[Operand.const u0,Operand.tmp p1],argTypes:=ts },type:=ty,pos:=pos,after:=after,guard:=gd } a w K Q:=by
 unfold slot at h1
 simp [go_sem,h1]
 refine hc.mono ?_
 rintro e w' ⟨v,rfl,hK⟩
 exact hK
theorem og_slB {g:Nat}(h1:slot a p=.pointer (some ⟨g,0,none⟩))(hK:K (a.put (some d) (.slice (some ⟨g,0,none⟩) 4 4)) w):Oper.wp Tryz.prog { dst:=some d,op:=Op.slice 24 (Operand.tmp p) none none none,type:=ty,pos:=pos,after:=after,guard:=gd } a w K Q:=by
 unfold slot at h1
 simp [go_sem,h1]
 exact hK
end
end
section
section
variable {a:Act}{w:World}{K:Act->World->Prop}{Q:Exit->Act->World->Prop}{d p:Nat}{ty:TypeId}{pos:String}{after:Array Edge}{gd:Option (Nat×Bool)}
theorem og_c1 {F:Nat}{p0:Nat}{u0:Value}{ts:Array TypeId}(hr:Sem.run Tryz.prog (callFunc F #[u0]) w=.ok (.enter F #[u0]) w)(h0:slot a p0=u0)(hc:Calls Tryz.prog F #[u0] w fun e w'=>∃ v,e=.returned v/\K (a.put (some d) v) w'):Oper.wp Tryz.prog { dst:=some d,op:=Op.call { callee:=Callee.value (Operand.func F),args:=#[Operand.tmp p0],argTypes:=ts },type:=ty,pos:=pos,after:=after,guard:=gd } a w K Q:=by
 unfold slot at h0
 simp [go_sem,h0,hr]
 refine hc.mono ?_
 rintro e w' ⟨v,rfl,hK⟩
 exact hK
theorem og_c2 {F:Nat}{p0 p1:Nat}{u0 u1:Value}{ts:Array TypeId}(hr:Sem.run Tryz.prog (callFunc F #[u0,u1]) w=.ok (.enter F #[u0,u1]) w)(h0:slot a p0=u0)(h1:slot a p1=u1)(hc:Calls Tryz.prog F #[u0,u1] w fun e w'=>∃ v,e=.returned v/\K (a.put (some d) v) w'):Oper.wp Tryz.prog { dst:=some d,op:=Op.call { callee:=Callee.value (Operand.func F),args:=#[Operand.tmp p0,Operand.tmp p1],argTypes:=ts },type:=ty,pos:=pos,after:=after,guard:=gd } a w K Q:=by
 unfold slot at h0 h1
 simp [go_sem,h0,h1,hr]
 refine hc.mono ?_
 rintro e w' ⟨v,rfl,hK⟩
 exact hK
end
end
end Go.Proofs.YtjfeaiaafbaobaaGreatDoor
