/-
  Texts that the proof leans on.
-/
import Derived.Test.YtjfeaiaafbaobaaGreatDoorJ17
import Derived.Test.YtjfeaiaafbaobaaGreatDoorJ3
import Derived.Test.YtjfeaiaafbaobaaGreatDoorJ1
import Derived.Deep.Cut
import Derived.Deep.CutRange
set_option linter.unusedVariables false
set_option linter.unusedSectionVars false
set_option linter.unusedSimpArgs false
set_option maxHeartbeats 8000000
set_option maxRecDepth 20000
namespace Go.Proofs.YtjfeaiaafbaobaaGreatDoor
open Go.RowKit
section
theorem NT.stays (K V:Nat):Stays (NT K V):=fun v w w' h hb=>h.next hb
section
variable {a:Act}{w:World}{K:Act->World->Prop}{Q:Exit->Act->World->Prop}{d p q r:Nat}{ty:TypeId}{pos:String}{after:Array Edge}{gd:Option (Nat×Bool)}
end
end
section
theorem puts_slot (a:Act):∀ (D:List Nat) (b:Act),(D.foldl (fun b d=>b.put (some d) (slot a d)) b).tmps.size=b.tmps.size/\(D.foldl (fun b d=>b.put (some d) (slot a d)) b).defers=b.defers/\∀ t,t<b.tmps.size->slot (D.foldl (fun b d=>b.put (some d) (slot a d)) b) t=if t ∈ D then slot a t else slot b t
 | [],b=>⟨rfl,rfl,fun t ht=>by simp⟩
 | d::D,b=>by
  obtain ⟨h1,h2,h3⟩:=puts_slot a D (b.put (some d) (slot a d))
  have hs:(b.put (some d) (slot a d)).tmps.size=b.tmps.size:=by simp [Act.put]
  refine ⟨h1.trans hs,h2,fun t ht=>?_⟩
  rw [List.foldl_cons,h3 t (by rw [hs];exact ht)]
  by_cases hD:t ∈ D
  ·rw [if_pos hD,if_pos (List.mem_cons_of_mem _ hD)]
  ·rw [if_neg hD]
   by_cases hd:t=d
   ·subst hd
    rw [if_pos List.mem_cons_self,slot_put ht]
   ·rw [if_neg (by simp [hd,hD]),slot_put_ne (fun h=>hd h.symm)]
theorem act_of {a a0:Act}(D:List Nat)(n:Nat)(hn:D.length=n)(hsz:a.tmps.size=a0.tmps.size)(hdf:a.defers=a0.defers)(hF:∀ t,(∀ i,i<n->D.getD i 0≠t)->slot a t=slot a0 t) :
  a=D.foldl (fun b d=>b.put (some d) (slot a d)) a0:=by
 obtain ⟨h1,h2,h3⟩:=puts_slot a D a0
 generalize D.foldl (fun b d=>b.put (some d) (slot a d)) a0=b at *
 have key:∀ t,t<a0.tmps.size->slot a t=slot b t:=fun t ht=>by
  rw [h3 t ht]
  by_cases hD:t ∈ D
  ·rw [if_pos hD]
  ·rw [if_neg hD]
   refine hF t fun i hi e=>hD ?_
   rw [← e,List.getD_eq_getElem?_getD,List.getElem?_eq_getElem (by omega)]
   exact List.getElem_mem _
 have ht:a.tmps=b.tmps:=by
  apply Array.ext (by omega)
  intro i h4 h5
  have:=key i (by omega)
  unfold slot at this
  rw [Array.getElem?_eq_getElem h4,Array.getElem?_eq_getElem h5] at this
  exact this
 cases a;cases b
 simp only at ht hdf h2 ⊢
 rw [ht,hdf,h2]
theorem pow_e' {e:Nat}(h15:e<=15):(1:Int)<=2^e/\(2:Int)^e<=32768:=by
 have b:(2:Nat)^e<=2^15:=Nat.pow_le_pow_right (by decide) h15
 have a:1<=2^e:=Nat.one_le_two_pow
 have c:((2:Int)^e)=((2^e:Nat):Int):=by simp
 rw [c];omega
attribute [local irreducible] W4 NT NV
end
section
attribute [local irreducible] W4 NT NV
theorem rpow_nv (f:Nat)(w:World)(hf:f<=12000):CE 17 #[.int .u64 2,.int .i64 f] w (NV 50000 (2^f)):=by
 refine (rpow_any 2 f w (by decide) (by omega)).mono ?_
 rintro x w' ⟨g,k,cap,z,rfl,hk,hN,hv,hb⟩
 refine ⟨_,rfl,?_,hb⟩
 unfold NV
 exact ⟨g,k,cap,z,rfl,by omega,hN,by rw [hv];simp⟩
theorem bin_more {n:Int}(h:binN n):numN n=n/\denseN n=false:=by
 rcases bin_cases h with rfl|rfl|rfl|rfl|rfl|rfl<;>exact ⟨by decide,by decide⟩
end
section
theorem nv_one {W:World}{g V:Nat}{vi:Int}(hg:g=W.heap.size)(hv:vi=(V:Int))(hb:V<18446744073709551616):NV 1 V (.slice (some ⟨g,0,none⟩) 1 1) (W.alloc (.cells #[.int .u64 vi] 22)):=by
 subst hg hv
 exact ⟨_,1,1,oneW V,rfl,Nat.le_refl _,num_one W V (by omega),val_one1 V⟩
theorem four_num {w:World}{g o k:Nat}(h:Four w g o k)(hg:g<w.heap.size):Num w (some ⟨g,o,none⟩) 4 4 (lowW (W4 k) 4):=by
 refine ⟨Nat.le_refl _,by unfold maxLen;omega,lowW_words (W4_words k) 4,fun i hi=>lowW_ge hi,Or.inr ⟨_,_,rfl,hg,fun i hi=>?_⟩⟩
 rw [lowW_lt hi]
 exact h.cell i hi
theorem rleft_off {g o k cap A:Nat}{z:Nat->Int}{w:World}(s:Nat)(hk:k<1000)(hs:s<=600)(hN:Num w (some ⟨g,o,none⟩) k cap z)(hv:val z k=(A:Int)) :
  Calls Tryz.prog 26 #[.slice (some ⟨g,o,none⟩) k cap,.int .i64 s] w fun e w'=>∃ v',e=.returned v'/\NV (k+11) (A*2^s) v' w'/\Below w.heap.size w w':=by
 obtain ⟨q,hq⟩:∃ q:Nat,(s:Int)/64=q:=⟨((s:Int)/64).toNat,by omega⟩
 obtain ⟨r,hr⟩:∃ r:Nat,(s:Int)%64=r:=⟨((s:Int)%64).toNat,by omega⟩
 have hsn:s=64*q+r:=by omega
 have hr6:r<64:=by omega
 have key:∀ (w':World) (g' k' cap':Nat),k'<=k+q+1->Num w' (some ⟨g',0,none⟩) k' cap' (finL z q r)->NV (k+11) (A*2^s) (.slice (some ⟨g',0,none⟩) k' cap') w':=fun w' g' k' cap' hk' hN'=>by
  refine ⟨g',k',cap',_,rfl,by omega,hN',?_⟩
  rw [← val_more hN'.2.2.2.1 (k+q+1) hk',finL_val hN.2.2.1 hN.2.2.2.1 q hr6,hv,hsn]
  simp
 by_cases h0:r=0
 ·subst h0
  refine (left_z g o k cap q s z w (by omega) (by omega) hq (by omega) (by omega) hN).mono ?_
  rintro e w' ⟨g',k',cap',rfl,hk',hN',hb⟩
  exact ⟨_,rfl,key w' g' k' cap' hk' hN',hb⟩
 ·refine (left_p g o k cap q r s z w (by omega) (by omega) hr6 (by omega) hq hr (by omega) hN).mono ?_
  rintro e w' ⟨g',k',cap',rfl,hk',hN',hb⟩
  exact ⟨_,rfl,key w' g' k' cap' hk' hN',hb⟩
theorem lay_off (B A at_ k g o cap:Nat)(z:Nat->Int)(w:World)(hB:B<2^256)(hK:k<900)(ha:at_<=600)(hN:Num w (some ⟨g,o,none⟩) k cap z)(hv:val z k=(A:Int)) :
  CB 40 #[A4 B,.slice (some ⟨g,o,none⟩) k cap,.int .i64 at_] w (A4 (B+A*2^at_)):=by
 have c52:∀ W,Below w.heap.size w W->Calls Tryz.prog 26 #[.slice (some ⟨g,o,none⟩) k cap,.int .i64 at_] W fun e w'=>∃ v',e=.returned v'/\NV (k+11) (A*2^at_) v' w'/\Below W.heap.size W w':=fun W hW=>rleft_off at_ (by omega) ha (hN.next hW) hv
 clear hN
 go_enter Tryz.func40,Tryz.ntmps40
 go_wp2
 go_region_with (first
  | (go_at_call 26;refine (c52 _ bgo).mono ?_;rintro e w1 ⟨v1,rfl,hl,hb1⟩;have hbx:=box_nv (w0:=w) (B:=B) (t:=24) hB (bnext bgo hb1);obtain ⟨_,_,_,_,hA1,_⟩:=wz w hb1;obtain ⟨_,_⟩:=zf hb1 (w.heap.size+1);clear hb1)
  | (go_at_call 27;refine (radd_nv (by decide) (by omega) hbx hl).mono ?_;rintro e w2 ⟨v2,rfl,hs,hb2⟩;obtain ⟨_,_,hz2_0,_,hA2,_⟩:=wz w hb2;obtain ⟨hz2_1,_⟩:=zf hb2 (w.heap.size+1);clear hb2)
  | (go_at_call 15;refine (bits_nv hs).mono ?_;rintro e w3 ⟨rfl,hb3⟩;obtain ⟨_,_,_,_,hA3,_⟩:=wz w hb3;obtain ⟨_,_⟩:=zf hb3 (w.heap.size+1);clear hb3))
 have hsm:=cell_set_map
 go_wp2
 exact bodyPost_ret (v:=A4 (B+A*2^at_)) (by simp only [results,Tryz.results40];go_simp) rfl ⟨rfl,bgo⟩
theorem set_far {g h:Nat}(hne:g≠h)(W:World)(i j:Nat)(v:Value):(W.setCell ⟨g,j,none⟩ v).cell? ⟨h,i,none⟩=W.cell? ⟨h,i,none⟩ :=
 World.cell?_setCell_other (h:=fun q=>hne (congrArg Addr.block q)) ..
theorem zeros4p {w:World}{g:Nat}{v:Value}(h0:w.cell? ⟨g,0,none⟩=some v)(h1:w.cell? ⟨g,1,none⟩=some v)(h2:w.cell? ⟨g,2,none⟩=some v)(h3:w.cell? ⟨g,3,none⟩=some v):∀ i,i<4->w.cell? ⟨g,i,none⟩=some v:=fun i hi=>by
 have:i=0∨i=1∨i=2∨i=3:=by omega
 rcases this with rfl|rfl|rfl|rfl<;>assumption
attribute [local irreducible] W4 NT NV
section
variable (n:Int)(nm:ByteArray)(wd:Int)(f e All R Bs:Nat)(l m:Int)(x:Int)(s g:Bool)(k:Nat)(w:World)(hf:2<=f/\f<=240)(he:e<=15)(hAll:(2:Int)^e-1=(All:Int))
 (c35:∀ w,CQ 12 #[.int .i64 n] w (.bool true))
 (c25:∀ w,CB 14 #[.int .i64 n] w (.tuple #[IV n nm wd f e l m,.int .i64 0]))
 (cS:s=true->∀ W v,NV 1 1 v W->CB 40 #[Z4,v,.int .i64 ((f:Int)+e)] W (A4 Bs))
 (hB0:s=false->∀ i,W4 Bs i=0)
include hf he hAll c35 c25 cS hB0
theorem rpack2
 (c36:∀ w,CB 125 #[IV n nm wd f e l m,DV 2 s g x k] w (.bool true))
 (cA:∀ W v,NV 1 All v W->CB 40 #[A4 Bs,v,.int .i64 f] W (A4 R)) :
  CB 69 #[.int .i64 n,DV 2 s g x k] w (.tuple #[A4 R,.int .i64 0]):=by
 have hp:=pow_e' he
 have hAb:All<18446744073709551616:=by omega
 have hsm:=cell_set_map
 go_enter Tryz.func69,Tryz.ntmps69
 go_upto_if 29 with (first
  | (go_at_call 12;refine (c35 _).mono ?_;rintro r w0 ⟨rfl,rfl⟩)
  | (go_at_call 14;refine (c25 _).mono ?_;rintro x w1 ⟨rfl,hb1⟩;obtain ⟨_,_,_,_,hA1,_⟩:=wz w hb1;obtain ⟨_,_⟩:=zf hb1 (w.heap.size+1);clear hb1)
  | (go_at_call 125;refine (c36 _).mono ?_;rintro x w2 ⟨rfl,hb2⟩;obtain ⟨_,_,hz2_0,_,hA2,_⟩:=wz w hb2;obtain ⟨hz2_1,_⟩:=zf hb2 (w.heap.size+1);obtain ⟨hz2_2,_⟩:=zf hb2 w1.heap.size;clear hb2))
 have hn1:=set_far (Nat.ne_of_gt hz2_2)
 have hn0:=set_far (Nat.ne_of_gt hz2_0)
 have hn2:=set_far (Nat.ne_of_gt hz2_1)
 go_cut [] from 11 (fun wc=>Four wc w2.heap.size 0 Bs/\Four wc w.heap.size 4 k/\(∀ i,i<4->wc.cell? ⟨w.heap.size+1,i,none⟩=some (.int .u64 0))/\(∀ i,wc.frozen? ⟨w.heap.size+1,i,none⟩=false)/\(∀ i,wc.frozen? ⟨w2.heap.size,i,none⟩=false)
   /\ wc.cell? ⟨w.heap.size,0,none⟩=some (.int .i64 2)/\wc.cell? ⟨w.heap.size,2,none⟩=some (.bool g)/\wc.cell? ⟨w.heap.size,3,none⟩=some (.int .i64 x)
   /\ wc.cell? ⟨w1.heap.size,4,none⟩=some (.int .i64 ((f:Int)+1))/\wc.cell? ⟨w1.heap.size,5,none⟩=some (.int .i64 e)/\wc.cell? ⟨w1.heap.size,6,none⟩=some (.int .i64 l)/\Below w.heap.size w wc/\w2.heap.size<wc.heap.size)
 case first =>
  cases s with
  | false =>
   have hB:=hB0 rfl
   clear hB0 cS
   go_wp2
   go_meet
   exact ⟨.of (by rw [hB 0];go_simp) (by rw [hB 1];go_simp) (by rw [hB 2];go_simp) (by rw [hB 3];go_simp),.of (by go_simp) (by go_simp) (by go_simp) (by go_simp),zeros4p (by go_simp) (by go_simp) (by go_simp) (by go_simp),fun i=>by go_simp,fun i=>by go_simp,by go_simp,by go_simp,by go_simp,by go_simp,by go_simp,by go_simp,bgo,by simp;try omega⟩
  | true =>
   have hm0:w.heap.size<w2.heap.size+1+1:=by omega
   have hm1:w1.heap.size<w2.heap.size+1+1:=by omega
   have hm2:w.heap.size<w2.heap.size+2:=by omega
   have hm3:w1.heap.size<w2.heap.size+2:=by omega
   replace cS:=cS rfl
   clear hB0
   go_wp2_with (go_at_call 40;refine (cS _ _ (nv_one (by simp) rfl (by decide))).mono ?_;rintro r w3 ⟨rfl,hb3⟩;obtain ⟨_,_,_,_,hA3,_⟩:=wz w hb3;obtain ⟨_,_⟩:=zf hb3 (w.heap.size+1);obtain ⟨_,_⟩:=zf hb3 w1.heap.size;obtain ⟨_,_⟩:=zf hb3 w2.heap.size;clear hb3)
   go_meet
   exact ⟨.of (by go_simp) (by go_simp) (by go_simp) (by go_simp),.of (by go_simp) (by go_simp) (by go_simp) (by go_simp),zeros4p (by go_simp) (by go_simp) (by go_simp) (by go_simp),fun i=>by go_simp,fun i=>by go_simp,by go_simp,by go_simp,by go_simp,by go_simp,by go_simp,by go_simp,bgo,by simp;try omega⟩
 case rest =>
  clear cS hB0
  have hcut0:=hcut
  obtain ⟨fB,fK,fz,fr4,fr9,d0,d2,d3,i4,i5,i6,hbw,hsz⟩:=hcut
  have hl0:w.heap.size<wc.heap.size:=by omega
  have hl1:w.heap.size+1<wc.heap.size:=by omega
  have hl2:w1.heap.size<wc.heap.size:=by omega
  have hle0:=Nat.le_of_lt hl0
  have hle1:=Nat.le_of_lt hl1
  have hle2:=Nat.le_of_lt hl2
  have hle3:=Nat.le_of_lt hsz
  have b0:=fB.cell 0 (by decide)
  have b1:=fB.cell 1 (by decide)
  have b2:=fB.cell 2 (by decide)
  have b3:=fB.cell 3 (by decide)
  have z0:=fz 0 (by decide)
  have z1:=fz 1 (by decide)
  have z2:=fz 2 (by decide)
  have z3:=fz 3 (by decide)
  have q0:=fK.cell 0 (by decide)
  have q1:=fK.cell 1 (by decide)
  have q2:=fK.cell 2 (by decide)
  have q3:=fK.cell 3 (by decide)
  simp only [Nat.zero_add,Nat.add_zero] at b0 b1 b2 b3
  simp only [Nat.reduceAdd] at q0 q1 q2 q3
  have hNk:=four_num fK hl0
  go_wp2_with (go_at_call 40;refine (cA _ _ (nv_one (by simp) (by first|rfl|exact hAll) hAb)).mono ?_;rintro r w4 ⟨rfl,hb4⟩;obtain ⟨_,_,_,_,hA4,_⟩:=wz w hb4;obtain ⟨_,_⟩:=zf hb4 (w.heap.size+1);obtain ⟨_,_⟩:=zf hb4 w1.heap.size;obtain ⟨_,_⟩:=zf hb4 w2.heap.size;clear hb4)
  exact bodyPost_ret (v:=.tuple #[A4 R,.int .i64 0]) (by simp only [results,Tryz.results69];go_simp) rfl ⟨rfl,bgo⟩
end
end
section
def findR (n:Nat):Code->Option (List Oper)
 | .region i o _=>if i=n then some o.toList else none
 | .seq a b=>match findR n a with|some l=>some l|none=>findR n b
 | .cond _ a b=>match findR n a with|some l=>some l|none=>findR n b
 | .block _ c=>findR n c
 | .loop c=>findR n c
 | _=>none
abbrev iW (v:Value):Value->World->Prop:=fun x _=>x=v
section
variable {P:Program}{a:Act}{w:World}{K:Act->World->Prop}{Q:Exit->Act->World->Prop}{d p q:Nat}{ty:TypeId}{pos:String}{after:Array Edge}{gd:Option (Nat×Bool)}
theorem og_mv {v:Value}(h1:slot a p=v)(hK:K (a.put (some d) v) w):Oper.wp P { dst:=some d,op:=Op.move (Operand.tmp p),type:=ty,pos:=pos,after:=after,guard:=gd } a w K Q:=by
 unfold slot at h1
 simp [go_sem,h1]
 exact hK
theorem og_as {v:Value}(h1:slot a p=v)(hK:K (a.put (some d) v) w):Oper.wp P { dst:=some d,op:=Op.assign (Operand.tmp p),type:=ty,pos:=pos,after:=after,guard:=gd } a w K Q:=by
 unfold slot at h1
 simp [go_sem,h1]
 exact hK
theorem og_ld3 {g i:Nat}{v:Value}(h1:slot a p=.pointer (some ⟨g,i,none⟩))(h2:w.cell? ⟨g,i,none⟩=some v)(hK:K (a.put (some d) v) w):Oper.wp Tryz.prog { dst:=some d,op:=Op.load 3 (Operand.tmp p),type:=ty,pos:=pos,after:=after,guard:=gd } a w K Q:=by
 unfold slot at h1
 simp [go_sem,h1,h2]
 exact hK
theorem og_pow {p1:Nat}{u0 u1:Value}{ts:Array TypeId}(h1:slot a p1=u1)(hc:Calls Tryz.prog 17 #[u0,u1] w fun e w'=>∃ v,e=.returned v/\K (a.put (some d) v) w'):Oper.wp Tryz.prog { dst:=some d,op:=Op.call { callee:=Callee.value (Operand.func 17),args:=#[Operand.const u0,Operand.tmp p1],argTypes:=ts },type:=ty,pos:=pos,after:=after,guard:=gd } a w K Q:=by
 unfold slot at h1
 simp [go_sem,h1]
 refine hc.mono ?_
 rintro e w' ⟨v,rfl,hK⟩
 exact hK
theorem eqB_run {X Y:Nat}(hX:X<2^256)(hY:Y<2^256)(w:World):Sem.run Tryz.prog (Op.equalIn 10000 24 (A4 X) (A4 Y)) w=.ok (decide (X=Y)) w:=by
 have:=eq24 (W4 X 0) (W4 X 1) (W4 X 2) (W4 X 3) (W4 Y 0) (W4 Y 1) (W4 Y 2) (W4 Y 3) w
 rw [show decide (W4 X 0=W4 Y 0/\W4 X 1=W4 Y 1/\W4 X 2=W4 Y 2/\W4 X 3=W4 Y 3)=decide (X=Y) from ?_] at this
 ·exact this
 ·by_cases h:X=Y
  ·subst h
   rw [decide_eq_true ⟨rfl,rfl,rfl,rfl⟩,decide_eq_true rfl]
  ·rw [decide_eq_false h,decide_eq_false]
   rintro ⟨h0,h1,h2,h3⟩
   refine h (A4_inj hX hY fun i hi=>?_)
   have:i=0∨i=1∨i=2∨i=3:=by omega
   rcases this with rfl|rfl|rfl|rfl
   ·exact h0
   ·exact h1
   ·exact h2
   ·exact h3
theorem og_eqB {X Y:Nat}{b:Bool}(hX:X<2^256)(hY:Y<2^256)(hb:decide (X=Y)=b)(h1:slot a p=A4 X)(h2:slot a q=A4 Y)(hK:K (a.put (some d) (.bool b)) w):Oper.wp Tryz.prog { dst:=some d,op:=Op.binOp BinOp.eql 24 (Operand.tmp p) (Operand.tmp q) 24,type:=ty,pos:=pos,after:=after,guard:=gd } a w K Q:=by
 have e:=eqB_run hX hY w
 rw [hb] at e
 unfold slot at h1 h2
 unfold A4 at h1 h2 e
 simp [go_sem,h1,h2,e]
 exact hK
theorem og_ldB {g i X:Nat}(h1:slot a p=.pointer (some ⟨g,i,none⟩))(c0:w.cell? ⟨g,i,none⟩=some (.int .u64 (W4 X 0)))(c1:w.cell? ⟨g,i+1,none⟩=some (.int .u64 (W4 X 1)))(c2:w.cell? ⟨g,i+2,none⟩=some (.int .u64 (W4 X 2)))(c3:w.cell? ⟨g,i+3,none⟩=some (.int .u64 (W4 X 3)))(hK:K (a.put (some d) (A4 X)) w):Oper.wp Tryz.prog { dst:=some d,op:=Op.load 24 (Operand.tmp p),type:=ty,pos:=pos,after:=after,guard:=gd } a w K Q:=by
 unfold slot at h1
 simp [go_sem,h1,c0,c1,c2,c3]
 exact hK
theorem og_slB {g:Nat}(h1:slot a p=.pointer (some ⟨g,0,none⟩))(hK:K (a.put (some d) (.slice (some ⟨g,0,none⟩) 4 4)) w):Oper.wp Tryz.prog { dst:=some d,op:=Op.slice 24 (Operand.tmp p) none none none,type:=ty,pos:=pos,after:=after,guard:=gd } a w K Q:=by
 unfold slot at h1
 simp [go_sem,h1]
 exact hK
theorem og_pkT {o2:Operand}{v:Value}(h1:slot a p=.bool true)(h2:slot a q=v)(hK:K (a.put (some d) v) w):Oper.wp P { dst:=some d,op:=Op.pick (Operand.tmp p) (Operand.tmp q) o2,type:=ty,pos:=pos,after:=after,guard:=gd } a w K Q:=by
 unfold slot at h1 h2
 simp [go_sem,h1,h2]
 exact hK
end
end
section
section
variable {a:Act}{w:World}{K:Act->World->Prop}{Q:Exit->Act->World->Prop}{d p:Nat}{ty:TypeId}{pos:String}{after:Array Edge}{gd:Option (Nat×Bool)}
theorem og_c1 {F:Nat}{p0:Nat}{u0:Value}{ts:Array TypeId}(hr:Sem.run Tryz.prog (callFunc F #[u0]) w=.ok (.enter F #[u0]) w)(h0:slot a p0=u0)(hc:Calls Tryz.prog F #[u0] w fun e w'=>∃ v,e=.returned v/\K (a.put (some d) v) w'):Oper.wp Tryz.prog { dst:=some d,op:=Op.call { callee:=Callee.value (Operand.func F),args:=#[Operand.tmp p0],argTypes:=ts },type:=ty,pos:=pos,after:=after,guard:=gd } a w K Q:=by
 unfold slot at h0
 simp [go_sem,h0,hr]
 refine hc.mono ?_
 rintro e w' ⟨v,rfl,hK⟩
 exact hK
theorem og_c2 {F:Nat}{p0 p1:Nat}{u0 u1:Value}{ts:Array TypeId}(hr:Sem.run Tryz.prog (callFunc F #[u0,u1]) w=.ok (.enter F #[u0,u1]) w)(h0:slot a p0=u0)(h1:slot a p1=u1)(hc:Calls Tryz.prog F #[u0,u1] w fun e w'=>∃ v,e=.returned v/\K (a.put (some d) v) w'):Oper.wp Tryz.prog { dst:=some d,op:=Op.call { callee:=Callee.value (Operand.func F),args:=#[Operand.tmp p0,Operand.tmp p1],argTypes:=ts },type:=ty,pos:=pos,after:=after,guard:=gd } a w K Q:=by
 unfold slot at h0 h1
 simp [go_sem,h0,h1,hr]
 refine hc.mono ?_
 rintro e w' ⟨v,rfl,hK⟩
 exact hK
end
end
end Go.Proofs.YtjfeaiaafbaobaaGreatDoor
