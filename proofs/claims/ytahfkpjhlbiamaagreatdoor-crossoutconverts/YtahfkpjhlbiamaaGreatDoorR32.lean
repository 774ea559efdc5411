/-
  Texts that the proof leans on.
-/
import Derived.Test.YtahfkpjhlbiamaaGreatDoorR30
import Derived.Test.YtahfkpjhlbiamaaGreatDoorR13
import Derived.Test.YtahfkpjhlbiamaaGreatDoorR24
import Derived.Test.YtahfkpjhlbiamaaGreatDoorR1
import Derived.Test.YtahfkpjhlbiamaaGreatDoorR20
set_option maxHeartbeats 8000000
set_option linter.unusedVariables false
set_option linter.unusedSectionVars false
set_option linter.unusedSimpArgs false
set_option maxRecDepth 20000
namespace Go.Proofs.YtahfkpjhlbiamaaGreatDoor
open Go.RowKit
section
theorem zY9 {a b k:Nat}(h:a<=b)(hb:bl b<=k):bl a<=k:=bl_le.2 (Nat.lt_of_le_of_lt h (bl_le.1 hb))
def OvTrm (X Y:Int)(w:World)(e:Ending)(w':World):Prop :=
 ∃ g k cap z g' k' cap' z',e=.returned (.tuple #[.slice (some ⟨g,0,none⟩) k cap,.slice (some ⟨g',0,none⟩) k' cap'])/\k<=41000/\k'<=41000/\Num w' (some ⟨g,0,none⟩) k cap z/\Num w' (some ⟨g',0,none⟩) k' cap' z'/\val z k=X/Y/\val z' k'=X%Y/\Below w.heap.size w w'/\sizeL z' k'=k'/\sizeL z k=k
theorem zUv (ga gb s c t c':Nat)(x y:Nat->Int)(w:World)(hs:s<=20000)(ht2:t<=20000)(ht:2<=t)(h:Num w (some ⟨ga,0,none⟩) s c x)(h':Num w (some ⟨gb,0,none⟩) t c' y)(hxs:sizeL x s=s)(hys:sizeL y t=t) :
  Calls Tryz.prog 92 #[.slice (some ⟨ga,0,none⟩) s c,.slice (some ⟨gb,0,none⟩) t c'] w (OvTrm (val x s) (val y t) w):=by
 have hx:=h.2.2.1
 have hy:=h'.2.2.1
 have HXS:Hid (sizeL x s=s):=hxs
 have c31:=zSg _ t c' y w (by omega) h'
 rw [hys] at c31
 have c20:=zTd _ s c x w (by omega) h
 have c20':=zTd _ t c' y w (by omega) h'
 have c45:=zHb _ s c x w (by omega) h
 rw [hxs] at c45
 have hlx:0<=lenL x s/\lenL x s<=64*s:=by
  unfold lenL;rw [hxs]
  split
  ·omega
  ·have:=zSc (x (s-1)).toNat;omega
 have hY0:0<val y t:=zUi hy t (by omega) hys
 have hX0:=(zOa hx s).1
 obtain ⟨Ly,hLy,hy1,hy2⟩:=zFg hy (n:=t) (by omega)
 have hne:((t:Int)==1)=false:=by simp;omega
 -- the number below the divisor times 2^(far + 1)
 have key:∀ F:Int,lenL x s-lenL y t=F->(F<0->val x s<val y t)/\(0<=F->val x s<val y t*2^(F.toNat+1)):=by
  intro F hF
  rcases Nat.eq_zero_or_pos s with h0|h0
  ·subst h0
   have e0:val x 0=0:=rfl
   refine ⟨fun _=>by rw [e0];exact hY0,fun _=>by rw [e0];exact Int.mul_pos hY0 (zDb _)⟩
  ·obtain ⟨Lx,hLx,hx1,hx2⟩:=zFg hx (n:=s) (by omega)
   have mono:∀ a b:Nat,a<=b->(2:Int)^a<=2^b:=fun a b hab=>by
    obtain ⟨k,rfl⟩:∃ k,b=a+k:=⟨b-a,by omega⟩
    rw [Int.pow_add]
    have:=zDb a
    have h3:=zDb k
    have:(2:Int)^a*1<=2^a*2^k:=Int.mul_le_mul_of_nonneg_left (by omega) (by omega)
    omega
   refine ⟨fun hneg=>?_,fun hpos=>?_⟩
   ·have:=mono (Lx+1) Ly (by omega);omega
   ·have e1:Lx+1=Ly+(F.toNat+1):=by omega
    have h5:2^Ly*2^(F.toNat+1)<=val y t*2^(F.toNat+1):=Int.mul_le_mul_of_nonneg_right hy1 (Int.le_of_lt (zDb _))
    rw [← Int.pow_add,← e1] at h5
    omega
 have hlyb:0<=lenL y t/\lenL y t<=64*t:=by
  unfold lenL;rw [hys]
  split
  ·omega
  ·have:=zSc (y (t-1)).toNat;omega
 obtain ⟨F,hF⟩:∃ F,lenL x s-lenL y t=F:=⟨_,rfl⟩
 have hk:=key F hF
 have hFb:F<=1280000:=by omega
 generalize lenL x s=LX at *
 generalize lenL y t=LY at *
 have HXN:Hid (Num w (some ⟨ga,0,none⟩) s c x):=h
 have HYN:Hid (Num w (some ⟨gb,0,none⟩) t c' y):=h'
 clear key h h' hy1 hy2 hLy hx hy
 obtain ⟨X,hX⟩:∃ X,val x s=X:=⟨_,rfl⟩
 obtain ⟨Y,hY⟩:∃ Y,val y t=Y:=⟨_,rfl⟩
 rw [hX,hY] at hk
 rw [hX] at hX0
 rw [hY] at hY0
 rw [hX,hY]
 have HX:Hid (val x s=X):=hX
 have HY:Hid (val y t=Y):=hY
 clear hX hY
 by_cases hneg:F<0
 ·have hXY:=hk.1 hneg
  have HV:Hid (X/Y=0/\X%Y=X):=⟨Int.ediv_eq_zero_of_lt hX0 hXY,Int.emod_eq_of_lt hX0 hXY⟩
  have HF:Hid (LX-LY=F):=hF
  have hFn:LX-LY<0:=by omega
  clear hk hF
  go_enter Tryz.func92,Tryz.ntmps92
  go_wp2_with (first|(go_at_call 134;refine c31.mono ?_;rintro e w' ⟨rfl,rfl⟩)|(go_at_call_of 69 (Value.slice (some ⟨ga,0,none⟩) s c);refine c20.mono ?_;rintro e w' ⟨rfl,rfl⟩;clear c20)|(go_at_call_of 69 (Value.slice (some ⟨gb,0,none⟩) t c');refine c20'.mono ?_;rintro e w' ⟨rfl,rfl⟩)|(go_at_call 128;refine c45.mono ?_;rintro e w1 ⟨g1,p1,rfl,hN1,hB1⟩))
  go_ret2
  have hb:=zBa w1 (.cells #[] 22)
  exact ⟨w1.heap.size,0,0,fun _=>0,g1,s,p1,x,rfl,by omega,by omega,⟨Nat.le_refl _,by unfold maxLen;omega,fun _=>(by decide:(0:Int)<=0/\(0:Int)<=18446744073709551615),fun _ _=>rfl,Or.inr ⟨w1.heap.size,0,rfl,by simp,fun i hi=>by omega⟩⟩,hN1.next hb,by rw [HV.out.1];rfl,by rw [HV.out.2];exact HX.out,hB1.trans (hb.mono hB1.size),HXS.out,rfl⟩
 ·obtain ⟨N,rfl⟩:=Int.eq_ofNat_of_zero_le (show 0<=F by omega)
  have hXb:=hk.2 (by omega)
  rw [Int.toNat_natCast] at hXb
  obtain ⟨m0,hm0⟩:∃ m0:Nat,(N:Int)/64=m0:=⟨N/64,by omega⟩
  have hmk:=fun w=>zUa ((m0:Int)+1) (m0+1) (by omega) (by omega) w
  have hm0b:m0<=20000:=by omega
  have hm0n:m0=N/64:=by omega
  have HM0:Hid (m0=N/64):=hm0n
  clear hk hm0n
  go_enter Tryz.func92,Tryz.ntmps92
  go_wp2_with (first|(go_at_call 134;refine c31.mono ?_;rintro e w' ⟨rfl,rfl⟩)|(go_at_call_of 69 (Value.slice (some ⟨ga,0,none⟩) s c);refine c20.mono ?_;rintro e w' ⟨rfl,rfl⟩;clear c20)|(go_at_call_of 69 (Value.slice (some ⟨gb,0,none⟩) t c');refine c20'.mono ?_;rintro e w' ⟨rfl,rfl⟩)|(go_at_call 128;refine c45.mono ?_;rintro e w1 ⟨g1,p1,rfl,hN1,hB1⟩))
  have hb1:=zBa w1 (.cells (arrOf (fun _=>0) (m0+1)) 22)
  have hBq:=hB1.trans (hb1.mono hB1.size)
  have c49:=zDh gb 0 t c' N y _ (by omega) (by omega) (by omega) (HYN.out.next hBq)
  rw [Int.toNat_natCast,HY.out] at c49
  have hO0:=Own.new w1 (fun _=>0) (m0+1)
  have hg1lt:g1<w1.heap.size:=by
   rcases hN1.2.2.2.2 with ⟨h,_⟩|⟨b,off,h,hb,_⟩
   ·cases h
   ·cases h;exact hb
  have hsz:(w1.alloc (.cells (arrOf (fun _=>0) (m0+1)) 22)).heap.size=w1.heap.size+1:=by simp
  go_wp2_with (go_at_call 87;refine c49.mono ?_;rintro e w2 ⟨g2,k2,p2,z2,rfl,hk2,hN2,hv2,hb2,hf2,htr2⟩;clear c49 htr2)
  rw [hsz] at hf2 hb2
  have hB2:=hBq.trans (hb2.mono (by have:=hB1.size;omega))
  have hNr:=(hN1.next hb1).next (by rw [hsz];exact hb2)
  have hO2:=Below.own hb2 (by omega) hO0
  generalize hgq:w1.heap.size=gq at *
  have hBsz:=hB1.size
  have HGq:Hid (w.heap.size<=gq):=by show _<=_;omega
  have hgq2:gq<w2.heap.size:=by have:=hb2.size;omega
  clear hN1 hB1 hb1 hBq hO0 hb2 hsz hBsz hgq
  go_loopw [7,9,10,65] (fun rv dv iv u65 wr=>∃ (k g1 k1 p1 g2 k2 p2:Nat) (z1 z2 q:Nat->Int),k<=N+1/\iv=.int .i64 ((k:Int)-1)/\rv=.slice (some ⟨g1,0,none⟩) k1 p1/\dv=.slice (some ⟨g2,0,none⟩) k2 p2/\k1<=40002/\k2<=40002/\g1≠gq/\g2≠gq/\gq<wr.heap.size/\Num wr (some ⟨g1,0,none⟩) k1 p1 z1/\Num wr (some ⟨g2,0,none⟩) k2 p2 z2/\Own gq (m0+1) q wr/\zDa q/\Hid (val q (m0+1)*Y+val z1 k1=X)/\Hid (val z1 k1<Y*2^k)/\Hid (0<k->val z2 k2=Y*2^(k-1))/\Hid (val q (m0+1)%2^k=0)/\Hid (sizeL z1 k1=k1)/\Below w.heap.size w wr) (fun _ _ iv _ _=>(intOf iv+1).toNat)
  case atStart=>exact ⟨N+1,g1,s,p1,g2,k2,p2,x,z2,fun _=>0,Nat.le_refl _,by go_num,rfl,rfl,by omega,by omega,by omega,by omega,hgq2,hNr,hN2,hO2,fun _=>(by decide:(0:Int)<=0/\(0:Int)<=18446744073709551615),by show _=_;rw [zRd,Int.zero_mul,Int.zero_add,HX.out],by show _<_;rw [HX.out];exact hXb,fun _=>hv2,by show _=_;rw [zRd];exact Int.zero_emod _,HXS,hB2⟩
  case round =>
   clear hNr hN2 hO2 hB2 hv2 hk2 hf2 hg1lt hgq2 hXb c31 c20' c45
   obtain ⟨k,g1,k1,p1,g2,k2,p2,z1,z2,q,hk,rfl,rfl,rfl,hk1,hk2,hg1,hg2,hgq,hN1,hN2,hO,hqw,hv,hlt,hd,hmod,htr,hB⟩:=hrel
   by_cases h0:k=0
   ·subst h0
    have hQN:=hO.num hqw 0 (m0+1) (m0+1) (by omega) (Nat.le_refl _) (by unfold maxLen;omega)
    have c45:=zHb _ (m0+1) (m0+1) _ _ (by omega) hQN
    have hle:=zCa (segW q 0 (m0+1)) (m0+1)
    have e1:val (segW q 0 (m0+1)) (sizeL (segW q 0 (m0+1)) (m0+1))=val q (m0+1):=by
     rw [zKa];exact zIa _ fun i hi=>by rw [zSa _ _ _ i hi,Nat.zero_add]
    have HFIN:Hid (val (segW q 0 (m0+1)) (sizeL (segW q 0 (m0+1)) (m0+1))=X/Y/\val z1 k1=X%Y):=by
     have h1:=hv.out
     have h2:=hlt.out
     rw [Int.pow_zero,Int.mul_one] at h2
     have:=(Int.ediv_emod_unique hY0 (a:=X) (r:=val z1 k1) (q:=val q (m0+1))).2 ⟨by rw [Int.mul_comm];omega,(zOa hN1.2.2.1 k1).1,h2⟩
     exact ⟨by rw [e1];exact this.1.symm,this.2.symm⟩
    have HN1:Hid (Num wr (some ⟨g1,0,none⟩) k1 p1 z1):=hN1
    have HSS:Hid (sizeL (segW q 0 (m0+1)) (sizeL (segW q 0 (m0+1)) (m0+1))=sizeL (segW q 0 (m0+1)) (m0+1)):=zFa _ _
    generalize segW q 0 (m0+1)=qz at *
    generalize sizeL qz (m0+1)=kq at *
    clear hQN hO hqw hv hlt hd hmod hN1 hN2 e1
    go_wp2_with (go_at_call 128;refine c45.mono ?_;rintro e w3 ⟨g3,p3,rfl,hN3,hB3⟩)
    go_ret2
    exact ⟨g3,kq,p3,qz,g1,k1,p1,z1,rfl,by omega,by omega,hN3,HN1.out.next hB3,HFIN.out.1,HFIN.out.2,hB.trans (hB3.mono hB.size),htr.out,HSS.out⟩
   ·obtain ⟨j,rfl⟩:∃ j,k=j+1:=⟨k-1,by omega⟩
    have ej:((j+1:Nat):Int)-1=j:=by omega
    rw [ej]
    have hdv:val z2 k2=Y*2^j:=hd.out (by omega)
    have hT:=zDb j
    have hdp:0<val z2 k2:=by rw [hdv];exact Int.mul_pos hY0 hT
    have hk2p:=zKp hdp
    have c16:=zMi _ _ k1 p1 k2 p2 z1 z2 wr (by omega) (by omega) hN1 hN2
    have HLT:Hid (val z1 k1<Y*2^j*2):=by show _<_;have:=hlt.out;rw [Int.pow_succ,← Int.mul_assoc] at this;exact this
    have HMOD:Hid (val q (m0+1)%(2^j*2)=0):=by show _=_;have:=hmod.out;rw [Int.pow_succ] at this;exact this
    have HMODF:Hid (val q (m0+1)%2^(j+1)=0):=hmod
    have HN':Hid (∀ (z':Nat->Int) (k':Nat),(∀ V,val z2 k2=V*2->val z' k'=V)->0<j->val z' k'=Y*2^(j-1)):=fun z' k' hh hj=>hh _ (by rw [hdv,Int.mul_assoc,← Int.pow_succ];congr 2;omega)
    have HJ:Hid (j<=N):=by show _<=_;omega
    clear ej hd hlt hmod
    by_cases hge:Y*2^j<=val z1 k1
    ·have hsg:0<=sgn (val z1 k1) (val z2 k2):=by unfold sgn;rw [if_neg (by omega)];split<;>omega
     have c37:=zXh _ _ k1 p1 k2 p2 z1 z2 wr (by omega) (by omega) hN1 hN2 (by rw [hdv];exact hge)
     generalize sgn (val z1 k1) (val z2 k2)=sg at *
     obtain ⟨m,hmj⟩:∃ m:Nat,(j:Int)/64=m:=⟨j/64,by omega⟩
     obtain ⟨r,hrj⟩:∃ r:Nat,(j:Int)%64=r:=⟨j%64,by omega⟩
     have hr64:r<64:=by omega
     have hjm:j=64*m+r:=by omega
     have hmm:m<m0+1:=by have:=HJ.out;have:=HM0.out;omega
     have hmi:(m:Int)<((m0+1:Nat):Int):=by omega
     have hob:=zWv (hqw m) hr64 (zFl hqw hmm (show r+1<=64 by omega) (by have:=HMODF.out;rw [hjm] at this;exact this))
     have HOR:Hid (bits BinOp.or IntKind.u64 (q m) (2^r)=q m+2^r):=hob.1
     have hpr:=zDb r
     have hpl:=zTl hr64
     have HQ2:Hid (val (fun i=>if i=m then q m+2^r else q i) (m0+1)=val q (m0+1)+2^j):=by
      show _=_
      rw [zJd q m (q m+2^r) (m0+1) hmm]
      have e9:(2:Int)^j=2^r*18446744073709551616^m:=by rw [p64,← hjm]
      rw [e9];congr 1;congr 1;omega
     have HQW2:Hid (zDa (fun i=>if i=m then q m+2^r else q i)):=zTb hqw ⟨by have:=hqw m;omega,hob.2⟩
     have bq:=hqw m
     have HO:Hid (Own gq (m0+1) q wr):=hO
     have HN2:Hid (Num wr (some ⟨g2,0,none⟩) k2 p2 z2):=hN2
     have hob2:=hob.2
     have HD:Hid (val z2 k2=Y*2^j):=hdv
     clear hN1 hN2 hO hqw hob hjm HMODF
     go_wp2_with (first|(go_at_call 88;refine c16.mono ?_;rintro e w' ⟨rfl,rfl⟩)|(go_at_call 126;refine c37.mono ?_;rintro e w3 ⟨g3,k3,p3,z3,rfl,hk3,hN3,hv3,hb3,hf3,htr3⟩;have HT3:Hid (sizeL z3 k3=k3):=htr3;clear htr3;have hO3:=Below.own hb3 hgq HO.out;have hcq:=hO3.cell m hmm;have hfq:=hO3.frozen m))
     have hU3:Upd gq w3 (w3.setCell ⟨gq,m,none⟩ (.int .u64 (bits BinOp.or IntKind.u64 (q m) (2^r)))):=(Upd.refl gq w3).set m _
     have hO4:=hO3.set m (q m+2^r)
     rw [← HOR.out] at hO4
     have hN24:=hU3.num hg2 (HN2.out.next hb3)
     have hN34:=hU3.num (by omega) hN3
     have hB3:=(hB.trans (hb3.mono hB.size)).trans (hU3.below HGq.out)
     have hsz3:w3.heap.size<=(w3.setCell ⟨gq,m,none⟩ (.int .u64 (bits BinOp.or IntKind.u64 (q m) (2^r)))).heap.size:=Nat.le_of_eq hU3.size.symm
     have hgq3:=hb3.size
     have c51:=zUf g2 k2 p2 z2 _ hk2p (by omega) hN24
     clear hO3 hN3 hN24 hU3 hb3
     generalize w3.setCell ⟨gq,m,none⟩ (.int .u64 (bits BinOp.or IntKind.u64 (q m) (2^r)))=wS at *
     go_wp2_with (go_at_call 93;refine c51.mono ?_;rintro e w4 ⟨g4,k4,p4,bb,z4,rfl,hk4,hN4,hhf,hb4,hf4⟩)
     have hgS:gq<wS.heap.size:=by omega
     go_roundw
     case rel =>
      refine ⟨j,g3,k3,p3,g4,k4,p4,z3,z4,fun i=>if i=m then q m+2^r else q i,by have:=HJ.out;omega,by go_num,rfl,rfl,by omega,by omega,by omega,by omega,by have:=hb4.size;omega,hN34.next hb4,hN4,?_,HQW2.out,?_,?_,fun hj=>HN'.out z4 k4 hhf hj,?_,HT3,hB3.trans (hb4.mono hB3.size)⟩
      ·have:=Below.own hb4 hgS hO4
       rw [HOR.out] at this
       exact this
      ·show _=_
       rw [HQ2.out,hv3,HD.out,Int.add_mul,Int.mul_comm (2^j) Y]
       have:=hv.out
       omega
      ·show _<_
       rw [hv3,HD.out]
       have:=HLT.out
       omega
      ·show _=_
       rw [HQ2.out,Int.add_emod_right]
       exact zRf HMOD.out
     case measure=>simp [intOf]
    ·have hs1:sgn (val z1 k1) (val z2 k2)=-1:=by unfold sgn;rw [if_pos (by omega)]
     rw [hs1] at c16
     have c51:=zUf g2 k2 p2 z2 wr hk2p (by omega) hN2
     have HN1:Hid (Num wr (some ⟨g1,0,none⟩) k1 p1 z1):=hN1
     have HO:Hid (Own gq (m0+1) q wr):=hO
     have HQW:Hid (zDa q):=hqw
     clear hN1 hN2 hO hqw hs1
     go_wp2_with (first|(go_at_call 88;refine c16.mono ?_;rintro e w' ⟨rfl,rfl⟩)|(go_at_call 93;refine c51.mono ?_;rintro e w4 ⟨g4,k4,p4,bb,z4,rfl,hk4,hN4,hhf,hb4,hf4⟩))
     go_roundw
     case rel=>exact ⟨j,g1,k1,p1,g4,k4,p4,z1,z4,q,by have:=HJ.out;omega,by go_num,rfl,rfl,hk1,by omega,hg1,by omega,by have:=hb4.size;omega,HN1.out.next hb4,hN4,Below.own hb4 hgq HO.out,HQW.out,hv,by show _<_;omega,fun hj=>HN'.out z4 k4 hhf hj,zRf HMOD.out,htr,hB.trans (hb4.mono hB.size)⟩
     case measure=>simp [intOf]
theorem zGn {K N D:Nat}{vn vd:Value}{w:World}(hK:K<=20000)(h:NT K N vn w)(h':NT K D vd w)(hD:D≠0) :
  Calls Tryz.prog 92 #[vn,vd] w fun e w'=>∃ q r,e=.returned (.tuple #[q,r])/\NT 41000 (N/D) q w'/\NT 41000 (N%D) r w'/\Below w.heap.size w w':=by
 obtain ⟨ga,s,c,x,rfl,hs,hN,hx,hxs⟩:=h
 obtain ⟨gb,t,c',y,rfl,ht,hN',hy,hys⟩:=h'
 have ht0:t≠0:=by
  intro e;subst e
  have:val y 0=0:=rfl
  omega
 by_cases ht1:t=1
 ·subst ht1
  refine (zCj ga gb s c c' x y w (by omega) hN hN' hys).mono ?_
  rintro e w' ⟨g,k,cap,z,g',k',cap',z',e1,hk,hk',hA,hB,hv,hs1,hv',hs2,hb,hg⟩
  refine ⟨_,_,e1,⟨g,k,cap,z,rfl,by omega,hA,?_,hs1⟩,⟨g',k',cap',z',rfl,by omega,hB,?_,hs2⟩,hb⟩
  ·rw [hv,hx,hy];rfl
  ·rw [hv',hx,hy];rfl
 ·refine (zUv ga gb s c t c' x y w (by omega) (by omega) (by omega) hN hN' hxs hys).mono ?_
  rintro e w' ⟨g,k,cap,z,g',k',cap',z',e1,hk,hk',hA,hB,hv,hv',hb,htr,hq⟩
  refine ⟨_,_,e1,⟨g,k,cap,z,rfl,hk,hA,?_,hq⟩,⟨g',k',cap',z',rfl,hk',hB,?_,htr⟩,hb⟩
  ·rw [hv,hx,hy];rfl
  ·rw [hv',hx,hy];rfl
attribute [local irreducible] NT NV
theorem zL5 {Q:Nat}{va vb:Value}{w:World}(d:Int)(s:Bool)(cap0:Nat)
  (c99:Calls Tryz.prog 92 #[va,vb] w fun e w1=>∃ q g cap,e=.returned (.tuple #[q,.slice (some ⟨g,0,none⟩) 0 cap])/\NT 41000 Q q w1/\Below w.heap.size w w1) :
  Calls Tryz.prog 131 #[.int .i64 d,.bool s,va,vb] w fun e w'=>∃ q,e=.returned (.tuple #[q,.bool true])/\NT 41000 Q q w'/\Below w.heap.size w w':=by
 go_enter Tryz.func131,Tryz.ntmps131
 go_wp2_with (go_at_call 92;refine c99.mono ?_;rintro e w1 ⟨q,g,cap,rfl,hq,hb1⟩)
 exact bodyPost_ret (v:=.tuple #[q,.bool true]) (by simp only [results,Tryz.results131];go_simp) rfl ⟨_,rfl,hq,hb1⟩
theorem zPo {K A B:Nat}{va vb:Value}{w:World}(d:Int)(s:Bool)(hK:K<=20000)(h:NT K A va w)(h':NT K B vb w)(hB:B≠0)(h0:A%B=0) :
  Calls Tryz.prog 131 #[.int .i64 d,.bool s,va,vb] w fun e w'=>∃ q,e=.returned (.tuple #[q,.bool true])/\NT 41000 (A/B) q w'/\Below w.heap.size w w':=by
 have c99:=zGn hK h h' hB
 rw [h0] at c99
 refine zL5 d s 0 (c99.mono fun e w' ⟨q,r,e1,e2,e3,e4⟩=>?_)
 obtain ⟨g,k,cap,er,hk,hz⟩:=e3.zero
 obtain rfl:k=0:=hz.2 rfl
 subst er
 exact ⟨q,g,cap,e1,e2,e4⟩
section
variable (n:Int)(nm:ByteArray)(wd pr ex le mo pa:Int)(dn:Bool)
theorem zS6 (C:Nat)(q want:Int)(vc:Value)(w:World)(hq:q<=mo)(hq0:-30000<=q)(hmo:mo<=30000)(hC:bl C<=1000)(h:NT 41000 C vc w) :
  Calls Tryz.prog 133 #[vc,.int .i64 q,.int .i64 want,zEb n nm wd pr ex le mo pa dn] w fun r w'=>∃ v,r=.returned (.tuple #[v,.int .i64 (mbr mo want (mo-q).toNat C q).2])/\NT 41000 (mbr mo want (mo-q).toNat C q).1 v w'/\Below w.heap.size w w':=by
 have ht:NT 16 C vc w:=h.tight (by omega)
 clear h
 go_enter Tryz.func133,Tryz.ntmps133
 go_wp2
 go_loopw [0,1,10,11] (fun t0 t1 _ _ wr=>∃ (c:Nat) (p:Int),t1=.int .i64 p/\q<=p/\p<=mo/\NT 16 c t0 wr/\Hid (mbr mo want (mo-p).toNat c p=mbr mo want (mo-q).toNat C q)/\Hid (c<=C)/\Below w.heap.size w wr/\wr.cell? ⟨w.heap.size,7,none⟩=some (.int .i64 mo)/\w.heap.size<wr.heap.size) (fun _ t1 _ _ _=>(mo-intOf t1).toNat)
 case atStart=>exact ⟨C,q,rfl,Int.le_refl _,hq,ht.next (zBa _ _),by show _=_;rfl,by show _<=_;exact Nat.le_refl _,bgo,by go_simp,by simp⟩
 case round =>
  obtain ⟨c,p,rfl,h1,h2,hc,HM,HC,hB,k7,hl⟩:=hrel
  have hend:¬ (p<want/\p<mo/\c%10=0)->mbr mo want (mo-q).toNat C q=(c,p):=fun hn=>by
   rw [← HM.out]
   cases (mo-p).toNat with
   | zero=>rfl
   | succ k=>unfold mbr;rw [if_neg hn]
  by_cases hw:p<want
  ·by_cases hm:p<mo
   ·have c21:=zGn (K:=16) (N:=c) (D:=10) (by decide) (hc.next (zBa wr (.cells #[.int .u64 10] 22))) ((zEj (W:=wr) (g:=wr.heap.size) (V:=10) (vi:=10) rfl rfl (by decide) (by decide)).more (by decide)) (by decide)
    by_cases hz:c%10=0
    ·have HN:Hid (mbr mo want (mo-(p+1)).toNat (c/10) (p+1)=mbr mo want (mo-q).toNat C q):=by
      show _=_
      rw [← HM.out,show (mo-p).toNat=(mo-(p+1)).toNat+1 by omega]
      conv=>rhs;unfold mbr
      rw [if_pos ⟨hw,hm,hz⟩]
     have HC':Hid (c/10<=C):=by show _<=_;have:=HC.out;omega
     have hbl:bl (c/10)<=64*16:=Nat.le_trans (zY9 HC'.out hC) (by decide)
     have HBL:Hid (bl (c/10)<=64*16):=hbl
     rw [hz] at c21
     clear hend hbl
     go_wp2_with (go_at_call 92;refine c21.mono ?_;rintro r w1 ⟨vq,vr,rfl,uq,ur,hb1⟩;have hb2:=zMe (w0:=wr) (zBa _ _) hb1;obtain ⟨gr,kr,cr,rfl,hkr,hzr⟩:=ur.zero;obtain rfl:kr=0:=hzr.2 rfl;clear hzr ur)
     have k71:w1.cell? ⟨w.heap.size,7,none⟩=some (.int .i64 mo):=(hb2.cell (p:=⟨w.heap.size,7,none⟩) hl).trans k7
     have hl1:w.heap.size<w1.heap.size:=Nat.lt_of_lt_of_le hl hb2.size
     go_roundw
     case rel=>exact ⟨c/10,p+1,by go_num,by omega,by omega,uq.tight HBL.out,HN,HC',bnx hB hb2,k71,hl1⟩
     case measure=>simp [intOf];omega
    ·have he:=hend (fun h=>hz h.2.2)
     clear hend
     go_wp2_with (go_at_call 92;refine c21.mono ?_;rintro r w1 ⟨vq,vr,rfl,uq,ur,hb1⟩;have hb2:=zMe (w0:=wr) (zBa _ _) hb1;obtain ⟨gr,kr,cr,rfl,hkr,hzr⟩:=ur.zero;have hk0:(0:Int)<(kr:Int):=(by have:kr≠0:=fun e=>hz (hzr.1 e);omega);clear hzr ur)
     exact bodyPost_ret (v:=.tuple #[_,.int .i64 p]) (by simp only [results,Tryz.results133];go_simp;rfl) rfl ⟨_,by rw [he],by rw [he];exact (hc.next hb2).more (by decide),bnx hB hb2⟩
   ·have he:=hend (fun h=>hm h.2.1)
    clear hend
    go_wp2
    exact bodyPost_ret (v:=.tuple #[_,.int .i64 p]) (by simp only [results,Tryz.results133];go_simp) rfl ⟨_,rfl,hc.more (by decide),hB⟩
  ·have he:=hend (fun h=>hw h.1)
   clear hend
   go_wp2
   exact bodyPost_ret (v:=.tuple #[_,.int .i64 p]) (by simp only [results,Tryz.results133];go_simp) rfl ⟨_,rfl,hc.more (by decide),hB⟩
end
end
section
attribute [local irreducible] W4 NT NV
section
variable (n:Int)(nm:ByteArray)(wd pr ex le mo pa:Int)(dn:Bool)(d:Int)(s:Bool)(gv kv cv:Nat)(vd:Value)(exp want em ec E q:Int)(N1 D1 A Z C0 PP:Nat)(sgv:Int)(w:World)
 (hpr0:1<=pr) (hpr1:pr<=100) (hle0:-10000<=le) (hle1:le<=10000) (hmo0:-10000<=mo) (hmo1:mo<=10000)
 (cO:∀ W,CB 20 #[.int .i64 n] W (.tuple #[zEb n nm wd pr ex le mo pa dn,.int .i64 0]))
include hpr0 hpr1 hle0 hle1 hmo0 hmo1 cO
theorem rnd_z (x1 x2:Int)(h1:max want le=x1)(h2:min x1 mo=x2)(gz cz:Nat) :
  CB 67 #[.int .i64 n,.int .i64 d,.bool s,.slice (some ⟨gz,0,none⟩) 0 cz,vd,.int .i64 exp,.int .i64 want] w (.tuple #[.agg #[.int .i64 1,.bool s,.bool false,.int .i64 x2,.int .u64 0,.int .u64 0,.int .u64 0,.int .u64 0],.int .i64 0]):=by
 have hsm:=zAa
 go_enter Tryz.func67,Tryz.ntmps67
 go_wp2_with (go_at_call 20;refine wk w (cO _) ?_;intro w1 hb1 _ _ _ _ hA1 _;clear hb1)
 exact bodyPost_ret (by simp only [results,Tryz.results67];go_simp) rfl ⟨rfl,bgo⟩
end
section
variable (n:Int)(nm:ByteArray)(wd pr ex le mo pa:Int)(dn:Bool)(d:Int)(s:Bool)(gv kv cv:Nat)(vd:Value)(exp want em ec E q:Int)(N1 D1 A Z C0 PP:Nat)(sgv:Int)(w:World)
 (hpr0:1<=pr) (hpr1:pr<=100) (hle0:-10000<=le) (hle1:le<=10000) (hmo0:-10000<=mo) (hmo1:mo<=10000)
 (cO:∀ W,CB 20 #[.int .i64 n] W (.tuple #[zEb n nm wd pr ex le mo pa dn,.int .i64 0]))
 (hkv:(0:Int)<(kv:Int)) (hm1:max exp (-20000)=em) (hm2:min em 20000=ec) (hE0:-60000<=E) (hE1:E<=60000) (hq:max le (E-pr+1)=q) (hq0:-70000<=q) (hq1:q<=70000)
 (cS1:∀ W,Below w.heap.size w W->Calls Tryz.prog 65 #[.slice (some ⟨gv,0,none⟩) kv cv,vd,.int .u64 10,.int .i64 ec] W fun r w'=>∃ a b,r=.returned (.tuple #[a,b])/\NT 7000 N1 a w'/\NT 7000 D1 b w'/\Below W.heap.size W w')
 (cT:∀ W a b,NT 7000 N1 a W->NT 7000 D1 b W->CB 130 #[a,b] W (.int .i64 E))
 (cS2:∀ W a b,NT 7000 N1 a W->NT 7000 D1 b W->Calls Tryz.prog 65 #[a,b,.int .u64 10,.int .i64 (-q)] W fun r w'=>∃ a' b',r=.returned (.tuple #[a',b'])/\NT 7000 A a' w'/\NT 7000 Z b' w'/\Below W.heap.size W w')
 (cP:∀ W,CE 64 #[.int .u64 10,.int .i64 pr] W (NT 4000 PP))
 (cC:∀ W v v',NV 41002 C0 v W->NT 4000 PP v' W->CQ 88 #[v,v'] W (.int .i64 sgv))
include hpr0 hpr1 hle0 hle1 hmo0 hmo1 cO hkv hm1 hm2 hE0 hE1 hq hq0 hq1 cS1 cT cS2 cP cC
theorem rnd_ni (X:Bool)(P1 ML U:Nat)(x2:Int)(Fl:Int)
  (cW:∀ W a b,NT 7000 A a W->NT 7000 Z b W->Calls Tryz.prog 131 #[.int .i64 d,.bool s,a,b] W fun r w'=>∃ v,r=.returned (.tuple #[v,.bool X])/\NV 41002 C0 v w'/\Below W.heap.size W w') (hsv:¬ 0<=sgv)
  (hmo:mo<q)
  (cF:∀ W,CQ 132 #[.int .i64 d,.bool s] W (.bool true)) :
  CB 67 #[.int .i64 n,.int .i64 d,.bool s,.slice (some ⟨gv,0,none⟩) kv cv,vd,.int .i64 exp,.int .i64 want] w (.tuple #[.agg #[.int .i64 2,.bool s,.bool false,.int .i64 0,.int .u64 0,.int .u64 0,.int .u64 0,.int .u64 0],.int .i64 10]):=by
 have hsm:=zAa
 have hq2:-(-q)=q:=by omega
 (try unfold DV at *)
 (try unfold A4 at *)
 go_enter Tryz.func67,Tryz.ntmps67
 go_wp2_with (first
  | (go_at_call 20;refine wk w (cO _) ?_;intro w1 hb1 _ _ _ _ hA1 _;clear hb1;have q1a:w.heap.size<w1.heap.size+1+1:=(by omega);have q1b:w1.heap.size<w1.heap.size+1+1:=(by omega))
  | (go_at_call 65;refine (cS1 _ bgo).mono ?_;rintro r w2 ⟨a1,b1,rfl,uA,uB,hb2⟩;clear cS1;obtain ⟨_,_,_,_,hA2,_⟩:=wz w hb2;obtain ⟨_,_,_,_⟩:=zg hb2 w1.heap.size (w1.heap.size+1);clear hb2)
  | (go_at_call 130;refine (cT _ _ _ uA uB).mono ?_;rintro r w3 ⟨rfl,hb3⟩;have uA3:=uA.next hb3;have uB3:=uB.next hb3;clear cT uA uB;obtain ⟨_,_,_,_,hA3,_⟩:=wz w hb3;obtain ⟨_,_,_,_⟩:=zg hb3 w1.heap.size (w1.heap.size+1);clear hb3)
  | (go_at_call 65;refine (cS2 _ _ _ uA3 uB3).mono ?_;rintro r w4 ⟨a2,b2,rfl,uC,uD,hb4⟩;clear cS2 uA3 uB3;obtain ⟨_,_,_,_,hA4,_⟩:=wz w hb4;obtain ⟨_,_,_,_⟩:=zg hb4 w1.heap.size (w1.heap.size+1);clear hb4)
  | (go_at_call 131;refine (cW _ _ _ uC uD).mono ?_;rintro r w5 ⟨vc,rfl,uE,hb5⟩;clear cW uC uD;obtain ⟨_,_,_,_,hA5,_⟩:=wz w hb5;obtain ⟨_,_,_,_⟩:=zg hb5 w1.heap.size (w1.heap.size+1);clear hb5)
  | (go_at_call 64;refine (cP _).mono ?_;rintro r w6 ⟨vp,rfl,uP,hb6⟩;have uE6:=uE.next hb6;clear cP uE;obtain ⟨_,_,_,_,hA6,_⟩:=wz w hb6;obtain ⟨_,_,_,_⟩:=zg hb6 w1.heap.size (w1.heap.size+1);clear hb6)
  | (go_at_call 88;refine (cC _ _ _ uE6 uP).mono ?_;rintro r w0 ⟨rfl,rfl⟩;clear cC)
  | (go_at_call 132;refine (cF _).mono ?_;rintro r w0 ⟨rfl,rfl⟩))
 exact bodyPost_ret (by simp only [results,Tryz.results67];go_simp) rfl ⟨rfl,bgo⟩
theorem rnd_nm (X:Bool)(P1 ML U:Nat)(x2:Int)(Fl:Int)
  (cW:∀ W a b,NT 7000 A a W->NT 7000 Z b W->Calls Tryz.prog 131 #[.int .i64 d,.bool s,a,b] W fun r w'=>∃ v,r=.returned (.tuple #[v,.bool X])/\NV 41002 C0 v w'/\Below W.heap.size W w') (hsv:¬ 0<=sgv)
  (hmo:mo<q)
  (cF:∀ W,CQ 132 #[.int .i64 d,.bool s] W (.bool false))
  (cL:∀ W v v',NT 4000 PP v W->NV 1 1 v' W->CE 126 #[v,v'] W (NV 4000 ML))
  (cB:∀ W v,NV 4000 ML v W->CB 62 #[v] W (A4 ML)) :
  CB 67 #[.int .i64 n,.int .i64 d,.bool s,.slice (some ⟨gv,0,none⟩) kv cv,vd,.int .i64 exp,.int .i64 want] w (.tuple #[DV 1 s false mo ML,.int .i64 10]):=by
 have hsm:=zAa
 have hq2:-(-q)=q:=by omega
 (try unfold DV at *)
 (try unfold A4 at *)
 go_enter Tryz.func67,Tryz.ntmps67
 go_wp2_with (first
  | (go_at_call 20;refine wk w (cO _) ?_;intro w1 hb1 _ _ _ _ hA1 _;clear hb1;have q1a:w.heap.size<w1.heap.size+1+1:=(by omega);have q1b:w1.heap.size<w1.heap.size+1+1:=(by omega))
  | (go_at_call 65;refine (cS1 _ bgo).mono ?_;rintro r w2 ⟨a1,b1,rfl,uA,uB,hb2⟩;clear cS1;obtain ⟨_,_,_,_,hA2,_⟩:=wz w hb2;obtain ⟨_,_,_,_⟩:=zg hb2 w1.heap.size (w1.heap.size+1);clear hb2)
  | (go_at_call 130;refine (cT _ _ _ uA uB).mono ?_;rintro r w3 ⟨rfl,hb3⟩;have uA3:=uA.next hb3;have uB3:=uB.next hb3;clear cT uA uB;obtain ⟨_,_,_,_,hA3,_⟩:=wz w hb3;obtain ⟨_,_,_,_⟩:=zg hb3 w1.heap.size (w1.heap.size+1);clear hb3)
  | (go_at_call 65;refine (cS2 _ _ _ uA3 uB3).mono ?_;rintro r w4 ⟨a2,b2,rfl,uC,uD,hb4⟩;clear cS2 uA3 uB3;obtain ⟨_,_,_,_,hA4,_⟩:=wz w hb4;obtain ⟨_,_,_,_⟩:=zg hb4 w1.heap.size (w1.heap.size+1);clear hb4)
  | (go_at_call 131;refine (cW _ _ _ uC uD).mono ?_;rintro r w5 ⟨vc,rfl,uE,hb5⟩;clear cW uC uD;obtain ⟨_,_,_,_,hA5,_⟩:=wz w hb5;obtain ⟨_,_,_,_⟩:=zg hb5 w1.heap.size (w1.heap.size+1);clear hb5)
  | (go_at_call 64;refine (cP _).mono ?_;rintro r w6 ⟨vp,rfl,uP,hb6⟩;have uE6:=uE.next hb6;clear cP uE;obtain ⟨_,_,_,_,hA6,_⟩:=wz w hb6;obtain ⟨_,_,_,_⟩:=zg hb6 w1.heap.size (w1.heap.size+1);clear hb6)
  | (go_at_call 88;refine (cC _ _ _ uE6 uP).mono ?_;rintro r w0 ⟨rfl,rfl⟩;clear cC)
  | (go_at_call 132;refine (cF _).mono ?_;rintro r w0 ⟨rfl,rfl⟩))
 go_region_with (first
  | (go_at_call 126;refine (cL _ _ _ (uP.next bgo) ((zYa (W:=w6) (g:=w6.heap.size) (V:=1) (vi:=1) rfl rfl (by decide)).next bgo)).mono ?_;rintro r w8 ⟨v8,rfl,u8,hb8⟩;replace hb8:=zMe (w0:=w6) bgo hb8;obtain ⟨_,_,_,_,hA8,_⟩:=wz w hb8;obtain ⟨_,_,_,_⟩:=zg hb8 w1.heap.size (w1.heap.size+1);clear hb8)
  | (go_at_call 62;refine wk w (cB _ _ u8) ?_;intro w9 hb9 _ _ _ _ hA9 _;obtain ⟨_,_,_,_⟩:=zg hb9 w1.heap.size (w1.heap.size+1);clear hb9))
 all_goals go_wp2
 all_goals exact bodyPost_ret (by simp only [results,Tryz.results67];go_simp) rfl ⟨rfl,bgo⟩
theorem rnd_nx (X:Bool)(P1 ML U:Nat)(x2:Int)(Fl:Int)
  (cW:∀ W a b,NT 7000 A a W->NT 7000 Z b W->Calls Tryz.prog 131 #[.int .i64 d,.bool s,a,b] W fun r w'=>∃ v,r=.returned (.tuple #[v,.bool true])/\NT 41000 C0 v w'/\Below W.heap.size W w') (hsv:¬ 0<=sgv)
  (hmo:¬ mo<q)
  (cM:∀ W v,NT 41000 C0 v W->Calls Tryz.prog 133 #[v,.int .i64 q,.int .i64 want,zEb n nm wd pr ex le mo pa dn] W fun r w'=>∃ v,r=.returned (.tuple #[v,.int .i64 x2])/\NT 41000 U v w'/\Below W.heap.size W w')
  (cB:∀ W v,NT 41000 U v W->CB 62 #[v] W (A4 U)) :
  CB 67 #[.int .i64 n,.int .i64 d,.bool s,.slice (some ⟨gv,0,none⟩) kv cv,vd,.int .i64 exp,.int .i64 want] w (.tuple #[DV 1 s false x2 U,.int .i64 0]):=by
 have hsm:=zAa
 have hq2:-(-q)=q:=by omega
 (try unfold DV at *)
 (try unfold A4 at *)
 go_enter Tryz.func67,Tryz.ntmps67
 go_wp2_with (first
  | (go_at_call 20;refine wk w (cO _) ?_;intro w1 hb1 _ _ _ _ hA1 _;clear hb1;have q1a:w.heap.size<w1.heap.size+1+1:=(by omega);have q1b:w1.heap.size<w1.heap.size+1+1:=(by omega))
  | (go_at_call 65;refine (cS1 _ bgo).mono ?_;rintro r w2 ⟨a1,b1,rfl,uA,uB,hb2⟩;clear cS1;obtain ⟨_,_,_,_,hA2,_⟩:=wz w hb2;obtain ⟨_,_,_,_⟩:=zg hb2 w1.heap.size (w1.heap.size+1);clear hb2)
  | (go_at_call 130;refine (cT _ _ _ uA uB).mono ?_;rintro r w3 ⟨rfl,hb3⟩;have uA3:=uA.next hb3;have uB3:=uB.next hb3;clear cT uA uB;obtain ⟨_,_,_,_,hA3,_⟩:=wz w hb3;obtain ⟨_,_,_,_⟩:=zg hb3 w1.heap.size (w1.heap.size+1);clear hb3)
  | (go_at_call 65;refine (cS2 _ _ _ uA3 uB3).mono ?_;rintro r w4 ⟨a2,b2,rfl,uC,uD,hb4⟩;clear cS2 uA3 uB3;obtain ⟨_,_,_,_,hA4,_⟩:=wz w hb4;obtain ⟨_,_,_,_⟩:=zg hb4 w1.heap.size (w1.heap.size+1);clear hb4)
  | (go_at_call 131;refine (cW _ _ _ uC uD).mono ?_;rintro r w5 ⟨vc,rfl,uE,hb5⟩;clear cW uC uD;obtain ⟨_,_,_,_,hA5,_⟩:=wz w hb5;obtain ⟨_,_,_,_⟩:=zg hb5 w1.heap.size (w1.heap.size+1);clear hb5)
  | (go_at_call 64;refine (cP _).mono ?_;rintro r w6 ⟨vp,rfl,uP,hb6⟩;have uE6:=uE.next hb6;clear cP uE;obtain ⟨_,_,_,_,hA6,_⟩:=wz w hb6;obtain ⟨_,_,_,_⟩:=zg hb6 w1.heap.size (w1.heap.size+1);clear hb6)
  | (go_at_call 88;refine (cC _ _ _ (uE6.nv.more (by decide)) uP).mono ?_;rintro r w0 ⟨rfl,rfl⟩;clear cC)
  | (go_at_call 133;refine (cM _ _ uE6).mono ?_;rintro r w8 ⟨v8,rfl,u8,hb8⟩;clear cM;obtain ⟨_,_,_,_,hA8,_⟩:=wz w hb8;obtain ⟨_,_,_,_⟩:=zg hb8 w1.heap.size (w1.heap.size+1);clear hb8)
  | (go_at_call 62;refine wk w (cB _ _ u8) ?_;intro w9 hb9 _ _ _ _ hA9 _;obtain ⟨_,_,_,_⟩:=zg hb9 w1.heap.size (w1.heap.size+1);clear hb9))
 exact bodyPost_ret (by simp only [results,Tryz.results67];go_simp) rfl ⟨rfl,bgo⟩
theorem rnd_ns (X:Bool)(P1 ML U:Nat)(x2:Int)(Fl:Int)
  (cW:∀ W a b,NT 7000 A a W->NT 7000 Z b W->Calls Tryz.prog 131 #[.int .i64 d,.bool s,a,b] W fun r w'=>∃ v,r=.returned (.tuple #[v,.bool false])/\NV 41002 C0 v w'/\Below W.heap.size W w') (hsv:¬ 0<=sgv)
  (hmo:¬ mo<q)
  (cB:∀ W v,NV 41002 C0 v W->CB 62 #[v] W (A4 C0)) (hlow:E<le+pr-1) :
  CB 67 #[.int .i64 n,.int .i64 d,.bool s,.slice (some ⟨gv,0,none⟩) kv cv,vd,.int .i64 exp,.int .i64 want] w (.tuple #[DV 1 s false (q) C0,.int .i64 12]):=by
 have hsm:=zAa
 have hq2:-(-q)=q:=by omega
 (try unfold DV at *)
 (try unfold A4 at *)
 go_enter Tryz.func67,Tryz.ntmps67
 go_wp2_with (first
  | (go_at_call 20;refine wk w (cO _) ?_;intro w1 hb1 _ _ _ _ hA1 _;clear hb1;have q1a:w.heap.size<w1.heap.size+1+1:=(by omega);have q1b:w1.heap.size<w1.heap.size+1+1:=(by omega))
  | (go_at_call 65;refine (cS1 _ bgo).mono ?_;rintro r w2 ⟨a1,b1,rfl,uA,uB,hb2⟩;clear cS1;obtain ⟨_,_,_,_,hA2,_⟩:=wz w hb2;obtain ⟨_,_,_,_⟩:=zg hb2 w1.heap.size (w1.heap.size+1);clear hb2)
  | (go_at_call 130;refine (cT _ _ _ uA uB).mono ?_;rintro r w3 ⟨rfl,hb3⟩;have uA3:=uA.next hb3;have uB3:=uB.next hb3;clear cT uA uB;obtain ⟨_,_,_,_,hA3,_⟩:=wz w hb3;obtain ⟨_,_,_,_⟩:=zg hb3 w1.heap.size (w1.heap.size+1);clear hb3)
  | (go_at_call 65;refine (cS2 _ _ _ uA3 uB3).mono ?_;rintro r w4 ⟨a2,b2,rfl,uC,uD,hb4⟩;clear cS2 uA3 uB3;obtain ⟨_,_,_,_,hA4,_⟩:=wz w hb4;obtain ⟨_,_,_,_⟩:=zg hb4 w1.heap.size (w1.heap.size+1);clear hb4)
  | (go_at_call 131;refine (cW _ _ _ uC uD).mono ?_;rintro r w5 ⟨vc,rfl,uE,hb5⟩;clear cW uC uD;obtain ⟨_,_,_,_,hA5,_⟩:=wz w hb5;obtain ⟨_,_,_,_⟩:=zg hb5 w1.heap.size (w1.heap.size+1);clear hb5)
  | (go_at_call 64;refine (cP _).mono ?_;rintro r w6 ⟨vp,rfl,uP,hb6⟩;have uE6:=uE.next hb6;clear cP uE;obtain ⟨_,_,_,_,hA6,_⟩:=wz w hb6;obtain ⟨_,_,_,_⟩:=zg hb6 w1.heap.size (w1.heap.size+1);clear hb6)
  | (go_at_call 88;refine (cC _ _ _ uE6 uP).mono ?_;rintro r w0 ⟨rfl,rfl⟩;clear cC)
  | (go_at_call 62;refine wk w (cB _ _ uE6) ?_;intro w9 hb9 _ _ _ _ hA9 _;obtain ⟨_,_,_,_⟩:=zg hb9 w1.heap.size (w1.heap.size+1);clear hb9))
 exact bodyPost_ret (by simp only [results,Tryz.results67];go_simp) rfl ⟨rfl,bgo⟩
theorem rnd_nr (X:Bool)(P1 ML U:Nat)(x2:Int)(Fl:Int)
  (cW:∀ W a b,NT 7000 A a W->NT 7000 Z b W->Calls Tryz.prog 131 #[.int .i64 d,.bool s,a,b] W fun r w'=>∃ v,r=.returned (.tuple #[v,.bool false])/\NV 41002 C0 v w'/\Below W.heap.size W w') (hsv:¬ 0<=sgv)
  (hmo:¬ mo<q)
  (cB:∀ W v,NV 41002 C0 v W->CB 62 #[v] W (A4 C0)) (hlow:¬ E<le+pr-1) :
  CB 67 #[.int .i64 n,.int .i64 d,.bool s,.slice (some ⟨gv,0,none⟩) kv cv,vd,.int .i64 exp,.int .i64 want] w (.tuple #[DV 1 s false (q) C0,.int .i64 8]):=by
 have hsm:=zAa
 have hq2:-(-q)=q:=by omega
 (try unfold DV at *)
 (try unfold A4 at *)
 go_enter Tryz.func67,Tryz.ntmps67
 go_wp2_with (first
  | (go_at_call 20;refine wk w (cO _) ?_;intro w1 hb1 _ _ _ _ hA1 _;clear hb1;have q1a:w.heap.size<w1.heap.size+1+1:=(by omega);have q1b:w1.heap.size<w1.heap.size+1+1:=(by omega))
  | (go_at_call 65;refine (cS1 _ bgo).mono ?_;rintro r w2 ⟨a1,b1,rfl,uA,uB,hb2⟩;clear cS1;obtain ⟨_,_,_,_,hA2,_⟩:=wz w hb2;obtain ⟨_,_,_,_⟩:=zg hb2 w1.heap.size (w1.heap.size+1);clear hb2)
  | (go_at_call 130;refine (cT _ _ _ uA uB).mono ?_;rintro r w3 ⟨rfl,hb3⟩;have uA3:=uA.next hb3;have uB3:=uB.next hb3;clear cT uA uB;obtain ⟨_,_,_,_,hA3,_⟩:=wz w hb3;obtain ⟨_,_,_,_⟩:=zg hb3 w1.heap.size (w1.heap.size+1);clear hb3)
  | (go_at_call 65;refine (cS2 _ _ _ uA3 uB3).mono ?_;rintro r w4 ⟨a2,b2,rfl,uC,uD,hb4⟩;clear cS2 uA3 uB3;obtain ⟨_,_,_,_,hA4,_⟩:=wz w hb4;obtain ⟨_,_,_,_⟩:=zg hb4 w1.heap.size (w1.heap.size+1);clear hb4)
  | (go_at_call 131;refine (cW _ _ _ uC uD).mono ?_;rintro r w5 ⟨vc,rfl,uE,hb5⟩;clear cW uC uD;obtain ⟨_,_,_,_,hA5,_⟩:=wz w hb5;obtain ⟨_,_,_,_⟩:=zg hb5 w1.heap.size (w1.heap.size+1);clear hb5)
  | (go_at_call 64;refine (cP _).mono ?_;rintro r w6 ⟨vp,rfl,uP,hb6⟩;have uE6:=uE.next hb6;clear cP uE;obtain ⟨_,_,_,_,hA6,_⟩:=wz w hb6;obtain ⟨_,_,_,_⟩:=zg hb6 w1.heap.size (w1.heap.size+1);clear hb6)
  | (go_at_call 88;refine (cC _ _ _ uE6 uP).mono ?_;rintro r w0 ⟨rfl,rfl⟩;clear cC)
  | (go_at_call 62;refine wk w (cB _ _ uE6) ?_;intro w9 hb9 _ _ _ _ hA9 _;obtain ⟨_,_,_,_⟩:=zg hb9 w1.heap.size (w1.heap.size+1);clear hb9))
 exact bodyPost_ret (by simp only [results,Tryz.results67];go_simp) rfl ⟨rfl,bgo⟩
theorem rnd_ci (X:Bool)(P1 ML U:Nat)(x2:Int)(Fl:Int)
  (cW:∀ W a b,NT 7000 A a W->NT 7000 Z b W->Calls Tryz.prog 131 #[.int .i64 d,.bool s,a,b] W fun r w'=>∃ v,r=.returned (.tuple #[v,.bool X])/\NV 41002 C0 v w'/\Below W.heap.size W w') (hsv:0<=sgv)
  (cP1:∀ W,CE 64 #[.int .u64 10,.int .i64 (pr-1)] W (NT 4000 P1))
  (hmo:mo<q+1)
  (cF:∀ W,CQ 132 #[.int .i64 d,.bool s] W (.bool true)) :
  CB 67 #[.int .i64 n,.int .i64 d,.bool s,.slice (some ⟨gv,0,none⟩) kv cv,vd,.int .i64 exp,.int .i64 want] w (.tuple #[.agg #[.int .i64 2,.bool s,.bool false,.int .i64 0,.int .u64 0,.int .u64 0,.int .u64 0,.int .u64 0],.int .i64 10]):=by
 have hsm:=zAa
 have hq2:-(-q)=q:=by omega
 (try unfold DV at *)
 (try unfold A4 at *)
 go_enter Tryz.func67,Tryz.ntmps67
 go_wp2_with (first
  | (go_at_call 20;refine wk w (cO _) ?_;intro w1 hb1 _ _ _ _ hA1 _;clear hb1;have q1a:w.heap.size<w1.heap.size+1+1:=(by omega);have q1b:w1.heap.size<w1.heap.size+1+1:=(by omega))
  | (go_at_call 65;refine (cS1 _ bgo).mono ?_;rintro r w2 ⟨a1,b1,rfl,uA,uB,hb2⟩;clear cS1;obtain ⟨_,_,_,_,hA2,_⟩:=wz w hb2;obtain ⟨_,_,_,_⟩:=zg hb2 w1.heap.size (w1.heap.size+1);clear hb2)
  | (go_at_call 130;refine (cT _ _ _ uA uB).mono ?_;rintro r w3 ⟨rfl,hb3⟩;have uA3:=uA.next hb3;have uB3:=uB.next hb3;clear cT uA uB;obtain ⟨_,_,_,_,hA3,_⟩:=wz w hb3;obtain ⟨_,_,_,_⟩:=zg hb3 w1.heap.size (w1.heap.size+1);clear hb3)
  | (go_at_call 65;refine (cS2 _ _ _ uA3 uB3).mono ?_;rintro r w4 ⟨a2,b2,rfl,uC,uD,hb4⟩;clear cS2 uA3 uB3;obtain ⟨_,_,_,_,hA4,_⟩:=wz w hb4;obtain ⟨_,_,_,_⟩:=zg hb4 w1.heap.size (w1.heap.size+1);clear hb4)
  | (go_at_call 131;refine (cW _ _ _ uC uD).mono ?_;rintro r w5 ⟨vc,rfl,uE,hb5⟩;clear cW uC uD;obtain ⟨_,_,_,_,hA5,_⟩:=wz w hb5;obtain ⟨_,_,_,_⟩:=zg hb5 w1.heap.size (w1.heap.size+1);clear hb5)
  | (go_at_call 64;refine (cP _).mono ?_;rintro r w6 ⟨vp,rfl,uP,hb6⟩;have uE6:=uE.next hb6;clear cP uE;obtain ⟨_,_,_,_,hA6,_⟩:=wz w hb6;obtain ⟨_,_,_,_⟩:=zg hb6 w1.heap.size (w1.heap.size+1);clear hb6)
  | (go_at_call 88;refine (cC _ _ _ uE6 uP).mono ?_;rintro r w0 ⟨rfl,rfl⟩;clear cC)
  | (go_at_call 64;refine (cP1 _).mono ?_;rintro r w7 ⟨v1,rfl,u1,hb7⟩;have uP7:=uP.next hb7;clear cP1;obtain ⟨_,_,_,_,hA7,_⟩:=wz w hb7;obtain ⟨_,_,_,_⟩:=zg hb7 w1.heap.size (w1.heap.size+1);clear hb7)
  | (go_at_call 132;refine (cF _).mono ?_;rintro r w0 ⟨rfl,rfl⟩))
 exact bodyPost_ret (by simp only [results,Tryz.results67];go_simp) rfl ⟨rfl,bgo⟩
theorem rnd_cm (X:Bool)(P1 ML U:Nat)(x2:Int)(Fl:Int)
  (cW:∀ W a b,NT 7000 A a W->NT 7000 Z b W->Calls Tryz.prog 131 #[.int .i64 d,.bool s,a,b] W fun r w'=>∃ v,r=.returned (.tuple #[v,.bool X])/\NV 41002 C0 v w'/\Below W.heap.size W w') (hsv:0<=sgv)
  (cP1:∀ W,CE 64 #[.int .u64 10,.int .i64 (pr-1)] W (NT 4000 P1))
  (hmo:mo<q+1)
  (cF:∀ W,CQ 132 #[.int .i64 d,.bool s] W (.bool false))
  (cL:∀ W v v',NT 4000 PP v W->NV 1 1 v' W->CE 126 #[v,v'] W (NV 4000 ML))
  (cB:∀ W v,NV 4000 ML v W->CB 62 #[v] W (A4 ML)) :
  CB 67 #[.int .i64 n,.int .i64 d,.bool s,.slice (some ⟨gv,0,none⟩) kv cv,vd,.int .i64 exp,.int .i64 want] w (.tuple #[DV 1 s false mo ML,.int .i64 10]):=by
 have hsm:=zAa
 have hq2:-(-q)=q:=by omega
 (try unfold DV at *)
 (try unfold A4 at *)
 go_enter Tryz.func67,Tryz.ntmps67
 go_wp2_with (first
  | (go_at_call 20;refine wk w (cO _) ?_;intro w1 hb1 _ _ _ _ hA1 _;clear hb1;have q1a:w.heap.size<w1.heap.size+1+1:=(by omega);have q1b:w1.heap.size<w1.heap.size+1+1:=(by omega))
  | (go_at_call 65;refine (cS1 _ bgo).mono ?_;rintro r w2 ⟨a1,b1,rfl,uA,uB,hb2⟩;clear cS1;obtain ⟨_,_,_,_,hA2,_⟩:=wz w hb2;obtain ⟨_,_,_,_⟩:=zg hb2 w1.heap.size (w1.heap.size+1);clear hb2)
  | (go_at_call 130;refine (cT _ _ _ uA uB).mono ?_;rintro r w3 ⟨rfl,hb3⟩;have uA3:=uA.next hb3;have uB3:=uB.next hb3;clear cT uA uB;obtain ⟨_,_,_,_,hA3,_⟩:=wz w hb3;obtain ⟨_,_,_,_⟩:=zg hb3 w1.heap.size (w1.heap.size+1);clear hb3)
  | (go_at_call 65;refine (cS2 _ _ _ uA3 uB3).mono ?_;rintro r w4 ⟨a2,b2,rfl,uC,uD,hb4⟩;clear cS2 uA3 uB3;obtain ⟨_,_,_,_,hA4,_⟩:=wz w hb4;obtain ⟨_,_,_,_⟩:=zg hb4 w1.heap.size (w1.heap.size+1);clear hb4)
  | (go_at_call 131;refine (cW _ _ _ uC uD).mono ?_;rintro r w5 ⟨vc,rfl,uE,hb5⟩;clear cW uC uD;obtain ⟨_,_,_,_,hA5,_⟩:=wz w hb5;obtain ⟨_,_,_,_⟩:=zg hb5 w1.heap.size (w1.heap.size+1);clear hb5)
  | (go_at_call 64;refine (cP _).mono ?_;rintro r w6 ⟨vp,rfl,uP,hb6⟩;have uE6:=uE.next hb6;clear cP uE;obtain ⟨_,_,_,_,hA6,_⟩:=wz w hb6;obtain ⟨_,_,_,_⟩:=zg hb6 w1.heap.size (w1.heap.size+1);clear hb6)
  | (go_at_call 88;refine (cC _ _ _ uE6 uP).mono ?_;rintro r w0 ⟨rfl,rfl⟩;clear cC)
  | (go_at_call 64;refine (cP1 _).mono ?_;rintro r w7 ⟨v1,rfl,u1,hb7⟩;have uP7:=uP.next hb7;clear cP1;obtain ⟨_,_,_,_,hA7,_⟩:=wz w hb7;obtain ⟨_,_,_,_⟩:=zg hb7 w1.heap.size (w1.heap.size+1);clear hb7)
  | (go_at_call 132;refine (cF _).mono ?_;rintro r w0 ⟨rfl,rfl⟩))
 go_region_with (first
  | (go_at_call 126;refine (cL _ _ _ (uP7.next bgo) ((zYa (W:=w7) (g:=w7.heap.size) (V:=1) (vi:=1) rfl rfl (by decide)).next bgo)).mono ?_;rintro r w8 ⟨v8,rfl,u8,hb8⟩;replace hb8:=zMe (w0:=w7) bgo hb8;obtain ⟨_,_,_,_,hA8,_⟩:=wz w hb8;obtain ⟨_,_,_,_⟩:=zg hb8 w1.heap.size (w1.heap.size+1);clear hb8)
  | (go_at_call 62;refine wk w (cB _ _ u8) ?_;intro w9 hb9 _ _ _ _ hA9 _;obtain ⟨_,_,_,_⟩:=zg hb9 w1.heap.size (w1.heap.size+1);clear hb9))
 all_goals go_wp2
 all_goals exact bodyPost_ret (by simp only [results,Tryz.results67];go_simp) rfl ⟨rfl,bgo⟩
theorem rnd_cs (X:Bool)(P1 ML U:Nat)(x2:Int)(Fl:Int)
  (cW:∀ W a b,NT 7000 A a W->NT 7000 Z b W->Calls Tryz.prog 131 #[.int .i64 d,.bool s,a,b] W fun r w'=>∃ v,r=.returned (.tuple #[v,.bool false])/\NV 41002 C0 v w'/\Below W.heap.size W w') (hsv:0<=sgv)
  (cP1:∀ W,CE 64 #[.int .u64 10,.int .i64 (pr-1)] W (NT 4000 P1))
  (hmo:¬ mo<q+1)
  (cB:∀ W v,NT 4000 P1 v W->CB 62 #[v] W (A4 P1)) (hlow:E<le+pr-1) :
  CB 67 #[.int .i64 n,.int .i64 d,.bool s,.slice (some ⟨gv,0,none⟩) kv cv,vd,.int .i64 exp,.int .i64 want] w (.tuple #[DV 1 s false (q+1) P1,.int .i64 12]):=by
 have hsm:=zAa
 have hq2:-(-q)=q:=by omega
 (try unfold DV at *)
 (try unfold A4 at *)
 go_enter Tryz.func67,Tryz.ntmps67
 go_wp2_with (first
  | (go_at_call 20;refine wk w (cO _) ?_;intro w1 hb1 _ _ _ _ hA1 _;clear hb1;have q1a:w.heap.size<w1.heap.size+1+1:=(by omega);have q1b:w1.heap.size<w1.heap.size+1+1:=(by omega))
  | (go_at_call 65;refine (cS1 _ bgo).mono ?_;rintro r w2 ⟨a1,b1,rfl,uA,uB,hb2⟩;clear cS1;obtain ⟨_,_,_,_,hA2,_⟩:=wz w hb2;obtain ⟨_,_,_,_⟩:=zg hb2 w1.heap.size (w1.heap.size+1);clear hb2)
  | (go_at_call 130;refine (cT _ _ _ uA uB).mono ?_;rintro r w3 ⟨rfl,hb3⟩;have uA3:=uA.next hb3;have uB3:=uB.next hb3;clear cT uA uB;obtain ⟨_,_,_,_,hA3,_⟩:=wz w hb3;obtain ⟨_,_,_,_⟩:=zg hb3 w1.heap.size (w1.heap.size+1);clear hb3)
  | (go_at_call 65;refine (cS2 _ _ _ uA3 uB3).mono ?_;rintro r w4 ⟨a2,b2,rfl,uC,uD,hb4⟩;clear cS2 uA3 uB3;obtain ⟨_,_,_,_,hA4,_⟩:=wz w hb4;obtain ⟨_,_,_,_⟩:=zg hb4 w1.heap.size (w1.heap.size+1);clear hb4)
  | (go_at_call 131;refine (cW _ _ _ uC uD).mono ?_;rintro r w5 ⟨vc,rfl,uE,hb5⟩;clear cW uC uD;obtain ⟨_,_,_,_,hA5,_⟩:=wz w hb5;obtain ⟨_,_,_,_⟩:=zg hb5 w1.heap.size (w1.heap.size+1);clear hb5)
  | (go_at_call 64;refine (cP _).mono ?_;rintro r w6 ⟨vp,rfl,uP,hb6⟩;have uE6:=uE.next hb6;clear cP uE;obtain ⟨_,_,_,_,hA6,_⟩:=wz w hb6;obtain ⟨_,_,_,_⟩:=zg hb6 w1.heap.size (w1.heap.size+1);clear hb6)
  | (go_at_call 88;refine (cC _ _ _ uE6 uP).mono ?_;rintro r w0 ⟨rfl,rfl⟩;clear cC)
  | (go_at_call 64;refine (cP1 _).mono ?_;rintro r w7 ⟨v1,rfl,u1,hb7⟩;have uP7:=uP.next hb7;clear cP1;obtain ⟨_,_,_,_,hA7,_⟩:=wz w hb7;obtain ⟨_,_,_,_⟩:=zg hb7 w1.heap.size (w1.heap.size+1);clear hb7)
  | (go_at_call 62;refine wk w (cB _ _ u1) ?_;intro w9 hb9 _ _ _ _ hA9 _;obtain ⟨_,_,_,_⟩:=zg hb9 w1.heap.size (w1.heap.size+1);clear hb9))
 exact bodyPost_ret (by simp only [results,Tryz.results67];go_simp) rfl ⟨rfl,bgo⟩
theorem rnd_cr (X:Bool)(P1 ML U:Nat)(x2:Int)(Fl:Int)
  (cW:∀ W a b,NT 7000 A a W->NT 7000 Z b W->Calls Tryz.prog 131 #[.int .i64 d,.bool s,a,b] W fun r w'=>∃ v,r=.returned (.tuple #[v,.bool false])/\NV 41002 C0 v w'/\Below W.heap.size W w') (hsv:0<=sgv)
  (cP1:∀ W,CE 64 #[.int .u64 10,.int .i64 (pr-1)] W (NT 4000 P1))
  (hmo:¬ mo<q+1)
  (cB:∀ W v,NT 4000 P1 v W->CB 62 #[v] W (A4 P1)) (hlow:¬ E<le+pr-1) :
  CB 67 #[.int .i64 n,.int .i64 d,.bool s,.slice (some ⟨gv,0,none⟩) kv cv,vd,.int .i64 exp,.int .i64 want] w (.tuple #[DV 1 s false (q+1) P1,.int .i64 8]):=by
 have hsm:=zAa
 have hq2:-(-q)=q:=by omega
 (try unfold DV at *)
 (try unfold A4 at *)
 go_enter Tryz.func67,Tryz.ntmps67
 go_wp2_with (first
  | (go_at_call 20;refine wk w (cO _) ?_;intro w1 hb1 _ _ _ _ hA1 _;clear hb1;have q1a:w.heap.size<w1.heap.size+1+1:=(by omega);have q1b:w1.heap.size<w1.heap.size+1+1:=(by omega))
  | (go_at_call 65;refine (cS1 _ bgo).mono ?_;rintro r w2 ⟨a1,b1,rfl,uA,uB,hb2⟩;clear cS1;obtain ⟨_,_,_,_,hA2,_⟩:=wz w hb2;obtain ⟨_,_,_,_⟩:=zg hb2 w1.heap.size (w1.heap.size+1);clear hb2)
  | (go_at_call 130;refine (cT _ _ _ uA uB).mono ?_;rintro r w3 ⟨rfl,hb3⟩;have uA3:=uA.next hb3;have uB3:=uB.next hb3;clear cT uA uB;obtain ⟨_,_,_,_,hA3,_⟩:=wz w hb3;obtain ⟨_,_,_,_⟩:=zg hb3 w1.heap.size (w1.heap.size+1);clear hb3)
  | (go_at_call 65;refine (cS2 _ _ _ uA3 uB3).mono ?_;rintro r w4 ⟨a2,b2,rfl,uC,uD,hb4⟩;clear cS2 uA3 uB3;obtain ⟨_,_,_,_,hA4,_⟩:=wz w hb4;obtain ⟨_,_,_,_⟩:=zg hb4 w1.heap.size (w1.heap.size+1);clear hb4)
  | (go_at_call 131;refine (cW _ _ _ uC uD).mono ?_;rintro r w5 ⟨vc,rfl,uE,hb5⟩;clear cW uC uD;obtain ⟨_,_,_,_,hA5,_⟩:=wz w hb5;obtain ⟨_,_,_,_⟩:=zg hb5 w1.heap.size (w1.heap.size+1);clear hb5)
  | (go_at_call 64;refine (cP _).mono ?_;rintro r w6 ⟨vp,rfl,uP,hb6⟩;have uE6:=uE.next hb6;clear cP uE;obtain ⟨_,_,_,_,hA6,_⟩:=wz w hb6;obtain ⟨_,_,_,_⟩:=zg hb6 w1.heap.size (w1.heap.size+1);clear hb6)
  | (go_at_call 88;refine (cC _ _ _ uE6 uP).mono ?_;rintro r w0 ⟨rfl,rfl⟩;clear cC)
  | (go_at_call 64;refine (cP1 _).mono ?_;rintro r w7 ⟨v1,rfl,u1,hb7⟩;have uP7:=uP.next hb7;clear cP1;obtain ⟨_,_,_,_,hA7,_⟩:=wz w hb7;obtain ⟨_,_,_,_⟩:=zg hb7 w1.heap.size (w1.heap.size+1);clear hb7)
  | (go_at_call 62;refine wk w (cB _ _ u1) ?_;intro w9 hb9 _ _ _ _ hA9 _;obtain ⟨_,_,_,_⟩:=zg hb9 w1.heap.size (w1.heap.size+1);clear hb9))
 exact bodyPost_ret (by simp only [results,Tryz.results67];go_simp) rfl ⟨rfl,bgo⟩
end
end
end Go.Proofs.YtahfkpjhlbiamaaGreatDoor
