/-
  Texts that the proof leans on, joined: Ub, Vc, Vp, Xa, Xc, Xd, Sc, Uc, Sd9, Se9, Sj9, Sk9, Sl9, Sm9, Xf, Xs, Xn, Ss9, Su9, Fl, Sw9, Sx9, Sh8.
-/
import Derived.Test.YtpabnhlfbjkmaaaGreatDoorL15
import Derived.Test.YtpabnhlfbjkmaaaGreatDoorL1
import Derived.Test.YtpabnhlfbjkmaaaGreatDoorL7
import Derived.Test.YtpabnhlfbjkmaaaGreatDoorL12
import Derived.Deep.Cut
import Derived.Deep.CutRange
import Derived.Deep.RegionWith
import Derived.Test.YtpabnhlfbjkmaaaGreatDoorL2
import Derived.Test.YtpabnhlfbjkmaaaGreatDoorL10
import Derived.Test.YtpabnhlfbjkmaaaGreatDoorL13
import Derived.Test.YtpabnhlfbjkmaaaGreatDoorL8
set_option linter.unusedVariables false
set_option linter.unusedSectionVars false
set_option linter.unusedSimpArgs false
set_option maxHeartbeats 8000000
set_option maxRecDepth 20000
namespace Go.Proofs.YtpabnhlfbjkmaaaGreatDoor
open Go.RowKit
theorem whC_exact (d:Int) (s:Bool) {B:Nat} (hB:0<B) (c:Nat):whC d s (B*c) B=c:=by
 unfold whC faB
 rw [Nat.mul_mod_right,if_pos rfl,Nat.mul_div_cancel_left _ hB]
 simp
theorem whC_mul (d:Int) (s:Bool) (A B:Nat) {k:Nat} (hk:0<k):whC d s (A*k) (B*k)=whC d s A B:=by
 unfold whC
 rw [Nat.mul_div_mul_right _ _ hk,Nat.mul_mod_mul_right,fa_sc _ _ _ _ _ _ hk]
theorem dk_keep {f:DF} (hf:f.ok) (d:Int) (s:Bool) {k:Nat} {x E:Int} (hk0:0<k) (hk:k<10^(3*f.j+1)) (hx0:f.l<=x) (hx1:x<=f.m) (h:TnE (k*10^x.toNat) (10^(-x).toNat) E) :
  dkD f d s (k*10^x.toNat) (10^(-x).toNat) E x=⟨1,s,false,x,k⟩/\dkF f d s (k*10^x.toNat) (10^(-x).toNat) E=0:=by
 have hE:E<=x+3*f.j:=by
  rcases Int.lt_or_le (x+3*f.j) E with q | q
  ·exfalso
   have h1:=tnG_le h.1 (show x+((3*f.j+1:Nat):Int)<=E by omega)
   rw [tnG_add] at h1
   have e:10^(-x).toNat*10^x.toNat*10^(3*f.j+1)=10^(3*f.j+1)*(10^x.toNat*10^(-x).toNat):=by simp only [Nat.mul_comm,Nat.mul_left_comm]
   rw [e,Nat.mul_assoc k] at h1
   have:=(Nat.mul_le_mul_right_iff (Nat.mul_pos (ten_pos x.toNat) (ten_pos (-x).toNat))).1 h1
   omega
  ·exact q
 have hq:dkQ f E<=x:=by unfold dkQ;omega
 obtain ⟨p,hp⟩:∃ p:Nat,x=dkQ f E+p:=⟨(x-dkQ f E).toNat,by omega⟩
 have hAZ:dkA (k*10^x.toNat) (dkQ f E)=dkZ (10^(-x).toNat) (dkQ f E)*(k*10^p):=by
  unfold dkA dkZ
  generalize dkQ f E=q at *
  rw [← Nat.pow_add,Nat.mul_assoc,← Nat.pow_add,Nat.mul_left_comm,← Nat.pow_add]
  congr 2
  omega
 have hZ:=dkZ_pos (ten_pos (-x).toNat) (dkQ f E)
 have hC0:dkC0 f d s (k*10^x.toNat) (10^(-x).toNat) E=k*10^p:=by
  unfold dkC0
  rw [hAZ,whC_exact d s hZ]
 have hX:dkX f (k*10^x.toNat) (10^(-x).toNat) E=true:=by
  unfold dkX
  rw [hAZ,Nat.mul_mod_right];rfl
 have hlt:k*10^p<10^(3*f.j+1):=by
  have h1:=dk_lt (f:=f) h
  rw [hAZ] at h1
  exact Nat.lt_of_mul_lt_mul_left h1
 have hEe:dkE f d s (k*10^x.toNat) (10^(-x).toNat) E=dkQ f E:=by unfold dkE;rw [hC0,if_neg (by omega)]
 have hCc:dkC f d s (k*10^x.toNat) (10^(-x).toNat) E=k*10^p:=by unfold dkC;rw [hC0,if_neg (by omega)]
 have hM:dkM f d s (k*10^x.toNat) (10^(-x).toNat) E x=(k,x):=by
  unfold dkM
  rw [hEe,hCc]
  have:=mbr_hits (m:=f.m) p (f.m-dkQ f E).toNat k (dkQ f E) (by omega) (by omega)
  rw [← hp] at this
  exact this
 have hm:¬ f.m<dkQ f E:=by omega
 unfold dkD dkF
 refine ⟨?_,?_⟩
 ·rw [hEe,if_neg hm,hX,if_pos rfl,hM]
 ·rw [hEe,if_neg hm,hX];rfl
section
theorem W4_nought {k:Nat} (hk:k<2^256):decide (W4 k 0=0/\W4 k 1=0/\W4 k 2=0/\W4 k 3=0)=decide (k=0):=by
 by_cases h:k=0
 ·subst h
  rw [decide_eq_true (by simp [W4_zero]),decide_eq_true rfl]
 ·rw [decide_eq_false h,decide_eq_false]
  rintro ⟨h0,h1,h2,h3⟩
  refine h (A4_inj hk (by decide) fun i hi=>?_)
  have:i=0∨i=1∨i=2∨i=3:=by omega
  rcases this with rfl | rfl | rfl | rfl
  ·rw [h0,W4_zero]
  ·rw [h1,W4_zero]
  ·rw [h2,W4_zero]
  ·rw [h3,W4_zero]
attribute [local irreducible] W4
section
variable (n:Int) (nm:ByteArray) (wd pr ex le mo pa:Int) (dn:Bool) (c x:Int) (s g:Bool) (k:Nat) (w:World)
theorem vis1_g:CB 26 #[IDec n nm wd pr ex le mo pa dn,DV 1 s true x k] w (.bool false):=by
 go_enter Tryz.func26,Tryz.ntmps26
 go_wp2
 go_ret
 exact ⟨rfl,bgo⟩
theorem vis1_b (cb:∀ W,CB 51 #[A4 k,.int .i64 10,.int .i64 pr] W (.bool false)) :
  CB 26 #[IDec n nm wd pr ex le mo pa dn,DV 1 s false x k] w (.bool false):=by
 unfold A4 at cb
 go_enter Tryz.func26,Tryz.ntmps26
 go_wp2_with (go_at_call 51;refine (cb _).mono ?_;rintro r w1 ⟨rfl,hb1⟩;obtain ⟨_,_,_,_,hA1,_⟩:=wz w hb1;obtain ⟨_,_⟩:=zf hb1 (w.heap.size+1);clear hb1)
 go_ret
 exact ⟨rfl,bgo⟩
theorem vis1_l (hx:¬ le<=x) (cb:∀ W,CB 51 #[A4 k,.int .i64 10,.int .i64 pr] W (.bool true)) :
  CB 26 #[IDec n nm wd pr ex le mo pa dn,DV 1 s false x k] w (.bool false):=by
 unfold A4 at cb
 go_enter Tryz.func26,Tryz.ntmps26
 go_wp2_with (go_at_call 51;refine (cb _).mono ?_;rintro r w1 ⟨rfl,hb1⟩;obtain ⟨_,_,_,_,hA1,_⟩:=wz w hb1;obtain ⟨_,_⟩:=zf hb1 (w.heap.size+1);clear hb1)
 go_ret
 exact ⟨rfl,bgo⟩
theorem vis1_m (hx:le<=x) (cb:∀ W,CB 51 #[A4 k,.int .i64 10,.int .i64 pr] W (.bool true)) :
  CB 26 #[IDec n nm wd pr ex le mo pa dn,DV 1 s false x k] w (.bool (decide (x<=mo))):=by
 unfold A4 at cb
 go_enter Tryz.func26,Tryz.ntmps26
 go_wp2_with (go_at_call 51;refine (cb _).mono ?_;rintro r w1 ⟨rfl,hb1⟩;obtain ⟨_,_,_,_,hA1,_⟩:=wz w hb1;obtain ⟨_,_⟩:=zf hb1 (w.heap.size+1);clear hb1)
 go_ret
 exact ⟨rfl,bgo⟩
theorem vis2_g:CB 26 #[IDec n nm wd pr ex le mo pa dn,DV 2 s true x k] w (.bool false):=by
 go_enter Tryz.func26,Tryz.ntmps26
 go_wp2
 go_ret
 exact ⟨rfl,bgo⟩
theorem vis2_k (hk:k<2^256) (h0:k≠0):CB 26 #[IDec n nm wd pr ex le mo pa dn,DV 2 s false x k] w (.bool false):=by
 have h24:=eq24 (W4 k 0) (W4 k 1) (W4 k 2) (W4 k 3) 0 0 0 0
 rw [W4_nought hk,decide_eq_false h0] at h24
 clear h0
 unfold DV at *
 go_enter Tryz.func26,Tryz.ntmps26
 go_wp2
 go_ret
 exact ⟨rfl,bgo⟩
theorem vis2_x (h0:k=0):CB 26 #[IDec n nm wd pr ex le mo pa dn,DV 2 s false x k] w (.bool (x == 0)):=by
 have h24:=eq24 (W4 k 0) (W4 k 1) (W4 k 2) (W4 k 3) 0 0 0 0
 rw [W4_nought (by rw [h0];decide),decide_eq_true h0] at h24
 clear h0
 unfold DV at *
 go_enter Tryz.func26,Tryz.ntmps26
 go_wp2
 go_ret
 exact ⟨rfl,bgo⟩
theorem vis3_x (hx:(x == 0)=false):CB 26 #[IDec n nm wd pr ex le mo pa dn,DV 3 s g x k] w (.bool false):=by
 go_enter Tryz.func26,Tryz.ntmps26
 go_wp2
 go_ret
 exact ⟨rfl,bgo⟩
theorem vis3_b (R:Bool) (cb:∀ W,CB 51 #[A4 k,.int .i64 10,.int .i64 pa] W (.bool R)) :
  CB 26 #[IDec n nm wd pr ex le mo pa dn,DV 3 s g 0 k] w (.bool R):=by
 unfold A4 at cb
 go_enter Tryz.func26,Tryz.ntmps26
 go_wp2_with (go_at_call 51;refine (cb _).mono ?_;rintro r w1 ⟨rfl,hb1⟩;obtain ⟨_,_,_,_,hA1,_⟩:=wz w hb1;obtain ⟨_,_⟩:=zf hb1 (w.heap.size+1);clear hb1)
 go_ret
 exact ⟨rfl,bgo⟩
theorem vis_o (h1:(c == 1)=false) (h2:(c == 2)=false) (h3:(c == 3)=false):CB 26 #[IDec n nm wd pr ex le mo pa dn,DV c s g x k] w (.bool false):=by
 go_enter Tryz.func26,Tryz.ntmps26
 go_wp2
 go_ret
 exact ⟨rfl,bgo⟩
end
instance (f:DF) (d:Dat):Decidable (vI f d):=inferInstanceAs (Decidable (_∨_))
theorem ris14 (f:DF) (hf:f.ok) (n:Int) (nm:ByteArray) (wd ex:Int) (dn:Bool) (d:Dat) (w:World) (hk:d.k<2^256) :
  CB 26 #[IDec n nm wd (3*(f.j:Int)+1) ex f.l (f.l+3*2^f.w-1) (3*(f.j:Int)) dn,d.v] w (.bool (decide (vI f d))):=by
 obtain ⟨c,s,g,x,k⟩:=d
 simp only at hk
 have hj:f.j<=11:=by rcases hf with ⟨h1,h2,h3,h4⟩ | ⟨h1,h2,h3,h4⟩ | ⟨h1,h2,h3,h4⟩ <;> omega
 have cb1:=fun W=>rbelowt k (3*f.j+1) W hk (by omega)
 rw [show ((3*f.j+1:Nat):Int)=3*(f.j:Int)+1 by omega] at cb1
 have cb3:=fun W=>rbelowt k (3*f.j) W hk (by omega)
 rw [show ((3*f.j:Nat):Int)=3*(f.j:Int) by omega] at cb3
 by_cases h1:c=1
 ·subst h1
  have e:vI f ⟨1,s,g,x,k⟩↔(g=false/\k<10^(3*f.j+1)/\f.l<=x/\x<=f.l+3*2^f.w-1):=by
   unfold vI
   simp
  rw [decide_eq_decide.2 e]
  cases g
  ·by_cases hb:k<10^(3*f.j+1)
   ·rw [decide_eq_true hb] at cb1
    by_cases hx:f.l<=x
    ·have:=vis1_m n nm wd _ ex f.l (f.l+3*2^f.w-1) (3*(f.j:Int)) dn x s k w hx cb1
     have e2:decide (x<=f.l+3*2^f.w-1)=decide ((false:Bool)=false/\k<10^(3*f.j+1)/\f.l<=x/\x<=f.l+3*2^f.w-1):=decide_eq_decide.2 ⟨fun h=>⟨rfl,hb,hx,h⟩,fun h=>h.2.2.2⟩
     rw [e2] at this
     exact this
    ·rw [decide_eq_false (fun h=>hx h.2.2.1)]
     exact vis1_l n nm wd _ ex f.l _ _ dn x s k w hx cb1
   ·rw [decide_eq_false hb] at cb1
    rw [decide_eq_false (fun h=>hb h.2.1)]
    exact vis1_b n nm wd _ ex f.l _ _ dn x s k w cb1
  ·rw [decide_eq_false (fun h=>by cases h.1)]
   exact vis1_g n nm wd _ ex f.l _ _ dn x s k w
 by_cases h2:c=2
 ·subst h2
  have e:vI f ⟨2,s,g,x,k⟩↔(g=false/\k=0/\x=0):=by
   unfold vI
   simp
  rw [decide_eq_decide.2 e]
  cases g
  ·by_cases hz:k=0
   ·have:=vis2_x n nm wd (3*(f.j:Int)+1) ex f.l (f.l+3*2^f.w-1) (3*(f.j:Int)) dn x s k w hz
    rw [show (x == 0)=decide (false=false/\k=0/\x=0) by rw [Bool.eq_iff_iff];simp [hz]] at this
    exact this
   ·rw [decide_eq_false (fun h=>hz h.2.1)]
    exact vis2_k n nm wd _ ex f.l _ _ dn x s k w hk hz
  ·rw [decide_eq_false (fun h=>by cases h.1)]
   exact vis2_g n nm wd _ ex f.l _ _ dn x s k w
 by_cases h3:c=3
 ·subst h3
  have e:vI f ⟨3,s,g,x,k⟩↔(x=0/\k<10^(3*f.j)):=by
   unfold vI
   simp
  rw [decide_eq_decide.2 e]
  by_cases hx:x=0
  ·subst hx
   have:=vis3_b n nm wd (3*(f.j:Int)+1) ex f.l (f.l+3*2^f.w-1) (3*(f.j:Int)) dn s g k w _ cb3
   rw [decide_eq_decide.2 (show (k<10^(3*f.j))↔((0:Int)=0/\k<10^(3*f.j)) from ⟨fun h=>⟨rfl,h⟩,fun h=>h.2⟩)] at this
   exact this
  ·rw [decide_eq_false (fun h=>hx h.1)]
   exact vis3_x n nm wd _ ex f.l _ _ dn x s g k w (by simp [hx])
 ·rw [decide_eq_false (show ¬ vI f ⟨c,s,g,x,k⟩ by unfold vI;simp [h1,h2,h3])]
  exact vis_o n nm wd _ ex f.l _ _ dn c x s g k w (by simp [h1]) (by simp [h2]) (by simp [h3])
end
section
theorem nt_unit {W:World} {g V:Nat} {vi:Int} (hg:g=W.heap.size) (hv:vi=(V:Int)) (hb:V<18446744073709551616) (h0:V≠0):NT 1 V (.slice (some ⟨g,0,none⟩) 1 1) (W.alloc (.cells #[.int .u64 vi] 22)):=by
 subst hg hv
 have h1:¬ ((V:Int)=0):=by omega
 exact ⟨_,1,1,oneW V,rfl,Nat.le_refl _,num_one W V (by omega),by simp [val,oneW],by simp [sizeL,oneW,h0]⟩
theorem nat_half (s m:Nat):s^m=(if m%2=1 then s else 1)*(s*s)^(m/2):=by
 have e:(s*s)^(m/2)=s^(2*(m/2)):=by rw [Nat.pow_mul];congr 1;rw [Nat.pow_succ,Nat.pow_succ,Nat.pow_zero,Nat.one_mul]
 rw [e]
 by_cases h:m%2=1
 ·rw [if_pos h,Nat.mul_comm,← Nat.pow_succ];congr 1;omega
 ·rw [if_neg h,Nat.one_mul];congr 1;omega
attribute [local irreducible] NT NV
theorem rpow_nt (b n:Nat) (w:World) (hb0:b≠0) (hb:b<18446744073709551616) (hn:n<=12000) :
  CE 25 #[.int .u64 (b:Int),.int .i64 (n:Int)] w (NT (4*n+2) (b^n)):=by
 have hN1:=(nt_unit (W:=w) (g:=w.heap.size) (V:=1) (vi:=1) rfl rfl (by decide) (by decide)).next (below1 _ (.cells #[.int .u64 (b:Int)] 22))
 have hN2:=nt_unit (W:=w.alloc (.cells #[.int .u64 1] 22)) (g:=w.heap.size+1) (V:=b) (vi:=(b:Int)) (by simp) rfl hb hb0
 have HB:Hid (Below w.heap.size w ((w.alloc (.cells #[.int .u64 1] 22)).alloc (.cells #[.int .u64 (b:Int)] 22))):=((Below.refl _ _).alloc (Nat.le_refl _) _).alloc (by simp) _
 go_enter Tryz.func25,Tryz.ntmps25
 go_wp2
 generalize (w.alloc (.cells #[.int .u64 1] 22)).alloc (.cells #[.int .u64 (b:Int)] 22)=wA at *
 go_loopw [1,5,6] (fun nv ov sv wr=>∃ (m P X Y:Nat),nv=.int .i64 (m:Int)/\m<=n/\1<=P/\m*P<=n/\P<=2*n+1/\NT (2*P-1) X ov wr/\NT (2*P-1) Y sv wr/\Hid (X*Y^m=b^n)/\Below w.heap.size w wr) (fun nv _ _ _=>(intOf nv).toNat)
 case atStart=>exact ⟨n,1,1,b,rfl,Nat.le_refl _,Nat.le_refl _,by omega,by omega,hN1,hN2,by show _=_;rw [Nat.one_mul],HB.out⟩
 case round =>
  clear hN1 hN2 HB
  obtain ⟨m,P,X,Y,rfl,hmn,hP,hmP,hP2,hN1,hN2,hv,hB⟩:=hrel
  by_cases h0:m=0
  ·subst h0
   have HV:Hid (X=b^n):=by show _=_;have:=hv.out;rw [Nat.pow_zero,Nat.mul_one] at this;exact this
   clear hN2 hv
   go_wp2
   go_ret
   exact ⟨_,rfl,by rw [← HV.out];exact hN1.more (by omega),hB⟩
  ·have hm0:(0:Int)<m:=by omega
   have hPn:P<=n:=by
    have:1*P<=m*P:=Nat.mul_le_mul_right P (by omega)
    omega
   have hq2:(m:Int)/2=((m/2:Nat):Int):=by omega
   have hr2:(m:Int)%2=((m%2:Nat):Int):=by omega
   have hmP':m/2*(2*P)<=n:=by
    have h1:m/2*2<=m:=Nat.div_mul_le_self m 2
    have h2:m/2*2*P<=m*P:=Nat.mul_le_mul_right P h1
    rw [← Nat.mul_assoc];omega
   have HPH:Hid (Y^m=(if m%2=1 then Y else 1)*(Y*Y)^(m/2)):=nat_half _ _
   generalize hq:m/2=q at *
   by_cases hodd:m%2=1
   ·rw [hodd] at hr2
    rw [if_pos hodd] at HPH
    have t1:=rtimes_nt (by omega) (by omega) hN1.nv hN2.nv
    by_cases hq0:q=0
    ·subst hq0
     have hq00:(m:Int)/2=0:=hq2
     clear hq2
     go_wp2_with (go_at_call 24;refine t1.mono ?_;rintro e w1 ⟨r1,rfl,hr1,hb1⟩;clear t1)
     have HV3:Hid (X*Y*Y^0=b^n):=by
      show _=_
      rw [← hv.out,HPH.out];simp
     have hN2':=hN2.next hb1
     have hB1:=hB.trans (hb1.mono hB.size)
     clear hN1 hN2 hv
     go_roundw
     case rel=>exact ⟨0,2*P,X*Y,Y,rfl,by omega,by omega,by omega,by omega,hr1.more (by omega),hN2'.more (by omega),HV3,hB1⟩
     case measure=>simp [intOf];omega
    ·have hq0':(0:Int)<q:=by omega
     go_wp2_with (go_at_call 24;refine t1.mono ?_;rintro e w1 ⟨r1,rfl,hr1,hb1⟩;clear t1)
     have hB1:=hB.trans (hb1.mono hB.size)
     have hN21:=hN2.next hb1
     have t2:=rtimes_nt (by omega) (by omega) hN21.nv hN21.nv
     go_wp2_with (go_at_call 24;refine t2.mono ?_;rintro e w2 ⟨r2,rfl,hr2',hb2⟩;clear t2)
     have HV3:Hid (X*Y*(Y*Y)^q=b^n):=by
      show _=_
      rw [← hv.out,HPH.out,Nat.mul_assoc]
     have hr1':=hr1.next hb2
     have hB2:=hB1.trans (hb2.mono hB1.size)
     clear hN1 hN2 hN21 hr1 hv
     go_roundw
     case rel=>exact ⟨q,2*P,X*Y,Y*Y,rfl,by omega,by omega,by omega,by omega,hr1'.more (by omega),hr2'.more (by omega),HV3,hB2⟩
     case measure=>simp [intOf];omega
   ·have h20:m%2=0:=by omega
    rw [h20] at hr2
    rw [if_neg hodd,Nat.one_mul] at HPH
    have hq0':(0:Int)<q:=by omega
    have t2:=rtimes_nt (by omega) (by omega) hN2.nv hN2.nv
    go_wp2_with (go_at_call 24;refine t2.mono ?_;rintro e w2 ⟨r2,rfl,hr2',hb2⟩;clear t2)
    have HV3:Hid (X*(Y*Y)^q=b^n):=by
     show _=_
     rw [← hv.out,HPH.out]
    have hN1':=hN1.next hb2
    have hB2:=hB.trans (hb2.mono hB.size)
    clear hN1 hN2 hv
    go_roundw
    case rel=>exact ⟨q,2*P,X,Y*Y,rfl,by omega,by omega,by omega,by omega,hN1'.more (by omega),hr2'.more (by omega),HV3,hB2⟩
    case measure=>simp [intOf];omega
end
section
attribute [local irreducible] W4 Nz Nt
def dV (l:List UInt8):Nat:=(numV (B l) (B l).size).toNat
theorem sb_by (l:List UInt8) (i:Nat):sb (B l) i=by_ l i:=by
 unfold sb by_
 by_cases h:i<l.length
 ·rw [dif_pos (show i<(B l).size from h),dif_pos h,B_get]
 ·rw [dif_neg (show ¬ i<(B l).size from h),dif_neg h]
theorem dig_B {l:List UInt8} (h:l.all dg=true):digB (B l) (B l).size=true:=by
 refine digB_of _ fun k hk=>?_
 rw [sb_by]
 have hk':k<l.length:=hk
 have h1:=List.all_eq_true.1 h (l[k]'hk') (List.getElem_mem hk')
 unfold dg at h1
 unfold by_
 rw [dif_pos hk']
 have:=of_decide_eq_true h1
 omega
theorem dV_lt {l:List UInt8} (h:l.all dg=true):dV l<10^l.length/\(dV l:Int)=numV (B l) (B l).size:=by
 obtain ⟨a,b⟩:=numV_bd _ (dig_B h)
 unfold dV
 generalize numV (B l) (B l).size=V at *
 rw [B_size] at b
 have:((10:Int)^l.length)=((10^l.length:Nat):Int):=by simp
 rw [this] at b
 exact ⟨by omega,by omega⟩
theorem num_zero (l:List UInt8):numV (B (48 :: l)) (B (48 :: l)).size=numV (B l) (B l).size:=by
 have h:=numV_app (s:=B (48 :: l)) (u:=B l) 1 (B l).size (fun i hi=>by rw [sb_by,sb_by,Nat.add_comm,by_succ])
 have hs:(B (48 :: l)).size=1+(B l).size:=by rw [B_size,B_size,List.length_cons];omega
 rw [hs,h]
 have h1:numV (B (48 :: l)) 1=0:=by
  have:numV (B (48 :: l)) 1=numV (B (48 :: l)) 0*10+(sb (B (48 :: l)) 0-48):=rfl
  rw [this,sb_by,by_zero];rfl
 rw [h1];omega
theorem bl_10 {A L k:Nat} (h:A<10^L) (hk:4*L<=k):bl A<=k:=by
 refine bl_le.2 (Nat.lt_of_lt_of_le h ?_)
 have h1:10^L<=16^L:=Nat.pow_le_pow_left (by decide) L
 have h2:(16:Nat)^L=2^(4*L):=by rw [Nat.pow_mul]
 exact Nat.le_trans h1 (h2 ▸ Nat.pow_le_pow_right (by decide) hk)
theorem nz_of {a:Option Addr} {k cap K V:Nat} {z:Nat->Int} {w:World} (h:Num w a k cap z) (hv:val z k=(V:Int)) (hs:sizeL z k=k) (hb:bl V<=64*K):Nz K V (.slice a k cap) w:=by
 unfold Nz
 exact ⟨a,k,cap,z,rfl,by have:=(size_bl (m:=K) h.2.2.1 hv).2 hb;omega,h,hv,hs⟩
end
section
theorem bl_mul (a b:Nat):bl (a*b)<=bl a+bl b:=by
 refine bl_le.2 ?_
 rw [Nat.pow_add]
 have h1:=bl_le.1 (Nat.le_refl (bl a))
 have h2:=bl_le.1 (Nat.le_refl (bl b))
 exact Nat.mul_lt_mul'' h1 h2
attribute [local irreducible] W4 Nz Nt
end
section
theorem NT.tight {K K' V:Nat} {v:Value} {w:World} (h:NT K V v w) (hb:bl V<=64*K'):NT K' V v w:=by
 obtain ⟨g,k,cap,z,h1,h2,h3,h4,h5⟩:=h
 exact ⟨g,k,cap,z,h1,by have:=(size_bl (m:=K') h3.2.2.1 h4).2 hb;omega,h3,h4,h5⟩
section
variable (x:Int) (vn vd:Value) (A KK:Nat) (w:World) (hx:-12000<=x/\x<=12000)
include hx
end
theorem ten_bl (k:Nat):bl (10^k)<=4*k+1:=by
 refine bl_le.2 ?_
 have h1:10^k<=16^k:=Nat.pow_le_pow_left (by decide) k
 have h2:(16:Nat)^k=2^(4*k):=by rw [Nat.pow_mul]
 have h3:(2:Nat)^(4*k)<2^(4*k+1):=Nat.pow_lt_pow_right (by decide) (by omega)
 omega
theorem number_nil (w:World):CE 23 #[.string (B [])] w (NT 1001 0):=by
 have hs:(B []).size=0:=rfl
 have hN:=num_empty w
 go_enter Tryz.func23,Tryz.ntmps23
 go_wp2
 go_loopw [3,4,5,6] (fun t3 t4 u5 u6 wr=>t3=.slice (some ⟨w.heap.size,0,none⟩) 0 0/\t4=.int .i64 0/\wr=w.alloc (.cells #[] 22)) (fun _ _ _ _ _=>0)
 case atStart=>exact ⟨rfl,rfl,rfl⟩
 case round =>
  obtain ⟨rfl,rfl,rfl⟩:=hrel
  go_wp2
  go_ret
  exact ⟨_,rfl,⟨_,0,0,fun _=>0,rfl,by decide,hN,rfl,rfl⟩,below1 _ _⟩
theorem number8 (l:List UInt8) (w:World) (hd:l.all dg=true) (hl:l.length<=4000):CE 23 #[.string (B l)] w (NT 1001 (dV l)):=by
 by_cases h0:l=[]
 ·subst h0
  exact number_nil w
 ·have hlen:0<l.length:=List.length_pos_iff.2 h0
  obtain ⟨hlt,he⟩:=dV_lt hd
  have hbl:bl (dV l)<=64*1001:=bl_10 hlt (by omega)
  have c:=number_any (B l) w (by unfold isDigB;rw [dig_B hd,Bool.true_and];exact decide_eq_true (by rw [B_size];exact hlen)) (by rw [B_size];omega)
  refine c.mono fun r w' ⟨g,k,cap,z,e1,hk,hN,hv,hB,hs⟩=>⟨_,e1,?_,hB⟩
  have h36:NT 36000 (dV l) (.slice (some ⟨g,0,none⟩) k cap) w':=⟨g,k,cap,z,rfl,hk,hN,by rw [hv,he],hs⟩
  exact h36.tight hbl
attribute [local irreducible] W4 NT NV
end
section
theorem NT.nz {K V:Nat} {v:Value} {w:World} (h:NT K V v w):Nz K V v w:=by
 obtain ⟨g,k,cap,z,h1,h2,h3,h4,h5⟩:=h
 exact ⟨_,k,cap,z,h1,h2,h3,h4,h5⟩
theorem NT.nt {K V:Nat} {v:Value} {w:World} (h:NT K V v w):Nt K V v w:=h.nz.nt
theorem nmul_w {K K' A P:Nat} {v v':Value} {w:World} (hK:K<100000000) (hK':K'<100000000) (h:Nt K A v w) (h':Nt K' P v' w) (hb:bl A+bl P<=127000) :
  Calls Tryz.prog 189 #[v,v'] w fun r w'=>∃ q,r=.returned (.tuple #[q,.int .i64 0])/\NT 2001 (A*P) q w'/\Below w.heap.size w w':=by
 obtain ⟨a,k,cap,z,rfl,hk,hN,hv⟩:=h
 obtain ⟨a',k',cap',z',rfl,hk',hN',hv'⟩:=h'
 have s1:=(size_bl (m:=(bl A+63)/64) hN.2.2.1 hv).2 (by omega)
 have s2:=(size_bl (m:=(bl P+63)/64) hN'.2.2.1 hv').2 (by omega)
 refine (nmul_any a a' k cap k' cap' z z' w (by omega) (by omega) hN hN' (by omega)).mono fun r w' ⟨g,q,cp,y,e1,hq,hNq,hvq,hsq,hB⟩=>⟨_,e1,⟨g,q,cp,y,rfl,by omega,hNq,?_,hsq⟩,hB⟩
 rw [hvq,hv,hv'];simp
attribute [local irreducible] W4 Nz Nt NT
theorem nt_at {W:World} {g k:Nat} (hk:k<2^256) (hg:g<W.heap.size) (h0:W.cell? ⟨g,4,none⟩=some (.int .u64 (W4 k 0))) (h1:W.cell? ⟨g,5,none⟩=some (.int .u64 (W4 k 1))) (h2:W.cell? ⟨g,6,none⟩=some (.int .u64 (W4 k 2))) (h3:W.cell? ⟨g,7,none⟩=some (.int .u64 (W4 k 3))) :
  Nt 4 k (.slice (some ⟨g,4,none⟩) 4 4) W:=by
 unfold Nt
 refine ⟨some ⟨g,4,none⟩,4,4,fun i=>if i<4 then W4 k i else 0,rfl,Nat.le_refl _,⟨Nat.le_refl _,by unfold maxLen;omega,fun i=>?_,fun i hi=>if_neg (by omega),Or.inr ⟨g,4,rfl,hg,fun i hi=>?_⟩⟩,?_⟩
 ·dsimp only
  split
  ·exact W4_words k i
  ·exact ⟨Int.le_refl _,by decide⟩
 ·have:i=0∨i=1∨i=2∨i=3:=by omega
  rcases this with rfl | rfl | rfl | rfl
  ·exact h0
  ·exact h1
  ·exact h2
  ·exact h3
 ·have e:=W4_val4 hk
  rw [← e]
  simp [val]
def gsP (k:Nat) (x:Int):Int:=(((bl k:Int)-1+x)*30103).tdiv 100000-1
end
section
attribute [local irreducible] NT NV
section
variable (x:Int) (vn vd:Value) (A KK:Nat) (w:World) (hx:-60000<=x/\x<=60000)
include hx
end
theorem tnG_up {N D:Nat} {E:Int} (hD:0<D) (h:tnG N D E):3*E<=bl N:=by
 rcases Int.lt_or_le E 0 with q | q
 ·omega
 ·unfold tnG at h
  rw [show (-E).toNat=0 by omega,Nat.pow_zero,Nat.mul_one] at h
  have h1:10^E.toNat<=N:=Nat.le_trans (Nat.le_mul_of_pos_left _ hD) h
  have h2:N<2^bl N:=bl_le.1 (Nat.le_refl _)
  have h3:(8:Nat)^E.toNat<=10^E.toNat:=Nat.pow_le_pow_left (by decide) _
  have h4:(2:Nat)^(3*E.toNat)<2^bl N:=by
   rw [Nat.pow_mul]
   exact Nat.lt_of_le_of_lt (Nat.le_trans h3 h1) h2
  have:=(Nat.pow_lt_pow_iff_right (a:=2) (by decide)).1 h4
  omega
theorem tnG_dn {N D:Nat} {E:Int} (hN:0<N) (h:¬ tnG N D E):-(bl D:Int)<=3*E:=by
 rcases Int.lt_or_le 0 E with q | q
 ·omega
 ·unfold tnG at h
  rw [show E.toNat=0 by omega,Nat.pow_zero,Nat.mul_one] at h
  have h1:10^(-E).toNat<D:=by
   have:10^(-E).toNat<=N*10^(-E).toNat:=Nat.le_mul_of_pos_left _ hN
   omega
  have h2:D<2^bl D:=bl_le.1 (Nat.le_refl _)
  have h3:(8:Nat)^(-E).toNat<=10^(-E).toNat:=Nat.pow_le_pow_left (by decide) _
  have h4:(2:Nat)^(3*(-E).toNat)<2^bl D:=by
   rw [Nat.pow_mul]
   exact Nat.lt_of_le_of_lt (Nat.le_trans h3 (Nat.le_of_lt h1)) h2
  have:=(Nat.pow_lt_pow_iff_right (a:=2) (by decide)).1 h4
  omega
end
section
attribute [local irreducible] W4 Nz Nt NT
def nbB (n x:Int) (k:Nat):Bool:=decide (leastN n<x) && decide (k=2^fN n)
end
section
structure Mut (g:Nat) (w w':World):Prop where
 os:w'.os=w.os
 tape:w'.tape=w.tape
 output:w'.output=w.output
 size:w.heap.size<=w'.heap.size
 block:∀ k,k<w.heap.size->k≠g->w'.heap[k]?=w.heap[k]?
theorem Mut.refl (g:Nat) (w:World):Mut g w w:=⟨rfl,rfl,rfl,Nat.le_refl _,fun _ _ _=>rfl⟩
theorem Mut.trans {g:Nat} {a b c:World} (h:Mut g a b) (k:Mut g b c):Mut g a c :=
 ⟨k.os.trans h.os,k.tape.trans h.tape,k.output.trans h.output,Nat.le_trans h.size k.size,fun i hi hg=>(k.block i (Nat.lt_of_lt_of_le hi h.size) hg).trans (h.block i hi hg)⟩
theorem Mut.below {g:Nat} {a b:World} (h:Below a.heap.size a b):Mut g a b:=⟨h.os,h.tape,h.output,h.size,fun k hk _=>h.block k hk⟩
theorem Mut.set {g:Nat} {a b:World} (h:Mut g a b) (i:Nat) (v:Value):Mut g a (b.setCell ⟨g,i,none⟩ v) :=
 h.trans ⟨rfl,rfl,rfl,by simp [World.setCell],fun k _ hk=>Below.heap_setCell _ _ _ _ hk⟩
theorem Mut.out {g B:Nat} {w0 w w':World} (h:Mut g w w') (h0:Below B w0 w) (hB:B<=g) (hs:B<=w0.heap.size):Below B w0 w' :=
 h0.trans ⟨h.os,h.tape,h.output,h.size,fun k hk=>h.block k (by have:=h0.size;omega) (by omega)⟩
attribute [local irreducible] W4 Nz Nt NT
end
section
theorem tn_ex {k:Nat} {x:Int}:∀ (d:Nat) (g0:Int),tnP k x g0->¬ tnP k x (g0+d)->∃ E,g0<=E/\E<g0+d/\tnP k x E/\¬ tnP k x (E+1)
 | 0,g0,h0,h1=>absurd h0 (by simpa using h1)
 | d+1,g0,h0,h1=>by
  by_cases h:tnP k x (g0+1)
  ·obtain ⟨E,e1,e2,e3,e4⟩:=tn_ex d (g0+1) h (by rw [show g0+1+(d:Int)=g0+((d+1:Nat):Int) by omega];exact h1)
   exact ⟨E,by omega,by omega,e3,e4⟩
  ·exact ⟨g0,Int.le_refl _,by omega,h0,h⟩
theorem tn_top {k:Nat} {x:Int} (hk:k<2^256) (hx:x<=17000):¬ tnP k x 6000:=by
 unfold tnP zE oE
 rw [show ((-6000:Int)).toNat=0 by decide,Nat.pow_zero,Nat.mul_one,show ((6000:Int)).toNat=6000 by decide]
 have h1:(2:Nat)^18000<=10^6000:=by decide +kernel
 obtain ⟨m',hm'⟩:∃ m':Nat,m'=18000:=⟨_,rfl⟩
 rw [← hm'] at h1
 generalize (10:Nat)^6000=T at *
 obtain ⟨m,hm⟩:∃ m:Nat,m=17000:=⟨_,rfl⟩
 have h2:k*2^x.toNat<2^256*2^m:=by
  have a1:k*2^x.toNat<2^256*2^x.toNat:=Nat.mul_lt_mul_of_pos_right hk (Nat.two_pow_pos _)
  have a2:2^256*2^x.toNat<=2^256*2^m:=Nat.mul_le_mul_left _ (Nat.pow_le_pow_right (by decide) (by omega))
  exact Nat.lt_of_lt_of_le a1 a2
 rw [← Nat.pow_add] at h2
 have h3:(2:Nat)^(256+m)<=2^m':=Nat.pow_le_pow_right (by decide) (by omega)
 have h4:1*T<=2^(-x).toNat*T:=Nat.mul_le_mul_right _ (Nat.two_pow_pos _)
 generalize (2:Nat)^(256+m)=Y at *
 generalize (2:Nat)^m'=Y' at *
 rw [Nat.mul_assoc 4,Nat.mul_assoc 4]
 generalize 2^(-x).toNat*T=Z1 at *
 generalize k*2^x.toNat=Z2 at *
 omega
attribute [local irreducible] W4 Nz Nt NT
end
section
theorem NT.grown {K V Bs:Nat} {v tv:Value} {l:List UInt8} {w w':World} (h:NT K V v w) (ho:w.ownsRow Bs 5 1 tv l.length (Lib.byteCells l)) (hl:tv=.slice none 0 0∨0<l.length) (hg:w.grownBy w' tv.ownBlock):NT K V v w':=by
 obtain ⟨b,k,cap,z,h1,h2,⟨n1,n2,n3,n4,n5⟩,h4,h5⟩:=h
 refine ⟨b,k,cap,z,h1,h2,⟨n1,n2,n3,n4,?_⟩,h4,h5⟩
 rcases n5 with n5 | ⟨b',off,e,hb,hc⟩
 ·exact Or.inl n5
 ·cases e
  refine Or.inr ⟨b,0,rfl,Nat.lt_of_lt_of_le hb hg.size,fun i hi=>?_⟩
  have hne:some b≠tv.ownBlock:=by
   rcases hl with rfl | hl
   ·intro h;cases h
   ·obtain ⟨g',cap',rfl,_,_⟩:=ho.form hl
    intro h
    have:b=g':=Option.some.inj h
    subst this
    have h6:=hc 0 (by omega)
    rw [Nat.add_zero,ho.cellAt 0 (by omega)] at h6
    simp [Lib.byteCells,hl] at h6
  exact (World.cell?_of_block (w:=w) (a:=⟨b,0+i,none⟩) (hg.block b hb hne)).trans (hc i hi)
attribute [local irreducible] W4 Nz Nt NT
end
def lwN (n x:Int) (k:Nat):Nat:=if nbB n x k then 1 else 2
def evK (k:Nat):Bool:=decide (k%2=0)
structure Shd (n x:Int) (k:Nat) (E:Int) (K:Nat):Prop where
 t0:tnP k x E
 t1:¬ tnP k x (E+1)
 st:stK (evK k) (4*k*oE x E) (lwN n x k*oE x E) (2*oE x E) (zE x E) K=true
 mn:∀ j,j<K->stK (evK k) (4*k*oE x E) (lwN n x k*oE x E) (2*oE x E) (zE x E) j=false
theorem gs_in {k:Nat} {x:Int} (hk:k<2^256) (hk0:k≠0) (hx:-16990<=x/\x<=16990):tnP k x (gsP k x)/\-6000<=gsP k x/\gsP k x<6000:=by
 have hb:bl k<=256:=bl_le.2 hk
 obtain ⟨b1,b2,b3⟩:=bl_bd hk0
 have e:((bl k-1:Nat):Int)=(bl k:Int)-1:=by omega
 have:=guess_ok (c:=k) (L:=bl k-1) (x:=x) b1 (by omega)
 rw [e] at this
 refine ⟨this,?_⟩
 unfold gsP
 by_cases h0:0<=(bl k:Int)-1+x
 ·rw [Int.tdiv_eq_ediv_of_nonneg (by omega)];omega
 ·rw [show ((bl k:Int)-1+x)*30103=-(-((bl k:Int)-1+x)*30103) by omega,Int.neg_tdiv,Int.tdiv_eq_ediv_of_nonneg (by omega)];omega
theorem Shd.ex {n x:Int} {k:Nat} (hk:k<2^256) (hk0:k≠0) (hx:-16990<=x/\x<=16990):∃ E K,Shd n x k E K:=by
 obtain ⟨g1,g2,g3⟩:=gs_in hk hk0 hx
 obtain ⟨E,e1,e2,e3,e4⟩:=tn_ex (6000-gsP k x).toNat (gsP k x) g1 (by rw [show gsP k x+((6000-gsP k x).toNat:Int)=6000 by omega];exact tn_top hk (by omega))
 have hl:0<lwN n x k*oE x E:=Nat.mul_pos (by unfold lwN;split <;> decide) (oE_pos _ _)
 obtain ⟨K,h1,h2⟩:=st_ex (c:=evK k) (R:=4*k*oE x E) (u:=2*oE x E) (zE_pos x E) hl
 exact ⟨E,K,e3,e4,h1,h2⟩
section
theorem W4_none {k:Nat} (hk:k<2^256):decide (W4 k 0=0/\W4 k 1=0/\W4 k 2=0/\W4 k 3=0)=decide (k=0):=by
 by_cases h:k=0
 ·subst h
  rw [decide_eq_true (by simp [W4_zero]),decide_eq_true rfl]
 ·rw [decide_eq_false h,decide_eq_false]
  rintro ⟨h0,h1,h2,h3⟩
  refine h (A4_inj hk (by decide) fun i hi=>?_)
  have:i=0∨i=1∨i=2∨i=3:=by omega
  rcases this with rfl | rfl | rfl | rfl
  ·rw [h0,W4_zero]
  ·rw [h1,W4_zero]
  ·rw [h2,W4_zero]
  ·rw [h3,W4_zero]
attribute [local irreducible] W4
end
theorem dV_ge {l:List UInt8} (hd:l.all dg=true) (h0:by_ l 0≠48) (hl:l≠[]):10^(l.length-1)<=dV l:=by
 cases l with
 | nil=>exact absurd rfl hl
 | cons c r =>
  have hr:r.all dg=true:=by rw [List.all_cons] at hd;simp at hd;simpa using hd.2
  have hc:dg c=true:=by rw [List.all_cons] at hd;simp at hd;exact hd.1
  unfold dg at hc
  have hc':=of_decide_eq_true hc
  rw [by_zero] at h0
  have h:=numV_app (s:=B (c :: r)) (u:=B r) 1 (B r).size (fun i hi=>by rw [sb_by,sb_by,Nat.add_comm,by_succ])
  have hs:(B (c :: r)).size=1+(B r).size:=by rw [B_size,B_size,List.length_cons];omega
  have h1:numV (B (c :: r)) 1=(c.toNat:Int)-48:=by
   have:numV (B (c :: r)) 1=numV (B (c :: r)) 0*10+(sb (B (c :: r)) 0-48):=rfl
   rw [this,sb_by,by_zero]
   have:numV (B (c :: r)) 0=0:=rfl
   omega
  have hb:=(numV_bd _ (dig_B hr)).1
  have e:=(dV_lt hd).2
  rw [hs,h,h1] at e
  rw [B_size] at e hb
  have hp:((10:Int)^r.length)=((10^r.length:Nat):Int):=by simp
  rw [hp] at e
  show 10^(r.length+1-1)<=_
  rw [Nat.add_sub_cancel]
  have hm:1*((10^r.length:Nat):Int)<=((c.toNat:Int)-48)*((10^r.length:Nat):Int):=Int.mul_le_mul_of_nonneg_right (by omega) (Int.natCast_nonneg _)
  omega
theorem dV_nil:dV []=0:=rfl
theorem tex_len2 {c:Int} {s g:Bool} {d:List UInt8} {e:Int} (he:-9223372036854775808<=e/\e<=9223372036854775807):(texT c s g d e).length<=d.length+100:=by
 have hi:=Lib.itoa_length_le e he.1 he.2
 have h1:(bodT c g d e).length<=d.length+50:=by
  unfold bodT
  split
  ·simp
  ·split
   ·unfold nanT
    simp only [List.length_append,List.length_cons]
    split <;> split <;> simp <;> omega
   ·unfold finT dgT exT
    simp only [List.length_append]
    split <;> split <;> simp <;> omega
 unfold texT
 rw [List.length_append]
 split <;> simp <;> omega
def Prt.at (p:Prt) (s:Bool):Prt:=⟨p.cls,s,p.sn,p.dig,p.ex⟩
/-! Make by value -/
/-! Read by value -/
theorem decL_rev {V:Int} {L:Nat} (h0:0<V) (h:V<10^L):revL V (sizeL (dgt V) L)=decL V L:=by
 unfold decL revL
 rw [if_neg]
 intro e
 have:=lt_sizeL (Int.le_of_lt h0) L h
 rw [e] at this;simp at this;omega
theorem sb_nums {l:List Int} (hl:∀ v ∈ l,48<=v/\v<=57) {i:Nat} (hi:i<l.length):sb (strOfNums l) i=l[i]:=by
 unfold sb
 rw [dif_pos (by rw [strOfNums_size];exact hi)]
 have h:=hl l[i] (List.getElem_mem hi)
 have e:(strOfNums l)[i]'(by rw [strOfNums_size];exact hi)=UInt8.ofNat l[i].toNat:=by
  show (strOfNums l).data[i]'_=_
  simp [strOfNums]
 rw [e]
 simp
 omega
theorem numV_rev {V:Int} {K:Nat} {u:ByteArray} (hu:∀ i,i<K->sb u i=48+dgt V (K-1-i)) (h0:0<=V) (hV:V<10^K):∀ j,j<=K->numV u j=V/10^(K-j)
 | 0,_=>by rw [Nat.sub_zero,Int.ediv_eq_zero_of_lt h0 hV];rfl
 | j+1,h=>by
  have ih:=numV_rev hu h0 hV j (by omega)
  simp only [numV]
  rw [ih,hu j (by omega)]
  have e1:K-j=(K-(j+1))+1:=by omega
  have e2:K-1-j=K-(j+1):=by omega
  rw [e1,e2]
  unfold dgt
  rw [← div_div10]
  generalize V/10^(K-(j+1))=W
  omega
def dcD (V:Int) (L:Nat):List UInt8:=(strOfNums (revL V (sizeL (dgt V) L))).data.toList
theorem dcD_facts {V:Int} {L:Nat} (h0:0<V) (h:V<10^L):gdD (dcD V L)/\(dV (dcD V L):Int)=V/\(dcD V L).length<=L:=by
 have hK:=lt_sizeL (Int.le_of_lt h0) L h
 have hKp:0<sizeL (dgt V) L:=by
  rcases Nat.eq_zero_or_pos (sizeL (dgt V) L) with e | e
  ·rw [e] at hK;simp at hK;omega
  ·exact e
 have hKL:=sizeL_le (dgt V) L
 have htop:=sizeL_top L hKp
 have hB:B (dcD V L)=strOfNums (revL V (sizeL (dgt V) L)):=B_of _
 have hd:∀ v ∈ revL V (sizeL (dgt V) L),48<=v/\v<=57:=by
  intro v hv
  simp [revL] at hv
  obtain ⟨i,_,rfl⟩:=hv
  have:=dgt_bd V (sizeL (dgt V) L-1-i)
  omega
 have hrl:(revL V (sizeL (dgt V) L)).length=sizeL (dgt V) L:=by simp [revL]
 have hsz:(dcD V L).length=sizeL (dgt V) L:=by
  rw [← B_size,hB,strOfNums_size,hrl]
 have hby:∀ i,i<sizeL (dgt V) L->by_ (dcD V L) i=48+dgt V (sizeL (dgt V) L-1-i):=fun i hi=>by
  rw [← sb_by,hB,sb_nums hd (by rw [hrl];exact hi)];simp [revL]
 have hall:(dcD V L).all dg=true:=(all_dg _).2 fun i hi=>by
  rw [hsz] at hi
  rw [hby i hi]
  have:=dgt_bd V (sizeL (dgt V) L-1-i)
  omega
 refine ⟨Or.inr ⟨?_,?_⟩,?_,by omega⟩
 ·unfold isd
  rw [hall]
  have:dcD V L≠[]:=fun e=>by rw [e] at hsz;simp at hsz;omega
  simp [this]
 ·rw [hby 0 hKp,Nat.sub_zero]
  intro e
  exact htop (by omega)
 ·rw [(dV_lt hall).2,B_size,hsz]
  rw [numV_rev (K:=sizeL (dgt V) L) (fun i hi=>by rw [sb_by];exact hby i hi) (Int.le_of_lt h0) hK _ (Nat.le_refl _)]
  simp
theorem rdec_zero (a:Option Addr) (n c:Nat) (x:Nat->Int) (w:World) (hn:n<100000) (h:Num w a n c x) (hz:sizeL x n=0) :
  CB 20 #[.slice a n c] w (.string ⟨#[]⟩):=by
 have ht:=trim_any a n c x w (by omega) h
 rw [hz] at ht
 clear h
 go_enter Tryz.func20,Tryz.ntmps20
 go_wp2_with (go_at_call 44;refine ht.mono ?_;rintro e wA ⟨g0,cap0,rfl,hN0,hB0⟩;clear ht hN0)
 go_loopw [0,3] (fun t0 t3 wr=>t0=.slice (some ⟨g0,0,none⟩) 0 cap0/\t3=.slice none 0 0/\Below w.heap.size w wr) (fun _ _ _=>0)
 case atStart=>exact ⟨rfl,rfl,hB0⟩
 case round =>
  obtain ⟨rfl,rfl,hB1⟩:=hrel
  go_wp2
  go_loopw [7] (fun t7 wr=>t7=.int .i64 0/\Below w.heap.size w wr) (fun _ _=>0)
  case atStart=>exact ⟨rfl,hB1⟩
  case round =>
   obtain ⟨rfl,hB2⟩:=hrel
   go_wp2
   go_loopw [8,50] (fun t8 t50 wr=>t8=.slice none 0 0/\t50=.int .i64 0/\Below w.heap.size w wr) (fun _ _ _=>0)
   case atStart=>exact ⟨rfl,rfl,hB2⟩
   case round =>
    obtain ⟨rfl,rfl,hB3⟩:=hrel
    have hcv:(convert 79 9 (.slice none 0 0)).run Tryz.prog wr=.ok (.string ⟨#[]⟩) wr:=by
     rw [run_convert_bytes_string wr 79 9 5 none 0 0 Tryz.underlying79 Tryz.underlying5 Tryz.underlying9]
     rfl
    go_wp2
    go_ret
    exact ⟨rfl,hB3⟩
theorem p660 {x:Nat->Int} {n:Nat} (hx:Words x) (hn:n<=30):val x n<10^660:=by
 have h:=val_bd hx n
 have h2:=p22 n
 have h3:(10:Int)^(22*n)<=10^660:=by
  obtain ⟨k,hk⟩:∃ k,660=22*n+k:=⟨660-22*n,by omega⟩
  rw [hk,Int.pow_add]
  have h4:=p10_pos k
  have h5:=p10_pos (22*n)
  have:(10:Int)^(22*n)*1<=10^(22*n)*10^k:=Int.mul_le_mul_of_nonneg_left (by omega) (by omega)
  omega
 omega
theorem rdec8 {a:Option Addr} {n c:Nat} {x:Nat->Int} {w:World} (hn:n<=30) (h:Num w a n c x) :
  ∃ D:List UInt8,gdD D/\(dV D:Int)=val x n/\D.length<=660/\∀ W,Below w.heap.size w W->CB 20 #[.slice a n c] W (.string (B D)):=by
 have hx:=h.2.2.1
 rcases Nat.eq_zero_or_pos (sizeL x n) with hz | hz
 ·refine ⟨[],Or.inl rfl,?_,by decide,fun W hW=>rdec_zero a n c x W (by omega) (h.next hW) hz⟩
  have:=val_bare (x:=x) n
  rw [hz] at this
  rw [← this];rfl
 ·have hv0:0<val x n:=by
   rw [← val_bare n]
   exact val_pos hx _ hz (sizeL_sizeL x n)
  have h660:=p660 hx hn
  obtain ⟨d1,d2,d3⟩:=dcD_facts hv0 h660
  refine ⟨dcD (val x n) 660,d1,d2,d3,fun W hW=>?_⟩
  have hle:=sizeL_le x n
  refine (rdec_any a n c x W (by omega) (h.next hW) (by omega) hz).mono fun e w' ⟨L,hL,he,hB⟩=>⟨?_,hB⟩
  rw [he,decL_rev hv0 hL,decL_more (Int.le_of_lt hv0) hL h660,← decL_rev hv0 h660]
  show _=Ending.returned (.string (B (dcD (val x n) 660)))
  unfold dcD
  rw [B_of]
theorem dV_snoc {l:List UInt8} {c:UInt8} (hl:l.all dg=true) (hc:dg c=true):dV (l++[c])=10*dV l+(c.toNat-48):=by
 have hall:(l++[c]).all dg=true:=by rw [List.all_append,hl];simp [hc]
 have h1:=(dV_lt hall).2
 have h2:=(dV_lt hl).2
 have hcd:48<=c.toNat/\c.toNat<=57:=of_decide_eq_true hc
 have hA:=numV_app (s:=B (l++[c])) (u:=B [c]) l.length 1 (fun i hi=>by
  rw [sb_by,sb_by,by_app_at])
 have hC:=numV_app (s:=B (l++[c])) (u:=B l) 0 l.length (fun i hi=>by
  rw [sb_by,sb_by,Nat.zero_add]
  unfold by_
  have hi2:i<(l++[c]).length:=by rw [List.length_append];omega
  rw [dif_pos hi,dif_pos hi2,List.getElem_append_left hi])
 have e0:numV (B (l++[c])) 0=0:=rfl
 have e1:numV (B [c]) 1=(c.toNat:Int)-48:=by
  have:numV (B [c]) 1=numV (B [c]) 0*10+(sb (B [c]) 0-48):=rfl
  rw [this,sb_by,by_zero]
  have:numV (B [c]) 0=0:=rfl
  omega
 rw [Nat.zero_add,e0,Int.zero_mul,Int.zero_add] at hC
 rw [B_size] at h1 h2
 rw [show (l++[c]).length=l.length+1 by simp,hA,hC,e1,← h2] at h1
 omega
theorem dg_uniq:∀ (n:Nat) (l l':List UInt8),l.length=n->l'.length=n->l.all dg=true->l'.all dg=true->dV l=dV l'->l=l'
 | 0,l,l',h,h',_,_,_=>by rw [List.length_eq_zero_iff.1 h,List.length_eq_zero_iff.1 h']
 | n+1,l,l',h,h',hd,hd',hv=>by
  rcases List.eq_nil_or_concat l with rfl | ⟨m,c,rfl⟩
  ·cases h
  ·rcases List.eq_nil_or_concat l' with rfl | ⟨m',c',rfl⟩
   ·cases h'
   ·rw [List.concat_eq_append] at *
    rw [List.concat_eq_append] at *
    rw [List.all_append] at hd hd'
    simp at hd hd'
    have hm:m.all dg=true:=List.all_eq_true.2 hd.1
    have hm':m'.all dg=true:=List.all_eq_true.2 hd'.1
    rw [dV_snoc hm hd.2,dV_snoc hm' hd'.2] at hv
    have c1:48<=c.toNat/\c.toNat<=57:=of_decide_eq_true hd.2
    have c2:48<=c'.toNat/\c'.toNat<=57:=of_decide_eq_true hd'.2
    have e1:dV m=dV m':=by omega
    have e2:c=c':=UInt8.toNat_inj.1 (by omega)
    rw [dg_uniq n m m' (by simp at h;exact h) (by simp at h';exact h') hm hm' e1,e2]
theorem gd_uniq {l l':List UInt8} (h:gdD l) (h':gdD l') (hv:dV l=dV l'):l=l':=by
 rcases h with rfl | ⟨h1,h2⟩
 ·rcases h' with rfl | ⟨h1',h2'⟩
  ·rfl
  ·unfold isd at h1'
   simp at h1'
   have:=dV_ge (List.all_eq_true.2 h1'.1) h2' h1'.2
   rw [← hv,dV_nil] at this
   have:=Nat.pow_pos (n:=l'.length-1) (by decide:0<10)
   omega
 ·rcases h' with rfl | ⟨h1',h2'⟩
  ·unfold isd at h1
   simp at h1
   have:=dV_ge (List.all_eq_true.2 h1.1) h2 h1.2
   rw [hv,dV_nil] at this
   have:=Nat.pow_pos (n:=l.length-1) (by decide:0<10)
   omega
  ·unfold isd at h1 h1'
   simp at h1 h1'
   have a1:=List.all_eq_true.2 h1.1
   have a2:=List.all_eq_true.2 h1'.1
   have g1:=dV_ge a1 h2 h1.2
   have g2:=dV_ge a2 h2' h1'.2
   have l1:=(dV_lt a1).1
   have l2:=(dV_lt a2).1
   have p1:0<l.length:=List.length_pos_iff.2 h1.2
   have p2:0<l'.length:=List.length_pos_iff.2 h1'.2
   have hlen:l.length=l'.length:=by
    rcases Nat.lt_trichotomy l.length l'.length with h | h | h
    ·have:=Nat.pow_le_pow_right (n:=10) (by decide) (show l.length<=l'.length-1 by omega)
     omega
    ·exact h
    ·have:=Nat.pow_le_pow_right (n:=10) (by decide) (show l'.length<=l.length-1 by omega)
     omega
   exact dg_uniq _ l l' hlen rfl a1 a2 hv
section
theorem itoa_brief {e:Int} (he:-100000<=e/\e<=100000):(Lib.itoa e).length<=21:=by
 have:=Lib.itoa_length_le e (by omega) (by omega)
 omega
def unT (D:List UInt8) (e:Int):List UInt8:=((D.take 1++if 1<D.length then [46]++D.drop 1 else [])++[101])++Lib.itoa e
theorem unT_brief {D:List UInt8} {e:Int} (he:-100000<=e/\e<=100000):(unT D e).length<=D.length+25:=by
 have:=itoa_brief he
 unfold unT
 rw [List.length_append,List.length_append,List.length_append,List.length_take]
 split
 ·simp;omega
 ·simp;omega
theorem itoa_short {e:Int} (he:-100000<=e/\e<=100000):(Lib.itoa e).length<=100:=by
 have:=Lib.itoa_length_le e (by omega) (by omega)
 omega
attribute [local irreducible] W4
end
section
section
variable (D:List UInt8) (e:Int) (w:World) (hT10:Tb10 w) (he:-100000<=e/\e<=100000)
include hT10 he
theorem ltext_1 (hD:D.length=1):CB 31 #[.string (B D),.int .i64 e] w (.string (B (unT D e))):=by
 have hi:=itoa_short he
 have c53:=fun W (h:Tb10 W)=>itoa_any e W (by omega) h
 have htl:=B_toList
 have hsz:(B D).size=1:=by rw [B_size,hD]
 have HU:Hid (unT D e=(D++[101])++Lib.itoa e):=by
  show _=_
  unfold unT
  rw [if_neg (by omega),List.append_nil,List.take_of_length_le (by omega)]
 have ht:(B D).extract 0 1=B D:=by rw [B_ext,List.drop_zero,List.take_of_length_le (by omega)]
 have p0:B D++(⟨#[101]⟩:ByteArray)=B (D++[101]):=B_app D [101]
 have z0:(B (D++[101])).size=2:=by rw [B_size,List.length_append,hD];rfl
 have p1:B (D++[101])++B (Lib.itoa e)=B ((D++[101])++Lib.itoa e):=B_app _ _
 obtain ⟨il,hil⟩:∃ il,(Lib.itoa e).length=il:=⟨_,rfl⟩
 have z2:(B (Lib.itoa e)).size=il:=by rw [B_size];exact hil
 have hil2:il<=100:=by omega
 have hemp:D.isEmpty=false:=by cases D with | nil=>exact absurd hD (by decide) | cons y ys=>rfl
 clear hD hi hil
 generalize hL0:D++[101]=L0 at *
 clear hL0
 generalize Lib.itoa e=I at *
 generalize hL1:L0++I=L1 at *
 clear hL1
 go_enter Tryz.func31,Tryz.ntmps31
 go_wp2_with (go_at_call 68;refine (c53 _ (hT10.next bgo)).mono ?_;rintro r w3 ⟨rfl,hb3⟩)
 go_ret
 exact ⟨by rw [HU.out];rfl,hb3⟩
theorem ltext_m (hD:1<D.length) (hD2:D.length<=4000):CB 31 #[.string (B D),.int .i64 e] w (.string (B (unT D e))):=by
 have hi:=itoa_short he
 have c53:=fun W (h:Tb10 W)=>itoa_any e W (by omega) h
 have htl:=B_toList
 obtain ⟨m,hm⟩:∃ m,D.length=m+2:=⟨D.length-2,by omega⟩
 have hsz:(B D).size=m+2:=by rw [B_size,hm]
 have HU:Hid (unT D e=((D.take 1++([46]++D.drop 1))++[101])++Lib.itoa e):=by
  show _=_
  unfold unT
  rw [if_pos hD]
 have ht:(B D).extract 0 1=B (D.take 1):=by rw [B_ext,List.drop_zero]
 have hd:(B D).extract 1 (m+2)=B (D.drop 1):=by have:=B_drop D 1;rw [hsz] at this;exact this
 have hm2:m<=4000:=by omega
 have q0:(⟨#[46]⟩:ByteArray)++B (D.drop 1)=B ([46]++D.drop 1):=B_app [46] _
 have y0:(B (D.drop 1)).size=m+1:=by rw [B_size,List.length_drop,hm];omega
 have y1:(B ([46]++D.drop 1)).size=m+2:=by rw [B_size,List.length_append,List.length_drop,hm];simp;omega
 have y2:(B (D.take 1)).size=1:=by rw [B_size,List.length_take,hm];omega
 have p0:B (D.take 1)++B ([46]++D.drop 1)=B (D.take 1++([46]++D.drop 1)):=B_app _ _
 have z0:(B (D.take 1++([46]++D.drop 1))).size=m+3:=by rw [B_size] at y1 y2 ⊢;rw [List.length_append,y1,y2];omega
 have p1:B (D.take 1++([46]++D.drop 1))++(⟨#[101]⟩:ByteArray)=B ((D.take 1++([46]++D.drop 1))++[101]):=B_app _ [101]
 have z1:(B ((D.take 1++([46]++D.drop 1))++[101])).size=m+4:=by rw [B_size] at z0 ⊢;rw [List.length_append,z0];rfl
 have p2:B ((D.take 1++([46]++D.drop 1))++[101])++B (Lib.itoa e)=B (((D.take 1++([46]++D.drop 1))++[101])++Lib.itoa e):=B_app _ _
 obtain ⟨il,hil⟩:∃ il,(Lib.itoa e).length=il:=⟨_,rfl⟩
 have z2:(B (Lib.itoa e)).size=il:=by rw [B_size];exact hil
 have hil2:il<=100:=by omega
 have hemp:D.isEmpty=false:=by cases D with | nil=>exact absurd hD (by decide) | cons y ys=>rfl
 clear hD hD2 hm hi hil
 generalize Lib.itoa e=I at *
 generalize hL3:((D.take 1++([46]++D.drop 1))++[101])++I=L3 at *
 generalize hL2:(D.take 1++([46]++D.drop 1))++[101]=L2 at *
 generalize hL1:D.take 1++([46]++D.drop 1)=L1 at *
 generalize hL0:[46]++D.drop 1=L0 at *
 generalize hA:D.take 1=A0 at *
 generalize hB:D.drop 1=B0 at *
 clear hL3 hL2 hL1 hL0 hA hB
 go_enter Tryz.func31,Tryz.ntmps31
 go_wp2_with (go_at_call 68;refine (c53 _ (hT10.next bgo)).mono ?_;rintro r w3 ⟨rfl,hb3⟩)
 go_ret
 exact ⟨by rw [HU.out];rfl,hb3⟩
end
theorem ltext_v (D:List UInt8) (e:Int) (w:World) (hT10:Tb10 w) (he:-100000<=e/\e<=100000) (hD:1<=D.length) (hD2:D.length<=4000):CB 31 #[.string (B D),.int .i64 e] w (.string (B (unT D e))):=by
 by_cases h:D.length=1
 ·exact ltext_1 D e w hT10 he h
 ·exact ltext_m D e w hT10 he (by omega) hD2
end
section
def sgL (s:Bool):List UInt8:=if s then [45] else []
attribute [local irreducible] W4
end
section
def dcL (k:Nat):List UInt8:=if k=0 then [] else dcD (k:Int) 660
theorem k660 {k:Nat} (hk:k<2^256):(k:Int)<10^660:=by
 have h:(2:Nat)^256<=10^100:=by decide
 have h2:(10:Int)^100<=10^660:=by decide +kernel
 have h3:((10^100:Nat):Int)=(10:Int)^100:=by decide
 omega
theorem dcL_facts {k:Nat} (hk:k<2^256):gdD (dcL k)/\dV (dcL k)=k/\(dcL k).length<=660:=by
 unfold dcL
 by_cases h:k=0
 ·rw [if_pos h];exact ⟨Or.inl rfl,by rw [h,dV_nil],by decide⟩
 ·rw [if_neg h]
  obtain ⟨h1,h2,h3⟩:=dcD_facts (V:=(k:Int)) (L:=660) (by omega) (k660 hk)
  exact ⟨h1,by omega,h3⟩
theorem dec_v {K k:Nat} {v:Value} {w:World} (hK:K<=30) (hk:k<2^256) (h:Nt K k v w):CB 20 #[v] w (.string (B (dcL k))):=by
 obtain ⟨a,n,c,z,rfl,hn,hN,hz⟩:=h
 obtain ⟨D,d1,d2,d3,d4⟩:=rdec8 (by omega) hN
 obtain ⟨f1,f2,_⟩:=dcL_facts hk
 have:D=dcL k:=gd_uniq d1 f1 (by omega)
 subst this
 exact d4 w (Below.refl _ _)
theorem ndig_v {K k:Nat} {v:Value} {w:World} (hK:K<=1000) (hk:k<2^256) (hk0:k≠0) (h:Nt K k v w):CB 30 #[v] w (.tuple #[.string (B (dcL k)),.int .i64 0]):=by
 obtain ⟨a,n,c,z,rfl,hn,hN,hz⟩:=h
 have hle:=sizeL_le z n
 refine (ndigits_any a n c z w (by omega) hN (by omega)).mono fun r w' ⟨L,hL,he,hB⟩=>⟨?_,hB⟩
 rw [he,hz] at *
 have h0:(0:Int)<k:=by omega
 have h660:=k660 hk
 rw [decL_more (Int.le_of_lt h0) hL h660,← decL_rev h0 h660]
 unfold dcL
 rw [if_neg hk0]
 unfold dcD
 rw [B_of]
attribute [local irreducible] W4 Nt
end
theorem ex_any (e:Int) (h:-1000000000<=e/\e<=1000000000):exB (101 :: Lib.itoa e)=true/\exI (101 :: Lib.itoa e)=e/\Lib.hasPrefix (101 :: Lib.itoa e) [46]=false/\dgs (101 :: Lib.itoa e)=[]/\rst (101 :: Lib.itoa e)=101 :: Lib.itoa e:=by
 by_cases h0:e=0
 ·subst h0
  have e0:Lib.itoa 0=[48]:=by kernel_rfl
  rw [e0]
  exact ⟨by decide,by decide,by decide,by decide,by decide⟩
 ·have:=exT_cut e h
  unfold exT at this
  rw [if_neg h0] at this
  exact this
theorem clamp_id {e:Int} (h:-1000000000<=e/\e<=1000000000):clampE e=e:=by unfold clampE;omega
theorem un_cut (s:Bool) {c:UInt8} {r:List UInt8} {e:Int} (hc:dg c=true) (hc0:(c.toNat:Int)≠48) (hr:r.all dg=true) (hl:r.length<=3950) (he:-100000<=e/\e<=100000) :
  cutP (sgL s++unT (c :: r) e)=some ⟨1,s,false,c :: r,e-r.length⟩:=by
 have hlen:(unT (c :: r) e).length<=r.length+26:=by have:=unT_brief (D:=c :: r) he;rw [List.length_cons] at this;omega
 obtain ⟨x1,x2,x3,x4,x5⟩:=ex_any e (by omega)
 have hcn:=dg_nat hc
 have hall:[c].all dg=true:=by simp [hc]
 have hbar:bar (c :: r)=c :: r:=by rw [bar_cons,if_neg hc0]
 have key:finB (unT (c :: r) e)=true/\finD (unT (c :: r) e)=c :: r/\finE (unT (c :: r) e)=e-r.length/\∃ t,unT (c :: r) e=c :: t:=by
  cases hr0:r with
  | nil =>
   have hu:unT [c] e=[c]++(101 :: Lib.itoa e):=rfl
   rw [hu]
   obtain ⟨d1,d2⟩:=dgs_app2 (m:=101 :: Lib.itoa e) hall x4
   have f1:frac ([c]++101 :: Lib.itoa e)=[]:=by unfold frac;rw [d2,x3];rfl
   have f2:behind ([c]++101 :: Lib.itoa e)=101 :: Lib.itoa e:=by unfold behind;rw [d2,x3];rfl
   refine ⟨?_,?_,?_,_,rfl⟩
   ·unfold finB;rw [f1,f2,x1,d1];rfl
   ·unfold finD;rw [f1,d1]
    rw [hr0] at hbar
    exact hbar
   ·unfold finE;rw [f1,f2,x2]
    exact clamp_id (by simp;omega)
  | cons a t =>
   rw [← hr0]
   have hu:unT (c :: r) e=[c]++46 :: (r++(101 :: Lib.itoa e)):=by
    unfold unT
    rw [hr0]
    simp
   rw [hu]
   obtain ⟨d1,d2⟩:=dgs_app2 (m:=46 :: (r++(101 :: Lib.itoa e))) hall rfl
   obtain ⟨d3,d4⟩:=dgs_app2 (m:=101 :: Lib.itoa e) hr x4
   have e1:Lib.hasPrefix (46 :: (r++(101 :: Lib.itoa e))) [46]=true:=rfl
   have e2:Lib.trimPrefix (46 :: (r++(101 :: Lib.itoa e))) [46]=r++(101 :: Lib.itoa e):=rfl
   have f1:frac ([c]++46 :: (r++(101 :: Lib.itoa e)))=r:=by unfold frac;rw [d2,e1,e2,d3];rfl
   have f2:behind ([c]++46 :: (r++(101 :: Lib.itoa e)))=101 :: Lib.itoa e:=by unfold behind;rw [d2,e1,e2,d4];rfl
   refine ⟨?_,?_,?_,_,rfl⟩
   ·unfold finB;rw [f1,f2,x1,d1];rfl
   ·unfold finD;rw [f1,d1]
    exact hbar
   ·unfold finE;rw [f1,f2,x2]
    exact clamp_id (by omega)
 obtain ⟨k1,k2,k3,t,k4⟩:=key
 unfold cutP
 have hs:(sgL s++unT (c :: r) e).length<=4000:=by
  rw [List.length_append]
  have:(sgL s).length<=1:=by cases s <;> decide
  omega
 rw [if_neg (by omega)]
 have hsg:gsgB (sgL s++unT (c :: r) e)=s/\sgR (sgL s++unT (c :: r) e)=unT (c :: r) e:=by
  rw [k4]
  exact sig_app s c t ⟨by omega,by omega⟩
 rw [hsg.1,hsg.2]
 unfold bodP
 rw [if_pos k1,k2,k3]
end Go.Proofs.YtpabnhlfbjkmaaaGreatDoor
