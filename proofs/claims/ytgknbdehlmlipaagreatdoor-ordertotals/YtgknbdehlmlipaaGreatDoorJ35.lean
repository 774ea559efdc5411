/-
  Texts that the proof leans on.
-/
import Derived.Test.YtgknbdehlmlipaaGreatDoorJ29
import Derived.Test.YtgknbdehlmlipaaGreatDoorJ24
import Derived.Test.YtgknbdehlmlipaaGreatDoorJ2
import Derived.Test.YtgknbdehlmlipaaGreatDoorJ27
import Derived.Test.YtgknbdehlmlipaaGreatDoorJ25
import Derived.Test.YtgknbdehlmlipaaGreatDoorJ28
import Derived.Deep.Cut
import Derived.Deep.CutRange
import Derived.Deep.RegionWith
import Derived.Test.YtgknbdehlmlipaaGreatDoorJ20
import Derived.Test.YtgknbdehlmlipaaGreatDoorJ21
import Derived.Test.YtgknbdehlmlipaaGreatDoorJ1
import Derived.Test.YtgknbdehlmlipaaGreatDoorJ6
import Derived.Test.YtgknbdehlmlipaaGreatDoorJ33
import Derived.Test.YtgknbdehlmlipaaGreatDoorJ30
set_option linter.unusedVariables false
set_option linter.unusedSectionVars false
set_option linter.unusedSimpArgs false
set_option maxHeartbeats 8000000
set_option maxRecDepth 20000
namespace Go.Proofs.YtgknbdehlmlipaaGreatDoor
open Go.RowKit
section
theorem NT.tight {K K' V:Nat}{v:Value}{w:World}(h:NT K V v w)(hb:bl V<=64*K'):NT K' V v w:=by
 obtain ⟨g,k,cap,z,h1,h2,h3,h4,h5⟩:=h
 exact ⟨g,k,cap,z,h1,by have:=(size_bl (m:=K') h3.2.2.1 h4).2 hb;omega,h3,h4,h5⟩
section
variable (x:Int)(vn vd:Value)(A KK:Nat)(w:World)(hx:-12000<=x/\x<=12000)
include hx
end
theorem ten_bl (k:Nat):bl (10^k)<=4*k+1:=by
 refine bl_le.2 ?_
 have h1:10^k<=16^k:=Nat.pow_le_pow_left (by decide) k
 have h2:(16:Nat)^k=2^(4*k):=by rw [Nat.pow_mul]
 have h3:(2:Nat)^(4*k)<2^(4*k+1):=Nat.pow_lt_pow_right (by decide) (by omega)
 omega
attribute [local irreducible] W4 NT NV
end
def Prt.at (p:Prt)(s:Bool):Prt:=⟨p.cls,s,p.sn,p.dig,p.ex⟩
/-! Make by value -/
/-! Read by value -/
section
attribute [local irreducible] NT NV
theorem rpow_ntw (b n:Nat)(w:World)(hb0:b≠0)(hb:b<18446744073709551616)(hn:n<=60000) :
  CE 26 #[.int .u64 (b:Int),.int .i64 (n:Int)] w (NT (4*n+2) (b^n)):=by
 have hN1:=(nt_unit (W:=w) (g:=w.heap.size) (V:=1) (vi:=1) rfl rfl (by decide) (by decide)).next (below1 _ (.cells #[.int .u64 (b:Int)] 22))
 have hN2:=nt_unit (W:=w.alloc (.cells #[.int .u64 1] 22)) (g:=w.heap.size+1) (V:=b) (vi:=(b:Int)) (by simp) rfl hb hb0
 have HB:Hid (Below w.heap.size w ((w.alloc (.cells #[.int .u64 1] 22)).alloc (.cells #[.int .u64 (b:Int)] 22))):=((Below.refl _ _).alloc (Nat.le_refl _) _).alloc (by simp) _
 go_enter Tryz.func26,Tryz.ntmps26
 go_wp2
 generalize (w.alloc (.cells #[.int .u64 1] 22)).alloc (.cells #[.int .u64 (b:Int)] 22)=wA at *
 go_loopw [1,5,6] (fun nv ov sv wr=>∃ (m P X Y:Nat),nv=.int .i64 (m:Int)/\m<=n/\1<=P/\m*P<=n/\P<=2*n+1/\NT (2*P-1) X ov wr/\NT (2*P-1) Y sv wr/\Hid (X*Y^m=b^n)/\Below w.heap.size w wr) (fun nv _ _ _=>(intOf nv).toNat)
 case atStart=>exact ⟨n,1,1,b,rfl,Nat.le_refl _,Nat.le_refl _,by omega,by omega,hN1,hN2,by show _=_;rw [Nat.one_mul],HB.out⟩
 case round =>
  clear hN1 hN2 HB
  obtain ⟨m,P,X,Y,rfl,hmn,hP,hmP,hP2,hN1,hN2,hv,hB⟩:=hrel
  by_cases h0:m=0
  ·subst h0
   have HV:Hid (X=b^n):=by show _=_;have:=hv.out;rw [Nat.pow_zero,Nat.mul_one] at this;exact this
   clear hN2 hv
   go_wp2
   go_ret
   exact ⟨_,rfl,by rw [← HV.out];exact hN1.more (by omega),hB⟩
  ·have hm0:(0:Int)<m:=by omega
   have hPn:P<=n:=by
    have:1*P<=m*P:=Nat.mul_le_mul_right P (by omega)
    omega
   have hq2:(m:Int)/2=((m/2:Nat):Int):=by omega
   have hr2:(m:Int)%2=((m%2:Nat):Int):=by omega
   have hmP':m/2*(2*P)<=n:=by
    have h1:m/2*2<=m:=Nat.div_mul_le_self m 2
    have h2:m/2*2*P<=m*P:=Nat.mul_le_mul_right P h1
    rw [← Nat.mul_assoc];omega
   have HPH:Hid (Y^m=(if m%2=1 then Y else 1)*(Y*Y)^(m/2)):=nat_half _ _
   generalize hq:m/2=q at *
   by_cases hodd:m%2=1
   ·rw [hodd] at hr2
    rw [if_pos hodd] at HPH
    have t1:=rtimes_nt (by omega) (by omega) hN1.nv hN2.nv
    by_cases hq0:q=0
    ·subst hq0
     have hq00:(m:Int)/2=0:=hq2
     clear hq2
     go_wp2_with (go_at_call 24;refine t1.mono ?_;rintro e w1 ⟨r1,rfl,hr1,hb1⟩;clear t1)
     have HV3:Hid (X*Y*Y^0=b^n):=by
      show _=_
      rw [← hv.out,HPH.out];simp
     have hN2':=hN2.next hb1
     have hB1:=hB.trans (hb1.mono hB.size)
     clear hN1 hN2 hv
     go_roundw
     case rel=>exact ⟨0,2*P,X*Y,Y,rfl,by omega,by omega,by omega,by omega,hr1.more (by omega),hN2'.more (by omega),HV3,hB1⟩
     case measure=>simp [intOf];omega
    ·have hq0':(0:Int)<q:=by omega
     go_wp2_with (go_at_call 24;refine t1.mono ?_;rintro e w1 ⟨r1,rfl,hr1,hb1⟩;clear t1)
     have hB1:=hB.trans (hb1.mono hB.size)
     have hN21:=hN2.next hb1
     have t2:=rtimes_nt (by omega) (by omega) hN21.nv hN21.nv
     go_wp2_with (go_at_call 24;refine t2.mono ?_;rintro e w2 ⟨r2,rfl,hr2',hb2⟩;clear t2)
     have HV3:Hid (X*Y*(Y*Y)^q=b^n):=by
      show _=_
      rw [← hv.out,HPH.out,Nat.mul_assoc]
     have hr1':=hr1.next hb2
     have hB2:=hB1.trans (hb2.mono hB1.size)
     clear hN1 hN2 hN21 hr1 hv
     go_roundw
     case rel=>exact ⟨q,2*P,X*Y,Y*Y,rfl,by omega,by omega,by omega,by omega,hr1'.more (by omega),hr2'.more (by omega),HV3,hB2⟩
     case measure=>simp [intOf];omega
   ·have h20:m%2=0:=by omega
    rw [h20] at hr2
    rw [if_neg hodd,Nat.one_mul] at HPH
    have hq0':(0:Int)<q:=by omega
    have t2:=rtimes_nt (by omega) (by omega) hN2.nv hN2.nv
    go_wp2_with (go_at_call 24;refine t2.mono ?_;rintro e w2 ⟨r2,rfl,hr2',hb2⟩;clear t2)
    have HV3:Hid (X*(Y*Y)^q=b^n):=by
     show _=_
     rw [← hv.out,HPH.out]
    have hN1':=hN1.next hb2
    have hB2:=hB.trans (hb2.mono hB.size)
    clear hN1 hN2 hv
    go_roundw
    case rel=>exact ⟨q,2*P,X,Y*Y,rfl,by omega,by omega,by omega,by omega,hN1'.more (by omega),hr2'.more (by omega),HV3,hB2⟩
    case measure=>simp [intOf];omega
theorem rpowT (n:Nat)(w:World)(hn:n<=60000):CE 26 #[.int .u64 10,.int .i64 (n:Int)] w (NT 4000 (10^n)) :=
 (rpow_ntw 10 n w (by decide) (by decide) hn).mono fun r w' ⟨v,e1,e2,e3⟩=>⟨v,e1,e2.tight (by have:=ten_bl n;omega),e3⟩
theorem rpower10w (n:Nat)(w:World)(hn:n<=60000):CE 108 #[.int .u64 10,.int .i64 (n:Int)] w (NT 4000 (10^n)):=by
 have c19:=rpowT n w hn
 go_enter Tryz.func108,Tryz.ntmps108
 go_wp2_with (go_at_call 26;refine c19.mono ?_;rintro r w1 ⟨v,rfl,hv,hb1⟩)
 go_ret
 exact ⟨v,rfl,hv,hb1⟩
section
variable (x:Int)(vn vd:Value)(A KK:Nat)(w:World)(hx:-60000<=x/\x<=60000)
include hx
theorem rsx10_pos (h:0<=x)
  (c79:Calls Tryz.prog 108 #[.int .u64 10,.int .i64 x] w fun e w'=>∃ p,e=.returned p/\Below w.heap.size w w'/\Calls Tryz.prog 24 #[vn,p] w' fun e w''=>∃ r,e=.returned r/\NT KK A r w''/\Below w'.heap.size w' w'') :
  Calls Tryz.prog 77 #[vn,vd,.int .u64 10,.int .i64 x] w fun e w'=>∃ r,e=.returned (.tuple #[r,vd])/\NT KK A r w'/\Below w.heap.size w w':=by
 have e1:max x (-60000)=x:=by omega
 have e2:min x 60000=x:=by omega
 go_enter Tryz.func77,Tryz.ntmps77
 go_wp2_with (first
  | (go_at_call 108;refine c79.mono ?_;rintro e w1 ⟨p,rfl,hb1,c17⟩)
  | (go_at_call 24;refine c17.mono ?_;rintro e w2 ⟨r,rfl,hr,hb2⟩))
 exact bodyPost_ret (v:=.tuple #[r,vd]) (by simp only [results,Tryz.results77];go_simp) rfl ⟨_,rfl,hr,hb1.trans (hb2.mono hb1.size)⟩
theorem rsx10_neg (m:Int)(hm:m=-x)(h:¬ 0<=x)
  (c79:Calls Tryz.prog 108 #[.int .u64 10,.int .i64 m] w fun e w'=>∃ p,e=.returned p/\Below w.heap.size w w'/\Calls Tryz.prog 24 #[vd,p] w' fun e w''=>∃ r,e=.returned r/\NT KK A r w''/\Below w'.heap.size w' w'') :
  Calls Tryz.prog 77 #[vn,vd,.int .u64 10,.int .i64 x] w fun e w'=>∃ r,e=.returned (.tuple #[vn,r])/\NT KK A r w'/\Below w.heap.size w w':=by
 have e1:max x (-60000)=x:=by omega
 have e2:min x 60000=x:=by omega
 subst hm
 go_enter Tryz.func77,Tryz.ntmps77
 go_wp2_with (first
  | (go_at_call 108;refine c79.mono ?_;rintro e w1 ⟨p,rfl,hb1,c17⟩)
  | (go_at_call 24;refine c17.mono ?_;rintro e w2 ⟨r,rfl,hr,hb2⟩))
 exact bodyPost_ret (v:=.tuple #[vn,r]) (by simp only [results,Tryz.results77];go_simp) rfl ⟨_,rfl,hr,hb1.trans (hb2.mono hb1.size)⟩
end
theorem rscaleT {N D:Nat}{vn vd:Value}{w:World}(x:Int)(hx:-60000<=x/\x<=60000)(h:NT 7000 N vn w)(h':NT 7000 D vd w)(hN:bl N<=200000)(hD:bl D<=200000) :
  Calls Tryz.prog 77 #[vn,vd,.int .u64 10,.int .i64 x] w fun e w'=>∃ a b,e=.returned (.tuple #[a,b])/\NT 7000 (N*10^x.toNat) a w'/\NT 7000 (D*10^(-x).toNat) b w'/\Below w.heap.size w w':=by
 by_cases hp:0<=x
 ·have c79:=rpower10w x.toNat w (by omega)
  rw [show ((x.toNat:Nat):Int)=x by omega] at c79
  rw [show (-x).toNat=0 by omega,Nat.pow_zero,Nat.mul_one]
  have b1:=bl_mul N (10^x.toNat)
  have b2:=ten_bl x.toNat
  exact (rsx10_pos x vn vd (N*10^x.toNat) 7000 w hx hp (c79.mono fun e w' ⟨p,e1,e2,e3⟩=>⟨p,e1,e3,(rtimes_nt (by decide) (by decide) (h.next e3).nv e2.nv).mono fun e w'' ⟨r,f1,f2,f3⟩=>⟨r,f1,f2.tight (by omega),f3⟩⟩)).mono fun e w' ⟨r,e1,e2,e3⟩=>⟨_,_,e1,e2,h'.next e3,e3⟩
 ·have c79:=rpower10w (-x).toNat w (by omega)
  rw [show (((-x).toNat:Nat):Int)=-x by omega] at c79
  rw [show x.toNat=0 by omega,Nat.pow_zero,Nat.mul_one]
  have b1:=bl_mul D (10^(-x).toNat)
  have b2:=ten_bl (-x).toNat
  exact (rsx10_neg x vn vd (D*10^(-x).toNat) 7000 w hx (-x) rfl hp (c79.mono fun e w' ⟨p,e1,e2,e3⟩=>⟨p,e1,e3,(rtimes_nt (by decide) (by decide) (h'.next e3).nv e2.nv).mono fun e w'' ⟨r,f1,f2,f3⟩=>⟨r,f1,f2.tight (by omega),f3⟩⟩)).mono fun e w' ⟨r,e1,e2,e3⟩=>⟨_,_,e1,h.next e3,e2,e3⟩
end
end Go.Proofs.YtgknbdehlmlipaaGreatDoor
