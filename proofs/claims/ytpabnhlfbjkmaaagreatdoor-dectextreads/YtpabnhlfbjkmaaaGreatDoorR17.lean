/-
  Texts that the proof leans on.
-/
import Derived.Test.YtpabnhlfbjkmaaaGreatDoorR15
import Derived.Test.YtpabnhlfbjkmaaaGreatDoorR1
import Derived.Test.YtpabnhlfbjkmaaaGreatDoorR13
import Derived.Test.YtpabnhlfbjkmaaaGreatDoorR8
import Derived.Laws.BytesArg
import Derived.Test.YtpabnhlfbjkmaaaGreatDoorR16
import Derived.Shelf.SlicesE.Reverse
set_option maxHeartbeats 8000000
set_option linter.unusedVariables false
set_option linter.unusedSimpArgs false
set_option linter.unusedSectionVars false
set_option maxRecDepth 20000
namespace Go.Proofs.YtpabnhlfbjkmaaaGreatDoor
open Go.RowKit
section
theorem zOj {z:Nat->Int}(hz:zFa z):∀ m,0<m->sizeL z m=m->0<val z m
 | 0,h,_=>by omega
 | m+1,_,h=>by
  have hne:z m≠0:=by
   intro e
   have:sizeL z (m+1)=sizeL z m:=by simp [sizeL,e]
   have:=zGa z m
   omega
  have h1:=(zRa hz m).1
  have h2:=hz m
  have h3:=zXb m
  show 0<val z m+z m*18446744073709551616^m
  have:0<z m*18446744073709551616^m:=Int.mul_pos (by omega) h3
  omega
theorem zBc (z:Nat->Int)(j:Nat):∀ m,val z (j+m)=val z j+val (segW z j m) m*18446744073709551616^j
 | 0=>by simp [val]
 | m+1=>by
  rw [zXf]
  show val z (j+m)+z (j+m)*18446744073709551616^(j+m)=_
  rw [zBc z j m,Int.pow_add];grind
theorem zA4 {y:Int}(h0:0<y)(h:y<=18446744073709551615):∃ r:Nat,r<64/\(64-(Lib.bitLen y.toNat:Int))=r/\9223372036854775808<=y*2^r/\y*2^r<=18446744073709551615:=by
 obtain ⟨n,rfl⟩:=Int.eq_ofNat_of_zero_le (Int.le_of_lt h0)
 have h1:=zTc n (by omega) (by omega)
 have h2:=zCy n (by omega) (by omega)
 rw [Int.toNat_natCast]
 refine ⟨64-Lib.bitLen n,by omega,by omega,?_,?_⟩
 ·rw [← zPb,← Int.natCast_mul];omega
 ·rw [← zPb,← Int.natCast_mul];omega
theorem zB9 {y:Nat->Int}(hy:zFa y){r t:Nat}(ht:0<t)(h1:9223372036854775808<=y (t-1)*2^r)(h2:y (t-1)*2^r<=18446744073709551615):9223372036854775808<=shW y r (t-1)/\val (shW y r) t=val y t*2^r:=by
 refine ⟨?_,?_⟩
 ·unfold shW
  have:=(zJm hy r (t-1)).1
  rw [Int.emod_eq_of_lt (by omega) (by omega)];omega
 ·have e:=zMv y r t
  have e1:prevW y r t=0:=by
   unfold prevW hiW;rw [if_neg (by omega)];exact Int.ediv_eq_zero_of_lt (by omega) (by omega)
  rw [e1] at e;omega
theorem zUt {U VQ D Vj R q rho Vn B:Int}(h:VQ*D+Vn=U)(hs:Vn=Vj+R*B)(hq:D*q+rho=R):(VQ+q*B)*D+(Vj+rho*B)=U:=by grind
theorem zE4 {X Y S VQ Vz Vr m:Int}(hS:0<S)(hY:0<Y)(h:VQ*(Y*S)+Vz=X*S)(hlt:Vz<Y*S)(hz:0<=Vz)(hr:Vr*S+m=Vz)(hm:0<=m)(hmS:m<S):VQ=X/Y/\Vr=X%Y:=by
 have e:(X-VQ*Y-Vr)*S=m:=by grind
 have hk:X-VQ*Y-Vr=0:=by
  rcases Int.lt_trichotomy (X-VQ*Y-Vr) 0 with hl|he|hg
  ·have:(X-VQ*Y-Vr)*S<=(-1)*S:=Int.mul_le_mul_of_nonneg_right (by omega) (by omega)
   omega
  ·exact he
  ·have:1*S<=(X-VQ*Y-Vr)*S:=Int.mul_le_mul_of_nonneg_right (by omega) (by omega)
   omega
 rw [hk,Int.zero_mul] at e
 have h1:0<=Vr:=by
  rcases Int.lt_or_le Vr 0 with hl|hge
  ·have:Vr*S<=(-1)*S:=Int.mul_le_mul_of_nonneg_right (by omega) (by omega)
   omega
  ·exact hge
 have h2:Vr<Y:=by
  rcases Int.lt_or_le Vr Y with hl|hge
  ·exact hl
  ·have:Y*S<=Vr*S:=Int.mul_le_mul_of_nonneg_right hge (by omega)
   omega
 have:=(Int.ediv_emod_unique hY (a:=X) (r:=Vr) (q:=VQ)).2 ⟨by rw [Int.mul_comm];omega,h1,h2⟩
 exact ⟨this.1.symm,this.2.symm⟩
theorem zVu (y:Nat->Int)(r k i:Nat)(hi:i<k):upZ (fun _=>0) y r 0 k i=shW y r i:=by unfold upZ;rw [if_pos (by omega)];rfl
set_option maxRecDepth 20000 in
theorem zWk (a a':Option Addr)(s c t c':Nat)(x y:Nat->Int)(w:World)(hs:s<=2000)(ht:2<=t)(hts:t<=s)(h:Num w a s c x)(h':Num w a' t c' y)(hy0:sizeL y t=t) :
  Calls Tryz.prog 212 #[.slice a s c,.slice a' t c'] w fun e w'=>∃ gq gr q z,e=.returned (.tuple #[.slice (some ⟨gq,0,none⟩) (s-t+1) (s-t+1),.slice (some ⟨gr,0,none⟩) t t])/\Own gq (s-t+1) q w'/\zFa q/\val q (s-t+1)=val x s/val y t/\Own gr t z w'/\zFa z/\val z t=val x s%val y t/\Below w.heap.size w w':=by
 have hx:=h.2.2.1
 have hy:=h'.2.2.1
 have hyne:y (t-1)≠0:=by have:=zJc (x:=y) t (by omega);rw [hy0] at this;exact this
 have hyb:=hy (t-1)
 obtain ⟨r,hr64,hr,hn1,hn2⟩:=zA4 (y:=y (t-1)) (by omega) hyb.2
 have htop:=zB9 hy (t:=t) (by omega) hn1 hn2
 have hlz:=fun w=>(Tryz.bits_LeadingZeros64 (y (t-1)) w hyb.1 hyb.2).mono (fun e w' hw=>(⟨hw.1,hw.2.symm⟩:_/\w=w'))
 rw [hr] at hlz
 obtain ⟨b',off',rfl,hb',hc'⟩:=h'.cells (by omega)
 have hct:=hc' (t-1) (by omega)
 have et1:((t:Int)-1).toNat=t-1:=by omega
 have hti:(2:Int)<=t:=by omega
 have hm1:=fun w=>zWa ((t:Int)+1) (t+1) (by omega) (by omega) w
 have hm2:=fun w=>zWa ((s:Int)+1) (s+1) (by omega) (by omega) w
 have hm3:=fun w=>zWa ((s:Int)-t+1) (s-t+1) (by omega) (by omega) w
 have hm4:=fun w=>zWa (t:Int) t rfl (by omega) w
 have hB1:=zEa w (.cells (arrOf (fun _=>0) (t+1)) 22)
 have u1:=zSj w.heap.size (t+1) 0 (t+1) (t+1) t c' r _ (fun _=>0) y _ (by omega) (by omega) (by omega) hr64 (Own.new w (fun _=>0) (t+1)) (h'.next hB1) (zBf h')
 go_enter Tryz.func212,Tryz.ntmps212
 go_wp2_with (first|(go_at_call 135;refine (hlz _).mono ?_;rintro e w' ⟨rfl,rfl⟩)|(go_at_call 225;refine u1.mono ?_;rintro e w1 ⟨rfl,hV1,hU1⟩;clear u1))
 have hBw1:Below w.heap.size w w1:=hB1.trans (hU1.below (Nat.le_refl _))
 have HG1:Hid (w1.heap.size=w.heap.size+1):=by show _=_;rw [hU1.size];simp
 have hn1w:=h.next hBw1
 have hB2:=zEa w1 (.cells (arrOf (fun _=>0) (s+1)) 22)
 have u2:=zSj w1.heap.size (s+1) 0 (s+1) (s+1) s c r a (fun _=>0) x _ (by omega) (by omega) (by omega) hr64 (Own.new w1 (fun _=>0) (s+1)) (hn1w.next hB2) (zBf hn1w)
 go_wp2_with (go_at_call 225;refine u2.mono ?_;rintro e w2 ⟨rfl,hL2,hU2⟩;clear u2)
 have hg2:w2.heap.size=w1.heap.size+1:=by rw [hU2.size];simp
 have hg1:w1.heap.size=w.heap.size+1:=HG1.out
 clear HG1
 have hB3:=zEa w2 (.cells (arrOf (fun _=>0) (s-t+1)) 22)
 have hBw2:Below w.heap.size w w2:=(hBw1.trans (hB2.mono hBw1.size)).trans (hU2.below (by omega))
 have hBwC:=hBw2.trans (hB3.mono hBw2.size)
 have hV3:Own w.heap.size (t+1) (upZ (fun _=>0) y r 0 (t+1)) (w2.alloc (.cells (arrOf (fun _=>0) (s-t+1)) 22)):=Below.own hB3 (by omega) (hU2.own (by omega) (Below.own hB2 (by omega) hV1))
 have hL3:=Below.own hB3 (by omega) hL2
 have hQ3:=Own.new w2 (fun _=>0) (s-t+1)
 have e1:∀ i,i<t+1->upZ (fun _=>0) y r 0 (t+1) i=shW y r i:=fun i hi=>zVu y r _ i hi
 have e2:∀ i,i<s+1->upZ (fun _=>0) x r 0 (s+1) i=shW x r i:=fun i hi=>zVu x r _ i hi
 replace hV3:=hV3.congr e1
 replace hL3:=hL3.congr e2
 have hUv:val (shW x r) (s+1)=val x s*2^r:=zO6 h.2.2.2.1 r (s+1) (by omega)
 have HWX:=zCo hx hr64
 have HWY:=zCo hy hr64
 have hD0:0<val y t:=zOj hy t (by omega) hy0
 have hS:=zHb r
 have hDpos:0<val y t*2^r:=Int.mul_pos hD0 hS
 have hxb:=zRa hx s
 have hUlt:val x s*2^r<val y t*2^r*18446744073709551616^(s-t+1):=by
  have hY1:9223372036854775808*18446744073709551616^(t-1)<=val y t*2^r:=by
   rw [← htop.2]
   have e5:val (shW y r) t=val (shW y r) (t-1)+shW y r (t-1)*18446744073709551616^(t-1):=by
    conv=>lhs;rw [show t=t-1+1 by omega]
    rfl
   have h6:=(zRa HWY (t-1)).1
   have h7:9223372036854775808*18446744073709551616^(t-1)<=shW y r (t-1)*18446744073709551616^(t-1):=Int.mul_le_mul_of_nonneg_right htop.1 (Int.le_of_lt (zXb _))
   omega
  have h8:val x s*2^r<18446744073709551616^s*2^r:=Int.mul_lt_mul_of_pos_right hxb.2 hS
  have h9:(18446744073709551616:Int)^s*2^r<=18446744073709551616^s*9223372036854775808:=Int.mul_le_mul_of_nonneg_left (zKm hr64) (Int.le_of_lt (zXb _))
  have h10:9223372036854775808*18446744073709551616^(t-1)*18446744073709551616^(s-t+1)<=val y t*2^r*18446744073709551616^(s-t+1):=Int.mul_le_mul_of_nonneg_right hY1 (Int.le_of_lt (zXb _))
  have h11:(18446744073709551616:Int)^(t-1)*18446744073709551616^(s-t+1)=18446744073709551616^s:=by rw [← Int.pow_add];congr 1;omega
  rw [Int.mul_assoc,h11,Int.mul_comm] at h10
  omega
 generalize hgV:w.heap.size=gV at *
 generalize hgL:w1.heap.size=gL at *
 generalize hgQ:w2.heap.size=gQ at *
 generalize hwC:w2.alloc (.cells (arrOf (fun _=>0) (s-t+1)) 22)=wC at *
 obtain ⟨D,hDe⟩:∃ D,val y t*2^r=D:=⟨_,rfl⟩
 obtain ⟨U,hUe⟩:∃ U,val x s*2^r=U:=⟨_,rfl⟩
 rw [hDe] at htop hDpos hUlt
 rw [hUe] at hUv hUlt
 have hVL:gV<gL:=by omega
 have hLQ:gL<gQ:=by omega
 have HGV:Hid (w.heap.size=gV):=hgV
 clear hg1 hg2 hgV
 have HE:Hid (val y t*2^r=D/\val x s*2^r=U/\0<val y t/\(0:Int)<2^r):=⟨hDe,hUe,hD0,hS⟩
 clear hV1 hL2 hU1 hU2 hB1 hB2 hB3 hBw1 hBw2 hn1w e1 e2 hlz hct hc' h h' hm1 hm2 hm3 hDe hUe hD0 hS hxb hn1 hn2 hr hyb hyne hwC hgQ hgL w1 w2
 have hYN:∀ wr,Own gV (t+1) (shW y r) wr->Num wr (some ⟨gV,0,none⟩) t (t+1) (segW (shW y r) 0 t):=fun wr hO=>hO.num HWY 0 t (t+1) (by omega) (by omega) (by unfold maxLen;omega)
 have hYv:val (segW (shW y r) 0 t) t=D:=by
  rw [zIa (y:=shW y r) t fun i hi=>by rw [zUa _ _ _ i hi,Nat.zero_add]];exact htop.2
 have hYt:9223372036854775808<=segW (shW y r) 0 t (t-1):=by rw [zUa _ _ _ (t-1) (by omega),Nat.zero_add];exact htop.1
 have HYN:Hid (∀ wr,Own gV (t+1) (shW y r) wr->Num wr (some ⟨gV,0,none⟩) t (t+1) (segW (shW y r) 0 t)):=hYN
 have HYT:Hid (val (segW (shW y r) 0 t) t=D/\9223372036854775808<=segW (shW y r) 0 t (t-1)):=⟨hYv,hYt⟩
 have hAp:zTi (some ⟨gV,0,none⟩) gL:=by intro p hp;cases hp;show gV≠gL;omega
 have HAP:Hid (zTi (some ⟨gV,0,none⟩) gL):=hAp
 clear hYN hYv hYt hAp htop hy hx
 generalize segW (shW y r) 0 t=Y at *
 go_loopw [10] (fun iv wr=>∃ (k:Nat) (z q:Nat->Int),k<=s-t+1/\iv=.int .i64 ((k:Int)-1)/\Own gV (t+1) (shW y r) wr/\Own gL (s+1) z wr/\zFa z/\Own gQ (s-t+1) q wr/\zFa q/\(∀ i,i<k->q i=0)/\Hid (val q (s-t+1)*D+val z (k+t)=U)/\Hid (val z (k+t)<D*18446744073709551616^k)/\Below gV w wr) (fun iv _=>(intOf iv+1).toNat)
 case atStart=>exact ⟨s-t+1,shW x r,fun _=>0,Nat.le_refl _,by go_num,hV3,hL3,HWX,hQ3,fun _=>(by decide:(0:Int)<=0/\(0:Int)<=18446744073709551615),fun _ _=>rfl,by show _=_;rw [zWd,Int.zero_mul,Int.zero_add,show s-t+1+t=s+1 by omega,hUv],by show _<_;rw [show s-t+1+t=s+1 by omega,hUv];exact hUlt,hBwC⟩
 case round =>
  clear hV3 hL3 hQ3 hBwC hUv hUlt HWX
  obtain ⟨k,z,q,hk,rfl,hV,hL,hzw,hQ,hqw,hq0,hvU,hlt,hB⟩:=hrel
  by_cases h0:k=0
  ·subst h0
   have hZN:=hL.num hzw 0 t (s+1) (by omega) (by omega) (by unfold maxLen;omega)
   have hB5:=zEa wr (.cells (arrOf (fun _=>0) t) 22)
   have u3:=zGm wr.heap.size t t t (s+1) r (some ⟨gL,0,none⟩) (fun _=>0) (segW z 0 t) _ (Nat.le_refl _) (by omega) hr64 (Own.new wr (fun _=>0) t) (hZN.next hB5) (zBf hZN)
   have HFIN:Hid (val q (s-t+1)=val x s/val y t/\val (zGc (segW z 0 t) 0 r) t=val x s%val y t):=by
    have hdn:=zHs (zUb hzw 0 t) hr64 t
    have e1:val (segW z 0 t) t=val z (0+t):=by
     rw [Nat.zero_add];exact zIa t fun i hi=>by rw [zUa _ _ _ i hi,Nat.zero_add]
    rw [zAh z 0 t t (Nat.le_refl _),Int.zero_emod,Int.zero_mul,Int.add_zero,e1] at hdn
    have hE:=HE.out
    have h1:=hvU.out
    have h2:=hlt.out
    rw [← hE.1,← hE.2.1] at h1
    rw [Int.pow_zero,Int.mul_one,← hE.1] at h2
    exact zE4 hE.2.2.2 hE.2.2.1 h1 h2 (zRa hzw (0+t)).1 hdn (Int.emod_nonneg _ (by have:=hE.2.2.2;omega)) (Int.emod_lt_of_pos _ hE.2.2.2)
   have HRW:Hid (zFa (zGc (segW z 0 t) 0 r)):=zPd (zUb hzw 0 t) 0 r
   have HQx:Hid (Own gQ (s-t+1) q (wr.alloc (.cells (arrOf (fun _=>0) t) 22))):=Below.own hB5 hQ.lt hQ
   have hQlt:=hQ.lt
   have HQW:Hid (zFa q):=hqw
   have HB6:Hid (Below gV w (wr.alloc (.cells (arrOf (fun _=>0) t) 22))):=hB.trans (hB5.mono (by have:=hB.size;have:=HGV.out;omega))
   have HLE:Hid (gV<=wr.heap.size):=by have h1:=hB.size;have h2:=HGV.out;show _<=_;omega
   clear hZN hB5 hV hL hzw hQ hqw hq0 hvU hlt hB HYN HYT HAP
   go_wp2_with (go_at_call 227;refine u3.mono ?_;rintro e w5 ⟨rfl,hR5,hU5⟩;clear u3)
   go_ret2
   exact ⟨gQ,wr.heap.size,q,zGc (segW z 0 t) 0 r,rfl,hU5.own (by omega) HQx.out,HQW.out,HFIN.out.1,hR5.congr (fun i hi=>by unfold dnZ;rw [if_pos (by omega)]),HRW.out,HFIN.out.2,by rw [HGV.out];exact HB6.out.trans (hU5.below HLE.out)⟩
  ·obtain ⟨j,rfl⟩:∃ j,k=j+1:=⟨k-1,by omega⟩
   have ej:((j+1:Nat):Int)-1=j:=by omega
   rw [ej]
   have ejt:j+t+1-j=t+1:=by omega
   have hsp:=zBc z j (t+1)
   rw [show j+(t+1)=j+1+t by omega] at hsp
   have hRlt:val (segW z j (t+1)) (t+1)<val Y t*18446744073709551616:=by
    rw [HYT.out.1]
    rcases Int.lt_or_le (val (segW z j (t+1)) (t+1)) (D*18446744073709551616) with h1|h1
    ·exact h1
    ·exfalso
     have h2:=hlt.out
     have h3:=(zRa hzw j).1
     have h4:D*18446744073709551616*18446744073709551616^j<=val (segW z j (t+1)) (t+1)*18446744073709551616^j:=Int.mul_le_mul_of_nonneg_right h1 (Int.le_of_lt (zXb j))
     rw [hsp,Int.pow_succ] at h2
     have e:D*18446744073709551616*18446744073709551616^j=D*(18446744073709551616^j*18446744073709551616):=by grind
     omega
   have hst:=zVk gL (s+1) j t (s+1-j) (t+1) (some ⟨gV,0,none⟩) z Y wr ht (by omega) (by omega) hzw hL (HYN.out wr hV) HAP.out HYT.out.2 hRlt
   rw [HYT.out.1] at hst
   have hR0:=(zRa (zUb hzw j (t+1)) (t+1)).1
   rw [HYT.out.1] at hRlt
   have HRB:Hid (0<=val (segW z j (t+1)) (t+1)/\val (segW z j (t+1)) (t+1)<D*18446744073709551616):=⟨hR0,hRlt⟩
   have HSP:Hid (val z (j+1+t)=val z j+val (segW z j (t+1)) (t+1)*18446744073709551616^j):=hsp
   generalize val (segW z j (t+1)) (t+1)=R at *
   have HVx:Hid (Own gV (t+1) (shW y r) wr):=hV
   have HQx:Hid (Own gQ (s-t+1) q wr):=hQ
   have HZB:Hid (0<=val z j/\val z j<18446744073709551616^j):=zRa hzw j
   have hjb:j<s-t+1:=by omega
   have hji:(j:Int)<((s-t+1:Nat):Int):=by omega
   have hjs:(j:Int)+t+1<=((s+1:Nat):Int):=by omega
   have HQ0:Hid (∀ i,i<j+1->q i=0):=hq0
   have HQW:Hid (zFa q):=hqw
   clear hsp hRlt hR0 hV hL hzw hQ hqw hq0 ej HYN HYT HAP
   go_wp2_with (go_at_call 226;refine hst.mono ?_;rintro e w1 ⟨rfl,z1,hO1,hw1,hzx1,hv1,hU1⟩;have hQ1:=hU1.own (by omega) HQx.out;have hcq:=hQ1.cell j hjb;have hfq:=hQ1.frozen j)
   go_roundw
   case rel =>
    have hD:=HRB.out
    have hDp:0<D:=hDpos
    have hdq:D*(R/D)+R%D=R:=Int.mul_ediv_add_emod R D
    have hq1:0<=R/D:=Int.ediv_nonneg hD.1 (by omega)
    have hq2:R/D<18446744073709551616:=Int.ediv_lt_of_lt_mul hDp (by rw [Int.mul_comm];exact hD.2)
    have hsp1:=zBc z1 j t
    have hzz:val z1 j=val z j:=zIa j fun i hi=>hzx1 i hi
    rw [hzz,hv1] at hsp1
    refine ⟨j,z1,fun i=>if i=j then R/D else q i,by omega,by go_num,?_,?_,hw1,hQ1.set j _,zTb HQW.out (by omega),?_,?_,?_,?_⟩
    ·exact (((Upd.refl gQ w1).set j _)).own (by omega) (hU1.own (by omega) HVx.out)
    ·exact (((Upd.refl gQ w1).set j _)).own (by omega) hO1
    ·intro i hi
     exact (if_neg (show ¬ i=j by omega)).trans (HQ0.out i (by omega))
    ·show _=_
     rw [zGd q j (R/D) (s-t+1) hjb,HQ0.out j (by omega),Int.sub_zero,hsp1]
     exact zUt hvU.out HSP.out hdq
    ·show _<_
     rw [hsp1]
     have h1:=Int.emod_lt_of_pos R hDp
     have h2:=HZB.out
     have h3:R%D*18446744073709551616^j<=(D-1)*18446744073709551616^j:=Int.mul_le_mul_of_nonneg_right (by omega) (Int.le_of_lt (zXb j))
     rw [Int.sub_mul,Int.one_mul] at h3
     omega
    ·exact (hB.trans (hU1.below (by omega))).trans (((Upd.refl gQ w1).set j _).below (by omega))
   case measure=>simp [intOf]
end
theorem zIm {x:Nat->Int}{d:Int}(hx:zFa x)(hd:0<d)(m:Nat):val (quoW x d m) m=val x m/d/\remJ x d m m=val x m%d:=by
 have h:=zNq x d m m (Nat.le_refl _)
 simp only [Nat.sub_self,val,Int.pow_zero,Int.mul_one,Int.zero_add,Int.sub_zero] at h
 have hb:=zLf x d m m hd
 have e:=(Int.ediv_emod_unique hd (a:=val x m) (r:=remJ x d m m) (q:=val (quoW x d m) m)).2 ⟨h,hb.1,hb.2⟩
 exact ⟨e.1.symm,e.2.symm⟩
theorem zPl {x:Nat->Int}{d:Int}(hx:zFa x)(hd:0<d)(m k:Nat):zFa (divZ x d m k):=fun i=>by unfold divZ;split;exact zYf hx hd m i;exact hx i
theorem zYq (c:Int):val (zOc c) 1=c:=by simp [val,zOc]
def zWs (n n':Nat)(X Y:Int)(w:World)(e:Ending)(w':World):Prop :=
 ∃ o k cap z o' k' cap' z',e=.returned (.tuple #[.slice o k cap,.slice o' k' cap',.int .i64 0])/\k<=2001/\k'<=2001/\Num w' o k cap z/\Num w' o' k' cap' z'/\val z k=X/Y/\val z' k'=X%Y/\sizeL z k=k/\sizeL z' k'=k'/\Below w.heap.size w w'
theorem zFy (a a':Option Addr)(n c n' c':Nat)(x y:Nat->Int)(w:World)(hn:n<4000000000)(hn':n'<4000000000)(h:Num w a n c x)(h':Num w a' n' c' y)(hs:sizeL x n<=2000)(hs':sizeL y n'<=2000)(hlt:sizeL x n<sizeL y n') :
  Calls Tryz.prog 190 #[.slice a n c,.slice a' n' c'] w (zWs n n' (val x n) (val y n') w):=by
 have hb:=zYa a n c x w (by omega) h
 have hb':=zYa a' n' c' y w (by omega) h'
 have hle:=zGa x n
 have hle':=zGa y n'
 have ht:=zFh a (sizeL x n) c x w (by omega) h.bare
 rw [zHa] at ht
 have hv:=zQc h.2.2.1 h'.2.2.1 hlt (zHa y n')
 rw [zOa,zOa] at hv
 have hx0:=(zRa h.2.2.1 n).1
 have HV:Hid (val x n/val y n'=0/\val x n%val y n'=val x n):=⟨Int.ediv_eq_zero_of_lt hx0 hv,Int.emod_eq_of_lt hx0 hv⟩
 have HN:Hid (Num (w.alloc (.cells (arrOf x (sizeL x n)) 22)) (some ⟨w.heap.size,0,none⟩) (sizeL x n) (sizeL x n) x):=zZa (by omega) h.2.2.1 h.bare.2.2.2.1 (arrOf_size _ _) (fun j hj=>zJa _ _ _ _)
 have HVX:Hid (val x (sizeL x n)=val x n):=zOa n
 have HSS:Hid (sizeL x (sizeL x n)=sizeL x n):=zHa x n
 have hlti:(sizeL x n:Int)<sizeL y n':=by omega
 have hsi:(sizeL x n:Int)<=2000:=by omega
 have hsi':(sizeL y n':Int)<=2000:=by omega
 have hne:((sizeL y n':Int)==0)=false:=by simp;omega
 generalize sizeL x n=s at *
 generalize sizeL y n'=s' at *
 clear h h' hv hx0
 generalize val x n=X at *
 generalize val y n'=Y at *
 go_enter Tryz.func190,Tryz.ntmps190
 go_wp2_with (first|(go_at_call_of 63 (Value.slice a n c);refine hb.mono ?_;rintro e w' ⟨rfl,rfl⟩)|(go_at_call_of 63 (Value.slice a' n' c');refine hb'.mono ?_;rintro e w' ⟨rfl,rfl⟩)|(go_at_call 64;refine ht.mono ?_;rintro e w1 ⟨rfl,rfl⟩))
 go_ret3
 exact ⟨none,0,0,_,_,s,s,x,rfl,by omega,by omega,zX3 _,HN.out,by rw [HV.out.1];rfl,by rw [HV.out.2];exact HVX.out,rfl,HSS.out,zEa w _⟩
theorem zB4 (a a':Option Addr)(n c n' c':Nat)(x y:Nat->Int)(w:World)(hn:n<4000000000)(hn':n'<4000000000)(h:Num w a n c x)(h':Num w a' n' c' y)(hs:sizeL x n<=2000)(hs':sizeL y n'=1)(hlt:1<=sizeL x n) :
  Calls Tryz.prog 190 #[.slice a n c,.slice a' n' c'] w (zWs n n' (val x n) (val y n') w):=by
 have hb:=zYa a n c x w (by omega) h
 have hb':=zYa a' n' c' y w (by omega) h'
 have hle:=zGa x n
 have hle':=zGa y n'
 have ht:=zFh a (sizeL x n) c x w (by omega) h.bare
 rw [zHa] at ht
 have hy1:val y n'=y 0:=by rw [← zOa n',hs'];simp [val]
 have hyt:=zJc (x:=y) n' (by omega)
 rw [hs'] at hyt
 have hyb:=h'.2.2.1 0
 have hy0:0<y 0:=by have:y 0≠0:=hyt;omega
 obtain ⟨b',off',rfl,hbs',hc'⟩:=h'.cells (by omega)
 have hcy:=hc' 0 (by omega)
 have hx:=h.2.2.1
 have HVX:Hid (val x (sizeL x n)=val x n):=zOa n
 rw [hs'] at hb'
 have hd:=zXi w.heap.size (sizeL x n) (sizeL x n) (sizeL x n) x (y 0) _ (Nat.le_refl _) (by omega) hx ⟨hy0,hyb.2⟩ (Own.new w x (sizeL x n))
 have hqv:=zIm hx hy0 (sizeL x n)
 rw [hy1]
 have hcy2:(w.alloc (.cells (arrOf x (sizeL x n)) 22)).cell? ⟨b',off',none⟩=some (.int .u64 (y 0)):=((zEa w _).cell (p:=⟨b',off',none⟩) hbs').trans hcy
 have HB:=zEa w (.cells (arrOf x (sizeL x n)) 22)
 have hsi:(sizeL x n:Int)<=2000:=by omega
 have hs1i:¬ (sizeL x n:Int)<1:=by omega
 have hs1n:¬ sizeL x n<1:=by omega
 have HDW:Hid (zFa (divZ x (y 0) (sizeL x n) 0)):=zPl hx hy0 _ 0
 have HDV:Hid (val (divZ x (y 0) (sizeL x n) 0) (sizeL x n)=val x n/y 0):=by
  show _=_
  rw [zIa (y:=quoW x (y 0) (sizeL x n)) (sizeL x n) fun i hi=>by unfold divZ;rw [if_pos (by omega)],hqv.1,HVX.out]
 have HRV:Hid (remJ x (y 0) (sizeL x n) (sizeL x n)=val x n%y 0):=by show _=_;rw [hqv.2,HVX.out]
 have hrb:=zLf x (y 0) (sizeL x n) (sizeL x n) hy0
 generalize remJ x (y 0) (sizeL x n) (sizeL x n)=rm at *
 generalize divZ x (y 0) (sizeL x n) 0=dz at *
 generalize sizeL x n=s at *
 clear h h' hc' hqv hyt hx HVX hy1
 generalize val x n=X at *
 go_enter Tryz.func190,Tryz.ntmps190
 go_wp2_with (first|(go_at_call_of 63 (Value.slice a n c);refine hb.mono ?_;rintro e w' ⟨rfl,rfl⟩;clear hb)|(go_at_call_of 63 (Value.slice (some ⟨b',off',none⟩) n' c');refine hb'.mono ?_;rintro e w' ⟨rfl,rfl⟩;clear hb')|(go_at_call 64;refine ht.mono ?_;rintro e w1 ⟨rfl,rfl⟩)|(go_at_call 65;refine hd.mono ?_;rintro e w2 ⟨rfl,hO2,hU2⟩))
 obtain ⟨k,z',hkN,hNk,hvk,hsk,hbr⟩:=zKn hO2 HDW.out (by omega) (Nat.le_refl s) (by unfold maxLen;omega) HDV.out
 go_wp2_with (go_at_call 63;refine hbr.mono ?_;rintro e w3 ⟨rfl,rfl⟩;clear hbr)
 have hN1:=zLc w2 rm (by omega)
 have hB2:=zEa w2 (.cells #[.int .u64 rm] 22)
 have hbr2:=zYa _ 1 1 (zOc rm) _ (by omega) hN1
 have HN1:Hid (Num (w2.alloc (.cells #[.int .u64 rm] 22)) (some ⟨w2.heap.size,0,none⟩) (sizeL (zOc rm) 1) 1 (zOc rm)):=hN1.bare
 have HNk:Hid (Num (w2.alloc (.cells #[.int .u64 rm] 22)) (some ⟨w.heap.size,0,none⟩) k s z'):=hNk.next hB2
 have HBB:Hid (Below w.heap.size w (w2.alloc (.cells #[.int .u64 rm] 22))):=(HB.trans (hU2.below (Nat.le_refl _))).trans (hB2.mono (by rw [hU2.size];simp))
 have HV1:Hid (val (zOc rm) (sizeL (zOc rm) 1)=X%y 0):=by show _=_;rw [zOa,zYq,HRV.out]
 have HSS:Hid (sizeL (zOc rm) (sizeL (zOc rm) 1)=sizeL (zOc rm) 1):=zHa _ _
 have HLE:Hid (sizeL (zOc rm) 1<=1):=zGa _ _
 generalize sizeL (zOc rm) 1=k1 at *
 clear hN1 hB2 hNk hO2 hU2 HB
 go_wp2_with (go_at_call 63;refine hbr2.mono ?_;rintro e w4 ⟨rfl,rfl⟩;clear hbr2)
 go_ret3
 exact ⟨_,k,s,z',_,k1,1,zOc rm,rfl,by omega,by have:=HLE.out;omega,HNk.out,HN1.out,hvk,HV1.out,hsk,HSS.out,HBB.out⟩
theorem zEy (a a':Option Addr)(n c n' c':Nat)(x y:Nat->Int)(w:World)(hn:n<4000000000)(hn':n'<4000000000)(h:Num w a n c x)(h':Num w a' n' c' y)(hs:sizeL x n<=2000)(hs':2<=sizeL y n')(hlt:sizeL y n'<=sizeL x n) :
  Calls Tryz.prog 190 #[.slice a n c,.slice a' n' c'] w (zWs n n' (val x n) (val y n') w):=by
 have hb:=zYa a n c x w (by omega) h
 have hb':=zYa a' n' c' y w (by omega) h'
 have hle:=zGa x n
 have hle':=zGa y n'
 have hd:=zWk a a' (sizeL x n) c (sizeL y n') c' x y w hs hs' hlt h.bare h'.bare (zHa y n')
 rw [zOa,zOa] at hd
 have hlti:¬ (sizeL x n:Int)<sizeL y n':=by omega
 have hltn:¬ sizeL x n<sizeL y n':=by omega
 have hsi:(sizeL x n:Int)<=2000:=by omega
 have hsi':(sizeL y n':Int)<=2000:=by omega
 have hne:((sizeL y n':Int)==0)=false:=by simp;omega
 have hne1:((sizeL y n':Int)==1)=false:=by simp;omega
 generalize sizeL x n=s at *
 generalize sizeL y n'=s' at *
 clear h h'
 generalize val x n=X at *
 generalize val y n'=Y at *
 go_enter Tryz.func190,Tryz.ntmps190
 go_wp2_with (first|(go_at_call_of 63 (Value.slice a n c);refine hb.mono ?_;rintro e w' ⟨rfl,rfl⟩;clear hb)|(go_at_call_of 63 (Value.slice a' n' c');refine hb'.mono ?_;rintro e w' ⟨rfl,rfl⟩;clear hb')|(go_at_call 212;refine hd.mono ?_;rintro e w2 ⟨gq,gr,q,z,rfl,hQ,hqw,hqv,hR,hzw,hzv,hB⟩))
 obtain ⟨k,z',hkN,hNk,hvk,hsk,hbr⟩:=zKn hQ hqw (by omega) (Nat.le_refl _) (by unfold maxLen;omega) hqv
 obtain ⟨k2,z2,hkN2,hNk2,hvk2,hsk2,hbr2⟩:=zKn hR hzw (by omega) (Nat.le_refl _) (by unfold maxLen;omega) hzv
 have HNk:Hid (Num w2 (some ⟨gq,0,none⟩) k (s-s'+1) z'):=hNk
 have HNk2:Hid (Num w2 (some ⟨gr,0,none⟩) k2 s' z2):=hNk2
 clear hQ hR hNk hNk2
 go_wp2_with (go_at_call 63;refine hbr.mono ?_;rintro e w3 ⟨rfl,rfl⟩;clear hbr)
 go_wp2_with (go_at_call 63;refine hbr2.mono ?_;rintro e w4 ⟨rfl,rfl⟩;clear hbr2)
 go_ret3
 exact ⟨_,k,_,z',_,k2,_,z2,rfl,by omega,by omega,HNk.out,HNk2.out,hvk,hvk2,hsk,hsk2,hB⟩
theorem zC4 (a a':Option Addr)(n c n' c':Nat)(x y:Nat->Int)(w:World)(hn:n<4000000000)(hn':n'<4000000000)(h:Num w a n c x)(h':Num w a' n' c' y)(hs:sizeL x n<=2000)(hs':sizeL y n'<=2000)(hy:0<sizeL y n') :
  Calls Tryz.prog 190 #[.slice a n c,.slice a' n' c'] w (zWs n n' (val x n) (val y n') w):=by
 by_cases h1:sizeL x n<sizeL y n'
 ·exact zFy a a' n c n' c' x y w hn hn' h h' hs hs' h1
 ·by_cases h2:sizeL y n'=1
  ·exact zB4 a a' n c n' c' x y w hn hn' h h' hs h2 (by omega)
  ·exact zEy a a' n c n' c' x y w hn hn' h h' hs (by omega) (by omega)
section
attribute [local go_sem] zSa zEb
theorem zSx {w:World}{base g k cap:Nat}{xs:List Value}(h:w.ownsRow base 22 1 (.slice (some ⟨g,0,none⟩) k cap) k xs):base<=g:=by
 obtain ⟨hl,h⟩:=h
 rcases h with ⟨h,_⟩|⟨g',cap',cur,he,hb,_⟩
 ·cases h
 ·cases he;exact hb
theorem zBu (b off n c:Nat)(x:Nat->Int)(w:World)(hn:n<4294967296)(h:Num w (some ⟨b,off,none⟩) n c x) :
  Calls Tryz.prog 44 #[.slice (some ⟨b,off,none⟩) n c] w fun e w'=>∃ g cap,e=.returned (.slice (some ⟨g,0,none⟩) (sizeL x n) cap)/\Num w' (some ⟨g,0,none⟩) (sizeL x n) cap x/\Below w.heap.size w w'/\w.heap.size<=g:=by
 obtain ⟨h1,h2,h3,h4,h5⟩:=h
 have hc:b<w.heap.size/\∀ i,i<n->w.cell? ⟨b,off+i,none⟩=some (.int .u64 (x i)):=by
  rcases h5 with ⟨h,_⟩|⟨b',off',h,hbs,hc⟩
  ·cases h
  ·cases h;exact ⟨hbs,hc⟩
 obtain ⟨hbs,hc⟩:=hc
 clear h5
 obtain ⟨i0,hi,hz0,hz1,hz2⟩:=info_parts Tryz.info22
 unfold maxLen at h2
 go_enter Tryz.func44,Tryz.ntmps44
 go_wp2
 go_loop [3] (fun t=>∃ k:Nat,k<=n/\sizeL x k=sizeL x n/\(∀ i,k<=i->x i=0)/\t=.int .i64 k) (fun t=>(intOf t).toNat)
 case atStart=>exact ⟨n,Nat.le_refl _,rfl,h4,rfl⟩
 case round =>
  obtain ⟨k,hk,hs,hz,rfl⟩:=hrel
  clear h4
  by_cases h0:k=0
  ·subst h0
   have HS:Hid (sizeL x n=0):=hs.symm
   have HN:Hid (Num (w.alloc (.cells #[] 22)) (some ⟨w.heap.size,0,none⟩) 0 0 x):=⟨Nat.le_refl _,by unfold maxLen;omega,h3,hz,Or.inr ⟨w.heap.size,0,rfl,by simp,fun i hi=>by omega⟩⟩
   clear hs hz hc h3
   go_wp2
   go_ret
   refine ⟨w.heap.size,0,?_,?_,(Below.refl _ _).alloc (Nat.le_refl _) _,Nat.le_refl _⟩
   ·rw [HS.out];rfl
   ·rw [HS.out];exact HN.out
  ·obtain ⟨j,rfl⟩:∃ j,k=j+1:=⟨k-1,by omega⟩
   have hcj:=hc j (by omega)
   by_cases hzj:x j=0
   ·have HS:Hid (sizeL x j=sizeL x n):=by
     have:sizeL x (j+1)=sizeL x j:=by simp [sizeL,hzj]
     exact this.symm.trans hs
    have HZ:Hid (∀ i,j<=i->x i=0):=fun i hji=>by
     by_cases e:i=j
     ·rw [e];exact hzj
     ·exact hz i (by omega)
    clear hs hz hc
    go_wp2
    go_round
    case rel=>exact ⟨j,by omega,HS.out,HZ.out,by go_num⟩
    case measure=>simp [intOf]
   ·have HS:Hid (sizeL x n=j+1):=by
     have:sizeL x (j+1)=j+1:=by simp [sizeL,hzj]
     exact hs.symm.trans this
    have HZ:Hid (∀ i,j+1<=i->x i=0):=hz
    have HC:Hid (∀ i,i<n->w.cell? ⟨b,off+i,none⟩=some (.int .u64 (x i))):=hc
    clear hs hz hc
    have HOWN:(w.alloc (.cells #[] 22)).ownsRow w.heap.size 22 1 (.slice (some ⟨w.heap.size,0,none⟩) 0 0) 0 [] :=
     ⟨rfl,Or.inr ⟨w.heap.size,0,#[],rfl,Nat.le_refl _,(MapKept.heap_alloc w _).1,Nat.le_refl _,by unfold maxLen;omega,rfl,rfl⟩⟩
    have HNEWS:∀ (q:Nat) (u:Value),((List.range (j+1)).map fun i=>Value.int .u64 (x i))[q]?=some u->(w.alloc (.cells #[] 22)).cell? ((⟨b,off,none⟩:Addr).add q)=some u:=by
     intro q u hq
     have hql:q<j+1:=by
      rcases Nat.lt_or_ge q (j+1) with h|h
      ·exact h
      ·rw [List.getElem?_eq_none (by simpa using h)] at hq;cases hq
     have e2:u=.int .u64 (x q):=by simpa [hql] using hq.symm
     rw [e2]
     have ea:(⟨b,off,none⟩:Addr).add q=⟨b,off+q,none⟩:=by simp [Addr.add]
     rw [ea]
     exact (((Below.refl w.heap.size w).alloc (Nat.le_refl _) _).cell (p:=⟨b,off+q,none⟩) hbs).trans (HC.out q (by omega))
    have HONE:∀ u ∈ ((List.range (j+1)).map fun i=>Value.int .u64 (x i)),u.oneCell'=true:=by
     intro u hu
     obtain ⟨q,_,rfl⟩:=List.mem_map.1 hu
     rfl
    go_wp2_with (at_builtin;refine wpList_append_lies _ rfl (.tmp 18) (.tmp 21) 48 rfl w.heap.size 22 i0 (.int .u64 0) 1 8 Tryz.underlying48 hi hz0 hz1 hz2 rfl (by decide) (.slice (some ⟨w.heap.size,0,none⟩) 0 0) 0 [] rfl HOWN ⟨b,off,none⟩ (j+1) c ((List.range (j+1)).map fun i=>Value.int .u64 (x i)) rfl (by simp) HNEWS HONE (by omega) (by unfold maxLen;omega) (by omega) (by simp) (w.heap.size+1) (by simp) ?_;intro g cap w1 hown hgrow hat hlt;clear HOWN HNEWS HONE)
    have hown':w1.ownsRow w.heap.size 22 1 (.slice (some ⟨g,0,none⟩) (j+1) cap) (j+1) ((List.range (j+1)).map fun i=>Value.int .u64 (x i)):=by
     have e0:0+(j+1)=j+1:=by omega
     rw [e0] at hown
     simpa using hown
    have HN:=zWe (w:=w) h3 HZ.out hown' hlt
    have HFG:w.heap.size<=g:=zSx hown'
    have HB:Below w.heap.size w w1:=((Below.refl _ _).alloc (Nat.le_refl _) _).grown hgrow (by simp) (by intro k hk;cases hk;exact Nat.le_refl _)
    clear hown hown' hgrow
    go_wp2
    go_ret
    refine ⟨g,cap,?_,?_,HB,HFG⟩
    ·rw [HS.out];simp
    ·rw [HS.out];exact HN
theorem zGz (x:Nat->Int)(w:World)(hx:∀ i,x i=0) :
  Calls Tryz.prog 44 #[.slice none 0 0] w fun e w'=>∃ g cap,e=.returned (.slice (some ⟨g,0,none⟩) 0 cap)/\Num w' (some ⟨g,0,none⟩) 0 cap x/\Below w.heap.size w w'/\w.heap.size<=g:=by
 go_enter Tryz.func44,Tryz.ntmps44
 go_wp2
 go_loop [3] (fun t=>t=.int .i64 0) (fun t=>(intOf t).toNat)
 case atStart=>rfl
 case round =>
  subst hrel
  go_wp2
  go_ret
  refine ⟨w.heap.size,0,rfl,?_,(Below.refl _ _).alloc (Nat.le_refl _) _,Nat.le_refl _⟩
  exact ⟨Nat.le_refl _,by unfold maxLen;omega,fun i=>by rw [hx i];decide,fun i _=>hx i,Or.inr ⟨w.heap.size,0,rfl,by simp,fun i hi=>by omega⟩⟩
theorem zMh (a:Option Addr)(n c:Nat)(x:Nat->Int)(w:World)(hn:n<4294967296)(h:Num w a n c x) :
  Calls Tryz.prog 44 #[.slice a n c] w fun e w'=>∃ g cap,e=.returned (.slice (some ⟨g,0,none⟩) (sizeL x n) cap)/\Num w' (some ⟨g,0,none⟩) (sizeL x n) cap x/\Below w.heap.size w w'/\w.heap.size<=g:=by
 have h':=h
 obtain ⟨h1,h2,h3,h4,h5⟩:=h'
 rcases h5 with ⟨rfl,rfl⟩|⟨b,off,rfl,_,_⟩
 ·obtain rfl:n=0:=by omega
  exact zGz x w (fun i=>h4 i (Nat.zero_le _))
 ·exact zBu b off n c x w hn h
theorem zCu (a a':Option Addr)(n c n' c':Nat)(x y:Nat->Int)(w:World)(hn:n<4294967290)(hn':n'<4294967290)(h:Num w a n c x)(h':Num w a' n' c' y) :
  Calls Tryz.prog 89 #[.slice a n c,.slice a' n' c'] w fun e w'=>∃ g k cap,e=.returned (.slice (some ⟨g,0,none⟩) k cap)/\k<=max n n'/\Num w' (some ⟨g,0,none⟩) k cap (zQp x y (max n n'))/\Below w.heap.size w w'/\w.heap.size<=g/\sizeL (zQp x y (max n n')) k=k:=by
 have hx:=h.2.2.1
 have hy:=h'.2.2.1
 have zx:=h.2.2.2.1
 have zy:=h'.2.2.2.1
 obtain ⟨M,hM⟩:∃ M,max n n'=M:=⟨_,rfl⟩
 have hMi:max (n:Int) n'=(M:Int):=by omega
 have hMb:M<4294967292:=by omega
 have hmk:=fun w=>zWa (max (n:Int) n') M hMi (by omega) w
 have hfin:∀ (ss:Array Value),ss.size=M->(∀ j h,ss[j]'h=Value.int .u64 (zFd x y j))->Num (w.alloc (.cells ss 22)) (some ⟨w.heap.size,0,none⟩) M M (zQp x y (max n n')):=fun ss h1 h2=>zZa (by omega) (zQl x y _) (fun i hi=>by unfold zQp;rw [if_neg (by omega)]) h1 (fun j hj=>by rw [h2 j hj];unfold zQp;rw [if_pos (by omega)])
 have hw1:=fun (i:Nat) (ss:Array Value)=>zRb a n c i x (w.alloc (.cells ss 22)) (h.next (zEa w _))
 have hw2:=fun (i:Nat) (ss:Array Value)=>zRb a' n' c' i y (w.alloc (.cells ss 22)) (h'.next (zEa w _))
 have HM:Hid (max n n'=M):=hM
 have HZ:Hid ((arrOf (fun _=>0) M).size=M/\∀ j h,(arrOf (fun _=>0) M)[j]'h=Value.int .u64 0):=⟨arrOf_size _ _,fun j h=>zJa _ _ _ _⟩
 clear h h' zx zy hM hMi
 generalize arrOf (fun _=>0) M=zz at *
 go_enter Tryz.func89,Tryz.ntmps89
 go_wp2
 go_loopw [6,7,16,19] (fun c u7 i u20 wr=>∃ (k:Nat) (ss:Array Value),k<=M/\i=.int .i64 k/\c=.int .u64 (zGf x y k)/\ss.size=M/\(∀ j h,ss[j]'h=Value.int .u64 (if j<k then zFd x y j else 0))/\wr=w.alloc (.cells ss 22)) (fun _ _ i _ _=>M-(intOf i).toNat)
 case atStart=>exact ⟨0,zz,Nat.zero_le _,rfl,rfl,HZ.out.1,fun j h=>by rw [HZ.out.2 j h];simp,rfl⟩
 case round =>
  obtain ⟨k,ss,hk,rfl,rfl,hsz,hss,rfl⟩:=hrel
  have hcar:=zSf x y k
  by_cases h8:k<M
  ·have h8i:(k:Int)<M:=by omega
   have h8s:k<ss.size:=by omega
   have bx:=hx k
   have b_y:=hy k
   have hsk:ss[k]?=some (.int .u64 0):=by rw [Array.getElem?_eq_getElem h8s,hss k h8s,if_neg (by omega)]
   have hadd:=fun w=>zDt (x k) (y k) (zGf x y k) bx.1 b_y.1 (by omega) hcar.1 hcar.2 w
   have hwa:=hw1 k ss
   have hwb:=hw2 k ss
   have HR:Hid (∀ (i:Nat) (h:i<(ss.setIfInBounds k (.int .u64 (zFd x y k))).size),(ss.setIfInBounds k (.int .u64 (zFd x y k)))[i]'h=Value.int .u64 (if i<k+1 then zFd x y i else 0)):=zKc hss
   clear hss hw1 hw2 hfin hmk hx hy
   go_wp2_with (first|(go_at_call_of 46 (Value.slice a n c);refine hwa.mono ?_;rintro e w' ⟨rfl,rfl⟩)|(go_at_call_of 46 (Value.slice a' n' c');refine hwb.mono ?_;rintro e w' ⟨rfl,rfl⟩))
   go_roundw
   case rel=>exact ⟨k+1,ss.setIfInBounds k (.int .u64 (zFd x y k)),by omega,by go_num,rfl,by simp [hsz],HR.out,rfl⟩
   case measure=>simp [intOf];omega
  ·obtain rfl:k=M:=by omega
   have hss':∀ j h,ss[j]'h=Value.int .u64 (zFd x y j):=by
    intro j h;rw [hss j h,if_pos (by omega)]
   have hT:=zMh _ _ _ _ _ (by omega) (hfin ss hsz hss')
   have hle:=zGa (zQp x y (max n n')) k
   clear hss hss' hw1 hw2 hfin hmk hx hy
   go_wp2_with (go_at_call 44;refine hT.mono ?_;rintro e w1 ⟨g,cap,rfl,hN,hB,hfg⟩)
   go_ret
   exact ⟨g,_,cap,rfl,Nat.le_trans hle (Nat.le_of_eq HM.out.symm),hN,(zEa w _).trans (hB.mono (by simp)),by simp at hfg;omega,zHa _ _⟩
theorem frgt_p (b off n c q r:Nat)(s:Int)(x:Nat->Int)(w:World)(hn:n<4000000000)(hq0:q<100000)(hr0:r<64)(hrp:0<r)(hq:s/64=q)(hr:s%64=r)(hs:0<=s)(hqn:q<n)(h:Num w (some ⟨b,off,none⟩) n c x) :
  Calls Tryz.prog 58 #[.slice (some ⟨b,off,none⟩) n c,.int .i64 s] w fun e w'=>∃ g k cap,e=.returned (.tuple #[.slice (some ⟨g,0,none⟩) k cap,.bool (zM4 x q r)])/\k<=n/\Num w' (some ⟨g,0,none⟩) k cap (zGc x q r)/\Below w.heap.size w w'/\w.heap.size<=g:=by
 have hx:=h.2.2.1
 have zx:=h.2.2.2.1
 have hc:b<w.heap.size/\∀ i,i<n->w.cell? ⟨b,off+i,none⟩=some (.int .u64 (x i)):=by
  rcases h.2.2.2.2 with ⟨h,_⟩|⟨b',off',h,hbs,hc⟩
  ·cases h
  ·cases h;exact ⟨hbs,hc⟩
 obtain ⟨hbs,hc⟩:=hc
 have hcap:=h.1
 have hs6:s<6400064:=by omega
 obtain ⟨i0,hi,hz0,hz1,hz2⟩:=info_parts Tryz.info22
 have HX:Hid (Num w (some ⟨b,off,none⟩) n c x):=h
 clear h
 go_enter Tryz.func58,Tryz.ntmps58
 go_wp2
 go_loop [6,7,13] (fun g u7 i=>∃ (k:Nat),k<=n/\i=.int .i64 k/\g=.bool (goneK x q r k)) (fun _ _ i=>n-(intOf i).toNat)
 case atStart=>exact ⟨0,Nat.zero_le _,rfl,by rw [zAu]⟩
 case round =>
  obtain ⟨k,hk,rfl,rfl⟩:=hrel
  by_cases h8:k<n
  ·have h8i:(k:Int)<n:=by omega
   by_cases hkq:k<q
   ·have bx:=hx k
    have hcx:=hc k h8
    clear hc hx zx hi hz0 hz1 hz2
    have hkq':(k:Int)<q:=by omega
    by_cases hz:x k=0
    ·have hz':(x k != 0)=false:=by simp [hz]
     have hne:((k:Int)==q)=false:=by simp;omega
     have HG:Hid (goneK x q r (k+1)=goneK x q r k):=zBz hkq hz
     generalize goneK x q r k=z at *
     go_wp2
     go_round
     case rel=>exact ⟨k+1,by omega,by go_num,by rw [HG.out]⟩
     case measure=>simp [intOf];omega
    ·have hz':(x k != 0)=true:=by simp [hz]
     have HG:Hid (goneK x q r (k+1)=true):=zAz hkq hz
     generalize goneK x q r k=z at *
     go_wp2
     go_round
     case rel=>exact ⟨k+1,by omega,by go_num,by rw [HG.out]⟩
     case measure=>simp [intOf];omega
   ·have hkq':¬ (k:Int)<q:=by omega
    by_cases hke:k=q
    ·subst hke
     have bx:=hx k
     have hcx:=hc k h8
     have hand:=zUh bx hr0
     have hpp:=zHb r
     have hpl:=zKm hr0
     have HG:Hid (goneK x k r (k+1)=(goneK x k r k||decide (x k%2^r≠0))):=zL4 x k r
     clear hc hx zx hi hz0 hz1 hz2
     by_cases hm:x k%2^r=0
     ·rw [hm] at hand
      generalize goneK x k r k=z at *
      skip
      go_wp2
      go_round
      case rel=>exact ⟨k+1,by omega,by go_num,by rw [HG.out];simp [hm]⟩
      case measure=>simp [intOf];omega
     ·have hm':(x k%2^r != 0)=true:=by simp [hm]
      generalize goneK x k r k=z at *
      skip
      go_wp2
      go_round
      case rel=>exact ⟨k+1,by omega,by go_num,by rw [HG.out];simp [hm]⟩
      case measure=>simp [intOf];omega
    ·have hcx:=hc k h8
     have HG:Hid (goneK x q r (k+1)=goneK x q r k):=zK4 (by omega)
     generalize goneK x q r k=z at *
     clear hc hx zx hi hz0 hz1 hz2
     have hne:((k:Int)==q)=false:=by simp;omega
     go_wp2
     go_round
     case rel=>exact ⟨k+1,by omega,by go_num,by rw [HG.out]⟩
     case measure=>simp [intOf];omega
  ·obtain rfl:k=n:=by omega
   have HGB:Hid (goneK x q r k=zM4 x q r):=zCz hqn
   generalize goneK x q r k=gz at *
   go_wp2
   go_loopw [8,9,10] (fun v i u10 wr=>∃ (j:Nat) (ao:Option Addr) (cp:Nat),j<=k-q/\i=.int .i64 ((q:Int)+j)/\v=.slice ao j cp/\wr.ownsRow w.heap.size 22 1 (.slice ao j cp) j (wl (zGc x q r) j)/\Below w.heap.size w wr) (fun _ i _ _=>k+1-(intOf i).toNat)
   case atStart=>exact ⟨0,none,0,Nat.zero_le _,by go_num,rfl,World.ownsRow_nil _ _ _ _,Below.refl _ _⟩
   case round =>
    obtain ⟨j,ao,cp,hj,rfl,rfl,hown,hB⟩:=hrel
    by_cases hlt:q+j<k
    ·have hlt':(q:Int)+j<k:=by omega
     have bx:=hx (q+j)
     have b_y:=hx (q+j+1)
     have e1:((q:Int)+j).toNat=q+j:=by omega
     have hcx:wr.cell? ⟨b,off+(q+j),none⟩=some (.int .u64 (x (q+j))):=(hB.cell (p:=⟨b,off+(q+j),none⟩) hbs).trans (hc (q+j) hlt)
     have HW:Hid (CQ 46 #[.slice (some ⟨b,off,none⟩) k c,.int .i64 ((q:Int)+j+1)] wr (.int .u64 (x (q+j+1)))):=by
      have:=zRb (some ⟨b,off,none⟩) k c (q+j+1) x wr (HX.out.next hB)
      rw [show ((q+j+1:Nat):Int)=(q:Int)+j+1 by omega] at this
      exact this.mono fun _ _ h=>⟨h.1,h.2.symm⟩
     have hbw:=hB.size
     have HO:Hid (wr.ownsRow w.heap.size 22 1 (.slice ao j cp) j (wl (zGc x q r) j)):=hown
     have HVAL:Hid (zGc x q r j=bits BinOp.or IntKind.u64 (x (q+j)/2^r) (IntKind.u64.wrap (x (q+j+1)*2^(64-r)))):=by show _=_;unfold zGc;rw [if_neg (by omega)];rfl
     have HOWN:(wr.alloc (.cells #[.int .u64 (bits BinOp.or IntKind.u64 (x (q+j)/2^r) (IntKind.u64.wrap (x (q+j+1)*2^(64-r))))] 22)).ownsRow w.heap.size 22 1 (.slice ao j cp) j (wl (zGc x q r) j):=hown.alloc _
     have HNEWS:∀ (p:Nat) (u:Value),[Value.int .u64 (bits BinOp.or IntKind.u64 (x (q+j)/2^r) (IntKind.u64.wrap (x (q+j+1)*2^(64-r))))][p]?=some u->(wr.alloc (.cells #[.int .u64 (bits BinOp.or IntKind.u64 (x (q+j)/2^r) (IntKind.u64.wrap (x (q+j+1)*2^(64-r))))] 22)).cell? ((⟨wr.heap.size,0,none⟩:Addr).add p)=some u:=by
      intro p u hp
      match p,hp with
      | 0,hp=>simp at hp;subst hp;simp [Addr.add]
     have HONE:∀ u ∈ [Value.int .u64 (bits BinOp.or IntKind.u64 (x (q+j)/2^r) (IntKind.u64.wrap (x (q+j+1)*2^(64-r))))],u.oneCell'=true:=by
      intro u hu;simp at hu;subst hu;rfl
     clear hc hx zx hown
     go_wp2_with (first|(at_builtin;refine wpList_append_lies _ rfl (.tmp 77) (.tmp 79) 48 rfl w.heap.size 22 i0 (.int .u64 0) 1 8 Tryz.underlying48 hi hz0 hz1 hz2 rfl (by decide) (.slice ao j cp) j (wl (zGc x q r) j) rfl HOWN ⟨wr.heap.size,0,none⟩ 1 1 [Value.int .u64 (bits BinOp.or IntKind.u64 (x (q+j)/2^r) (IntKind.u64.wrap (x (q+j+1)*2^(64-r))))] rfl rfl HNEWS HONE (by omega) (by unfold maxLen;omega) (by omega) (by simp;omega) (wr.heap.size+1) (by simp) ?_;intro g cap w1 hown1 hgrow hat hlt1;clear HOWN HNEWS HONE)|(go_at_call 46;refine HW.out.mono ?_;rintro e w' ⟨rfl,rfl⟩))
     have hown2:w1.ownsRow w.heap.size 22 1 (.slice (some ⟨g,0,none⟩) (j+1) cap) (j+1) (wl (zGc x q r) (j+1)):=by
      rw [← HVAL.out,zNj] at hown1;exact hown1
     have HB2:Below w.heap.size w w1:=(hB.alloc hbw _).grown hgrow (by simp;omega) (by
      intro p hp
      rcases ao with _|⟨bb,oo,sp⟩
      ·cases hp
      ·cases hp
       obtain ⟨_,h1⟩:=HO.out
       rcases h1 with ⟨h1,_⟩|⟨g',_,_,h1,h2,_⟩
       ·cases h1
       ·cases h1;exact h2)
     clear hown1 hgrow
     go_wp2
     go_roundw
     case rel=>exact ⟨j+1,some ⟨g,0,none⟩,cap,by omega,by go_num,rfl,hown2,HB2⟩
     case measure=>simp [intOf];omega
    ·have HZ:∀ i,j<=i->zGc x q r i=0:=fun i hi=>zEe zx q r i (by omega)
     have hT:=zMh ao j cp _ wr (by omega) (zCd (zPd hx q r) HZ hown)
     have hle:=zGa (zGc x q r) j
     have hlt':¬ (q:Int)+j<k:=by omega
     clear hc hx zx hown HZ
     go_wp2_with (go_at_call 44;refine hT.mono ?_;rintro e w1 ⟨g,cap,rfl,hN,hB1,hfg⟩)
     go_ret2
     exact ⟨g,_,cap,by rw [HGB.out];rfl,by omega,hN,hB.trans (hB1.mono hB.size),Nat.le_trans hB.size hfg⟩
theorem yVb (b off n c q:Nat)(s:Int)(x:Nat->Int)(w:World)(hn:n<4000000000)(hq0:q<100000)(hq:s/64=q)(hr:s%64=0)(hs:0<=s)(h:Num w (some ⟨b,off,none⟩) n c x) :
  Calls Tryz.prog 95 #[.slice (some ⟨b,off,none⟩) n c,.int .i64 s] w fun e w'=>∃ g k cap,e=.returned (.slice (some ⟨g,0,none⟩) k cap)/\k<=n+q+1/\Num w' (some ⟨g,0,none⟩) k cap (zPc x q 0)/\Below w.heap.size w w'/\w.heap.size<=g/\sizeL (zPc x q 0) k=k:=by
 have hx:=h.2.2.1
 have zx:=h.2.2.2.1
 have hc:b<w.heap.size/\∀ i,i<n->w.cell? ⟨b,off+i,none⟩=some (.int .u64 (x i)):=by
  rcases h.2.2.2.2 with ⟨h,_⟩|⟨b',off',h,hbs,hc⟩
  ·cases h
  ·cases h;exact ⟨hbs,hc⟩
 obtain ⟨hbs,hc⟩:=hc
 have hcap:=h.1
 have hs6:s<6400064:=by omega
 obtain ⟨M,hM⟩:∃ M,n+q+1=M:=⟨_,rfl⟩
 have hMi:(n:Int)+q+1=(M:Int):=by omega
 have hmk:=fun w=>zWa ((n:Int)+q+1) M hMi (by omega) w
 have hfin:∀ (ss:Array Value) (m:Nat),ss.size=M->(∀ j h,ss[j]'h=Value.int .u64 (stL x q 0 n j))->Num ((w.alloc (.cells ss 22)).drewN m) (some ⟨w.heap.size,0,none⟩) M M (zPc x q 0):=fun ss m h1 h2=>(zZa (by omega) (zJe hx q 0) (fun i hi=>zOh hx zx q 0 (by omega) i (by omega)) h1 (fun j hj=>by rw [h2 j hj,zDm hx zx q 0 j (by omega)])).drewN m
 have HM:Hid (n+q+1=M):=hM
 have HZ:Hid ((arrOf (fun _=>0) M).size=M/\∀ j h,(arrOf (fun _=>0) M)[j]'h=Value.int .u64 0):=⟨arrOf_size _ _,fun j h=>zJa _ _ _ _⟩
 have hcw:∀ (ss:Array Value) i,i<n->(w.alloc (.cells ss 22)).cell? ⟨b,off+i,none⟩=some (.int .u64 (x i)):=fun ss i hi=>((zEa w _).cell (p:=⟨b,off+i,none⟩) hbs).trans (hc i hi)
 clear h zx hMi hc
 generalize arrOf (fun _=>0) M=zz at *
 go_enter Tryz.func95,Tryz.ntmps95
 go_wp2
 go_loopw [6,16] (fun u6 i wr=>∃ (k m:Nat) (ss:Array Value),k<=n/\i=.int .i64 k/\ss.size=M/\(∀ j h,ss[j]'h=Value.int .u64 (stL x q 0 k j))/\wr=(w.alloc (.cells ss 22)).drewN m) (fun _ i _=>n-(intOf i).toNat)
 case atStart=>exact ⟨0,0,zz,Nat.zero_le _,rfl,HZ.out.1,fun j h=>by rw [HZ.out.2 j h];unfold stL;(by_cases e:j<q+0);(rw [if_pos e];unfold zPc;rw [if_neg (by omega)]);(rw [if_neg e];split;(unfold zPf;rw [if_neg (by omega)]);rfl),rfl⟩
 case round =>
  obtain ⟨k,m,ss,hk,rfl,hsz,hss,rfl⟩:=hrel
  by_cases h8:k<n
  ·have h8i:(k:Int)<n:=by omega
   have h8s:k+q<ss.size:=by omega
   have h8t:(k:Int)+q<M:=by omega
   have h8u:(k:Int)+q+1<M:=by omega
   have bx:=hx k
   have hcx:=hcw ss k h8
   have hsk:ss[k+q]?=some (.int .u64 (zPf x q 0 (q+k))):=by rw [Array.getElem?_eq_getElem h8s,hss _ h8s];unfold stL;rw [if_neg (by omega),if_pos (by omega),Nat.add_comm]
   have hgo:∀ h,ss[k+q]'h=.int .u64 (zPf x q 0 (q+k)):=fun h=>by rw [hss _ h];unfold stL;rw [if_neg (by omega),if_pos (by omega),Nat.add_comm]
   have hlow:=zFe hx q 0 (q+k)
   have e1:((k:Int)+q).toNat=k+q:=by omega
   have e2:((k:Int)+q+1).toNat=k+q+1:=by omega
   have HF:Hid (zPc x q 0 (q+k)=bits BinOp.or IntKind.u64 (zPf x q 0 (q+k)) (x k)):=by
    show _=_;unfold zPc;rw [if_pos (by omega),show q+k-q=k by omega];simp [orW,zXh _ bx]
   have HR:Hid (∀ (i:Nat) (h:i<(ss.setIfInBounds (k+q) (.int .u64 (zPc x q 0 (q+k)))).size),(ss.setIfInBounds (k+q) (.int .u64 (zPc x q 0 (q+k))))[i]'h=Value.int .u64 (stL x q 0 (k+1) i)):=zYn hss
   clear hss hfin hmk hx
   generalize hlo:zPf x q 0 (q+k)=lo at *
   clear hcw
   go_wp2
   go_region
   go_wp2
   go_roundw
   case rel=>refine ⟨k+1,m+1,ss.setIfInBounds (k+q) (.int .u64 (zPc x q 0 (q+k))),by omega,by go_num,by simp [hsz],HR.out,?_⟩;rw [HF.out]
   case measure=>simp [intOf];omega
  ·obtain rfl:k=n:=by omega
   have hT:=zMh _ _ _ _ _ (by omega) (hfin ss m hsz hss)
   have hle:=zGa (zPc x q 0) M
   clear hss hfin hmk hx hcw
   go_wp2_with (go_at_call 44;refine hT.mono ?_;rintro e w1 ⟨g,cap,rfl,hN,hB,hfg⟩)
   go_ret
   exact ⟨g,_,cap,rfl,Nat.le_trans hle (Nat.le_of_eq HM.out.symm),hN,(below_drewN (zEa w _) m).trans (hB.mono (by simp)),by simp at hfg;omega,zHa _ _⟩
theorem yWb (b off n c q r:Nat)(s:Int)(x:Nat->Int)(w:World)(hn:n<4000000000)(hq0:q<100000)(hr0:r<64)(hrp:0<r)(hq:s/64=q)(hr:s%64=r)(hs:0<=s)(h:Num w (some ⟨b,off,none⟩) n c x) :
  Calls Tryz.prog 95 #[.slice (some ⟨b,off,none⟩) n c,.int .i64 s] w fun e w'=>∃ g k cap,e=.returned (.slice (some ⟨g,0,none⟩) k cap)/\k<=n+q+1/\Num w' (some ⟨g,0,none⟩) k cap (zPc x q r)/\Below w.heap.size w w'/\w.heap.size<=g/\sizeL (zPc x q r) k=k:=by
 have hx:=h.2.2.1
 have zx:=h.2.2.2.1
 have hc:b<w.heap.size/\∀ i,i<n->w.cell? ⟨b,off+i,none⟩=some (.int .u64 (x i)):=by
  rcases h.2.2.2.2 with ⟨h,_⟩|⟨b',off',h,hbs,hc⟩
  ·cases h
  ·cases h;exact ⟨hbs,hc⟩
 obtain ⟨hbs,hc⟩:=hc
 have hcap:=h.1
 have hs6:s<6400064:=by omega
 obtain ⟨M,hM⟩:∃ M,n+q+1=M:=⟨_,rfl⟩
 have hMi:(n:Int)+q+1=(M:Int):=by omega
 have hmk:=fun w=>zWa ((n:Int)+q+1) M hMi (by omega) w
 have hfin:∀ (ss:Array Value) (m:Nat),ss.size=M->(∀ j h,ss[j]'h=Value.int .u64 (stL x q r n j))->Num ((w.alloc (.cells ss 22)).drewN m) (some ⟨w.heap.size,0,none⟩) M M (zPc x q r):=fun ss m h1 h2=>(zZa (by omega) (zJe hx q r) (fun i hi=>zOh hx zx q r (by omega) i (by omega)) h1 (fun j hj=>by rw [h2 j hj,zDm hx zx q r j (by omega)])).drewN m
 have HM:Hid (n+q+1=M):=hM
 have HZ:Hid ((arrOf (fun _=>0) M).size=M/\∀ j h,(arrOf (fun _=>0) M)[j]'h=Value.int .u64 0):=⟨arrOf_size _ _,fun j h=>zJa _ _ _ _⟩
 have hcw:∀ (ss:Array Value) i,i<n->(w.alloc (.cells ss 22)).cell? ⟨b,off+i,none⟩=some (.int .u64 (x i)):=fun ss i hi=>((zEa w _).cell (p:=⟨b,off+i,none⟩) hbs).trans (hc i hi)
 clear h zx hMi hc
 generalize arrOf (fun _=>0) M=zz at *
 go_enter Tryz.func95,Tryz.ntmps95
 go_wp2
 go_loopw [6,16] (fun u6 i wr=>∃ (k m:Nat) (ss:Array Value),k<=n/\i=.int .i64 k/\ss.size=M/\(∀ j h,ss[j]'h=Value.int .u64 (stL x q r k j))/\wr=(w.alloc (.cells ss 22)).drewN m) (fun _ i _=>n-(intOf i).toNat)
 case atStart=>exact ⟨0,0,zz,Nat.zero_le _,rfl,HZ.out.1,fun j h=>by rw [HZ.out.2 j h];unfold stL;(by_cases e:j<q+0);(rw [if_pos e];unfold zPc;rw [if_neg (by omega)]);(rw [if_neg e];split;(unfold zPf;rw [if_neg (by omega)]);rfl),rfl⟩
 case round =>
  obtain ⟨k,m,ss,hk,rfl,hsz,hss,rfl⟩:=hrel
  by_cases h8:k<n
  ·have h8i:(k:Int)<n:=by omega
   have h8s:k+q<ss.size:=by omega
   have h8t:(k:Int)+q<M:=by omega
   have h8u:(k:Int)+q+1<M:=by omega
   have bx:=hx k
   have hcx:=hcw ss k h8
   have hsk:ss[k+q]?=some (.int .u64 (zPf x q r (q+k))):=by rw [Array.getElem?_eq_getElem h8s,hss _ h8s];unfold stL;rw [if_neg (by omega),if_pos (by omega),Nat.add_comm]
   have hgo:∀ h,ss[k+q]'h=.int .u64 (zPf x q r (q+k)):=fun h=>by rw [hss _ h];unfold stL;rw [if_neg (by omega),if_pos (by omega),Nat.add_comm]
   have h8v:k+q+1<ss.size:=by omega
   have hsl:ss[k+q+1]?=some (.int .u64 0):=by rw [Array.getElem?_eq_getElem h8v,hss _ h8v];unfold stL;rw [if_neg (by omega),if_neg (by omega)]
   have hlow:=zFe hx q r (q+k)
   have e1:((k:Int)+q).toNat=k+q:=by omega
   have e2:((k:Int)+q+1).toNat=k+q+1:=by omega
   have HF:Hid (zPc x q r (q+k)=bits BinOp.or IntKind.u64 (zPf x q r (q+k)) (IntKind.u64.wrap (x k*2^r))):=by
    show _=_;unfold zPc;rw [if_pos (by omega),show q+k-q=k by omega];rfl
   have HR:Hid (∀ (i:Nat) (h:i<((ss.setIfInBounds (k+q) (.int .u64 (zPc x q r (q+k)))).setIfInBounds (k+q+1) (.int .u64 (x k/2^(64-r)))).size),((ss.setIfInBounds (k+q) (.int .u64 (zPc x q r (q+k)))).setIfInBounds (k+q+1) (.int .u64 (x k/2^(64-r))))[i]'h=Value.int .u64 (stL x q r (k+1) i)):=zXn hrp hss
   clear hss hfin hmk hx
   generalize hlo:zPf x q r (q+k)=lo at *
   have hcx':=hcw (ss.setIfInBounds (k+q) (.int .u64 (bits BinOp.or IntKind.u64 lo (IntKind.u64.wrap (x k*2^r))))) k h8
   clear hcw
   go_wp2
   go_region
   go_wp2
   go_roundw
   case rel=>refine ⟨k+1,m+1,(ss.setIfInBounds (k+q) (.int .u64 (zPc x q r (q+k)))).setIfInBounds (k+q+1) (.int .u64 (x k/2^(64-r))),by omega,by go_num,by simp [hsz],HR.out,?_⟩;rw [HF.out]
   case measure=>simp [intOf];omega
  ·obtain rfl:k=n:=by omega
   have hT:=zMh _ _ _ _ _ (by omega) (hfin ss m hsz hss)
   have hle:=zGa (zPc x q r) M
   clear hss hfin hmk hx hcw
   go_wp2_with (go_at_call 44;refine hT.mono ?_;rintro e w1 ⟨g,cap,rfl,hN,hB,hfg⟩)
   go_ret
   exact ⟨g,_,cap,rfl,Nat.le_trans hle (Nat.le_of_eq HM.out.symm),hN,(below_drewN (zEa w _) m).trans (hB.mono (by simp)),by simp at hfg;omega,zHa _ _⟩
end
theorem p64' (q r:Nat):(18446744073709551616:Int)^q*2^r=2^(64*q+r):=by rw [Int.mul_comm];exact p64 q r
theorem zKg {x:Nat->Int}(hx:zFa x){n:Nat}(h:0<sizeL x n):∃ L:Nat,lenL x n=(L:Int)+1/\2^L<=val x n/\val x n<2^(L+1):=by
 obtain ⟨j,hj⟩:∃ j,sizeL x n=j+1:=⟨sizeL x n-1,by omega⟩
 have ht:=zJc (x:=x) n h
 rw [hj] at ht
 have hxj:=hx j
 have hne:x j≠0:=ht
 obtain ⟨u,hu⟩:=Int.eq_ofNat_of_zero_le hxj.1
 have hb:=zTc u (by omega) (by omega)
 have hv:val x n=val x j+x j*18446744073709551616^j:=by rw [← zOa n,hj];rfl
 have hbd:=zRa hx j
 have hP:=zXb j
 refine ⟨64*j+(Lib.bitLen u-1),?_,?_,?_⟩
 ·unfold lenL;rw [if_neg (by omega),hj]
  show 64*((j+1:Nat):Int)-64+(Lib.bitLen (x j).toNat:Nat)=_
  rw [hu,Int.toNat_natCast];omega
 ·rw [hv,← p64',hu]
  have h1:(2:Int)^(Lib.bitLen u-1)<=u:=by rw [← zPb];omega
  have h2:18446744073709551616^j*2^(Lib.bitLen u-1)<=18446744073709551616^j*(u:Int):=Int.mul_le_mul_of_nonneg_left h1 (Int.le_of_lt hP)
  rw [Int.mul_comm _ (u:Int)] at h2
  omega
 ·rw [hv,show 64*j+(Lib.bitLen u-1)+1=64*j+Lib.bitLen u by omega,← p64',hu]
  have h1:(u:Int)+1<=2^Lib.bitLen u:=by rw [← zPb];omega
  have h2:18446744073709551616^j*((u:Int)+1)<=18446744073709551616^j*2^Lib.bitLen u:=Int.mul_le_mul_of_nonneg_left h1 (Int.le_of_lt hP)
  rw [Int.mul_add,Int.mul_one,Int.mul_comm _ (u:Int)] at h2
  omega
theorem zYl {q:Nat->Int}(hq:zFa q){N m r:Nat}(hm:m<N)(hr:r<=64)(h:val q N%2^(64*m+r)=0):q m%2^r=0:=by
 obtain ⟨k,rfl⟩:∃ k,N=m+(k+1):=⟨N-m-1,by omega⟩
 have hs:=zBc q m (k+1)
 have h1:val (segW q m (k+1)) (k+1)=q m+val (segW q (m+1) k) k*18446744073709551616:=by
  have:=zBc (segW q m (k+1)) 1 k
  rw [Nat.add_comm 1 k] at this
  rw [this]
  have e1:val (segW q m (k+1)) 1=q m:=by simp [val,segW]
  have e2:val (segW (segW q m (k+1)) 1 k) k=val (segW q (m+1) k) k:=zIa k fun i hi=>by
   rw [zUa _ _ _ i hi,zUa _ _ _ i hi,zUa _ _ _ (1+i) (by omega)];congr 1;omega
  rw [e1,e2];simp
 have hb:=zRa hq m
 rw [← p64'] at h
 have hd:(18446744073709551616:Int)^m*2^r∣val q (m+(k+1)):=Int.dvd_of_emod_eq_zero h
 obtain ⟨c,hc⟩:=hd
 rw [hs] at hc
 have hm0:val q m=0:=by
  have e:val q m=(2^r*c-val (segW q m (k+1)) (k+1))*18446744073709551616^m:=by grind
  rcases Int.lt_trichotomy (2^r*c-val (segW q m (k+1)) (k+1)) 0 with hl|he|hg
  ·have:(2^r*c-val (segW q m (k+1)) (k+1))*18446744073709551616^m<=(-1)*18446744073709551616^m:=Int.mul_le_mul_of_nonneg_right (by omega) (Int.le_of_lt (zXb m))
   have:=zXb m
   omega
  ·rw [he,Int.zero_mul] at e;exact e
  ·have:1*18446744073709551616^m<=(2^r*c-val (segW q m (k+1)) (k+1))*18446744073709551616^m:=Int.mul_le_mul_of_nonneg_right (by omega) (Int.le_of_lt (zXb m))
   omega
 have h2:val (segW q m (k+1)) (k+1)=2^r*c:=by
  have hp:=zXb m
  have e:(val (segW q m (k+1)) (k+1)-2^r*c)*18446744073709551616^m=0:=by grind
  rcases Int.mul_eq_zero.1 e with h3|h3
  ·omega
  ·omega
 rw [h1] at h2
 have e3:=zUe hr
 have:q m=2^r*(c-val (segW q (m+1) k) k*2^(64-r)):=by
  rw [← e3] at h2;grind
 rw [this];exact Int.mul_emod_right _ _
theorem zVx {u:Int}{r:Nat}(hu:0<=u/\u<=18446744073709551615)(hr:r<64)(h:u%2^(r+1)=0):orW u (2^r)=u+2^r/\u+2^r<=18446744073709551615:=by
 have hp:=zHb r
 have hl:=zKm hr
 obtain ⟨n,rfl⟩:=Int.eq_ofNat_of_zero_le hu.1
 rw [← zPb,← Int.natCast_emod] at h
 have hn:n%2^(r+1)=0:=by omega
 obtain ⟨k,rfl⟩:=Nat.dvd_of_mod_eq_zero hn
 have hlt:2^r<2^(r+1):=Nat.pow_lt_pow_right (by omega) (by omega)
 have e:=Nat.two_pow_add_eq_or_of_lt hlt k
 have h64:2^(r+1)*k ||| 2^r<2^64:=Nat.or_lt_two_pow (by omega) (Nat.pow_lt_pow_right (by omega) hr)
 have hw:(2:Int)^r<=18446744073709551615:=by omega
 rw [zJg _ _ hu ⟨by omega,hw⟩,Int.toNat_natCast,← zPb,Int.toNat_natCast,← e]
 rw [← e] at h64
 constructor
 ·rw [Int.natCast_add]
 ·have:((2^(r+1)*k:Nat):Int)+((2^r:Nat):Int)=((2^(r+1)*k+2^r:Nat):Int):=by rw [Int.natCast_add]
  rw [this];omega
theorem zZf {Q T:Int}(h:Q%(T*2)=0):Q%T=0:=by
 obtain ⟨c,hc⟩:=Int.dvd_of_emod_eq_zero h
 rw [hc,Int.mul_assoc];exact Int.mul_emod_right _ _
theorem of_any (c:Int)(w:World)(hc:0<=c/\c<=18446744073709551615) :
  Calls Tryz.prog 93 #[.int .u64 c] w fun e w'=>∃ g k cap z,e=.returned (.slice (some ⟨g,0,none⟩) k cap)/\k<=1/\Num w' (some ⟨g,0,none⟩) k cap z/\val z k=c/\Below w.heap.size w w'/\sizeL z k=k:=by
 have hN:=zLc w c hc
 have hT:=zMb _ 1 1 (zOc c) _ (by omega) hN
 have hle:=zGa (zOc c) 1
 have HV:Hid (val (zOc c) (sizeL (zOc c) 1)=c):=by show _=_;rw [zOa,zYq]
 have HB:=zEa w (.cells #[.int .u64 c] 22)
 have HS:Hid (sizeL (zOc c) (sizeL (zOc c) 1)=sizeL (zOc c) 1):=zHa _ _
 generalize sizeL (zOc c) 1=s at *
 clear hN
 go_enter Tryz.func93,Tryz.ntmps93
 go_wp2_with (go_at_call 44;refine hT.mono ?_;rintro e w1 ⟨g,cap,rfl,hN,hB⟩)
 go_ret
 exact ⟨g,s,cap,_,rfl,hle,hN,HV.out,HB.trans (hB.mono HB.size),HS.out⟩
def zMx (x:Nat->Int)(d:Int)(s k i:Nat):Int:=if k<=i/\i<s then quoW x d s i else 0
theorem zIv (a:Option Addr)(s c:Nat)(x:Nat->Int)(d:Int)(w:World)(hs:s<100000)(h:Num w a s c x)(hd:0<d/\d<=18446744073709551615) :
  Calls Tryz.prog 45 #[.slice a s c,.int .u64 d] w fun e w'=>∃ g k cap z g' k' cap' z',e=.returned (.tuple #[.slice (some ⟨g,0,none⟩) k cap,.slice (some ⟨g',0,none⟩) k' cap'])/\k<=s/\k'<=1/\Num w' (some ⟨g,0,none⟩) k cap z/\Num w' (some ⟨g',0,none⟩) k' cap' z'/\val z k=val x s/d/\val z' k'=val x s%d/\Below w.heap.size w w'/\sizeL z' k'=k':=by
 have hx:=h.2.2.1
 have H:=fun j hj w=>zIh x d s hx hd j hj w
 have hd0:(d==0)=false:=by simp;omega
 have hmk:=fun w=>zWa (s:Int) s rfl (by omega) w
 have hA:=zBf h
 have hBW:=zEa w (.cells (arrOf (fun _=>0) s) 22)
 have hnx:=h.next hBW
 have hO:=Own.new w (fun _=>0) s
 have hqv:=zIm hx hd.1 s
 have HQW:Hid (zFa (quoW x d s)):=zYf hx hd.1 s
 have hrb:=zLf x d s s hd.1
 have HB:Hid (Below w.heap.size w (w.alloc (.cells (arrOf (fun _=>0) s) 22))):=hBW
 clear hBW h hx
 go_enter Tryz.func45,Tryz.ntmps45
 go_wp2
 generalize w.alloc (.cells (arrOf (fun _=>0) s) 22)=wA at *
 go_loopw [7,8,19] (fun c i u19 wr=>∃ (k:Nat),k<=s/\i=.int .i64 ((k:Int)-1)/\c=.int .u64 (remJ x d s (s-k))/\Own w.heap.size s (zMx x d s k) wr/\Upd w.heap.size wA wr) (fun _ i _ _=>(intOf i+1).toNat)
 case atStart=>exact ⟨s,Nat.le_refl _,by go_num,by rw [Nat.sub_self];rfl,hO.congr fun i _=>by unfold zMx;rw [if_neg (by omega)],Upd.refl _ _⟩
 case round =>
  clear hO
  obtain ⟨k,hk,rfl,rfl,hO,hU⟩:=hrel
  by_cases h0:k=0
  ·subst h0
   have hN:=hO.num (x:=zMx x d s 0) (fun i=>by unfold zMx;split;exact HQW.out i;decide) 0 s s (by omega) (Nat.le_refl _) (by unfold maxLen;omega)
   have hT:=zMb _ s s _ _ (by omega) hN
   have hle:=zGa (segW (zMx x d s 0) 0 s) s
   have HV:Hid (val (segW (zMx x d s 0) 0 s) (sizeL (segW (zMx x d s 0) 0 s) s)=val x s/d):=by
    show _=_
    rw [zOa,zIa (y:=quoW x d s) s fun i hi=>by rw [zUa _ _ _ i hi,Nat.zero_add];unfold zMx;rw [if_pos (by omega)],hqv.1]
   have HR:Hid (remJ x d s s=val x s%d):=hqv.2
   have HBr:Hid (Below w.heap.size w wr):=HB.out.trans (hU.below (Nat.le_refl _))
   generalize segW (zMx x d s 0) 0 s=qz at *
   generalize sizeL qz s=k1 at *
   have hof:=fun wr=>of_any (remJ x d s s) wr (by omega)
   rw [Nat.sub_zero]
   generalize remJ x d s s=rm at *
   clear hN hO hU H hqv
   go_wp2_with (go_at_call 44;refine hT.mono ?_;rintro e w1 ⟨g,cap,rfl,hN1,hB1⟩;clear hT)
   go_wp2_with (go_at_call 93;refine (hof _).mono ?_;rintro e w2 ⟨g2,k2,p2,z2,rfl,hk2,hN2,hv2,hB2,hs2⟩;clear hof)
   go_ret2
   exact ⟨g,k1,cap,qz,g2,k2,p2,z2,rfl,hle,hk2,hN1.next hB2,hN2,HV.out,by rw [hv2,HR.out],(HBr.out.trans (hB1.mono HBr.out.size)).trans (hB2.mono (Nat.le_trans HBr.out.size hB1.size)),hs2⟩
  ·obtain ⟨j,rfl⟩:∃ j,k=j+1:=⟨k-1,by omega⟩
   have hjm:(j:Int)<s:=by omega
   have ej:((j+1:Nat):Int)-1=j:=by omega
   have ej2:s-(j+1)=s-1-j:=by omega
   rw [ej,ej2]
   obtain ⟨b,off,rfl,hbs,hc⟩:=(hU.num' hA hnx).cells (by omega)
   have hcx:=hc j (by omega)
   have hcj:∃ u,wr.cell? ⟨w.heap.size,j,none⟩=some (.int .u64 u):=⟨_,hO.cell j (by omega)⟩
   obtain ⟨u,hcj⟩:=hcj
   have hfj:=hO.frozen j
   have HJ:=H j (by omega)
   have HO:Hid (Own w.heap.size s (zMx x d s j) (wr.setCell ⟨w.heap.size,j,none⟩ (.int .u64 (quoW x d s j)))):=(hO.set j (quoW x d s j)).congr fun i hi=>by
    unfold zMx
    by_cases e:i=j
    ·subst e;rw [if_pos rfl,if_pos (by omega)]
    ·rw [if_neg e]
     by_cases e2:j+1<=i/\i<s
     ·rw [if_pos e2,if_pos (by omega)]
     ·rw [if_neg e2,if_neg (by omega)]
   have HU:Hid (Upd w.heap.size wA (wr.setCell ⟨w.heap.size,j,none⟩ (.int .u64 (quoW x d s j)))):=hU.set j _
   clear hO hU H ej ej2 hc hqv hA hnx
   go_wp2_with (go_at_call 92;refine (HJ _).mono ?_;rintro e w' ⟨rfl,m',rfl⟩)
   go_roundw
   case rel=>exact ⟨j,by omega,by go_num,rfl,HO.out,HU.out.drewN m'⟩
   case measure=>simp [intOf]
theorem zDg (g k c:Nat)(z:Nat->Int)(w:World)(hk:0<k)(hk2:k<1000000)(h:Num w (some ⟨g,0,none⟩) k c z) :
  Calls Tryz.prog 58 #[.slice (some ⟨g,0,none⟩) k c,.int .i64 1] w fun e w'=>∃ g' k' cap b z',e=.returned (.tuple #[.slice (some ⟨g',0,none⟩) k' cap,.bool b])/\k'<=k/\Num w' (some ⟨g',0,none⟩) k' cap z'/\(∀ V,val z k=V*2->val z' k'=V)/\Below w.heap.size w w'/\w.heap.size<=g':=by
 refine (frgt_p g 0 k c 0 1 1 z w (by omega) (by omega) (by omega) (by omega) (by decide) (by decide) (by decide) hk h).mono fun e w' ⟨g',k',cap,e1,hk',hN,hB,hf⟩=>⟨g',k',cap,_,_,e1,hk',hN,fun V hV=>?_,hB,hf⟩
 have hd:=zHs h.2.2.1 (r:=1) (by omega) k
 rw [h.2.2.2.1 k (Nat.le_refl _),hV,← zMa hN.2.2.2.1 k hk'] at *
 have e2:(2:Int)^1=2:=rfl
 rw [e2] at hd
 have:=Int.emod_nonneg (z 0) (show (2:Int)≠0 by decide)
 have:=Int.emod_lt_of_pos (z 0) (show (0:Int)<2 by decide)
 simp at hd
 omega
theorem zNh (b off n c:Nat)(d:Int)(x:Nat->Int)(w:World)(hn:n<1000000)(hd:0<=d)(hd2:d<=6300000)(h:Num w (some ⟨b,off,none⟩) n c x) :
  Calls Tryz.prog 95 #[.slice (some ⟨b,off,none⟩) n c,.int .i64 d] w fun e w'=>∃ g k cap z,e=.returned (.slice (some ⟨g,0,none⟩) k cap)/\k<=n+d.toNat/64+1/\Num w' (some ⟨g,0,none⟩) k cap z/\val z k=val x n*2^d.toNat/\Below w.heap.size w w'/\w.heap.size<=g/\sizeL z k=k:=by
 obtain ⟨q,hq⟩:∃ q:Nat,d/64=q:=⟨(d/64).toNat,by omega⟩
 obtain ⟨r,hr⟩:∃ r:Nat,d%64=r:=⟨(d%64).toNat,by omega⟩
 have hdn:d.toNat=64*q+r:=by omega
 have hr64:r<64:=by omega
 have hq2:q<99000:=by omega
 have hx:=h.2.2.1
 have hv:=zYm hx h.2.2.2.1 q hr64
 rw [hdn]
 by_cases hr0:0<r
 ·exact (yWb b off n c q r d x w (by omega) (by omega) hr64 hr0 hq hr hd h).mono fun e w' ⟨g,k,cap,e1,hk,hN,hB,hf,htr⟩=>⟨g,k,cap,_,e1,by omega,hN,by rw [← hv,zMa hN.2.2.2.1 _ hk],hB,hf,htr⟩
 ·obtain rfl:r=0:=by omega
  exact (yVb b off n c q d x w (by omega) (by omega) hq hr hd h).mono fun e w' ⟨g,k,cap,e1,hk,hN,hB,hf,htr⟩=>⟨g,k,cap,_,e1,by omega,hN,by rw [← hv,zMa hN.2.2.2.1 _ hk],hB,hf,htr⟩
theorem zMi (a a':Option Addr)(n c n' c':Nat)(x y:Nat->Int)(w:World)(hn:n<4000000000)(hn':n'<4000000000)(h:Num w a n c x)(h':Num w a' n' c' y)(hv:val y n'<=val x n) :
  Calls Tryz.prog 89 #[.slice a n c,.slice a' n' c'] w fun e w'=>∃ g k cap z,e=.returned (.slice (some ⟨g,0,none⟩) k cap)/\k<=max n n'/\Num w' (some ⟨g,0,none⟩) k cap z/\val z k=val x n-val y n'/\Below w.heap.size w w'/\w.heap.size<=g/\sizeL z k=k:=by
 refine (zCu a a' n c n' c' x y w (by omega) (by omega) h h').mono fun e w' ⟨g,k,cap,e1,hk,hN,hB,hf,htr⟩=>⟨g,k,cap,_,e1,hk,hN,?_,hB,hf,htr⟩
 have ex:=zMa h.2.2.2.1 (max n n') (by omega)
 have ey:=zMa h'.2.2.2.1 (max n n') (by omega)
 have e:=zPi h.2.2.1 h'.2.2.1 (max n n')
 rw [zIn h.2.2.1 h'.2.2.1 (by omega),ex,ey] at e
 rw [← zMa hN.2.2.2.1 _ hk,zIa (y:=zFd x y) (max n n') fun i hi=>by unfold zQp;rw [if_pos hi]]
 omega
theorem zCq {z:Nat->Int}{k:Nat}(h:0<val z k):0<k:=by
 rcases Nat.eq_zero_or_pos k with e|e
 ·subst e;simp [val] at h
 ·exact e
def yRd (X Y:Int)(w:World)(e:Ending)(w':World):Prop :=
 ∃ g k cap z g' k' cap' z',e=.returned (.tuple #[.slice (some ⟨g,0,none⟩) k cap,.slice (some ⟨g',0,none⟩) k' cap'])/\k<=41000/\k'<=41000/\Num w' (some ⟨g,0,none⟩) k cap z/\Num w' (some ⟨g',0,none⟩) k' cap' z'/\val z k=X/Y/\val z' k'=X%Y/\Below w.heap.size w w'/\sizeL z' k'=k'
theorem zS3 (ga gb s c t c':Nat)(x y:Nat->Int)(w:World)(hs:s<=20000)(ht2:t<=20000)(ht:2<=t)(h:Num w (some ⟨ga,0,none⟩) s c x)(h':Num w (some ⟨gb,0,none⟩) t c' y)(hxs:sizeL x s=s)(hys:sizeL y t=t) :
  Calls Tryz.prog 56 #[.slice (some ⟨ga,0,none⟩) s c,.slice (some ⟨gb,0,none⟩) t c'] w (yRd (val x s) (val y t) w):=by
 have hx:=h.2.2.1
 have hy:=h'.2.2.1
 have HXS:Hid (sizeL x s=s):=hxs
 have c31:=zZg _ t c' y w (by omega) h'
 rw [hys] at c31
 have c20:=zTe _ s c x w (by omega) h
 have c20':=zTe _ t c' y w (by omega) h'
 have c45:=zMb _ s c x w (by omega) h
 rw [hxs] at c45
 have hlx:0<=lenL x s/\lenL x s<=64*s:=by
  unfold lenL;rw [hxs]
  split
  ·omega
  ·have:=zXc (x (s-1)).toNat;omega
 have hY0:0<val y t:=zOj hy t (by omega) hys
 have hX0:=(zRa hx s).1
 obtain ⟨Ly,hLy,hy1,hy2⟩:=zKg hy (n:=t) (by omega)
 have hne:((t:Int)==1)=false:=by simp;omega
 -- the number below the divisor times 2^(far + 1)
 have key:∀ F:Int,lenL x s-lenL y t=F->(F<0->val x s<val y t)/\(0<=F->val x s<val y t*2^(F.toNat+1)):=by
  intro F hF
  rcases Nat.eq_zero_or_pos s with h0|h0
  ·subst h0
   have e0:val x 0=0:=rfl
   refine ⟨fun _=>by rw [e0];exact hY0,fun _=>by rw [e0];exact Int.mul_pos hY0 (zHb _)⟩
  ·obtain ⟨Lx,hLx,hx1,hx2⟩:=zKg hx (n:=s) (by omega)
   have mono:∀ a b:Nat,a<=b->(2:Int)^a<=2^b:=fun a b hab=>by
    obtain ⟨k,rfl⟩:∃ k,b=a+k:=⟨b-a,by omega⟩
    rw [Int.pow_add]
    have:=zHb a
    have h3:=zHb k
    have:(2:Int)^a*1<=2^a*2^k:=Int.mul_le_mul_of_nonneg_left (by omega) (by omega)
    omega
   refine ⟨fun hneg=>?_,fun hpos=>?_⟩
   ·have:=mono (Lx+1) Ly (by omega);omega
   ·have e1:Lx+1=Ly+(F.toNat+1):=by omega
    have h5:2^Ly*2^(F.toNat+1)<=val y t*2^(F.toNat+1):=Int.mul_le_mul_of_nonneg_right hy1 (Int.le_of_lt (zHb _))
    rw [← Int.pow_add,← e1] at h5
    omega
 have hlyb:0<=lenL y t/\lenL y t<=64*t:=by
  unfold lenL;rw [hys]
  split
  ·omega
  ·have:=zXc (y (t-1)).toNat;omega
 obtain ⟨F,hF⟩:∃ F,lenL x s-lenL y t=F:=⟨_,rfl⟩
 have hk:=key F hF
 have hFb:F<=1280000:=by omega
 generalize lenL x s=LX at *
 generalize lenL y t=LY at *
 have HXN:Hid (Num w (some ⟨ga,0,none⟩) s c x):=h
 have HYN:Hid (Num w (some ⟨gb,0,none⟩) t c' y):=h'
 clear key h h' hy1 hy2 hLy hx hy
 obtain ⟨X,hX⟩:∃ X,val x s=X:=⟨_,rfl⟩
 obtain ⟨Y,hY⟩:∃ Y,val y t=Y:=⟨_,rfl⟩
 rw [hX,hY] at hk
 rw [hX] at hX0
 rw [hY] at hY0
 rw [hX,hY]
 have HX:Hid (val x s=X):=hX
 have HY:Hid (val y t=Y):=hY
 clear hX hY
 by_cases hneg:F<0
 ·have hXY:=hk.1 hneg
  have HV:Hid (X/Y=0/\X%Y=X):=⟨Int.ediv_eq_zero_of_lt hX0 hXY,Int.emod_eq_of_lt hX0 hXY⟩
  have HF:Hid (LX-LY=F):=hF
  have hFn:LX-LY<0:=by omega
  clear hk hF
  go_enter Tryz.func56,Tryz.ntmps56
  go_wp2_with (first|(go_at_call 98;refine c31.mono ?_;rintro e w' ⟨rfl,rfl⟩)|(go_at_call_of 91 (Value.slice (some ⟨ga,0,none⟩) s c);refine c20.mono ?_;rintro e w' ⟨rfl,rfl⟩;clear c20)|(go_at_call_of 91 (Value.slice (some ⟨gb,0,none⟩) t c');refine c20'.mono ?_;rintro e w' ⟨rfl,rfl⟩)|(go_at_call 44;refine c45.mono ?_;rintro e w1 ⟨g1,p1,rfl,hN1,hB1⟩))
  go_ret2
  have hb:=zEa w1 (.cells #[] 22)
  exact ⟨w1.heap.size,0,0,fun _=>0,g1,s,p1,x,rfl,by omega,by omega,⟨Nat.le_refl _,by unfold maxLen;omega,fun _=>(by decide:(0:Int)<=0/\(0:Int)<=18446744073709551615),fun _ _=>rfl,Or.inr ⟨w1.heap.size,0,rfl,by simp,fun i hi=>by omega⟩⟩,hN1.next hb,by rw [HV.out.1];rfl,by rw [HV.out.2];exact HX.out,hB1.trans (hb.mono hB1.size),HXS.out⟩
 ·obtain ⟨N,rfl⟩:=Int.eq_ofNat_of_zero_le (show 0<=F by omega)
  have hXb:=hk.2 (by omega)
  rw [Int.toNat_natCast] at hXb
  obtain ⟨m0,hm0⟩:∃ m0:Nat,(N:Int)/64=m0:=⟨N/64,by omega⟩
  have hmk:=fun w=>zWa ((m0:Int)+1) (m0+1) (by omega) (by omega) w
  have hm0b:m0<=20000:=by omega
  have hm0n:m0=N/64:=by omega
  have HM0:Hid (m0=N/64):=hm0n
  clear hk hm0n
  go_enter Tryz.func56,Tryz.ntmps56
  go_wp2_with (first|(go_at_call 98;refine c31.mono ?_;rintro e w' ⟨rfl,rfl⟩)|(go_at_call_of 91 (Value.slice (some ⟨ga,0,none⟩) s c);refine c20.mono ?_;rintro e w' ⟨rfl,rfl⟩;clear c20)|(go_at_call_of 91 (Value.slice (some ⟨gb,0,none⟩) t c');refine c20'.mono ?_;rintro e w' ⟨rfl,rfl⟩)|(go_at_call 44;refine c45.mono ?_;rintro e w1 ⟨g1,p1,rfl,hN1,hB1⟩))
  have hb1:=zEa w1 (.cells (arrOf (fun _=>0) (m0+1)) 22)
  have hBq:=hB1.trans (hb1.mono hB1.size)
  have c49:=zNh gb 0 t c' N y _ (by omega) (by omega) (by omega) (HYN.out.next hBq)
  rw [Int.toNat_natCast,HY.out] at c49
  have hO0:=Own.new w1 (fun _=>0) (m0+1)
  have hg1lt:g1<w1.heap.size:=by
   rcases hN1.2.2.2.2 with ⟨h,_⟩|⟨b,off,h,hb,_⟩
   ·cases h
   ·cases h;exact hb
  have hsz:(w1.alloc (.cells (arrOf (fun _=>0) (m0+1)) 22)).heap.size=w1.heap.size+1:=by simp
  go_wp2_with (go_at_call 95;refine c49.mono ?_;rintro e w2 ⟨g2,k2,p2,z2,rfl,hk2,hN2,hv2,hb2,hf2,htr2⟩;clear c49 htr2)
  rw [hsz] at hf2 hb2
  have hB2:=hBq.trans (hb2.mono (by have:=hB1.size;omega))
  have hNr:=(hN1.next hb1).next (by rw [hsz];exact hb2)
  have hO2:=Below.own hb2 (by omega) hO0
  generalize hgq:w1.heap.size=gq at *
  have hBsz:=hB1.size
  have HGq:Hid (w.heap.size<=gq):=by show _<=_;omega
  have hgq2:gq<w2.heap.size:=by have:=hb2.size;omega
  clear hN1 hB1 hb1 hBq hO0 hb2 hsz hBsz hgq
  go_loopw [7,9,10,65] (fun rv dv iv u65 wr=>∃ (k g1 k1 p1 g2 k2 p2:Nat) (z1 z2 q:Nat->Int),k<=N+1/\iv=.int .i64 ((k:Int)-1)/\rv=.slice (some ⟨g1,0,none⟩) k1 p1/\dv=.slice (some ⟨g2,0,none⟩) k2 p2/\k1<=40002/\k2<=40002/\g1≠gq/\g2≠gq/\gq<wr.heap.size/\Num wr (some ⟨g1,0,none⟩) k1 p1 z1/\Num wr (some ⟨g2,0,none⟩) k2 p2 z2/\Own gq (m0+1) q wr/\zFa q/\Hid (val q (m0+1)*Y+val z1 k1=X)/\Hid (val z1 k1<Y*2^k)/\Hid (0<k->val z2 k2=Y*2^(k-1))/\Hid (val q (m0+1)%2^k=0)/\Hid (sizeL z1 k1=k1)/\Below w.heap.size w wr) (fun _ _ iv _ _=>(intOf iv+1).toNat)
  case atStart=>exact ⟨N+1,g1,s,p1,g2,k2,p2,x,z2,fun _=>0,Nat.le_refl _,by go_num,rfl,rfl,by omega,by omega,by omega,by omega,hgq2,hNr,hN2,hO2,fun _=>(by decide:(0:Int)<=0/\(0:Int)<=18446744073709551615),by show _=_;rw [zWd,Int.zero_mul,Int.zero_add,HX.out],by show _<_;rw [HX.out];exact hXb,fun _=>hv2,by show _=_;rw [zWd];exact Int.zero_emod _,HXS,hB2⟩
  case round =>
   clear hNr hN2 hO2 hB2 hv2 hk2 hf2 hg1lt hgq2 hXb c31 c20' c45
   obtain ⟨k,g1,k1,p1,g2,k2,p2,z1,z2,q,hk,rfl,rfl,rfl,hk1,hk2,hg1,hg2,hgq,hN1,hN2,hO,hqw,hv,hlt,hd,hmod,htr,hB⟩:=hrel
   by_cases h0:k=0
   ·subst h0
    have hQN:=hO.num hqw 0 (m0+1) (m0+1) (by omega) (Nat.le_refl _) (by unfold maxLen;omega)
    have c45:=zMb _ (m0+1) (m0+1) _ _ (by omega) hQN
    have hle:=zGa (segW q 0 (m0+1)) (m0+1)
    have e1:val (segW q 0 (m0+1)) (sizeL (segW q 0 (m0+1)) (m0+1))=val q (m0+1):=by
     rw [zOa];exact zIa _ fun i hi=>by rw [zUa _ _ _ i hi,Nat.zero_add]
    have HFIN:Hid (val (segW q 0 (m0+1)) (sizeL (segW q 0 (m0+1)) (m0+1))=X/Y/\val z1 k1=X%Y):=by
     have h1:=hv.out
     have h2:=hlt.out
     rw [Int.pow_zero,Int.mul_one] at h2
     have:=(Int.ediv_emod_unique hY0 (a:=X) (r:=val z1 k1) (q:=val q (m0+1))).2 ⟨by rw [Int.mul_comm];omega,(zRa hN1.2.2.1 k1).1,h2⟩
     exact ⟨by rw [e1];exact this.1.symm,this.2.symm⟩
    have HN1:Hid (Num wr (some ⟨g1,0,none⟩) k1 p1 z1):=hN1
    generalize segW q 0 (m0+1)=qz at *
    generalize sizeL qz (m0+1)=kq at *
    clear hQN hO hqw hv hlt hd hmod hN1 hN2 e1
    go_wp2_with (go_at_call 44;refine c45.mono ?_;rintro e w3 ⟨g3,p3,rfl,hN3,hB3⟩)
    go_ret2
    exact ⟨g3,kq,p3,qz,g1,k1,p1,z1,rfl,by omega,by omega,hN3,HN1.out.next hB3,HFIN.out.1,HFIN.out.2,hB.trans (hB3.mono hB.size),htr.out⟩
   ·obtain ⟨j,rfl⟩:∃ j,k=j+1:=⟨k-1,by omega⟩
    have ej:((j+1:Nat):Int)-1=j:=by omega
    rw [ej]
    have hdv:val z2 k2=Y*2^j:=hd.out (by omega)
    have hT:=zHb j
    have hdp:0<val z2 k2:=by rw [hdv];exact Int.mul_pos hY0 hT
    have hk2p:=zCq hdp
    have c16:=zGj _ _ k1 p1 k2 p2 z1 z2 wr (by omega) (by omega) hN1 hN2
    have HLT:Hid (val z1 k1<Y*2^j*2):=by show _<_;have:=hlt.out;rw [Int.pow_succ,← Int.mul_assoc] at this;exact this
    have HMOD:Hid (val q (m0+1)%(2^j*2)=0):=by show _=_;have:=hmod.out;rw [Int.pow_succ] at this;exact this
    have HMODF:Hid (val q (m0+1)%2^(j+1)=0):=hmod
    have HN':Hid (∀ (z':Nat->Int) (k':Nat),(∀ V,val z2 k2=V*2->val z' k'=V)->0<j->val z' k'=Y*2^(j-1)):=fun z' k' hh hj=>hh _ (by rw [hdv,Int.mul_assoc,← Int.pow_succ];congr 2;omega)
    have HJ:Hid (j<=N):=by show _<=_;omega
    clear ej hd hlt hmod
    by_cases hge:Y*2^j<=val z1 k1
    ·have hsg:0<=sgn (val z1 k1) (val z2 k2):=by unfold sgn;rw [if_neg (by omega)];split<;>omega
     have c37:=zMi _ _ k1 p1 k2 p2 z1 z2 wr (by omega) (by omega) hN1 hN2 (by rw [hdv];exact hge)
     generalize sgn (val z1 k1) (val z2 k2)=sg at *
     obtain ⟨m,hmj⟩:∃ m:Nat,(j:Int)/64=m:=⟨j/64,by omega⟩
     obtain ⟨r,hrj⟩:∃ r:Nat,(j:Int)%64=r:=⟨j%64,by omega⟩
     have hr64:r<64:=by omega
     have hjm:j=64*m+r:=by omega
     have hmm:m<m0+1:=by have:=HJ.out;have:=HM0.out;omega
     have hmi:(m:Int)<((m0+1:Nat):Int):=by omega
     have hob:=zVx (hqw m) hr64 (zYl hqw hmm (show r+1<=64 by omega) (by have:=HMODF.out;rw [hjm] at this;exact this))
     have HOR:Hid (bits BinOp.or IntKind.u64 (q m) (2^r)=q m+2^r):=hob.1
     have hpr:=zHb r
     have hpl:=zKm hr64
     have HQ2:Hid (val (fun i=>if i=m then q m+2^r else q i) (m0+1)=val q (m0+1)+2^j):=by
      show _=_
      rw [zGd q m (q m+2^r) (m0+1) hmm]
      have e9:(2:Int)^j=2^r*18446744073709551616^m:=by rw [p64,← hjm]
      rw [e9];congr 1;congr 1;omega
     have HQW2:Hid (zFa (fun i=>if i=m then q m+2^r else q i)):=zTb hqw ⟨by have:=hqw m;omega,hob.2⟩
     have bq:=hqw m
     have HO:Hid (Own gq (m0+1) q wr):=hO
     have HN2:Hid (Num wr (some ⟨g2,0,none⟩) k2 p2 z2):=hN2
     have hob2:=hob.2
     have HD:Hid (val z2 k2=Y*2^j):=hdv
     clear hN1 hN2 hO hqw hob hjm HMODF
     go_wp2_with (first|(go_at_call 42;refine c16.mono ?_;rintro e w' ⟨rfl,rfl⟩)|(go_at_call 89;refine c37.mono ?_;rintro e w3 ⟨g3,k3,p3,z3,rfl,hk3,hN3,hv3,hb3,hf3,htr3⟩;have HT3:Hid (sizeL z3 k3=k3):=htr3;clear htr3;have hO3:=Below.own hb3 hgq HO.out;have hcq:=hO3.cell m hmm;have hfq:=hO3.frozen m))
     have hU3:Upd gq w3 (w3.setCell ⟨gq,m,none⟩ (.int .u64 (bits BinOp.or IntKind.u64 (q m) (2^r)))):=(Upd.refl gq w3).set m _
     have hO4:=hO3.set m (q m+2^r)
     rw [← HOR.out] at hO4
     have hN24:=hU3.num hg2 (HN2.out.next hb3)
     have hN34:=hU3.num (by omega) hN3
     have hB3:=(hB.trans (hb3.mono hB.size)).trans (hU3.below HGq.out)
     have hsz3:w3.heap.size<=(w3.setCell ⟨gq,m,none⟩ (.int .u64 (bits BinOp.or IntKind.u64 (q m) (2^r)))).heap.size:=Nat.le_of_eq hU3.size.symm
     have hgq3:=hb3.size
     have c51:=zDg g2 k2 p2 z2 _ hk2p (by omega) hN24
     clear hO3 hN3 hN24 hU3 hb3
     generalize w3.setCell ⟨gq,m,none⟩ (.int .u64 (bits BinOp.or IntKind.u64 (q m) (2^r)))=wS at *
     go_wp2_with (go_at_call 58;refine c51.mono ?_;rintro e w4 ⟨g4,k4,p4,bb,z4,rfl,hk4,hN4,hhf,hb4,hf4⟩)
     have hgS:gq<wS.heap.size:=by omega
     go_roundw
     case rel =>
      refine ⟨j,g3,k3,p3,g4,k4,p4,z3,z4,fun i=>if i=m then q m+2^r else q i,by have:=HJ.out;omega,by go_num,rfl,rfl,by omega,by omega,by omega,by omega,by have:=hb4.size;omega,hN34.next hb4,hN4,?_,HQW2.out,?_,?_,fun hj=>HN'.out z4 k4 hhf hj,?_,HT3,hB3.trans (hb4.mono hB3.size)⟩
      ·have:=Below.own hb4 hgS hO4
       rw [HOR.out] at this
       exact this
      ·show _=_
       rw [HQ2.out,hv3,HD.out,Int.add_mul,Int.mul_comm (2^j) Y]
       have:=hv.out
       omega
      ·show _<_
       rw [hv3,HD.out]
       have:=HLT.out
       omega
      ·show _=_
       rw [HQ2.out,Int.add_emod_right]
       exact zZf HMOD.out
     case measure=>simp [intOf]
    ·have hs1:sgn (val z1 k1) (val z2 k2)=-1:=by unfold sgn;rw [if_pos (by omega)]
     rw [hs1] at c16
     have c51:=zDg g2 k2 p2 z2 wr hk2p (by omega) hN2
     have HN1:Hid (Num wr (some ⟨g1,0,none⟩) k1 p1 z1):=hN1
     have HO:Hid (Own gq (m0+1) q wr):=hO
     have HQW:Hid (zFa q):=hqw
     clear hN1 hN2 hO hqw hs1
     go_wp2_with (first|(go_at_call 42;refine c16.mono ?_;rintro e w' ⟨rfl,rfl⟩)|(go_at_call 58;refine c51.mono ?_;rintro e w4 ⟨g4,k4,p4,bb,z4,rfl,hk4,hN4,hhf,hb4,hf4⟩))
     go_roundw
     case rel=>exact ⟨j,g1,k1,p1,g4,k4,p4,z1,z4,q,by have:=HJ.out;omega,by go_num,rfl,rfl,hk1,by omega,hg1,by omega,by have:=hb4.size;omega,HN1.out.next hb4,hN4,Below.own hb4 hgq HO.out,HQW.out,hv,by show _<_;omega,fun hj=>HN'.out z4 k4 hhf hj,zZf HMOD.out,htr,hB.trans (hb4.mono hB.size)⟩
     case measure=>simp [intOf]
theorem zFm {y:Nat->Int}{n q r A:Nat}(hy:zFa y)(hz:∀ i,n<=i->y i=0)(hr:r<64)(m:Nat)(hm:n<=m)(hA:val y n=A):val (zGc y q r) m=((A/2^(64*q+r):Nat):Int):=by
 have hw:zFa (fun i=>y (q+i)):=fun i=>hy (q+i)
 have e1:zGc y q r=zGc (fun i=>y (q+i)) 0 r:=by
  funext j;unfold zGc;simp only [Nat.zero_add,Nat.add_assoc]
 have h1:=zHs hw hr m
 have h2:y (q+m)=0:=hz _ (by omega)
 simp only [h2,Int.zero_emod,Int.zero_mul,Int.add_zero,Nat.add_zero] at h1
 have h3:=zBc y q m
 have h4:val (segW y q m) m=val (fun i=>y (q+i)) m:=zIa m fun i hi=>zUa y q m i hi
 rw [h4,zMa hz (q+m) (by omega),hA] at h3
 rw [e1]
 have hb1:=zRa hy q
 have hb2:=zRa (zPd hw (q:=0) (r:=r)) m
 have hp:(0:Int)<2^r:=zHb r
 have hm1:=Int.emod_nonneg (y q) (Int.ne_of_gt hp)
 have hm2:=Int.emod_lt_of_pos (y q) hp
 generalize val (zGc (fun i=>y (q+i)) 0 r) m=S at *
 generalize val (fun i=>y (q+i)) m=Z at *
 have eZ:Z/2^r=S:=by
  rw [← h1,Int.add_comm,Int.add_mul_ediv_right _ _ (Int.ne_of_gt hp),Int.ediv_eq_zero_of_lt hm1 hm2,Int.zero_add]
 have eA:(A:Int)/18446744073709551616^q=Z:=by
  rw [h3,Int.add_mul_ediv_right _ _ (Int.ne_of_gt (zXb q)),Int.ediv_eq_zero_of_lt hb1.1 hb1.2,Int.zero_add]
 rw [← eZ,← eA,Int.natCast_ediv,Int.ediv_ediv_of_nonneg (Int.le_of_lt (zXb q)),p64']
 simp
def W4 (A:Nat)(i:Nat):Int:=((A/2^(64*i)%18446744073709551616:Nat):Int)
abbrev A4 (A:Nat):Value:=.agg #[.int .u64 (W4 A 0),.int .u64 (W4 A 1),.int .u64 (W4 A 2),.int .u64 (W4 A 3)]
theorem zLa (A:Nat):zFa (W4 A):=fun i=>by
 unfold W4
 have:=Nat.mod_lt (A/2^(64*i)) (show 0<18446744073709551616 by decide)
 omega
theorem p64n (n:Nat):(18446744073709551616:Int)^n=((2^(64*n):Nat):Int):=by
 rw [Nat.pow_mul]
 simp
theorem zUs (A:Nat):∀ n,val (W4 A) n=((A%2^(64*n):Nat):Int)
 | 0=>by simp [val,Nat.mod_one]
 | n+1=>by
  show val (W4 A) n+W4 A n*18446744073709551616^n=_
  have e:A%2^(64*(n+1))=A%2^(64*n)+2^(64*n)*(A/2^(64*n)%18446744073709551616):=by
   rw [show 64*(n+1)=64*n+64 by omega,Nat.pow_add]
   exact Nat.mod_mul
  rw [zUs A n,p64n,e]
  unfold W4
  rw [Int.natCast_add,Int.natCast_mul,Int.mul_comm]
theorem zZb {A:Nat}(h:A<2^256):val (W4 A) 4=A:=by
 rw [zUs,Nat.mod_eq_of_lt h]
theorem arr_eq {x y:Nat->Int}(hx:zFa x)(hy:zFa y)(h:val x 4=val y 4):arrOf x 4=arrOf y 4 :=
 zVg (zZl hx hy 4 h)
theorem zAj {x:Nat->Int}(hx:zFa x){A:Nat}(h:val x 4=((A%2^256:Nat):Int)):Value.agg (arrOf x 4)=A4 A:=by
 have e:arrOf x 4=arrOf (W4 A) 4:=arr_eq hx (zLa A) (by rw [h,zUs])
 rw [e];rfl
theorem zWl (A:Nat):A4 (A%2^256)=A4 A:=by
 have:=zAj (zLa (A%2^256)) (A:=A) (by rw [zUs,Nat.mod_mod])
 exact this
theorem zXs {A B:Nat}(hA:A<2^256)(hB:B<2^256)(h:∀ i,i<4->W4 A i=W4 B i):A=B:=by
 have:=zIa (x:=W4 A) (y:=W4 B) 4 h
 rw [zZb hA,zZb hB] at this
 omega
theorem add4 (A B:Nat)(w:World)(hA:A<2^256)(hB:B<2^256) :
  CB 107 #[A4 A,A4 B] w (.tuple #[A4 (A+B),.int .u64 (((A+B)/2^256:Nat):Int)]):=by
 refine (yNb (W4 A) (W4 B) w (zLa A) (zLa B)).mono ?_
 rintro e w' ⟨rfl,hb⟩
 refine ⟨?_,hb⟩
 have hs:=zAi (x:=W4 A) (y:=W4 B) 4
 have hc:=zDd (zLa A) (zLa B) 4
 have hv:=zRa (zOd (W4 A) (W4 B)) 4
 rw [zZb hA,zZb hB] at hs
 have e4:(18446744073709551616:Int)^4=115792089237316195423570985008687907853269984665640564039457584007913129639936:=by decide
 have e4n:(2:Nat)^256=115792089237316195423570985008687907853269984665640564039457584007913129639936:=by decide
 rw [e4] at hs hv
 rw [e4n] at hA hB ⊢
 rw [zAj (zOd _ _) (A:=A+B) (by rw [e4n];omega)]
 have:carryW (W4 A) (W4 B) 4=(((A+B)/115792089237316195423570985008687907853269984665640564039457584007913129639936:Nat):Int):=by omega
 rw [this]
theorem sub4 (A B:Nat)(w:World)(hA:A<2^256)(hB:B<2^256) :
  CB 140 #[A4 A,A4 B] w (.tuple #[A4 (A+2^256-B),.int .u64 (if A<B then 1 else 0)]):=by
 refine (yFb (W4 A) (W4 B) w (zLa A) (zLa B)).mono ?_
 rintro e w' ⟨rfl,hb⟩
 refine ⟨?_,hb⟩
 have hs:=zPi (x:=W4 A) (y:=W4 B) (zLa A) (zLa B) 4
 have hc:=zSf (W4 A) (W4 B) 4
 have hv:=zRa (zKe (W4 A) (W4 B)) 4
 rw [zZb hA,zZb hB] at hs
 have e4:(18446744073709551616:Int)^4=115792089237316195423570985008687907853269984665640564039457584007913129639936:=by decide
 have e4n:(2:Nat)^256=115792089237316195423570985008687907853269984665640564039457584007913129639936:=by decide
 rw [e4] at hs hv
 rw [e4n] at hA hB ⊢
 rw [zAj (zKe _ _) (A:=A+115792089237316195423570985008687907853269984665640564039457584007913129639936-B) (by rw [e4n];omega)]
 have:zGf (W4 A) (W4 B) 4=if A<B then 1 else 0:=by split<;>omega
 rw [this]
theorem zB8 {A B:Nat}(h:B<=A):A4 (A+2^256-B)=A4 (A-B):=by
 rw [← zWl (A-B),← zWl (A+2^256-B),show A+2^256-B=A-B+2^256 by omega,Nat.add_mod_right]
theorem shl4 (A n:Nat)(w:World)(hA:A<2^256)(hn:n<=100000) :
  CB 129 #[A4 A,.int .i64 n] w (A4 (A*2^n)):=by
 refine (shlA4 (W4 A) n w (zLa A) (by omega)).mono ?_
 rintro e w' ⟨rfl,hb⟩
 refine ⟨?_,hb⟩
 congr 1
 by_cases h1:n=0
 ·subst h1
  have e:zLv (W4 A) ((0:Nat):Int)=W4 A:=by funext j;unfold zLv;rw [if_pos (by omega)]
  rw [e,Nat.pow_zero,Nat.mul_one];rfl
 refine zAj (zFt (zLa A) _) ?_
 have hlow:=zT2 (zLa A) (N:=4) (((n:Int)/64).toNat) (((n:Int)%64).toNat)
 have es:zLv (W4 A) (n:Int)=zSk (W4 A) ((n:Int)/64).toNat ((n:Int)%64).toNat:=by funext j;unfold zLv;rw [if_neg (by omega)]
 rw [es]
 obtain ⟨q,hq⟩:∃ q:Nat,((n:Int)/64).toNat=q:=⟨_,rfl⟩
 obtain ⟨r,hr⟩:∃ r:Nat,((n:Int)%64).toNat=r:=⟨_,rfl⟩
 rw [hq,hr] at hlow ⊢
 have hn:n=64*q+r:=by omega
 have hr6:r<64:=by omega
 have h4:val (zSk (W4 A) q r) 4=val (zPc (zHg (W4 A) 4) q r) 4:=by
  refine zIa 4 fun i hi=>?_
  have:=congrFun hlow i
  rw [zCc hi,zCc hi] at this
  exact this
 have hlw:zFa (zHg (W4 A) 4):=zAg (zLa A) 4
 have hz:∀ i,4<=i->zHg (W4 A) 4 i=0:=fun i hi=>zXe hi
 have hF:=zYm hlw hz q hr6
 have hvl:val (zHg (W4 A) 4) 4=A:=by
  rw [zIa (x:=zHg (W4 A) 4) (y:=W4 A) 4 (fun i hi=>zCc hi),zZb hA]
 rw [hvl,← hn] at hF
 have hsp:=zBc (zPc (zHg (W4 A) 4) q r) 4 (q+1)
 rw [show 4+(q+1)=4+q+1 by omega,hF] at hsp
 have hbd:=zRa (zJe hlw (q:=q) (r:=r)) 4
 have e4:(18446744073709551616:Int)^4=((2^256:Nat):Int):=by decide
 rw [e4] at hbd hsp
 rw [h4]
 have:(A:Int)*2^n=((A*2^n:Nat):Int):=by simp
 rw [this] at hsp
 have h5:=congrArg (·%((2^256:Nat):Int)) hsp
 simp only [Int.add_mul_emod_self_right,Int.emod_eq_of_lt hbd.1 hbd.2] at h5
 rw [← h5]
 rfl
theorem shr4 (A n:Nat)(w:World)(hA:A<2^256)(hn:n<=100000) :
  CB 139 #[A4 A,.int .i64 n] w (A4 (A/2^n)):=by
 refine (shrA4 (W4 A) n w (zLa A) (by omega)).mono ?_
 rintro e w' ⟨rfl,hb⟩
 refine ⟨?_,hb⟩
 congr 1
 by_cases h1:n=0
 ·subst h1
  have e:zKv (W4 A) ((0:Nat):Int) 4=W4 A:=by funext j;unfold zKv;rw [if_pos (by omega)]
  rw [e,Nat.pow_zero,Nat.div_one];rfl
 refine zAj (zEt (zLa A) _ _) ?_
 have hlow:=zS2 (zLa A) (N:=4) (((n:Int)/64).toNat) (((n:Int)%64).toNat)
 have es:zKv (W4 A) (n:Int) 4=zBj (W4 A) ((n:Int)/64).toNat ((n:Int)%64).toNat 4:=by funext j;unfold zKv;rw [if_neg (by omega)]
 rw [es]
 obtain ⟨q,hq⟩:∃ q:Nat,((n:Int)/64).toNat=q:=⟨_,rfl⟩
 obtain ⟨r,hr⟩:∃ r:Nat,((n:Int)%64).toNat=r:=⟨_,rfl⟩
 rw [hq,hr] at hlow ⊢
 have hn:n=64*q+r:=by omega
 have hr6:r<64:=by omega
 have h4:val (zBj (W4 A) q r 4) 4=val (zGc (zHg (W4 A) 4) q r) 4:=by
  refine zIa 4 fun i hi=>?_
  have:=congrFun hlow i
  rw [zCc hi] at this
  exact this
 rw [h4]
 exact (zFm (zAg (zLa A) 4) (fun i hi=>zXe hi) hr6 4 (Nat.le_refl _) (by
  rw [zIa (x:=zHg (W4 A) 4) (y:=W4 A) 4 (fun i hi=>zCc hi),zZb hA])).trans (by rw [← hn,Nat.mod_eq_of_lt (Nat.lt_of_le_of_lt (Nat.div_le_self _ _) hA)])
theorem zHq {A k:Nat}(hA:A<2^256):lenL (W4 A) 4<=(k:Int)↔A<2^k:=by
  have hv:=zZb hA
  by_cases h0:0<sizeL (W4 A) 4
  · obtain ⟨L,h1,h2,h3⟩:=zKg (zLa A) h0
    rw [hv] at h2 h3
    rw [h1]
    have h2' : 2 ^ L ≤ A := by have : ((2 ^ L : Nat) : Int) ≤ A := by simpa using h2
                               omega
    have h3' : A < 2 ^ (L + 1) := by have : (A : Int) < ((2 ^ (L + 1) : Nat) : Int) := by simpa using h3
                                     omega
    constructor
    · intro h
      exact Nat.lt_of_lt_of_le h3' (Nat.pow_le_pow_right (by decide) (by omega))
    · intro h
      have:2^L<2^k:=Nat.lt_of_le_of_lt h2' h
      have:=(Nat.pow_lt_pow_iff_right (a:=2) (by decide)).1 this
      omega
  · have hz:sizeL (W4 A) 4=0:=by omega
    have hl:lenL (W4 A) 4=0:=by unfold lenL;rw [if_pos hz]
    have hA0:(A:Int)=0:=by
      rw [← hv,← zOa 4,hz];rfl
    rw [hl]
    have:A=0:=by omega
    subst this
    exact ⟨fun _=>Nat.two_pow_pos k,fun _=>by omega⟩
theorem zOy {A:Nat}(hA:A<2^256):lenL (W4 A) 4=0↔A=0:=by
 have h:=zHq (k:=0) hA
 have h2:0<=lenL (W4 A) 4:=by
  by_cases h0:0<sizeL (W4 A) 4
  ·obtain ⟨L,h1,_⟩:=zKg (zLa A) h0
   omega
  ·unfold lenL;rw [if_pos (by omega)];exact Int.le_refl _
 constructor
 ·intro h3;have:=h.1 (by omega);omega
 ·intro h3;have:=h.2 (by omega);omega
theorem zF4 (A:Nat):lenL (zHg (W4 A) 4) 4=lenL (W4 A) 4:=by
 unfold lenL
 rw [zRe (x:=zHg (W4 A) 4) (y:=W4 A) 4 (fun i hi=>zCc hi)]
 by_cases h:sizeL (W4 A) 4=0
 ·rw [if_pos h,if_pos h]
 ·have:=zGa (W4 A) 4
  rw [if_neg h,if_neg h,zCc (by omega)]
theorem yPb (A:Nat)(w:World):CB 172 #[A4 A] w (.int .i64 (lenL (W4 A) 4)):=len4 (W4 A) w (zLa A)
theorem bit4 (A n:Nat)(w:World)(hA:A<2^256)(hn:n<256) :
  CB 141 #[A4 A,.int .i64 n] w (.int .u64 ((A/2^n%2:Nat):Int)):=by
 refine (yMb (W4 A) n w (zLa A) (by omega) (by omega)).mono ?_
 rintro e w' ⟨rfl,hb⟩
 refine ⟨?_,hb⟩
 have hb:=zLa A ((n:Int)/64).toNat
 have h1:bitV (W4 A ((n:Int)/64).toNat) n=((A/2^n%2:Nat):Int):=by
  unfold bitV
  have h2:=zUh (y:=W4 A ((n:Int)/64).toNat/2^((n:Int)%64).toNat) (r:=1) (zWc _ _ hb) (by decide)
  rw [show (1:Int)=2^1-1 by decide,h2]
  unfold W4
  obtain ⟨q,hq⟩:∃ q:Nat,((n:Int)/64).toNat=q:=⟨_,rfl⟩
  obtain ⟨r,hr⟩:∃ r:Nat,((n:Int)%64).toNat=r:=⟨_,rfl⟩
  rw [hq,hr]
  have hn:n=64*q+r:=by omega
  have hr6:r<64:=by omega
  have e1:((2:Int)^r)=((2^r:Nat):Int):=by simp
  rw [e1,← Int.natCast_ediv]
  have e2:A/2^n=A/2^(64*q)/2^r:=by rw [hn,Nat.pow_add,Nat.div_div_eq_div_mul]
  rw [e2]
  generalize A/2^(64*q)=B
  have e3:B%18446744073709551616/2^r%2=B/2^r%2:=by
   rw [show (18446744073709551616:Nat)=2^r*(2*2^(63-r)) by rw [← Nat.pow_succ',← Nat.pow_add,show r+(63-r+1)=64 by omega]]
   rw [Nat.mod_mul_right_div_self,Nat.mod_mul_right_mod]
  have e4:((2:Int)^1)=((2:Nat):Int):=by decide
  rw [e4,← Int.natCast_emod,e3]
 rw [h1]
theorem of4 (u:Nat)(w:World)(hu:u<18446744073709551616) :
  CB 130 #[.int .u64 u] w (A4 u):=by
 have e0:W4 u 0=u:=by unfold W4;rw [Nat.mul_zero,Nat.pow_zero,Nat.div_one,Nat.mod_eq_of_lt hu]
 have e1:∀ i,0<i->W4 u i=0:=fun i hi=>by
  unfold W4
  have:u<2^(64*i):=Nat.lt_of_lt_of_le hu (by rw [show (18446744073709551616:Nat)=2^64 by decide];exact Nat.pow_le_pow_right (by decide) (by omega))
  rw [Nat.div_eq_of_lt this];rfl
 unfold A4
 rw [e0,e1 1 (by decide),e1 2 (by decide),e1 3 (by decide)]
 go_enter Tryz.func130,Tryz.ntmps130
 go_wp2
 exact bodyPost_ret (v:=.agg #[.int .u64 u,.int .u64 0,.int .u64 0,.int .u64 0]) (by simp [results,Tryz.results130,go_sem]) rfl ⟨rfl,((Below.refl _ _).alloc (Nat.le_refl _) _).alloc (by simp) _⟩
theorem zRc (n:Nat):(0:Int)<10^n:=Int.pow_pos (by decide)
def dgt (V:Int)(i:Nat):Int:=V/10^i%10
theorem zC0 (V:Int)(i:Nat):0<=dgt V i/\dgt V i<=9:=by
 unfold dgt
 have:=Int.emod_nonneg (V/10^i) (show (10:Int)≠0 by decide)
 have:=Int.emod_lt_of_pos (V/10^i) (show (0:Int)<10 by decide)
 omega
theorem zB0 {V:Int}{L:Nat}(h0:0<=V)(h:V<10^L)(i:Nat)(hi:L<=i):dgt V i=0:=by
 unfold dgt
 have:V/10^i=0:=Int.ediv_eq_zero_of_lt h0 (Int.lt_of_lt_of_le h (by
  obtain ⟨k,rfl⟩:∃ k,i=L+k:=⟨i-L,by omega⟩
  rw [Int.pow_add]
  have h1:=zRc L
  have h2:=zRc k
  have:(10:Int)^L*1<=10^L*10^k:=Int.mul_le_mul_of_nonneg_left (by omega) (by omega)
  omega))
 rw [this];rfl
theorem zGk (V:Int)(a b:Nat):V/10^a/10^b=V/10^(a+b):=by
 rw [Int.pow_add,Int.ediv_ediv_of_nonneg (Int.le_of_lt (zRc a))]
theorem zUk {W a b:Int}(ha:0<a):W%(a*b)/a=W/a%b:=by
 rw [Int.emod_def,Int.emod_def,← Int.ediv_ediv_of_nonneg (Int.le_of_lt ha)]
 have:W-a*b*(W/a/b)=W+(-(b*(W/a/b)))*a:=by grind
 rw [this,Int.add_mul_ediv_right _ _ (by omega)];omega
theorem zM5 {V r:Int}{L j:Nat}(hr:V/10^L%10^19=r)(hj:j<19):r/10^j%10=dgt V (L+j):=by
 unfold dgt
 rw [← zGk]
 generalize V/10^L=W at *
 subst hr
 have h1:(10:Int)^19=10^j*(10*10^(18-j)):=by
  rw [← Int.mul_assoc,← Int.pow_succ,← Int.pow_add];congr 1;omega
 have hp:=zRc j
 have hp2:=zRc (18-j)
 rw [h1,zUk hp]
 exact Int.emod_emod_of_dvd _ ⟨10^(18-j),rfl⟩
def zH0 (V:Int)(L:Nat):List Int:=if sizeL (dgt V) L=0 then [48] else (List.range (sizeL (dgt V) L)).map fun i=>48+dgt V (sizeL (dgt V) L-1-i)
theorem zIk {V:Int}{L L':Nat}(h0:0<=V)(h:V<10^L)(h':V<10^L'):zH0 V L=zH0 V L':=by
 have key:∀ a b,a<=b->V<10^a->zH0 V b=zH0 V a:=fun a b hab ha=>by
  unfold zH0
  rw [zHl (fun i hi=>zB0 h0 ha i hi) b hab]
 rcases Nat.le_total L L' with e|e
 ·exact (key L L' e h).symm
 ·exact key L' L e h'
def blB (V:Int)(L:Nat):List Value:=(List.range L).map fun i=>Value.int .u8 (48+dgt V i)
theorem zX5 (V:Int)(L:Nat):blB V L++[Value.int .u8 (48+dgt V L)]=blB V (L+1):=by simp [blB,List.range_succ]
theorem zO3 {w w':World}{g base n:Nat}{v:Value}{xs:List Value}(h:w.ownsRow base 5 1 v n xs)(hU:Upd g w w')(hg:g<base):w'.ownsRow base 5 1 v n xs:=by
 obtain ⟨h1,h2⟩:=h
 refine ⟨h1,?_⟩
 rcases h2 with h2|⟨g',cap,cur,e,hb,hh,r⟩
 ·exact Or.inl h2
 ·exact Or.inr ⟨g',cap,cur,e,hb,(hU.block g' (by omega)).trans hh,r⟩
def zWq (w0:World)(V:Int)(s:Nat)(z:Nat->Int)(ao:Option Addr)(L cp:Nat)(wr:World):Prop :=
 Own w0.heap.size s z wr/\wr.ownsRow (w0.heap.size+1) 5 1 (.slice ao L cp) L (blB V L)/\Below w0.heap.size w0 wr/\w0.heap.size+1<=wr.heap.size
def slLen:Value->Nat|.slice _ n _=>n|_=>0
theorem p22:∀ s:Nat,(18446744073709551616:Int)^s<=10^(22*s)
 | 0=>by simp
 | s+1=>by
  have ih:=p22 s
  have e:(10:Int)^(22*(s+1))=10^(22*s)*10000000000000000000000:=by rw [Nat.mul_add,Int.pow_add];rfl
  rw [e,Int.pow_succ]
  have h0:=zXb s
  have h1:=zRc (22*s)
  generalize (18446744073709551616:Int)^s=A at *
  generalize (10:Int)^(22*s)=B at *
  omega
theorem p10_lt {L s:Nat}(h:(10:Int)^L<18446744073709551616^s):L<22*s:=by
 rcases Nat.lt_or_ge L (22*s) with h'|h'
 ·exact h'
 ·have h2:=p22 s
  obtain ⟨k,rfl⟩:∃ k,L=22*s+k:=⟨L-22*s,by omega⟩
  rw [Int.pow_add] at h
  have h3:=zRc k
  have h4:=zRc (22*s)
  have:(10:Int)^(22*s)*1<=10^(22*s)*10^k:=Int.mul_le_mul_of_nonneg_left (by omega) (by omega)
  omega
def HasB (g n:Nat)(f:Nat->Int)(w:World):Prop:=g<w.heap.size/\∀ i,i<n->w.cell? ⟨g,i,none⟩=some (.int .u8 (f i))/\w.frozen? ⟨g,i,none⟩=false
theorem zOt {w:World}{base g L cap:Nat}{V:Int}(h:w.ownsRow base 5 1 (.slice (some ⟨g,0,none⟩) L cap) L (blB V L)):base<=g/\L<=cap/\cap<=maxLen/\HasB g L (fun i=>48+dgt V i) w:=by
 obtain ⟨hl,h⟩:=h
 rcases h with ⟨h,_⟩|⟨g',cap',cur,he,hb,hh,h1,h2,h3,h4⟩
 ·cases h
 ·cases he
  have hg:g<w.heap.size:=by
   rcases Nat.lt_or_ge g w.heap.size with h'|h'
   ·exact h'
   ·rw [Array.getElem?_eq_none h'] at hh;cases hh
  refine ⟨hb,h1,h2,hg,fun i hi=>⟨?_,?_⟩⟩
  ·have hcur:cur[i]?=some (.int .u8 (48+dgt V i)):=by
    have:(cur.toList.take (L*1))[i]?=some (.int .u8 (48+dgt V i)):=by rw [h4];simp [blB,hi]
    rw [List.getElem?_take] at this
    simpa [hi] using this
   unfold World.cell?
   simp [hh,hcur]
  ·unfold World.frozen?
   simp [hh]
theorem zSm {V:Int}(h0:0<=V):∀ L,V<10^L->V<10^(sizeL (dgt V) L)
 | 0,h=>h
 | L+1,h=>by
  by_cases e:dgt V L=0
  ·have e1:sizeL (dgt V) (L+1)=sizeL (dgt V) L:=by simp [sizeL,e]
   rw [e1]
   refine zSm h0 L ?_
   unfold dgt at e
   have hp:=zRc L
   rw [Int.pow_succ] at h
   have h1:V/10^L<10:=Int.ediv_lt_of_lt_mul hp (by omega)
   have h2:0<=V/10^L:=Int.ediv_nonneg h0 (by omega)
   have h3:V/10^L=0:=by omega
   have:=Int.lt_mul_ediv_self_add (x:=V) (k:=10^L) hp
   rw [h3] at this;omega
  ·have e1:sizeL (dgt V) (L+1)=L+1:=by simp [sizeL,e]
   rw [e1];exact h
def zI3 (V:Int)(K:Nat):List Int:=(List.range K).map fun i=>48+dgt V (K-1-i)
section
theorem zAt (b n c:Nat)(f:Nat->Int)(w:World)(hn:n<4294967296)(hnc:n<=c)(hc2:c<=maxLen)(hf:∀ i,0<=f i/\f i<=9)(hc:∀ i,i<n->w.cell? ⟨b,i,none⟩=some (.int .u8 (48+f i))) :
  CQ 111 #[.slice (some ⟨b,0,none⟩) n c,.int .u8 48] w (.slice (some ⟨b,0,none⟩) (sizeL f n) c):=by
 unfold maxLen at hc2
 go_enter Tryz.func111,Tryz.ntmps111
 go_wp2
 go_loop [0] (fun t=>∃ k:Nat,k<=n/\sizeL f k=sizeL f n/\t=.slice (some ⟨b,0,none⟩) k c) (fun t=>match t with|.slice _ k _=>k|_=>0)
 case atStart=>exact ⟨n,Nat.le_refl _,rfl,rfl⟩
 case round =>
  obtain ⟨k,hk,hs,rfl⟩:=hrel
  by_cases h0:k=0
  ·subst h0
   have HS:Hid (sizeL f n=0):=hs.symm
   clear hs hc
   go_wp2
   go_ret
   exact ⟨by rw [HS.out];rfl,rfl⟩
  ·obtain ⟨j,rfl⟩:∃ j,k=j+1:=⟨k-1,by omega⟩
   have hcj:=hc j (by omega)
   have hfj:=hf j
   by_cases hzj:f j=0
   ·have HS:Hid (sizeL f j=sizeL f n):=by
     have:sizeL f (j+1)=sizeL f j:=by simp [sizeL,hzj]
     exact this.symm.trans hs
    clear hs hc hf
    rw [hzj] at hcj
    go_wp2
    go_round
    case rel=>exact ⟨j,by omega,HS.out,rfl⟩
    case measure=>simp
   ·have HS:Hid (sizeL f n=j+1):=by
     have:sizeL f (j+1)=j+1:=by simp [sizeL,hzj]
     exact hs.symm.trans this
    have hne:(48+f j==48)=false:=by simp;omega
    clear hs hc hf
    go_wp2
    go_ret
    exact ⟨by rw [HS.out];rfl,rfl⟩
set_option maxRecDepth 20000 in
theorem zCm (b n c:Nat)(f:Nat->Int)(w:World)(hn:n<4294967296)(hnc:n<=c)(hc2:c<=maxLen)(hf:∀ i,0<=f i/\f i<=9)(hc:∀ i,i<n->w.cell? ⟨b,i,none⟩=some (.int .u8 (48+f i))) :
  CQ 66 #[.slice (some ⟨b,0,none⟩) n c,.string ⟨#[48]⟩] w (.slice (some ⟨b,0,none⟩) (sizeL f n) c):=by
 have hT:=zAt b n c f w hn hnc hc2 hf hc
 clear hf
 by_cases h0:n=0
 ·subst h0
  clear hT hc
  go_enter Tryz.func66,Tryz.ntmps66
  go_wp2
  go_ret
  exact ⟨rfl,rfl⟩
 ·have hn0:((n:Int)==0)=false:=by simp;omega
  clear hc
  generalize sizeL f n=s at *
  go_enter Tryz.func66,Tryz.ntmps66
  have h48:∀ h,((⟨#[48]⟩:ByteArray)[0]'h).toNat=48:=fun _=>rfl
  go_wp2_with (go_at_call 111;refine hT.mono ?_;rintro e w' ⟨rfl,rfl⟩)
  go_ret
  exact ⟨rfl,rfl⟩
theorem zBm (w:World) :
  CQ 66 #[.slice none 0 0,.string ⟨#[48]⟩] w (.slice none 0 0):=by
 go_enter Tryz.func66,Tryz.ntmps66
 go_wp2
 go_ret
 exact ⟨rfl,rfl⟩
end
end Go.Proofs.YtpabnhlfbjkmaaaGreatDoor

namespace Go.Proofs
open Go.Shelf
def Tryz.laysRev_ren:Go.Shelf.Ren:=⟨fun|35=>67|n=>n,fun|22=>79|23=>5|3=>3|4=>4|0=>0|n=>n,fun|n=>n⟩
theorem Tryz.laysRev:Go.Proofs.SlLaysE.n35 Tryz.prog Tryz.laysRev_ren:={
 mixed:=by kernel_rfl
 f35:=⟨Tryz.f67.name,by decide,Tryz.func67.trans (congrArg some (by kernel_rfl))⟩
 t0:=Tryz.underlying0
 a0:=Tryz.isAgg0
 z0:=Tryz.sizeOf0
 v0:=Tryz.zeroValue0
 t3:=Tryz.underlying3
 a3:=Tryz.isAgg3
 z3:=Tryz.sizeOf3
 v3:=Tryz.zeroValue3
 t4:=Tryz.underlying4
 a4:=Tryz.isAgg4
 z4:=Tryz.sizeOf4
 v4:=Tryz.zeroValue4
 t22:=Tryz.underlying79
 a22:=Tryz.isAgg79
 z22:=Tryz.sizeOf79
 v22:=Tryz.zeroValue79
 a23:=Tryz.isAgg5
 z23:=Tryz.sizeOf5 }
end Go.Proofs
set_option maxRecDepth 20000
set_option linter.unusedSectionVars false
set_option linter.unusedSimpArgs false
namespace Go.Proofs.YtpabnhlfbjkmaaaGreatDoor
open Go.RowKit Go.Sort
theorem zBq (g n c:Nat)(f:Nat->Int)(w:World)(hn:n<4294967296)(h:HasB g n f w) :
  Calls Tryz.prog 67 #[.slice (some ⟨g,0,none⟩) n c] w fun e w'=>e=.returned (.tuple #[])/\HasB g n (fun i=>f (n-1-i)) w'/\Upd g w w':=by
 obtain ⟨hg,hc⟩:=h
 have hl:((List.range n).map f).length=n:=by simp
 have hH:Holds (Value.int .u8) w g 0 ((List.range n).map f).toArray:=by
  intro j hj
  have hj':j<n:=by simpa using hj
  have:=hc j hj'
  rw [Nat.zero_add]
  refine ⟨?_,this.2⟩
  rw [this.1,getElem!_pos _ j hj]
  simp
 have hR:=AnyE.slices_Reverse Tryz.laysRev (Value.int .u8) (fun _=>rfl) g 0 c ((List.range n).map f) w hH (by rw [hl];omega)
 rw [hl] at hR
 refine Calls.mono hR ?_
 rintro e w' ⟨rfl,m,rfl⟩
 have hs:((List.range n).map f).reverse.toArray.size=((List.range n).map f).toArray.size:=by simp
 refine ⟨rfl,⟨by simpa using hg,fun i hi=>?_⟩,?_⟩
 ·have hh:=holds_putRow (Value.int .u8) (Sort.ahead w m) g 0 _ ((List.range n).map f).reverse.toArray (holds_ahead _ _ _ _ _ _ hH) hs i (by simpa using hi)
  rw [Nat.zero_add] at hh
  refine ⟨?_,hh.2⟩
  rw [hh.1,getElem!_pos _ i (by simpa using hi)]
  simp
 ·refine ⟨rfl,rfl,rfl,by simp,fun k hk=>?_⟩
  simp only [putRow,mapBlock,Array.getElem?_modify]
  rw [if_neg (fun e=>hk e.symm)]
  rfl
end Go.Proofs.YtpabnhlfbjkmaaaGreatDoor
