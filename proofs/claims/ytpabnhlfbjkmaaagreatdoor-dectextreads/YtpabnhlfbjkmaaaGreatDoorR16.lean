/-
  Texts that the proof leans on.
-/
import Derived.Test.YtpabnhlfbjkmaaaGreatDoorR12
import Derived.Test.YtpabnhlfbjkmaaaGreatDoorR13
import Derived.Lib.RabinKarpLaws
import Derived.Test.YtpabnhlfbjkmaaaGreatDoorR10
set_option maxHeartbeats 8000000
set_option linter.unusedVariables false
set_option linter.unusedSimpArgs false
set_option linter.unusedSectionVars false
set_option maxRecDepth 20000
namespace Go.Proofs.YtpabnhlfbjkmaaaGreatDoor
open Go.RowKit
theorem zUf (c:Int):val (zOc c) 1=c:=by simp [val,zOc]
theorem zM3 (s:Int)(m:Nat):s^m=(if m%2=1 then s else 1)*(s*s)^(m/2):=by
 have e:(s*s)^(m/2)=s^(2*(m/2)):=by rw [Int.pow_mul];congr 1;rw [Int.pow_succ,Int.pow_succ,Int.pow_zero,Int.one_mul]
 rw [e]
 by_cases h:m%2=1
 ·rw [if_pos h,Int.mul_comm,← Int.pow_succ];congr 1;omega
 ·rw [if_neg h,Int.one_mul];congr 1;omega
theorem zY2 (b:Int)(n:Nat)(w:World)(hb:0<=b/\b<=18446744073709551615)(hn:n<=17000) :
  Calls Tryz.prog 25 #[.int .u64 b,.int .i64 n] w fun e w'=>∃ g k cap z,e=.returned (.slice (some ⟨g,0,none⟩) k cap)/\k<=4*n+2/\Num w' (some ⟨g,0,none⟩) k cap z/\val z k=b^n/\Below w.heap.size w w':=by
 have hN1:=zLc w 1 (by decide)
 have hB1:=zEa w (.cells #[.int .u64 1] 22)
 have hN2:=zLc (w.alloc (.cells #[.int .u64 1] 22)) b hb
 have hB2:=zEa (w.alloc (.cells #[.int .u64 1] 22)) (.cells #[.int .u64 b] 22)
 have hN1':=hN1.next hB2
 have hB:=hB1.trans (hB2.mono hB1.size)
 have hs:(w.alloc (.cells #[.int .u64 1] 22)).heap.size=w.heap.size+1:=by simp
 rw [hs] at hN2
 have HB:Hid (Below w.heap.size w ((w.alloc (.cells #[.int .u64 1] 22)).alloc (.cells #[.int .u64 b] 22))):=hB
 clear hN1 hB1 hB2 hB hs
 go_enter Tryz.func25,Tryz.ntmps25
 go_wp2
 generalize (w.alloc (.cells #[.int .u64 1] 22)).alloc (.cells #[.int .u64 b] 22)=wA at *
 go_loopw [1,5,6] (fun nv ov sv wr=>∃ (m P g1 k1 p1 g2 k2 p2:Nat) (z1 z2:Nat->Int),nv=.int .i64 m/\m<=n/\1<=P/\m*P<=n/\P<=2*n+1/\ov=.slice (some ⟨g1,0,none⟩) k1 p1/\sv=.slice (some ⟨g2,0,none⟩) k2 p2/\k1+1<=2*P/\k2+1<=2*P/\Num wr (some ⟨g1,0,none⟩) k1 p1 z1/\Num wr (some ⟨g2,0,none⟩) k2 p2 z2/\Hid (val z1 k1*val z2 k2^m=b^n)/\Below w.heap.size w wr) (fun nv _ _ _=>(intOf nv).toNat)
 case atStart=>exact ⟨n,1,w.heap.size,1,1,w.heap.size+1,1,1,zOc 1,zOc b,rfl,Nat.le_refl _,Nat.le_refl _,by omega,by omega,rfl,rfl,by omega,by omega,hN1',hN2,by show _=_;rw [zUf,zUf,Int.one_mul],HB.out⟩
 case round =>
  clear hN1' hN2 HB
  obtain ⟨m,P,g1,k1,p1,g2,k2,p2,z1,z2,rfl,hmn,hP,hmP,hP2,rfl,rfl,hk1,hk2,hN1,hN2,hv,hB⟩:=hrel
  by_cases h0:m=0
  ·subst h0
   have HV:Hid (val z1 k1=b^n):=by show _=_;have:=hv.out;simpa using this
   have HN1:Hid (Num wr (some ⟨g1,0,none⟩) k1 p1 z1):=hN1
   clear hN1 hN2 hv
   go_wp2
   go_ret
   exact ⟨g1,k1,p1,z1,rfl,by omega,HN1.out,HV.out,hB⟩
  ·have hm0:(0:Int)<m:=by omega
   have hPn:P<=n:=by
    have:1*P<=m*P:=Nat.mul_le_mul_right P (by omega)
    omega
   have hq2:(m:Int)/2=((m/2:Nat):Int):=by omega
   have hr2:(m:Int)%2=((m%2:Nat):Int):=by omega
   have hmP':m/2*(2*P)<=n:=by
    have h1:m/2*2<=m:=Nat.div_mul_le_self m 2
    have h2:m/2*2*P<=m*P:=Nat.mul_le_mul_right P h1
    rw [← Nat.mul_assoc];omega
   have HPH:Hid (val z2 k2^m=(if m%2=1 then val z2 k2 else 1)*(val z2 k2*val z2 k2)^(m/2)):=zM3 _ _
   have tt:=fun wr (hb:Below w.heap.size w wr) h1 h2=>zTn g1 0 k1 p1 g2 0 k2 p2 z1 z2 wr (by omega) (by omega) h1 h2
   have ts:=fun wr (hb:Below w.heap.size w wr) h2=>zTn g2 0 k2 p2 g2 0 k2 p2 z2 z2 wr (by omega) (by omega) h2 h2
   generalize hq:m/2=q at *
   by_cases hodd:m%2=1
   ·rw [hodd] at hr2
    rw [if_pos hodd] at HPH
    have t1:=tt wr hB hN1 hN2
    by_cases hq0:q=0
    ·subst hq0
     have hq00:(m:Int)/2=0:=hq2
     clear hq2
     go_wp2_with (go_at_call 24;refine t1.mono ?_;rintro e w1 ⟨g3,k3,p3,z3,rfl,hk3,hN3,hv3,hb1⟩;clear tt t1)
     have HV3:Hid (val z3 k3*val z2 k2^0=b^n):=by
      show _=_
      rw [hv3,← hv.out,HPH.out];simp
     have HN3:Hid (Num w1 (some ⟨g3,0,none⟩) k3 p3 z3):=hN3
     have HN2:Hid (Num w1 (some ⟨g2,0,none⟩) k2 p2 z2):=hN2.next hb1
     have hB1:=hB.trans (hb1.mono hB.size)
     clear hN1 hN2 hN3 hv hv3 ts
     go_roundw
     case rel=>exact ⟨0,2*P,g3,k3,p3,g2,k2,p2,z3,z2,rfl,by omega,by omega,by omega,by omega,rfl,rfl,by omega,by omega,HN3.out,HN2.out,HV3,hB1⟩
     case measure=>simp [intOf];omega
    ·have hq0':(0:Int)<q:=by omega
     go_wp2_with (go_at_call 24;refine t1.mono ?_;rintro e w1 ⟨g3,k3,p3,z3,rfl,hk3,hN3,hv3,hb1⟩;clear tt t1)
     have hB1:=hB.trans (hb1.mono hB.size)
     have hN21:=hN2.next hb1
     have t2:=ts w1 hB1 hN21
     go_wp2_with (go_at_call 24;refine t2.mono ?_;rintro e w2 ⟨g4,k4,p4,z4,rfl,hk4,hN4,hv4,hb2⟩;clear ts t2)
     have HV3:Hid (val z3 k3*val z4 k4^q=b^n):=by
      show _=_
      rw [hv3,hv4,← hv.out,HPH.out,Int.mul_assoc]
     have HN3:Hid (Num w2 (some ⟨g3,0,none⟩) k3 p3 z3):=hN3.next hb2
     have HN4:Hid (Num w2 (some ⟨g4,0,none⟩) k4 p4 z4):=hN4
     have hB2:=hB1.trans (hb2.mono hB1.size)
     clear hN1 hN2 hN3 hN21 hN4 hv hv3 hv4
     go_roundw
     case rel=>exact ⟨q,2*P,g3,k3,p3,g4,k4,p4,z3,z4,rfl,by omega,by omega,by omega,by omega,rfl,rfl,by omega,by omega,HN3.out,HN4.out,HV3,hB2⟩
     case measure=>simp [intOf];omega
   ·have h20:m%2=0:=by omega
    rw [h20] at hr2
    rw [if_neg hodd,Int.one_mul] at HPH
    have hq0':(0:Int)<q:=by omega
    have t2:=ts wr hB hN2
    go_wp2_with (go_at_call 24;refine t2.mono ?_;rintro e w2 ⟨g4,k4,p4,z4,rfl,hk4,hN4,hv4,hb2⟩;clear ts tt t2)
    have HV3:Hid (val z1 k1*val z4 k4^q=b^n):=by
     show _=_
     rw [hv4,← hv.out,HPH.out]
    have HN3:Hid (Num w2 (some ⟨g1,0,none⟩) k1 p1 z1):=hN1.next hb2
    have HN4:Hid (Num w2 (some ⟨g4,0,none⟩) k4 p4 z4):=hN4
    have hB2:=hB.trans (hb2.mono hB.size)
    clear hN1 hN2 hN4 hv hv4
    go_roundw
    case rel=>exact ⟨q,2*P,g1,k1,p1,g4,k4,p4,z1,z4,rfl,by omega,by omega,by omega,by omega,rfl,rfl,by omega,by omega,HN3.out,HN4.out,HV3,hB2⟩
    case measure=>simp [intOf];omega
theorem zHj (n:Nat):(0:Int)<10^n:=Int.pow_pos (by decide)
theorem zXq:∀ t,val (fun _=>18446744073709551615) t=18446744073709551616^t-1
 | 0=>by simp [val]
 | t+1=>by
  show val (fun _=>18446744073709551615) t+18446744073709551615*18446744073709551616^t=18446744073709551616^(t+1)-1
  rw [zXq t,Int.pow_succ];omega
theorem zCi {z:Nat->Int}(hz:zFa z){k t:Nat}(hs:sizeL z k=k)(hv:val z k<18446744073709551616^t):k<=t:=by
 rcases Nat.lt_or_ge t k with h|h
 ·have:=zQc (x:=fun _=>18446744073709551615) (fun _=>(by decide:(0:Int)<=18446744073709551615/\(18446744073709551615:Int)<=18446744073709551615)) hz h hs
  rw [zXq] at this;omega
 ·exact h
theorem p19:∀ t:Nat,(10:Int)^(19*t)<=18446744073709551616^t
 | 0=>by simp
 | t+1=>by
  have ih:=p19 t
  have e:(10:Int)^(19*(t+1))=10^(19*t)*10000000000000000000:=by rw [Nat.mul_add,Int.pow_add];rfl
  rw [e,Int.pow_succ]
  have h0:=zXb t
  have h1:=zHj (19*t)
  generalize (18446744073709551616:Int)^t=A at *
  generalize (10:Int)^(19*t)=B at *
  omega
theorem zLr {b:Int}(hb:0<=b)(hb2:b<=10):∀ e:Nat,0<=b^e/\b^e<=10^e
 | 0=>by simp
 | e+1=>by
  have ih:=zLr hb hb2 e
  rw [Int.pow_succ,Int.pow_succ]
  exact ⟨Int.mul_nonneg ih.1 hb,Int.mul_le_mul ih.2 hb2 hb (Int.le_of_lt (zHj e))⟩
theorem zPx {b:Int}(hb:0<=b)(hb2:b<=10){e:Nat}(he:e<=12000):b^e<18446744073709551616^632:=by
 have h1:=(zLr hb hb2 e).2
 have h2:=p19 632
 have h3:(10:Int)^e<10^(19*632):=by
  obtain ⟨k,hk⟩:∃ k,19*632=e+1+k:=⟨19*632-(e+1),by omega⟩
  rw [hk,Int.pow_add,Int.pow_succ]
  have:=zHj e
  have h4:=zHj k
  have h5:(10:Int)^e*10*1<=10^e*10*10^k:=Int.mul_le_mul_of_nonneg_left (by omega) (by omega)
  omega
 exact Int.lt_of_lt_of_le (Int.lt_of_le_of_lt h1 h3) h2
theorem zZ3 (b:Int)(n:Nat)(w:World)(hb:b=5∨b=10)(hn:n<=12000) :
  Calls Tryz.prog 195 #[.int .i64 b,.int .i64 n] w fun e w'=>∃ g k cap z,e=.returned (.tuple #[.slice (some ⟨g,0,none⟩) k cap,.int .i64 0])/\k<=2001/\Num w' (some ⟨g,0,none⟩) k cap z/\val z k=b^n/\sizeL z k=k/\Below w.heap.size w w':=by
 have hb0:0<=b/\b<=10:=by omega
 have hbc:b=5∨b=10:=hb
 have hb2:(b==2)=false:=by simp;omega
 have hN1:=zLc w 1 (by decide)
 have hBB:=zEa w (.cells #[.int .u64 1] 22)
 have hn':(n:Int)<=12000:=by omega
 have hlen:=Tryz.bits_Len n (w.alloc (.cells #[.int .u64 1] 22)) (by omega) (by omega)
 rw [Int.toNat_natCast] at hlen
 obtain ⟨L,hL⟩:∃ L,Lib.bitLen n=L:=⟨_,rfl⟩
 have hL64:L<=64:=by rw [← hL];exact zXc n
 have HLn:Hid (n/2^L=0):=by
  show _=_
  by_cases h0:n=0
  ·subst h0;simp
  ·have:=zTc n (by omega) (by omega)
   rw [hL] at this
   exact Nat.div_eq_of_lt this.2.2.2
 rw [hL] at hlen
 clear hL
 have HS1:Hid (sizeL (zOc 1) 1=1):=by show _=_;simp [sizeL,zOc]
 have hne:(b != 2)=true:=by simp;omega
 have hpick:(b != 5)=true/\(b != 10)=false∨(b != 5)=false:=by rcases hb with rfl|rfl<;>decide
 have hps:∀ e,e<=12000->b^e<18446744073709551616^632:=fun e he=>zPx hb0.1 hb0.2 he
 have HPS:Hid (∀ e,e<=12000->b^e<18446744073709551616^632):=hps
 clear hps hb
 rcases hpick with ⟨h5,h10⟩|h5
 all_goals
  go_enter Tryz.func195,Tryz.ntmps195
  go_wp2_with (go_at_call 218;refine hlen.mono ?_;rintro e w' ⟨rfl,rfl⟩)
  generalize w.alloc (.cells #[.int .u64 1] 22)=wA at *
  go_loopw [6,7,40,51] (fun pv iv u40 u51 wr=>∃ (k kk g p:Nat) (z:Nat->Int),k<=L/\iv=.int .i64 ((k:Int)-1)/\pv=.slice (some ⟨g,0,none⟩) kk p/\kk<=632/\Num wr (some ⟨g,0,none⟩) kk p z/\sizeL z kk=kk/\Hid (val z kk=b^(n/2^k))/\Below w.heap.size w wr) (fun _ iv _ _ _=>(intOf iv+1).toNat)
  case atStart=>exact ⟨L,1,w.heap.size,1,zOc 1,Nat.le_refl _,by go_num,rfl,by omega,hN1,HS1.out,by show _=_;rw [zUf,HLn.out,Int.pow_zero],hBB⟩
  case round =>
   clear hN1 hBB hlen
   obtain ⟨k,kk,g,p,z,hk,rfl,rfl,hkk,hN,hs,hv,hB⟩:=hrel
   by_cases h0:k=0
   ·subst h0
    have HV:Hid (val z kk=b^n):=by show _=_;have:=hv.out;simpa using this
    have HN:Hid (Num wr (some ⟨g,0,none⟩) kk p z):=hN
    have HS:Hid (sizeL z kk=kk):=hs
    clear hN hv hs
    go_wp2
    go_ret2
    exact ⟨g,kk,p,z,rfl,by omega,HN.out,HV.out,HS.out,hB⟩
   ·obtain ⟨j,rfl⟩:∃ j,k=j+1:=⟨k-1,by omega⟩
    have ej:((j+1:Nat):Int)-1=j:=by omega
    rw [ej]
    obtain ⟨e,he⟩:∃ e,n/2^j=e:=⟨_,rfl⟩
    have hcast:(n:Int)/2^j=(e:Int):=by rw [← he,Int.natCast_ediv,zPb]
    have hen:e<=n:=by rw [← he];exact Nat.div_le_self _ _
    have hand:=Go.Proofs.and_one e (by omega)
    have hhalf:n/2^(j+1)=e/2:=by rw [Nat.pow_succ,← Nat.div_div_eq_div_mul,he]
    have m1:=zOm (some ⟨g,0,none⟩) (some ⟨g,0,none⟩) kk p kk p z z wr (by omega) (by omega) hN hN (by omega)
    have HV1:Hid (val z kk*val z kk=b^(2*(e/2))):=by
     show _=_
     rw [hv.out,hhalf,← Int.pow_add];congr 1;omega
    have HJ:Hid (j<=L):=by show _<=_;omega
    have HE:Hid (n/2^j=e):=he
    clear ej he hhalf hN hs hv
    by_cases hodd:e%2=1
    ·rw [hodd] at hand
     go_wp2_with (go_at_call 189;refine m1.mono ?_;rintro e' w1 ⟨g1,k1,p1,z1,rfl,hk1,hN1,hv1,hs1,hb1⟩;clear m1)
     rw [HV1.out] at hv1
     have hk1b:k1<=632:=zCi hN1.2.2.1 hs1 (by rw [hv1];exact HPS.out _ (by omega))
     have hB1:=hB.trans (hb1.mono hB.size)
     have hNb:=zLc w1 b (by omega)
     have hbb:=zEa w1 (.cells #[.int .u64 b] 22)
     have hsb:=zGa (zOc b) 1
     have m2:=zOm (some ⟨g1,0,none⟩) (some ⟨w1.heap.size,0,none⟩) k1 p1 1 1 z1 (zOc b) (w1.alloc (.cells #[.int .u64 b] 22)) (by omega) (by omega) (hN1.next hbb) hNb (by omega)
     have HBB:Hid (Below w.heap.size w (w1.alloc (.cells #[.int .u64 b] 22))):=hB1.trans (hbb.mono hB1.size)
     clear hN1 hNb hbb
     go_wp2_with (go_at_call 189;refine m2.mono ?_;rintro e' w2 ⟨g2,k2,p2,z2,rfl,hk2,hN2,hv2,hs2,hb2⟩;clear m2)
     have hv3:val z2 k2=b^e:=by
      rw [hv2,hv1,zUf,← Int.pow_succ];congr 1;omega
     have hk2b:k2<=632:=zCi hN2.2.2.1 hs2 (by rw [hv3];exact HPS.out _ (by omega))
     have hB2:=HBB.out.trans (hb2.mono HBB.out.size)
     have HN2:Hid (Num w2 (some ⟨g2,0,none⟩) k2 p2 z2):=hN2
     clear hN2
     go_roundw
     case rel=>exact ⟨j,k2,g2,p2,z2,HJ.out,by go_num,rfl,hk2b,HN2.out,hs2,by show _=_;rw [HE.out,hv3],hB2⟩
     case measure=>simp [intOf]
    ·have he0:e%2=0:=by omega
     rw [he0] at hand
     go_wp2_with (go_at_call 189;refine m1.mono ?_;rintro e' w1 ⟨g1,k1,p1,z1,rfl,hk1,hN1,hv1,hs1,hb1⟩;clear m1)
     have hv3:val z1 k1=b^e:=by
      rw [hv1,HV1.out];congr 1;omega
     have hk1b:k1<=632:=zCi hN1.2.2.1 hs1 (by rw [hv3];exact HPS.out _ (by omega))
     have hB1:=hB.trans (hb1.mono hB.size)
     have HN1:Hid (Num w1 (some ⟨g1,0,none⟩) k1 p1 z1):=hN1
     clear hN1
     go_roundw
     case rel=>exact ⟨j,k1,g1,p1,z1,HJ.out,by go_num,rfl,hk1b,HN1.out,hs1,by show _=_;rw [HE.out,hv3],hB1⟩
     case measure=>simp [intOf]
section
theorem zQo (w:World):Num (w.alloc (.cells #[] 22)) (some ⟨w.heap.size,0,none⟩) 0 0 (fun _=>0) :=
 ⟨Nat.le_refl _,by unfold maxLen;omega,fun _=>(by decide:(0:Int)<=0/\(0:Int)<=18446744073709551615),fun _ _=>rfl,Or.inr ⟨_,0,rfl,by simp,fun i hi=>by omega⟩⟩
set_option maxRecDepth 20000 in
theorem zTt (s:ByteArray)(w:World)(hd:zHe s=true)(hl:s.size<=12000) :
  Calls Tryz.prog 23 #[.string s] w fun e w'=>∃ g k cap z,e=.returned (.slice (some ⟨g,0,none⟩) k cap)/\k<=36000/\Num w' (some ⟨g,0,none⟩) k cap z/\val z k=numV s s.size/\Below w.heap.size w w'/\sizeL z k=k:=by
 have hl':(s.size:Int)<=12000:=by omega
 have hdig:∀ k,k<s.size->48<=sb s k/\sb s k<=57:=by
  unfold zHe at hd;simp at hd;exact zHk s.size hd.1
 have HDG:Hid (∀ k,k<s.size->48<=sb s k/\sb s k<=57):=hdig
 have HN0:=zQo w
 have HB0:=zEa w (.cells #[] 22)
 clear hd hdig
 go_enter Tryz.func23,Tryz.ntmps23
 go_wp2
 generalize w.alloc (.cells #[] 22)=wA at *
 go_loopw [3,4,5,6] (fun t3 t4 u5 u6 wr=>∃ (p n c g:Nat) (z:Nat->Int),p<=s.size/\t3=.slice (some ⟨g,0,none⟩) n c/\t4=.int .i64 p/\n<=3*p/\Num wr (some ⟨g,0,none⟩) n c z/\val z n=numV s p/\Hid (sizeL z n=n)/\Below w.heap.size w wr) (fun _ i _ _ _=>s.size-(intOf i).toNat)
 case atStart=>exact ⟨0,0,0,_,fun _=>0,Nat.zero_le _,rfl,rfl,Nat.le_refl _,HN0,rfl,(show sizeL _ 0=0 from rfl),HB0⟩
 case round =>
  clear HN0 HB0
  obtain ⟨p,n,c,g,z,hp,rfl,rfl,hnp,hN,hv,hts,hB⟩:=hrel
  by_cases hlt:p<s.size
  ·have hpi:(p:Int)<s.size:=by omega
   have HN:Hid (Num wr (some ⟨g,0,none⟩) n c z):=hN
   have HV:Hid (val z n=numV s p):=hv
   have HB:Hid (Below w.heap.size w wr):=hB
   clear hN hv hB
   go_wp2
   go_loop [4,5,6] (fun t4 t5 t6=>∃ (q:Nat) (S b:Int),p+q<=s.size/\q<=18/\t4=.int .i64 ((p+q:Nat):Int)/\t5=.int .u64 b/\t6=.int .u64 S/\Hid (S=10^q/\numV s (p+q)=numV s p*S+b)/\0<=b/\b<S) (fun i _ _=>s.size-(intOf i).toNat)
   case atStart=>exact ⟨0,1,0,by omega,by omega,rfl,rfl,rfl,⟨by simp,by simp⟩,by decide,by decide⟩
   case round =>
    obtain ⟨q,S,b,hpq,hq,rfl,rfl,rfl,hSb,hb0,hbS⟩:=hrel
    have hS18:S<=1000000000000000000:=by
     have:=zNr hq
     rw [← hSb.out.1] at this
     exact this
    by_cases hgo:p+q<s.size/\q<18
    ·obtain ⟨hgo1,hgo2⟩:=hgo
     have hki:((p+q:Nat):Int)<s.size:=by omega
     have hS17:S<=100000000000000000:=by
      have:=zNr (show q<=17 by omega)
      rw [← hSb.out.1] at this
      exact this
     have hsb:=zF9 hgo1
     have hbd:=HDG.out (p+q) hgo1
     have HSB:Hid (10*S=10^(q+1)/\numV s (p+(q+1))=numV s p*(10*S)+(10*b+(sb s (p+q)-48))):=by
      show _/\_
      obtain ⟨e1,e2⟩:=hSb.out
      refine ⟨by rw [e1,Int.pow_succ];omega,?_⟩
      rw [← Nat.add_assoc]
      simp only [numV]
      rw [e2];grind
     have HPQ:Hid ((p+q:Nat)+1=p+(q+1)):=rfl
     clear hSb
     generalize p+q=r at *
     go_wp2
     go_round
     case rel=>exact ⟨q+1,10*S,10*b+(sb s r-48),by have:=HPQ.out;omega,by omega,by rw [← HPQ.out];go_num,by go_num,by go_num,HSB.out,by omega,by omega⟩
     case measure=>simp [intOf];omega
    ·have hstop:((p+q:Nat):Int)<s.size->S=1000000000000000000:=fun h=>by
      have:q=18:=by omega
      rw [hSb.out.1,this];rfl
     have hq0:0<q:=by omega
     have hN1:=zLc wr S (by omega)
     have hT:=zUn g 0 n c wr.heap.size 0 1 1 z (zOc S) (wr.alloc (.cells #[.int .u64 S] 22)) (by omega) (by omega) (HN.out.next (zEa wr _)) hN1
     have HB1:Hid (Below w.heap.size w (wr.alloc (.cells #[.int .u64 S] 22))):=HB.out.trans ((zEa wr _).mono HB.out.size)
     have HSV:Hid (numV s (p+q)=val z n*S+b):=by show _=_;rw [hSb.out.2,HV.out]
     have HQ:Hid (0<q/\q<=18):=⟨hq0,hq⟩
     have hpr:p<p+q:=by omega
     have hnr:n+3<=3*(p+q):=by omega
     have hA:=fun (w1:World) (g1 k1 c1:Nat) (z1:Nat->Int) (hk1:k1<=n+1+1) (h1:Num w1 (some ⟨g1,0,none⟩) k1 c1 z1)=>yKa (some ⟨g1,0,none⟩) (some ⟨w1.heap.size,0,none⟩) k1 c1 1 1 z1 (zOc b) (w1.alloc (.cells #[.int .u64 b] 22)) (by omega) (by omega) (h1.next (zEa w1 _)) (zLc w1 b (by omega))
     clear hSb hgo hN1 hq hq0
     generalize p+q=r at *
     by_cases hrs:r<s.size
     ·have hri:(r:Int)<s.size:=by omega
      have hS:=hstop hri
      subst hS
      go_wp2_with (first|(go_at_call 24;refine hT.mono ?_;rintro e w1 ⟨g1,k1,c1,z1,rfl,hk1,hN1,hv1,hB1⟩;clear hT;have hA1:=hA w1 g1 k1 c1 z1 (by omega) hN1;clear hA)|(go_at_call 48;refine hA1.mono ?_;rintro e w2 ⟨g2,k2,c2,z2,rfl,hk2,hN2,hv2,hB2,ht2⟩;clear hA1;have HT2:Hid (sizeL z2 k2=k2):=ht2;clear ht2))
      go_roundw
      case rel =>
       refine ⟨r,k2,c2,g2,z2,hpq,rfl,rfl,by omega,hN2,?_,HT2,?_⟩
       ·rw [hv2,HSV.out,zYh _ 1 (by omega),← zMa hN1.2.2.2.1 (n+1+1) hk1,hv1,zYh _ 1 (by omega)]
       ·have b1:=HB1.out.trans (hB1.mono HB1.out.size)
        have b2:=b1.trans ((zEa w1 (.cells #[.int .u64 b] 22)).mono b1.size)
        exact b2.trans (hB2.mono b2.size)
      case measure=>simp [intOf];omega
     ·obtain rfl:r=s.size:=by omega
      clear hstop
      go_wp2_with (first|(go_at_call 24;refine hT.mono ?_;rintro e w1 ⟨g1,k1,c1,z1,rfl,hk1,hN1,hv1,hB1⟩;clear hT;have hA1:=hA w1 g1 k1 c1 z1 (by omega) hN1;clear hA)|(go_at_call 48;refine hA1.mono ?_;rintro e w2 ⟨g2,k2,c2,z2,rfl,hk2,hN2,hv2,hB2,ht2⟩;clear hA1;have HT2:Hid (sizeL z2 k2=k2):=ht2;clear ht2))
      go_roundw
      case rel =>
       refine ⟨s.size,k2,c2,g2,z2,Nat.le_refl _,rfl,rfl,by omega,hN2,?_,HT2,?_⟩
       ·rw [hv2,HSV.out,zYh _ 1 (by omega),← zMa hN1.2.2.2.1 (n+1+1) hk1,hv1,zYh _ 1 (by omega)]
       ·have b1:=HB1.out.trans (hB1.mono HB1.out.size)
        have b2:=b1.trans ((zEa w1 (.cells #[.int .u64 b] 22)).mono b1.size)
        exact b2.trans (hB2.mono b2.size)
      case measure=>simp [intOf];omega
  ·obtain rfl:p=s.size:=by omega
   have HN:Hid (Num wr (some ⟨g,0,none⟩) n c z):=hN
   have HV:Hid (val z n=numV s s.size):=hv
   have HB:Hid (Below w.heap.size w wr):=hB
   clear hN hv hB
   go_wp2
   go_ret
   exact ⟨g,n,c,z,rfl,by omega,HN.out,HV.out,HB.out,hts.out⟩
end
end Go.Proofs.YtpabnhlfbjkmaaaGreatDoor
