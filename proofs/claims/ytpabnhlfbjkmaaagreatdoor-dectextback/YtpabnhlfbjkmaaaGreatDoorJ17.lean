/-
  Texts that the proof leans on, joined: Npw, Npo, Nrd, Lift, Lfw.
-/
import Derived.Test.YtpabnhlfbjkmaaaGreatDoorJ13
import Derived.Lib.RabinKarpLaws
import Derived.Test.YtpabnhlfbjkmaaaGreatDoorJ14
import Derived.ProofKit
import Derived.OpenShut
import Derived.Carry
import Derived.Deep.DeepHandedRow
import Derived.Test.YtpabnhlfbjkmaaaGreatDoorJ7
import Derived.Test.YtpabnhlfbjkmaaaGreatDoorJ4
set_option maxHeartbeats 8000000
set_option linter.unusedVariables false
set_option linter.unusedSimpArgs false
set_option linter.unusedSectionVars false
set_option maxRecDepth 20000
namespace Go.Proofs.YtpabnhlfbjkmaaaGreatDoor
open Go.RowKit
theorem val_one1 (c:Int):val (oneW c) 1=c:=by simp [val,oneW]
theorem pow_half (s:Int) (m:Nat):s^m=(if m%2=1 then s else 1)*(s*s)^(m/2):=by
 have e:(s*s)^(m/2)=s^(2*(m/2)):=by rw [Int.pow_mul];congr 1;rw [Int.pow_succ,Int.pow_succ,Int.pow_zero,Int.one_mul]
 rw [e]
 by_cases h:m%2=1
 ·rw [if_pos h,Int.mul_comm,← Int.pow_succ];congr 1;omega
 ·rw [if_neg h,Int.one_mul];congr 1;omega
theorem rpow_any (b:Int) (n:Nat) (w:World) (hb:0<=b/\b<=18446744073709551615) (hn:n<=17000) :
  Calls Tryz.prog 25 #[.int .u64 b,.int .i64 n] w fun e w'=>∃ g k cap z,e=.returned (.slice (some ⟨g,0,none⟩) k cap)/\k<=4*n+2/\Num w' (some ⟨g,0,none⟩) k cap z/\val z k=b^n/\Below w.heap.size w w':=by
 have hN1:=num_one w 1 (by decide)
 have hB1:=below1 w (.cells #[.int .u64 1] 22)
 have hN2:=num_one (w.alloc (.cells #[.int .u64 1] 22)) b hb
 have hB2:=below1 (w.alloc (.cells #[.int .u64 1] 22)) (.cells #[.int .u64 b] 22)
 have hN1':=hN1.next hB2
 have hB:=hB1.trans (hB2.mono hB1.size)
 have hs:(w.alloc (.cells #[.int .u64 1] 22)).heap.size=w.heap.size+1:=by simp
 rw [hs] at hN2
 have HB:Hid (Below w.heap.size w ((w.alloc (.cells #[.int .u64 1] 22)).alloc (.cells #[.int .u64 b] 22))):=hB
 clear hN1 hB1 hB2 hB hs
 go_enter Tryz.func25,Tryz.ntmps25
 go_wp2
 generalize (w.alloc (.cells #[.int .u64 1] 22)).alloc (.cells #[.int .u64 b] 22)=wA at *
 go_loopw [1,5,6] (fun nv ov sv wr=>∃ (m P g1 k1 p1 g2 k2 p2:Nat) (z1 z2:Nat->Int),nv=.int .i64 m/\m<=n/\1<=P/\m*P<=n/\P<=2*n+1/\ov=.slice (some ⟨g1,0,none⟩) k1 p1/\sv=.slice (some ⟨g2,0,none⟩) k2 p2/\k1+1<=2*P/\k2+1<=2*P/\Num wr (some ⟨g1,0,none⟩) k1 p1 z1/\Num wr (some ⟨g2,0,none⟩) k2 p2 z2/\Hid (val z1 k1*val z2 k2^m=b^n)/\Below w.heap.size w wr) (fun nv _ _ _=>(intOf nv).toNat)
 case atStart=>exact ⟨n,1,w.heap.size,1,1,w.heap.size+1,1,1,oneW 1,oneW b,rfl,Nat.le_refl _,Nat.le_refl _,by omega,by omega,rfl,rfl,by omega,by omega,hN1',hN2,by show _=_;rw [val_one1,val_one1,Int.one_mul],HB.out⟩
 case round =>
  clear hN1' hN2 HB
  obtain ⟨m,P,g1,k1,p1,g2,k2,p2,z1,z2,rfl,hmn,hP,hmP,hP2,rfl,rfl,hk1,hk2,hN1,hN2,hv,hB⟩:=hrel
  by_cases h0:m=0
  ·subst h0
   have HV:Hid (val z1 k1=b^n):=by show _=_;have:=hv.out;simpa using this
   have HN1:Hid (Num wr (some ⟨g1,0,none⟩) k1 p1 z1):=hN1
   clear hN1 hN2 hv
   go_wp2
   go_ret
   exact ⟨g1,k1,p1,z1,rfl,by omega,HN1.out,HV.out,hB⟩
  ·have hm0:(0:Int)<m:=by omega
   have hPn:P<=n:=by
    have:1*P<=m*P:=Nat.mul_le_mul_right P (by omega)
    omega
   have hq2:(m:Int)/2=((m/2:Nat):Int):=by omega
   have hr2:(m:Int)%2=((m%2:Nat):Int):=by omega
   have hmP':m/2*(2*P)<=n:=by
    have h1:m/2*2<=m:=Nat.div_mul_le_self m 2
    have h2:m/2*2*P<=m*P:=Nat.mul_le_mul_right P h1
    rw [← Nat.mul_assoc];omega
   have HPH:Hid (val z2 k2^m=(if m%2=1 then val z2 k2 else 1)*(val z2 k2*val z2 k2)^(m/2)):=pow_half _ _
   have tt:=fun wr (hb:Below w.heap.size w wr) h1 h2=>times_val g1 0 k1 p1 g2 0 k2 p2 z1 z2 wr (by omega) (by omega) h1 h2
   have ts:=fun wr (hb:Below w.heap.size w wr) h2=>times_val g2 0 k2 p2 g2 0 k2 p2 z2 z2 wr (by omega) (by omega) h2 h2
   generalize hq:m/2=q at *
   by_cases hodd:m%2=1
   ·rw [hodd] at hr2
    rw [if_pos hodd] at HPH
    have t1:=tt wr hB hN1 hN2
    by_cases hq0:q=0
    ·subst hq0
     have hq00:(m:Int)/2=0:=hq2
     clear hq2
     go_wp2_with (go_at_call 24;refine t1.mono ?_;rintro e w1 ⟨g3,k3,p3,z3,rfl,hk3,hN3,hv3,hb1⟩;clear tt t1)
     have HV3:Hid (val z3 k3*val z2 k2^0=b^n):=by
      show _=_
      rw [hv3,← hv.out,HPH.out];simp
     have HN3:Hid (Num w1 (some ⟨g3,0,none⟩) k3 p3 z3):=hN3
     have HN2:Hid (Num w1 (some ⟨g2,0,none⟩) k2 p2 z2):=hN2.next hb1
     have hB1:=hB.trans (hb1.mono hB.size)
     clear hN1 hN2 hN3 hv hv3 ts
     go_roundw
     case rel=>exact ⟨0,2*P,g3,k3,p3,g2,k2,p2,z3,z2,rfl,by omega,by omega,by omega,by omega,rfl,rfl,by omega,by omega,HN3.out,HN2.out,HV3,hB1⟩
     case measure=>simp [intOf];omega
    ·have hq0':(0:Int)<q:=by omega
     go_wp2_with (go_at_call 24;refine t1.mono ?_;rintro e w1 ⟨g3,k3,p3,z3,rfl,hk3,hN3,hv3,hb1⟩;clear tt t1)
     have hB1:=hB.trans (hb1.mono hB.size)
     have hN21:=hN2.next hb1
     have t2:=ts w1 hB1 hN21
     go_wp2_with (go_at_call 24;refine t2.mono ?_;rintro e w2 ⟨g4,k4,p4,z4,rfl,hk4,hN4,hv4,hb2⟩;clear ts t2)
     have HV3:Hid (val z3 k3*val z4 k4^q=b^n):=by
      show _=_
      rw [hv3,hv4,← hv.out,HPH.out,Int.mul_assoc]
     have HN3:Hid (Num w2 (some ⟨g3,0,none⟩) k3 p3 z3):=hN3.next hb2
     have HN4:Hid (Num w2 (some ⟨g4,0,none⟩) k4 p4 z4):=hN4
     have hB2:=hB1.trans (hb2.mono hB1.size)
     clear hN1 hN2 hN3 hN21 hN4 hv hv3 hv4
     go_roundw
     case rel=>exact ⟨q,2*P,g3,k3,p3,g4,k4,p4,z3,z4,rfl,by omega,by omega,by omega,by omega,rfl,rfl,by omega,by omega,HN3.out,HN4.out,HV3,hB2⟩
     case measure=>simp [intOf];omega
   ·have h20:m%2=0:=by omega
    rw [h20] at hr2
    rw [if_neg hodd,Int.one_mul] at HPH
    have hq0':(0:Int)<q:=by omega
    have t2:=ts wr hB hN2
    go_wp2_with (go_at_call 24;refine t2.mono ?_;rintro e w2 ⟨g4,k4,p4,z4,rfl,hk4,hN4,hv4,hb2⟩;clear ts tt t2)
    have HV3:Hid (val z1 k1*val z4 k4^q=b^n):=by
     show _=_
     rw [hv4,← hv.out,HPH.out]
    have HN3:Hid (Num w2 (some ⟨g1,0,none⟩) k1 p1 z1):=hN1.next hb2
    have HN4:Hid (Num w2 (some ⟨g4,0,none⟩) k4 p4 z4):=hN4
    have hB2:=hB.trans (hb2.mono hB.size)
    clear hN1 hN2 hN4 hv hv4
    go_roundw
    case rel=>exact ⟨q,2*P,g1,k1,p1,g4,k4,p4,z1,z4,rfl,by omega,by omega,by omega,by omega,rfl,rfl,by omega,by omega,HN3.out,HN4.out,HV3,hB2⟩
    case measure=>simp [intOf];omega
theorem p10_posN (n:Nat):(0:Int)<10^n:=Int.pow_pos (by decide)
theorem val_ones:∀ t,val (fun _=>18446744073709551615) t=18446744073709551616^t-1
 | 0=>by simp [val]
 | t+1=>by
  show val (fun _=>18446744073709551615) t+18446744073709551615*18446744073709551616^t=18446744073709551616^(t+1)-1
  rw [val_ones t,Int.pow_succ];omega
theorem size_bound {z:Nat->Int} (hz:Words z) {k t:Nat} (hs:sizeL z k=k) (hv:val z k<18446744073709551616^t):k<=t:=by
 rcases Nat.lt_or_ge t k with h | h
 ·have:=val_longer (x:=fun _=>18446744073709551615) (fun _=>(by decide:(0:Int)<=18446744073709551615/\(18446744073709551615:Int)<=18446744073709551615)) hz h hs
  rw [val_ones] at this;omega
 ·exact h
theorem p19:∀ t:Nat,(10:Int)^(19*t)<=18446744073709551616^t
 | 0=>by simp
 | t+1=>by
  have ih:=p19 t
  have e:(10:Int)^(19*(t+1))=10^(19*t)*10000000000000000000:=by rw [Nat.mul_add,Int.pow_add];rfl
  rw [e,Int.pow_succ]
  have h0:=pw_pos t
  have h1:=p10_posN (19*t)
  generalize (18446744073709551616:Int)^t=A at *
  generalize (10:Int)^(19*t)=B at *
  omega
theorem pow_le10 {b:Int} (hb:0<=b) (hb2:b<=10):∀ e:Nat,0<=b^e/\b^e<=10^e
 | 0=>by simp
 | e+1=>by
  have ih:=pow_le10 hb hb2 e
  rw [Int.pow_succ,Int.pow_succ]
  exact ⟨Int.mul_nonneg ih.1 hb,Int.mul_le_mul ih.2 hb2 hb (Int.le_of_lt (p10_posN e))⟩
theorem pow_small {b:Int} (hb:0<=b) (hb2:b<=10) {e:Nat} (he:e<=12000):b^e<18446744073709551616^632:=by
 have h1:=(pow_le10 hb hb2 e).2
 have h2:=p19 632
 have h3:(10:Int)^e<10^(19*632):=by
  obtain ⟨k,hk⟩:∃ k,19*632=e+1+k:=⟨19*632-(e+1),by omega⟩
  rw [hk,Int.pow_add,Int.pow_succ]
  have:=p10_posN e
  have h4:=p10_posN k
  have h5:(10:Int)^e*10*1<=10^e*10*10^k:=Int.mul_le_mul_of_nonneg_left (by omega) (by omega)
  omega
 exact Int.lt_of_lt_of_le (Int.lt_of_le_of_lt h1 h3) h2
theorem npow_any (b:Int) (n:Nat) (w:World) (hb:b=5∨b=10) (hn:n<=12000) :
  Calls Tryz.prog 195 #[.int .i64 b,.int .i64 n] w fun e w'=>∃ g k cap z,e=.returned (.tuple #[.slice (some ⟨g,0,none⟩) k cap,.int .i64 0])/\k<=2001/\Num w' (some ⟨g,0,none⟩) k cap z/\val z k=b^n/\sizeL z k=k/\Below w.heap.size w w':=by
 have hb0:0<=b/\b<=10:=by omega
 have hbc:b=5∨b=10:=hb
 have hb2:(b == 2)=false:=by simp;omega
 have hN1:=num_one w 1 (by decide)
 have hBB:=below1 w (.cells #[.int .u64 1] 22)
 have hn':(n:Int)<=12000:=by omega
 have hlen:=Tryz.bits_Len n (w.alloc (.cells #[.int .u64 1] 22)) (by omega) (by omega)
 rw [Int.toNat_natCast] at hlen
 obtain ⟨L,hL⟩:∃ L,Lib.bitLen n=L:=⟨_,rfl⟩
 have hL64:L<=64:=by rw [← hL];exact bitLen64 n
 have HLn:Hid (n/2^L=0):=by
  show _=_
  by_cases h0:n=0
  ·subst h0;simp
  ·have:=bitLen_spec n (by omega) (by omega)
   rw [hL] at this
   exact Nat.div_eq_of_lt this.2.2.2
 rw [hL] at hlen
 clear hL
 have HS1:Hid (sizeL (oneW 1) 1=1):=by show _=_;simp [sizeL,oneW]
 have hne:(b != 2)=true:=by simp;omega
 have hpick:(b != 5)=true/\(b != 10)=false∨(b != 5)=false:=by rcases hb with rfl | rfl <;> decide
 have hps:∀ e,e<=12000->b^e<18446744073709551616^632:=fun e he=>pow_small hb0.1 hb0.2 he
 have HPS:Hid (∀ e,e<=12000->b^e<18446744073709551616^632):=hps
 clear hps hb
 rcases hpick with ⟨h5,h10⟩ | h5
 all_goals
  go_enter Tryz.func195,Tryz.ntmps195
  go_wp2_with (go_at_call 218;refine hlen.mono ?_;rintro e w' ⟨rfl,rfl⟩)
  generalize w.alloc (.cells #[.int .u64 1] 22)=wA at *
  go_loopw [6,7,40,51] (fun pv iv u40 u51 wr=>∃ (k kk g p:Nat) (z:Nat->Int),k<=L/\iv=.int .i64 ((k:Int)-1)/\pv=.slice (some ⟨g,0,none⟩) kk p/\kk<=632/\Num wr (some ⟨g,0,none⟩) kk p z/\sizeL z kk=kk/\Hid (val z kk=b^(n/2^k))/\Below w.heap.size w wr) (fun _ iv _ _ _=>(intOf iv+1).toNat)
  case atStart=>exact ⟨L,1,w.heap.size,1,oneW 1,Nat.le_refl _,by go_num,rfl,by omega,hN1,HS1.out,by show _=_;rw [val_one1,HLn.out,Int.pow_zero],hBB⟩
  case round =>
   clear hN1 hBB hlen
   obtain ⟨k,kk,g,p,z,hk,rfl,rfl,hkk,hN,hs,hv,hB⟩:=hrel
   by_cases h0:k=0
   ·subst h0
    have HV:Hid (val z kk=b^n):=by show _=_;have:=hv.out;simpa using this
    have HN:Hid (Num wr (some ⟨g,0,none⟩) kk p z):=hN
    have HS:Hid (sizeL z kk=kk):=hs
    clear hN hv hs
    go_wp2
    go_ret2
    exact ⟨g,kk,p,z,rfl,by omega,HN.out,HV.out,HS.out,hB⟩
   ·obtain ⟨j,rfl⟩:∃ j,k=j+1:=⟨k-1,by omega⟩
    have ej:((j+1:Nat):Int)-1=j:=by omega
    rw [ej]
    obtain ⟨e,he⟩:∃ e,n/2^j=e:=⟨_,rfl⟩
    have hcast:(n:Int)/2^j=(e:Int):=by rw [← he,Int.natCast_ediv,powCast]
    have hen:e<=n:=by rw [← he];exact Nat.div_le_self _ _
    have hand:=Go.Proofs.and_one e (by omega)
    have hhalf:n/2^(j+1)=e/2:=by rw [Nat.pow_succ,← Nat.div_div_eq_div_mul,he]
    have m1:=nmul_any (some ⟨g,0,none⟩) (some ⟨g,0,none⟩) kk p kk p z z wr (by omega) (by omega) hN hN (by omega)
    have HV1:Hid (val z kk*val z kk=b^(2*(e/2))):=by
     show _=_
     rw [hv.out,hhalf,← Int.pow_add];congr 1;omega
    have HJ:Hid (j<=L):=by show _<=_;omega
    have HE:Hid (n/2^j=e):=he
    clear ej he hhalf hN hs hv
    by_cases hodd:e%2=1
    ·rw [hodd] at hand
     go_wp2_with (go_at_call 189;refine m1.mono ?_;rintro e' w1 ⟨g1,k1,p1,z1,rfl,hk1,hN1,hv1,hs1,hb1⟩;clear m1)
     rw [HV1.out] at hv1
     have hk1b:k1<=632:=size_bound hN1.2.2.1 hs1 (by rw [hv1];exact HPS.out _ (by omega))
     have hB1:=hB.trans (hb1.mono hB.size)
     have hNb:=num_one w1 b (by omega)
     have hbb:=below1 w1 (.cells #[.int .u64 b] 22)
     have hsb:=sizeL_le (oneW b) 1
     have m2:=nmul_any (some ⟨g1,0,none⟩) (some ⟨w1.heap.size,0,none⟩) k1 p1 1 1 z1 (oneW b) (w1.alloc (.cells #[.int .u64 b] 22)) (by omega) (by omega) (hN1.next hbb) hNb (by omega)
     have HBB:Hid (Below w.heap.size w (w1.alloc (.cells #[.int .u64 b] 22))):=hB1.trans (hbb.mono hB1.size)
     clear hN1 hNb hbb
     go_wp2_with (go_at_call 189;refine m2.mono ?_;rintro e' w2 ⟨g2,k2,p2,z2,rfl,hk2,hN2,hv2,hs2,hb2⟩;clear m2)
     have hv3:val z2 k2=b^e:=by
      rw [hv2,hv1,val_one1,← Int.pow_succ];congr 1;omega
     have hk2b:k2<=632:=size_bound hN2.2.2.1 hs2 (by rw [hv3];exact HPS.out _ (by omega))
     have hB2:=HBB.out.trans (hb2.mono HBB.out.size)
     have HN2:Hid (Num w2 (some ⟨g2,0,none⟩) k2 p2 z2):=hN2
     clear hN2
     go_roundw
     case rel=>exact ⟨j,k2,g2,p2,z2,HJ.out,by go_num,rfl,hk2b,HN2.out,hs2,by show _=_;rw [HE.out,hv3],hB2⟩
     case measure=>simp [intOf]
    ·have he0:e%2=0:=by omega
     rw [he0] at hand
     go_wp2_with (go_at_call 189;refine m1.mono ?_;rintro e' w1 ⟨g1,k1,p1,z1,rfl,hk1,hN1,hv1,hs1,hb1⟩;clear m1)
     have hv3:val z1 k1=b^e:=by
      rw [hv1,HV1.out];congr 1;omega
     have hk1b:k1<=632:=size_bound hN1.2.2.1 hs1 (by rw [hv3];exact HPS.out _ (by omega))
     have hB1:=hB.trans (hb1.mono hB.size)
     have HN1:Hid (Num w1 (some ⟨g1,0,none⟩) k1 p1 z1):=hN1
     clear hN1
     go_roundw
     case rel=>exact ⟨j,k1,g1,p1,z1,HJ.out,by go_num,rfl,hk1b,HN1.out,hs1,by show _=_;rw [HE.out,hv3],hB1⟩
     case measure=>simp [intOf]
theorem digB_of {s:ByteArray}:∀ (n:Nat),(∀ k,k<n->48<=sb s k/\sb s k<=57)->digB s n=true
 | 0,_=>rfl
 | n+1,h=>by
  unfold digB
  rw [digB_of n fun k hk=>h k (by omega)]
  simp;exact h n (by omega)
theorem numV_app {s u:ByteArray} (p:Nat):∀ L,(∀ i,i<L->sb u i=sb s (p+i))->numV s (p+L)=numV s p*10^L+numV u L
 | 0,_=>by simp [numV]
 | L+1,h=>by
  have e:=numV_app p L fun i hi=>h i (by omega)
  rw [← Nat.add_assoc]
  simp only [numV]
  rw [e,h L (by omega),Int.pow_succ]
  grind
theorem ext_size {u:ByteArray} {a b:Nat} (hb:b<=u.size):(u.extract a b).size=b-a:=by
 rw [ByteArray.size_extract];omega
theorem ext_sb {u:ByteArray} {a b i:Nat} (hb:b<=u.size) (hi:a+i<b):sb (u.extract a b) i=sb u (a+i):=by
 unfold sb
 rw [dif_pos (show i<(u.extract a b).size by rw [ext_size hb];omega),dif_pos (show a+i<u.size by omega)]
 simp [ByteArray.getElem_extract]
theorem nread_ok (s:ByteArray) (w:World) (hd:isDigB s=true) (hl:s.size<=12000) :
  Calls Tryz.prog 127 #[.string s] w fun e w'=>∃ o k cap z,e=.returned (.tuple #[.slice o k cap,.int .i64 0])/\k<=12000/\Num w' o k cap z/\val z k=numV s s.size/\sizeL z k=k/\Below w.heap.size w w':=by
 have ha:=allDigits_any s w (by omega)
 rw [hd] at ha
 have hl':(s.size:Int)<=12000:=by omega
 have hdig:∀ k,k<s.size->48<=sb s k/\sb s k<=57:=by
  unfold isDigB at hd;simp at hd;exact digB_at s.size hd.1
 have HDG:Hid (∀ k,k<s.size->48<=sb s k/\sb s k<=57):=hdig
 clear hd hdig
 go_enter Tryz.func127,Tryz.ntmps127
 go_wp2_with (go_at_call 169;refine ha.mono ?_;rintro e w' ⟨rfl,rfl⟩)
 clear ha
 go_loopw [0,4,5] (fun t0 t4 u5 wr=>∃ (p n c:Nat) (u:ByteArray) (ao:Option Addr) (z:Nat->Int),p<=s.size/\t0=.string u/\t4=.slice ao n c/\n<=p/\u.size=s.size-p/\(∀ i,i<u.size->sb u i=sb s (p+i))/\Row w.heap.size ao n c z wr/\val z n=numV s p/\Below w.heap.size w wr) (fun t0 _ _ _=>match t0 with | .string u=>u.size | _=>0)
 case atStart=>exact ⟨0,0,0,s,none,fun _=>0,Nat.zero_le _,rfl,rfl,Nat.le_refl _,rfl,fun i _=>by rw [Nat.zero_add],⟨World.ownsRow_nil _ _ _ _,fun _=>(by decide:(0:Int)<=0/\(0:Int)<=18446744073709551615),fun _ _=>rfl,rfl,Nat.le_refl _⟩,rfl,Below.refl _ _⟩
 case round =>
  obtain ⟨p,n,c,u,ao,z,hp,rfl,rfl,hnp,hus,hub,hR,hv,hB⟩:=hrel
  by_cases h0:u.size=0
  ·have e1:p=s.size:=by omega
   have hu0:(u.size:Int)=0:=by omega
   have HN:Hid (Num wr ao n c z):=num_of_owns' hR.2.1 hR.2.2.1 hR.1
   have HV:Hid (val z n=numV s s.size):=by show _=_;rw [hv,e1]
   have HT:Hid (sizeL z n=n):=hR.2.2.2.1
   have HB:Hid (Below w.heap.size w wr):=hB
   clear hR hv hB hub
   go_wp2
   go_ret2
   exact ⟨ao,n,c,z,rfl,by omega,HN.out,HV.out,HT.out,HB.out⟩
  ·have hu0:(0:Int)<u.size:=by omega
   obtain ⟨L,hL⟩:∃ L:Nat,(if u.size<=19 then u.size else 19)=L:=⟨_,rfl⟩
   have hL1:0<L/\L<=19/\L<=u.size:=by split at hL <;> omega
   have hmin:min (u.size:Int) 19=L:=by split at hL <;> omega
   have hLu:(L:Int)<=u.size:=by omega
   have es:(u.extract 0 L).size=L:=by rw [ext_size hL1.2.2];omega
   have es2:(u.extract L u.size).size=u.size-L:=ext_size (Nat.le_refl _)
   have eb:∀ i,i<L->sb (u.extract 0 L) i=sb s (p+i):=fun i hi=>by rw [ext_sb hL1.2.2 (by omega),Nat.zero_add,hub i (by omega)]
   have eb2:Hid (∀ i,i<(u.extract L u.size).size->sb (u.extract L u.size) i=sb s (p+L+i)):=fun i hi=>by
    rw [es2] at hi
    rw [ext_sb (Nat.le_refl _) (by omega),hub (L+i) (by omega),Nat.add_assoc]
   have hap:=appendPart_any w.heap.size ao n c z (u.extract 0 L) wr (by omega) (by omega) (by rw [es];exact digB_of L fun k hk=>by rw [eb k hk];exact HDG.out (p+k) (by omega)) hR
   rw [es] at hap
   have HV:Hid (val z n*10^L+numV (u.extract 0 L) L=numV s (p+L)):=by show _=_;rw [numV_app p L eb,hv]
   have HB:Hid (Below w.heap.size w wr):=hB
   have HE2:Hid ((u.extract L u.size).size=s.size-(p+L)):=by show _=_;rw [es2];omega
   have HE3:Hid ((u.extract L u.size).size<u.size):=by show _<_;rw [es2];omega
   have hpl:p+L<=s.size:=by omega
   have hnk:n+1<=p+L:=by omega
   clear hR hv hB hub es es2 eb hL hus
   go_wp2_with (go_at_call 170;refine hap.mono ?_;rintro e w1 ⟨o1,k1,p1,z1,rfl,hk1,hR1,hv1,hB1⟩;clear hap)
   go_roundw
   case rel=>exact ⟨p+L,k1,p1,_,o1,z1,hpl,rfl,rfl,by omega,HE2.out,eb2.out,hR1,by rw [hv1,HV.out],HB.out.trans hB1⟩
   case measure=>exact HE3.out
end Go.Proofs.YtpabnhlfbjkmaaaGreatDoor

namespace Go.Proofs.YtpabnhlfbjkmaaaGreatDoor
open Go.ChangeShapes Go.WideShapes Go.ChangeAt Go.RowKit
theorem Tryz.own:ownKnob Tryz.prog.godebug=none:=by kernel_rfl
theorem Tryz.laidOut:laidOutB Tryz.prog=true:=by kernel_rfl
def tabCells:Array Value:=((List.range 12).flatMap fun i=>(List.range 4).map fun k=>rowV i k).toArray
def layCells (c:Array Value):Obj->Obj
 | .cells _ t frozen=>.cells c t frozen
 | o=>o
end Go.Proofs.YtpabnhlfbjkmaaaGreatDoor

set_option maxRecDepth 100000
set_option maxRecDepth 20000
namespace Go.Proofs.YtpabnhlfbjkmaaaGreatDoor
open Go.ChangeShapes Go.WideShapes Go.ChangeAt Go.RowKit
theorem Tryz.cells22:Tryz.prog.cellsOf 22=1:=by kernel_rfl
section
variable {H:Type} {enc:TypeId×Value->H} {W:World} {r:Reach} {base b:Nat} {sp:Nat->Bool} {held:Bool} {t:TypeId} {n:Nat} {v:Value} {d:DataW H} {p:List MemPlace}
theorem open_words (ht:Tryz.prog.underlying t=some (.array n 22)) (hc:Tryz.prog.cellsOf t=n) (hok:Value.okWide Tryz.prog W r base t v) (h:DataW.Trod enc Tryz.prog W b sp held t v d p) :
  ∃ x,Words x/\v=.agg (arrOf x n)/\p=[]:=by
 have ho:∃ cs,v=.agg cs/\cs.size=n:=by
  simp only [Value.okWide,ht] at hok
  obtain ⟨cs,h1,h2,_⟩:=hok
  exact ⟨cs,h1,by rw [h2,hc]⟩
 obtain ⟨cs,rfl,hcs⟩:=ho
 obtain ⟨fuel,hf⟩:=h
 obtain ⟨xs,m,rfl,hx,hl,hlen,hi⟩:=DataW.trod_array ht hf
 have hcell:∀ i,i<n->∃ z,cs[i]?=some (.int .u64 z)/\xs[i]?=some (.lit (.int .u64 z),[])/\(0<=z/\z<=18446744073709551615):=by
  intro i hin
  have h1:=hi i hin
  rw [Tryz.cells22] at h1
  have hix:i<xs.length:=by omega
  rw [List.getElem?_eq_getElem hix] at h1
  obtain ⟨z,hz,hxz,hw⟩:=DataW.trod_int Tryz.underlying22 h1
  refine ⟨z,?_,?_,bounds_u64 hw⟩
  ·have hic:i<cs.size:=by omega
   have:((Value.agg cs).cells.toList.drop (i*1)).take 1=[cs[i]]:=by
    simp [Value.cells,List.take_one,List.head?_drop,hic]
   rw [this] at hz
   rw [Array.getElem?_eq_getElem hic]
   simpa using hz
  ·rw [List.getElem?_eq_getElem hix,hxz]
 refine ⟨fun i=>match cs[i]? with | some (.int .u64 z)=>(if i<n then z else 0) | _=>0,?_,?_,?_⟩
 ·intro i
  by_cases hin:i<n
  ·obtain ⟨z,h1,_,h3⟩:=hcell i hin
   simp only [h1,if_pos hin];exact h3
  ·have:cs[i]?=none:=by simp;omega
   simp only [this];omega
 ·congr 1
  refine arrOf_of cs n _ hcs fun i hin=>?_
  obtain ⟨z,h1,_,_⟩:=hcell i hin
  simp only [h1,if_pos hin]
 ·have:p=xs.flatMap (·.2):=by
   have:=congrArg Prod.snd hx;simpa using this
  rw [this]
  simp only [List.flatMap_eq_nil_iff]
  intro y hy
  obtain ⟨i,hin,rfl⟩:=List.getElem_of_mem hy
  obtain ⟨z,_,h2,_⟩:=hcell i (by omega)
  rw [List.getElem?_eq_getElem hin] at h2
  rw [Option.some.inj h2]
end
end Go.Proofs.YtpabnhlfbjkmaaaGreatDoor
