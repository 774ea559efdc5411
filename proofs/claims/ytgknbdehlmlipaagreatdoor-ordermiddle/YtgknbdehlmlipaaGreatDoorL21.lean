/-
  Texts that the proof leans on.
-/
import Derived.Test.YtgknbdehlmlipaaGreatDoorL18
import Derived.Test.YtgknbdehlmlipaaGreatDoorL2
import Derived.Test.YtgknbdehlmlipaaGreatDoorL10
import Derived.Test.YtgknbdehlmlipaaGreatDoorL14
import Derived.Deep.QuietTactic
import Derived.BigQuiet
import Derived.Lib.RabinKarpLaws
set_option maxHeartbeats 8000000
set_option linter.unusedVariables false
set_option linter.unusedSimpArgs false
set_option linter.unusedSectionVars false
set_option maxRecDepth 20000
namespace Go.Proofs.YtgknbdehlmlipaaGreatDoor
open Go.RowKit
theorem val_one1 (c:Int):val (oneW c) 1=c:=by simp [val,oneW]
theorem pow_half (s:Int)(m:Nat):s^m=(if m%2=1 then s else 1)*(s*s)^(m/2):=by
 have e:(s*s)^(m/2)=s^(2*(m/2)):=by rw [Int.pow_mul];congr 1;rw [Int.pow_succ,Int.pow_succ,Int.pow_zero,Int.one_mul]
 rw [e]
 by_cases h:m%2=1
 ·rw [if_pos h,Int.mul_comm,← Int.pow_succ];congr 1;omega
 ·rw [if_neg h,Int.one_mul];congr 1;omega
theorem rpow_any (b:Int)(n:Nat)(w:World)(hb:0<=b/\b<=18446744073709551615)(hn:n<=17000) :
  Calls Tryz.prog 26 #[.int .u64 b,.int .i64 n] w fun e w'=>∃ g k cap z,e=.returned (.slice (some ⟨g,0,none⟩) k cap)/\k<=4*n+2/\Num w' (some ⟨g,0,none⟩) k cap z/\val z k=b^n/\Below w.heap.size w w':=by
 have hN1:=num_one w 1 (by decide)
 have hB1:=below1 w (.cells #[.int .u64 1] 22)
 have hN2:=num_one (w.alloc (.cells #[.int .u64 1] 22)) b hb
 have hB2:=below1 (w.alloc (.cells #[.int .u64 1] 22)) (.cells #[.int .u64 b] 22)
 have hN1':=hN1.next hB2
 have hB:=hB1.trans (hB2.mono hB1.size)
 have hs:(w.alloc (.cells #[.int .u64 1] 22)).heap.size=w.heap.size+1:=by simp
 rw [hs] at hN2
 have HB:Hid (Below w.heap.size w ((w.alloc (.cells #[.int .u64 1] 22)).alloc (.cells #[.int .u64 b] 22))):=hB
 clear hN1 hB1 hB2 hB hs
 go_enter Tryz.func26,Tryz.ntmps26
 go_wp2
 generalize (w.alloc (.cells #[.int .u64 1] 22)).alloc (.cells #[.int .u64 b] 22)=wA at *
 go_loopw [1,5,6] (fun nv ov sv wr=>∃ (m P g1 k1 p1 g2 k2 p2:Nat) (z1 z2:Nat->Int),nv=.int .i64 m/\m<=n/\1<=P/\m*P<=n/\P<=2*n+1/\ov=.slice (some ⟨g1,0,none⟩) k1 p1/\sv=.slice (some ⟨g2,0,none⟩) k2 p2/\k1+1<=2*P/\k2+1<=2*P/\Num wr (some ⟨g1,0,none⟩) k1 p1 z1/\Num wr (some ⟨g2,0,none⟩) k2 p2 z2/\Hid (val z1 k1*val z2 k2^m=b^n)/\Below w.heap.size w wr) (fun nv _ _ _=>(intOf nv).toNat)
 case atStart=>exact ⟨n,1,w.heap.size,1,1,w.heap.size+1,1,1,oneW 1,oneW b,rfl,Nat.le_refl _,Nat.le_refl _,by omega,by omega,rfl,rfl,by omega,by omega,hN1',hN2,by show _=_;rw [val_one1,val_one1,Int.one_mul],HB.out⟩
 case round =>
  clear hN1' hN2 HB
  obtain ⟨m,P,g1,k1,p1,g2,k2,p2,z1,z2,rfl,hmn,hP,hmP,hP2,rfl,rfl,hk1,hk2,hN1,hN2,hv,hB⟩:=hrel
  by_cases h0:m=0
  ·subst h0
   have HV:Hid (val z1 k1=b^n):=by show _=_;have:=hv.out;simpa using this
   have HN1:Hid (Num wr (some ⟨g1,0,none⟩) k1 p1 z1):=hN1
   clear hN1 hN2 hv
   go_wp2
   go_ret
   exact ⟨g1,k1,p1,z1,rfl,by omega,HN1.out,HV.out,hB⟩
  ·have hm0:(0:Int)<m:=by omega
   have hPn:P<=n:=by
    have:1*P<=m*P:=Nat.mul_le_mul_right P (by omega)
    omega
   have hq2:(m:Int)/2=((m/2:Nat):Int):=by omega
   have hr2:(m:Int)%2=((m%2:Nat):Int):=by omega
   have hmP':m/2*(2*P)<=n:=by
    have h1:m/2*2<=m:=Nat.div_mul_le_self m 2
    have h2:m/2*2*P<=m*P:=Nat.mul_le_mul_right P h1
    rw [← Nat.mul_assoc];omega
   have HPH:Hid (val z2 k2^m=(if m%2=1 then val z2 k2 else 1)*(val z2 k2*val z2 k2)^(m/2)):=pow_half _ _
   have tt:=fun wr (hb:Below w.heap.size w wr) h1 h2=>times_val g1 0 k1 p1 g2 0 k2 p2 z1 z2 wr (by omega) (by omega) h1 h2
   have ts:=fun wr (hb:Below w.heap.size w wr) h2=>times_val g2 0 k2 p2 g2 0 k2 p2 z2 z2 wr (by omega) (by omega) h2 h2
   generalize hq:m/2=q at *
   by_cases hodd:m%2=1
   ·rw [hodd] at hr2
    rw [if_pos hodd] at HPH
    have t1:=tt wr hB hN1 hN2
    by_cases hq0:q=0
    ·subst hq0
     have hq00:(m:Int)/2=0:=hq2
     clear hq2
     go_wp2_with (go_at_call 24;refine t1.mono ?_;rintro e w1 ⟨g3,k3,p3,z3,rfl,hk3,hN3,hv3,hb1⟩;clear tt t1)
     have HV3:Hid (val z3 k3*val z2 k2^0=b^n):=by
      show _=_
      rw [hv3,← hv.out,HPH.out];simp
     have HN3:Hid (Num w1 (some ⟨g3,0,none⟩) k3 p3 z3):=hN3
     have HN2:Hid (Num w1 (some ⟨g2,0,none⟩) k2 p2 z2):=hN2.next hb1
     have hB1:=hB.trans (hb1.mono hB.size)
     clear hN1 hN2 hN3 hv hv3 ts
     go_roundw
     case rel=>exact ⟨0,2*P,g3,k3,p3,g2,k2,p2,z3,z2,rfl,by omega,by omega,by omega,by omega,rfl,rfl,by omega,by omega,HN3.out,HN2.out,HV3,hB1⟩
     case measure=>simp [intOf];omega
    ·have hq0':(0:Int)<q:=by omega
     go_wp2_with (go_at_call 24;refine t1.mono ?_;rintro e w1 ⟨g3,k3,p3,z3,rfl,hk3,hN3,hv3,hb1⟩;clear tt t1)
     have hB1:=hB.trans (hb1.mono hB.size)
     have hN21:=hN2.next hb1
     have t2:=ts w1 hB1 hN21
     go_wp2_with (go_at_call 24;refine t2.mono ?_;rintro e w2 ⟨g4,k4,p4,z4,rfl,hk4,hN4,hv4,hb2⟩;clear ts t2)
     have HV3:Hid (val z3 k3*val z4 k4^q=b^n):=by
      show _=_
      rw [hv3,hv4,← hv.out,HPH.out,Int.mul_assoc]
     have HN3:Hid (Num w2 (some ⟨g3,0,none⟩) k3 p3 z3):=hN3.next hb2
     have HN4:Hid (Num w2 (some ⟨g4,0,none⟩) k4 p4 z4):=hN4
     have hB2:=hB1.trans (hb2.mono hB1.size)
     clear hN1 hN2 hN3 hN21 hN4 hv hv3 hv4
     go_roundw
     case rel=>exact ⟨q,2*P,g3,k3,p3,g4,k4,p4,z3,z4,rfl,by omega,by omega,by omega,by omega,rfl,rfl,by omega,by omega,HN3.out,HN4.out,HV3,hB2⟩
     case measure=>simp [intOf];omega
   ·have h20:m%2=0:=by omega
    rw [h20] at hr2
    rw [if_neg hodd,Int.one_mul] at HPH
    have hq0':(0:Int)<q:=by omega
    have t2:=ts wr hB hN2
    go_wp2_with (go_at_call 24;refine t2.mono ?_;rintro e w2 ⟨g4,k4,p4,z4,rfl,hk4,hN4,hv4,hb2⟩;clear ts tt t2)
    have HV3:Hid (val z1 k1*val z4 k4^q=b^n):=by
     show _=_
     rw [hv4,← hv.out,HPH.out]
    have HN3:Hid (Num w2 (some ⟨g1,0,none⟩) k1 p1 z1):=hN1.next hb2
    have HN4:Hid (Num w2 (some ⟨g4,0,none⟩) k4 p4 z4):=hN4
    have hB2:=hB.trans (hb2.mono hB.size)
    clear hN1 hN2 hN4 hv hv4
    go_roundw
    case rel=>exact ⟨q,2*P,g1,k1,p1,g4,k4,p4,z1,z4,rfl,by omega,by omega,by omega,by omega,rfl,rfl,by omega,by omega,HN3.out,HN4.out,HV3,hB2⟩
    case measure=>simp [intOf];omega
def fitsP (n:Int)(x:Nat->Int):Prop:=okN n/\lenL (lowW x 4) 4<=widthN n
instance (n:Int) (x:Nat->Int):Decidable (fitsP n x):=inferInstanceAs (Decidable (_/\_))
theorem box_num {w0 w:World}{ax:Array Value}{t:TypeId}{x:Nat->Int}(hx:Words x)(hax:∀ i,i<4->ax[i]?=some (.int .u64 (x i)))(hb:Below (w0.alloc (.cells ax t)).heap.size (w0.alloc (.cells ax t)) w) :
  Num w (some ⟨w0.heap.size,0,none⟩) 4 4 (lowW x 4) :=
 ((HasN.of_alloc w0 ax t 4 x hax).next hb).num hx (Nat.le_refl _) (Nat.le_refl _) (by unfold maxLen;omega)
theorem below_drewF {B:Nat}{a w:World}{m:Nat}(h:Below B a w):Below B a (w.drewN m):=⟨h.os,h.tape,h.output,h.size,h.block⟩
theorem num_drewN {w:World}{a:Option Addr}{n c:Nat}{x:Nat->Int}(h:Num w a n c x)(m:Nat):Num (w.drewN m) a n c x:=h
theorem fits_any (n:Int)(x:Nat->Int)(hx:Words x)(ax:Array Value)(hax:∀ i,i<4->ax[i]?=some (.int .u64 (x i)))(hs:ax.size=4)(w:World)(hT:Tab w) :
  CB 119 #[.int .i64 n,.agg ax] w (.bool (decide (fitsP n x))):=by
 have c1:=fun w hT=>ofv_any n w hT
 have f1:=fields_bounds n
 by_cases hn:okN n
 ·have hE:infoE n=0:=if_pos hn
  rw [hE] at c1
  have hd:decide (fitsP n x)=decide (lenL (lowW x 4) 4<=widthN n):=by unfold fitsP;simp [hn]
  go_enter Tryz.func119,Tryz.ntmps119
  go_wp2_with (go_at_call 81;refine (c1 _ (hT.alloc _)).mono ?_;rintro e w1 ⟨rfl,hb⟩)
  have hN:=((box_num hx hax hb).next (below1' w1 (.cells #[.int .i64 (numN n),.string (nameN n),.int .i64 (baseN n),.int .i64 (widthN n),.int .i64 (precN n),.int .i64 (expN n),.int .i64 (leastN n),.int .i64 (mostN n),.int .i64 (payN n),.bool (denseN n)] 95)))
  have cl:=fun m=>(nlen_any _ _ _ _ _ (by decide) (num_drewN hN m)).mono (fun e w' h=>(⟨h.1,h.2.symm⟩:e=.returned (.int .i64 (lenL (lowW x 4) 4))/\w'=_))
  clear hN
  go_quiet ((go_at_call 71;exact Calls.quiet_of_same (cl _)))
  all_goals
   go_wp2
   go_ret
   refine ⟨?_,below_drewF (((below1' w _).trans (hb.mono (below1' w _).size)).alloc (Nat.le_trans (below1' w _).size hb.size) _)⟩
   rw [hd]
   rfl
 ·have hE:infoE n=1:=if_neg hn
  rw [hE] at c1
  have hd:decide (fitsP n x)=false:=decide_eq_false fun h=>hn h.1
  rw [hd]
  go_enter Tryz.func119,Tryz.ntmps119
  go_wp2_with (go_at_call 81;refine (c1 _ (hT.alloc _)).mono ?_;rintro e w1 ⟨rfl,hb⟩)
  go_quiet (fail)
  all_goals
   go_wp2
   go_ret
   exact ⟨rfl,below_drewF (((below1' w _).trans (hb.mono (below1' w _).size)).alloc (Nat.le_trans (below1' w _).size hb.size) _)⟩
theorem rfits_any (n:Int)(x:Nat->Int)(hx:Words x)(ax:Array Value)(hax:∀ i,i<4->ax[i]?=some (.int .u64 (x i)))(hs:ax.size=4)(w:World) :
  CB 44 #[.int .i64 n,.agg ax] w (.bool (decide (fitsP n x))):=by
 have c1:=fun w=>rofv_any n w
 have f1:=fields_bounds n
 by_cases hn:okN n
 ·have hE:infoE n=0:=if_pos hn
  rw [hE] at c1
  have hd:decide (fitsP n x)=decide (lenL (lowW x 4) 4<=widthN n):=by unfold fitsP;simp [hn]
  go_enter Tryz.func44,Tryz.ntmps44
  go_wp2_with (go_at_call 20;refine (c1 _).mono ?_;rintro e w1 ⟨rfl,hb⟩)
  have hN:=((box_num hx hax hb).next (below1' w1 (.cells #[.int .i64 (numN n),.string (nameN n),.int .i64 (baseN n),.int .i64 (widthN n),.int .i64 (precN n),.int .i64 (expN n),.int .i64 (leastN n),.int .i64 (mostN n),.int .i64 (payN n),.bool (denseN n)] 45)))
  have cl:=fun m=>(rlen_num _ _ _ _ _ (by decide) (num_drewN hN m)).mono (fun e w' h=>(⟨h.1,h.2.symm⟩:e=.returned (.int .i64 (lenL (lowW x 4) 4))/\w'=_))
  clear hN
  go_quiet ((go_at_call 23;exact Calls.quiet_of_same (cl _)))
  all_goals
   go_wp2
   go_ret
   refine ⟨?_,below_drewF (((below1' w _).trans (hb.mono (below1' w _).size)).alloc (Nat.le_trans (below1' w _).size hb.size) _)⟩
   rw [hd]
   rfl
 ·have hE:infoE n=1:=if_neg hn
  rw [hE] at c1
  have hd:decide (fitsP n x)=false:=decide_eq_false fun h=>hn h.1
  rw [hd]
  go_enter Tryz.func44,Tryz.ntmps44
  go_wp2_with (go_at_call 20;refine (c1 _).mono ?_;rintro e w1 ⟨rfl,hb⟩)
  go_quiet (fail)
  all_goals
   go_wp2
   go_ret
   exact ⟨rfl,below_drewF (((below1' w _).trans (hb.mono (below1' w _).size)).alloc (Nat.le_trans (below1' w _).size hb.size) _)⟩
theorem p10_posN (n:Nat):(0:Int)<10^n:=Int.pow_pos (by decide)
theorem val_ones:∀ t,val (fun _=>18446744073709551615) t=18446744073709551616^t-1
 | 0=>by simp [val]
 | t+1=>by
  show val (fun _=>18446744073709551615) t+18446744073709551615*18446744073709551616^t=18446744073709551616^(t+1)-1
  rw [val_ones t,Int.pow_succ];omega
theorem size_bound {z:Nat->Int}(hz:Words z){k t:Nat}(hs:sizeL z k=k)(hv:val z k<18446744073709551616^t):k<=t:=by
 rcases Nat.lt_or_ge t k with h|h
 ·have:=val_longer (x:=fun _=>18446744073709551615) (fun _=>(by decide:(0:Int)<=18446744073709551615/\(18446744073709551615:Int)<=18446744073709551615)) hz h hs
  rw [val_ones] at this;omega
 ·exact h
theorem p19:∀ t:Nat,(10:Int)^(19*t)<=18446744073709551616^t
 | 0=>by simp
 | t+1=>by
  have ih:=p19 t
  have e:(10:Int)^(19*(t+1))=10^(19*t)*10000000000000000000:=by rw [Nat.mul_add,Int.pow_add];rfl
  rw [e,Int.pow_succ]
  have h0:=pw_pos t
  have h1:=p10_posN (19*t)
  generalize (18446744073709551616:Int)^t=A at *
  generalize (10:Int)^(19*t)=B at *
  omega
theorem pow_le10 {b:Int}(hb:0<=b)(hb2:b<=10):∀ e:Nat,0<=b^e/\b^e<=10^e
 | 0=>by simp
 | e+1=>by
  have ih:=pow_le10 hb hb2 e
  rw [Int.pow_succ,Int.pow_succ]
  exact ⟨Int.mul_nonneg ih.1 hb,Int.mul_le_mul ih.2 hb2 hb (Int.le_of_lt (p10_posN e))⟩
theorem pow_small {b:Int}(hb:0<=b)(hb2:b<=10){e:Nat}(he:e<=12000):b^e<18446744073709551616^632:=by
 have h1:=(pow_le10 hb hb2 e).2
 have h2:=p19 632
 have h3:(10:Int)^e<10^(19*632):=by
  obtain ⟨k,hk⟩:∃ k,19*632=e+1+k:=⟨19*632-(e+1),by omega⟩
  rw [hk,Int.pow_add,Int.pow_succ]
  have:=p10_posN e
  have h4:=p10_posN k
  have h5:(10:Int)^e*10*1<=10^e*10*10^k:=Int.mul_le_mul_of_nonneg_left (by omega) (by omega)
  omega
 exact Int.lt_of_lt_of_le (Int.lt_of_le_of_lt h1 h3) h2
theorem npow_two (n:Nat)(w:World)(hn:n<=12000) :
  Calls Tryz.prog 96 #[.int .i64 2,.int .i64 n] w fun e w'=>∃ g k cap z,e=.returned (.tuple #[.slice (some ⟨g,0,none⟩) k cap,.int .i64 0])/\k<=2001/\Num w' (some ⟨g,0,none⟩) k cap z/\val z k=2^n/\sizeL z k=k/\Below w.heap.size w w':=by
 have hN1:=num_one w 1 (by decide)
 have hs:sizeL (oneW 1) 1=1:=by simp [sizeL,oneW]
 have hsh:=nshl_any _ 1 1 (oneW 1) n _ (by omega) hN1 (by omega) (by rw [hs];omega)
 rw [val_one1,Int.one_mul,Int.toNat_natCast] at hsh
 have HB:=below1 w (.cells #[.int .u64 1] 22)
 have hn':(n:Int)<=12000:=by omega
 clear hN1 hs
 go_enter Tryz.func96,Tryz.ntmps96
 go_wp2_with (go_at_call 131;refine hsh.mono ?_;rintro e w' ⟨g,k,cap,z,rfl,hk,hN,hv,hs,hB⟩)
 go_ret2
 exact ⟨g,k,cap,z,rfl,hk,hN,hv,hs,HB.trans (hB.mono HB.size)⟩
theorem npow_any (b:Int)(n:Nat)(w:World)(hb:b=5∨b=10)(hn:n<=12000) :
  Calls Tryz.prog 96 #[.int .i64 b,.int .i64 n] w fun e w'=>∃ g k cap z,e=.returned (.tuple #[.slice (some ⟨g,0,none⟩) k cap,.int .i64 0])/\k<=2001/\Num w' (some ⟨g,0,none⟩) k cap z/\val z k=b^n/\sizeL z k=k/\Below w.heap.size w w':=by
 have hb0:0<=b/\b<=10:=by omega
 have hbc:b=5∨b=10:=hb
 have hb2:(b==2)=false:=by simp;omega
 have hN1:=num_one w 1 (by decide)
 have hBB:=below1 w (.cells #[.int .u64 1] 22)
 have hn':(n:Int)<=12000:=by omega
 have hlen:=Tryz.bits_Len n (w.alloc (.cells #[.int .u64 1] 22)) (by omega) (by omega)
 rw [Int.toNat_natCast] at hlen
 obtain ⟨L,hL⟩:∃ L,Lib.bitLen n=L:=⟨_,rfl⟩
 have hL64:L<=64:=by rw [← hL];exact bitLen64 n
 have HLn:Hid (n/2^L=0):=by
  show _=_
  by_cases h0:n=0
  ·subst h0;simp
  ·have:=bitLen_spec n (by omega) (by omega)
   rw [hL] at this
   exact Nat.div_eq_of_lt this.2.2.2
 rw [hL] at hlen
 clear hL
 have HS1:Hid (sizeL (oneW 1) 1=1):=by show _=_;simp [sizeL,oneW]
 have hne:(b != 2)=true:=by simp;omega
 have hpick:(b != 5)=true/\(b != 10)=false∨(b != 5)=false:=by rcases hb with rfl|rfl<;>decide
 have hps:∀ e,e<=12000->b^e<18446744073709551616^632:=fun e he=>pow_small hb0.1 hb0.2 he
 have HPS:Hid (∀ e,e<=12000->b^e<18446744073709551616^632):=hps
 clear hps hb
 rcases hpick with ⟨h5,h10⟩|h5
 all_goals
  go_enter Tryz.func96,Tryz.ntmps96
  go_wp2_with (go_at_call 132;refine hlen.mono ?_;rintro e w' ⟨rfl,rfl⟩)
  generalize w.alloc (.cells #[.int .u64 1] 22)=wA at *
  go_loopw [6,7,40,51] (fun pv iv u40 u51 wr=>∃ (k kk g p:Nat) (z:Nat->Int),k<=L/\iv=.int .i64 ((k:Int)-1)/\pv=.slice (some ⟨g,0,none⟩) kk p/\kk<=632/\Num wr (some ⟨g,0,none⟩) kk p z/\sizeL z kk=kk/\Hid (val z kk=b^(n/2^k))/\Below w.heap.size w wr) (fun _ iv _ _ _=>(intOf iv+1).toNat)
  case atStart=>exact ⟨L,1,w.heap.size,1,oneW 1,Nat.le_refl _,by go_num,rfl,by omega,hN1,HS1.out,by show _=_;rw [val_one1,HLn.out,Int.pow_zero],hBB⟩
  case round =>
   clear hN1 hBB hlen
   obtain ⟨k,kk,g,p,z,hk,rfl,rfl,hkk,hN,hs,hv,hB⟩:=hrel
   by_cases h0:k=0
   ·subst h0
    have HV:Hid (val z kk=b^n):=by show _=_;have:=hv.out;simpa using this
    have HN:Hid (Num wr (some ⟨g,0,none⟩) kk p z):=hN
    have HS:Hid (sizeL z kk=kk):=hs
    clear hN hv hs
    go_wp2
    go_ret2
    exact ⟨g,kk,p,z,rfl,by omega,HN.out,HV.out,HS.out,hB⟩
   ·obtain ⟨j,rfl⟩:∃ j,k=j+1:=⟨k-1,by omega⟩
    have ej:((j+1:Nat):Int)-1=j:=by omega
    rw [ej]
    obtain ⟨e,he⟩:∃ e,n/2^j=e:=⟨_,rfl⟩
    have hcast:(n:Int)/2^j=(e:Int):=by rw [← he,Int.natCast_ediv,powCast]
    have hen:e<=n:=by rw [← he];exact Nat.div_le_self _ _
    have hand:=Go.Proofs.and_one e (by omega)
    have hhalf:n/2^(j+1)=e/2:=by rw [Nat.pow_succ,← Nat.div_div_eq_div_mul,he]
    have m1:=nmul_any (some ⟨g,0,none⟩) (some ⟨g,0,none⟩) kk p kk p z z wr (by omega) (by omega) hN hN (by omega)
    have HV1:Hid (val z kk*val z kk=b^(2*(e/2))):=by
     show _=_
     rw [hv.out,hhalf,← Int.pow_add];congr 1;omega
    have HJ:Hid (j<=L):=by show _<=_;omega
    have HE:Hid (n/2^j=e):=he
    clear ej he hhalf hN hs hv
    by_cases hodd:e%2=1
    ·rw [hodd] at hand
     go_wp2_with (go_at_call 97;refine m1.mono ?_;rintro e' w1 ⟨g1,k1,p1,z1,rfl,hk1,hN1,hv1,hs1,hb1⟩;clear m1)
     rw [HV1.out] at hv1
     have hk1b:k1<=632:=size_bound hN1.2.2.1 hs1 (by rw [hv1];exact HPS.out _ (by omega))
     have hB1:=hB.trans (hb1.mono hB.size)
     have hNb:=num_one w1 b (by omega)
     have hbb:=below1 w1 (.cells #[.int .u64 b] 22)
     have hsb:=sizeL_le (oneW b) 1
     have m2:=nmul_any (some ⟨g1,0,none⟩) (some ⟨w1.heap.size,0,none⟩) k1 p1 1 1 z1 (oneW b) (w1.alloc (.cells #[.int .u64 b] 22)) (by omega) (by omega) (hN1.next hbb) hNb (by omega)
     have HBB:Hid (Below w.heap.size w (w1.alloc (.cells #[.int .u64 b] 22))):=hB1.trans (hbb.mono hB1.size)
     clear hN1 hNb hbb
     go_wp2_with (go_at_call 97;refine m2.mono ?_;rintro e' w2 ⟨g2,k2,p2,z2,rfl,hk2,hN2,hv2,hs2,hb2⟩;clear m2)
     have hv3:val z2 k2=b^e:=by
      rw [hv2,hv1,val_one1,← Int.pow_succ];congr 1;omega
     have hk2b:k2<=632:=size_bound hN2.2.2.1 hs2 (by rw [hv3];exact HPS.out _ (by omega))
     have hB2:=HBB.out.trans (hb2.mono HBB.out.size)
     have HN2:Hid (Num w2 (some ⟨g2,0,none⟩) k2 p2 z2):=hN2
     clear hN2
     go_roundw
     case rel=>exact ⟨j,k2,g2,p2,z2,HJ.out,by go_num,rfl,hk2b,HN2.out,hs2,by show _=_;rw [HE.out,hv3],hB2⟩
     case measure=>simp [intOf]
    ·have he0:e%2=0:=by omega
     rw [he0] at hand
     go_wp2_with (go_at_call 97;refine m1.mono ?_;rintro e' w1 ⟨g1,k1,p1,z1,rfl,hk1,hN1,hv1,hs1,hb1⟩;clear m1)
     have hv3:val z1 k1=b^e:=by
      rw [hv1,HV1.out];congr 1;omega
     have hk1b:k1<=632:=size_bound hN1.2.2.1 hs1 (by rw [hv3];exact HPS.out _ (by omega))
     have hB1:=hB.trans (hb1.mono hB.size)
     have HN1:Hid (Num w1 (some ⟨g1,0,none⟩) k1 p1 z1):=hN1
     clear hN1
     go_roundw
     case rel=>exact ⟨j,k1,g1,p1,z1,HJ.out,by go_num,rfl,hk1b,HN1.out,hs1,by show _=_;rw [HE.out,hv3],hB1⟩
     case measure=>simp [intOf]
end Go.Proofs.YtgknbdehlmlipaaGreatDoor
