/-
  Texts that the proof leans on, joined: Rg, De.
-/
import Derived.Test.YtpabnhlfbjkmaaaGreatDoorJ18
import Derived.Test.YtpabnhlfbjkmaaaGreatDoorJ1
import Derived.Test.YtpabnhlfbjkmaaaGreatDoorJ9
set_option maxHeartbeats 8000000
set_option linter.unusedVariables false
set_option linter.unusedSectionVars false
set_option linter.unusedSimpArgs false
set_option maxRecDepth 20000
namespace Go.Proofs.YtpabnhlfbjkmaaaGreatDoor
open Go.RowKit
section
attribute [local go_sem ↓] Go.wp_at_zero Go.wp_at_succ
theorem nv_low {k V:Nat} {z:Nat->Int} (hz:Words z) (h0:∀ i,k<=i->z i=0) (hv:val z k=(V:Int)):val z 4=((V%2^256:Nat):Int):=by
 have h1:val z (4+k)=(V:Int):=by rw [val_more h0 (4+k) (by omega),hv]
 rw [val_split z 4 k] at h1
 have hb:=val_bd hz 4
 have e4:(18446744073709551616:Int)^4=((2^256:Nat):Int):=by decide
 rw [e4] at h1 hb
 have h5:=congrArg (·%((2^256:Nat):Int)) h1
 simp only [Int.add_mul_emod_self_right,Int.emod_eq_of_lt hb.1 hb.2] at h5
 rw [h5]
 rfl
theorem bits_num (g k cap:Nat) (z:Nat->Int) (w:World) (h:Num w (some ⟨g,0,none⟩) k cap z) :
  CB 22 #[.slice (some ⟨g,0,none⟩) k cap] w (.agg (arrOf z 4)):=by
 have hw:=fun (i:Nat) (o1 o2:Obj)=>word_any (some ⟨g,0,none⟩) k cap i z ((w.alloc o1).alloc o2) ((h.next (below1 w _)).next (below1 _ _))
 clear h
 go_enter Tryz.func22,Tryz.ntmps22
 go_wp2
 go_loopw [4,5] (fun u4 i wr=>∃ (j:Nat) (ss:Array Value),j<=4/\i=.int .i64 j/\ss.size=4/\(∀ q h,ss[q]'h=Value.int .u64 (if q<j then z q else 0))/\wr=(w.alloc (.cells #[.int .u64 0,.int .u64 0,.int .u64 0,.int .u64 0] 24)).alloc (.cells ss 24)) (fun _ i _=>4-(intOf i).toNat)
 case atStart=>exact ⟨0,_,Nat.zero_le _,rfl,rfl,by intro q h;have h':q<4:=h;match q,h' with | 0,_=>rfl | 1,_=>rfl | 2,_=>rfl | 3,_=>rfl,rfl⟩
 case round =>
  obtain ⟨j,ss,hj,rfl,hsz,hss,rfl⟩:=hrel
  by_cases h4:j<4
  ·have h4i:(j:Int)<4:=by omega
   have h4s:j<ss.size:=by omega
   have hsk:ss[j]?=some (.int .u64 0):=by rw [Array.getElem?_eq_getElem h4s,hss j h4s,if_neg (by omega)]
   have HR:Hid (∀ (i:Nat) (h:i<(ss.setIfInBounds j (.int .u64 (z j))).size),(ss.setIfInBounds j (.int .u64 (z j)))[i]'h=Value.int .u64 (if i<j+1 then z i else 0)):=set_next hss
   have hwj:=hw j (.cells #[.int .u64 0,.int .u64 0,.int .u64 0,.int .u64 0] 24) (.cells ss 24)
   clear hss hw
   go_wp2_with (go_at_call 46;refine hwj.mono ?_;rintro e w' ⟨rfl,rfl⟩)
   go_roundw
   case rel=>exact ⟨j+1,ss.setIfInBounds j (.int .u64 (z j)),by omega,by go_num,by simp [hsz],HR.out,rfl⟩
   case measure=>simp [intOf];omega
  ·obtain rfl:j=4:=by omega
   have hss':∀ q h,ss[q]'h=Value.int .u64 (z q):=by
    intro q h;rw [hss q h,if_pos (by omega)]
   clear hss hw
   go_wp2
   exact bodyPost_ret (v:=.agg (arrOf z 4)) (by simp [results,Tryz.results22,go_sem];rfl) rfl ⟨rfl,((Below.refl _ _).alloc (Nat.le_refl _) _).alloc (by simp) _⟩
theorem bits_nv {K V:Nat} {v:Value} {w:World} (h:NV K V v w) :
  CB 22 #[v] w (A4 V):=by
 obtain ⟨g,k,cap,z,rfl,hk,hN,hv⟩:=h
 refine (bits_num g k cap z w hN).mono ?_
 rintro e w' ⟨rfl,hb⟩
 refine ⟨?_,hb⟩
 rw [arr_A4 hN.2.2.1 (nv_low hN.2.2.1 hN.2.2.2.1 hv)]
theorem number_nv {K V:Nat} {v:Value} {w:World} (h:NV K V v w) (hK:K<1000) (hV:V<9223372036854775808) :
    Calls Tryz.prog 57 #[v] w fun e w'=>e=.returned (.int .i64 V)/\w'=w:=by
  obtain ⟨g,k,cap,z,rfl,hk,hN,hv⟩:=h
  obtain ⟨h1,h2,h3,h4,h5⟩:=hN
  rcases h5 with ⟨h5,_⟩ | ⟨b,off,e,hb,hc⟩
  · cases h5
  · cases e
    rcases Nat.eq_zero_or_pos k with hk0 | hk0
    · subst hk0
      have : V = 0 := by have : val z 0 = 0 := rfl
                         omega
      subst this
      go_enter Tryz.func57,Tryz.ntmps57
      go_wp2
      go_ret
      exact ⟨rfl,rfl⟩
    · have hc0:=hc 0 hk0
      have hz0:=h3 0
      have e0:z 0=(V:Int):=by
        have hl:=nv_low h3 h4 hv
        obtain ⟨j,rfl⟩:∃ j,k=1+j:=⟨k-1,by omega⟩
        have hs:=val_split z 1 j
        have hb2:=val_bd (segW_words h3 1 j) j
        have h10:val z 1=z 0:=by show val z 0+z 0*18446744073709551616^0=z 0;simp [val]
        rw [hv,h10] at hs
        simp only [Int.pow_one] at hs
        have hm:0<=val (segW z 1 j) j:=hb2.1
        by_cases hp:0<val (segW z 1 j) j
        · exfalso;omega
        · have:val (segW z 1 j) j=0:=by omega
          rw [this] at hs;omega
      have hk1:¬ ((k:Int)=0):=by omega
      rw [e0] at hc0
      simp only [Nat.add_zero] at hc0
      have hkb:(k == 0)=false:=by simp;omega
      have hki:(0:Int)<k:=by omega
      clear hc h3 h4 hv e0 hz0
      go_enter Tryz.func57,Tryz.ntmps57
      go_wp2
      go_ret
      exact ⟨rfl,rfl⟩
theorem box_nv {w0 w:World} {B:Nat} {t:TypeId} (hB:B<2^256) (hb:Below (w0.alloc (.cells #[.int .u64 (W4 B 0),.int .u64 (W4 B 1),.int .u64 (W4 B 2),.int .u64 (W4 B 3)] t)).heap.size (w0.alloc (.cells #[.int .u64 (W4 B 0),.int .u64 (W4 B 1),.int .u64 (W4 B 2),.int .u64 (W4 B 3)] t)) w) :
  NV 4 B (.slice (some ⟨w0.heap.size,0,none⟩) 4 4) w :=
 ⟨_,4,4,_,rfl,Nat.le_refl _,box_num (W4_words B) (A4_get B) hb,by
  rw [val_congr (x:=lowW (W4 B) 4) (y:=W4 B) 4 (fun i hi=>lowW_lt hi),W4_val4 hB]⟩
theorem field_any (B at_ n:Nat) (w:World) (hB:B<2^256) (ha:at_<=600) (hn:n<=600) :
  CE 59 #[A4 B,.int .i64 at_,.int .i64 n] w (NT 19 (B/2^at_%2^n)):=by
 have hbx:=box_nv (w0:=w) (B:=B) (t:=24) hB (Below.refl _ _)
 go_enter Tryz.func59,Tryz.ntmps59
 go_wp2_with (first
  | (have:=hA2;go_at_call 95;refine (rleft_nv n (by decide) hn hh).mono ?_;rintro e w3 ⟨v3,rfl,hl,hb3⟩;replace hx:=hx.next hb3;have hA3:=bnext hA2 hb3)
  | (have:=hA1;go_at_call 58;refine (rright_nv n (by decide) hn hx).mono ?_;rintro e w2 ⟨v2,b2,rfl,hh,hb2⟩;replace hx:=hx.next hb2;have hA2:=bnext hA1 hb2)
  | (go_at_call 58;refine (rright_nv at_ (by decide) ha hbx).mono ?_;rintro e w1 ⟨v1,b1,rfl,hx,hb1⟩;have hA1:=bnext (w0:=w) bgo hb1)
  | (go_at_call 89;refine (rless_nt (by decide) (by decide) hx hl (Nat.div_mul_le_self _ _)).mono ?_;rintro e w4 ⟨v4,rfl,hr,hb4⟩;have hA4:=bnext hA3 hb4))
 go_ret
 refine ⟨_,rfl,?_,hA4⟩
 rw [show B/2^at_%2^n=B/2^at_-B/2^at_/2^n*2^n by have:=Nat.div_add_mod' (B/2^at_) (2^n);omega]
 exact hr
end
theorem dl_bits {t0 x t1 y t2 z:Int} (h0:0<=t0/\t0<4) (h1:0<=x/\x<2) (h2:0<=t1/\t1<4) (h3:0<=y/\y<2) (h4:0<=t2/\t2<8) (h5:0<=z/\z<2) :
  bits .or .i64 (bits .or .i64 (bits .or .i64 (bits .or .i64 (bits .or .i64 (t0*256) (x*128)) (t1*32)) (y*16)) (t2*2)) z=t0*256+x*128+t1*32+y*16+t2*2+z:=by
 obtain ⟨a,rfl⟩:=Int.eq_ofNat_of_zero_le h0.1
 obtain ⟨b,rfl⟩:=Int.eq_ofNat_of_zero_le h1.1
 obtain ⟨c,rfl⟩:=Int.eq_ofNat_of_zero_le h2.1
 obtain ⟨d,rfl⟩:=Int.eq_ofNat_of_zero_le h3.1
 obtain ⟨e,rfl⟩:=Int.eq_ofNat_of_zero_le h4.1
 obtain ⟨f,rfl⟩:=Int.eq_ofNat_of_zero_le h5.1
 have h:=upTo_all (f:=fun i=>decide (bits .or .i64 (bits .or .i64 (bits .or .i64 (bits .or .i64 (bits .or .i64 (((i/256:Nat):Int)*256) (((i/128%2:Nat):Int)*128)) (((i/32%4:Nat):Int)*32)) (((i/16%2:Nat):Int)*16)) (((i/2%8:Nat):Int)*2)) ((i%2:Nat):Int)=(i:Int))) (m:=1024) (by decide +kernel) (a*256+b*128+c*32+d*16+e*2+f) (by omega)
 have h':=of_decide_eq_true h
 obtain ⟨i,hi⟩:∃ i,i=a*256+b*128+c*32+d*16+e*2+f:=⟨_,rfl⟩
 rw [← hi] at h'
 rw [show i/256=a by omega,show i/128%2=b by omega,show i/32%4=c by omega,show i/16%2=d by omega,show i/2%8=e by omega,show i%2=f by omega] at h'
 rw [h',hi]
 omega
structure Thr (w:World) (g:Nat) (x y z:Int):Prop where
 c0:w.cell? ⟨g,0,none⟩=some (.int .i64 x)
 c1:w.cell? ⟨g,1,none⟩=some (.int .i64 y)
 c2:w.cell? ⟨g,2,none⟩=some (.int .i64 z)
theorem enc_0 (n a b c g:Nat) (w:World) (hn:n<1000) (ha:n/100=a) (hb:n/10%10=b) (hc:n%10=c) (hg:a/8*4+b/8*2+c/8=g) (R:Int)
  (hR:((((a:Int)/2%4):Int)*256+(a:Int)%2*128+((b:Int)/2%4)*32+(b:Int)%2*16+((c:Int)/2%4)*2+(c:Int)%2)=R)
  (c21:∀ W,CB 137 #[.int .i64 (g:Int)] W (.agg #[.int .i64 10,.int .i64 11,.int .i64 22])) :
  CB 97 #[.int .i64 (n:Int)] w (.tuple #[.int .i64 R,.int .i64 0]):=by
 have h0:¬ (n:Int)<0:=by omega
 have h9:¬ 999<(n:Int):=by omega
 have ea:(n:Int)/100=(a:Int):=by omega
 have eb:(n:Int)/10%10=(b:Int):=by omega
 have ec:(n:Int)%10=(c:Int):=by omega
 have eg:(a:Int)/8*4+(b:Int)/8*2+(c:Int)/8=(g:Int):=by omega
 have la:(a:Int)/8<=1:=by omega
 have lb:(b:Int)/8<=1:=by omega
 go_enter Tryz.func97,Tryz.ntmps97
 go_wp2_with (go_at_call 137;refine (c21 _).mono ?_;rintro r w1 ⟨rfl,hb1⟩;obtain ⟨_,_,_,_,hA1,_⟩:=wz w hb1;clear hb1)
 go_loopw [39] (fun t wr=>∃ i:Nat,i<=3/\t=.int .i64 i/\Thr wr w.heap.size a b c/\Thr wr w1.heap.size 10 11 22/\Thr wr (w1.heap.size+1) (if 0<i then ((a:Int)/2%4) else 0) (if 1<i then ((b:Int)/2%4) else 0) (if 2<i then ((c:Int)/2%4) else 0)/\(∀ j,wr.frozen? ⟨w1.heap.size+1,j,none⟩=false)/\Below w.heap.size w wr/\w1.heap.size+1<wr.heap.size) (fun t _=>3-(intOf t).toNat)
 case atStart=>exact ⟨0,by decide,rfl,⟨by go_simp,by go_simp,by go_simp⟩,⟨by go_simp,by go_simp,by go_simp⟩,⟨by go_simp,by go_simp,by go_simp⟩,fun j=>by go_simp,bgo,by simp⟩
 case round =>
  obtain ⟨i,hi,rfl,⟨p0,p1,p2⟩,⟨q0,q1,q2⟩,⟨s0,s1,s2⟩,hfr,hbw,hsz⟩:=hrel
  have hl0:w.heap.size<wr.heap.size:=by omega
  have hl1:w1.heap.size<wr.heap.size:=by omega
  have hne1:¬ w.heap.size=w1.heap.size+1:=by omega
  have hne2:¬ w1.heap.size=w1.heap.size+1:=by omega
  have hi':i=0∨i=1∨i=2∨i=3:=by omega
  rcases hi' with rfl | rfl | rfl | rfl
  ·go_wp2
   go_roundw
   case rel=>exact ⟨1,by omega,by go_num,⟨by go_simp,by go_simp,by go_simp⟩,⟨by go_simp,by go_simp,by go_simp⟩,⟨by go_simp,by go_simp,by go_simp⟩,fun j=>by go_simp,bgo,by simpa using hsz⟩
   case measure=>simp [intOf]
  ·go_wp2
   go_roundw
   case rel=>exact ⟨2,by omega,by go_num,⟨by go_simp,by go_simp,by go_simp⟩,⟨by go_simp,by go_simp,by go_simp⟩,⟨by go_simp,by go_simp,by go_simp⟩,fun j=>by go_simp,bgo,by simpa using hsz⟩
   case measure=>simp [intOf]
  ·go_wp2
   go_roundw
   case rel=>exact ⟨3,by omega,by go_num,⟨by go_simp,by go_simp,by go_simp⟩,⟨by go_simp,by go_simp,by go_simp⟩,⟨by go_simp,by go_simp,by go_simp⟩,fun j=>by go_simp,bgo,by simpa using hsz⟩
   case measure=>simp [intOf]
  ·go_wp2
   exact bodyPost_ret (v:=.tuple #[.int .i64 R,.int .i64 0]) (by
    simp only [results,Tryz.results97]
    go_simp
    rw [← hR]
    exact dl_bits (by omega) (by omega) (by omega) (by omega) (by omega) (by omega)) rfl ⟨rfl,hbw⟩
theorem enc_1 (n a b c g:Nat) (w:World) (hn:n<1000) (ha:n/100=a) (hb:n/10%10=b) (hc:n%10=c) (hg:a/8*4+b/8*2+c/8=g) (R:Int) (u2:Int) (hu2:0<=u2/\u2<8) (hv2:¬ 10<=u2)
  (hR:((((a:Int)/2%4):Int)*256+(a:Int)%2*128+((b:Int)/2%4)*32+(b:Int)%2*16+u2*2+(c:Int)%2)=R)
  (c21:∀ W,CB 137 #[.int .i64 (g:Int)] W (.agg #[.int .i64 10,.int .i64 11,.int .i64 u2])) :
  CB 97 #[.int .i64 (n:Int)] w (.tuple #[.int .i64 R,.int .i64 0]):=by
 have h0:¬ (n:Int)<0:=by omega
 have h9:¬ 999<(n:Int):=by omega
 have ea:(n:Int)/100=(a:Int):=by omega
 have eb:(n:Int)/10%10=(b:Int):=by omega
 have ec:(n:Int)%10=(c:Int):=by omega
 have eg:(a:Int)/8*4+(b:Int)/8*2+(c:Int)/8=(g:Int):=by omega
 have la:(a:Int)/8<=1:=by omega
 have lb:(b:Int)/8<=1:=by omega
 go_enter Tryz.func97,Tryz.ntmps97
 go_wp2_with (go_at_call 137;refine (c21 _).mono ?_;rintro r w1 ⟨rfl,hb1⟩;obtain ⟨_,_,_,_,hA1,_⟩:=wz w hb1;clear hb1)
 go_loopw [39] (fun t wr=>∃ i:Nat,i<=3/\t=.int .i64 i/\Thr wr w.heap.size a b c/\Thr wr w1.heap.size 10 11 u2/\Thr wr (w1.heap.size+1) (if 0<i then ((a:Int)/2%4) else 0) (if 1<i then ((b:Int)/2%4) else 0) (if 2<i then u2 else 0)/\(∀ j,wr.frozen? ⟨w1.heap.size+1,j,none⟩=false)/\Below w.heap.size w wr/\w1.heap.size+1<wr.heap.size) (fun t _=>3-(intOf t).toNat)
 case atStart=>exact ⟨0,by decide,rfl,⟨by go_simp,by go_simp,by go_simp⟩,⟨by go_simp,by go_simp,by go_simp⟩,⟨by go_simp,by go_simp,by go_simp⟩,fun j=>by go_simp,bgo,by simp⟩
 case round =>
  obtain ⟨i,hi,rfl,⟨p0,p1,p2⟩,⟨q0,q1,q2⟩,⟨s0,s1,s2⟩,hfr,hbw,hsz⟩:=hrel
  have hl0:w.heap.size<wr.heap.size:=by omega
  have hl1:w1.heap.size<wr.heap.size:=by omega
  have hne1:¬ w.heap.size=w1.heap.size+1:=by omega
  have hne2:¬ w1.heap.size=w1.heap.size+1:=by omega
  have hi':i=0∨i=1∨i=2∨i=3:=by omega
  rcases hi' with rfl | rfl | rfl | rfl
  ·go_wp2
   go_roundw
   case rel=>exact ⟨1,by omega,by go_num,⟨by go_simp,by go_simp,by go_simp⟩,⟨by go_simp,by go_simp,by go_simp⟩,⟨by go_simp,by go_simp,by go_simp⟩,fun j=>by go_simp,bgo,by simpa using hsz⟩
   case measure=>simp [intOf]
  ·go_wp2
   go_roundw
   case rel=>exact ⟨2,by omega,by go_num,⟨by go_simp,by go_simp,by go_simp⟩,⟨by go_simp,by go_simp,by go_simp⟩,⟨by go_simp,by go_simp,by go_simp⟩,fun j=>by go_simp,bgo,by simpa using hsz⟩
   case measure=>simp [intOf]
  ·go_wp2
   go_roundw
   case rel=>exact ⟨3,by omega,by go_num,⟨by go_simp,by go_simp,by go_simp⟩,⟨by go_simp,by go_simp,by go_simp⟩,⟨by go_simp,by go_simp,by go_simp⟩,fun j=>by go_simp,bgo,by simpa using hsz⟩
   case measure=>simp [intOf]
  ·go_wp2
   exact bodyPost_ret (v:=.tuple #[.int .i64 R,.int .i64 0]) (by
    simp only [results,Tryz.results97]
    go_simp
    rw [← hR]
    exact dl_bits (by omega) (by omega) (by omega) (by omega) (by omega) (by omega)) rfl ⟨rfl,hbw⟩
theorem enc_2 (n a b c g:Nat) (w:World) (hn:n<1000) (ha:n/100=a) (hb:n/10%10=b) (hc:n%10=c) (hg:a/8*4+b/8*2+c/8=g) (R:Int) (u2:Int) (hu2:0<=u2/\u2<8) (hv2:¬ 10<=u2)
  (hR:((((a:Int)/2%4):Int)*256+(a:Int)%2*128+((c:Int)/2%4)*32+(b:Int)%2*16+u2*2+(c:Int)%2)=R)
  (c21:∀ W,CB 137 #[.int .i64 (g:Int)] W (.agg #[.int .i64 10,.int .i64 12,.int .i64 u2])) :
  CB 97 #[.int .i64 (n:Int)] w (.tuple #[.int .i64 R,.int .i64 0]):=by
 have h0:¬ (n:Int)<0:=by omega
 have h9:¬ 999<(n:Int):=by omega
 have ea:(n:Int)/100=(a:Int):=by omega
 have eb:(n:Int)/10%10=(b:Int):=by omega
 have ec:(n:Int)%10=(c:Int):=by omega
 have eg:(a:Int)/8*4+(b:Int)/8*2+(c:Int)/8=(g:Int):=by omega
 have la:(a:Int)/8<=1:=by omega
 have lb:(b:Int)/8<=1:=by omega
 go_enter Tryz.func97,Tryz.ntmps97
 go_wp2_with (go_at_call 137;refine (c21 _).mono ?_;rintro r w1 ⟨rfl,hb1⟩;obtain ⟨_,_,_,_,hA1,_⟩:=wz w hb1;clear hb1)
 go_loopw [39] (fun t wr=>∃ i:Nat,i<=3/\t=.int .i64 i/\Thr wr w.heap.size a b c/\Thr wr w1.heap.size 10 12 u2/\Thr wr (w1.heap.size+1) (if 0<i then ((a:Int)/2%4) else 0) (if 1<i then ((c:Int)/2%4) else 0) (if 2<i then u2 else 0)/\(∀ j,wr.frozen? ⟨w1.heap.size+1,j,none⟩=false)/\Below w.heap.size w wr/\w1.heap.size+1<wr.heap.size) (fun t _=>3-(intOf t).toNat)
 case atStart=>exact ⟨0,by decide,rfl,⟨by go_simp,by go_simp,by go_simp⟩,⟨by go_simp,by go_simp,by go_simp⟩,⟨by go_simp,by go_simp,by go_simp⟩,fun j=>by go_simp,bgo,by simp⟩
 case round =>
  obtain ⟨i,hi,rfl,⟨p0,p1,p2⟩,⟨q0,q1,q2⟩,⟨s0,s1,s2⟩,hfr,hbw,hsz⟩:=hrel
  have hl0:w.heap.size<wr.heap.size:=by omega
  have hl1:w1.heap.size<wr.heap.size:=by omega
  have hne1:¬ w.heap.size=w1.heap.size+1:=by omega
  have hne2:¬ w1.heap.size=w1.heap.size+1:=by omega
  have hi':i=0∨i=1∨i=2∨i=3:=by omega
  rcases hi' with rfl | rfl | rfl | rfl
  ·go_wp2
   go_roundw
   case rel=>exact ⟨1,by omega,by go_num,⟨by go_simp,by go_simp,by go_simp⟩,⟨by go_simp,by go_simp,by go_simp⟩,⟨by go_simp,by go_simp,by go_simp⟩,fun j=>by go_simp,bgo,by simpa using hsz⟩
   case measure=>simp [intOf]
  ·go_wp2
   go_roundw
   case rel=>exact ⟨2,by omega,by go_num,⟨by go_simp,by go_simp,by go_simp⟩,⟨by go_simp,by go_simp,by go_simp⟩,⟨by go_simp,by go_simp,by go_simp⟩,fun j=>by go_simp,bgo,by simpa using hsz⟩
   case measure=>simp [intOf]
  ·go_wp2
   go_roundw
   case rel=>exact ⟨3,by omega,by go_num,⟨by go_simp,by go_simp,by go_simp⟩,⟨by go_simp,by go_simp,by go_simp⟩,⟨by go_simp,by go_simp,by go_simp⟩,fun j=>by go_simp,bgo,by simpa using hsz⟩
   case measure=>simp [intOf]
  ·go_wp2
   exact bodyPost_ret (v:=.tuple #[.int .i64 R,.int .i64 0]) (by
    simp only [results,Tryz.results97]
    go_simp
    rw [← hR]
    exact dl_bits (by omega) (by omega) (by omega) (by omega) (by omega) (by omega)) rfl ⟨rfl,hbw⟩
theorem enc_3 (n a b c g:Nat) (w:World) (hn:n<1000) (ha:n/100=a) (hb:n/10%10=b) (hc:n%10=c) (hg:a/8*4+b/8*2+c/8=g) (R:Int) (u1:Int) (hu1:0<=u1/\u1<4) (hv1:¬ 10<=u1) (u2:Int) (hu2:0<=u2/\u2<8) (hv2:¬ 10<=u2)
  (hR:((((a:Int)/2%4):Int)*256+(a:Int)%2*128+u1*32+(b:Int)%2*16+u2*2+(c:Int)%2)=R)
  (c21:∀ W,CB 137 #[.int .i64 (g:Int)] W (.agg #[.int .i64 10,.int .i64 u1,.int .i64 u2])) :
  CB 97 #[.int .i64 (n:Int)] w (.tuple #[.int .i64 R,.int .i64 0]):=by
 have h0:¬ (n:Int)<0:=by omega
 have h9:¬ 999<(n:Int):=by omega
 have ea:(n:Int)/100=(a:Int):=by omega
 have eb:(n:Int)/10%10=(b:Int):=by omega
 have ec:(n:Int)%10=(c:Int):=by omega
 have eg:(a:Int)/8*4+(b:Int)/8*2+(c:Int)/8=(g:Int):=by omega
 have la:(a:Int)/8<=1:=by omega
 have lb:(b:Int)/8<=1:=by omega
 go_enter Tryz.func97,Tryz.ntmps97
 go_wp2_with (go_at_call 137;refine (c21 _).mono ?_;rintro r w1 ⟨rfl,hb1⟩;obtain ⟨_,_,_,_,hA1,_⟩:=wz w hb1;clear hb1)
 go_loopw [39] (fun t wr=>∃ i:Nat,i<=3/\t=.int .i64 i/\Thr wr w.heap.size a b c/\Thr wr w1.heap.size 10 u1 u2/\Thr wr (w1.heap.size+1) (if 0<i then ((a:Int)/2%4) else 0) (if 1<i then u1 else 0) (if 2<i then u2 else 0)/\(∀ j,wr.frozen? ⟨w1.heap.size+1,j,none⟩=false)/\Below w.heap.size w wr/\w1.heap.size+1<wr.heap.size) (fun t _=>3-(intOf t).toNat)
 case atStart=>exact ⟨0,by decide,rfl,⟨by go_simp,by go_simp,by go_simp⟩,⟨by go_simp,by go_simp,by go_simp⟩,⟨by go_simp,by go_simp,by go_simp⟩,fun j=>by go_simp,bgo,by simp⟩
 case round =>
  obtain ⟨i,hi,rfl,⟨p0,p1,p2⟩,⟨q0,q1,q2⟩,⟨s0,s1,s2⟩,hfr,hbw,hsz⟩:=hrel
  have hl0:w.heap.size<wr.heap.size:=by omega
  have hl1:w1.heap.size<wr.heap.size:=by omega
  have hne1:¬ w.heap.size=w1.heap.size+1:=by omega
  have hne2:¬ w1.heap.size=w1.heap.size+1:=by omega
  have hi':i=0∨i=1∨i=2∨i=3:=by omega
  rcases hi' with rfl | rfl | rfl | rfl
  ·go_wp2
   go_roundw
   case rel=>exact ⟨1,by omega,by go_num,⟨by go_simp,by go_simp,by go_simp⟩,⟨by go_simp,by go_simp,by go_simp⟩,⟨by go_simp,by go_simp,by go_simp⟩,fun j=>by go_simp,bgo,by simpa using hsz⟩
   case measure=>simp [intOf]
  ·go_wp2
   go_roundw
   case rel=>exact ⟨2,by omega,by go_num,⟨by go_simp,by go_simp,by go_simp⟩,⟨by go_simp,by go_simp,by go_simp⟩,⟨by go_simp,by go_simp,by go_simp⟩,fun j=>by go_simp,bgo,by simpa using hsz⟩
   case measure=>simp [intOf]
  ·go_wp2
   go_roundw
   case rel=>exact ⟨3,by omega,by go_num,⟨by go_simp,by go_simp,by go_simp⟩,⟨by go_simp,by go_simp,by go_simp⟩,⟨by go_simp,by go_simp,by go_simp⟩,fun j=>by go_simp,bgo,by simpa using hsz⟩
   case measure=>simp [intOf]
  ·go_wp2
   exact bodyPost_ret (v:=.tuple #[.int .i64 R,.int .i64 0]) (by
    simp only [results,Tryz.results97]
    go_simp
    rw [← hR]
    exact dl_bits (by omega) (by omega) (by omega) (by omega) (by omega) (by omega)) rfl ⟨rfl,hbw⟩
theorem enc_4 (n a b c g:Nat) (w:World) (hn:n<1000) (ha:n/100=a) (hb:n/10%10=b) (hc:n%10=c) (hg:a/8*4+b/8*2+c/8=g) (R:Int) (u2:Int) (hu2:0<=u2/\u2<8) (hv2:¬ 10<=u2)
  (hR:((((c:Int)/2%4):Int)*256+(a:Int)%2*128+((b:Int)/2%4)*32+(b:Int)%2*16+u2*2+(c:Int)%2)=R)
  (c21:∀ W,CB 137 #[.int .i64 (g:Int)] W (.agg #[.int .i64 12,.int .i64 11,.int .i64 u2])) :
  CB 97 #[.int .i64 (n:Int)] w (.tuple #[.int .i64 R,.int .i64 0]):=by
 have h0:¬ (n:Int)<0:=by omega
 have h9:¬ 999<(n:Int):=by omega
 have ea:(n:Int)/100=(a:Int):=by omega
 have eb:(n:Int)/10%10=(b:Int):=by omega
 have ec:(n:Int)%10=(c:Int):=by omega
 have eg:(a:Int)/8*4+(b:Int)/8*2+(c:Int)/8=(g:Int):=by omega
 have la:(a:Int)/8<=1:=by omega
 have lb:(b:Int)/8<=1:=by omega
 go_enter Tryz.func97,Tryz.ntmps97
 go_wp2_with (go_at_call 137;refine (c21 _).mono ?_;rintro r w1 ⟨rfl,hb1⟩;obtain ⟨_,_,_,_,hA1,_⟩:=wz w hb1;clear hb1)
 go_loopw [39] (fun t wr=>∃ i:Nat,i<=3/\t=.int .i64 i/\Thr wr w.heap.size a b c/\Thr wr w1.heap.size 12 11 u2/\Thr wr (w1.heap.size+1) (if 0<i then ((c:Int)/2%4) else 0) (if 1<i then ((b:Int)/2%4) else 0) (if 2<i then u2 else 0)/\(∀ j,wr.frozen? ⟨w1.heap.size+1,j,none⟩=false)/\Below w.heap.size w wr/\w1.heap.size+1<wr.heap.size) (fun t _=>3-(intOf t).toNat)
 case atStart=>exact ⟨0,by decide,rfl,⟨by go_simp,by go_simp,by go_simp⟩,⟨by go_simp,by go_simp,by go_simp⟩,⟨by go_simp,by go_simp,by go_simp⟩,fun j=>by go_simp,bgo,by simp⟩
 case round =>
  obtain ⟨i,hi,rfl,⟨p0,p1,p2⟩,⟨q0,q1,q2⟩,⟨s0,s1,s2⟩,hfr,hbw,hsz⟩:=hrel
  have hl0:w.heap.size<wr.heap.size:=by omega
  have hl1:w1.heap.size<wr.heap.size:=by omega
  have hne1:¬ w.heap.size=w1.heap.size+1:=by omega
  have hne2:¬ w1.heap.size=w1.heap.size+1:=by omega
  have hi':i=0∨i=1∨i=2∨i=3:=by omega
  rcases hi' with rfl | rfl | rfl | rfl
  ·go_wp2
   go_roundw
   case rel=>exact ⟨1,by omega,by go_num,⟨by go_simp,by go_simp,by go_simp⟩,⟨by go_simp,by go_simp,by go_simp⟩,⟨by go_simp,by go_simp,by go_simp⟩,fun j=>by go_simp,bgo,by simpa using hsz⟩
   case measure=>simp [intOf]
  ·go_wp2
   go_roundw
   case rel=>exact ⟨2,by omega,by go_num,⟨by go_simp,by go_simp,by go_simp⟩,⟨by go_simp,by go_simp,by go_simp⟩,⟨by go_simp,by go_simp,by go_simp⟩,fun j=>by go_simp,bgo,by simpa using hsz⟩
   case measure=>simp [intOf]
  ·go_wp2
   go_roundw
   case rel=>exact ⟨3,by omega,by go_num,⟨by go_simp,by go_simp,by go_simp⟩,⟨by go_simp,by go_simp,by go_simp⟩,⟨by go_simp,by go_simp,by go_simp⟩,fun j=>by go_simp,bgo,by simpa using hsz⟩
   case measure=>simp [intOf]
  ·go_wp2
   exact bodyPost_ret (v:=.tuple #[.int .i64 R,.int .i64 0]) (by
    simp only [results,Tryz.results97]
    go_simp
    rw [← hR]
    exact dl_bits (by omega) (by omega) (by omega) (by omega) (by omega) (by omega)) rfl ⟨rfl,hbw⟩
theorem enc_5 (n a b c g:Nat) (w:World) (hn:n<1000) (ha:n/100=a) (hb:n/10%10=b) (hc:n%10=c) (hg:a/8*4+b/8*2+c/8=g) (R:Int) (u1:Int) (hu1:0<=u1/\u1<4) (hv1:¬ 10<=u1) (u2:Int) (hu2:0<=u2/\u2<8) (hv2:¬ 10<=u2)
  (hR:((((b:Int)/2%4):Int)*256+(a:Int)%2*128+u1*32+(b:Int)%2*16+u2*2+(c:Int)%2)=R)
  (c21:∀ W,CB 137 #[.int .i64 (g:Int)] W (.agg #[.int .i64 11,.int .i64 u1,.int .i64 u2])) :
  CB 97 #[.int .i64 (n:Int)] w (.tuple #[.int .i64 R,.int .i64 0]):=by
 have h0:¬ (n:Int)<0:=by omega
 have h9:¬ 999<(n:Int):=by omega
 have ea:(n:Int)/100=(a:Int):=by omega
 have eb:(n:Int)/10%10=(b:Int):=by omega
 have ec:(n:Int)%10=(c:Int):=by omega
 have eg:(a:Int)/8*4+(b:Int)/8*2+(c:Int)/8=(g:Int):=by omega
 have la:(a:Int)/8<=1:=by omega
 have lb:(b:Int)/8<=1:=by omega
 go_enter Tryz.func97,Tryz.ntmps97
 go_wp2_with (go_at_call 137;refine (c21 _).mono ?_;rintro r w1 ⟨rfl,hb1⟩;obtain ⟨_,_,_,_,hA1,_⟩:=wz w hb1;clear hb1)
 go_loopw [39] (fun t wr=>∃ i:Nat,i<=3/\t=.int .i64 i/\Thr wr w.heap.size a b c/\Thr wr w1.heap.size 11 u1 u2/\Thr wr (w1.heap.size+1) (if 0<i then ((b:Int)/2%4) else 0) (if 1<i then u1 else 0) (if 2<i then u2 else 0)/\(∀ j,wr.frozen? ⟨w1.heap.size+1,j,none⟩=false)/\Below w.heap.size w wr/\w1.heap.size+1<wr.heap.size) (fun t _=>3-(intOf t).toNat)
 case atStart=>exact ⟨0,by decide,rfl,⟨by go_simp,by go_simp,by go_simp⟩,⟨by go_simp,by go_simp,by go_simp⟩,⟨by go_simp,by go_simp,by go_simp⟩,fun j=>by go_simp,bgo,by simp⟩
 case round =>
  obtain ⟨i,hi,rfl,⟨p0,p1,p2⟩,⟨q0,q1,q2⟩,⟨s0,s1,s2⟩,hfr,hbw,hsz⟩:=hrel
  have hl0:w.heap.size<wr.heap.size:=by omega
  have hl1:w1.heap.size<wr.heap.size:=by omega
  have hne1:¬ w.heap.size=w1.heap.size+1:=by omega
  have hne2:¬ w1.heap.size=w1.heap.size+1:=by omega
  have hi':i=0∨i=1∨i=2∨i=3:=by omega
  rcases hi' with rfl | rfl | rfl | rfl
  ·go_wp2
   go_roundw
   case rel=>exact ⟨1,by omega,by go_num,⟨by go_simp,by go_simp,by go_simp⟩,⟨by go_simp,by go_simp,by go_simp⟩,⟨by go_simp,by go_simp,by go_simp⟩,fun j=>by go_simp,bgo,by simpa using hsz⟩
   case measure=>simp [intOf]
  ·go_wp2
   go_roundw
   case rel=>exact ⟨2,by omega,by go_num,⟨by go_simp,by go_simp,by go_simp⟩,⟨by go_simp,by go_simp,by go_simp⟩,⟨by go_simp,by go_simp,by go_simp⟩,fun j=>by go_simp,bgo,by simpa using hsz⟩
   case measure=>simp [intOf]
  ·go_wp2
   go_roundw
   case rel=>exact ⟨3,by omega,by go_num,⟨by go_simp,by go_simp,by go_simp⟩,⟨by go_simp,by go_simp,by go_simp⟩,⟨by go_simp,by go_simp,by go_simp⟩,fun j=>by go_simp,bgo,by simpa using hsz⟩
   case measure=>simp [intOf]
  ·go_wp2
   exact bodyPost_ret (v:=.tuple #[.int .i64 R,.int .i64 0]) (by
    simp only [results,Tryz.results97]
    go_simp
    rw [← hR]
    exact dl_bits (by omega) (by omega) (by omega) (by omega) (by omega) (by omega)) rfl ⟨rfl,hbw⟩
theorem enc_6 (n a b c g:Nat) (w:World) (hn:n<1000) (ha:n/100=a) (hb:n/10%10=b) (hc:n%10=c) (hg:a/8*4+b/8*2+c/8=g) (R:Int) (u1:Int) (hu1:0<=u1/\u1<4) (hv1:¬ 10<=u1) (u2:Int) (hu2:0<=u2/\u2<8) (hv2:¬ 10<=u2)
  (hR:((((c:Int)/2%4):Int)*256+(a:Int)%2*128+u1*32+(b:Int)%2*16+u2*2+(c:Int)%2)=R)
  (c21:∀ W,CB 137 #[.int .i64 (g:Int)] W (.agg #[.int .i64 12,.int .i64 u1,.int .i64 u2])) :
  CB 97 #[.int .i64 (n:Int)] w (.tuple #[.int .i64 R,.int .i64 0]):=by
 have h0:¬ (n:Int)<0:=by omega
 have h9:¬ 999<(n:Int):=by omega
 have ea:(n:Int)/100=(a:Int):=by omega
 have eb:(n:Int)/10%10=(b:Int):=by omega
 have ec:(n:Int)%10=(c:Int):=by omega
 have eg:(a:Int)/8*4+(b:Int)/8*2+(c:Int)/8=(g:Int):=by omega
 have la:(a:Int)/8<=1:=by omega
 have lb:(b:Int)/8<=1:=by omega
 go_enter Tryz.func97,Tryz.ntmps97
 go_wp2_with (go_at_call 137;refine (c21 _).mono ?_;rintro r w1 ⟨rfl,hb1⟩;obtain ⟨_,_,_,_,hA1,_⟩:=wz w hb1;clear hb1)
 go_loopw [39] (fun t wr=>∃ i:Nat,i<=3/\t=.int .i64 i/\Thr wr w.heap.size a b c/\Thr wr w1.heap.size 12 u1 u2/\Thr wr (w1.heap.size+1) (if 0<i then ((c:Int)/2%4) else 0) (if 1<i then u1 else 0) (if 2<i then u2 else 0)/\(∀ j,wr.frozen? ⟨w1.heap.size+1,j,none⟩=false)/\Below w.heap.size w wr/\w1.heap.size+1<wr.heap.size) (fun t _=>3-(intOf t).toNat)
 case atStart=>exact ⟨0,by decide,rfl,⟨by go_simp,by go_simp,by go_simp⟩,⟨by go_simp,by go_simp,by go_simp⟩,⟨by go_simp,by go_simp,by go_simp⟩,fun j=>by go_simp,bgo,by simp⟩
 case round =>
  obtain ⟨i,hi,rfl,⟨p0,p1,p2⟩,⟨q0,q1,q2⟩,⟨s0,s1,s2⟩,hfr,hbw,hsz⟩:=hrel
  have hl0:w.heap.size<wr.heap.size:=by omega
  have hl1:w1.heap.size<wr.heap.size:=by omega
  have hne1:¬ w.heap.size=w1.heap.size+1:=by omega
  have hne2:¬ w1.heap.size=w1.heap.size+1:=by omega
  have hi':i=0∨i=1∨i=2∨i=3:=by omega
  rcases hi' with rfl | rfl | rfl | rfl
  ·go_wp2
   go_roundw
   case rel=>exact ⟨1,by omega,by go_num,⟨by go_simp,by go_simp,by go_simp⟩,⟨by go_simp,by go_simp,by go_simp⟩,⟨by go_simp,by go_simp,by go_simp⟩,fun j=>by go_simp,bgo,by simpa using hsz⟩
   case measure=>simp [intOf]
  ·go_wp2
   go_roundw
   case rel=>exact ⟨2,by omega,by go_num,⟨by go_simp,by go_simp,by go_simp⟩,⟨by go_simp,by go_simp,by go_simp⟩,⟨by go_simp,by go_simp,by go_simp⟩,fun j=>by go_simp,bgo,by simpa using hsz⟩
   case measure=>simp [intOf]
  ·go_wp2
   go_roundw
   case rel=>exact ⟨3,by omega,by go_num,⟨by go_simp,by go_simp,by go_simp⟩,⟨by go_simp,by go_simp,by go_simp⟩,⟨by go_simp,by go_simp,by go_simp⟩,fun j=>by go_simp,bgo,by simpa using hsz⟩
   case measure=>simp [intOf]
  ·go_wp2
   exact bodyPost_ret (v:=.tuple #[.int .i64 R,.int .i64 0]) (by
    simp only [results,Tryz.results97]
    go_simp
    rw [← hR]
    exact dl_bits (by omega) (by omega) (by omega) (by omega) (by omega) (by omega)) rfl ⟨rfl,hbw⟩
theorem enc_7 (n a b c g:Nat) (w:World) (hn:n<1000) (ha:n/100=a) (hb:n/10%10=b) (hc:n%10=c) (hg:a/8*4+b/8*2+c/8=g) (R:Int) (u0:Int) (hu0:0<=u0/\u0<4) (hv0:¬ 10<=u0) (u1:Int) (hu1:0<=u1/\u1<4) (hv1:¬ 10<=u1) (u2:Int) (hu2:0<=u2/\u2<8) (hv2:¬ 10<=u2)
  (hR:((u0:Int)*256+(a:Int)%2*128+u1*32+(b:Int)%2*16+u2*2+(c:Int)%2)=R)
  (c21:∀ W,CB 137 #[.int .i64 (g:Int)] W (.agg #[.int .i64 u0,.int .i64 u1,.int .i64 u2])) :
  CB 97 #[.int .i64 (n:Int)] w (.tuple #[.int .i64 R,.int .i64 0]):=by
 have h0:¬ (n:Int)<0:=by omega
 have h9:¬ 999<(n:Int):=by omega
 have ea:(n:Int)/100=(a:Int):=by omega
 have eb:(n:Int)/10%10=(b:Int):=by omega
 have ec:(n:Int)%10=(c:Int):=by omega
 have eg:(a:Int)/8*4+(b:Int)/8*2+(c:Int)/8=(g:Int):=by omega
 have la:(a:Int)/8<=1:=by omega
 have lb:(b:Int)/8<=1:=by omega
 go_enter Tryz.func97,Tryz.ntmps97
 go_wp2_with (go_at_call 137;refine (c21 _).mono ?_;rintro r w1 ⟨rfl,hb1⟩;obtain ⟨_,_,_,_,hA1,_⟩:=wz w hb1;clear hb1)
 go_loopw [39] (fun t wr=>∃ i:Nat,i<=3/\t=.int .i64 i/\Thr wr w.heap.size a b c/\Thr wr w1.heap.size u0 u1 u2/\Thr wr (w1.heap.size+1) (if 0<i then u0 else 0) (if 1<i then u1 else 0) (if 2<i then u2 else 0)/\(∀ j,wr.frozen? ⟨w1.heap.size+1,j,none⟩=false)/\Below w.heap.size w wr/\w1.heap.size+1<wr.heap.size) (fun t _=>3-(intOf t).toNat)
 case atStart=>exact ⟨0,by decide,rfl,⟨by go_simp,by go_simp,by go_simp⟩,⟨by go_simp,by go_simp,by go_simp⟩,⟨by go_simp,by go_simp,by go_simp⟩,fun j=>by go_simp,bgo,by simp⟩
 case round =>
  obtain ⟨i,hi,rfl,⟨p0,p1,p2⟩,⟨q0,q1,q2⟩,⟨s0,s1,s2⟩,hfr,hbw,hsz⟩:=hrel
  have hl0:w.heap.size<wr.heap.size:=by omega
  have hl1:w1.heap.size<wr.heap.size:=by omega
  have hne1:¬ w.heap.size=w1.heap.size+1:=by omega
  have hne2:¬ w1.heap.size=w1.heap.size+1:=by omega
  have hi':i=0∨i=1∨i=2∨i=3:=by omega
  rcases hi' with rfl | rfl | rfl | rfl
  ·go_wp2
   go_roundw
   case rel=>exact ⟨1,by omega,by go_num,⟨by go_simp,by go_simp,by go_simp⟩,⟨by go_simp,by go_simp,by go_simp⟩,⟨by go_simp,by go_simp,by go_simp⟩,fun j=>by go_simp,bgo,by simpa using hsz⟩
   case measure=>simp [intOf]
  ·go_wp2
   go_roundw
   case rel=>exact ⟨2,by omega,by go_num,⟨by go_simp,by go_simp,by go_simp⟩,⟨by go_simp,by go_simp,by go_simp⟩,⟨by go_simp,by go_simp,by go_simp⟩,fun j=>by go_simp,bgo,by simpa using hsz⟩
   case measure=>simp [intOf]
  ·go_wp2
   go_roundw
   case rel=>exact ⟨3,by omega,by go_num,⟨by go_simp,by go_simp,by go_simp⟩,⟨by go_simp,by go_simp,by go_simp⟩,⟨by go_simp,by go_simp,by go_simp⟩,fun j=>by go_simp,bgo,by simpa using hsz⟩
   case measure=>simp [intOf]
  ·go_wp2
   exact bodyPost_ret (v:=.tuple #[.int .i64 R,.int .i64 0]) (by
    simp only [results,Tryz.results97]
    go_simp
    rw [← hR]
    exact dl_bits (by omega) (by omega) (by omega) (by omega) (by omega) (by omega)) rfl ⟨rfl,hbw⟩
theorem enc_v (n:Nat) (hn:n<1000) (w:World):CB 97 #[.int .i64 (n:Int)] w (.tuple #[.int .i64 (dlE n:Int),.int .i64 0]):=by
 have hg:=dlG_lt hn
 have c21:=fun W=>row_v (dlG n) hg W
 have hgg:n/100/8*4+n/10%10/8*2+n%10/8=dlG n:=rfl
 have h:dlG n=0∨dlG n=1∨dlG n=2∨dlG n=3∨dlG n=4∨dlG n=5∨dlG n=6∨dlG n=7:=by omega
 rcases h with h | h | h | h | h | h | h | h
 ·have e:dlE n=n/100/2%4*256+n/100%2*128+n/10%10/2%4*32+n/10%10%2*16+n%10/2%4*2+n%10%2:=by
   unfold dlE
   rw [h]
   rfl
  refine enc_0 n _ _ _ (dlG n) w hn rfl rfl rfl hgg _ (by rw [e];omega) (fun W=>?_)
  have:=c21 W
  rw [h] at this ⊢
  exact this
 ·have e:dlE n=n/100/2%4*256+n/100%2*128+n/10%10/2%4*32+n/10%10%2*16+4*2+n%10%2:=by
   unfold dlE
   rw [h]
   rfl
  refine enc_1 n _ _ _ (dlG n) w hn rfl rfl rfl hgg _ 4 (by decide) (by decide) (by rw [e];omega) (fun W=>?_)
  have:=c21 W
  rw [h] at this ⊢
  exact this
 ·have e:dlE n=n/100/2%4*256+n/100%2*128+n%10/2%4*32+n/10%10%2*16+5*2+n%10%2:=by
   unfold dlE
   rw [h]
   rfl
  refine enc_2 n _ _ _ (dlG n) w hn rfl rfl rfl hgg _ 5 (by decide) (by decide) (by rw [e];omega) (fun W=>?_)
  have:=c21 W
  rw [h] at this ⊢
  exact this
 ·have e:dlE n=n/100/2%4*256+n/100%2*128+2*32+n/10%10%2*16+7*2+n%10%2:=by
   unfold dlE
   rw [h]
   rfl
  refine enc_3 n _ _ _ (dlG n) w hn rfl rfl rfl hgg _ 2 (by decide) (by decide) 7 (by decide) (by decide) (by rw [e];omega) (fun W=>?_)
  have:=c21 W
  rw [h] at this ⊢
  exact this
 ·have e:dlE n=n%10/2%4*256+n/100%2*128+n/10%10/2%4*32+n/10%10%2*16+6*2+n%10%2:=by
   unfold dlE
   rw [h]
   rfl
  refine enc_4 n _ _ _ (dlG n) w hn rfl rfl rfl hgg _ 6 (by decide) (by decide) (by rw [e];omega) (fun W=>?_)
  have:=c21 W
  rw [h] at this ⊢
  exact this
 ·have e:dlE n=n/10%10/2%4*256+n/100%2*128+1*32+n/10%10%2*16+7*2+n%10%2:=by
   unfold dlE
   rw [h]
   rfl
  refine enc_5 n _ _ _ (dlG n) w hn rfl rfl rfl hgg _ 1 (by decide) (by decide) 7 (by decide) (by decide) (by rw [e];omega) (fun W=>?_)
  have:=c21 W
  rw [h] at this ⊢
  exact this
 ·have e:dlE n=n%10/2%4*256+n/100%2*128+0*32+n/10%10%2*16+7*2+n%10%2:=by
   unfold dlE
   rw [h]
   rfl
  refine enc_6 n _ _ _ (dlG n) w hn rfl rfl rfl hgg _ 0 (by decide) (by decide) 7 (by decide) (by decide) (by rw [e];omega) (fun W=>?_)
  have:=c21 W
  rw [h] at this ⊢
  exact this
 ·have e:dlE n=0*256+n/100%2*128+3*32+n/10%10%2*16+7*2+n%10%2:=by
   unfold dlE
   rw [h]
   rfl
  refine enc_7 n _ _ _ (dlG n) w hn rfl rfl rfl hgg _ 0 (by decide) (by decide) 3 (by decide) (by decide) 7 (by decide) (by decide) (by rw [e];omega) (fun W=>?_)
  have:=c21 W
  rw [h] at this ⊢
  exact this
end Go.Proofs.YtpabnhlfbjkmaaaGreatDoor
