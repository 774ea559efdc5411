/-
  Texts that the proof leans on.
-/
import Derived.Test.YtahfkpjhlbiamaaGreatDoorJ11
import Derived.Test.YtahfkpjhlbiamaaGreatDoorJ1
import Derived.Test.YtahfkpjhlbiamaaGreatDoorJ4
set_option maxHeartbeats 8000000
set_option linter.unusedVariables false
set_option linter.unusedSectionVars false
set_option linter.unusedSimpArgs false
set_option maxRecDepth 20000
namespace Go.Proofs.YtahfkpjhlbiamaaGreatDoor
open Go.RowKit
section
attribute [local go_sem ↓] Go.wp_at_zero Go.wp_at_succ
theorem zMx {k V:Nat}{z:Nat->Int}(hz:zDa z)(h0:∀ i,k<=i->z i=0)(hv:val z k=(V:Int)):val z 4=((V%2^256:Nat):Int):=by
 have h1:val z (4+k)=(V:Int):=by rw [zLa h0 (4+k) (by omega),hv]
 rw [zVb z 4 k] at h1
 have hb:=zVa hz 4
 have e4:(18446744073709551616:Int)^4=((2^256:Nat):Int):=by decide
 rw [e4] at h1 hb
 have h5:=congrArg (·%((2^256:Nat):Int)) h1
 simp only [Int.add_mul_emod_self_right,Int.emod_eq_of_lt hb.1 hb.2] at h5
 rw [h5]
 rfl
theorem zJ5 (g k cap:Nat)(z:Nat->Int)(w:World)(h:Num w (some ⟨g,0,none⟩) k cap z) :
  CB 62 #[.slice (some ⟨g,0,none⟩) k cap] w (.agg (arrOf z 4)):=by
 have hw:=fun (i:Nat) (o1 o2:Obj)=>zJb (some ⟨g,0,none⟩) k cap i z ((w.alloc o1).alloc o2) ((h.next (zEa w _)).next (zEa _ _))
 clear h
 go_enter Tryz.func62,Tryz.ntmps62
 go_wp2
 go_loopw [4,5] (fun u4 i wr=>∃ (j:Nat) (ss:Array Value),j<=4/\i=.int .i64 j/\ss.size=4/\(∀ q h,ss[q]'h=Value.int .u64 (if q<j then z q else 0))/\wr=(w.alloc (.cells #[.int .u64 0,.int .u64 0,.int .u64 0,.int .u64 0] 24)).alloc (.cells ss 24)) (fun _ i _=>4-(intOf i).toNat)
 case atStart=>exact ⟨0,_,Nat.zero_le _,rfl,rfl,by intro q h;have h':q<4:=h;match q,h' with|0,_=>rfl|1,_=>rfl|2,_=>rfl|3,_=>rfl,rfl⟩
 case round =>
  obtain ⟨j,ss,hj,rfl,hsz,hss,rfl⟩:=hrel
  by_cases h4:j<4
  ·have h4i:(j:Int)<4:=by omega
   have h4s:j<ss.size:=by omega
   have hsk:ss[j]?=some (.int .u64 0):=by rw [Array.getElem?_eq_getElem h4s,hss j h4s,if_neg (by omega)]
   have HR:Hid (∀ (i:Nat) (h:i<(ss.setIfInBounds j (.int .u64 (z j))).size),(ss.setIfInBounds j (.int .u64 (z j)))[i]'h=Value.int .u64 (if i<j+1 then z i else 0)):=zIc hss
   have hwj:=hw j (.cells #[.int .u64 0,.int .u64 0,.int .u64 0,.int .u64 0] 24) (.cells ss 24)
   clear hss hw
   go_wp2_with (go_at_call 127;refine hwj.mono ?_;rintro e w' ⟨rfl,rfl⟩)
   go_roundw
   case rel=>exact ⟨j+1,ss.setIfInBounds j (.int .u64 (z j)),by omega,by go_num,by simp [hsz],HR.out,rfl⟩
   case measure=>simp [intOf];omega
  ·obtain rfl:j=4:=by omega
   have hss':∀ q h,ss[q]'h=Value.int .u64 (z q):=by
    intro q h;rw [hss q h,if_pos (by omega)]
   clear hss hw
   go_wp2
   exact bodyPost_ret (v:=.agg (arrOf z 4)) (by simp [results,Tryz.results62,go_sem];rfl) rfl ⟨rfl,((Below.refl _ _).alloc (Nat.le_refl _) _).alloc (by simp) _⟩
theorem zTd {K V:Nat}{v:Value}{w:World}(h:NV K V v w) :
  CB 62 #[v] w (A4 V):=by
 obtain ⟨g,k,cap,z,rfl,hk,hN,hv⟩:=h
 refine (zJ5 g k cap z w hN).mono ?_
 rintro e w' ⟨rfl,hb⟩
 refine ⟨?_,hb⟩
 rw [zJh hN.2.2.1 (zMx hN.2.2.1 hN.2.2.2.1 hv)]
theorem zCo {K V:Nat}{v:Value}{w:World}(h:NV K V v w)(hK:K<1000)(hV:V<9223372036854775808) :
    Calls Tryz.prog 61 #[v] w fun e w'=>e=.returned (.int .i64 V)/\w'=w:=by
  obtain ⟨g,k,cap,z,rfl,hk,hN,hv⟩:=h
  obtain ⟨h1,h2,h3,h4,h5⟩:=hN
  rcases h5 with ⟨h5,_⟩|⟨b,off,e,hb,hc⟩
  · cases h5
  · cases e
    rcases Nat.eq_zero_or_pos k with hk0|hk0
    · subst hk0
      have : V = 0 := by have : val z 0 = 0 := rfl
                         omega
      subst this
      go_enter Tryz.func61,Tryz.ntmps61
      go_wp2
      go_ret
      exact ⟨rfl,rfl⟩
    · have hc0:=hc 0 hk0
      have hz0:=h3 0
      have e0:z 0=(V:Int):=by
        have hl:=zMx h3 h4 hv
        obtain ⟨j,rfl⟩:∃ j,k=1+j:=⟨k-1,by omega⟩
        have hs:=zVb z 1 j
        have hb2:=zVa (zKb h3 1 j) j
        have h10:val z 1=z 0:=by show val z 0+z 0*18446744073709551616^0=z 0;simp [val]
        rw [hv,h10] at hs
        simp only [Int.pow_one] at hs
        have hm:0<=val (segW z 1 j) j:=hb2.1
        by_cases hp:0<val (segW z 1 j) j
        · exfalso;omega
        · have:val (segW z 1 j) j=0:=by omega
          rw [this] at hs;omega
      have hk1:¬ ((k:Int)=0):=by omega
      rw [e0] at hc0
      simp only [Nat.add_zero] at hc0
      have hkb:(k==0)=false:=by simp;omega
      have hki:(0:Int)<k:=by omega
      clear hc h3 h4 hv e0 hz0
      go_enter Tryz.func61,Tryz.ntmps61
      go_wp2
      go_ret
      exact ⟨rfl,rfl⟩
theorem zSl {w0 w:World}{B:Nat}{t:TypeId}(hB:B<2^256)(hb:Below (w0.alloc (.cells #[.int .u64 (W4 B 0),.int .u64 (W4 B 1),.int .u64 (W4 B 2),.int .u64 (W4 B 3)] t)).heap.size (w0.alloc (.cells #[.int .u64 (W4 B 0),.int .u64 (W4 B 1),.int .u64 (W4 B 2),.int .u64 (W4 B 3)] t)) w) :
  NV 4 B (.slice (some ⟨w0.heap.size,0,none⟩) 4 4) w :=
 ⟨_,4,4,_,rfl,Nat.le_refl _,zRq (zJa B) (zY0 B) hb,by
  rw [zKa (x:=zVe (W4 B) 4) (y:=W4 B) 4 (fun i hi=>zLb hi),zRb hB]⟩
theorem zGf (B at_ n:Nat)(w:World)(hB:B<2^256)(ha:at_<=600)(hn:n<=600) :
  CE 60 #[A4 B,.int .i64 at_,.int .i64 n] w (NT 19 (B/2^at_%2^n)):=by
 have hbx:=zSl (w0:=w) (B:=B) (t:=24) hB (Below.refl _ _)
 go_enter Tryz.func60,Tryz.ntmps60
 go_wp2_with (first
  | (have:=hA2;go_at_call 87;refine (zNr n (by decide) hn hh).mono ?_;rintro e w3 ⟨v3,rfl,hl,hb3⟩;replace hx:=hx.next hb3;have hA3:=zYc hA2 hb3)
  | (have:=hA1;go_at_call 93;refine (zTn n (by decide) hn hx).mono ?_;rintro e w2 ⟨v2,b2,rfl,hh,hb2⟩;replace hx:=hx.next hb2;have hA2:=zYc hA1 hb2)
  | (go_at_call 93;refine (zTn at_ (by decide) ha hbx).mono ?_;rintro e w1 ⟨v1,b1,rfl,hx,hb1⟩;have hA1:=zYc (w0:=w) bgo hb1)
  | (go_at_call 126;refine (zQ2 (by decide) (by decide) hx hl (Nat.div_mul_le_self _ _)).mono ?_;rintro e w4 ⟨v4,rfl,hr,hb4⟩;have hA4:=zYc hA3 hb4))
 go_ret
 refine ⟨_,rfl,?_,hA4⟩
 rw [show B/2^at_%2^n=B/2^at_-B/2^at_/2^n*2^n by have:=Nat.div_add_mod' (B/2^at_) (2^n);omega]
 exact hr
end
theorem zHf {t0 x t1 y t2 z:Int}(h0:0<=t0/\t0<4)(h1:0<=x/\x<2)(h2:0<=t1/\t1<4)(h3:0<=y/\y<2)(h4:0<=t2/\t2<8)(h5:0<=z/\z<2) :
  bits .or .i64 (bits .or .i64 (bits .or .i64 (bits .or .i64 (bits .or .i64 (t0*256) (x*128)) (t1*32)) (y*16)) (t2*2)) z=t0*256+x*128+t1*32+y*16+t2*2+z:=by
 obtain ⟨a,rfl⟩:=Int.eq_ofNat_of_zero_le h0.1
 obtain ⟨b,rfl⟩:=Int.eq_ofNat_of_zero_le h1.1
 obtain ⟨c,rfl⟩:=Int.eq_ofNat_of_zero_le h2.1
 obtain ⟨d,rfl⟩:=Int.eq_ofNat_of_zero_le h3.1
 obtain ⟨e,rfl⟩:=Int.eq_ofNat_of_zero_le h4.1
 obtain ⟨f,rfl⟩:=Int.eq_ofNat_of_zero_le h5.1
 have h:=zUd (f:=fun i=>decide (bits .or .i64 (bits .or .i64 (bits .or .i64 (bits .or .i64 (bits .or .i64 (((i/256:Nat):Int)*256) (((i/128%2:Nat):Int)*128)) (((i/32%4:Nat):Int)*32)) (((i/16%2:Nat):Int)*16)) (((i/2%8:Nat):Int)*2)) ((i%2:Nat):Int)=(i:Int))) (m:=1024) (by decide +kernel) (a*256+b*128+c*32+d*16+e*2+f) (by omega)
 have h':=of_decide_eq_true h
 obtain ⟨i,hi⟩:∃ i,i=a*256+b*128+c*32+d*16+e*2+f:=⟨_,rfl⟩
 rw [← hi] at h'
 rw [show i/256=a by omega,show i/128%2=b by omega,show i/32%4=c by omega,show i/16%2=d by omega,show i/2%8=e by omega,show i%2=f by omega] at h'
 rw [h',hi]
 omega
structure Thr (w:World) (g:Nat) (x y z:Int):Prop where
 c0:w.cell? ⟨g,0,none⟩=some (.int .i64 x)
 c1:w.cell? ⟨g,1,none⟩=some (.int .i64 y)
 c2:w.cell? ⟨g,2,none⟩=some (.int .i64 z)
theorem enc_0 (n a b c g:Nat)(w:World)(hn:n<1000)(ha:n/100=a)(hb:n/10%10=b)(hc:n%10=c)(hg:a/8*4+b/8*2+c/8=g)(R:Int)
  (hR:((((a:Int)/2%4):Int)*256+(a:Int)%2*128+((b:Int)/2%4)*32+(b:Int)%2*16+((c:Int)/2%4)*2+(c:Int)%2)=R)
  (c21:∀ W,CB 192 #[.int .i64 (g:Int)] W (.agg #[.int .i64 10,.int .i64 11,.int .i64 22])) :
  CB 155 #[.int .i64 (n:Int)] w (.tuple #[.int .i64 R,.int .i64 0]):=by
 have h0:¬ (n:Int)<0:=by omega
 have h9:¬ 999<(n:Int):=by omega
 have ea:(n:Int)/100=(a:Int):=by omega
 have eb:(n:Int)/10%10=(b:Int):=by omega
 have ec:(n:Int)%10=(c:Int):=by omega
 have eg:(a:Int)/8*4+(b:Int)/8*2+(c:Int)/8=(g:Int):=by omega
 have la:(a:Int)/8<=1:=by omega
 have lb:(b:Int)/8<=1:=by omega
 go_enter Tryz.func155,Tryz.ntmps155
 go_wp2_with (go_at_call 192;refine wk w (c21 _) ?_;intro w1 hb1 _ _ _ _ hA1 _;clear hb1)
 go_loopw [39] (fun t wr=>∃ i:Nat,i<=3/\t=.int .i64 i/\Thr wr w.heap.size a b c/\Thr wr w1.heap.size 10 11 22/\Thr wr (w1.heap.size+1) (if 0<i then ((a:Int)/2%4) else 0) (if 1<i then ((b:Int)/2%4) else 0) (if 2<i then ((c:Int)/2%4) else 0)/\(∀ j,wr.frozen? ⟨w1.heap.size+1,j,none⟩=false)/\Below w.heap.size w wr/\w1.heap.size+1<wr.heap.size) (fun t _=>3-(intOf t).toNat)
 case atStart=>exact ⟨0,by decide,rfl,⟨by go_simp,by go_simp,by go_simp⟩,⟨by go_simp,by go_simp,by go_simp⟩,⟨by go_simp,by go_simp,by go_simp⟩,fun j=>by go_simp,bgo,by simp⟩
 case round =>
  obtain ⟨i,hi,rfl,⟨p0,p1,p2⟩,⟨q0,q1,q2⟩,⟨s0,s1,s2⟩,hfr,hbw,hsz⟩:=hrel
  have hl0:w.heap.size<wr.heap.size:=by omega
  have hl1:w1.heap.size<wr.heap.size:=by omega
  have hne1:¬ w.heap.size=w1.heap.size+1:=by omega
  have hne2:¬ w1.heap.size=w1.heap.size+1:=by omega
  have hi':i=0∨i=1∨i=2∨i=3:=by omega
  rcases hi' with rfl|rfl|rfl|rfl
  ·go_wp2
   go_roundw
   case rel=>exact ⟨1,by omega,by go_num,⟨by go_simp,by go_simp,by go_simp⟩,⟨by go_simp,by go_simp,by go_simp⟩,⟨by go_simp,by go_simp,by go_simp⟩,fun j=>by go_simp,bgo,by simpa using hsz⟩
   case measure=>simp [intOf]
  ·go_wp2
   go_roundw
   case rel=>exact ⟨2,by omega,by go_num,⟨by go_simp,by go_simp,by go_simp⟩,⟨by go_simp,by go_simp,by go_simp⟩,⟨by go_simp,by go_simp,by go_simp⟩,fun j=>by go_simp,bgo,by simpa using hsz⟩
   case measure=>simp [intOf]
  ·go_wp2
   go_roundw
   case rel=>exact ⟨3,by omega,by go_num,⟨by go_simp,by go_simp,by go_simp⟩,⟨by go_simp,by go_simp,by go_simp⟩,⟨by go_simp,by go_simp,by go_simp⟩,fun j=>by go_simp,bgo,by simpa using hsz⟩
   case measure=>simp [intOf]
  ·go_wp2
   exact bodyPost_ret (v:=.tuple #[.int .i64 R,.int .i64 0]) (by
    simp only [results,Tryz.results155]
    go_simp
    rw [← hR]
    exact zHf (by omega) (by omega) (by omega) (by omega) (by omega) (by omega)) rfl ⟨rfl,hbw⟩
theorem enc_1 (n a b c g:Nat)(w:World)(hn:n<1000)(ha:n/100=a)(hb:n/10%10=b)(hc:n%10=c)(hg:a/8*4+b/8*2+c/8=g)(R:Int)(u2:Int)(hu2:0<=u2/\u2<8)(hv2:¬ 10<=u2)
  (hR:((((a:Int)/2%4):Int)*256+(a:Int)%2*128+((b:Int)/2%4)*32+(b:Int)%2*16+u2*2+(c:Int)%2)=R)
  (c21:∀ W,CB 192 #[.int .i64 (g:Int)] W (.agg #[.int .i64 10,.int .i64 11,.int .i64 u2])) :
  CB 155 #[.int .i64 (n:Int)] w (.tuple #[.int .i64 R,.int .i64 0]):=by
 have h0:¬ (n:Int)<0:=by omega
 have h9:¬ 999<(n:Int):=by omega
 have ea:(n:Int)/100=(a:Int):=by omega
 have eb:(n:Int)/10%10=(b:Int):=by omega
 have ec:(n:Int)%10=(c:Int):=by omega
 have eg:(a:Int)/8*4+(b:Int)/8*2+(c:Int)/8=(g:Int):=by omega
 have la:(a:Int)/8<=1:=by omega
 have lb:(b:Int)/8<=1:=by omega
 go_enter Tryz.func155,Tryz.ntmps155
 go_wp2_with (go_at_call 192;refine wk w (c21 _) ?_;intro w1 hb1 _ _ _ _ hA1 _;clear hb1)
 go_loopw [39] (fun t wr=>∃ i:Nat,i<=3/\t=.int .i64 i/\Thr wr w.heap.size a b c/\Thr wr w1.heap.size 10 11 u2/\Thr wr (w1.heap.size+1) (if 0<i then ((a:Int)/2%4) else 0) (if 1<i then ((b:Int)/2%4) else 0) (if 2<i then u2 else 0)/\(∀ j,wr.frozen? ⟨w1.heap.size+1,j,none⟩=false)/\Below w.heap.size w wr/\w1.heap.size+1<wr.heap.size) (fun t _=>3-(intOf t).toNat)
 case atStart=>exact ⟨0,by decide,rfl,⟨by go_simp,by go_simp,by go_simp⟩,⟨by go_simp,by go_simp,by go_simp⟩,⟨by go_simp,by go_simp,by go_simp⟩,fun j=>by go_simp,bgo,by simp⟩
 case round =>
  obtain ⟨i,hi,rfl,⟨p0,p1,p2⟩,⟨q0,q1,q2⟩,⟨s0,s1,s2⟩,hfr,hbw,hsz⟩:=hrel
  have hl0:w.heap.size<wr.heap.size:=by omega
  have hl1:w1.heap.size<wr.heap.size:=by omega
  have hne1:¬ w.heap.size=w1.heap.size+1:=by omega
  have hne2:¬ w1.heap.size=w1.heap.size+1:=by omega
  have hi':i=0∨i=1∨i=2∨i=3:=by omega
  rcases hi' with rfl|rfl|rfl|rfl
  ·go_wp2
   go_roundw
   case rel=>exact ⟨1,by omega,by go_num,⟨by go_simp,by go_simp,by go_simp⟩,⟨by go_simp,by go_simp,by go_simp⟩,⟨by go_simp,by go_simp,by go_simp⟩,fun j=>by go_simp,bgo,by simpa using hsz⟩
   case measure=>simp [intOf]
  ·go_wp2
   go_roundw
   case rel=>exact ⟨2,by omega,by go_num,⟨by go_simp,by go_simp,by go_simp⟩,⟨by go_simp,by go_simp,by go_simp⟩,⟨by go_simp,by go_simp,by go_simp⟩,fun j=>by go_simp,bgo,by simpa using hsz⟩
   case measure=>simp [intOf]
  ·go_wp2
   go_roundw
   case rel=>exact ⟨3,by omega,by go_num,⟨by go_simp,by go_simp,by go_simp⟩,⟨by go_simp,by go_simp,by go_simp⟩,⟨by go_simp,by go_simp,by go_simp⟩,fun j=>by go_simp,bgo,by simpa using hsz⟩
   case measure=>simp [intOf]
  ·go_wp2
   exact bodyPost_ret (v:=.tuple #[.int .i64 R,.int .i64 0]) (by
    simp only [results,Tryz.results155]
    go_simp
    rw [← hR]
    exact zHf (by omega) (by omega) (by omega) (by omega) (by omega) (by omega)) rfl ⟨rfl,hbw⟩
theorem enc_2 (n a b c g:Nat)(w:World)(hn:n<1000)(ha:n/100=a)(hb:n/10%10=b)(hc:n%10=c)(hg:a/8*4+b/8*2+c/8=g)(R:Int)(u2:Int)(hu2:0<=u2/\u2<8)(hv2:¬ 10<=u2)
  (hR:((((a:Int)/2%4):Int)*256+(a:Int)%2*128+((c:Int)/2%4)*32+(b:Int)%2*16+u2*2+(c:Int)%2)=R)
  (c21:∀ W,CB 192 #[.int .i64 (g:Int)] W (.agg #[.int .i64 10,.int .i64 12,.int .i64 u2])) :
  CB 155 #[.int .i64 (n:Int)] w (.tuple #[.int .i64 R,.int .i64 0]):=by
 have h0:¬ (n:Int)<0:=by omega
 have h9:¬ 999<(n:Int):=by omega
 have ea:(n:Int)/100=(a:Int):=by omega
 have eb:(n:Int)/10%10=(b:Int):=by omega
 have ec:(n:Int)%10=(c:Int):=by omega
 have eg:(a:Int)/8*4+(b:Int)/8*2+(c:Int)/8=(g:Int):=by omega
 have la:(a:Int)/8<=1:=by omega
 have lb:(b:Int)/8<=1:=by omega
 go_enter Tryz.func155,Tryz.ntmps155
 go_wp2_with (go_at_call 192;refine wk w (c21 _) ?_;intro w1 hb1 _ _ _ _ hA1 _;clear hb1)
 go_loopw [39] (fun t wr=>∃ i:Nat,i<=3/\t=.int .i64 i/\Thr wr w.heap.size a b c/\Thr wr w1.heap.size 10 12 u2/\Thr wr (w1.heap.size+1) (if 0<i then ((a:Int)/2%4) else 0) (if 1<i then ((c:Int)/2%4) else 0) (if 2<i then u2 else 0)/\(∀ j,wr.frozen? ⟨w1.heap.size+1,j,none⟩=false)/\Below w.heap.size w wr/\w1.heap.size+1<wr.heap.size) (fun t _=>3-(intOf t).toNat)
 case atStart=>exact ⟨0,by decide,rfl,⟨by go_simp,by go_simp,by go_simp⟩,⟨by go_simp,by go_simp,by go_simp⟩,⟨by go_simp,by go_simp,by go_simp⟩,fun j=>by go_simp,bgo,by simp⟩
 case round =>
  obtain ⟨i,hi,rfl,⟨p0,p1,p2⟩,⟨q0,q1,q2⟩,⟨s0,s1,s2⟩,hfr,hbw,hsz⟩:=hrel
  have hl0:w.heap.size<wr.heap.size:=by omega
  have hl1:w1.heap.size<wr.heap.size:=by omega
  have hne1:¬ w.heap.size=w1.heap.size+1:=by omega
  have hne2:¬ w1.heap.size=w1.heap.size+1:=by omega
  have hi':i=0∨i=1∨i=2∨i=3:=by omega
  rcases hi' with rfl|rfl|rfl|rfl
  ·go_wp2
   go_roundw
   case rel=>exact ⟨1,by omega,by go_num,⟨by go_simp,by go_simp,by go_simp⟩,⟨by go_simp,by go_simp,by go_simp⟩,⟨by go_simp,by go_simp,by go_simp⟩,fun j=>by go_simp,bgo,by simpa using hsz⟩
   case measure=>simp [intOf]
  ·go_wp2
   go_roundw
   case rel=>exact ⟨2,by omega,by go_num,⟨by go_simp,by go_simp,by go_simp⟩,⟨by go_simp,by go_simp,by go_simp⟩,⟨by go_simp,by go_simp,by go_simp⟩,fun j=>by go_simp,bgo,by simpa using hsz⟩
   case measure=>simp [intOf]
  ·go_wp2
   go_roundw
   case rel=>exact ⟨3,by omega,by go_num,⟨by go_simp,by go_simp,by go_simp⟩,⟨by go_simp,by go_simp,by go_simp⟩,⟨by go_simp,by go_simp,by go_simp⟩,fun j=>by go_simp,bgo,by simpa using hsz⟩
   case measure=>simp [intOf]
  ·go_wp2
   exact bodyPost_ret (v:=.tuple #[.int .i64 R,.int .i64 0]) (by
    simp only [results,Tryz.results155]
    go_simp
    rw [← hR]
    exact zHf (by omega) (by omega) (by omega) (by omega) (by omega) (by omega)) rfl ⟨rfl,hbw⟩
theorem enc_3 (n a b c g:Nat)(w:World)(hn:n<1000)(ha:n/100=a)(hb:n/10%10=b)(hc:n%10=c)(hg:a/8*4+b/8*2+c/8=g)(R:Int)(u1:Int)(hu1:0<=u1/\u1<4)(hv1:¬ 10<=u1)(u2:Int)(hu2:0<=u2/\u2<8)(hv2:¬ 10<=u2)
  (hR:((((a:Int)/2%4):Int)*256+(a:Int)%2*128+u1*32+(b:Int)%2*16+u2*2+(c:Int)%2)=R)
  (c21:∀ W,CB 192 #[.int .i64 (g:Int)] W (.agg #[.int .i64 10,.int .i64 u1,.int .i64 u2])) :
  CB 155 #[.int .i64 (n:Int)] w (.tuple #[.int .i64 R,.int .i64 0]):=by
 have h0:¬ (n:Int)<0:=by omega
 have h9:¬ 999<(n:Int):=by omega
 have ea:(n:Int)/100=(a:Int):=by omega
 have eb:(n:Int)/10%10=(b:Int):=by omega
 have ec:(n:Int)%10=(c:Int):=by omega
 have eg:(a:Int)/8*4+(b:Int)/8*2+(c:Int)/8=(g:Int):=by omega
 have la:(a:Int)/8<=1:=by omega
 have lb:(b:Int)/8<=1:=by omega
 go_enter Tryz.func155,Tryz.ntmps155
 go_wp2_with (go_at_call 192;refine wk w (c21 _) ?_;intro w1 hb1 _ _ _ _ hA1 _;clear hb1)
 go_loopw [39] (fun t wr=>∃ i:Nat,i<=3/\t=.int .i64 i/\Thr wr w.heap.size a b c/\Thr wr w1.heap.size 10 u1 u2/\Thr wr (w1.heap.size+1) (if 0<i then ((a:Int)/2%4) else 0) (if 1<i then u1 else 0) (if 2<i then u2 else 0)/\(∀ j,wr.frozen? ⟨w1.heap.size+1,j,none⟩=false)/\Below w.heap.size w wr/\w1.heap.size+1<wr.heap.size) (fun t _=>3-(intOf t).toNat)
 case atStart=>exact ⟨0,by decide,rfl,⟨by go_simp,by go_simp,by go_simp⟩,⟨by go_simp,by go_simp,by go_simp⟩,⟨by go_simp,by go_simp,by go_simp⟩,fun j=>by go_simp,bgo,by simp⟩
 case round =>
  obtain ⟨i,hi,rfl,⟨p0,p1,p2⟩,⟨q0,q1,q2⟩,⟨s0,s1,s2⟩,hfr,hbw,hsz⟩:=hrel
  have hl0:w.heap.size<wr.heap.size:=by omega
  have hl1:w1.heap.size<wr.heap.size:=by omega
  have hne1:¬ w.heap.size=w1.heap.size+1:=by omega
  have hne2:¬ w1.heap.size=w1.heap.size+1:=by omega
  have hi':i=0∨i=1∨i=2∨i=3:=by omega
  rcases hi' with rfl|rfl|rfl|rfl
  ·go_wp2
   go_roundw
   case rel=>exact ⟨1,by omega,by go_num,⟨by go_simp,by go_simp,by go_simp⟩,⟨by go_simp,by go_simp,by go_simp⟩,⟨by go_simp,by go_simp,by go_simp⟩,fun j=>by go_simp,bgo,by simpa using hsz⟩
   case measure=>simp [intOf]
  ·go_wp2
   go_roundw
   case rel=>exact ⟨2,by omega,by go_num,⟨by go_simp,by go_simp,by go_simp⟩,⟨by go_simp,by go_simp,by go_simp⟩,⟨by go_simp,by go_simp,by go_simp⟩,fun j=>by go_simp,bgo,by simpa using hsz⟩
   case measure=>simp [intOf]
  ·go_wp2
   go_roundw
   case rel=>exact ⟨3,by omega,by go_num,⟨by go_simp,by go_simp,by go_simp⟩,⟨by go_simp,by go_simp,by go_simp⟩,⟨by go_simp,by go_simp,by go_simp⟩,fun j=>by go_simp,bgo,by simpa using hsz⟩
   case measure=>simp [intOf]
  ·go_wp2
   exact bodyPost_ret (v:=.tuple #[.int .i64 R,.int .i64 0]) (by
    simp only [results,Tryz.results155]
    go_simp
    rw [← hR]
    exact zHf (by omega) (by omega) (by omega) (by omega) (by omega) (by omega)) rfl ⟨rfl,hbw⟩
theorem enc_4 (n a b c g:Nat)(w:World)(hn:n<1000)(ha:n/100=a)(hb:n/10%10=b)(hc:n%10=c)(hg:a/8*4+b/8*2+c/8=g)(R:Int)(u2:Int)(hu2:0<=u2/\u2<8)(hv2:¬ 10<=u2)
  (hR:((((c:Int)/2%4):Int)*256+(a:Int)%2*128+((b:Int)/2%4)*32+(b:Int)%2*16+u2*2+(c:Int)%2)=R)
  (c21:∀ W,CB 192 #[.int .i64 (g:Int)] W (.agg #[.int .i64 12,.int .i64 11,.int .i64 u2])) :
  CB 155 #[.int .i64 (n:Int)] w (.tuple #[.int .i64 R,.int .i64 0]):=by
 have h0:¬ (n:Int)<0:=by omega
 have h9:¬ 999<(n:Int):=by omega
 have ea:(n:Int)/100=(a:Int):=by omega
 have eb:(n:Int)/10%10=(b:Int):=by omega
 have ec:(n:Int)%10=(c:Int):=by omega
 have eg:(a:Int)/8*4+(b:Int)/8*2+(c:Int)/8=(g:Int):=by omega
 have la:(a:Int)/8<=1:=by omega
 have lb:(b:Int)/8<=1:=by omega
 go_enter Tryz.func155,Tryz.ntmps155
 go_wp2_with (go_at_call 192;refine wk w (c21 _) ?_;intro w1 hb1 _ _ _ _ hA1 _;clear hb1)
 go_loopw [39] (fun t wr=>∃ i:Nat,i<=3/\t=.int .i64 i/\Thr wr w.heap.size a b c/\Thr wr w1.heap.size 12 11 u2/\Thr wr (w1.heap.size+1) (if 0<i then ((c:Int)/2%4) else 0) (if 1<i then ((b:Int)/2%4) else 0) (if 2<i then u2 else 0)/\(∀ j,wr.frozen? ⟨w1.heap.size+1,j,none⟩=false)/\Below w.heap.size w wr/\w1.heap.size+1<wr.heap.size) (fun t _=>3-(intOf t).toNat)
 case atStart=>exact ⟨0,by decide,rfl,⟨by go_simp,by go_simp,by go_simp⟩,⟨by go_simp,by go_simp,by go_simp⟩,⟨by go_simp,by go_simp,by go_simp⟩,fun j=>by go_simp,bgo,by simp⟩
 case round =>
  obtain ⟨i,hi,rfl,⟨p0,p1,p2⟩,⟨q0,q1,q2⟩,⟨s0,s1,s2⟩,hfr,hbw,hsz⟩:=hrel
  have hl0:w.heap.size<wr.heap.size:=by omega
  have hl1:w1.heap.size<wr.heap.size:=by omega
  have hne1:¬ w.heap.size=w1.heap.size+1:=by omega
  have hne2:¬ w1.heap.size=w1.heap.size+1:=by omega
  have hi':i=0∨i=1∨i=2∨i=3:=by omega
  rcases hi' with rfl|rfl|rfl|rfl
  ·go_wp2
   go_roundw
   case rel=>exact ⟨1,by omega,by go_num,⟨by go_simp,by go_simp,by go_simp⟩,⟨by go_simp,by go_simp,by go_simp⟩,⟨by go_simp,by go_simp,by go_simp⟩,fun j=>by go_simp,bgo,by simpa using hsz⟩
   case measure=>simp [intOf]
  ·go_wp2
   go_roundw
   case rel=>exact ⟨2,by omega,by go_num,⟨by go_simp,by go_simp,by go_simp⟩,⟨by go_simp,by go_simp,by go_simp⟩,⟨by go_simp,by go_simp,by go_simp⟩,fun j=>by go_simp,bgo,by simpa using hsz⟩
   case measure=>simp [intOf]
  ·go_wp2
   go_roundw
   case rel=>exact ⟨3,by omega,by go_num,⟨by go_simp,by go_simp,by go_simp⟩,⟨by go_simp,by go_simp,by go_simp⟩,⟨by go_simp,by go_simp,by go_simp⟩,fun j=>by go_simp,bgo,by simpa using hsz⟩
   case measure=>simp [intOf]
  ·go_wp2
   exact bodyPost_ret (v:=.tuple #[.int .i64 R,.int .i64 0]) (by
    simp only [results,Tryz.results155]
    go_simp
    rw [← hR]
    exact zHf (by omega) (by omega) (by omega) (by omega) (by omega) (by omega)) rfl ⟨rfl,hbw⟩
theorem enc_5 (n a b c g:Nat)(w:World)(hn:n<1000)(ha:n/100=a)(hb:n/10%10=b)(hc:n%10=c)(hg:a/8*4+b/8*2+c/8=g)(R:Int)(u1:Int)(hu1:0<=u1/\u1<4)(hv1:¬ 10<=u1)(u2:Int)(hu2:0<=u2/\u2<8)(hv2:¬ 10<=u2)
  (hR:((((b:Int)/2%4):Int)*256+(a:Int)%2*128+u1*32+(b:Int)%2*16+u2*2+(c:Int)%2)=R)
  (c21:∀ W,CB 192 #[.int .i64 (g:Int)] W (.agg #[.int .i64 11,.int .i64 u1,.int .i64 u2])) :
  CB 155 #[.int .i64 (n:Int)] w (.tuple #[.int .i64 R,.int .i64 0]):=by
 have h0:¬ (n:Int)<0:=by omega
 have h9:¬ 999<(n:Int):=by omega
 have ea:(n:Int)/100=(a:Int):=by omega
 have eb:(n:Int)/10%10=(b:Int):=by omega
 have ec:(n:Int)%10=(c:Int):=by omega
 have eg:(a:Int)/8*4+(b:Int)/8*2+(c:Int)/8=(g:Int):=by omega
 have la:(a:Int)/8<=1:=by omega
 have lb:(b:Int)/8<=1:=by omega
 go_enter Tryz.func155,Tryz.ntmps155
 go_wp2_with (go_at_call 192;refine wk w (c21 _) ?_;intro w1 hb1 _ _ _ _ hA1 _;clear hb1)
 go_loopw [39] (fun t wr=>∃ i:Nat,i<=3/\t=.int .i64 i/\Thr wr w.heap.size a b c/\Thr wr w1.heap.size 11 u1 u2/\Thr wr (w1.heap.size+1) (if 0<i then ((b:Int)/2%4) else 0) (if 1<i then u1 else 0) (if 2<i then u2 else 0)/\(∀ j,wr.frozen? ⟨w1.heap.size+1,j,none⟩=false)/\Below w.heap.size w wr/\w1.heap.size+1<wr.heap.size) (fun t _=>3-(intOf t).toNat)
 case atStart=>exact ⟨0,by decide,rfl,⟨by go_simp,by go_simp,by go_simp⟩,⟨by go_simp,by go_simp,by go_simp⟩,⟨by go_simp,by go_simp,by go_simp⟩,fun j=>by go_simp,bgo,by simp⟩
 case round =>
  obtain ⟨i,hi,rfl,⟨p0,p1,p2⟩,⟨q0,q1,q2⟩,⟨s0,s1,s2⟩,hfr,hbw,hsz⟩:=hrel
  have hl0:w.heap.size<wr.heap.size:=by omega
  have hl1:w1.heap.size<wr.heap.size:=by omega
  have hne1:¬ w.heap.size=w1.heap.size+1:=by omega
  have hne2:¬ w1.heap.size=w1.heap.size+1:=by omega
  have hi':i=0∨i=1∨i=2∨i=3:=by omega
  rcases hi' with rfl|rfl|rfl|rfl
  ·go_wp2
   go_roundw
   case rel=>exact ⟨1,by omega,by go_num,⟨by go_simp,by go_simp,by go_simp⟩,⟨by go_simp,by go_simp,by go_simp⟩,⟨by go_simp,by go_simp,by go_simp⟩,fun j=>by go_simp,bgo,by simpa using hsz⟩
   case measure=>simp [intOf]
  ·go_wp2
   go_roundw
   case rel=>exact ⟨2,by omega,by go_num,⟨by go_simp,by go_simp,by go_simp⟩,⟨by go_simp,by go_simp,by go_simp⟩,⟨by go_simp,by go_simp,by go_simp⟩,fun j=>by go_simp,bgo,by simpa using hsz⟩
   case measure=>simp [intOf]
  ·go_wp2
   go_roundw
   case rel=>exact ⟨3,by omega,by go_num,⟨by go_simp,by go_simp,by go_simp⟩,⟨by go_simp,by go_simp,by go_simp⟩,⟨by go_simp,by go_simp,by go_simp⟩,fun j=>by go_simp,bgo,by simpa using hsz⟩
   case measure=>simp [intOf]
  ·go_wp2
   exact bodyPost_ret (v:=.tuple #[.int .i64 R,.int .i64 0]) (by
    simp only [results,Tryz.results155]
    go_simp
    rw [← hR]
    exact zHf (by omega) (by omega) (by omega) (by omega) (by omega) (by omega)) rfl ⟨rfl,hbw⟩
theorem enc_6 (n a b c g:Nat)(w:World)(hn:n<1000)(ha:n/100=a)(hb:n/10%10=b)(hc:n%10=c)(hg:a/8*4+b/8*2+c/8=g)(R:Int)(u1:Int)(hu1:0<=u1/\u1<4)(hv1:¬ 10<=u1)(u2:Int)(hu2:0<=u2/\u2<8)(hv2:¬ 10<=u2)
  (hR:((((c:Int)/2%4):Int)*256+(a:Int)%2*128+u1*32+(b:Int)%2*16+u2*2+(c:Int)%2)=R)
  (c21:∀ W,CB 192 #[.int .i64 (g:Int)] W (.agg #[.int .i64 12,.int .i64 u1,.int .i64 u2])) :
  CB 155 #[.int .i64 (n:Int)] w (.tuple #[.int .i64 R,.int .i64 0]):=by
 have h0:¬ (n:Int)<0:=by omega
 have h9:¬ 999<(n:Int):=by omega
 have ea:(n:Int)/100=(a:Int):=by omega
 have eb:(n:Int)/10%10=(b:Int):=by omega
 have ec:(n:Int)%10=(c:Int):=by omega
 have eg:(a:Int)/8*4+(b:Int)/8*2+(c:Int)/8=(g:Int):=by omega
 have la:(a:Int)/8<=1:=by omega
 have lb:(b:Int)/8<=1:=by omega
 go_enter Tryz.func155,Tryz.ntmps155
 go_wp2_with (go_at_call 192;refine wk w (c21 _) ?_;intro w1 hb1 _ _ _ _ hA1 _;clear hb1)
 go_loopw [39] (fun t wr=>∃ i:Nat,i<=3/\t=.int .i64 i/\Thr wr w.heap.size a b c/\Thr wr w1.heap.size 12 u1 u2/\Thr wr (w1.heap.size+1) (if 0<i then ((c:Int)/2%4) else 0) (if 1<i then u1 else 0) (if 2<i then u2 else 0)/\(∀ j,wr.frozen? ⟨w1.heap.size+1,j,none⟩=false)/\Below w.heap.size w wr/\w1.heap.size+1<wr.heap.size) (fun t _=>3-(intOf t).toNat)
 case atStart=>exact ⟨0,by decide,rfl,⟨by go_simp,by go_simp,by go_simp⟩,⟨by go_simp,by go_simp,by go_simp⟩,⟨by go_simp,by go_simp,by go_simp⟩,fun j=>by go_simp,bgo,by simp⟩
 case round =>
  obtain ⟨i,hi,rfl,⟨p0,p1,p2⟩,⟨q0,q1,q2⟩,⟨s0,s1,s2⟩,hfr,hbw,hsz⟩:=hrel
  have hl0:w.heap.size<wr.heap.size:=by omega
  have hl1:w1.heap.size<wr.heap.size:=by omega
  have hne1:¬ w.heap.size=w1.heap.size+1:=by omega
  have hne2:¬ w1.heap.size=w1.heap.size+1:=by omega
  have hi':i=0∨i=1∨i=2∨i=3:=by omega
  rcases hi' with rfl|rfl|rfl|rfl
  ·go_wp2
   go_roundw
   case rel=>exact ⟨1,by omega,by go_num,⟨by go_simp,by go_simp,by go_simp⟩,⟨by go_simp,by go_simp,by go_simp⟩,⟨by go_simp,by go_simp,by go_simp⟩,fun j=>by go_simp,bgo,by simpa using hsz⟩
   case measure=>simp [intOf]
  ·go_wp2
   go_roundw
   case rel=>exact ⟨2,by omega,by go_num,⟨by go_simp,by go_simp,by go_simp⟩,⟨by go_simp,by go_simp,by go_simp⟩,⟨by go_simp,by go_simp,by go_simp⟩,fun j=>by go_simp,bgo,by simpa using hsz⟩
   case measure=>simp [intOf]
  ·go_wp2
   go_roundw
   case rel=>exact ⟨3,by omega,by go_num,⟨by go_simp,by go_simp,by go_simp⟩,⟨by go_simp,by go_simp,by go_simp⟩,⟨by go_simp,by go_simp,by go_simp⟩,fun j=>by go_simp,bgo,by simpa using hsz⟩
   case measure=>simp [intOf]
  ·go_wp2
   exact bodyPost_ret (v:=.tuple #[.int .i64 R,.int .i64 0]) (by
    simp only [results,Tryz.results155]
    go_simp
    rw [← hR]
    exact zHf (by omega) (by omega) (by omega) (by omega) (by omega) (by omega)) rfl ⟨rfl,hbw⟩
theorem enc_7 (n a b c g:Nat)(w:World)(hn:n<1000)(ha:n/100=a)(hb:n/10%10=b)(hc:n%10=c)(hg:a/8*4+b/8*2+c/8=g)(R:Int)(u0:Int)(hu0:0<=u0/\u0<4)(hv0:¬ 10<=u0)(u1:Int)(hu1:0<=u1/\u1<4)(hv1:¬ 10<=u1)(u2:Int)(hu2:0<=u2/\u2<8)(hv2:¬ 10<=u2)
  (hR:((u0:Int)*256+(a:Int)%2*128+u1*32+(b:Int)%2*16+u2*2+(c:Int)%2)=R)
  (c21:∀ W,CB 192 #[.int .i64 (g:Int)] W (.agg #[.int .i64 u0,.int .i64 u1,.int .i64 u2])) :
  CB 155 #[.int .i64 (n:Int)] w (.tuple #[.int .i64 R,.int .i64 0]):=by
 have h0:¬ (n:Int)<0:=by omega
 have h9:¬ 999<(n:Int):=by omega
 have ea:(n:Int)/100=(a:Int):=by omega
 have eb:(n:Int)/10%10=(b:Int):=by omega
 have ec:(n:Int)%10=(c:Int):=by omega
 have eg:(a:Int)/8*4+(b:Int)/8*2+(c:Int)/8=(g:Int):=by omega
 have la:(a:Int)/8<=1:=by omega
 have lb:(b:Int)/8<=1:=by omega
 go_enter Tryz.func155,Tryz.ntmps155
 go_wp2_with (go_at_call 192;refine wk w (c21 _) ?_;intro w1 hb1 _ _ _ _ hA1 _;clear hb1)
 go_loopw [39] (fun t wr=>∃ i:Nat,i<=3/\t=.int .i64 i/\Thr wr w.heap.size a b c/\Thr wr w1.heap.size u0 u1 u2/\Thr wr (w1.heap.size+1) (if 0<i then u0 else 0) (if 1<i then u1 else 0) (if 2<i then u2 else 0)/\(∀ j,wr.frozen? ⟨w1.heap.size+1,j,none⟩=false)/\Below w.heap.size w wr/\w1.heap.size+1<wr.heap.size) (fun t _=>3-(intOf t).toNat)
 case atStart=>exact ⟨0,by decide,rfl,⟨by go_simp,by go_simp,by go_simp⟩,⟨by go_simp,by go_simp,by go_simp⟩,⟨by go_simp,by go_simp,by go_simp⟩,fun j=>by go_simp,bgo,by simp⟩
 case round =>
  obtain ⟨i,hi,rfl,⟨p0,p1,p2⟩,⟨q0,q1,q2⟩,⟨s0,s1,s2⟩,hfr,hbw,hsz⟩:=hrel
  have hl0:w.heap.size<wr.heap.size:=by omega
  have hl1:w1.heap.size<wr.heap.size:=by omega
  have hne1:¬ w.heap.size=w1.heap.size+1:=by omega
  have hne2:¬ w1.heap.size=w1.heap.size+1:=by omega
  have hi':i=0∨i=1∨i=2∨i=3:=by omega
  rcases hi' with rfl|rfl|rfl|rfl
  ·go_wp2
   go_roundw
   case rel=>exact ⟨1,by omega,by go_num,⟨by go_simp,by go_simp,by go_simp⟩,⟨by go_simp,by go_simp,by go_simp⟩,⟨by go_simp,by go_simp,by go_simp⟩,fun j=>by go_simp,bgo,by simpa using hsz⟩
   case measure=>simp [intOf]
  ·go_wp2
   go_roundw
   case rel=>exact ⟨2,by omega,by go_num,⟨by go_simp,by go_simp,by go_simp⟩,⟨by go_simp,by go_simp,by go_simp⟩,⟨by go_simp,by go_simp,by go_simp⟩,fun j=>by go_simp,bgo,by simpa using hsz⟩
   case measure=>simp [intOf]
  ·go_wp2
   go_roundw
   case rel=>exact ⟨3,by omega,by go_num,⟨by go_simp,by go_simp,by go_simp⟩,⟨by go_simp,by go_simp,by go_simp⟩,⟨by go_simp,by go_simp,by go_simp⟩,fun j=>by go_simp,bgo,by simpa using hsz⟩
   case measure=>simp [intOf]
  ·go_wp2
   exact bodyPost_ret (v:=.tuple #[.int .i64 R,.int .i64 0]) (by
    simp only [results,Tryz.results155]
    go_simp
    rw [← hR]
    exact zHf (by omega) (by omega) (by omega) (by omega) (by omega) (by omega)) rfl ⟨rfl,hbw⟩
theorem enc_v (n:Nat)(hn:n<1000)(w:World):CB 155 #[.int .i64 (n:Int)] w (.tuple #[.int .i64 (dlE n:Int),.int .i64 0]):=by
 have hg:=dlG_lt hn
 have c21:=fun W=>row_v (dlG n) hg W
 have hgg:n/100/8*4+n/10%10/8*2+n%10/8=dlG n:=rfl
 have h:dlG n=0∨dlG n=1∨dlG n=2∨dlG n=3∨dlG n=4∨dlG n=5∨dlG n=6∨dlG n=7:=by omega
 rcases h with h|h|h|h|h|h|h|h
 ·have e:dlE n=n/100/2%4*256+n/100%2*128+n/10%10/2%4*32+n/10%10%2*16+n%10/2%4*2+n%10%2:=by
   unfold dlE
   rw [h]
   rfl
  refine enc_0 n _ _ _ (dlG n) w hn rfl rfl rfl hgg _ (by rw [e];omega) (fun W=>?_)
  have:=c21 W
  rw [h] at this ⊢
  exact this
 ·have e:dlE n=n/100/2%4*256+n/100%2*128+n/10%10/2%4*32+n/10%10%2*16+4*2+n%10%2:=by
   unfold dlE
   rw [h]
   rfl
  refine enc_1 n _ _ _ (dlG n) w hn rfl rfl rfl hgg _ 4 (by decide) (by decide) (by rw [e];omega) (fun W=>?_)
  have:=c21 W
  rw [h] at this ⊢
  exact this
 ·have e:dlE n=n/100/2%4*256+n/100%2*128+n%10/2%4*32+n/10%10%2*16+5*2+n%10%2:=by
   unfold dlE
   rw [h]
   rfl
  refine enc_2 n _ _ _ (dlG n) w hn rfl rfl rfl hgg _ 5 (by decide) (by decide) (by rw [e];omega) (fun W=>?_)
  have:=c21 W
  rw [h] at this ⊢
  exact this
 ·have e:dlE n=n/100/2%4*256+n/100%2*128+2*32+n/10%10%2*16+7*2+n%10%2:=by
   unfold dlE
   rw [h]
   rfl
  refine enc_3 n _ _ _ (dlG n) w hn rfl rfl rfl hgg _ 2 (by decide) (by decide) 7 (by decide) (by decide) (by rw [e];omega) (fun W=>?_)
  have:=c21 W
  rw [h] at this ⊢
  exact this
 ·have e:dlE n=n%10/2%4*256+n/100%2*128+n/10%10/2%4*32+n/10%10%2*16+6*2+n%10%2:=by
   unfold dlE
   rw [h]
   rfl
  refine enc_4 n _ _ _ (dlG n) w hn rfl rfl rfl hgg _ 6 (by decide) (by decide) (by rw [e];omega) (fun W=>?_)
  have:=c21 W
  rw [h] at this ⊢
  exact this
 ·have e:dlE n=n/10%10/2%4*256+n/100%2*128+1*32+n/10%10%2*16+7*2+n%10%2:=by
   unfold dlE
   rw [h]
   rfl
  refine enc_5 n _ _ _ (dlG n) w hn rfl rfl rfl hgg _ 1 (by decide) (by decide) 7 (by decide) (by decide) (by rw [e];omega) (fun W=>?_)
  have:=c21 W
  rw [h] at this ⊢
  exact this
 ·have e:dlE n=n%10/2%4*256+n/100%2*128+0*32+n/10%10%2*16+7*2+n%10%2:=by
   unfold dlE
   rw [h]
   rfl
  refine enc_6 n _ _ _ (dlG n) w hn rfl rfl rfl hgg _ 0 (by decide) (by decide) 7 (by decide) (by decide) (by rw [e];omega) (fun W=>?_)
  have:=c21 W
  rw [h] at this ⊢
  exact this
 ·have e:dlE n=0*256+n/100%2*128+3*32+n/10%10%2*16+7*2+n%10%2:=by
   unfold dlE
   rw [h]
   rfl
  refine enc_7 n _ _ _ (dlG n) w hn rfl rfl rfl hgg _ 0 (by decide) (by decide) 3 (by decide) (by decide) 7 (by decide) (by decide) (by rw [e];omega) (fun W=>?_)
  have:=c21 W
  rw [h] at this ⊢
  exact this
theorem zFb (x g:Int)(hx:0<=x)(hg:x/8=g)(w:World):CQ 255 #[.int .i64 x] w (.int .i64 g):=by
 go_enter Tryz.func255,Tryz.ntmps255
 go_wp2
 go_ret
 exact ⟨rfl,rfl⟩
theorem zPm (n:Int)(w:World):CQ 212 #[.int .i64 n] w (.bool (decide (0<=n/\n<=11))):=by
 by_cases h0:0<=n
 ·go_enter Tryz.func212,Tryz.ntmps212
  go_wp2
  go_ret
  exact ⟨by simp [h0],rfl⟩
 ·rw [decide_eq_false (fun h=>h0 h.1)]
  go_enter Tryz.func212,Tryz.ntmps212
  go_wp2
  go_ret
  exact ⟨rfl,rfl⟩
theorem zM4 (a b c x y z:Int)(w:World)
  (ga:∀ W,CQ 255 #[.int .i64 a] W (.int .i64 0))
  (gb:∀ W,CQ 255 #[.int .i64 b] W (.int .i64 0))
  (gc:∀ W,CQ 255 #[.int .i64 c] W (.int .i64 0))
  (ha:0<=a) (hb:0<=b) (hc:0<=c) (hx:bits .and .i64 (a/2) 3=x) (hy:bits .and .i64 (b/2) 3=y) (hz:bits .and .i64 (c/2) 3=z) :
  CQ 245 #[.int .i64 a,.int .i64 b,.int .i64 c] w (.tuple #[.int .i64 x,.int .i64 y,.int .i64 z]):=by
 have o1:bits .or .i64 0 0=0:=by decide
 have o2:bits .or .i64 0 0=0:=by decide
 go_enter Tryz.func245,Tryz.ntmps245
 go_wp2_with (go_at_call 255;first
  | (refine (ga _).mono ?_;rintro r w1 ⟨rfl,rfl⟩;clear ga)
  | (refine (gb _).mono ?_;rintro r w1 ⟨rfl,rfl⟩;clear gb)
  | (refine (gc _).mono ?_;rintro r w1 ⟨rfl,rfl⟩;clear gc))
 exact bodyPost_ret (by simp only [results,Tryz.results245];go_simp) rfl ⟨rfl,rfl⟩
theorem zL4 (a b c x y z:Int)(w:World)
  (ga:∀ W,CQ 255 #[.int .i64 a] W (.int .i64 0))
  (gb:∀ W,CQ 255 #[.int .i64 b] W (.int .i64 0))
  (gc:∀ W,CQ 255 #[.int .i64 c] W (.int .i64 1))
  (ha:0<=a) (hb:0<=b) (hc:0<=c) (hx:bits .and .i64 (a/2) 3=x) (hy:bits .and .i64 (b/2) 3=y) (hz:bits .and .i64 (c/2) 3=z) :
  CQ 245 #[.int .i64 a,.int .i64 b,.int .i64 c] w (.tuple #[.int .i64 x,.int .i64 y,.int .i64 4]):=by
 have o1:bits .or .i64 0 0=0:=by decide
 have o2:bits .or .i64 0 1=1:=by decide
 go_enter Tryz.func245,Tryz.ntmps245
 go_wp2_with (go_at_call 255;first
  | (refine (ga _).mono ?_;rintro r w1 ⟨rfl,rfl⟩;clear ga)
  | (refine (gb _).mono ?_;rintro r w1 ⟨rfl,rfl⟩;clear gb)
  | (refine (gc _).mono ?_;rintro r w1 ⟨rfl,rfl⟩;clear gc))
 exact bodyPost_ret (by simp only [results,Tryz.results245];go_simp) rfl ⟨rfl,rfl⟩
theorem zK4 (a b c x y z:Int)(w:World)
  (ga:∀ W,CQ 255 #[.int .i64 a] W (.int .i64 0))
  (gb:∀ W,CQ 255 #[.int .i64 b] W (.int .i64 1))
  (gc:∀ W,CQ 255 #[.int .i64 c] W (.int .i64 0))
  (ha:0<=a) (hb:0<=b) (hc:0<=c) (hx:bits .and .i64 (a/2) 3=x) (hy:bits .and .i64 (b/2) 3=y) (hz:bits .and .i64 (c/2) 3=z) :
  CQ 245 #[.int .i64 a,.int .i64 b,.int .i64 c] w (.tuple #[.int .i64 x,.int .i64 z,.int .i64 5]):=by
 have o1:bits .or .i64 0 2=2:=by decide
 have o2:bits .or .i64 2 0=2:=by decide
 go_enter Tryz.func245,Tryz.ntmps245
 go_wp2_with (go_at_call 255;first
  | (refine (ga _).mono ?_;rintro r w1 ⟨rfl,rfl⟩;clear ga)
  | (refine (gb _).mono ?_;rintro r w1 ⟨rfl,rfl⟩;clear gb)
  | (refine (gc _).mono ?_;rintro r w1 ⟨rfl,rfl⟩;clear gc))
 exact bodyPost_ret (by simp only [results,Tryz.results245];go_simp) rfl ⟨rfl,rfl⟩
theorem zI4 (a b c x y z:Int)(w:World)
  (ga:∀ W,CQ 255 #[.int .i64 a] W (.int .i64 1))
  (gb:∀ W,CQ 255 #[.int .i64 b] W (.int .i64 0))
  (gc:∀ W,CQ 255 #[.int .i64 c] W (.int .i64 0))
  (ha:0<=a) (hb:0<=b) (hc:0<=c) (hx:bits .and .i64 (a/2) 3=x) (hy:bits .and .i64 (b/2) 3=y) (hz:bits .and .i64 (c/2) 3=z) :
  CQ 245 #[.int .i64 a,.int .i64 b,.int .i64 c] w (.tuple #[.int .i64 z,.int .i64 y,.int .i64 6]):=by
 have o1:bits .or .i64 4 0=4:=by decide
 have o2:bits .or .i64 4 0=4:=by decide
 go_enter Tryz.func245,Tryz.ntmps245
 go_wp2_with (go_at_call 255;first
  | (refine (ga _).mono ?_;rintro r w1 ⟨rfl,rfl⟩;clear ga)
  | (refine (gb _).mono ?_;rintro r w1 ⟨rfl,rfl⟩;clear gb)
  | (refine (gc _).mono ?_;rintro r w1 ⟨rfl,rfl⟩;clear gc))
 exact bodyPost_ret (by simp only [results,Tryz.results245];go_simp) rfl ⟨rfl,rfl⟩
theorem zJ4 (a b c x y z:Int)(w:World)
  (ga:∀ W,CQ 255 #[.int .i64 a] W (.int .i64 0))
  (gb:∀ W,CQ 255 #[.int .i64 b] W (.int .i64 1))
  (gc:∀ W,CQ 255 #[.int .i64 c] W (.int .i64 1))
  (ha:0<=a) (hb:0<=b) (hc:0<=c) (hx:bits .and .i64 (a/2) 3=x) (hy:bits .and .i64 (b/2) 3=y) (hz:bits .and .i64 (c/2) 3=z) :
  CQ 245 #[.int .i64 a,.int .i64 b,.int .i64 c] w (.tuple #[.int .i64 x,.int .i64 2,.int .i64 7]):=by
 have o1:bits .or .i64 0 2=2:=by decide
 have o2:bits .or .i64 2 1=3:=by decide
 go_enter Tryz.func245,Tryz.ntmps245
 go_wp2_with (go_at_call 255;first
  | (refine (ga _).mono ?_;rintro r w1 ⟨rfl,rfl⟩;clear ga)
  | (refine (gb _).mono ?_;rintro r w1 ⟨rfl,rfl⟩;clear gb)
  | (refine (gc _).mono ?_;rintro r w1 ⟨rfl,rfl⟩;clear gc))
 exact bodyPost_ret (by simp only [results,Tryz.results245];go_simp) rfl ⟨rfl,rfl⟩
theorem zH4 (a b c x y z:Int)(w:World)
  (ga:∀ W,CQ 255 #[.int .i64 a] W (.int .i64 1))
  (gb:∀ W,CQ 255 #[.int .i64 b] W (.int .i64 0))
  (gc:∀ W,CQ 255 #[.int .i64 c] W (.int .i64 1))
  (ha:0<=a) (hb:0<=b) (hc:0<=c) (hx:bits .and .i64 (a/2) 3=x) (hy:bits .and .i64 (b/2) 3=y) (hz:bits .and .i64 (c/2) 3=z) :
  CQ 245 #[.int .i64 a,.int .i64 b,.int .i64 c] w (.tuple #[.int .i64 y,.int .i64 1,.int .i64 7]):=by
 have o1:bits .or .i64 4 0=4:=by decide
 have o2:bits .or .i64 4 1=5:=by decide
 go_enter Tryz.func245,Tryz.ntmps245
 go_wp2_with (go_at_call 255;first
  | (refine (ga _).mono ?_;rintro r w1 ⟨rfl,rfl⟩;clear ga)
  | (refine (gb _).mono ?_;rintro r w1 ⟨rfl,rfl⟩;clear gb)
  | (refine (gc _).mono ?_;rintro r w1 ⟨rfl,rfl⟩;clear gc))
 exact bodyPost_ret (by simp only [results,Tryz.results245];go_simp) rfl ⟨rfl,rfl⟩
theorem zG4 (a b c x y z:Int)(w:World)
  (ga:∀ W,CQ 255 #[.int .i64 a] W (.int .i64 1))
  (gb:∀ W,CQ 255 #[.int .i64 b] W (.int .i64 1))
  (gc:∀ W,CQ 255 #[.int .i64 c] W (.int .i64 0))
  (ha:0<=a) (hb:0<=b) (hc:0<=c) (hx:bits .and .i64 (a/2) 3=x) (hy:bits .and .i64 (b/2) 3=y) (hz:bits .and .i64 (c/2) 3=z) :
  CQ 245 #[.int .i64 a,.int .i64 b,.int .i64 c] w (.tuple #[.int .i64 z,.int .i64 0,.int .i64 7]):=by
 have o1:bits .or .i64 4 2=6:=by decide
 have o2:bits .or .i64 6 0=6:=by decide
 go_enter Tryz.func245,Tryz.ntmps245
 go_wp2_with (go_at_call 255;first
  | (refine (ga _).mono ?_;rintro r w1 ⟨rfl,rfl⟩;clear ga)
  | (refine (gb _).mono ?_;rintro r w1 ⟨rfl,rfl⟩;clear gb)
  | (refine (gc _).mono ?_;rintro r w1 ⟨rfl,rfl⟩;clear gc))
 exact bodyPost_ret (by simp only [results,Tryz.results245];go_simp) rfl ⟨rfl,rfl⟩
theorem zF4 (a b c x y z:Int)(w:World)
  (ga:∀ W,CQ 255 #[.int .i64 a] W (.int .i64 1))
  (gb:∀ W,CQ 255 #[.int .i64 b] W (.int .i64 1))
  (gc:∀ W,CQ 255 #[.int .i64 c] W (.int .i64 1))
  (ha:0<=a) (hb:0<=b) (hc:0<=c) (hx:bits .and .i64 (a/2) 3=x) (hy:bits .and .i64 (b/2) 3=y) (hz:bits .and .i64 (c/2) 3=z) :
  CQ 245 #[.int .i64 a,.int .i64 b,.int .i64 c] w (.tuple #[.int .i64 0,.int .i64 3,.int .i64 7]):=by
 have o1:bits .or .i64 4 2=6:=by decide
 have o2:bits .or .i64 6 1=7:=by decide
 go_enter Tryz.func245,Tryz.ntmps245
 go_wp2_with (go_at_call 255;first
  | (refine (ga _).mono ?_;rintro r w1 ⟨rfl,rfl⟩;clear ga)
  | (refine (gb _).mono ?_;rintro r w1 ⟨rfl,rfl⟩;clear gb)
  | (refine (gc _).mono ?_;rintro r w1 ⟨rfl,rfl⟩;clear gc))
 exact bodyPost_ret (by simp only [results,Tryz.results245];go_simp) rfl ⟨rfl,rfl⟩
def mgT (p s:Int):Int×Int×Int:=if s=2 then (p*2,8,8) else if s=1 then (8,p*2,8) else if s=0 then (8,8,p*2) else (8,8,8)
theorem mgr_v (p s:Int)(w:World)(hp:0<=p/\p<4)(hs:0<=s/\s<4) :
  CQ 246 #[.int .i64 p,.int .i64 s] w (.tuple #[.int .i64 (mgT p s).1,.int .i64 (mgT p s).2.1,.int .i64 (mgT p s).2.2]):=by
 obtain rfl|rfl|rfl|rfl:s=0∨s=1∨s=2∨s=3:=by omega
 all_goals (
  go_enter Tryz.func246,Tryz.ntmps246
  go_wp2
  exact bodyPost_ret (by simp only [results,Tryz.results246];go_simp;first|done|exact ⟨rfl,rfl,rfl⟩) rfl ⟨rfl,rfl⟩)
def evT (p s v:Int):Int×Int×Int:=if v=4 then (p*2,s*2,8) else if v=5 then (p*2,8,s*2) else if v=6 then (8,s*2,p*2) else if v=7 then mgT p s else (p*2,s*2,v*2)
theorem ev_7 (p s x y z:Int)(w:World)
  (cm:∀ W,CQ 246 #[.int .i64 p,.int .i64 s] W (.tuple #[.int .i64 x,.int .i64 y,.int .i64 z])) :
  CQ 232 #[.int .i64 p,.int .i64 s,.int .i64 7] w (.tuple #[.int .i64 x,.int .i64 y,.int .i64 z]):=by
 go_enter Tryz.func232,Tryz.ntmps232
 go_wp2_with (go_at_call 246;refine (cm _).mono ?_;rintro r w1 ⟨rfl,rfl⟩)
 exact bodyPost_ret (by simp only [results,Tryz.results232];go_simp;first|done|exact ⟨rfl,rfl,rfl⟩) rfl ⟨rfl,rfl⟩
theorem yTa (p s v:Int)(w:World)(hp:0<=p/\p<4)(hs:0<=s/\s<4)(hv:0<=v/\v<8) :
  CQ 232 #[.int .i64 p,.int .i64 s,.int .i64 v] w (.tuple #[.int .i64 (evT p s v).1,.int .i64 (evT p s v).2.1,.int .i64 (evT p s v).2.2]):=by
 by_cases h7:v=7
 ·subst h7
  exact ev_7 p s _ _ _ w (fun W=>mgr_v p s W hp hs)
 by_cases h4:v=4
 ·subst h4
  go_enter Tryz.func232,Tryz.ntmps232
  go_wp2
  exact bodyPost_ret (by simp only [results,Tryz.results232];go_simp;first|done|exact ⟨rfl,rfl,rfl⟩) rfl ⟨rfl,rfl⟩
 by_cases h5:v=5
 ·subst h5
  go_enter Tryz.func232,Tryz.ntmps232
  go_wp2
  exact bodyPost_ret (by simp only [results,Tryz.results232];go_simp;first|done|exact ⟨rfl,rfl,rfl⟩) rfl ⟨rfl,rfl⟩
 by_cases h6:v=6
 ·subst h6
  go_enter Tryz.func232,Tryz.ntmps232
  go_wp2
  exact bodyPost_ret (by simp only [results,Tryz.results232];go_simp;first|done|exact ⟨rfl,rfl,rfl⟩) rfl ⟨rfl,rfl⟩
 have e:evT p s v=(p*2,s*2,v*2):=by
  unfold evT
  rw [if_neg h4,if_neg h5,if_neg h6,if_neg h7]
 rw [e]
 have b4:(v==4)=false:=by simp [h4]
 have b5:(v==5)=false:=by simp [h5]
 have b6:(v==6)=false:=by simp [h6]
 have b7:(v==7)=false:=by simp [h7]
 go_enter Tryz.func232,Tryz.ntmps232
 go_wp2
 exact bodyPost_ret (by simp only [results,Tryz.results232];go_simp;first|done|exact ⟨rfl,rfl,rfl⟩) rfl ⟨rfl,rfl⟩
section
def fdT (a b c:Int):Int×Int×Int :=
 if a/8=0 then
  if b/8=0 then (if c/8=0 then (bits .and .i64 (a/2) 3,bits .and .i64 (b/2) 3,bits .and .i64 (c/2) 3) else (bits .and .i64 (a/2) 3,bits .and .i64 (b/2) 3,4))
  else (if c/8=0 then (bits .and .i64 (a/2) 3,bits .and .i64 (c/2) 3,5) else (bits .and .i64 (a/2) 3,2,7))
 else
  if b/8=0 then (if c/8=0 then (bits .and .i64 (c/2) 3,bits .and .i64 (b/2) 3,6) else (bits .and .i64 (b/2) 3,1,7))
  else (if c/8=0 then (bits .and .i64 (c/2) 3,0,7) else (0,3,7))
theorem zE4 (a b c:Int)(w:World)(ha:0<=a/\a<=9)(hb:0<=b/\b<=9)(hc:0<=c/\c<=9) :
  CQ 245 #[.int .i64 a,.int .i64 b,.int .i64 c] w (.tuple #[.int .i64 (fdT a b c).1,.int .i64 (fdT a b c).2.1,.int .i64 (fdT a b c).2.2]):=by
 unfold fdT
 by_cases h1:a/8=0
 ·rw [if_pos h1]
  by_cases h2:b/8=0
  ·rw [if_pos h2]
   by_cases h3:c/8=0
   ·rw [if_pos h3]
    exact zM4 a b c _ _ _ w (fun W=>zFb a 0 ha.1 h1 W) (fun W=>zFb b 0 hb.1 h2 W) (fun W=>zFb c 0 hc.1 h3 W) ha.1 hb.1 hc.1 rfl rfl rfl
   ·rw [if_neg h3]
    exact zL4 a b c _ _ _ w (fun W=>zFb a 0 ha.1 h1 W) (fun W=>zFb b 0 hb.1 h2 W) (fun W=>zFb c 1 hc.1 (by omega) W) ha.1 hb.1 hc.1 rfl rfl rfl
  ·rw [if_neg h2]
   by_cases h3:c/8=0
   ·rw [if_pos h3]
    exact zK4 a b c _ _ _ w (fun W=>zFb a 0 ha.1 h1 W) (fun W=>zFb b 1 hb.1 (by omega) W) (fun W=>zFb c 0 hc.1 h3 W) ha.1 hb.1 hc.1 rfl rfl rfl
   ·rw [if_neg h3]
    exact zJ4 a b c _ _ _ w (fun W=>zFb a 0 ha.1 h1 W) (fun W=>zFb b 1 hb.1 (by omega) W) (fun W=>zFb c 1 hc.1 (by omega) W) ha.1 hb.1 hc.1 rfl rfl rfl
 ·rw [if_neg h1]
  by_cases h2:b/8=0
  ·rw [if_pos h2]
   by_cases h3:c/8=0
   ·rw [if_pos h3]
    exact zI4 a b c _ _ _ w (fun W=>zFb a 1 ha.1 (by omega) W) (fun W=>zFb b 0 hb.1 h2 W) (fun W=>zFb c 0 hc.1 h3 W) ha.1 hb.1 hc.1 rfl rfl rfl
   ·rw [if_neg h3]
    exact zH4 a b c _ _ _ w (fun W=>zFb a 1 ha.1 (by omega) W) (fun W=>zFb b 0 hb.1 h2 W) (fun W=>zFb c 1 hc.1 (by omega) W) ha.1 hb.1 hc.1 rfl rfl rfl
  ·rw [if_neg h2]
   by_cases h3:c/8=0
   ·rw [if_pos h3]
    exact zG4 a b c _ _ _ w (fun W=>zFb a 1 ha.1 (by omega) W) (fun W=>zFb b 1 hb.1 (by omega) W) (fun W=>zFb c 0 hc.1 h3 W) ha.1 hb.1 hc.1 rfl rfl rfl
   ·rw [if_neg h3]
    exact zF4 a b c _ _ _ w (fun W=>zFb a 1 ha.1 (by omega) W) (fun W=>zFb b 1 hb.1 (by omega) W) (fun W=>zFb c 1 hc.1 (by omega) W) ha.1 hb.1 hc.1 rfl rfl rfl
def dcT (a b c:Int):Int:=bits .or .i64 (bits .or .i64 (bits .or .i64 (bits .or .i64 (bits .or .i64 ((fdT a b c).1*256) (bits .and .i64 a 1*128)) ((fdT a b c).2.1*32)) (bits .and .i64 b 1*16)) ((fdT a b c).2.2*2)) (bits .and .i64 c 1)
theorem dc_all (n:Nat)(hn:n<1000):dcT ((n:Int)/100) ((n:Int)/10%10) ((n:Int)%10)=(dlE n:Int)/\(0<=(fdT ((n:Int)/100) ((n:Int)/10%10) ((n:Int)%10)).1/\(fdT ((n:Int)/100) ((n:Int)/10%10) ((n:Int)%10)).1<4)/\(0<=(fdT ((n:Int)/100) ((n:Int)/10%10) ((n:Int)%10)).2.1/\(fdT ((n:Int)/100) ((n:Int)/10%10) ((n:Int)%10)).2.1<4)/\(0<=(fdT ((n:Int)/100) ((n:Int)/10%10) ((n:Int)%10)).2.2/\(fdT ((n:Int)/100) ((n:Int)/10%10) ((n:Int)%10)).2.2<8):=by
 have h:=zUd (f:=fun n=>decide (dcT ((n:Int)/100) ((n:Int)/10%10) ((n:Int)%10)=(dlE n:Int)/\(0<=(fdT ((n:Int)/100) ((n:Int)/10%10) ((n:Int)%10)).1/\(fdT ((n:Int)/100) ((n:Int)/10%10) ((n:Int)%10)).1<4)/\(0<=(fdT ((n:Int)/100) ((n:Int)/10%10) ((n:Int)%10)).2.1/\(fdT ((n:Int)/100) ((n:Int)/10%10) ((n:Int)%10)).2.1<4)/\(0<=(fdT ((n:Int)/100) ((n:Int)/10%10) ((n:Int)%10)).2.2/\(fdT ((n:Int)/100) ((n:Int)/10%10) ((n:Int)%10)).2.2<8))) (m:=1000) (by decide +kernel) n hn
 exact of_decide_eq_true h
theorem zT0 (n:Nat)(hn:n<1024):bits .and .i64 (n:Int) 1=((n%2:Nat):Int):=by
 have h:=zUd (f:=fun n=>decide (bits .and .i64 (n:Int) 1=((n%2:Nat):Int))) (m:=1024) (by decide +kernel) n hn
 exact of_decide_eq_true h
section
variable (n a b c P S V x y z R:Int)(w:World)(h0:¬ n<0)(h9:¬ 1000<=n)(ea:n/100=a)(eb:n/10%10=b)(ec:n%10=c)
 (cf:∀ W,CQ 245 #[.int .i64 a,.int .i64 b,.int .i64 c] W (.tuple #[.int .i64 P,.int .i64 S,.int .i64 V]))
 (hP0:0<=P) (hP1:P<4) (hS0:0<=S) (hS1:S<4) (hV0:0<=V) (hV1:V<8)
 (hx:bits .and .i64 a 1=x) (hy:bits .and .i64 b 1=y) (hz:bits .and .i64 c 1=z) (hx0:0<=x) (hx1:x<2) (hy0:0<=y) (hy1:y<2)
 (hR:bits .or .i64 (bits .or .i64 (bits .or .i64 (bits .or .i64 (bits .or .i64 (P*256) (x*128)) (S*32)) (y*16)) (V*2)) z=R)
include h0 h9 ea eb ec cf hP0 hP1 hS0 hS1 hV0 hV1 hx hy hz hx0 hx1 hy0 hy1 hR
theorem denc_w:CQ 231 #[.int .i64 n] w (.tuple #[.int .i64 R,.int .i64 0]):=by
 go_enter Tryz.func231,Tryz.ntmps231
 go_wp2_with (go_at_call 245;refine (cf _).mono ?_;rintro r w1 ⟨rfl,rfl⟩)
 exact bodyPost_ret (by simp only [results,Tryz.results231];go_simp) rfl ⟨rfl,rfl⟩
end
theorem denc_v (n:Nat)(hn:n<1000)(w:World):CQ 231 #[.int .i64 (n:Int)] w (.tuple #[.int .i64 (dlE n:Int),.int .i64 0]):=by
 obtain ⟨hR,⟨p0,p1⟩,⟨s0,s1⟩,⟨v0,v1⟩⟩:=dc_all n hn
 unfold dcT at hR
 have la:=zT0 (n/100) (by omega)
 have lb:=zT0 (n/10%10) (by omega)
 rw [show ((n/100:Nat):Int)=(n:Int)/100 by omega] at la
 rw [show ((n/10%10:Nat):Int)=(n:Int)/10%10 by omega] at lb
 exact denc_w (n:Int) _ _ _ _ _ _ _ _ _ _ w (by omega) (by omega) rfl rfl rfl (fun W=>zE4 _ _ _ W (by omega) (by omega) (by omega)) p0 p1 s0 s1 v0 v1 rfl rfl rfl (by rw [la];omega) (by rw [la];omega) (by rw [lb];omega) (by rw [lb];omega) hR
def dmT (d:Nat):Int:=100*bits .or .i64 (evT ((d:Int)/256) (bits .and .i64 ((d:Int)/32) 3) (bits .and .i64 ((d:Int)/2) 7)).1 (bits .and .i64 ((d:Int)/128) 1)+10*bits .or .i64 (evT ((d:Int)/256) (bits .and .i64 ((d:Int)/32) 3) (bits .and .i64 ((d:Int)/2) 7)).2.1 (bits .and .i64 ((d:Int)/16) 1)+bits .or .i64 (evT ((d:Int)/256) (bits .and .i64 ((d:Int)/32) 3) (bits .and .i64 ((d:Int)/2) 7)).2.2 (bits .and .i64 (d:Int) 1)
theorem dm_all (d:Nat)(hd:d<1024):dmT d=(dlD d:Int)/\(0<=bits .and .i64 ((d:Int)/32) 3/\bits .and .i64 ((d:Int)/32) 3<4)/\(0<=bits .and .i64 ((d:Int)/2) 7/\bits .and .i64 ((d:Int)/2) 7<8)/\(0<=bits .or .i64 (evT ((d:Int)/256) (bits .and .i64 ((d:Int)/32) 3) (bits .and .i64 ((d:Int)/2) 7)).1 (bits .and .i64 ((d:Int)/128) 1)/\bits .or .i64 (evT ((d:Int)/256) (bits .and .i64 ((d:Int)/32) 3) (bits .and .i64 ((d:Int)/2) 7)).1 (bits .and .i64 ((d:Int)/128) 1)<=9)/\(0<=bits .or .i64 (evT ((d:Int)/256) (bits .and .i64 ((d:Int)/32) 3) (bits .and .i64 ((d:Int)/2) 7)).2.1 (bits .and .i64 ((d:Int)/16) 1)/\bits .or .i64 (evT ((d:Int)/256) (bits .and .i64 ((d:Int)/32) 3) (bits .and .i64 ((d:Int)/2) 7)).2.1 (bits .and .i64 ((d:Int)/16) 1)<=9)/\(0<=bits .or .i64 (evT ((d:Int)/256) (bits .and .i64 ((d:Int)/32) 3) (bits .and .i64 ((d:Int)/2) 7)).2.2 (bits .and .i64 (d:Int) 1)/\bits .or .i64 (evT ((d:Int)/256) (bits .and .i64 ((d:Int)/32) 3) (bits .and .i64 ((d:Int)/2) 7)).2.2 (bits .and .i64 (d:Int) 1)<=9):=by
 have h:=zUd (f:=fun d=>decide (dmT d=(dlD d:Int)/\(0<=bits .and .i64 ((d:Int)/32) 3/\bits .and .i64 ((d:Int)/32) 3<4)/\(0<=bits .and .i64 ((d:Int)/2) 7/\bits .and .i64 ((d:Int)/2) 7<8)/\(0<=bits .or .i64 (evT ((d:Int)/256) (bits .and .i64 ((d:Int)/32) 3) (bits .and .i64 ((d:Int)/2) 7)).1 (bits .and .i64 ((d:Int)/128) 1)/\bits .or .i64 (evT ((d:Int)/256) (bits .and .i64 ((d:Int)/32) 3) (bits .and .i64 ((d:Int)/2) 7)).1 (bits .and .i64 ((d:Int)/128) 1)<=9)/\(0<=bits .or .i64 (evT ((d:Int)/256) (bits .and .i64 ((d:Int)/32) 3) (bits .and .i64 ((d:Int)/2) 7)).2.1 (bits .and .i64 ((d:Int)/16) 1)/\bits .or .i64 (evT ((d:Int)/256) (bits .and .i64 ((d:Int)/32) 3) (bits .and .i64 ((d:Int)/2) 7)).2.1 (bits .and .i64 ((d:Int)/16) 1)<=9)/\(0<=bits .or .i64 (evT ((d:Int)/256) (bits .and .i64 ((d:Int)/32) 3) (bits .and .i64 ((d:Int)/2) 7)).2.2 (bits .and .i64 (d:Int) 1)/\bits .or .i64 (evT ((d:Int)/256) (bits .and .i64 ((d:Int)/32) 3) (bits .and .i64 ((d:Int)/2) 7)).2.2 (bits .and .i64 (d:Int) 1)<=9))) (m:=1024) (by decide +kernel) d hd
 exact of_decide_eq_true h
section
variable (d s v x y z xa ya za X Y Z R:Int)(w:World)(h0:¬ d<0)(h0':0<=d)(h9:¬ 1024<=d)(hs:bits .and .i64 (d/32) 3=s)(hv:bits .and .i64 (d/2) 7=v)
 (cf:∀ W,CQ 232 #[.int .i64 (d/256),.int .i64 s,.int .i64 v] W (.tuple #[.int .i64 x,.int .i64 y,.int .i64 z]))
 (ha:bits .and .i64 (d/128) 1=xa) (hb:bits .and .i64 (d/16) 1=ya) (hc:bits .and .i64 d 1=za)
 (hx:bits .or .i64 x xa=X) (hy:bits .or .i64 y ya=Y) (hz:bits .or .i64 z za=Z) (hX0:0<=X) (hX1:X<=9) (hY0:0<=Y) (hY1:Y<=9) (hZ0:0<=Z) (hZ1:Z<=9)
 (hR:100*X+10*Y+Z=R)
include h0 h0' h9 hs hv cf ha hb hc hx hy hz hX0 hX1 hY0 hY1 hZ0 hZ1 hR
theorem ddcd_w:CQ 213 #[.int .i64 d] w (.tuple #[.int .i64 R,.int .i64 0]):=by
 go_enter Tryz.func213,Tryz.ntmps213
 go_wp2_with (go_at_call 232;refine (cf _).mono ?_;rintro r w1 ⟨rfl,rfl⟩)
 exact bodyPost_ret (by simp only [results,Tryz.results213];go_simp) rfl ⟨rfl,rfl⟩
end
theorem ddcd_v (d:Nat)(hd:d<1024)(w:World):CQ 213 #[.int .i64 (d:Int)] w (.tuple #[.int .i64 (dlD d:Int),.int .i64 0]):=by
 obtain ⟨hR,hs,hv,⟨x0,x1⟩,⟨y0,y1⟩,⟨z0,z1⟩⟩:=dm_all d hd
 exact ddcd_w (d:Int) _ _ _ _ _ _ _ _ _ _ _ _ w (by omega) (by omega) (by omega) rfl rfl (fun W=>yTa _ _ _ W (by omega) hs hv) rfl rfl rfl rfl rfl rfl x0 x1 y0 y1 z0 z1 hR
end
end Go.Proofs.YtahfkpjhlbiamaaGreatDoor
