/-
  Texts that the proof leans on.
-/
import Derived.Test.YtgknbdehlmlipaaGreatDoorL15
import Derived.Test.YtgknbdehlmlipaaGreatDoorL22
import Derived.Test.YtgknbdehlmlipaaGreatDoorL2
set_option maxHeartbeats 8000000
set_option linter.unusedVariables false
set_option linter.unusedSectionVars false
set_option linter.unusedSimpArgs false
set_option maxRecDepth 20000
namespace Go.Proofs.YtgknbdehlmlipaaGreatDoor
open Go.RowKit
theorem dl_bits {t0 x t1 y t2 z:Int}(h0:0<=t0/\t0<4)(h1:0<=x/\x<2)(h2:0<=t1/\t1<4)(h3:0<=y/\y<2)(h4:0<=t2/\t2<8)(h5:0<=z/\z<2) :
  bits .or .i64 (bits .or .i64 (bits .or .i64 (bits .or .i64 (bits .or .i64 (t0*256) (x*128)) (t1*32)) (y*16)) (t2*2)) z=t0*256+x*128+t1*32+y*16+t2*2+z:=by
 obtain ⟨a,rfl⟩:=Int.eq_ofNat_of_zero_le h0.1
 obtain ⟨b,rfl⟩:=Int.eq_ofNat_of_zero_le h1.1
 obtain ⟨c,rfl⟩:=Int.eq_ofNat_of_zero_le h2.1
 obtain ⟨d,rfl⟩:=Int.eq_ofNat_of_zero_le h3.1
 obtain ⟨e,rfl⟩:=Int.eq_ofNat_of_zero_le h4.1
 obtain ⟨f,rfl⟩:=Int.eq_ofNat_of_zero_le h5.1
 have h:=upTo_all (f:=fun i=>decide (bits .or .i64 (bits .or .i64 (bits .or .i64 (bits .or .i64 (bits .or .i64 (((i/256:Nat):Int)*256) (((i/128%2:Nat):Int)*128)) (((i/32%4:Nat):Int)*32)) (((i/16%2:Nat):Int)*16)) (((i/2%8:Nat):Int)*2)) ((i%2:Nat):Int)=(i:Int))) (m:=1024) (by decide +kernel) (a*256+b*128+c*32+d*16+e*2+f) (by omega)
 have h':=of_decide_eq_true h
 obtain ⟨i,hi⟩:∃ i,i=a*256+b*128+c*32+d*16+e*2+f:=⟨_,rfl⟩
 rw [← hi] at h'
 rw [show i/256=a by omega,show i/128%2=b by omega,show i/32%4=c by omega,show i/16%2=d by omega,show i/2%8=e by omega,show i%2=f by omega] at h'
 rw [h',hi]
 omega
structure Thr (w:World) (g:Nat) (x y z:Int):Prop where
 c0:w.cell? ⟨g,0,none⟩=some (.int .i64 x)
 c1:w.cell? ⟨g,1,none⟩=some (.int .i64 y)
 c2:w.cell? ⟨g,2,none⟩=some (.int .i64 z)
theorem enc_0 (n a b c g:Nat)(w:World)(hn:n<1000)(ha:n/100=a)(hb:n/10%10=b)(hc:n%10=c)(hg:a/8*4+b/8*2+c/8=g)(R:Int)
  (hR:((((a:Int)/2%4):Int)*256+(a:Int)%2*128+((b:Int)/2%4)*32+(b:Int)%2*16+((c:Int)/2%4)*2+(c:Int)%2)=R)
  (c21:∀ W,CB 116 #[.int .i64 (g:Int)] W (.agg #[.int .i64 10,.int .i64 11,.int .i64 22])) :
  CB 90 #[.int .i64 (n:Int)] w (.tuple #[.int .i64 R,.int .i64 0]):=by
 have h0:¬ (n:Int)<0:=by omega
 have h9:¬ 999<(n:Int):=by omega
 have ea:(n:Int)/100=(a:Int):=by omega
 have eb:(n:Int)/10%10=(b:Int):=by omega
 have ec:(n:Int)%10=(c:Int):=by omega
 have eg:(a:Int)/8*4+(b:Int)/8*2+(c:Int)/8=(g:Int):=by omega
 have la:(a:Int)/8<=1:=by omega
 have lb:(b:Int)/8<=1:=by omega
 go_enter Tryz.func90,Tryz.ntmps90
 go_wp2_with (go_at_call 116;refine (c21 _).mono ?_;rintro r w1 ⟨rfl,hb1⟩;obtain ⟨_,_,_,_,hA1,_⟩:=wz w hb1;clear hb1)
 go_loopw [39] (fun t wr=>∃ i:Nat,i<=3/\t=.int .i64 i/\Thr wr w.heap.size a b c/\Thr wr w1.heap.size 10 11 22/\Thr wr (w1.heap.size+1) (if 0<i then ((a:Int)/2%4) else 0) (if 1<i then ((b:Int)/2%4) else 0) (if 2<i then ((c:Int)/2%4) else 0)/\(∀ j,wr.frozen? ⟨w1.heap.size+1,j,none⟩=false)/\Below w.heap.size w wr/\w1.heap.size+1<wr.heap.size) (fun t _=>3-(intOf t).toNat)
 case atStart=>exact ⟨0,by decide,rfl,⟨by go_simp,by go_simp,by go_simp⟩,⟨by go_simp,by go_simp,by go_simp⟩,⟨by go_simp,by go_simp,by go_simp⟩,fun j=>by go_simp,bgo,by simp⟩
 case round =>
  obtain ⟨i,hi,rfl,⟨p0,p1,p2⟩,⟨q0,q1,q2⟩,⟨s0,s1,s2⟩,hfr,hbw,hsz⟩:=hrel
  have hl0:w.heap.size<wr.heap.size:=by omega
  have hl1:w1.heap.size<wr.heap.size:=by omega
  have hne1:¬ w.heap.size=w1.heap.size+1:=by omega
  have hne2:¬ w1.heap.size=w1.heap.size+1:=by omega
  have hi':i=0∨i=1∨i=2∨i=3:=by omega
  rcases hi' with rfl|rfl|rfl|rfl
  ·go_wp2
   go_roundw
   case rel=>exact ⟨1,by omega,by go_num,⟨by go_simp,by go_simp,by go_simp⟩,⟨by go_simp,by go_simp,by go_simp⟩,⟨by go_simp,by go_simp,by go_simp⟩,fun j=>by go_simp,bgo,by simpa using hsz⟩
   case measure=>simp [intOf]
  ·go_wp2
   go_roundw
   case rel=>exact ⟨2,by omega,by go_num,⟨by go_simp,by go_simp,by go_simp⟩,⟨by go_simp,by go_simp,by go_simp⟩,⟨by go_simp,by go_simp,by go_simp⟩,fun j=>by go_simp,bgo,by simpa using hsz⟩
   case measure=>simp [intOf]
  ·go_wp2
   go_roundw
   case rel=>exact ⟨3,by omega,by go_num,⟨by go_simp,by go_simp,by go_simp⟩,⟨by go_simp,by go_simp,by go_simp⟩,⟨by go_simp,by go_simp,by go_simp⟩,fun j=>by go_simp,bgo,by simpa using hsz⟩
   case measure=>simp [intOf]
  ·go_wp2
   exact bodyPost_ret (v:=.tuple #[.int .i64 R,.int .i64 0]) (by
    simp only [results,Tryz.results90]
    go_simp
    rw [← hR]
    exact dl_bits (by omega) (by omega) (by omega) (by omega) (by omega) (by omega)) rfl ⟨rfl,hbw⟩
theorem enc_1 (n a b c g:Nat)(w:World)(hn:n<1000)(ha:n/100=a)(hb:n/10%10=b)(hc:n%10=c)(hg:a/8*4+b/8*2+c/8=g)(R:Int)(u2:Int)(hu2:0<=u2/\u2<8)(hv2:¬ 10<=u2)
  (hR:((((a:Int)/2%4):Int)*256+(a:Int)%2*128+((b:Int)/2%4)*32+(b:Int)%2*16+u2*2+(c:Int)%2)=R)
  (c21:∀ W,CB 116 #[.int .i64 (g:Int)] W (.agg #[.int .i64 10,.int .i64 11,.int .i64 u2])) :
  CB 90 #[.int .i64 (n:Int)] w (.tuple #[.int .i64 R,.int .i64 0]):=by
 have h0:¬ (n:Int)<0:=by omega
 have h9:¬ 999<(n:Int):=by omega
 have ea:(n:Int)/100=(a:Int):=by omega
 have eb:(n:Int)/10%10=(b:Int):=by omega
 have ec:(n:Int)%10=(c:Int):=by omega
 have eg:(a:Int)/8*4+(b:Int)/8*2+(c:Int)/8=(g:Int):=by omega
 have la:(a:Int)/8<=1:=by omega
 have lb:(b:Int)/8<=1:=by omega
 go_enter Tryz.func90,Tryz.ntmps90
 go_wp2_with (go_at_call 116;refine (c21 _).mono ?_;rintro r w1 ⟨rfl,hb1⟩;obtain ⟨_,_,_,_,hA1,_⟩:=wz w hb1;clear hb1)
 go_loopw [39] (fun t wr=>∃ i:Nat,i<=3/\t=.int .i64 i/\Thr wr w.heap.size a b c/\Thr wr w1.heap.size 10 11 u2/\Thr wr (w1.heap.size+1) (if 0<i then ((a:Int)/2%4) else 0) (if 1<i then ((b:Int)/2%4) else 0) (if 2<i then u2 else 0)/\(∀ j,wr.frozen? ⟨w1.heap.size+1,j,none⟩=false)/\Below w.heap.size w wr/\w1.heap.size+1<wr.heap.size) (fun t _=>3-(intOf t).toNat)
 case atStart=>exact ⟨0,by decide,rfl,⟨by go_simp,by go_simp,by go_simp⟩,⟨by go_simp,by go_simp,by go_simp⟩,⟨by go_simp,by go_simp,by go_simp⟩,fun j=>by go_simp,bgo,by simp⟩
 case round =>
  obtain ⟨i,hi,rfl,⟨p0,p1,p2⟩,⟨q0,q1,q2⟩,⟨s0,s1,s2⟩,hfr,hbw,hsz⟩:=hrel
  have hl0:w.heap.size<wr.heap.size:=by omega
  have hl1:w1.heap.size<wr.heap.size:=by omega
  have hne1:¬ w.heap.size=w1.heap.size+1:=by omega
  have hne2:¬ w1.heap.size=w1.heap.size+1:=by omega
  have hi':i=0∨i=1∨i=2∨i=3:=by omega
  rcases hi' with rfl|rfl|rfl|rfl
  ·go_wp2
   go_roundw
   case rel=>exact ⟨1,by omega,by go_num,⟨by go_simp,by go_simp,by go_simp⟩,⟨by go_simp,by go_simp,by go_simp⟩,⟨by go_simp,by go_simp,by go_simp⟩,fun j=>by go_simp,bgo,by simpa using hsz⟩
   case measure=>simp [intOf]
  ·go_wp2
   go_roundw
   case rel=>exact ⟨2,by omega,by go_num,⟨by go_simp,by go_simp,by go_simp⟩,⟨by go_simp,by go_simp,by go_simp⟩,⟨by go_simp,by go_simp,by go_simp⟩,fun j=>by go_simp,bgo,by simpa using hsz⟩
   case measure=>simp [intOf]
  ·go_wp2
   go_roundw
   case rel=>exact ⟨3,by omega,by go_num,⟨by go_simp,by go_simp,by go_simp⟩,⟨by go_simp,by go_simp,by go_simp⟩,⟨by go_simp,by go_simp,by go_simp⟩,fun j=>by go_simp,bgo,by simpa using hsz⟩
   case measure=>simp [intOf]
  ·go_wp2
   exact bodyPost_ret (v:=.tuple #[.int .i64 R,.int .i64 0]) (by
    simp only [results,Tryz.results90]
    go_simp
    rw [← hR]
    exact dl_bits (by omega) (by omega) (by omega) (by omega) (by omega) (by omega)) rfl ⟨rfl,hbw⟩
theorem enc_2 (n a b c g:Nat)(w:World)(hn:n<1000)(ha:n/100=a)(hb:n/10%10=b)(hc:n%10=c)(hg:a/8*4+b/8*2+c/8=g)(R:Int)(u2:Int)(hu2:0<=u2/\u2<8)(hv2:¬ 10<=u2)
  (hR:((((a:Int)/2%4):Int)*256+(a:Int)%2*128+((c:Int)/2%4)*32+(b:Int)%2*16+u2*2+(c:Int)%2)=R)
  (c21:∀ W,CB 116 #[.int .i64 (g:Int)] W (.agg #[.int .i64 10,.int .i64 12,.int .i64 u2])) :
  CB 90 #[.int .i64 (n:Int)] w (.tuple #[.int .i64 R,.int .i64 0]):=by
 have h0:¬ (n:Int)<0:=by omega
 have h9:¬ 999<(n:Int):=by omega
 have ea:(n:Int)/100=(a:Int):=by omega
 have eb:(n:Int)/10%10=(b:Int):=by omega
 have ec:(n:Int)%10=(c:Int):=by omega
 have eg:(a:Int)/8*4+(b:Int)/8*2+(c:Int)/8=(g:Int):=by omega
 have la:(a:Int)/8<=1:=by omega
 have lb:(b:Int)/8<=1:=by omega
 go_enter Tryz.func90,Tryz.ntmps90
 go_wp2_with (go_at_call 116;refine (c21 _).mono ?_;rintro r w1 ⟨rfl,hb1⟩;obtain ⟨_,_,_,_,hA1,_⟩:=wz w hb1;clear hb1)
 go_loopw [39] (fun t wr=>∃ i:Nat,i<=3/\t=.int .i64 i/\Thr wr w.heap.size a b c/\Thr wr w1.heap.size 10 12 u2/\Thr wr (w1.heap.size+1) (if 0<i then ((a:Int)/2%4) else 0) (if 1<i then ((c:Int)/2%4) else 0) (if 2<i then u2 else 0)/\(∀ j,wr.frozen? ⟨w1.heap.size+1,j,none⟩=false)/\Below w.heap.size w wr/\w1.heap.size+1<wr.heap.size) (fun t _=>3-(intOf t).toNat)
 case atStart=>exact ⟨0,by decide,rfl,⟨by go_simp,by go_simp,by go_simp⟩,⟨by go_simp,by go_simp,by go_simp⟩,⟨by go_simp,by go_simp,by go_simp⟩,fun j=>by go_simp,bgo,by simp⟩
 case round =>
  obtain ⟨i,hi,rfl,⟨p0,p1,p2⟩,⟨q0,q1,q2⟩,⟨s0,s1,s2⟩,hfr,hbw,hsz⟩:=hrel
  have hl0:w.heap.size<wr.heap.size:=by omega
  have hl1:w1.heap.size<wr.heap.size:=by omega
  have hne1:¬ w.heap.size=w1.heap.size+1:=by omega
  have hne2:¬ w1.heap.size=w1.heap.size+1:=by omega
  have hi':i=0∨i=1∨i=2∨i=3:=by omega
  rcases hi' with rfl|rfl|rfl|rfl
  ·go_wp2
   go_roundw
   case rel=>exact ⟨1,by omega,by go_num,⟨by go_simp,by go_simp,by go_simp⟩,⟨by go_simp,by go_simp,by go_simp⟩,⟨by go_simp,by go_simp,by go_simp⟩,fun j=>by go_simp,bgo,by simpa using hsz⟩
   case measure=>simp [intOf]
  ·go_wp2
   go_roundw
   case rel=>exact ⟨2,by omega,by go_num,⟨by go_simp,by go_simp,by go_simp⟩,⟨by go_simp,by go_simp,by go_simp⟩,⟨by go_simp,by go_simp,by go_simp⟩,fun j=>by go_simp,bgo,by simpa using hsz⟩
   case measure=>simp [intOf]
  ·go_wp2
   go_roundw
   case rel=>exact ⟨3,by omega,by go_num,⟨by go_simp,by go_simp,by go_simp⟩,⟨by go_simp,by go_simp,by go_simp⟩,⟨by go_simp,by go_simp,by go_simp⟩,fun j=>by go_simp,bgo,by simpa using hsz⟩
   case measure=>simp [intOf]
  ·go_wp2
   exact bodyPost_ret (v:=.tuple #[.int .i64 R,.int .i64 0]) (by
    simp only [results,Tryz.results90]
    go_simp
    rw [← hR]
    exact dl_bits (by omega) (by omega) (by omega) (by omega) (by omega) (by omega)) rfl ⟨rfl,hbw⟩
theorem enc_3 (n a b c g:Nat)(w:World)(hn:n<1000)(ha:n/100=a)(hb:n/10%10=b)(hc:n%10=c)(hg:a/8*4+b/8*2+c/8=g)(R:Int)(u1:Int)(hu1:0<=u1/\u1<4)(hv1:¬ 10<=u1)(u2:Int)(hu2:0<=u2/\u2<8)(hv2:¬ 10<=u2)
  (hR:((((a:Int)/2%4):Int)*256+(a:Int)%2*128+u1*32+(b:Int)%2*16+u2*2+(c:Int)%2)=R)
  (c21:∀ W,CB 116 #[.int .i64 (g:Int)] W (.agg #[.int .i64 10,.int .i64 u1,.int .i64 u2])) :
  CB 90 #[.int .i64 (n:Int)] w (.tuple #[.int .i64 R,.int .i64 0]):=by
 have h0:¬ (n:Int)<0:=by omega
 have h9:¬ 999<(n:Int):=by omega
 have ea:(n:Int)/100=(a:Int):=by omega
 have eb:(n:Int)/10%10=(b:Int):=by omega
 have ec:(n:Int)%10=(c:Int):=by omega
 have eg:(a:Int)/8*4+(b:Int)/8*2+(c:Int)/8=(g:Int):=by omega
 have la:(a:Int)/8<=1:=by omega
 have lb:(b:Int)/8<=1:=by omega
 go_enter Tryz.func90,Tryz.ntmps90
 go_wp2_with (go_at_call 116;refine (c21 _).mono ?_;rintro r w1 ⟨rfl,hb1⟩;obtain ⟨_,_,_,_,hA1,_⟩:=wz w hb1;clear hb1)
 go_loopw [39] (fun t wr=>∃ i:Nat,i<=3/\t=.int .i64 i/\Thr wr w.heap.size a b c/\Thr wr w1.heap.size 10 u1 u2/\Thr wr (w1.heap.size+1) (if 0<i then ((a:Int)/2%4) else 0) (if 1<i then u1 else 0) (if 2<i then u2 else 0)/\(∀ j,wr.frozen? ⟨w1.heap.size+1,j,none⟩=false)/\Below w.heap.size w wr/\w1.heap.size+1<wr.heap.size) (fun t _=>3-(intOf t).toNat)
 case atStart=>exact ⟨0,by decide,rfl,⟨by go_simp,by go_simp,by go_simp⟩,⟨by go_simp,by go_simp,by go_simp⟩,⟨by go_simp,by go_simp,by go_simp⟩,fun j=>by go_simp,bgo,by simp⟩
 case round =>
  obtain ⟨i,hi,rfl,⟨p0,p1,p2⟩,⟨q0,q1,q2⟩,⟨s0,s1,s2⟩,hfr,hbw,hsz⟩:=hrel
  have hl0:w.heap.size<wr.heap.size:=by omega
  have hl1:w1.heap.size<wr.heap.size:=by omega
  have hne1:¬ w.heap.size=w1.heap.size+1:=by omega
  have hne2:¬ w1.heap.size=w1.heap.size+1:=by omega
  have hi':i=0∨i=1∨i=2∨i=3:=by omega
  rcases hi' with rfl|rfl|rfl|rfl
  ·go_wp2
   go_roundw
   case rel=>exact ⟨1,by omega,by go_num,⟨by go_simp,by go_simp,by go_simp⟩,⟨by go_simp,by go_simp,by go_simp⟩,⟨by go_simp,by go_simp,by go_simp⟩,fun j=>by go_simp,bgo,by simpa using hsz⟩
   case measure=>simp [intOf]
  ·go_wp2
   go_roundw
   case rel=>exact ⟨2,by omega,by go_num,⟨by go_simp,by go_simp,by go_simp⟩,⟨by go_simp,by go_simp,by go_simp⟩,⟨by go_simp,by go_simp,by go_simp⟩,fun j=>by go_simp,bgo,by simpa using hsz⟩
   case measure=>simp [intOf]
  ·go_wp2
   go_roundw
   case rel=>exact ⟨3,by omega,by go_num,⟨by go_simp,by go_simp,by go_simp⟩,⟨by go_simp,by go_simp,by go_simp⟩,⟨by go_simp,by go_simp,by go_simp⟩,fun j=>by go_simp,bgo,by simpa using hsz⟩
   case measure=>simp [intOf]
  ·go_wp2
   exact bodyPost_ret (v:=.tuple #[.int .i64 R,.int .i64 0]) (by
    simp only [results,Tryz.results90]
    go_simp
    rw [← hR]
    exact dl_bits (by omega) (by omega) (by omega) (by omega) (by omega) (by omega)) rfl ⟨rfl,hbw⟩
theorem enc_4 (n a b c g:Nat)(w:World)(hn:n<1000)(ha:n/100=a)(hb:n/10%10=b)(hc:n%10=c)(hg:a/8*4+b/8*2+c/8=g)(R:Int)(u2:Int)(hu2:0<=u2/\u2<8)(hv2:¬ 10<=u2)
  (hR:((((c:Int)/2%4):Int)*256+(a:Int)%2*128+((b:Int)/2%4)*32+(b:Int)%2*16+u2*2+(c:Int)%2)=R)
  (c21:∀ W,CB 116 #[.int .i64 (g:Int)] W (.agg #[.int .i64 12,.int .i64 11,.int .i64 u2])) :
  CB 90 #[.int .i64 (n:Int)] w (.tuple #[.int .i64 R,.int .i64 0]):=by
 have h0:¬ (n:Int)<0:=by omega
 have h9:¬ 999<(n:Int):=by omega
 have ea:(n:Int)/100=(a:Int):=by omega
 have eb:(n:Int)/10%10=(b:Int):=by omega
 have ec:(n:Int)%10=(c:Int):=by omega
 have eg:(a:Int)/8*4+(b:Int)/8*2+(c:Int)/8=(g:Int):=by omega
 have la:(a:Int)/8<=1:=by omega
 have lb:(b:Int)/8<=1:=by omega
 go_enter Tryz.func90,Tryz.ntmps90
 go_wp2_with (go_at_call 116;refine (c21 _).mono ?_;rintro r w1 ⟨rfl,hb1⟩;obtain ⟨_,_,_,_,hA1,_⟩:=wz w hb1;clear hb1)
 go_loopw [39] (fun t wr=>∃ i:Nat,i<=3/\t=.int .i64 i/\Thr wr w.heap.size a b c/\Thr wr w1.heap.size 12 11 u2/\Thr wr (w1.heap.size+1) (if 0<i then ((c:Int)/2%4) else 0) (if 1<i then ((b:Int)/2%4) else 0) (if 2<i then u2 else 0)/\(∀ j,wr.frozen? ⟨w1.heap.size+1,j,none⟩=false)/\Below w.heap.size w wr/\w1.heap.size+1<wr.heap.size) (fun t _=>3-(intOf t).toNat)
 case atStart=>exact ⟨0,by decide,rfl,⟨by go_simp,by go_simp,by go_simp⟩,⟨by go_simp,by go_simp,by go_simp⟩,⟨by go_simp,by go_simp,by go_simp⟩,fun j=>by go_simp,bgo,by simp⟩
 case round =>
  obtain ⟨i,hi,rfl,⟨p0,p1,p2⟩,⟨q0,q1,q2⟩,⟨s0,s1,s2⟩,hfr,hbw,hsz⟩:=hrel
  have hl0:w.heap.size<wr.heap.size:=by omega
  have hl1:w1.heap.size<wr.heap.size:=by omega
  have hne1:¬ w.heap.size=w1.heap.size+1:=by omega
  have hne2:¬ w1.heap.size=w1.heap.size+1:=by omega
  have hi':i=0∨i=1∨i=2∨i=3:=by omega
  rcases hi' with rfl|rfl|rfl|rfl
  ·go_wp2
   go_roundw
   case rel=>exact ⟨1,by omega,by go_num,⟨by go_simp,by go_simp,by go_simp⟩,⟨by go_simp,by go_simp,by go_simp⟩,⟨by go_simp,by go_simp,by go_simp⟩,fun j=>by go_simp,bgo,by simpa using hsz⟩
   case measure=>simp [intOf]
  ·go_wp2
   go_roundw
   case rel=>exact ⟨2,by omega,by go_num,⟨by go_simp,by go_simp,by go_simp⟩,⟨by go_simp,by go_simp,by go_simp⟩,⟨by go_simp,by go_simp,by go_simp⟩,fun j=>by go_simp,bgo,by simpa using hsz⟩
   case measure=>simp [intOf]
  ·go_wp2
   go_roundw
   case rel=>exact ⟨3,by omega,by go_num,⟨by go_simp,by go_simp,by go_simp⟩,⟨by go_simp,by go_simp,by go_simp⟩,⟨by go_simp,by go_simp,by go_simp⟩,fun j=>by go_simp,bgo,by simpa using hsz⟩
   case measure=>simp [intOf]
  ·go_wp2
   exact bodyPost_ret (v:=.tuple #[.int .i64 R,.int .i64 0]) (by
    simp only [results,Tryz.results90]
    go_simp
    rw [← hR]
    exact dl_bits (by omega) (by omega) (by omega) (by omega) (by omega) (by omega)) rfl ⟨rfl,hbw⟩
theorem enc_5 (n a b c g:Nat)(w:World)(hn:n<1000)(ha:n/100=a)(hb:n/10%10=b)(hc:n%10=c)(hg:a/8*4+b/8*2+c/8=g)(R:Int)(u1:Int)(hu1:0<=u1/\u1<4)(hv1:¬ 10<=u1)(u2:Int)(hu2:0<=u2/\u2<8)(hv2:¬ 10<=u2)
  (hR:((((b:Int)/2%4):Int)*256+(a:Int)%2*128+u1*32+(b:Int)%2*16+u2*2+(c:Int)%2)=R)
  (c21:∀ W,CB 116 #[.int .i64 (g:Int)] W (.agg #[.int .i64 11,.int .i64 u1,.int .i64 u2])) :
  CB 90 #[.int .i64 (n:Int)] w (.tuple #[.int .i64 R,.int .i64 0]):=by
 have h0:¬ (n:Int)<0:=by omega
 have h9:¬ 999<(n:Int):=by omega
 have ea:(n:Int)/100=(a:Int):=by omega
 have eb:(n:Int)/10%10=(b:Int):=by omega
 have ec:(n:Int)%10=(c:Int):=by omega
 have eg:(a:Int)/8*4+(b:Int)/8*2+(c:Int)/8=(g:Int):=by omega
 have la:(a:Int)/8<=1:=by omega
 have lb:(b:Int)/8<=1:=by omega
 go_enter Tryz.func90,Tryz.ntmps90
 go_wp2_with (go_at_call 116;refine (c21 _).mono ?_;rintro r w1 ⟨rfl,hb1⟩;obtain ⟨_,_,_,_,hA1,_⟩:=wz w hb1;clear hb1)
 go_loopw [39] (fun t wr=>∃ i:Nat,i<=3/\t=.int .i64 i/\Thr wr w.heap.size a b c/\Thr wr w1.heap.size 11 u1 u2/\Thr wr (w1.heap.size+1) (if 0<i then ((b:Int)/2%4) else 0) (if 1<i then u1 else 0) (if 2<i then u2 else 0)/\(∀ j,wr.frozen? ⟨w1.heap.size+1,j,none⟩=false)/\Below w.heap.size w wr/\w1.heap.size+1<wr.heap.size) (fun t _=>3-(intOf t).toNat)
 case atStart=>exact ⟨0,by decide,rfl,⟨by go_simp,by go_simp,by go_simp⟩,⟨by go_simp,by go_simp,by go_simp⟩,⟨by go_simp,by go_simp,by go_simp⟩,fun j=>by go_simp,bgo,by simp⟩
 case round =>
  obtain ⟨i,hi,rfl,⟨p0,p1,p2⟩,⟨q0,q1,q2⟩,⟨s0,s1,s2⟩,hfr,hbw,hsz⟩:=hrel
  have hl0:w.heap.size<wr.heap.size:=by omega
  have hl1:w1.heap.size<wr.heap.size:=by omega
  have hne1:¬ w.heap.size=w1.heap.size+1:=by omega
  have hne2:¬ w1.heap.size=w1.heap.size+1:=by omega
  have hi':i=0∨i=1∨i=2∨i=3:=by omega
  rcases hi' with rfl|rfl|rfl|rfl
  ·go_wp2
   go_roundw
   case rel=>exact ⟨1,by omega,by go_num,⟨by go_simp,by go_simp,by go_simp⟩,⟨by go_simp,by go_simp,by go_simp⟩,⟨by go_simp,by go_simp,by go_simp⟩,fun j=>by go_simp,bgo,by simpa using hsz⟩
   case measure=>simp [intOf]
  ·go_wp2
   go_roundw
   case rel=>exact ⟨2,by omega,by go_num,⟨by go_simp,by go_simp,by go_simp⟩,⟨by go_simp,by go_simp,by go_simp⟩,⟨by go_simp,by go_simp,by go_simp⟩,fun j=>by go_simp,bgo,by simpa using hsz⟩
   case measure=>simp [intOf]
  ·go_wp2
   go_roundw
   case rel=>exact ⟨3,by omega,by go_num,⟨by go_simp,by go_simp,by go_simp⟩,⟨by go_simp,by go_simp,by go_simp⟩,⟨by go_simp,by go_simp,by go_simp⟩,fun j=>by go_simp,bgo,by simpa using hsz⟩
   case measure=>simp [intOf]
  ·go_wp2
   exact bodyPost_ret (v:=.tuple #[.int .i64 R,.int .i64 0]) (by
    simp only [results,Tryz.results90]
    go_simp
    rw [← hR]
    exact dl_bits (by omega) (by omega) (by omega) (by omega) (by omega) (by omega)) rfl ⟨rfl,hbw⟩
theorem enc_6 (n a b c g:Nat)(w:World)(hn:n<1000)(ha:n/100=a)(hb:n/10%10=b)(hc:n%10=c)(hg:a/8*4+b/8*2+c/8=g)(R:Int)(u1:Int)(hu1:0<=u1/\u1<4)(hv1:¬ 10<=u1)(u2:Int)(hu2:0<=u2/\u2<8)(hv2:¬ 10<=u2)
  (hR:((((c:Int)/2%4):Int)*256+(a:Int)%2*128+u1*32+(b:Int)%2*16+u2*2+(c:Int)%2)=R)
  (c21:∀ W,CB 116 #[.int .i64 (g:Int)] W (.agg #[.int .i64 12,.int .i64 u1,.int .i64 u2])) :
  CB 90 #[.int .i64 (n:Int)] w (.tuple #[.int .i64 R,.int .i64 0]):=by
 have h0:¬ (n:Int)<0:=by omega
 have h9:¬ 999<(n:Int):=by omega
 have ea:(n:Int)/100=(a:Int):=by omega
 have eb:(n:Int)/10%10=(b:Int):=by omega
 have ec:(n:Int)%10=(c:Int):=by omega
 have eg:(a:Int)/8*4+(b:Int)/8*2+(c:Int)/8=(g:Int):=by omega
 have la:(a:Int)/8<=1:=by omega
 have lb:(b:Int)/8<=1:=by omega
 go_enter Tryz.func90,Tryz.ntmps90
 go_wp2_with (go_at_call 116;refine (c21 _).mono ?_;rintro r w1 ⟨rfl,hb1⟩;obtain ⟨_,_,_,_,hA1,_⟩:=wz w hb1;clear hb1)
 go_loopw [39] (fun t wr=>∃ i:Nat,i<=3/\t=.int .i64 i/\Thr wr w.heap.size a b c/\Thr wr w1.heap.size 12 u1 u2/\Thr wr (w1.heap.size+1) (if 0<i then ((c:Int)/2%4) else 0) (if 1<i then u1 else 0) (if 2<i then u2 else 0)/\(∀ j,wr.frozen? ⟨w1.heap.size+1,j,none⟩=false)/\Below w.heap.size w wr/\w1.heap.size+1<wr.heap.size) (fun t _=>3-(intOf t).toNat)
 case atStart=>exact ⟨0,by decide,rfl,⟨by go_simp,by go_simp,by go_simp⟩,⟨by go_simp,by go_simp,by go_simp⟩,⟨by go_simp,by go_simp,by go_simp⟩,fun j=>by go_simp,bgo,by simp⟩
 case round =>
  obtain ⟨i,hi,rfl,⟨p0,p1,p2⟩,⟨q0,q1,q2⟩,⟨s0,s1,s2⟩,hfr,hbw,hsz⟩:=hrel
  have hl0:w.heap.size<wr.heap.size:=by omega
  have hl1:w1.heap.size<wr.heap.size:=by omega
  have hne1:¬ w.heap.size=w1.heap.size+1:=by omega
  have hne2:¬ w1.heap.size=w1.heap.size+1:=by omega
  have hi':i=0∨i=1∨i=2∨i=3:=by omega
  rcases hi' with rfl|rfl|rfl|rfl
  ·go_wp2
   go_roundw
   case rel=>exact ⟨1,by omega,by go_num,⟨by go_simp,by go_simp,by go_simp⟩,⟨by go_simp,by go_simp,by go_simp⟩,⟨by go_simp,by go_simp,by go_simp⟩,fun j=>by go_simp,bgo,by simpa using hsz⟩
   case measure=>simp [intOf]
  ·go_wp2
   go_roundw
   case rel=>exact ⟨2,by omega,by go_num,⟨by go_simp,by go_simp,by go_simp⟩,⟨by go_simp,by go_simp,by go_simp⟩,⟨by go_simp,by go_simp,by go_simp⟩,fun j=>by go_simp,bgo,by simpa using hsz⟩
   case measure=>simp [intOf]
  ·go_wp2
   go_roundw
   case rel=>exact ⟨3,by omega,by go_num,⟨by go_simp,by go_simp,by go_simp⟩,⟨by go_simp,by go_simp,by go_simp⟩,⟨by go_simp,by go_simp,by go_simp⟩,fun j=>by go_simp,bgo,by simpa using hsz⟩
   case measure=>simp [intOf]
  ·go_wp2
   exact bodyPost_ret (v:=.tuple #[.int .i64 R,.int .i64 0]) (by
    simp only [results,Tryz.results90]
    go_simp
    rw [← hR]
    exact dl_bits (by omega) (by omega) (by omega) (by omega) (by omega) (by omega)) rfl ⟨rfl,hbw⟩
theorem enc_7 (n a b c g:Nat)(w:World)(hn:n<1000)(ha:n/100=a)(hb:n/10%10=b)(hc:n%10=c)(hg:a/8*4+b/8*2+c/8=g)(R:Int)(u0:Int)(hu0:0<=u0/\u0<4)(hv0:¬ 10<=u0)(u1:Int)(hu1:0<=u1/\u1<4)(hv1:¬ 10<=u1)(u2:Int)(hu2:0<=u2/\u2<8)(hv2:¬ 10<=u2)
  (hR:((u0:Int)*256+(a:Int)%2*128+u1*32+(b:Int)%2*16+u2*2+(c:Int)%2)=R)
  (c21:∀ W,CB 116 #[.int .i64 (g:Int)] W (.agg #[.int .i64 u0,.int .i64 u1,.int .i64 u2])) :
  CB 90 #[.int .i64 (n:Int)] w (.tuple #[.int .i64 R,.int .i64 0]):=by
 have h0:¬ (n:Int)<0:=by omega
 have h9:¬ 999<(n:Int):=by omega
 have ea:(n:Int)/100=(a:Int):=by omega
 have eb:(n:Int)/10%10=(b:Int):=by omega
 have ec:(n:Int)%10=(c:Int):=by omega
 have eg:(a:Int)/8*4+(b:Int)/8*2+(c:Int)/8=(g:Int):=by omega
 have la:(a:Int)/8<=1:=by omega
 have lb:(b:Int)/8<=1:=by omega
 go_enter Tryz.func90,Tryz.ntmps90
 go_wp2_with (go_at_call 116;refine (c21 _).mono ?_;rintro r w1 ⟨rfl,hb1⟩;obtain ⟨_,_,_,_,hA1,_⟩:=wz w hb1;clear hb1)
 go_loopw [39] (fun t wr=>∃ i:Nat,i<=3/\t=.int .i64 i/\Thr wr w.heap.size a b c/\Thr wr w1.heap.size u0 u1 u2/\Thr wr (w1.heap.size+1) (if 0<i then u0 else 0) (if 1<i then u1 else 0) (if 2<i then u2 else 0)/\(∀ j,wr.frozen? ⟨w1.heap.size+1,j,none⟩=false)/\Below w.heap.size w wr/\w1.heap.size+1<wr.heap.size) (fun t _=>3-(intOf t).toNat)
 case atStart=>exact ⟨0,by decide,rfl,⟨by go_simp,by go_simp,by go_simp⟩,⟨by go_simp,by go_simp,by go_simp⟩,⟨by go_simp,by go_simp,by go_simp⟩,fun j=>by go_simp,bgo,by simp⟩
 case round =>
  obtain ⟨i,hi,rfl,⟨p0,p1,p2⟩,⟨q0,q1,q2⟩,⟨s0,s1,s2⟩,hfr,hbw,hsz⟩:=hrel
  have hl0:w.heap.size<wr.heap.size:=by omega
  have hl1:w1.heap.size<wr.heap.size:=by omega
  have hne1:¬ w.heap.size=w1.heap.size+1:=by omega
  have hne2:¬ w1.heap.size=w1.heap.size+1:=by omega
  have hi':i=0∨i=1∨i=2∨i=3:=by omega
  rcases hi' with rfl|rfl|rfl|rfl
  ·go_wp2
   go_roundw
   case rel=>exact ⟨1,by omega,by go_num,⟨by go_simp,by go_simp,by go_simp⟩,⟨by go_simp,by go_simp,by go_simp⟩,⟨by go_simp,by go_simp,by go_simp⟩,fun j=>by go_simp,bgo,by simpa using hsz⟩
   case measure=>simp [intOf]
  ·go_wp2
   go_roundw
   case rel=>exact ⟨2,by omega,by go_num,⟨by go_simp,by go_simp,by go_simp⟩,⟨by go_simp,by go_simp,by go_simp⟩,⟨by go_simp,by go_simp,by go_simp⟩,fun j=>by go_simp,bgo,by simpa using hsz⟩
   case measure=>simp [intOf]
  ·go_wp2
   go_roundw
   case rel=>exact ⟨3,by omega,by go_num,⟨by go_simp,by go_simp,by go_simp⟩,⟨by go_simp,by go_simp,by go_simp⟩,⟨by go_simp,by go_simp,by go_simp⟩,fun j=>by go_simp,bgo,by simpa using hsz⟩
   case measure=>simp [intOf]
  ·go_wp2
   exact bodyPost_ret (v:=.tuple #[.int .i64 R,.int .i64 0]) (by
    simp only [results,Tryz.results90]
    go_simp
    rw [← hR]
    exact dl_bits (by omega) (by omega) (by omega) (by omega) (by omega) (by omega)) rfl ⟨rfl,hbw⟩
theorem enc_v (n:Nat)(hn:n<1000)(w:World):CB 90 #[.int .i64 (n:Int)] w (.tuple #[.int .i64 (dlE n:Int),.int .i64 0]):=by
 have hg:=dlG_lt hn
 have c21:=fun W=>row_v (dlG n) hg W
 have hgg:n/100/8*4+n/10%10/8*2+n%10/8=dlG n:=rfl
 have h:dlG n=0∨dlG n=1∨dlG n=2∨dlG n=3∨dlG n=4∨dlG n=5∨dlG n=6∨dlG n=7:=by omega
 rcases h with h|h|h|h|h|h|h|h
 ·have e:dlE n=n/100/2%4*256+n/100%2*128+n/10%10/2%4*32+n/10%10%2*16+n%10/2%4*2+n%10%2:=by
   unfold dlE
   rw [h]
   rfl
  refine enc_0 n _ _ _ (dlG n) w hn rfl rfl rfl hgg _ (by rw [e];omega) (fun W=>?_)
  have:=c21 W
  rw [h] at this ⊢
  exact this
 ·have e:dlE n=n/100/2%4*256+n/100%2*128+n/10%10/2%4*32+n/10%10%2*16+4*2+n%10%2:=by
   unfold dlE
   rw [h]
   rfl
  refine enc_1 n _ _ _ (dlG n) w hn rfl rfl rfl hgg _ 4 (by decide) (by decide) (by rw [e];omega) (fun W=>?_)
  have:=c21 W
  rw [h] at this ⊢
  exact this
 ·have e:dlE n=n/100/2%4*256+n/100%2*128+n%10/2%4*32+n/10%10%2*16+5*2+n%10%2:=by
   unfold dlE
   rw [h]
   rfl
  refine enc_2 n _ _ _ (dlG n) w hn rfl rfl rfl hgg _ 5 (by decide) (by decide) (by rw [e];omega) (fun W=>?_)
  have:=c21 W
  rw [h] at this ⊢
  exact this
 ·have e:dlE n=n/100/2%4*256+n/100%2*128+2*32+n/10%10%2*16+7*2+n%10%2:=by
   unfold dlE
   rw [h]
   rfl
  refine enc_3 n _ _ _ (dlG n) w hn rfl rfl rfl hgg _ 2 (by decide) (by decide) 7 (by decide) (by decide) (by rw [e];omega) (fun W=>?_)
  have:=c21 W
  rw [h] at this ⊢
  exact this
 ·have e:dlE n=n%10/2%4*256+n/100%2*128+n/10%10/2%4*32+n/10%10%2*16+6*2+n%10%2:=by
   unfold dlE
   rw [h]
   rfl
  refine enc_4 n _ _ _ (dlG n) w hn rfl rfl rfl hgg _ 6 (by decide) (by decide) (by rw [e];omega) (fun W=>?_)
  have:=c21 W
  rw [h] at this ⊢
  exact this
 ·have e:dlE n=n/10%10/2%4*256+n/100%2*128+1*32+n/10%10%2*16+7*2+n%10%2:=by
   unfold dlE
   rw [h]
   rfl
  refine enc_5 n _ _ _ (dlG n) w hn rfl rfl rfl hgg _ 1 (by decide) (by decide) 7 (by decide) (by decide) (by rw [e];omega) (fun W=>?_)
  have:=c21 W
  rw [h] at this ⊢
  exact this
 ·have e:dlE n=n%10/2%4*256+n/100%2*128+0*32+n/10%10%2*16+7*2+n%10%2:=by
   unfold dlE
   rw [h]
   rfl
  refine enc_6 n _ _ _ (dlG n) w hn rfl rfl rfl hgg _ 0 (by decide) (by decide) 7 (by decide) (by decide) (by rw [e];omega) (fun W=>?_)
  have:=c21 W
  rw [h] at this ⊢
  exact this
 ·have e:dlE n=0*256+n/100%2*128+3*32+n/10%10%2*16+7*2+n%10%2:=by
   unfold dlE
   rw [h]
   rfl
  refine enc_7 n _ _ _ (dlG n) w hn rfl rfl rfl hgg _ 0 (by decide) (by decide) 3 (by decide) (by decide) 7 (by decide) (by decide) (by rw [e];omega) (fun W=>?_)
  have:=c21 W
  rw [h] at this ⊢
  exact this
end Go.Proofs.YtgknbdehlmlipaaGreatDoor
