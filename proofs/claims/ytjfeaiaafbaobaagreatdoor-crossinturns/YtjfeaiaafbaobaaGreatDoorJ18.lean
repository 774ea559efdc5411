/-
  Texts that the proof leans on.
-/
import Derived.Test.YtjfeaiaafbaobaaGreatDoorJ1
import Derived.Test.YtjfeaiaafbaobaaGreatDoorJ15
set_option maxHeartbeats 8000000
set_option linter.unusedVariables false
set_option linter.unusedSectionVars false
set_option linter.unusedSimpArgs false
set_option maxRecDepth 20000
namespace Go.Proofs.YtjfeaiaafbaobaaGreatDoor
open Go.RowKit
section
def fdT (a b c:Int):Int×Int×Int :=
 if a/8=0 then
  if b/8=0 then (if c/8=0 then (bits .and .i64 (a/2) 3,bits .and .i64 (b/2) 3,bits .and .i64 (c/2) 3) else (bits .and .i64 (a/2) 3,bits .and .i64 (b/2) 3,4))
  else (if c/8=0 then (bits .and .i64 (a/2) 3,bits .and .i64 (c/2) 3,5) else (bits .and .i64 (a/2) 3,2,7))
 else
  if b/8=0 then (if c/8=0 then (bits .and .i64 (c/2) 3,bits .and .i64 (b/2) 3,6) else (bits .and .i64 (b/2) 3,1,7))
  else (if c/8=0 then (bits .and .i64 (c/2) 3,0,7) else (0,3,7))
theorem fields_v (a b c:Int)(w:World)(ha:0<=a/\a<=9)(hb:0<=b/\b<=9)(hc:0<=c/\c<=9) :
  CQ 224 #[.int .i64 a,.int .i64 b,.int .i64 c] w (.tuple #[.int .i64 (fdT a b c).1,.int .i64 (fdT a b c).2.1,.int .i64 (fdT a b c).2.2]):=by
 unfold fdT
 by_cases h1:a/8=0
 ·rw [if_pos h1]
  by_cases h2:b/8=0
  ·rw [if_pos h2]
   by_cases h3:c/8=0
   ·rw [if_pos h3]
    exact fields_0 a b c _ _ _ w (fun W=>great_v a 0 ha.1 h1 W) (fun W=>great_v b 0 hb.1 h2 W) (fun W=>great_v c 0 hc.1 h3 W) ha.1 hb.1 hc.1 rfl rfl rfl
   ·rw [if_neg h3]
    exact fields_1 a b c _ _ _ w (fun W=>great_v a 0 ha.1 h1 W) (fun W=>great_v b 0 hb.1 h2 W) (fun W=>great_v c 1 hc.1 (by omega) W) ha.1 hb.1 hc.1 rfl rfl rfl
  ·rw [if_neg h2]
   by_cases h3:c/8=0
   ·rw [if_pos h3]
    exact fields_2 a b c _ _ _ w (fun W=>great_v a 0 ha.1 h1 W) (fun W=>great_v b 1 hb.1 (by omega) W) (fun W=>great_v c 0 hc.1 h3 W) ha.1 hb.1 hc.1 rfl rfl rfl
   ·rw [if_neg h3]
    exact fields_3 a b c _ _ _ w (fun W=>great_v a 0 ha.1 h1 W) (fun W=>great_v b 1 hb.1 (by omega) W) (fun W=>great_v c 1 hc.1 (by omega) W) ha.1 hb.1 hc.1 rfl rfl rfl
 ·rw [if_neg h1]
  by_cases h2:b/8=0
  ·rw [if_pos h2]
   by_cases h3:c/8=0
   ·rw [if_pos h3]
    exact fields_4 a b c _ _ _ w (fun W=>great_v a 1 ha.1 (by omega) W) (fun W=>great_v b 0 hb.1 h2 W) (fun W=>great_v c 0 hc.1 h3 W) ha.1 hb.1 hc.1 rfl rfl rfl
   ·rw [if_neg h3]
    exact fields_5 a b c _ _ _ w (fun W=>great_v a 1 ha.1 (by omega) W) (fun W=>great_v b 0 hb.1 h2 W) (fun W=>great_v c 1 hc.1 (by omega) W) ha.1 hb.1 hc.1 rfl rfl rfl
  ·rw [if_neg h2]
   by_cases h3:c/8=0
   ·rw [if_pos h3]
    exact fields_6 a b c _ _ _ w (fun W=>great_v a 1 ha.1 (by omega) W) (fun W=>great_v b 1 hb.1 (by omega) W) (fun W=>great_v c 0 hc.1 h3 W) ha.1 hb.1 hc.1 rfl rfl rfl
   ·rw [if_neg h3]
    exact fields_7 a b c _ _ _ w (fun W=>great_v a 1 ha.1 (by omega) W) (fun W=>great_v b 1 hb.1 (by omega) W) (fun W=>great_v c 1 hc.1 (by omega) W) ha.1 hb.1 hc.1 rfl rfl rfl
def dcT (a b c:Int):Int:=bits .or .i64 (bits .or .i64 (bits .or .i64 (bits .or .i64 (bits .or .i64 ((fdT a b c).1*256) (bits .and .i64 a 1*128)) ((fdT a b c).2.1*32)) (bits .and .i64 b 1*16)) ((fdT a b c).2.2*2)) (bits .and .i64 c 1)
theorem dc_all (n:Nat)(hn:n<1000):dcT ((n:Int)/100) ((n:Int)/10%10) ((n:Int)%10)=(dlE n:Int)/\(0<=(fdT ((n:Int)/100) ((n:Int)/10%10) ((n:Int)%10)).1/\(fdT ((n:Int)/100) ((n:Int)/10%10) ((n:Int)%10)).1<4)/\(0<=(fdT ((n:Int)/100) ((n:Int)/10%10) ((n:Int)%10)).2.1/\(fdT ((n:Int)/100) ((n:Int)/10%10) ((n:Int)%10)).2.1<4)/\(0<=(fdT ((n:Int)/100) ((n:Int)/10%10) ((n:Int)%10)).2.2/\(fdT ((n:Int)/100) ((n:Int)/10%10) ((n:Int)%10)).2.2<8):=by
 have h:=upTo_all (f:=fun n=>decide (dcT ((n:Int)/100) ((n:Int)/10%10) ((n:Int)%10)=(dlE n:Int)/\(0<=(fdT ((n:Int)/100) ((n:Int)/10%10) ((n:Int)%10)).1/\(fdT ((n:Int)/100) ((n:Int)/10%10) ((n:Int)%10)).1<4)/\(0<=(fdT ((n:Int)/100) ((n:Int)/10%10) ((n:Int)%10)).2.1/\(fdT ((n:Int)/100) ((n:Int)/10%10) ((n:Int)%10)).2.1<4)/\(0<=(fdT ((n:Int)/100) ((n:Int)/10%10) ((n:Int)%10)).2.2/\(fdT ((n:Int)/100) ((n:Int)/10%10) ((n:Int)%10)).2.2<8))) (m:=1000) (by decide +kernel) n hn
 exact of_decide_eq_true h
theorem and_low (n:Nat)(hn:n<1024):bits .and .i64 (n:Int) 1=((n%2:Nat):Int):=by
 have h:=upTo_all (f:=fun n=>decide (bits .and .i64 (n:Int) 1=((n%2:Nat):Int))) (m:=1024) (by decide +kernel) n hn
 exact of_decide_eq_true h
section
variable (n a b c P S V x y z R:Int)(w:World)(h0:¬ n<0)(h9:¬ 1000<=n)(ea:n/100=a)(eb:n/10%10=b)(ec:n%10=c)
 (cf:∀ W,CQ 224 #[.int .i64 a,.int .i64 b,.int .i64 c] W (.tuple #[.int .i64 P,.int .i64 S,.int .i64 V]))
 (hP0:0<=P) (hP1:P<4) (hS0:0<=S) (hS1:S<4) (hV0:0<=V) (hV1:V<8)
 (hx:bits .and .i64 a 1=x) (hy:bits .and .i64 b 1=y) (hz:bits .and .i64 c 1=z) (hx0:0<=x) (hx1:x<2) (hy0:0<=y) (hy1:y<2)
 (hR:bits .or .i64 (bits .or .i64 (bits .or .i64 (bits .or .i64 (bits .or .i64 (P*256) (x*128)) (S*32)) (y*16)) (V*2)) z=R)
include h0 h9 ea eb ec cf hP0 hP1 hS0 hS1 hV0 hV1 hx hy hz hx0 hx1 hy0 hy1 hR
theorem denc_w:CQ 212 #[.int .i64 n] w (.tuple #[.int .i64 R,.int .i64 0]):=by
 go_enter Tryz.func212,Tryz.ntmps212
 go_wp2_with (go_at_call 224;refine (cf _).mono ?_;rintro r w1 ⟨rfl,rfl⟩)
 exact bodyPost_ret (by simp only [results,Tryz.results212];go_simp) rfl ⟨rfl,rfl⟩
end
theorem denc_v (n:Nat)(hn:n<1000)(w:World):CQ 212 #[.int .i64 (n:Int)] w (.tuple #[.int .i64 (dlE n:Int),.int .i64 0]):=by
 obtain ⟨hR,⟨p0,p1⟩,⟨s0,s1⟩,⟨v0,v1⟩⟩:=dc_all n hn
 unfold dcT at hR
 have la:=and_low (n/100) (by omega)
 have lb:=and_low (n/10%10) (by omega)
 rw [show ((n/100:Nat):Int)=(n:Int)/100 by omega] at la
 rw [show ((n/10%10:Nat):Int)=(n:Int)/10%10 by omega] at lb
 exact denc_w (n:Int) _ _ _ _ _ _ _ _ _ _ w (by omega) (by omega) rfl rfl rfl (fun W=>fields_v _ _ _ W (by omega) (by omega) (by omega)) p0 p1 s0 s1 v0 v1 rfl rfl rfl (by rw [la];omega) (by rw [la];omega) (by rw [lb];omega) (by rw [lb];omega) hR
def dmT (d:Nat):Int:=100*bits .or .i64 (evT ((d:Int)/256) (bits .and .i64 ((d:Int)/32) 3) (bits .and .i64 ((d:Int)/2) 7)).1 (bits .and .i64 ((d:Int)/128) 1)+10*bits .or .i64 (evT ((d:Int)/256) (bits .and .i64 ((d:Int)/32) 3) (bits .and .i64 ((d:Int)/2) 7)).2.1 (bits .and .i64 ((d:Int)/16) 1)+bits .or .i64 (evT ((d:Int)/256) (bits .and .i64 ((d:Int)/32) 3) (bits .and .i64 ((d:Int)/2) 7)).2.2 (bits .and .i64 (d:Int) 1)
theorem dm_all (d:Nat)(hd:d<1024):dmT d=(dlD d:Int)/\(0<=bits .and .i64 ((d:Int)/32) 3/\bits .and .i64 ((d:Int)/32) 3<4)/\(0<=bits .and .i64 ((d:Int)/2) 7/\bits .and .i64 ((d:Int)/2) 7<8)/\(0<=bits .or .i64 (evT ((d:Int)/256) (bits .and .i64 ((d:Int)/32) 3) (bits .and .i64 ((d:Int)/2) 7)).1 (bits .and .i64 ((d:Int)/128) 1)/\bits .or .i64 (evT ((d:Int)/256) (bits .and .i64 ((d:Int)/32) 3) (bits .and .i64 ((d:Int)/2) 7)).1 (bits .and .i64 ((d:Int)/128) 1)<=9)/\(0<=bits .or .i64 (evT ((d:Int)/256) (bits .and .i64 ((d:Int)/32) 3) (bits .and .i64 ((d:Int)/2) 7)).2.1 (bits .and .i64 ((d:Int)/16) 1)/\bits .or .i64 (evT ((d:Int)/256) (bits .and .i64 ((d:Int)/32) 3) (bits .and .i64 ((d:Int)/2) 7)).2.1 (bits .and .i64 ((d:Int)/16) 1)<=9)/\(0<=bits .or .i64 (evT ((d:Int)/256) (bits .and .i64 ((d:Int)/32) 3) (bits .and .i64 ((d:Int)/2) 7)).2.2 (bits .and .i64 (d:Int) 1)/\bits .or .i64 (evT ((d:Int)/256) (bits .and .i64 ((d:Int)/32) 3) (bits .and .i64 ((d:Int)/2) 7)).2.2 (bits .and .i64 (d:Int) 1)<=9):=by
 have h:=upTo_all (f:=fun d=>decide (dmT d=(dlD d:Int)/\(0<=bits .and .i64 ((d:Int)/32) 3/\bits .and .i64 ((d:Int)/32) 3<4)/\(0<=bits .and .i64 ((d:Int)/2) 7/\bits .and .i64 ((d:Int)/2) 7<8)/\(0<=bits .or .i64 (evT ((d:Int)/256) (bits .and .i64 ((d:Int)/32) 3) (bits .and .i64 ((d:Int)/2) 7)).1 (bits .and .i64 ((d:Int)/128) 1)/\bits .or .i64 (evT ((d:Int)/256) (bits .and .i64 ((d:Int)/32) 3) (bits .and .i64 ((d:Int)/2) 7)).1 (bits .and .i64 ((d:Int)/128) 1)<=9)/\(0<=bits .or .i64 (evT ((d:Int)/256) (bits .and .i64 ((d:Int)/32) 3) (bits .and .i64 ((d:Int)/2) 7)).2.1 (bits .and .i64 ((d:Int)/16) 1)/\bits .or .i64 (evT ((d:Int)/256) (bits .and .i64 ((d:Int)/32) 3) (bits .and .i64 ((d:Int)/2) 7)).2.1 (bits .and .i64 ((d:Int)/16) 1)<=9)/\(0<=bits .or .i64 (evT ((d:Int)/256) (bits .and .i64 ((d:Int)/32) 3) (bits .and .i64 ((d:Int)/2) 7)).2.2 (bits .and .i64 (d:Int) 1)/\bits .or .i64 (evT ((d:Int)/256) (bits .and .i64 ((d:Int)/32) 3) (bits .and .i64 ((d:Int)/2) 7)).2.2 (bits .and .i64 (d:Int) 1)<=9))) (m:=1024) (by decide +kernel) d hd
 exact of_decide_eq_true h
section
variable (d s v x y z xa ya za X Y Z R:Int)(w:World)(h0:¬ d<0)(h0':0<=d)(h9:¬ 1024<=d)(hs:bits .and .i64 (d/32) 3=s)(hv:bits .and .i64 (d/2) 7=v)
 (cf:∀ W,CQ 210 #[.int .i64 (d/256),.int .i64 s,.int .i64 v] W (.tuple #[.int .i64 x,.int .i64 y,.int .i64 z]))
 (ha:bits .and .i64 (d/128) 1=xa) (hb:bits .and .i64 (d/16) 1=ya) (hc:bits .and .i64 d 1=za)
 (hx:bits .or .i64 x xa=X) (hy:bits .or .i64 y ya=Y) (hz:bits .or .i64 z za=Z) (hX0:0<=X) (hX1:X<=9) (hY0:0<=Y) (hY1:Y<=9) (hZ0:0<=Z) (hZ1:Z<=9)
 (hR:100*X+10*Y+Z=R)
include h0 h0' h9 hs hv cf ha hb hc hx hy hz hX0 hX1 hY0 hY1 hZ0 hZ1 hR
theorem ddcd_w:CQ 190 #[.int .i64 d] w (.tuple #[.int .i64 R,.int .i64 0]):=by
 go_enter Tryz.func190,Tryz.ntmps190
 go_wp2_with (go_at_call 210;refine (cf _).mono ?_;rintro r w1 ⟨rfl,rfl⟩)
 exact bodyPost_ret (by simp only [results,Tryz.results190];go_simp) rfl ⟨rfl,rfl⟩
end
theorem ddcd_v (d:Nat)(hd:d<1024)(w:World):CQ 190 #[.int .i64 (d:Int)] w (.tuple #[.int .i64 (dlD d:Int),.int .i64 0]):=by
 obtain ⟨hR,hs,hv,⟨x0,x1⟩,⟨y0,y1⟩,⟨z0,z1⟩⟩:=dm_all d hd
 exact ddcd_w (d:Int) _ _ _ _ _ _ _ _ _ _ _ _ w (by omega) (by omega) (by omega) rfl rfl (fun W=>evens_v _ _ _ W (by omega) hs hv) rfl rfl rfl rfl rfl rfl x0 x1 y0 y1 z0 z1 hR
end
end Go.Proofs.YtjfeaiaafbaobaaGreatDoor
