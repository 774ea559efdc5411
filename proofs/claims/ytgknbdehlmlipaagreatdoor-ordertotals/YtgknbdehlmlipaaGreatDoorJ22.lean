/-
  Texts that the proof leans on.
-/
import Derived.Test.YtgknbdehlmlipaaGreatDoorJ19
import Derived.Test.YtgknbdehlmlipaaGreatDoorJ17
import Derived.BigQuiet
import Derived.Test.YtgknbdehlmlipaaGreatDoorJ2
import Derived.Test.YtgknbdehlmlipaaGreatDoorJ3
set_option maxHeartbeats 8000000
set_option linter.unusedVariables false
set_option linter.unusedSectionVars false
set_option linter.unusedSimpArgs false
set_option maxRecDepth 20000
namespace Go.Proofs.YtgknbdehlmlipaaGreatDoor
open Go.RowKit
section
section
attribute [local go_sem] setCell_drewN alloc_drewN
theorem below_two (w:World)(o1 o2:Obj)(m:Nat):Below w.heap.size w ((((w.alloc o1).alloc o2).drewN m)):=by
 have h:=((Below.refl w.heap.size w).alloc (Nat.le_refl _) o1).alloc (by simp) o2
 exact ⟨h.os,h.tape,h.output,h.size,h.block⟩
theorem below_dr {b:Nat}{w w':World}(h:Below b w w')(m:Nat):Below b w (w'.drewN m):=⟨h.os,h.tape,h.output,h.size,h.block⟩
theorem limCmp4 (x y:Nat->Int)(w:World)(hx:Words x)(hy:Words y) :
  CB 154 #[.agg (arrOf x 4),.agg (arrOf y 4)] w (.int .i64 (cmpL x y 4)):=by
 have sx:(arrOf x 4).size=4:=arrOf_size x 4
 have sy:(arrOf y 4).size=4:=arrOf_size y 4
 have gx:=fun i h=>arrOf_get? x 4 i h
 have gy:=fun i h=>arrOf_get? y 4 i h
 have hx0:=arrOf_get x 4
 have hy0:=arrOf_get y 4
 generalize arrOf x 4=ax at *
 generalize arrOf y 4=ay at *
 go_enter Tryz.func154,Tryz.ntmps154
 go_wp2
 go_loopw [5] (fun t wr=>∃ k m:Nat,k<=4/\cmpL x y k=cmpL x y 4/\t=.int .i64 ((k:Int)-1)/\wr=(((w.alloc (.cells ax 23)).alloc (.cells ay 23)).drewN m)) (fun t _=>(intOf t+1).toNat)
 case atStart=>exact ⟨4,0,Nat.le_refl _,rfl,rfl,rfl⟩
 case round =>
  obtain ⟨k,m,hk,hs,rfl,rfl⟩:=hrel
  by_cases h0:k=0
  ·subst h0
   have HS:Hid (cmpL x y 4=0):=hs.symm
   clear hs
   go_wp2
   go_ret
   exact ⟨ret_int HS.out.symm,below_two _ _ _ _⟩
  ·obtain ⟨j,rfl⟩:∃ j,k=j+1:=⟨k-1,by omega⟩
   have ej:((j+1:Nat):Int)-1=j:=by omega
   have hj8:(j:Int)<4:=by omega
   rw [ej]
   have hcx:=gx j (by omega)
   have hcy:=gy j (by omega)
   have hgx:=hx0 j
   have hgy:=hy0 j
   have HS:Hid ((if x j<y j then -1 else if y j<x j then 1 else cmpL x y j)=cmpL x y 4):=hs
   have hkm:j<=4:=by omega
   clear hs ej hk gx gy hx0 hy0 hx hy
   by_cases hlt:x j<y j
   ·have HR:Hid (cmpL x y 4=-1):=by rw [← HS.out,if_pos hlt];rfl
    clear HS
    go_wp2
    go_quiet (fail)
    go_wp2
    go_ret
    exact ⟨ret_int HR.out.symm,below_dr (below_two _ _ _ _) _⟩
   ·by_cases hgt:y j<x j
    ·have HR:Hid (cmpL x y 4=1):=by rw [← HS.out,if_neg hlt,if_pos hgt];rfl
     clear HS
     go_wp2
     go_quiet (fail)
     go_wp2
     go_quiet (fail)
     go_wp2
     go_ret
     exact ⟨ret_int HR.out.symm,below_dr (below_dr (below_two _ _ _ _) _) _⟩
    ·have HR:Hid (cmpL x y j=cmpL x y 4):=by rw [← HS.out,if_neg hlt,if_neg hgt];rfl
     clear HS
     go_wp2
     go_quiet (fail)
     go_wp2
     go_quiet (fail)
     go_wp2
     go_roundw
     case rel=>exact ⟨j,_,hkm,HR.out,by go_num,rfl⟩
     case measure=>simp [intOf]
end
theorem cmp4 (A B:Nat)(w:World)(hA:A<2^256)(hB:B<2^256) :
  CB 154 #[A4 A,A4 B] w (.int .i64 (sgn (A:Int) (B:Int))):=by
 have h:=limCmp4 (W4 A) (W4 B) w (W4_words A) (W4_words B)
 rw [cmpL_val (W4_words A) (W4_words B),W4_val4 hA,W4_val4 hB] at h
 exact h
theorem dlow_v (x:Int)(c:Nat)(hx:0<=x/\x<=18446744073709551615)(hc:c<=62)(w:World) :
  CQ 153 #[.int .u64 x,.int .i64 (c:Int)] w (.int .u64 (x%2^c)):=by
 have hm:=and_mask (y:=x) (r:=c) hx (by omega)
 have hp:(1:Int)<=2^c/\(2:Int)^c<=4611686018427387904:=by
  have a:(2:Nat)^0<=2^c:=Nat.pow_le_pow_right (by decide) (by omega)
  have b:(2:Nat)^c<=2^62:=Nat.pow_le_pow_right (by decide) hc
  have e:((2:Int)^c)=((2^c:Nat):Int):=by simp
  rw [e];omega
 go_enter Tryz.func153,Tryz.ntmps153
 go_wp2
 go_ret
 exact ⟨rfl,rfl⟩
abbrev LD (dn:Bool)(g t bl:Int)(wo co pa:Nat)(le mo:Int):Value:=.agg #[.bool dn,.int .i64 g,.int .i64 t,.int .i64 bl,.int .u64 (W4 wo 0),.int .u64 (W4 wo 1),.int .u64 (W4 wo 2),.int .u64 (W4 wo 3),.int .u64 (W4 co 0),.int .u64 (W4 co 1),.int .u64 (W4 co 2),.int .u64 (W4 co 3),.int .u64 (W4 pa 0),.int .u64 (W4 pa 1),.int .u64 (W4 pa 2),.int .u64 (W4 pa 3),.int .i64 le,.int .i64 mo]
attribute [local irreducible] W4
section
variable (dn:Bool)(g t bl:Int)(wo co pa:Nat)(le mo:Int)(w:World)
theorem kind_v (x V:Int)(n:Nat)(hx:0<=x/\x<=18446744073709551615)(hg:g-5=(n:Int))(hg0:5<=g)(hg1:g<=60)(hV:x/2^n=V) :
  CB 122 #[LD dn g t bl wo co pa le mo,.int .u64 x] w (.int .u64 V):=by
 go_enter Tryz.func122,Tryz.ntmps122
 go_wp2
 go_ret
 exact ⟨rfl,bgo⟩
theorem signals_v (x V:Int)(n:Nat)(hx:0<=x/\x<=18446744073709551615)(hg:g-5-1=(n:Int))(hg0:6<=g)(hg1:g<=60)(hV:bits .and .u64 (x/2^n) 1=V) :
  CB 123 #[LD dn g t bl wo co pa le mo,.int .u64 x] w (.bool (V==1)):=by
 go_enter Tryz.func123,Tryz.ntmps123
 go_wp2
 go_ret
 exact ⟨rfl,bgo⟩
theorem special_v (k R:Int)(s:Bool)(n:Nat)(hk0:0<=k)(hk1:k<=31)(hg:g-5-1=(n:Int))(hg0:6<=g)(hg1:g<=30)(H:Int)(hH:(2:Int)^n=H)(hH0:1<=H)(hH1:H<=16777216)(ho:bits .or .u64 (k*2) 1=k*2+1)(hR:(k*2+if s then 1 else 0)*H=R)(hR1:R<=4611686018427387904) :
  CB 159 #[LD dn g t bl wo co pa le mo,.int .u64 k,.bool s] w (.int .u64 R):=by
 cases s
 ·simp only [Bool.false_eq_true,if_false,Int.add_zero] at hR
  have hR0:0<=R:=by rw [← hR];exact Int.mul_nonneg (by omega) (by omega)
  go_enter Tryz.func159,Tryz.ntmps159
  go_wp2
  go_ret
  exact ⟨rfl,bgo⟩
 ·simp only [if_true] at hR
  have hR0:0<=R:=by rw [← hR];exact Int.mul_nonneg (by omega) (by omega)
  go_enter Tryz.func159,Tryz.ntmps159
  go_wp2
  go_ret
  exact ⟨rfl,bgo⟩
end
end
section
theorem dlowb_v (x:Int)(c:Nat)(hx:0<=x/\x<=18446744073709551615)(hc:c<=62)(w:World) :
  CB 153 #[.int .u64 x,.int .i64 (c:Int)] w (.int .u64 (x%2^c)):=by
 refine (dlow_v x c hx hc w).mono ?_
 rintro r w' ⟨rfl,rfl⟩
 exact ⟨rfl,Below.refl _ _⟩
attribute [local irreducible] W4
section
variable (dn:Bool)(g t:Int)(wo co pa:Nat)(le mo:Int)(w:World)(x A M F FS X R L:Int)(b m:Nat)
 (hx:0<=x/\x<=1073741824) (hb:b<=30) (hg0:6<=g) (hg1:g<=30) (hm:g-2=(m:Int)) (hA:x/2^b=A) (hA0:0<=A) (hA1:A<=1073741824) (hM:x/2^m=M)
 (hF0:0<=F) (hF1:F<=1073741824) (hFS:F*2^b=FS) (hS0:0<=FS) (hS1:FS<=1152921504606846976)
 (cl:∀ W,CB 153 #[.int .u64 x,.int .i64 (b:Int)] W (.int .u64 X))
 (ho:bits .or .u64 FS X=R)
include hx hb hg0 hg1 hm hA hA0 hA1 hM hF0 hF1 hFS hS0 hS1 cl ho
theorem part_s (hM3:(M==3)=false)(hF:A/8=F)
  (c3:∀ W,CQ 153 #[.int .u64 A,.int .i64 3] W (.int .u64 L)) :
  CB 126 #[LD dn g t (b:Int) wo co pa le mo,.int .u64 x] w (.tuple #[.int .u64 R,.int .u64 L]):=by
 have hb0:(0:Int)<=(b:Int):=by omega
 have hb1:(b:Int)<=30:=by omega
 go_enter Tryz.func126,Tryz.ntmps126
 go_wp2_with (go_at_call 153;refine (c3 _).mono ?_;rintro r w1 ⟨rfl,rfl⟩)
 refine wp_tail 11 (by kernel_rfl) (by kernel_rfl) (by kernel_rfl) (fun _ _ d _ _ h=>by cases d<;>exact h) fun hne hcell=>?_
 simp only [List.take_succ_cons,List.take_zero,List.drop_succ_cons,List.drop_zero]
 repeat go_big_quiet_step (fail)
 go_big_quiet_step ((go_at_call 153;exact calls_wd _ bk_next (cl _)))
 repeat go_big_quiet_step (fail)
 refine wpQuiet_nil fun w2 hb2=>?_
 obtain ⟨_,_,_,_,hA2,_⟩:=wz w hb2;clear hb2
 go_wp2
 exact bodyPost_ret (by simp only [results,Tryz.results126];go_simp) rfl ⟨rfl,bgo⟩
theorem part_g (A' L0:Int)(k:Nat)(hM3:(M==3)=true)(hk:(m:Int)-(b:Int)=(k:Int))(hA'0:0<=A')(hA'1:A'<=1073741824)(hF:A'/2=F)(hL0:0<=L0)(hL1:L0<=1)(hL:8+L0=L)
  (c3:∀ W,CQ 153 #[.int .u64 A,.int .i64 (k:Int)] W (.int .u64 A'))
  (c4:∀ W,CQ 153 #[.int .u64 A',.int .i64 1] W (.int .u64 L0)) :
  CB 126 #[LD dn g t (b:Int) wo co pa le mo,.int .u64 x] w (.tuple #[.int .u64 R,.int .u64 L]):=by
 have hb0:(0:Int)<=(b:Int):=by omega
 have hb1:(b:Int)<=30:=by omega
 go_enter Tryz.func126,Tryz.ntmps126
 go_wp2_with (go_at_call 153;first|(refine (c3 _).mono ?_;rintro r w1 ⟨rfl,rfl⟩;clear c3)|(refine (c4 _).mono ?_;rintro r w1 ⟨rfl,rfl⟩;clear c4))
 refine wp_tail 11 (by kernel_rfl) (by kernel_rfl) (by kernel_rfl) (fun _ _ d _ _ h=>by cases d<;>exact h) fun hne hcell=>?_
 simp only [List.take_succ_cons,List.take_zero,List.drop_succ_cons,List.drop_zero]
 repeat go_big_quiet_step (fail)
 go_big_quiet_step ((go_at_call 153;exact calls_wd _ bk_next (cl _)))
 repeat go_big_quiet_step (fail)
 refine wpQuiet_nil fun w2 hb2=>?_
 obtain ⟨_,_,_,_,hA2,_⟩:=wz w hb2;clear hb2
 go_wp2
 exact bodyPost_ret (by simp only [results,Tryz.results126];go_simp) rfl ⟨rfl,bgo⟩
end
section
variable (dn:Bool)(g t:Int)(wo co pa:Nat)(le mo:Int)(w:World)(E a A Y YS X R:Int)(b:Nat)
 (hE:0<=E/\E<=1073741824) (ha:0<=a/\a<=9) (hb:b<=30) (hg0:6<=g) (hg1:g<=30) (hA:E/2^b=A) (hA0:0<=A) (hA1:A<=1073741824)
 (hY0:0<=Y) (hY1:Y<=1073741824) (hYS:Y*2^b=YS) (hS0:0<=YS) (hS1:YS<=1152921504606846976)
 (cl:∀ W,CB 153 #[.int .u64 E,.int .i64 (b:Int)] W (.int .u64 X))
 (ho:bits .or .u64 YS X=R)
include hE ha hb hg0 hg1 hA hA0 hA1 hY0 hY1 hYS hS0 hS1 cl ho
theorem unite_s (h8:¬ 8<=a)(hY:bits .or .u64 (A*8) a=Y) :
  CB 157 #[LD dn g t (b:Int) wo co pa le mo,.int .u64 E,.int .u64 a] w (.int .u64 R):=by
 have hb0:(0:Int)<=(b:Int):=by omega
 have hb1:(b:Int)<=30:=by omega
 go_enter Tryz.func157,Tryz.ntmps157
 go_wp2
 refine wp_tail 9 (by kernel_rfl) (by kernel_rfl) (by kernel_rfl) (fun _ _ d _ _ h=>by cases d<;>exact h) fun hne hcell=>?_
 simp only [List.take_succ_cons,List.take_zero,List.drop_succ_cons,List.drop_zero]
 repeat go_big_quiet_step (fail)
 go_big_quiet_step ((go_at_call 153;exact calls_wd _ bk_next (cl _)))
 repeat go_big_quiet_step (fail)
 refine wpQuiet_nil fun w2 hb2=>?_
 obtain ⟨_,_,_,_,hA2,_⟩:=wz w hb2;clear hb2
 go_wp2
 exact bodyPost_ret (by simp only [results,Tryz.results157];go_simp) rfl ⟨rfl,bgo⟩
theorem unite_g (k:Nat)(H U L0:Int)(h8:8<=a)(hk:g-2-(b:Int)=(k:Int))(hH:(2:Int)^k=H)(hH0:1<=H)(hH1:H<=1073741824)(hU:bits .or .u64 (3*H) (A*2)=U)(hY:bits .or .u64 U L0=Y)
  (c1:∀ W,CB 153 #[.int .u64 a,.int .i64 1] W (.int .u64 L0)) :
  CB 157 #[LD dn g t (b:Int) wo co pa le mo,.int .u64 E,.int .u64 a] w (.int .u64 R):=by
 have hb0:(0:Int)<=(b:Int):=by omega
 have hb1:(b:Int)<=30:=by omega
 have hk0:0<=g-2-(b:Int):=by omega
 go_enter Tryz.func157,Tryz.ntmps157
 go_wp2
 refine wp_tail 13 (by kernel_rfl) (by kernel_rfl) (by kernel_rfl) (fun _ _ d _ _ h=>by cases d<;>exact h) fun hne hcell=>?_
 simp only [List.take_succ_cons,List.take_zero,List.drop_succ_cons,List.drop_zero]
 repeat go_big_quiet_step (fail)
 go_big_quiet_step ((go_at_call 153;exact calls_wd _ bk_next (c1 _)))
 repeat go_big_quiet_step (fail)
 refine wpQuiet_nil fun w1 hb1'=>?_
 have hb1:=hb1'
 obtain ⟨_,_,_,_,hA1,_⟩:=wz w hb1;clear hb1
 go_wp2
 refine wp_tail 9 (by kernel_rfl) (by kernel_rfl) (by kernel_rfl) (fun _ _ d _ _ h=>by cases d<;>exact h) fun hne hcell=>?_
 simp only [List.take_succ_cons,List.take_zero,List.drop_succ_cons,List.drop_zero]
 repeat go_big_quiet_step (fail)
 go_big_quiet_step ((go_at_call 153;exact calls_wd _ bk_next (cl _)))
 repeat go_big_quiet_step (fail)
 refine wpQuiet_nil fun w2 hb2=>?_
 obtain ⟨_,_,_,_,hA2,_⟩:=wz w hb2;clear hb2
 go_wp2
 exact bodyPost_ret (by simp only [results,Tryz.results157];go_simp) rfl ⟨rfl,bgo⟩
end
end
end Go.Proofs.YtgknbdehlmlipaaGreatDoor
