/-
  Texts that the proof leans on.
-/
import Derived.Test.YtgknbdehlmlipaaGreatDoorL22
import Derived.Test.YtgknbdehlmlipaaGreatDoorL4
import Derived.Test.YtgknbdehlmlipaaGreatDoorL2
set_option maxHeartbeats 8000000
set_option linter.unusedVariables false
set_option linter.unusedSectionVars false
set_option linter.unusedSimpArgs false
set_option maxRecDepth 20000
namespace Go.Proofs.YtgknbdehlmlipaaGreatDoor
open Go.RowKit
section
theorem dlowb_v (x:Int)(c:Nat)(hx:0<=x/\x<=18446744073709551615)(hc:c<=62)(w:World) :
  CB 153 #[.int .u64 x,.int .i64 (c:Int)] w (.int .u64 (x%2^c)):=by
 refine (dlow_v x c hx hc w).mono ?_
 rintro r w' ⟨rfl,rfl⟩
 exact ⟨rfl,Below.refl _ _⟩
attribute [local irreducible] W4
section
variable (dn:Bool)(g t:Int)(wo co pa:Nat)(le mo:Int)(w:World)(x A M F FS X R L:Int)(b m:Nat)
 (hx:0<=x/\x<=1073741824) (hb:b<=30) (hg0:6<=g) (hg1:g<=30) (hm:g-2=(m:Int)) (hA:x/2^b=A) (hA0:0<=A) (hA1:A<=1073741824) (hM:x/2^m=M)
 (hF0:0<=F) (hF1:F<=1073741824) (hFS:F*2^b=FS) (hS0:0<=FS) (hS1:FS<=1152921504606846976)
 (cl:∀ W,CB 153 #[.int .u64 x,.int .i64 (b:Int)] W (.int .u64 X))
 (ho:bits .or .u64 FS X=R)
include hx hb hg0 hg1 hm hA hA0 hA1 hM hF0 hF1 hFS hS0 hS1 cl ho
theorem part_s (hM3:(M==3)=false)(hF:A/8=F)
  (c3:∀ W,CQ 153 #[.int .u64 A,.int .i64 3] W (.int .u64 L)) :
  CB 126 #[LD dn g t (b:Int) wo co pa le mo,.int .u64 x] w (.tuple #[.int .u64 R,.int .u64 L]):=by
 have hb0:(0:Int)<=(b:Int):=by omega
 have hb1:(b:Int)<=30:=by omega
 go_enter Tryz.func126,Tryz.ntmps126
 go_wp2_with (go_at_call 153;refine (c3 _).mono ?_;rintro r w1 ⟨rfl,rfl⟩)
 refine wp_tail 11 (by kernel_rfl) (by kernel_rfl) (by kernel_rfl) (fun _ _ d _ _ h=>by cases d<;>exact h) fun hne hcell=>?_
 simp only [List.take_succ_cons,List.take_zero,List.drop_succ_cons,List.drop_zero]
 repeat go_big_quiet_step (fail)
 go_big_quiet_step ((go_at_call 153;exact calls_wd _ bk_next (cl _)))
 repeat go_big_quiet_step (fail)
 refine wpQuiet_nil fun w2 hb2=>?_
 obtain ⟨_,_,_,_,hA2,_⟩:=wz w hb2;clear hb2
 go_wp2
 exact bodyPost_ret (by simp only [results,Tryz.results126];go_simp) rfl ⟨rfl,bgo⟩
theorem part_g (A' L0:Int)(k:Nat)(hM3:(M==3)=true)(hk:(m:Int)-(b:Int)=(k:Int))(hA'0:0<=A')(hA'1:A'<=1073741824)(hF:A'/2=F)(hL0:0<=L0)(hL1:L0<=1)(hL:8+L0=L)
  (c3:∀ W,CQ 153 #[.int .u64 A,.int .i64 (k:Int)] W (.int .u64 A'))
  (c4:∀ W,CQ 153 #[.int .u64 A',.int .i64 1] W (.int .u64 L0)) :
  CB 126 #[LD dn g t (b:Int) wo co pa le mo,.int .u64 x] w (.tuple #[.int .u64 R,.int .u64 L]):=by
 have hb0:(0:Int)<=(b:Int):=by omega
 have hb1:(b:Int)<=30:=by omega
 go_enter Tryz.func126,Tryz.ntmps126
 go_wp2_with (go_at_call 153;first|(refine (c3 _).mono ?_;rintro r w1 ⟨rfl,rfl⟩;clear c3)|(refine (c4 _).mono ?_;rintro r w1 ⟨rfl,rfl⟩;clear c4))
 refine wp_tail 11 (by kernel_rfl) (by kernel_rfl) (by kernel_rfl) (fun _ _ d _ _ h=>by cases d<;>exact h) fun hne hcell=>?_
 simp only [List.take_succ_cons,List.take_zero,List.drop_succ_cons,List.drop_zero]
 repeat go_big_quiet_step (fail)
 go_big_quiet_step ((go_at_call 153;exact calls_wd _ bk_next (cl _)))
 repeat go_big_quiet_step (fail)
 refine wpQuiet_nil fun w2 hb2=>?_
 obtain ⟨_,_,_,_,hA2,_⟩:=wz w hb2;clear hb2
 go_wp2
 exact bodyPost_ret (by simp only [results,Tryz.results126];go_simp) rfl ⟨rfl,bgo⟩
end
section
variable (dn:Bool)(g t:Int)(wo co pa:Nat)(le mo:Int)(w:World)(E a A Y YS X R:Int)(b:Nat)
 (hE:0<=E/\E<=1073741824) (ha:0<=a/\a<=9) (hb:b<=30) (hg0:6<=g) (hg1:g<=30) (hA:E/2^b=A) (hA0:0<=A) (hA1:A<=1073741824)
 (hY0:0<=Y) (hY1:Y<=1073741824) (hYS:Y*2^b=YS) (hS0:0<=YS) (hS1:YS<=1152921504606846976)
 (cl:∀ W,CB 153 #[.int .u64 E,.int .i64 (b:Int)] W (.int .u64 X))
 (ho:bits .or .u64 YS X=R)
include hE ha hb hg0 hg1 hA hA0 hA1 hY0 hY1 hYS hS0 hS1 cl ho
theorem unite_s (h8:¬ 8<=a)(hY:bits .or .u64 (A*8) a=Y) :
  CB 157 #[LD dn g t (b:Int) wo co pa le mo,.int .u64 E,.int .u64 a] w (.int .u64 R):=by
 have hb0:(0:Int)<=(b:Int):=by omega
 have hb1:(b:Int)<=30:=by omega
 go_enter Tryz.func157,Tryz.ntmps157
 go_wp2
 refine wp_tail 9 (by kernel_rfl) (by kernel_rfl) (by kernel_rfl) (fun _ _ d _ _ h=>by cases d<;>exact h) fun hne hcell=>?_
 simp only [List.take_succ_cons,List.take_zero,List.drop_succ_cons,List.drop_zero]
 repeat go_big_quiet_step (fail)
 go_big_quiet_step ((go_at_call 153;exact calls_wd _ bk_next (cl _)))
 repeat go_big_quiet_step (fail)
 refine wpQuiet_nil fun w2 hb2=>?_
 obtain ⟨_,_,_,_,hA2,_⟩:=wz w hb2;clear hb2
 go_wp2
 exact bodyPost_ret (by simp only [results,Tryz.results157];go_simp) rfl ⟨rfl,bgo⟩
theorem unite_g (k:Nat)(H U L0:Int)(h8:8<=a)(hk:g-2-(b:Int)=(k:Int))(hH:(2:Int)^k=H)(hH0:1<=H)(hH1:H<=1073741824)(hU:bits .or .u64 (3*H) (A*2)=U)(hY:bits .or .u64 U L0=Y)
  (c1:∀ W,CB 153 #[.int .u64 a,.int .i64 1] W (.int .u64 L0)) :
  CB 157 #[LD dn g t (b:Int) wo co pa le mo,.int .u64 E,.int .u64 a] w (.int .u64 R):=by
 have hb0:(0:Int)<=(b:Int):=by omega
 have hb1:(b:Int)<=30:=by omega
 have hk0:0<=g-2-(b:Int):=by omega
 go_enter Tryz.func157,Tryz.ntmps157
 go_wp2
 refine wp_tail 13 (by kernel_rfl) (by kernel_rfl) (by kernel_rfl) (fun _ _ d _ _ h=>by cases d<;>exact h) fun hne hcell=>?_
 simp only [List.take_succ_cons,List.take_zero,List.drop_succ_cons,List.drop_zero]
 repeat go_big_quiet_step (fail)
 go_big_quiet_step ((go_at_call 153;exact calls_wd _ bk_next (c1 _)))
 repeat go_big_quiet_step (fail)
 refine wpQuiet_nil fun w1 hb1'=>?_
 have hb1:=hb1'
 obtain ⟨_,_,_,_,hA1,_⟩:=wz w hb1;clear hb1
 go_wp2
 refine wp_tail 9 (by kernel_rfl) (by kernel_rfl) (by kernel_rfl) (fun _ _ d _ _ h=>by cases d<;>exact h) fun hne hcell=>?_
 simp only [List.take_succ_cons,List.take_zero,List.drop_succ_cons,List.drop_zero]
 repeat go_big_quiet_step (fail)
 go_big_quiet_step ((go_at_call 153;exact calls_wd _ bk_next (cl _)))
 repeat go_big_quiet_step (fail)
 refine wpQuiet_nil fun w2 hb2=>?_
 obtain ⟨_,_,_,_,hA2,_⟩:=wz w hb2;clear hb2
 go_wp2
 exact bodyPost_ret (by simp only [results,Tryz.results157];go_simp) rfl ⟨rfl,bgo⟩
end
end
end Go.Proofs.YtgknbdehlmlipaaGreatDoor
