/-
  Texts that the proof leans on.
-/
import Derived.Test.YtgknbdehlmlipaaGreatDoorJ36
import Derived.Test.YtgknbdehlmlipaaGreatDoorJ25
import Derived.Test.YtgknbdehlmlipaaGreatDoorJ2
import Derived.Test.YtgknbdehlmlipaaGreatDoorJ37
import Derived.Test.YtgknbdehlmlipaaGreatDoorJ34
set_option maxHeartbeats 8000000
set_option linter.unusedVariables false
set_option linter.unusedSectionVars false
set_option linter.unusedSimpArgs false
set_option maxRecDepth 20000
namespace Go.Proofs.YtgknbdehlmlipaaGreatDoor
open Go.RowKit
section
attribute [local irreducible] W4 Nt Nz NT
theorem otm_l (k:Nat)(t f:Int)(w:World)(hk:k<2^256)(hf:-12000<=f/\f<=12000)(ht:-40000<=t/\t<=40000)(P R:Nat)
  (c1:∀ W e,e=max f 0->Calls Tryz.prog 96 #[.int .i64 5,.int .i64 e] W fun r w'=>∃ v,r=.returned (.tuple #[v,.int .i64 0])/\NT 2001 P v w'/\Below W.heap.size W w')
  (c2:∀ W v v',Nt 4 k v W->NT 2001 P v' W->Calls Tryz.prog 97 #[v,v'] W fun r w'=>∃ q,r=.returned (.tuple #[q,.int .i64 0])/\NT 2001 (k*P) q w'/\Below W.heap.size W w')
  (c3:∀ W v e,e=max t 0->NT 2001 (k*P) v W->Calls Tryz.prog 131 #[v,.int .i64 e] W fun r w'=>∃ q,r=.returned (.tuple #[q,.int .i64 0])/\NT 2001 R q w'/\Below W.heap.size W w') :
  CE 107 #[A4 k,.int .i64 t,.int .i64 f] w (NT 2001 R):=by
 have hbx:=fun W hW=>b4_new (w0:=w) (w:=W) (k:=k) (t:=24) hk hW
 have hsm:=cell_set_map
 unfold A4
 go_enter Tryz.func107,Tryz.ntmps107
 go_wp2_with (first
  | (go_at_call 96;refine (c1 _ _ rfl).mono ?_;rintro r w1 ⟨v1,rfl,hv1,hb1⟩;have hv0:=hbx _ hb1;obtain ⟨_,_,_,_,hA1,_⟩:=wz w hb1;clear hb1)
  | (go_at_call 97;refine (c2 _ _ _ hv0 hv1).mono ?_;rintro r w2 ⟨v2,rfl,hv2,hb2⟩;obtain ⟨_,_,_,_,hA2,_⟩:=wz w hb2;clear hb2)
  | (go_at_call 131;refine (c3 _ _ _ rfl hv2).mono ?_;rintro r w3 ⟨v3,rfl,hv3,hb3⟩;obtain ⟨_,_,_,_,hA3,_⟩:=wz w hb3;clear hb3))
 go_ret
 exact ⟨v3,rfl,hv3,bgo⟩
theorem tmV_eq (k:Nat)(t f:Int):tmV k t f=k*5^(max f 0).toNat*2^(max t 0).toNat:=by
 unfold tmV
 rw [show (max f 0).toNat=f.toNat by omega,show (max t 0).toNat=t.toNat by omega]
theorem otm_v (k:Nat)(t f:Int)(w:World)(hk:k<2^256)(hf:-12000<=f/\f<=12000)(ht:-40000<=t/\t<=40000) :
  CE 107 #[A4 k,.int .i64 t,.int .i64 f] w (NT 2001 (tmV k t f)):=by
 have hA:bl k<=256:=bl_le.2 hk
 have hm:=five_bl (max f 0).toNat
 have hbm:=bl_mul k (5^(max f 0).toNat)
 rw [tmV_eq]
 refine otm_l k t f w hk hf ht (5^(max f 0).toNat) _ (fun W e he=>?_) (fun W v v' hv hv'=>nmul_w (by decide) (by decide) hv hv'.nt (by omega)) (fun W v e he hv=>?_)
 ·have:=npow5z (max f 0).toNat W (by omega)
  rw [show (((max f 0).toNat:Nat):Int)=e by omega] at this
  exact this
 ·have:=nshl_w (w:=W) (max t 0).toNat (by decide) hv.nt (by omega)
  rw [show (((max t 0).toNat:Nat):Int)=e by omega] at this
  exact this
section
variable (c x b:Int)(s g:Bool)(k:Nat)(c' x' b':Int)(s' g':Bool)(k':Nat)(w:World)
theorem onr_l (hx:-20000<=x/\x<=20000)(hx':-20000<=x'/\x'<=20000)(F F':Int)(hF:-20000<=F/\F<=20000)(hF':-20000<=F'/\F'<=20000)(T T':Nat)(R:Int)
  (c1:∀ W,CB 106 #[OV c s g x k b] W (.int .i64 F))
  (c2:∀ W,CB 106 #[OV c' s' g' x' k' b'] W (.int .i64 F'))
  (c3:∀ W,CE 107 #[A4 k,.int .i64 (x-x'),.int .i64 (F-F')] W (NT 2001 T))
  (c4:∀ W,CE 107 #[A4 k',.int .i64 (-(x-x')),.int .i64 (-(F-F'))] W (NT 2001 T'))
  (c5:∀ W v v',NT 2001 T v W->NT 2001 T' v' W->CB 73 #[v,v'] W (.int .i64 R)) :
  CB 75 #[OV c s g x k b,OV c' s' g' x' k' b'] w (.int .i64 R):=by
 have hsm:=cell_set_map
 go_enter Tryz.func75,Tryz.ntmps75
 go_wp2
 refine wp_whole (by kernel_rfl) (by kernel_rfl) fun hne hcell=>?_
 repeat go_big_quiet_step (fail)
 go_big_quiet_step ((go_at_call 106;exact calls_wd _ bk_next (c1 _)))
 repeat go_big_quiet_step (fail)
 go_big_quiet_step ((go_at_call 106;exact calls_wd _ bk_next (c2 _)))
 repeat go_big_quiet_step (fail)
 refine wpQuiet_nil fun w1 hb1=>?_
 obtain ⟨_,_,_,_,hA1,_⟩:=wz w hb1;obtain ⟨_,_⟩:=zf hb1 (w.heap.size+1);clear hb1
 go_wp2
 refine regNr2 (h:=w.heap.size) (j:=w.heap.size+1) (k:=k) (k':=k') (D:=x-x') (G:=F-F') (T:=T) (T':=T') (R:=R) (by omega) (by omega) (fun _ _ d _ _ h=>by cases d<;>exact h) rfl rfl rfl rfl rfl (by first|omega|(simp;omega)|simp) (by go_simp) (by go_simp) (by go_simp) (by go_simp) (by first|omega|(simp;omega)|simp) (by go_simp) (by go_simp) (by go_simp) (by go_simp) c3 c4 c5 ?_
 intro a' w4 h4 hsz hdf hF2 hb4
 have ha:=act_of slotsANr2 16 rfl hsz hdf hF2
 rw [ha]
 simp only [slotsANr2,List.foldl_cons,List.foldl_nil,Act.put,List.setIfInBounds_toArray,List.set_cons_succ,List.set_cons_zero,h4]
 generalize slot a' 19=s19
 generalize slot a' 20=s20
 generalize slot a' 21=s21
 generalize slot a' 22=s22
 generalize slot a' 23=s23
 generalize slot a' 24=s24
 generalize slot a' 25=s25
 generalize slot a' 26=s26
 generalize slot a' 27=s27
 generalize slot a' 28=s28
 generalize slot a' 29=s29
 generalize slot a' 30=s30
 generalize slot a' 31=s31
 generalize slot a' 32=s32
 generalize slot a' 33=s33
 clear ha h4 hsz hdf hF2
 obtain ⟨_,_,_,_,hA4,_⟩:=wz w hb4;obtain ⟨_,_⟩:=zf hb4 (w.heap.size+1);clear hb4
 go_wp2
 go_ret
 exact ⟨by first|rfl|simp,bgo⟩
end
theorem ofv_v {b:Int}{X:Nat}(hX:X=2∨X=10)(hb:b=(X:Int))(c x:Int)(s g:Bool)(k:Nat)(hk:k<2^256)(w:World):CB 106 #[OV c s g x k b] w (.int .i64 (fvE X x)):=by
 subst hb
 rcases hX with rfl|rfl
 ·exact fives_2 c x s g k hk w
 ·exact fives_10 c x s g k hk w
theorem fvE_bd {X:Nat}{x:Int}(h:-20000<=x/\x<=20000):-20000<=fvE X x/\fvE X x<=20000:=by
 unfold fvE
 split<;>omega
theorem onr_v {X Y:Nat}(hX:X=2∨X=10)(hY:Y=2∨Y=10){c x b:Int}{s g:Bool}{k:Nat}{c' x' b':Int}{s' g':Bool}{k':Nat}(hb:b=(X:Int))(hb':b'=(Y:Int))(hk:k<2^256)(hk':k'<2^256)
  (hx:-20000<=x/\x<=20000) (hx':-20000<=x'/\x'<=20000) (hf:-12000<=fvE X x-fvE Y x'/\fvE X x-fvE Y x'<=12000) (w:World) :
  CB 75 #[OV c s g x k b,OV c' s' g' x' k' b'] w (.int .i64 (sgn ((k*X^x.toNat*(1*Y^(-x').toNat):Nat):Int) ((k'*Y^x'.toNat*(1*X^(-x).toNat):Nat):Int))):=by
 rw [← rc_near hX hY k k' x x']
 exact onr_l c x b s g k c' x' b' s' g' k' w hx hx' _ _ (fvE_bd hx) (fvE_bd hx') _ _ _ (fun W=>ofv_v hX hb c x s g k hk W) (fun W=>ofv_v hY hb' c' x' s' g' k' hk' W)
  (fun W=>otm_v k _ _ W hk hf (by omega)) (fun W=>otm_v k' _ _ W hk' (by omega) (by omega)) (fun W v v' hv hv'=>ncmp_v (by decide) (by decide) hv.nt hv'.nt)
end
section
attribute [local irreducible] W4 NT NV
section
variable (n:Int)(nm:ByteArray)(wd pr ex le mo pa:Int)(G T J:Int)(Bb A Rr sN:Nat)(V:Int)(s:Bool)(wn:Nat)(w:World)
 (hG0:11<=G) (hG1:G<=100) (hT0:0<=T) (hT1:T<=200) (hJ0:0<=J) (hJ1:J<=11) (hAb:(A:Int)<=200000)
 (cF1:∀ W,CE 52 #[A4 Bb,.int .i64 T,.int .i64 G] W (NT 19 A))
 (cF2:∀ W,CE 52 #[A4 Bb,.int .i64 0,.int .i64 T] W (NT 19 Rr))
 (cF3:∀ W,CE 52 #[A4 Bb,.int .i64 (T+G),.int .i64 1] W (NT 19 sN))
 (cM1:∀ W v,NT 19 A v W->CQ 53 #[v] W (.int .i64 (A:Int)))
 (cM3:∀ W v,NT 19 sN v W->CQ 53 #[v] W (.int .i64 (sN:Int)))
 (cB2:∀ W v,NT 19 Rr v W->CB 28 #[v] W (A4 Rr))
 (hw:G-5=(wn:Int)) (hwn:wn<=12) (hV:(A:Int)/2^wn=V) (hV0:0<=V) (hV1:V<=31) (hsg:((sN:Int)==1)=s)
include hG0 hG1 hT0 hT1 hJ0 hJ1 hAb cF1 cF2 cF3 cM1 cM3 cB2 hw hwn hV hV0 hV1 hsg
theorem vmn_i (dn:Bool)
  (cO:∀ W,CB 20 #[.int .i64 n] W (.tuple #[IDec n nm wd pr ex le mo pa dn,.int .i64 0]))
  (cS:∀ W,CB 62 #[IDec n nm wd pr ex le mo pa dn] W (.tuple #[.int .i64 G,.int .i64 T,.int .i64 J]))
  (h30:(V==30)=true) :
  CB 80 #[.int .i64 n,A4 Bb] w (.agg #[.int .i64 2,.bool s,.bool false,.int .i64 0,.int .u64 0,.int .u64 0,.int .u64 0,.int .u64 0]):=by
 have hsm:=cell_set_map
 unfold DV A4 at *
 go_enter Tryz.func80,Tryz.ntmps80
 go_wp2_with (first
  | (go_at_call 20;refine (cO _).mono ?_;rintro r w1 ⟨rfl,hb1⟩;obtain ⟨_,_,_,_,hA1,_⟩:=wz w hb1;obtain ⟨_,_⟩:=zf hb1 (w.heap.size+1);clear hb1)
  | (go_at_call 62;refine (cS _).mono ?_;rintro r w2 ⟨rfl,hb2⟩;obtain ⟨_,_,_,_,hA2,_⟩:=wz w hb2;obtain ⟨_,_⟩:=zf hb2 (w.heap.size+1);obtain ⟨_,_⟩:=zf hb2 w1.heap.size;clear hb2)
  | (go_at_call 52;refine (cF1 _).mono ?_;rintro r w3 ⟨vA,rfl,uA,hb3⟩;clear cF1;obtain ⟨_,_,_,_,hA3,_⟩:=wz w hb3;obtain ⟨_,_⟩:=zf hb3 (w.heap.size+1);obtain ⟨_,_⟩:=zf hb3 w1.heap.size;clear hb3)
  | (go_at_call 53;refine (cM1 _ _ uA).mono ?_;rintro r w0 ⟨rfl,rfl⟩;clear cM1 uA)
  | (go_at_call 52;refine (cF2 _).mono ?_;rintro r w4 ⟨vR,rfl,uR,hb4⟩;clear cF2;obtain ⟨_,_,_,_,hA4,_⟩:=wz w hb4;obtain ⟨_,_⟩:=zf hb4 (w.heap.size+1);obtain ⟨_,_⟩:=zf hb4 w1.heap.size;clear hb4)
  | (go_at_call 28;refine (cB2 _ _ uR).mono ?_;rintro r w5 ⟨rfl,hb5⟩;clear cB2 uR;obtain ⟨_,_,_,_,hA5,_⟩:=wz w hb5;obtain ⟨_,_⟩:=zf hb5 (w.heap.size+1);obtain ⟨_,_⟩:=zf hb5 w1.heap.size;clear hb5)
  | (go_at_call 52;refine (cF3 _).mono ?_;rintro r w6 ⟨vS,rfl,uS,hb6⟩;clear cF3;obtain ⟨_,_,_,_,hA6,_⟩:=wz w hb6;obtain ⟨_,_⟩:=zf hb6 (w.heap.size+1);obtain ⟨_,_⟩:=zf hb6 w1.heap.size;obtain ⟨_,_⟩:=zf hb6 w5.heap.size;clear hb6)
  | (go_at_call 53;refine (cM3 _ _ uS).mono ?_;rintro r w0 ⟨rfl,rfl⟩;clear cM3 uS))
 exact bodyPost_ret (by simp only [results,Tryz.results80];go_simp) rfl ⟨rfl,bgo⟩
theorem vmn_nty (wm:Nat)(g:Bool)(U:Nat)
  (cO:∀ W,CB 20 #[.int .i64 n] W (.tuple #[IDec n nm wd pr ex le mo pa true,.int .i64 0]))
  (cS:∀ W,CB 62 #[IDec n nm wd pr ex le mo pa true] W (.tuple #[.int .i64 G,.int .i64 T,.int .i64 J]))
  (h30:(V==30)=false) (h31:(V==31)=true) (hw6:G-6=(wm:Int)) (hwm:wm<=12) (hgg:(bits .and .u64 ((A:Int)/2^wm) 1==1)=g)
  (cU:∀ W,CB 109 #[A4 Rr,.int .i64 J] W (.tuple #[A4 U,.int .i64 0]))
  (cW:∀ W,CB 89 #[A4 U,.int .i64 10,.int .i64 pa] W (.bool true)) :
  CB 80 #[.int .i64 n,A4 Bb] w (DV 3 s g 0 U):=by
 have hsm:=cell_set_map
 unfold DV A4 at *
 go_enter Tryz.func80,Tryz.ntmps80
 go_wp2_with (first
  | (go_at_call 20;refine (cO _).mono ?_;rintro r w1 ⟨rfl,hb1⟩;obtain ⟨_,_,_,_,hA1,_⟩:=wz w hb1;obtain ⟨_,_⟩:=zf hb1 (w.heap.size+1);clear hb1)
  | (go_at_call 62;refine (cS _).mono ?_;rintro r w2 ⟨rfl,hb2⟩;obtain ⟨_,_,_,_,hA2,_⟩:=wz w hb2;obtain ⟨_,_⟩:=zf hb2 (w.heap.size+1);obtain ⟨_,_⟩:=zf hb2 w1.heap.size;clear hb2)
  | (go_at_call 52;refine (cF1 _).mono ?_;rintro r w3 ⟨vA,rfl,uA,hb3⟩;clear cF1;obtain ⟨_,_,_,_,hA3,_⟩:=wz w hb3;obtain ⟨_,_⟩:=zf hb3 (w.heap.size+1);obtain ⟨_,_⟩:=zf hb3 w1.heap.size;clear hb3)
  | (go_at_call 53;refine (cM1 _ _ uA).mono ?_;rintro r w0 ⟨rfl,rfl⟩;clear cM1 uA)
  | (go_at_call 52;refine (cF2 _).mono ?_;rintro r w4 ⟨vR,rfl,uR,hb4⟩;clear cF2;obtain ⟨_,_,_,_,hA4,_⟩:=wz w hb4;obtain ⟨_,_⟩:=zf hb4 (w.heap.size+1);obtain ⟨_,_⟩:=zf hb4 w1.heap.size;clear hb4)
  | (go_at_call 28;refine (cB2 _ _ uR).mono ?_;rintro r w5 ⟨rfl,hb5⟩;clear cB2 uR;obtain ⟨_,_,_,_,hA5,_⟩:=wz w hb5;obtain ⟨_,_⟩:=zf hb5 (w.heap.size+1);obtain ⟨_,_⟩:=zf hb5 w1.heap.size;clear hb5)
  | (go_at_call 52;refine (cF3 _).mono ?_;rintro r w6 ⟨vS,rfl,uS,hb6⟩;clear cF3;obtain ⟨_,_,_,_,hA6,_⟩:=wz w hb6;obtain ⟨_,_⟩:=zf hb6 (w.heap.size+1);obtain ⟨_,_⟩:=zf hb6 w1.heap.size;obtain ⟨_,_⟩:=zf hb6 w5.heap.size;clear hb6;have q62_0:w.heap.size<w6.heap.size+1+1:=(by omega);have q62_1:w.heap.size+1<w6.heap.size+1+1:=(by omega);have q62_2:w1.heap.size<w6.heap.size+1+1:=(by omega);have q62_3:w5.heap.size<w6.heap.size+1+1:=(by omega);have q62_4:w6.heap.size<w6.heap.size+1+1:=(by omega);have q62_5:w6.heap.size+1<w6.heap.size+1+1:=(by omega))
  | (go_at_call 53;refine (cM3 _ _ uS).mono ?_;rintro r w0 ⟨rfl,rfl⟩;clear cM3 uS)
  | (go_at_call 109;refine (cU _).mono ?_;rintro r w7 ⟨rfl,hb7⟩;obtain ⟨_,_,_,_,hA7,_⟩:=wz w hb7;obtain ⟨_,_⟩:=zf hb7 (w.heap.size+1);obtain ⟨_,_⟩:=zf hb7 w1.heap.size;obtain ⟨_,_⟩:=zf hb7 w5.heap.size;obtain ⟨_,_⟩:=zf hb7 w6.heap.size;obtain ⟨_,_⟩:=zf hb7 (w6.heap.size+1);clear hb7)
  | (go_at_call 89;refine (cW _).mono ?_;rintro r w8 ⟨rfl,hb8⟩;obtain ⟨_,_,_,_,hA8,_⟩:=wz w hb8;obtain ⟨_,_⟩:=zf hb8 (w.heap.size+1);obtain ⟨_,_⟩:=zf hb8 w1.heap.size;obtain ⟨_,_⟩:=zf hb8 w5.heap.size;obtain ⟨_,_⟩:=zf hb8 w6.heap.size;obtain ⟨_,_⟩:=zf hb8 (w6.heap.size+1);clear hb8))
 exact bodyPost_ret (by simp only [results,Tryz.results80];go_simp) rfl ⟨rfl,bgo⟩
theorem vmn_nfy (wm:Nat)(g:Bool)
  (cO:∀ W,CB 20 #[.int .i64 n] W (.tuple #[IDec n nm wd pr ex le mo pa false,.int .i64 0]))
  (cS:∀ W,CB 62 #[IDec n nm wd pr ex le mo pa false] W (.tuple #[.int .i64 G,.int .i64 T,.int .i64 J]))
  (h30:(V==30)=false) (h31:(V==31)=true) (hw6:G-6=(wm:Int)) (hwm:wm<=12) (hgg:(bits .and .u64 ((A:Int)/2^wm) 1==1)=g)
  (cW:∀ W,CB 89 #[A4 Rr,.int .i64 10,.int .i64 pa] W (.bool true)) :
  CB 80 #[.int .i64 n,A4 Bb] w (DV 3 s g 0 Rr):=by
 have hsm:=cell_set_map
 unfold DV A4 at *
 go_enter Tryz.func80,Tryz.ntmps80
 go_wp2_with (first
  | (go_at_call 20;refine (cO _).mono ?_;rintro r w1 ⟨rfl,hb1⟩;obtain ⟨_,_,_,_,hA1,_⟩:=wz w hb1;obtain ⟨_,_⟩:=zf hb1 (w.heap.size+1);clear hb1)
  | (go_at_call 62;refine (cS _).mono ?_;rintro r w2 ⟨rfl,hb2⟩;obtain ⟨_,_,_,_,hA2,_⟩:=wz w hb2;obtain ⟨_,_⟩:=zf hb2 (w.heap.size+1);obtain ⟨_,_⟩:=zf hb2 w1.heap.size;clear hb2)
  | (go_at_call 52;refine (cF1 _).mono ?_;rintro r w3 ⟨vA,rfl,uA,hb3⟩;clear cF1;obtain ⟨_,_,_,_,hA3,_⟩:=wz w hb3;obtain ⟨_,_⟩:=zf hb3 (w.heap.size+1);obtain ⟨_,_⟩:=zf hb3 w1.heap.size;clear hb3)
  | (go_at_call 53;refine (cM1 _ _ uA).mono ?_;rintro r w0 ⟨rfl,rfl⟩;clear cM1 uA)
  | (go_at_call 52;refine (cF2 _).mono ?_;rintro r w4 ⟨vR,rfl,uR,hb4⟩;clear cF2;obtain ⟨_,_,_,_,hA4,_⟩:=wz w hb4;obtain ⟨_,_⟩:=zf hb4 (w.heap.size+1);obtain ⟨_,_⟩:=zf hb4 w1.heap.size;clear hb4)
  | (go_at_call 28;refine (cB2 _ _ uR).mono ?_;rintro r w5 ⟨rfl,hb5⟩;clear cB2 uR;obtain ⟨_,_,_,_,hA5,_⟩:=wz w hb5;obtain ⟨_,_⟩:=zf hb5 (w.heap.size+1);obtain ⟨_,_⟩:=zf hb5 w1.heap.size;clear hb5)
  | (go_at_call 52;refine (cF3 _).mono ?_;rintro r w6 ⟨vS,rfl,uS,hb6⟩;clear cF3;obtain ⟨_,_,_,_,hA6,_⟩:=wz w hb6;obtain ⟨_,_⟩:=zf hb6 (w.heap.size+1);obtain ⟨_,_⟩:=zf hb6 w1.heap.size;obtain ⟨_,_⟩:=zf hb6 w5.heap.size;clear hb6;have q62_0:w.heap.size<w6.heap.size+1+1:=(by omega);have q62_1:w.heap.size+1<w6.heap.size+1+1:=(by omega);have q62_2:w1.heap.size<w6.heap.size+1+1:=(by omega);have q62_3:w5.heap.size<w6.heap.size+1+1:=(by omega);have q62_4:w6.heap.size<w6.heap.size+1+1:=(by omega);have q62_5:w6.heap.size+1<w6.heap.size+1+1:=(by omega))
  | (go_at_call 53;refine (cM3 _ _ uS).mono ?_;rintro r w0 ⟨rfl,rfl⟩;clear cM3 uS)
  | (go_at_call 89;refine (cW _).mono ?_;rintro r w8 ⟨rfl,hb8⟩;obtain ⟨_,_,_,_,hA8,_⟩:=wz w hb8;obtain ⟨_,_⟩:=zf hb8 (w.heap.size+1);obtain ⟨_,_⟩:=zf hb8 w1.heap.size;obtain ⟨_,_⟩:=zf hb8 w5.heap.size;obtain ⟨_,_⟩:=zf hb8 w6.heap.size;obtain ⟨_,_⟩:=zf hb8 (w6.heap.size+1);clear hb8))
 exact bodyPost_ret (by simp only [results,Tryz.results80];go_simp) rfl ⟨rfl,bgo⟩
theorem vmn_nfn (wm:Nat)(g:Bool)
  (cO:∀ W,CB 20 #[.int .i64 n] W (.tuple #[IDec n nm wd pr ex le mo pa false,.int .i64 0]))
  (cS:∀ W,CB 62 #[IDec n nm wd pr ex le mo pa false] W (.tuple #[.int .i64 G,.int .i64 T,.int .i64 J]))
  (h30:(V==30)=false) (h31:(V==31)=true) (hw6:G-6=(wm:Int)) (hwm:wm<=12) (hgg:(bits .and .u64 ((A:Int)/2^wm) 1==1)=g)
  (cW:∀ W,CB 89 #[A4 Rr,.int .i64 10,.int .i64 pa] W (.bool false)) :
  CB 80 #[.int .i64 n,A4 Bb] w (.agg #[.int .i64 3,.bool s,.bool g,.int .i64 0,.int .u64 0,.int .u64 0,.int .u64 0,.int .u64 0]):=by
 have hsm:=cell_set_map
 unfold DV A4 at *
 go_enter Tryz.func80,Tryz.ntmps80
 go_wp2_with (first
  | (go_at_call 20;refine (cO _).mono ?_;rintro r w1 ⟨rfl,hb1⟩;obtain ⟨_,_,_,_,hA1,_⟩:=wz w hb1;obtain ⟨_,_⟩:=zf hb1 (w.heap.size+1);clear hb1)
  | (go_at_call 62;refine (cS _).mono ?_;rintro r w2 ⟨rfl,hb2⟩;obtain ⟨_,_,_,_,hA2,_⟩:=wz w hb2;obtain ⟨_,_⟩:=zf hb2 (w.heap.size+1);obtain ⟨_,_⟩:=zf hb2 w1.heap.size;clear hb2)
  | (go_at_call 52;refine (cF1 _).mono ?_;rintro r w3 ⟨vA,rfl,uA,hb3⟩;clear cF1;obtain ⟨_,_,_,_,hA3,_⟩:=wz w hb3;obtain ⟨_,_⟩:=zf hb3 (w.heap.size+1);obtain ⟨_,_⟩:=zf hb3 w1.heap.size;clear hb3)
  | (go_at_call 53;refine (cM1 _ _ uA).mono ?_;rintro r w0 ⟨rfl,rfl⟩;clear cM1 uA)
  | (go_at_call 52;refine (cF2 _).mono ?_;rintro r w4 ⟨vR,rfl,uR,hb4⟩;clear cF2;obtain ⟨_,_,_,_,hA4,_⟩:=wz w hb4;obtain ⟨_,_⟩:=zf hb4 (w.heap.size+1);obtain ⟨_,_⟩:=zf hb4 w1.heap.size;clear hb4)
  | (go_at_call 28;refine (cB2 _ _ uR).mono ?_;rintro r w5 ⟨rfl,hb5⟩;clear cB2 uR;obtain ⟨_,_,_,_,hA5,_⟩:=wz w hb5;obtain ⟨_,_⟩:=zf hb5 (w.heap.size+1);obtain ⟨_,_⟩:=zf hb5 w1.heap.size;clear hb5)
  | (go_at_call 52;refine (cF3 _).mono ?_;rintro r w6 ⟨vS,rfl,uS,hb6⟩;clear cF3;obtain ⟨_,_,_,_,hA6,_⟩:=wz w hb6;obtain ⟨_,_⟩:=zf hb6 (w.heap.size+1);obtain ⟨_,_⟩:=zf hb6 w1.heap.size;obtain ⟨_,_⟩:=zf hb6 w5.heap.size;clear hb6;have q62_0:w.heap.size<w6.heap.size+1+1:=(by omega);have q62_1:w.heap.size+1<w6.heap.size+1+1:=(by omega);have q62_2:w1.heap.size<w6.heap.size+1+1:=(by omega);have q62_3:w5.heap.size<w6.heap.size+1+1:=(by omega);have q62_4:w6.heap.size<w6.heap.size+1+1:=(by omega);have q62_5:w6.heap.size+1<w6.heap.size+1+1:=(by omega))
  | (go_at_call 53;refine (cM3 _ _ uS).mono ?_;rintro r w0 ⟨rfl,rfl⟩;clear cM3 uS)
  | (go_at_call 89;refine (cW _).mono ?_;rintro r w8 ⟨rfl,hb8⟩;obtain ⟨_,_,_,_,hA8,_⟩:=wz w hb8;obtain ⟨_,_⟩:=zf hb8 (w.heap.size+1);obtain ⟨_,_⟩:=zf hb8 w1.heap.size;obtain ⟨_,_⟩:=zf hb8 w5.heap.size;obtain ⟨_,_⟩:=zf hb8 w6.heap.size;obtain ⟨_,_⟩:=zf hb8 (w6.heap.size+1);clear hb8))
 exact bodyPost_ret (by simp only [results,Tryz.results80];go_simp) rfl ⟨rfl,bgo⟩
end
end
section
attribute [local irreducible] W4
attribute [local go_sem ↓] ld18_eq
attribute [local go_sem] ld18_got
section
variable (n:Int)(w:World)(hT:Tab w)
include hT
variable (dn:Bool)(g t bl:Int)(wo co pa:Nat)(le mo:Int)
variable (B:Nat)(c1:∀ W,Tab W->CB 92 #[.int .i64 n,A4 B] W (.tuple #[LD dn g t bl wo co pa le mo,.int .i64 0]))
 (c x E:Int) (s q:Bool) (k P:Nat)
 (c2:∀ W,CB 93 #[LD dn g t bl wo co pa le mo,A4 B] W (DV c s q x k))
 (c3:∀ W,CB 94 #[LD dn g t bl wo co pa le mo,DV c s q x k] W (.tuple #[A4 P,.int .i64 E]))
include c1 c2 c3
theorem dunp_y (R:Bool)(hR:decide (W4 P 0=W4 B 0/\W4 P 1=W4 B 1/\W4 P 2=W4 B 2/\W4 P 3=W4 B 3)=R):CB 66 #[.int .i64 n,A4 B] w (.tuple #[DV c s q x k,.bool R,.int .i64 0]):=by
 have hsm:=cell_set_map
 have hq:=eq24 (W4 P 0) (W4 P 1) (W4 P 2) (W4 P 3) (W4 B 0) (W4 B 1) (W4 B 2) (W4 B 3)
 rw [hR] at hq
 go_enter Tryz.func66,Tryz.ntmps66
 go_wp2_with (first
  | (go_at_call 92;refine (c1 _ ((hT.alloc _).alloc _)).mono ?_;rintro r w1 ⟨rfl,hb1⟩;obtain ⟨_,_,_,_,hA1,_⟩:=wz w hb1;obtain ⟨_,_⟩:=zf hb1 (w.heap.size+1);clear hb1)
  | (go_at_call 93;refine (c2 _).mono ?_;rintro r w2 ⟨rfl,hb2⟩;obtain ⟨_,_,_,_,hA2,_⟩:=wz w hb2;obtain ⟨_,_⟩:=zf hb2 (w.heap.size+1);obtain ⟨_,_⟩:=zf hb2 w1.heap.size;clear hb2)
  | (go_at_call 94;refine (c3 _).mono ?_;rintro r w3 ⟨rfl,hb3⟩;obtain ⟨_,_,_,_,hA3,_⟩:=wz w hb3;obtain ⟨_,_⟩:=zf hb3 (w.heap.size+1);obtain ⟨_,_⟩:=zf hb3 w1.heap.size;obtain ⟨_,_⟩:=zf hb3 w2.heap.size;clear hb3))
 go_region_with (fail)
 all_goals
  go_wp2
  exact bodyPost_ret (v:=.tuple #[DV c s q x k,.bool R,.int .i64 0]) (by simp only [results,Tryz.results66];go_simp) rfl ⟨rfl,bgo⟩
end
end
end Go.Proofs.YtgknbdehlmlipaaGreatDoor
