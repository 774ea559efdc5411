/-
  Texts that the proof leans on.
-/
import Derived.Test.YtahfkpjhlbiamaaGreatDoorJ36
import Derived.Test.YtahfkpjhlbiamaaGreatDoorJ18
import Derived.Test.YtahfkpjhlbiamaaGreatDoorJ1
set_option maxHeartbeats 8000000
set_option linter.unusedVariables false
set_option linter.unusedSectionVars false
set_option linter.unusedSimpArgs false
set_option maxRecDepth 20000
namespace Go.Proofs.YtahfkpjhlbiamaaGreatDoor
open Go.RowKit
section
attribute [local irreducible] W4 NT NV
section
variable (n:Int)(nm:ByteArray)(wd pr ex le mo pa:Int)(G T J:Int)(Bb A Rr sN:Nat)(V:Int)(s:Bool)(wn:Nat)(w:World)
 (hG0:11<=G) (hG1:G<=100) (hT0:0<=T) (hT1:T<=200) (hJ0:0<=J) (hJ1:J<=11) (hAb:(A:Int)<=200000)
 (cF1:∀ W,CE 60 #[A4 Bb,.int .i64 T,.int .i64 G] W (NT 19 A))
 (cF2:∀ W,CE 60 #[A4 Bb,.int .i64 0,.int .i64 T] W (NT 19 Rr))
 (cF3:∀ W,CE 60 #[A4 Bb,.int .i64 (T+G),.int .i64 1] W (NT 19 sN))
 (cM1:∀ W v,NT 19 A v W->CQ 61 #[v] W (.int .i64 (A:Int)))
 (cM3:∀ W v,NT 19 sN v W->CQ 61 #[v] W (.int .i64 (sN:Int)))
 (cB2:∀ W v,NT 19 Rr v W->CB 62 #[v] W (A4 Rr))
 (hw:G-5=(wn:Int)) (hwn:wn<=12) (hV:(A:Int)/2^wn=V) (hV0:0<=V) (hV1:V<=31) (hsg:((sN:Int)==1)=s)
include hG0 hG1 hT0 hT1 hJ0 hJ1 hAb cF1 cF2 cF3 cM1 cM3 cB2 hw hwn hV hV0 hV1 hsg
variable (H L F ld:Int)(hH:(2:Int)^wn=H)(hH0:1<=H)(hH1:H<=4096)(hld0:0<=ld)(hld1:ld<=9)(hF0:0<=F)(hF1:F<=20000)(hl0:-30000<=le)(hl1:le<=30000)
include hH hH0 hH1 hld0 hld1 hF0 hF1 hl0 hl1
theorem vmn_ds (Q d1 H4 sgv:Int)(U D M C PP lead:Nat)
  (cO:∀ W,CB 20 #[.int .i64 n] W (.tuple #[zYa n nm wd pr ex le mo pa true,.int .i64 0]))
  (cS:∀ W,CB 83 #[zYa n nm wd pr ex le mo pa true] W (.tuple #[.int .i64 G,.int .i64 T,.int .i64 J]))
  (h30:(V==30)=false) (h31:(V==31)=false) (h24:V<24)
  (cU:∀ W,CB 84 #[A4 Rr,.int .i64 J] W (.tuple #[A4 U,.int .i64 0]))
  (hU:U<2^256) (hL:bits .and .u64 (A:Int) (H-1)=L) (hQH0:0<=Q*H) (hQH1:Q*H<=200000) (hF:bits .or .u64 (Q*H) L=F) (hQ:V/8=Q) (h1:bits .and .u64 V 7=ld)
  (cP:∀ W,CE 64 #[.int .u64 10,.int .i64 (3*J)] W (NV 50000 D))
  (cT:∀ W v v',NV 1 lead v W->NV 50000 D v' W->CE 86 #[v,v'] W (NT 60000 M))
  (cA:∀ W v v',NT 60000 M v W->NV 4 U v' W->CE 63 #[v,v'] W (NV 70000 C))
  (hlead:ld=(lead:Int)) (cQ:∀ W,CE 64 #[.int .u64 10,.int .i64 pr] W (NV 50000 PP))
  (cC:∀ W v v',NV 70000 C v W->NV 50000 PP v' W->CQ 88 #[v,v'] W (.int .i64 sgv)) (hsv:¬ 0<=sgv)
  (cB:∀ W v,NV 70000 C v W->CB 62 #[v] W (A4 C)) :
  CB 42 #[.int .i64 n,A4 Bb] w (DV 1 s false (F+le) C):=by
 have hsm:=zAa
 have hV2:(A:Int)/H=V:=by rw [← hH];exact hV
 unfold DV A4 at *
 go_enter Tryz.func42,Tryz.ntmps42
 go_wp2_with (first
  | (go_at_call 20;refine wk w (cO _) ?_;intro w1 hb1 _ _ _ _ hA1 _;obtain ⟨_,_⟩:=zf hb1 (w.heap.size+1);clear hb1)
  | (go_at_call 83;refine wk w (cS _) ?_;intro w2 hb2 _ _ _ _ hA2 _;obtain ⟨_,_,_,_⟩:=zg hb2 (w.heap.size+1) w1.heap.size;clear hb2)
  | (go_at_call 60;refine (cF1 _).mono ?_;rintro r w3 ⟨vA,rfl,uA,hb3⟩;clear cF1;obtain ⟨_,_,_,_,hA3,_⟩:=wz w hb3;obtain ⟨_,_,_,_⟩:=zg hb3 (w.heap.size+1) w1.heap.size;clear hb3)
  | (go_at_call 61;refine (cM1 _ _ uA).mono ?_;rintro r w0 ⟨rfl,rfl⟩;clear cM1 uA)
  | (go_at_call 60;refine (cF2 _).mono ?_;rintro r w4 ⟨vR,rfl,uR,hb4⟩;clear cF2;obtain ⟨_,_,_,_,hA4,_⟩:=wz w hb4;obtain ⟨_,_,_,_⟩:=zg hb4 (w.heap.size+1) w1.heap.size;clear hb4)
  | (go_at_call 62;refine (cB2 _ _ uR).mono ?_;rintro r w5 ⟨rfl,hb5⟩;clear cB2 uR;obtain ⟨_,_,_,_,hA5,_⟩:=wz w hb5;obtain ⟨_,_,_,_⟩:=zg hb5 (w.heap.size+1) w1.heap.size;clear hb5)
  | (go_at_call 60;refine (cF3 _).mono ?_;rintro r w6 ⟨vS,rfl,uS,hb6⟩;clear cF3;obtain ⟨_,_,_,_,hA6,_⟩:=wz w hb6;obtain ⟨_,_,_,_,_,_⟩:=zh hb6 (w.heap.size+1) w1.heap.size w5.heap.size;clear hb6;have q62_0:w.heap.size<w6.heap.size+1+1:=(by omega);have q62_1:w.heap.size+1<w6.heap.size+1+1:=(by omega);have q62_2:w1.heap.size<w6.heap.size+1+1:=(by omega);have q62_3:w5.heap.size<w6.heap.size+1+1:=(by omega);have q62_4:w6.heap.size<w6.heap.size+1+1:=(by omega);have q62_5:w6.heap.size+1<w6.heap.size+1+1:=(by omega))
  | (go_at_call 61;refine (cM3 _ _ uS).mono ?_;rintro r w0 ⟨rfl,rfl⟩;clear cM3 uS)
  | (go_at_call 84;refine wk w (cU _) ?_;intro w7 hb7 _ _ _ _ hA7 _;obtain ⟨_,_,_,_,_,_⟩:=zh hb7 (w.heap.size+1) w1.heap.size w5.heap.size;obtain ⟨_,_,_,_⟩:=zg hb7 w6.heap.size (w6.heap.size+1);clear hb7;have q71_0:w.heap.size<w7.heap.size+1:=(by omega);have q71_1:w.heap.size+1<w7.heap.size+1:=(by omega);have q71_2:w1.heap.size<w7.heap.size+1:=(by omega);have q71_3:w5.heap.size<w7.heap.size+1:=(by omega);have q71_4:w6.heap.size<w7.heap.size+1:=(by omega);have q71_5:w6.heap.size+1<w7.heap.size+1:=(by omega);have q72_6:w.heap.size<w7.heap.size+1+1:=(by omega);have q72_7:w.heap.size+1<w7.heap.size+1+1:=(by omega);have q72_8:w1.heap.size<w7.heap.size+1+1:=(by omega);have q72_9:w5.heap.size<w7.heap.size+1+1:=(by omega);have q72_10:w6.heap.size<w7.heap.size+1+1:=(by omega);have q72_11:w6.heap.size+1<w7.heap.size+1+1:=(by omega)))
 have uT:NV 4 U (.slice (some ⟨w6.heap.size+1,0,none⟩) 4 4) (((zJm w7 (w6.heap.size+1) U).alloc (.cells #[] 22)).alloc (.cells #[.int .u64 (lead:Int)] 22)):=zSb hU (by first|(simp;done)|(simp;omega)) (by go_simp) (by go_simp) (by go_simp) (by go_simp)
 have uL:NV 1 lead (.slice (some ⟨w7.heap.size+1,0,none⟩) 1 1) (((zJm w7 (w6.heap.size+1) U).alloc (.cells #[] 22)).alloc (.cells #[.int .u64 (lead:Int)] 22)):=zXa (by simp) rfl (by omega)
 refine reg28 (gl:=w7.heap.size+1) (gt:=w6.heap.size+1) (lead:=lead) (D:=D) (M:=M) (C:=C) (U:=U) (J:=J) (fun _ _ d _ _ h=>by cases d<;>exact h) rfl rfl rfl rfl hJ0 hJ1 uL uT cP cT cA ?_
 intro a1 w10 vc h16 uc hsz hdf hF10 hb10
 have ha:=zBt zEj 8 rfl hsz hdf hF10
 rw [ha]
 simp only [zEj,List.foldl_cons,List.foldl_nil,Act.put,List.setIfInBounds_toArray,List.set_cons_succ,List.set_cons_zero,h16]
 generalize slot a1 146=s146
 generalize slot a1 147=s147
 generalize slot a1 148=s148
 generalize slot a1 149=s149
 generalize slot a1 150=s150
 generalize slot a1 151=s151
 generalize slot a1 152=s152
 clear ha h16 hsz hdf hF10 uT uL cP cT cA
 obtain ⟨_,_,_,_,hA10,_⟩:=wz w hb10;obtain ⟨_,_,_,_,_,_⟩:=zh hb10 (w.heap.size+1) w1.heap.size w5.heap.size;obtain ⟨_,_,_,_⟩:=zg hb10 w6.heap.size (w6.heap.size+1);clear hb10
 go_wp2_with (first
  | (go_at_call 64;refine (cQ _).mono ?_;rintro r w11 ⟨vq,rfl,uq,hb11⟩;have uc11:=uc.next hb11;clear uc;obtain ⟨_,_,_,_,hA11,_⟩:=wz w hb11;obtain ⟨_,_,_,_,_,_⟩:=zh hb11 (w.heap.size+1) w1.heap.size w5.heap.size;obtain ⟨_,_,_,_⟩:=zg hb11 w6.heap.size (w6.heap.size+1);clear hb11)
  | (go_at_call 88;refine (cC _ _ _ uc11 uq).mono ?_;rintro r w0 ⟨rfl,rfl⟩))
 go_region_with (go_at_call 62;refine (cB _ _ (uc11.next bgo)).mono ?_;rintro r w12 ⟨rfl,hb12⟩;replace hb12:=zYc (w0:=w11) bgo hb12;obtain ⟨_,_,_,_,hA12,_⟩:=wz w hb12;obtain ⟨_,_,_,_,_,_⟩:=zh hb12 (w.heap.size+1) w1.heap.size w5.heap.size;obtain ⟨_,_,_,_⟩:=zg hb12 w6.heap.size (w6.heap.size+1);clear hb12)
 all_goals go_wp2
 all_goals exact bodyPost_ret (by simp only [results,Tryz.results42];go_simp) rfl ⟨rfl,bgo⟩
theorem vmn_db (Q d1 H4 sgv:Int)(U D M C PP lead:Nat)
  (cO:∀ W,CB 20 #[.int .i64 n] W (.tuple #[zYa n nm wd pr ex le mo pa true,.int .i64 0]))
  (cS:∀ W,CB 83 #[zYa n nm wd pr ex le mo pa true] W (.tuple #[.int .i64 G,.int .i64 T,.int .i64 J]))
  (h30:(V==30)=false) (h31:(V==31)=false) (h24:¬ V<24)
  (cU:∀ W,CB 84 #[A4 Rr,.int .i64 J] W (.tuple #[A4 U,.int .i64 0]))
  (hU:U<2^256) (hL:bits .and .u64 (A:Int) (H-1)=L) (hQH0:0<=Q*H) (hQH1:Q*H<=200000) (hF:bits .or .u64 (Q*H) L=F) (hQ:bits .and .u64 (V/2) 3=Q) (h1:bits .and .u64 V 1=d1) (hd:8+d1=ld) (hd0:0<=d1) (hd1:d1<=1)
  (cP:∀ W,CE 64 #[.int .u64 10,.int .i64 (3*J)] W (NV 50000 D))
  (cT:∀ W v v',NV 1 lead v W->NV 50000 D v' W->CE 86 #[v,v'] W (NT 60000 M))
  (cA:∀ W v v',NT 60000 M v W->NV 4 U v' W->CE 63 #[v,v'] W (NV 70000 C))
  (hlead:ld=(lead:Int)) (cQ:∀ W,CE 64 #[.int .u64 10,.int .i64 pr] W (NV 50000 PP))
  (cC:∀ W v v',NV 70000 C v W->NV 50000 PP v' W->CQ 88 #[v,v'] W (.int .i64 sgv)) (hsv:¬ 0<=sgv)
  (cB:∀ W v,NV 70000 C v W->CB 62 #[v] W (A4 C)) :
  CB 42 #[.int .i64 n,A4 Bb] w (DV 1 s false (F+le) C):=by
 have hsm:=zAa
 have hV2:(A:Int)/H=V:=by rw [← hH];exact hV
 unfold DV A4 at *
 go_enter Tryz.func42,Tryz.ntmps42
 go_wp2_with (first
  | (go_at_call 20;refine wk w (cO _) ?_;intro w1 hb1 _ _ _ _ hA1 _;obtain ⟨_,_⟩:=zf hb1 (w.heap.size+1);clear hb1)
  | (go_at_call 83;refine wk w (cS _) ?_;intro w2 hb2 _ _ _ _ hA2 _;obtain ⟨_,_,_,_⟩:=zg hb2 (w.heap.size+1) w1.heap.size;clear hb2)
  | (go_at_call 60;refine (cF1 _).mono ?_;rintro r w3 ⟨vA,rfl,uA,hb3⟩;clear cF1;obtain ⟨_,_,_,_,hA3,_⟩:=wz w hb3;obtain ⟨_,_,_,_⟩:=zg hb3 (w.heap.size+1) w1.heap.size;clear hb3)
  | (go_at_call 61;refine (cM1 _ _ uA).mono ?_;rintro r w0 ⟨rfl,rfl⟩;clear cM1 uA)
  | (go_at_call 60;refine (cF2 _).mono ?_;rintro r w4 ⟨vR,rfl,uR,hb4⟩;clear cF2;obtain ⟨_,_,_,_,hA4,_⟩:=wz w hb4;obtain ⟨_,_,_,_⟩:=zg hb4 (w.heap.size+1) w1.heap.size;clear hb4)
  | (go_at_call 62;refine (cB2 _ _ uR).mono ?_;rintro r w5 ⟨rfl,hb5⟩;clear cB2 uR;obtain ⟨_,_,_,_,hA5,_⟩:=wz w hb5;obtain ⟨_,_,_,_⟩:=zg hb5 (w.heap.size+1) w1.heap.size;clear hb5)
  | (go_at_call 60;refine (cF3 _).mono ?_;rintro r w6 ⟨vS,rfl,uS,hb6⟩;clear cF3;obtain ⟨_,_,_,_,hA6,_⟩:=wz w hb6;obtain ⟨_,_,_,_,_,_⟩:=zh hb6 (w.heap.size+1) w1.heap.size w5.heap.size;clear hb6;have q62_0:w.heap.size<w6.heap.size+1+1:=(by omega);have q62_1:w.heap.size+1<w6.heap.size+1+1:=(by omega);have q62_2:w1.heap.size<w6.heap.size+1+1:=(by omega);have q62_3:w5.heap.size<w6.heap.size+1+1:=(by omega);have q62_4:w6.heap.size<w6.heap.size+1+1:=(by omega);have q62_5:w6.heap.size+1<w6.heap.size+1+1:=(by omega))
  | (go_at_call 61;refine (cM3 _ _ uS).mono ?_;rintro r w0 ⟨rfl,rfl⟩;clear cM3 uS)
  | (go_at_call 84;refine wk w (cU _) ?_;intro w7 hb7 _ _ _ _ hA7 _;obtain ⟨_,_,_,_,_,_⟩:=zh hb7 (w.heap.size+1) w1.heap.size w5.heap.size;obtain ⟨_,_,_,_⟩:=zg hb7 w6.heap.size (w6.heap.size+1);clear hb7;have q71_0:w.heap.size<w7.heap.size+1:=(by omega);have q71_1:w.heap.size+1<w7.heap.size+1:=(by omega);have q71_2:w1.heap.size<w7.heap.size+1:=(by omega);have q71_3:w5.heap.size<w7.heap.size+1:=(by omega);have q71_4:w6.heap.size<w7.heap.size+1:=(by omega);have q71_5:w6.heap.size+1<w7.heap.size+1:=(by omega);have q72_6:w.heap.size<w7.heap.size+1+1:=(by omega);have q72_7:w.heap.size+1<w7.heap.size+1+1:=(by omega);have q72_8:w1.heap.size<w7.heap.size+1+1:=(by omega);have q72_9:w5.heap.size<w7.heap.size+1+1:=(by omega);have q72_10:w6.heap.size<w7.heap.size+1+1:=(by omega);have q72_11:w6.heap.size+1<w7.heap.size+1+1:=(by omega)))
 have uT:NV 4 U (.slice (some ⟨w6.heap.size+1,0,none⟩) 4 4) (((zJm w7 (w6.heap.size+1) U).alloc (.cells #[] 22)).alloc (.cells #[.int .u64 (lead:Int)] 22)):=zSb hU (by first|(simp;done)|(simp;omega)) (by go_simp) (by go_simp) (by go_simp) (by go_simp)
 have uL:NV 1 lead (.slice (some ⟨w7.heap.size+1,0,none⟩) 1 1) (((zJm w7 (w6.heap.size+1) U).alloc (.cells #[] 22)).alloc (.cells #[.int .u64 (lead:Int)] 22)):=zXa (by simp) rfl (by omega)
 refine reg28 (gl:=w7.heap.size+1) (gt:=w6.heap.size+1) (lead:=lead) (D:=D) (M:=M) (C:=C) (U:=U) (J:=J) (fun _ _ d _ _ h=>by cases d<;>exact h) rfl rfl rfl rfl hJ0 hJ1 uL uT cP cT cA ?_
 intro a1 w10 vc h16 uc hsz hdf hF10 hb10
 have ha:=zBt zEj 8 rfl hsz hdf hF10
 rw [ha]
 simp only [zEj,List.foldl_cons,List.foldl_nil,Act.put,List.setIfInBounds_toArray,List.set_cons_succ,List.set_cons_zero,h16]
 generalize slot a1 146=s146
 generalize slot a1 147=s147
 generalize slot a1 148=s148
 generalize slot a1 149=s149
 generalize slot a1 150=s150
 generalize slot a1 151=s151
 generalize slot a1 152=s152
 clear ha h16 hsz hdf hF10 uT uL cP cT cA
 obtain ⟨_,_,_,_,hA10,_⟩:=wz w hb10;obtain ⟨_,_,_,_,_,_⟩:=zh hb10 (w.heap.size+1) w1.heap.size w5.heap.size;obtain ⟨_,_,_,_⟩:=zg hb10 w6.heap.size (w6.heap.size+1);clear hb10
 go_wp2_with (first
  | (go_at_call 64;refine (cQ _).mono ?_;rintro r w11 ⟨vq,rfl,uq,hb11⟩;have uc11:=uc.next hb11;clear uc;obtain ⟨_,_,_,_,hA11,_⟩:=wz w hb11;obtain ⟨_,_,_,_,_,_⟩:=zh hb11 (w.heap.size+1) w1.heap.size w5.heap.size;obtain ⟨_,_,_,_⟩:=zg hb11 w6.heap.size (w6.heap.size+1);clear hb11)
  | (go_at_call 88;refine (cC _ _ _ uc11 uq).mono ?_;rintro r w0 ⟨rfl,rfl⟩))
 go_region_with (go_at_call 62;refine (cB _ _ (uc11.next bgo)).mono ?_;rintro r w12 ⟨rfl,hb12⟩;replace hb12:=zYc (w0:=w11) bgo hb12;obtain ⟨_,_,_,_,hA12,_⟩:=wz w hb12;obtain ⟨_,_,_,_,_,_⟩:=zh hb12 (w.heap.size+1) w1.heap.size w5.heap.size;obtain ⟨_,_,_,_⟩:=zg hb12 w6.heap.size (w6.heap.size+1);clear hb12)
 all_goals go_wp2
 all_goals exact bodyPost_ret (by simp only [results,Tryz.results42];go_simp) rfl ⟨rfl,bgo⟩
end
end
end Go.Proofs.YtahfkpjhlbiamaaGreatDoor
