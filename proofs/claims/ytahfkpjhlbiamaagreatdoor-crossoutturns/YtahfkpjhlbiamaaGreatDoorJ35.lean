/-
  Texts that the proof leans on.
-/
import Derived.Test.YtahfkpjhlbiamaaGreatDoorJ23
import Derived.Test.YtahfkpjhlbiamaaGreatDoorJ1
set_option maxHeartbeats 8000000
set_option linter.unusedVariables false
set_option linter.unusedSectionVars false
set_option linter.unusedSimpArgs false
set_option maxRecDepth 20000
namespace Go.Proofs.YtahfkpjhlbiamaaGreatDoor
open Go.RowKit
section
attribute [local irreducible] W4 NT NV
section
variable (n:Int)(nm:ByteArray)(wd pr ex le mo pa:Int)(G T J:Int)(Bb A Rr sN:Nat)(V:Int)(s:Bool)(wn:Nat)(w:World)
 (hG0:11<=G) (hG1:G<=100) (hT0:0<=T) (hT1:T<=200) (hJ0:0<=J) (hJ1:J<=11) (hAb:(A:Int)<=200000)
 (cF1:∀ W,CE 60 #[A4 Bb,.int .i64 T,.int .i64 G] W (NT 19 A))
 (cF2:∀ W,CE 60 #[A4 Bb,.int .i64 0,.int .i64 T] W (NT 19 Rr))
 (cF3:∀ W,CE 60 #[A4 Bb,.int .i64 (T+G),.int .i64 1] W (NT 19 sN))
 (cM1:∀ W v,NT 19 A v W->CQ 61 #[v] W (.int .i64 (A:Int)))
 (cM3:∀ W v,NT 19 sN v W->CQ 61 #[v] W (.int .i64 (sN:Int)))
 (cB2:∀ W v,NT 19 Rr v W->CB 62 #[v] W (A4 Rr))
 (hw:G-5=(wn:Int)) (hwn:wn<=12) (hV:(A:Int)/2^wn=V) (hV0:0<=V) (hV1:V<=31) (hsg:((sN:Int)==1)=s)
include hG0 hG1 hT0 hT1 hJ0 hJ1 hAb cF1 cF2 cF3 cM1 cM3 cB2 hw hwn hV hV0 hV1 hsg
theorem vmn_i (dn:Bool)
  (cO:∀ W,CB 20 #[.int .i64 n] W (.tuple #[zYa n nm wd pr ex le mo pa dn,.int .i64 0]))
  (cS:∀ W,CB 83 #[zYa n nm wd pr ex le mo pa dn] W (.tuple #[.int .i64 G,.int .i64 T,.int .i64 J]))
  (h30:(V==30)=true) :
  CB 42 #[.int .i64 n,A4 Bb] w (.agg #[.int .i64 2,.bool s,.bool false,.int .i64 0,.int .u64 0,.int .u64 0,.int .u64 0,.int .u64 0]):=by
 have hsm:=zAa
 unfold DV A4 at *
 go_enter Tryz.func42,Tryz.ntmps42
 go_wp2_with (first
  | (go_at_call 20;refine wk w (cO _) ?_;intro w1 hb1 _ _ _ _ hA1 _;obtain ⟨_,_⟩:=zf hb1 (w.heap.size+1);clear hb1)
  | (go_at_call 83;refine wk w (cS _) ?_;intro w2 hb2 _ _ _ _ hA2 _;obtain ⟨_,_,_,_⟩:=zg hb2 (w.heap.size+1) w1.heap.size;clear hb2)
  | (go_at_call 60;refine (cF1 _).mono ?_;rintro r w3 ⟨vA,rfl,uA,hb3⟩;clear cF1;obtain ⟨_,_,_,_,hA3,_⟩:=wz w hb3;obtain ⟨_,_,_,_⟩:=zg hb3 (w.heap.size+1) w1.heap.size;clear hb3)
  | (go_at_call 61;refine (cM1 _ _ uA).mono ?_;rintro r w0 ⟨rfl,rfl⟩;clear cM1 uA)
  | (go_at_call 60;refine (cF2 _).mono ?_;rintro r w4 ⟨vR,rfl,uR,hb4⟩;clear cF2;obtain ⟨_,_,_,_,hA4,_⟩:=wz w hb4;obtain ⟨_,_,_,_⟩:=zg hb4 (w.heap.size+1) w1.heap.size;clear hb4)
  | (go_at_call 62;refine (cB2 _ _ uR).mono ?_;rintro r w5 ⟨rfl,hb5⟩;clear cB2 uR;obtain ⟨_,_,_,_,hA5,_⟩:=wz w hb5;obtain ⟨_,_,_,_⟩:=zg hb5 (w.heap.size+1) w1.heap.size;clear hb5)
  | (go_at_call 60;refine (cF3 _).mono ?_;rintro r w6 ⟨vS,rfl,uS,hb6⟩;clear cF3;obtain ⟨_,_,_,_,hA6,_⟩:=wz w hb6;obtain ⟨_,_,_,_,_,_⟩:=zh hb6 (w.heap.size+1) w1.heap.size w5.heap.size;clear hb6)
  | (go_at_call 61;refine (cM3 _ _ uS).mono ?_;rintro r w0 ⟨rfl,rfl⟩;clear cM3 uS))
 exact bodyPost_ret (by simp only [results,Tryz.results42];go_simp) rfl ⟨rfl,bgo⟩
theorem zO7 (wm:Nat)(g:Bool)(U:Nat)
  (cO:∀ W,CB 20 #[.int .i64 n] W (.tuple #[zYa n nm wd pr ex le mo pa true,.int .i64 0]))
  (cS:∀ W,CB 83 #[zYa n nm wd pr ex le mo pa true] W (.tuple #[.int .i64 G,.int .i64 T,.int .i64 J]))
  (h30:(V==30)=false) (h31:(V==31)=true) (hw6:G-6=(wm:Int)) (hwm:wm<=12) (hgg:(bits .and .u64 ((A:Int)/2^wm) 1==1)=g)
  (cU:∀ W,CB 84 #[A4 Rr,.int .i64 J] W (.tuple #[A4 U,.int .i64 0]))
  (cW:∀ W,CB 85 #[A4 U,.int .i64 10,.int .i64 pa] W (.bool true)) :
  CB 42 #[.int .i64 n,A4 Bb] w (DV 3 s g 0 U):=by
 have hsm:=zAa
 unfold DV A4 at *
 go_enter Tryz.func42,Tryz.ntmps42
 go_wp2_with (first
  | (go_at_call 20;refine wk w (cO _) ?_;intro w1 hb1 _ _ _ _ hA1 _;obtain ⟨_,_⟩:=zf hb1 (w.heap.size+1);clear hb1)
  | (go_at_call 83;refine wk w (cS _) ?_;intro w2 hb2 _ _ _ _ hA2 _;obtain ⟨_,_,_,_⟩:=zg hb2 (w.heap.size+1) w1.heap.size;clear hb2)
  | (go_at_call 60;refine (cF1 _).mono ?_;rintro r w3 ⟨vA,rfl,uA,hb3⟩;clear cF1;obtain ⟨_,_,_,_,hA3,_⟩:=wz w hb3;obtain ⟨_,_,_,_⟩:=zg hb3 (w.heap.size+1) w1.heap.size;clear hb3)
  | (go_at_call 61;refine (cM1 _ _ uA).mono ?_;rintro r w0 ⟨rfl,rfl⟩;clear cM1 uA)
  | (go_at_call 60;refine (cF2 _).mono ?_;rintro r w4 ⟨vR,rfl,uR,hb4⟩;clear cF2;obtain ⟨_,_,_,_,hA4,_⟩:=wz w hb4;obtain ⟨_,_,_,_⟩:=zg hb4 (w.heap.size+1) w1.heap.size;clear hb4)
  | (go_at_call 62;refine (cB2 _ _ uR).mono ?_;rintro r w5 ⟨rfl,hb5⟩;clear cB2 uR;obtain ⟨_,_,_,_,hA5,_⟩:=wz w hb5;obtain ⟨_,_,_,_⟩:=zg hb5 (w.heap.size+1) w1.heap.size;clear hb5)
  | (go_at_call 60;refine (cF3 _).mono ?_;rintro r w6 ⟨vS,rfl,uS,hb6⟩;clear cF3;obtain ⟨_,_,_,_,hA6,_⟩:=wz w hb6;obtain ⟨_,_,_,_,_,_⟩:=zh hb6 (w.heap.size+1) w1.heap.size w5.heap.size;clear hb6;have q62_0:w.heap.size<w6.heap.size+1+1:=(by omega);have q62_1:w.heap.size+1<w6.heap.size+1+1:=(by omega);have q62_2:w1.heap.size<w6.heap.size+1+1:=(by omega);have q62_3:w5.heap.size<w6.heap.size+1+1:=(by omega);have q62_4:w6.heap.size<w6.heap.size+1+1:=(by omega);have q62_5:w6.heap.size+1<w6.heap.size+1+1:=(by omega))
  | (go_at_call 61;refine (cM3 _ _ uS).mono ?_;rintro r w0 ⟨rfl,rfl⟩;clear cM3 uS)
  | (go_at_call 84;refine wk w (cU _) ?_;intro w7 hb7 _ _ _ _ hA7 _;obtain ⟨_,_,_,_,_,_⟩:=zh hb7 (w.heap.size+1) w1.heap.size w5.heap.size;obtain ⟨_,_,_,_⟩:=zg hb7 w6.heap.size (w6.heap.size+1);clear hb7)
  | (go_at_call 85;refine wk w (cW _) ?_;intro w8 hb8 _ _ _ _ hA8 _;obtain ⟨_,_,_,_,_,_⟩:=zh hb8 (w.heap.size+1) w1.heap.size w5.heap.size;obtain ⟨_,_,_,_⟩:=zg hb8 w6.heap.size (w6.heap.size+1);clear hb8))
 exact bodyPost_ret (by simp only [results,Tryz.results42];go_simp) rfl ⟨rfl,bgo⟩
theorem zP7 (wm:Nat)(g:Bool)
  (cO:∀ W,CB 20 #[.int .i64 n] W (.tuple #[zYa n nm wd pr ex le mo pa false,.int .i64 0]))
  (cS:∀ W,CB 83 #[zYa n nm wd pr ex le mo pa false] W (.tuple #[.int .i64 G,.int .i64 T,.int .i64 J]))
  (h30:(V==30)=false) (h31:(V==31)=true) (hw6:G-6=(wm:Int)) (hwm:wm<=12) (hgg:(bits .and .u64 ((A:Int)/2^wm) 1==1)=g)
  (cW:∀ W,CB 85 #[A4 Rr,.int .i64 10,.int .i64 pa] W (.bool true)) :
  CB 42 #[.int .i64 n,A4 Bb] w (DV 3 s g 0 Rr):=by
 have hsm:=zAa
 unfold DV A4 at *
 go_enter Tryz.func42,Tryz.ntmps42
 go_wp2_with (first
  | (go_at_call 20;refine wk w (cO _) ?_;intro w1 hb1 _ _ _ _ hA1 _;obtain ⟨_,_⟩:=zf hb1 (w.heap.size+1);clear hb1)
  | (go_at_call 83;refine wk w (cS _) ?_;intro w2 hb2 _ _ _ _ hA2 _;obtain ⟨_,_,_,_⟩:=zg hb2 (w.heap.size+1) w1.heap.size;clear hb2)
  | (go_at_call 60;refine (cF1 _).mono ?_;rintro r w3 ⟨vA,rfl,uA,hb3⟩;clear cF1;obtain ⟨_,_,_,_,hA3,_⟩:=wz w hb3;obtain ⟨_,_,_,_⟩:=zg hb3 (w.heap.size+1) w1.heap.size;clear hb3)
  | (go_at_call 61;refine (cM1 _ _ uA).mono ?_;rintro r w0 ⟨rfl,rfl⟩;clear cM1 uA)
  | (go_at_call 60;refine (cF2 _).mono ?_;rintro r w4 ⟨vR,rfl,uR,hb4⟩;clear cF2;obtain ⟨_,_,_,_,hA4,_⟩:=wz w hb4;obtain ⟨_,_,_,_⟩:=zg hb4 (w.heap.size+1) w1.heap.size;clear hb4)
  | (go_at_call 62;refine (cB2 _ _ uR).mono ?_;rintro r w5 ⟨rfl,hb5⟩;clear cB2 uR;obtain ⟨_,_,_,_,hA5,_⟩:=wz w hb5;obtain ⟨_,_,_,_⟩:=zg hb5 (w.heap.size+1) w1.heap.size;clear hb5)
  | (go_at_call 60;refine (cF3 _).mono ?_;rintro r w6 ⟨vS,rfl,uS,hb6⟩;clear cF3;obtain ⟨_,_,_,_,hA6,_⟩:=wz w hb6;obtain ⟨_,_,_,_,_,_⟩:=zh hb6 (w.heap.size+1) w1.heap.size w5.heap.size;clear hb6;have q62_0:w.heap.size<w6.heap.size+1+1:=(by omega);have q62_1:w.heap.size+1<w6.heap.size+1+1:=(by omega);have q62_2:w1.heap.size<w6.heap.size+1+1:=(by omega);have q62_3:w5.heap.size<w6.heap.size+1+1:=(by omega);have q62_4:w6.heap.size<w6.heap.size+1+1:=(by omega);have q62_5:w6.heap.size+1<w6.heap.size+1+1:=(by omega))
  | (go_at_call 61;refine (cM3 _ _ uS).mono ?_;rintro r w0 ⟨rfl,rfl⟩;clear cM3 uS)
  | (go_at_call 85;refine wk w (cW _) ?_;intro w8 hb8 _ _ _ _ hA8 _;obtain ⟨_,_,_,_,_,_⟩:=zh hb8 (w.heap.size+1) w1.heap.size w5.heap.size;obtain ⟨_,_,_,_⟩:=zg hb8 w6.heap.size (w6.heap.size+1);clear hb8))
 exact bodyPost_ret (by simp only [results,Tryz.results42];go_simp) rfl ⟨rfl,bgo⟩
theorem zQ7 (wm:Nat)(g:Bool)
  (cO:∀ W,CB 20 #[.int .i64 n] W (.tuple #[zYa n nm wd pr ex le mo pa false,.int .i64 0]))
  (cS:∀ W,CB 83 #[zYa n nm wd pr ex le mo pa false] W (.tuple #[.int .i64 G,.int .i64 T,.int .i64 J]))
  (h30:(V==30)=false) (h31:(V==31)=true) (hw6:G-6=(wm:Int)) (hwm:wm<=12) (hgg:(bits .and .u64 ((A:Int)/2^wm) 1==1)=g)
  (cW:∀ W,CB 85 #[A4 Rr,.int .i64 10,.int .i64 pa] W (.bool false)) :
  CB 42 #[.int .i64 n,A4 Bb] w (.agg #[.int .i64 3,.bool s,.bool g,.int .i64 0,.int .u64 0,.int .u64 0,.int .u64 0,.int .u64 0]):=by
 have hsm:=zAa
 unfold DV A4 at *
 go_enter Tryz.func42,Tryz.ntmps42
 go_wp2_with (first
  | (go_at_call 20;refine wk w (cO _) ?_;intro w1 hb1 _ _ _ _ hA1 _;obtain ⟨_,_⟩:=zf hb1 (w.heap.size+1);clear hb1)
  | (go_at_call 83;refine wk w (cS _) ?_;intro w2 hb2 _ _ _ _ hA2 _;obtain ⟨_,_,_,_⟩:=zg hb2 (w.heap.size+1) w1.heap.size;clear hb2)
  | (go_at_call 60;refine (cF1 _).mono ?_;rintro r w3 ⟨vA,rfl,uA,hb3⟩;clear cF1;obtain ⟨_,_,_,_,hA3,_⟩:=wz w hb3;obtain ⟨_,_,_,_⟩:=zg hb3 (w.heap.size+1) w1.heap.size;clear hb3)
  | (go_at_call 61;refine (cM1 _ _ uA).mono ?_;rintro r w0 ⟨rfl,rfl⟩;clear cM1 uA)
  | (go_at_call 60;refine (cF2 _).mono ?_;rintro r w4 ⟨vR,rfl,uR,hb4⟩;clear cF2;obtain ⟨_,_,_,_,hA4,_⟩:=wz w hb4;obtain ⟨_,_,_,_⟩:=zg hb4 (w.heap.size+1) w1.heap.size;clear hb4)
  | (go_at_call 62;refine (cB2 _ _ uR).mono ?_;rintro r w5 ⟨rfl,hb5⟩;clear cB2 uR;obtain ⟨_,_,_,_,hA5,_⟩:=wz w hb5;obtain ⟨_,_,_,_⟩:=zg hb5 (w.heap.size+1) w1.heap.size;clear hb5)
  | (go_at_call 60;refine (cF3 _).mono ?_;rintro r w6 ⟨vS,rfl,uS,hb6⟩;clear cF3;obtain ⟨_,_,_,_,hA6,_⟩:=wz w hb6;obtain ⟨_,_,_,_,_,_⟩:=zh hb6 (w.heap.size+1) w1.heap.size w5.heap.size;clear hb6;have q62_0:w.heap.size<w6.heap.size+1+1:=(by omega);have q62_1:w.heap.size+1<w6.heap.size+1+1:=(by omega);have q62_2:w1.heap.size<w6.heap.size+1+1:=(by omega);have q62_3:w5.heap.size<w6.heap.size+1+1:=(by omega);have q62_4:w6.heap.size<w6.heap.size+1+1:=(by omega);have q62_5:w6.heap.size+1<w6.heap.size+1+1:=(by omega))
  | (go_at_call 61;refine (cM3 _ _ uS).mono ?_;rintro r w0 ⟨rfl,rfl⟩;clear cM3 uS)
  | (go_at_call 85;refine wk w (cW _) ?_;intro w8 hb8 _ _ _ _ hA8 _;obtain ⟨_,_,_,_,_,_⟩:=zh hb8 (w.heap.size+1) w1.heap.size w5.heap.size;obtain ⟨_,_,_,_⟩:=zg hb8 w6.heap.size (w6.heap.size+1);clear hb8))
 exact bodyPost_ret (by simp only [results,Tryz.results42];go_simp) rfl ⟨rfl,bgo⟩
end
end
end Go.Proofs.YtahfkpjhlbiamaaGreatDoor
