/-
  Texts that the proof leans on.
-/
import Derived.Test.YtahfkpjhlbiamaaGreatDoorJ23
import Derived.Test.YtahfkpjhlbiamaaGreatDoorJ11
import Derived.Test.YtahfkpjhlbiamaaGreatDoorJ1
set_option maxHeartbeats 8000000
set_option linter.unusedVariables false
set_option linter.unusedSectionVars false
set_option linter.unusedSimpArgs false
set_option maxRecDepth 20000
namespace Go.Proofs.YtahfkpjhlbiamaaGreatDoor
open Go.RowKit
section
attribute [local irreducible] W4 NT NV
section
variable (n:Int)(nm:ByteArray)(wd pr ex le mo pa:Int)(G T J:Int)(x:Int)(k S:Nat)(w:World)
 (cD:∀ W,CQ 15 #[.int .i64 n] W (.bool true))
 (hG0:11<=G) (hG1:G<=100) (hT0:0<=T) (hT1:T<=200) (hJ0:0<=J) (hJ1:J<=11)
 (cN:∀ W,Calls Tryz.prog 66 #[A4 k] W fun r w'=>∃ g n cap,r=.returned (.slice (some ⟨g,0,none⟩) n cap)/\W.heap.size<g/\NT 4 k (.slice (some ⟨g,0,none⟩) n cap) w'/\Below W.heap.size W w')
include cD hG0 hG1 hT0 hT1 hJ0 hJ1 cN
variable (E:Int)(wn a:Nat)(Q H L:Int)(hx:x-le=E)(hE0:0<=E)(hE1:E<=20000)(hx0:-30000<=x)(hx1:x<=30000)(hl0:-30000<=le)(hl1:le<=30000)(hw:G-5=(wn:Int))(hwn:wn<=12)(hH:(2:Int)^wn=H)(hH0:1<=H)(hH1:H<=4096)(ha:a<=9)
include hx hE0 hE1 hx0 hx1 hl0 hl1 hw hwn hH hH0 hH1 ha
theorem zP1 (R:Nat)(R1 rr Fw:Nat)(V0 V1 V2 H8:Int)
  (cO:∀ W,CB 20 #[.int .i64 n] W (.tuple #[zYa n nm wd pr ex le mo pa false,.int .i64 0]))
  (cI:∀ W,CB 89 #[zYa n nm wd pr ex le mo pa false,DV 1 true false x k] W (.bool true))
  (cS:∀ W,CB 83 #[zYa n nm wd pr ex le mo pa false] W (.tuple #[.int .i64 G,.int .i64 T,.int .i64 J]))
  (cL1:∀ W v,NV 1 1 v W->CB 90 #[Z4,v,.int .i64 (T+G)] W (A4 S))
  (cR:∀ W vn,NT 4 k vn W->Calls Tryz.prog 93 #[vn,.int .i64 T] W fun r w'=>∃ g k cap b,r=.returned (.tuple #[.slice (some ⟨g,0,none⟩) k cap,.bool b])/\W.heap.size<=g/\NV 4 a (.slice (some ⟨g,0,none⟩) k cap) w'/\Below W.heap.size W w')
  (cF:∀ W,CE 60 #[A4 k,.int .i64 0,.int .i64 T] W (NT 19 rr))
  (cM:∀ W v,NV 4 a v W->CQ 61 #[v] W (.int .i64 (a:Int)))
  (cL5:∀ W v,NV 19 rr v W->CB 90 #[A4 S,v,.int .i64 0] W (A4 R1))
  (ho1:bits .or .u64 (E*8) (a:Int)=V0)
  (h8:(8:Int)<=(a:Int)) (hw3:(2:Int)^(wn+3)=H8) (hH8:1<=H8) (hH9:H8<=40000) (ho2:bits .or .u64 (3*H8) (E*2)=V1) (ho3:bits .and .u64 (a:Int) 1=V2) (ho4:bits .or .u64 V1 V2=(Fw:Int))
  (hFw:Fw<18446744073709551616)
  (cL6:∀ W v,NV 1 Fw v W->CB 90 #[A4 R1,v,.int .i64 T] W (A4 R)) :
  CB 43 #[.int .i64 n,DV 1 true false x k] w (.tuple #[A4 R,.int .i64 0]):=by
 have hsm:=zAa
 unfold DV A4 Z4 at *
 go_enter Tryz.func43,Tryz.ntmps43
 go_wp2_with (first
  | (go_at_call 15;refine (cD _).mono ?_;rintro r w0 ⟨rfl,rfl⟩)
  | (go_at_call 20;refine wk w (cO _) ?_;intro w1 hb1 _ _ _ _ hA1 _;obtain ⟨_,_⟩:=zf hb1 (w.heap.size+1);clear hb1)
  | (go_at_call 89;refine wk w (cI _) ?_;intro w2 hb2 _ _ _ _ hA2 _;obtain ⟨_,_,_,_⟩:=zg hb2 (w.heap.size+1) w1.heap.size;clear hb2)
  | (go_at_call 83;refine wk w (cS _) ?_;intro w3 hb3 _ _ _ _ hA3 _;obtain ⟨_,_,_,_⟩:=zg hb3 (w.heap.size+1) w1.heap.size;clear hb3;have q0:w.heap.size<w3.heap.size+1+1:=(by omega);have q1:w.heap.size+1<w3.heap.size+1+1:=(by omega);have q2:w1.heap.size<w3.heap.size+1+1:=(by omega);have q3:w3.heap.size<w3.heap.size+1+1:=(by omega))
  | (go_at_call 90;refine (cL1 _ _ (zXa (by simp) (by rfl) (by decide))).mono ?_;rintro r w4 ⟨rfl,hb4⟩;clear cL1;obtain ⟨_,_,_,_,hA4,_⟩:=wz w hb4;obtain ⟨_,_,_,_,_,_⟩:=zh hb4 (w.heap.size+1) w1.heap.size w3.heap.size;clear hb4)
  | (go_at_call 66;refine (cN _).mono ?_;rintro r w5 ⟨gn,nn,cn,rfl,hg5,hn5,hb5⟩;have hgn:gn≠w3.heap.size:=(by first|omega|(simp at hg5;omega));clear hg5;obtain ⟨_,_,_,_,hA5,_⟩:=wz w hb5;obtain ⟨_,_,_,_,_,_⟩:=zh hb5 (w.heap.size+1) w1.heap.size w3.heap.size;clear hb5)
  | (go_at_call 93;refine (cR _ _ hn5).mono ?_;rintro r w6 ⟨gq,kq,cq,bq,rfl,hg6,hq6,hb6⟩;have hgq:gq≠w3.heap.size:=(by omega);clear hg6;obtain ⟨_,_,_,_,hA6,_⟩:=wz w hb6;obtain ⟨_,_,_,_,_,_⟩:=zh hb6 (w.heap.size+1) w1.heap.size w3.heap.size;clear hb6))
 go_region_with (first
  | (go_at_call 60;refine (cF _).mono ?_;rintro r w7 ⟨vf,rfl,hv7,hb7⟩;replace hb7:=zYc (w0:=w6) bgo hb7;have hq7:=NV.next hq6 hb7;obtain ⟨_,_,_,_,hA7,_⟩:=wz w hb7;obtain ⟨_,_,_,_,_,_⟩:=zh hb7 (w.heap.size+1) w1.heap.size w3.heap.size;clear hb7)
  | (go_at_call 90;refine (cL5 _ _ hv7.nv).mono ?_;rintro r w8 ⟨rfl,hb8⟩;have hq8:=hq7.next hb8;obtain ⟨_,_,_,_,hA8,_⟩:=wz w hb8;obtain ⟨_,_,_,_,_,_⟩:=zh hb8 (w.heap.size+1) w1.heap.size w3.heap.size;clear hb8;have k8_w3heapsize_0:w8.cell? ⟨w3.heap.size,0,none⟩=some (.int .u64 (W4 S 0)):=(by go_simp);have k8_w3heapsize_1:w8.cell? ⟨w3.heap.size,1,none⟩=some (.int .u64 (W4 S 1)):=(by go_simp);have k8_w3heapsize_2:w8.cell? ⟨w3.heap.size,2,none⟩=some (.int .u64 (W4 S 2)):=(by go_simp);have k8_w3heapsize_3:w8.cell? ⟨w3.heap.size,3,none⟩=some (.int .u64 (W4 S 3)):=(by go_simp);have f8_0:w8.frozen? ⟨w3.heap.size,0,none⟩=false:=(by go_simp);have f8_1:w8.frozen? ⟨w3.heap.size,1,none⟩=false:=(by go_simp);have f8_2:w8.frozen? ⟨w3.heap.size,2,none⟩=false:=(by go_simp);have f8_3:w8.frozen? ⟨w3.heap.size,3,none⟩=false:=(by go_simp)))
 go_wp2_with (first
  | (go_at_call 61;refine (cM _ _ (hq8.updV hgq (zEb _ _ R1))).mono ?_;rintro r w11 ⟨rfl,rfl⟩)
  | (go_at_call 90;refine wk w (cL6 _ _ (zXa (by simp) (by rfl) hFw)) ?_;intro w12 hb12 _ _ _ _ hA12 _;obtain ⟨_,_,_,_,_,_⟩:=zh hb12 (w.heap.size+1) w1.heap.size w3.heap.size;clear hb12))
 all_goals exact bodyPost_ret (v:=.tuple #[A4 R,.int .i64 0]) (by simp only [results,Tryz.results43];go_simp) rfl ⟨rfl,bgo⟩
theorem zO1 (R:Nat)(R1 rr Fw:Nat)
  (cO:∀ W,CB 20 #[.int .i64 n] W (.tuple #[zYa n nm wd pr ex le mo pa false,.int .i64 0]))
  (cI:∀ W,CB 89 #[zYa n nm wd pr ex le mo pa false,DV 1 true false x k] W (.bool true))
  (cS:∀ W,CB 83 #[zYa n nm wd pr ex le mo pa false] W (.tuple #[.int .i64 G,.int .i64 T,.int .i64 J]))
  (cL1:∀ W v,NV 1 1 v W->CB 90 #[Z4,v,.int .i64 (T+G)] W (A4 S))
  (cR:∀ W vn,NT 4 k vn W->Calls Tryz.prog 93 #[vn,.int .i64 T] W fun r w'=>∃ g k cap b,r=.returned (.tuple #[.slice (some ⟨g,0,none⟩) k cap,.bool b])/\W.heap.size<=g/\NV 4 a (.slice (some ⟨g,0,none⟩) k cap) w'/\Below W.heap.size W w')
  (cF:∀ W,CE 60 #[A4 k,.int .i64 0,.int .i64 T] W (NT 19 rr))
  (cM:∀ W v,NV 4 a v W->CQ 61 #[v] W (.int .i64 (a:Int)))
  (cL5:∀ W v,NV 19 rr v W->CB 90 #[A4 S,v,.int .i64 0] W (A4 R1))
  (ho1:bits .or .u64 (E*8) (a:Int)=(Fw:Int))
  (h8:¬ (8:Int)<=(a:Int))
  (hFw:Fw<18446744073709551616)
  (cL6:∀ W v,NV 1 Fw v W->CB 90 #[A4 R1,v,.int .i64 T] W (A4 R)) :
  CB 43 #[.int .i64 n,DV 1 true false x k] w (.tuple #[A4 R,.int .i64 0]):=by
 have hsm:=zAa
 unfold DV A4 Z4 at *
 go_enter Tryz.func43,Tryz.ntmps43
 go_wp2_with (first
  | (go_at_call 15;refine (cD _).mono ?_;rintro r w0 ⟨rfl,rfl⟩)
  | (go_at_call 20;refine wk w (cO _) ?_;intro w1 hb1 _ _ _ _ hA1 _;obtain ⟨_,_⟩:=zf hb1 (w.heap.size+1);clear hb1)
  | (go_at_call 89;refine wk w (cI _) ?_;intro w2 hb2 _ _ _ _ hA2 _;obtain ⟨_,_,_,_⟩:=zg hb2 (w.heap.size+1) w1.heap.size;clear hb2)
  | (go_at_call 83;refine wk w (cS _) ?_;intro w3 hb3 _ _ _ _ hA3 _;obtain ⟨_,_,_,_⟩:=zg hb3 (w.heap.size+1) w1.heap.size;clear hb3;have q0:w.heap.size<w3.heap.size+1+1:=(by omega);have q1:w.heap.size+1<w3.heap.size+1+1:=(by omega);have q2:w1.heap.size<w3.heap.size+1+1:=(by omega);have q3:w3.heap.size<w3.heap.size+1+1:=(by omega))
  | (go_at_call 90;refine (cL1 _ _ (zXa (by simp) (by rfl) (by decide))).mono ?_;rintro r w4 ⟨rfl,hb4⟩;clear cL1;obtain ⟨_,_,_,_,hA4,_⟩:=wz w hb4;obtain ⟨_,_,_,_,_,_⟩:=zh hb4 (w.heap.size+1) w1.heap.size w3.heap.size;clear hb4)
  | (go_at_call 66;refine (cN _).mono ?_;rintro r w5 ⟨gn,nn,cn,rfl,hg5,hn5,hb5⟩;have hgn:gn≠w3.heap.size:=(by first|omega|(simp at hg5;omega));clear hg5;obtain ⟨_,_,_,_,hA5,_⟩:=wz w hb5;obtain ⟨_,_,_,_,_,_⟩:=zh hb5 (w.heap.size+1) w1.heap.size w3.heap.size;clear hb5)
  | (go_at_call 93;refine (cR _ _ hn5).mono ?_;rintro r w6 ⟨gq,kq,cq,bq,rfl,hg6,hq6,hb6⟩;have hgq:gq≠w3.heap.size:=(by omega);clear hg6;obtain ⟨_,_,_,_,hA6,_⟩:=wz w hb6;obtain ⟨_,_,_,_,_,_⟩:=zh hb6 (w.heap.size+1) w1.heap.size w3.heap.size;clear hb6))
 go_region_with (first
  | (go_at_call 60;refine (cF _).mono ?_;rintro r w7 ⟨vf,rfl,hv7,hb7⟩;replace hb7:=zYc (w0:=w6) bgo hb7;have hq7:=NV.next hq6 hb7;obtain ⟨_,_,_,_,hA7,_⟩:=wz w hb7;obtain ⟨_,_,_,_,_,_⟩:=zh hb7 (w.heap.size+1) w1.heap.size w3.heap.size;clear hb7)
  | (go_at_call 90;refine (cL5 _ _ hv7.nv).mono ?_;rintro r w8 ⟨rfl,hb8⟩;have hq8:=hq7.next hb8;obtain ⟨_,_,_,_,hA8,_⟩:=wz w hb8;obtain ⟨_,_,_,_,_,_⟩:=zh hb8 (w.heap.size+1) w1.heap.size w3.heap.size;clear hb8;have k8_w3heapsize_0:w8.cell? ⟨w3.heap.size,0,none⟩=some (.int .u64 (W4 S 0)):=(by go_simp);have k8_w3heapsize_1:w8.cell? ⟨w3.heap.size,1,none⟩=some (.int .u64 (W4 S 1)):=(by go_simp);have k8_w3heapsize_2:w8.cell? ⟨w3.heap.size,2,none⟩=some (.int .u64 (W4 S 2)):=(by go_simp);have k8_w3heapsize_3:w8.cell? ⟨w3.heap.size,3,none⟩=some (.int .u64 (W4 S 3)):=(by go_simp);have f8_0:w8.frozen? ⟨w3.heap.size,0,none⟩=false:=(by go_simp);have f8_1:w8.frozen? ⟨w3.heap.size,1,none⟩=false:=(by go_simp);have f8_2:w8.frozen? ⟨w3.heap.size,2,none⟩=false:=(by go_simp);have f8_3:w8.frozen? ⟨w3.heap.size,3,none⟩=false:=(by go_simp)))
 go_wp2_with (first
  | (go_at_call 61;refine (cM _ _ (hq8.updV hgq (zEb _ _ R1))).mono ?_;rintro r w11 ⟨rfl,rfl⟩)
  | (go_at_call 90;refine wk w (cL6 _ _ (zXa (by simp) (by rfl) hFw)) ?_;intro w12 hb12 _ _ _ _ hA12 _;obtain ⟨_,_,_,_,_,_⟩:=zh hb12 (w.heap.size+1) w1.heap.size w3.heap.size;clear hb12))
 all_goals exact bodyPost_ret (v:=.tuple #[A4 R,.int .i64 0]) (by simp only [results,Tryz.results43];go_simp) rfl ⟨rfl,bgo⟩
theorem zT1 (R:Nat)(R1 rr Fw:Nat)(V0 V1 V2 H8:Int)
  (cO:∀ W,CB 20 #[.int .i64 n] W (.tuple #[zYa n nm wd pr ex le mo pa false,.int .i64 0]))
  (cI:∀ W,CB 89 #[zYa n nm wd pr ex le mo pa false,DV 1 false false x k] W (.bool true))
  (cS:∀ W,CB 83 #[zYa n nm wd pr ex le mo pa false] W (.tuple #[.int .i64 G,.int .i64 T,.int .i64 J]))
  (cR:∀ W vn,NT 4 k vn W->Calls Tryz.prog 93 #[vn,.int .i64 T] W fun r w'=>∃ g k cap b,r=.returned (.tuple #[.slice (some ⟨g,0,none⟩) k cap,.bool b])/\W.heap.size<=g/\NV 4 a (.slice (some ⟨g,0,none⟩) k cap) w'/\Below W.heap.size W w')
  (cF:∀ W,CE 60 #[A4 k,.int .i64 0,.int .i64 T] W (NT 19 rr))
  (cM:∀ W v,NV 4 a v W->CQ 61 #[v] W (.int .i64 (a:Int)))
  (cL5:∀ W v,NV 19 rr v W->CB 90 #[Z4,v,.int .i64 0] W (A4 R1))
  (ho1:bits .or .u64 (E*8) (a:Int)=V0)
  (h8:(8:Int)<=(a:Int)) (hw3:(2:Int)^(wn+3)=H8) (hH8:1<=H8) (hH9:H8<=40000) (ho2:bits .or .u64 (3*H8) (E*2)=V1) (ho3:bits .and .u64 (a:Int) 1=V2) (ho4:bits .or .u64 V1 V2=(Fw:Int))
  (hFw:Fw<18446744073709551616)
  (cL6:∀ W v,NV 1 Fw v W->CB 90 #[A4 R1,v,.int .i64 T] W (A4 R)) :
  CB 43 #[.int .i64 n,DV 1 false false x k] w (.tuple #[A4 R,.int .i64 0]):=by
 have hsm:=zAa
 unfold DV A4 Z4 at *
 go_enter Tryz.func43,Tryz.ntmps43
 go_wp2_with (first
  | (go_at_call 15;refine (cD _).mono ?_;rintro r w0 ⟨rfl,rfl⟩)
  | (go_at_call 20;refine wk w (cO _) ?_;intro w1 hb1 _ _ _ _ hA1 _;obtain ⟨_,_⟩:=zf hb1 (w.heap.size+1);clear hb1)
  | (go_at_call 89;refine wk w (cI _) ?_;intro w2 hb2 _ _ _ _ hA2 _;obtain ⟨_,_,_,_⟩:=zg hb2 (w.heap.size+1) w1.heap.size;clear hb2)
  | (go_at_call 83;refine wk w (cS _) ?_;intro w3 hb3 _ _ _ _ hA3 _;obtain ⟨_,_,_,_⟩:=zg hb3 (w.heap.size+1) w1.heap.size;clear hb3;have q0:w.heap.size<w3.heap.size+1+1:=(by omega);have q1:w.heap.size+1<w3.heap.size+1+1:=(by omega);have q2:w1.heap.size<w3.heap.size+1+1:=(by omega);have q3:w3.heap.size<w3.heap.size+1+1:=(by omega))
  | (go_at_call 66;refine (cN _).mono ?_;rintro r w5 ⟨gn,nn,cn,rfl,hg5,hn5,hb5⟩;have hgn:gn≠w3.heap.size:=(by first|omega|(simp at hg5;omega));clear hg5;obtain ⟨_,_,_,_,hA5,_⟩:=wz w hb5;obtain ⟨_,_,_,_,_,_⟩:=zh hb5 (w.heap.size+1) w1.heap.size w3.heap.size;clear hb5)
  | (go_at_call 93;refine (cR _ _ hn5).mono ?_;rintro r w6 ⟨gq,kq,cq,bq,rfl,hg6,hq6,hb6⟩;have hgq:gq≠w3.heap.size:=(by omega);clear hg6;obtain ⟨_,_,_,_,hA6,_⟩:=wz w hb6;obtain ⟨_,_,_,_,_,_⟩:=zh hb6 (w.heap.size+1) w1.heap.size w3.heap.size;clear hb6))
 go_region_with (first
  | (go_at_call 60;refine (cF _).mono ?_;rintro r w7 ⟨vf,rfl,hv7,hb7⟩;replace hb7:=zYc (w0:=w6) bgo hb7;have hq7:=NV.next hq6 hb7;obtain ⟨_,_,_,_,hA7,_⟩:=wz w hb7;obtain ⟨_,_,_,_,_,_⟩:=zh hb7 (w.heap.size+1) w1.heap.size w3.heap.size;clear hb7)
  | (go_at_call 90;refine (cL5 _ _ hv7.nv).mono ?_;rintro r w8 ⟨rfl,hb8⟩;have hq8:=hq7.next hb8;obtain ⟨_,_,_,_,hA8,_⟩:=wz w hb8;obtain ⟨_,_,_,_,_,_⟩:=zh hb8 (w.heap.size+1) w1.heap.size w3.heap.size;clear hb8;have k8_w3heapsize_0:w8.cell? ⟨w3.heap.size,0,none⟩=some (.int .u64 0):=(by go_simp);have k8_w3heapsize_1:w8.cell? ⟨w3.heap.size,1,none⟩=some (.int .u64 0):=(by go_simp);have k8_w3heapsize_2:w8.cell? ⟨w3.heap.size,2,none⟩=some (.int .u64 0):=(by go_simp);have k8_w3heapsize_3:w8.cell? ⟨w3.heap.size,3,none⟩=some (.int .u64 0):=(by go_simp);have f8_0:w8.frozen? ⟨w3.heap.size,0,none⟩=false:=(by go_simp);have f8_1:w8.frozen? ⟨w3.heap.size,1,none⟩=false:=(by go_simp);have f8_2:w8.frozen? ⟨w3.heap.size,2,none⟩=false:=(by go_simp);have f8_3:w8.frozen? ⟨w3.heap.size,3,none⟩=false:=(by go_simp)))
 go_wp2_with (first
  | (go_at_call 61;refine (cM _ _ (hq8.updV hgq (zEb _ _ R1))).mono ?_;rintro r w11 ⟨rfl,rfl⟩)
  | (go_at_call 90;refine wk w (cL6 _ _ (zXa (by simp) (by rfl) hFw)) ?_;intro w12 hb12 _ _ _ _ hA12 _;obtain ⟨_,_,_,_,_,_⟩:=zh hb12 (w.heap.size+1) w1.heap.size w3.heap.size;clear hb12))
 all_goals exact bodyPost_ret (v:=.tuple #[A4 R,.int .i64 0]) (by simp only [results,Tryz.results43];go_simp) rfl ⟨rfl,bgo⟩
theorem zS1 (R:Nat)(R1 rr Fw:Nat)
  (cO:∀ W,CB 20 #[.int .i64 n] W (.tuple #[zYa n nm wd pr ex le mo pa false,.int .i64 0]))
  (cI:∀ W,CB 89 #[zYa n nm wd pr ex le mo pa false,DV 1 false false x k] W (.bool true))
  (cS:∀ W,CB 83 #[zYa n nm wd pr ex le mo pa false] W (.tuple #[.int .i64 G,.int .i64 T,.int .i64 J]))
  (cR:∀ W vn,NT 4 k vn W->Calls Tryz.prog 93 #[vn,.int .i64 T] W fun r w'=>∃ g k cap b,r=.returned (.tuple #[.slice (some ⟨g,0,none⟩) k cap,.bool b])/\W.heap.size<=g/\NV 4 a (.slice (some ⟨g,0,none⟩) k cap) w'/\Below W.heap.size W w')
  (cF:∀ W,CE 60 #[A4 k,.int .i64 0,.int .i64 T] W (NT 19 rr))
  (cM:∀ W v,NV 4 a v W->CQ 61 #[v] W (.int .i64 (a:Int)))
  (cL5:∀ W v,NV 19 rr v W->CB 90 #[Z4,v,.int .i64 0] W (A4 R1))
  (ho1:bits .or .u64 (E*8) (a:Int)=(Fw:Int))
  (h8:¬ (8:Int)<=(a:Int))
  (hFw:Fw<18446744073709551616)
  (cL6:∀ W v,NV 1 Fw v W->CB 90 #[A4 R1,v,.int .i64 T] W (A4 R)) :
  CB 43 #[.int .i64 n,DV 1 false false x k] w (.tuple #[A4 R,.int .i64 0]):=by
 have hsm:=zAa
 unfold DV A4 Z4 at *
 go_enter Tryz.func43,Tryz.ntmps43
 go_wp2_with (first
  | (go_at_call 15;refine (cD _).mono ?_;rintro r w0 ⟨rfl,rfl⟩)
  | (go_at_call 20;refine wk w (cO _) ?_;intro w1 hb1 _ _ _ _ hA1 _;obtain ⟨_,_⟩:=zf hb1 (w.heap.size+1);clear hb1)
  | (go_at_call 89;refine wk w (cI _) ?_;intro w2 hb2 _ _ _ _ hA2 _;obtain ⟨_,_,_,_⟩:=zg hb2 (w.heap.size+1) w1.heap.size;clear hb2)
  | (go_at_call 83;refine wk w (cS _) ?_;intro w3 hb3 _ _ _ _ hA3 _;obtain ⟨_,_,_,_⟩:=zg hb3 (w.heap.size+1) w1.heap.size;clear hb3;have q0:w.heap.size<w3.heap.size+1+1:=(by omega);have q1:w.heap.size+1<w3.heap.size+1+1:=(by omega);have q2:w1.heap.size<w3.heap.size+1+1:=(by omega);have q3:w3.heap.size<w3.heap.size+1+1:=(by omega))
  | (go_at_call 66;refine (cN _).mono ?_;rintro r w5 ⟨gn,nn,cn,rfl,hg5,hn5,hb5⟩;have hgn:gn≠w3.heap.size:=(by first|omega|(simp at hg5;omega));clear hg5;obtain ⟨_,_,_,_,hA5,_⟩:=wz w hb5;obtain ⟨_,_,_,_,_,_⟩:=zh hb5 (w.heap.size+1) w1.heap.size w3.heap.size;clear hb5)
  | (go_at_call 93;refine (cR _ _ hn5).mono ?_;rintro r w6 ⟨gq,kq,cq,bq,rfl,hg6,hq6,hb6⟩;have hgq:gq≠w3.heap.size:=(by omega);clear hg6;obtain ⟨_,_,_,_,hA6,_⟩:=wz w hb6;obtain ⟨_,_,_,_,_,_⟩:=zh hb6 (w.heap.size+1) w1.heap.size w3.heap.size;clear hb6))
 go_region_with (first
  | (go_at_call 60;refine (cF _).mono ?_;rintro r w7 ⟨vf,rfl,hv7,hb7⟩;replace hb7:=zYc (w0:=w6) bgo hb7;have hq7:=NV.next hq6 hb7;obtain ⟨_,_,_,_,hA7,_⟩:=wz w hb7;obtain ⟨_,_,_,_,_,_⟩:=zh hb7 (w.heap.size+1) w1.heap.size w3.heap.size;clear hb7)
  | (go_at_call 90;refine (cL5 _ _ hv7.nv).mono ?_;rintro r w8 ⟨rfl,hb8⟩;have hq8:=hq7.next hb8;obtain ⟨_,_,_,_,hA8,_⟩:=wz w hb8;obtain ⟨_,_,_,_,_,_⟩:=zh hb8 (w.heap.size+1) w1.heap.size w3.heap.size;clear hb8;have k8_w3heapsize_0:w8.cell? ⟨w3.heap.size,0,none⟩=some (.int .u64 0):=(by go_simp);have k8_w3heapsize_1:w8.cell? ⟨w3.heap.size,1,none⟩=some (.int .u64 0):=(by go_simp);have k8_w3heapsize_2:w8.cell? ⟨w3.heap.size,2,none⟩=some (.int .u64 0):=(by go_simp);have k8_w3heapsize_3:w8.cell? ⟨w3.heap.size,3,none⟩=some (.int .u64 0):=(by go_simp);have f8_0:w8.frozen? ⟨w3.heap.size,0,none⟩=false:=(by go_simp);have f8_1:w8.frozen? ⟨w3.heap.size,1,none⟩=false:=(by go_simp);have f8_2:w8.frozen? ⟨w3.heap.size,2,none⟩=false:=(by go_simp);have f8_3:w8.frozen? ⟨w3.heap.size,3,none⟩=false:=(by go_simp)))
 go_wp2_with (first
  | (go_at_call 61;refine (cM _ _ (hq8.updV hgq (zEb _ _ R1))).mono ?_;rintro r w11 ⟨rfl,rfl⟩)
  | (go_at_call 90;refine wk w (cL6 _ _ (zXa (by simp) (by rfl) hFw)) ?_;intro w12 hb12 _ _ _ _ hA12 _;obtain ⟨_,_,_,_,_,_⟩:=zh hb12 (w.heap.size+1) w1.heap.size w3.heap.size;clear hb12))
 all_goals exact bodyPost_ret (v:=.tuple #[A4 R,.int .i64 0]) (by simp only [results,Tryz.results43];go_simp) rfl ⟨rfl,bgo⟩
end
end
end Go.Proofs.YtahfkpjhlbiamaaGreatDoor
