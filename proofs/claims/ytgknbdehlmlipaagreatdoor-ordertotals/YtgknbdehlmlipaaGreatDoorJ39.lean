/-
  Texts that the proof leans on.
-/
import Derived.Test.YtgknbdehlmlipaaGreatDoorJ37
import Derived.Test.YtgknbdehlmlipaaGreatDoorJ23
import Derived.Test.YtgknbdehlmlipaaGreatDoorJ2
import Derived.Test.YtgknbdehlmlipaaGreatDoorJ38
import Derived.Test.YtgknbdehlmlipaaGreatDoorJ7
import Derived.Test.YtgknbdehlmlipaaGreatDoorJ25
set_option maxHeartbeats 8000000
set_option linter.unusedVariables false
set_option linter.unusedSectionVars false
set_option linter.unusedSimpArgs false
set_option maxRecDepth 20000
namespace Go.Proofs.YtgknbdehlmlipaaGreatDoor
open Go.RowKit
section
attribute [local irreducible] W4 NT NV
section
variable (n:Int)(nm:ByteArray)(wd pr ex le mo pa:Int)(G T J:Int)(x:Int)(k S:Nat)(w:World)
 (cD:∀ W,CQ 60 #[.int .i64 n] W (.bool true))
 (hG0:11<=G) (hG1:G<=100) (hT0:0<=T) (hT1:T<=200) (hJ0:0<=J) (hJ1:J<=11)
 (cN:∀ W,Calls Tryz.prog 48 #[A4 k] W fun r w'=>∃ g n cap,r=.returned (.slice (some ⟨g,0,none⟩) n cap)/\W.heap.size<g/\NT 4 k (.slice (some ⟨g,0,none⟩) n cap) w'/\Below W.heap.size W w')
include cD hG0 hG1 hT0 hT1 hJ0 hJ1 cN
variable (E:Int)(wn a:Nat)(Q H L:Int)(hx:x-le=E)(hE0:0<=E)(hE1:E<=20000)(hx0:-30000<=x)(hx1:x<=30000)(hl0:-30000<=le)(hl1:le<=30000)(hw:G-5=(wn:Int))(hwn:wn<=12)(hH:(2:Int)^wn=H)(hH0:1<=H)(hH1:H<=4096)(ha:a<=9)
include hx hE0 hE1 hx0 hx1 hl0 hl1 hw hwn hH hH0 hH1 ha
theorem vpk1_tpb (R:Nat)(R1 rr Fw:Nat)(V0 V1 V2 H8:Int)
  (cO:∀ W,CB 20 #[.int .i64 n] W (.tuple #[IDec n nm wd pr ex le mo pa false,.int .i64 0]))
  (cI:∀ W,CB 61 #[IDec n nm wd pr ex le mo pa false,DV 1 true false x k] W (.bool true))
  (cS:∀ W,CB 62 #[IDec n nm wd pr ex le mo pa false] W (.tuple #[.int .i64 G,.int .i64 T,.int .i64 J]))
  (cL1:∀ W v,NV 1 1 v W->CB 63 #[Z4,v,.int .i64 (T+G)] W (A4 S))
  (cR:∀ W vn,NT 4 k vn W->Calls Tryz.prog 49 #[vn,.int .i64 T] W fun r w'=>∃ g k cap b,r=.returned (.tuple #[.slice (some ⟨g,0,none⟩) k cap,.bool b])/\W.heap.size<=g/\NV 4 a (.slice (some ⟨g,0,none⟩) k cap) w'/\Below W.heap.size W w')
  (cF:∀ W,CE 52 #[A4 k,.int .i64 0,.int .i64 T] W (NT 19 rr))
  (cM:∀ W v,NV 4 a v W->CQ 53 #[v] W (.int .i64 (a:Int)))
  (cL5:∀ W v,NV 19 rr v W->CB 63 #[A4 S,v,.int .i64 0] W (A4 R1))
  (ho1:bits .or .u64 (E*8) (a:Int)=V0)
  (h8:(8:Int)<=(a:Int)) (hw3:(2:Int)^(wn+3)=H8) (hH8:1<=H8) (hH9:H8<=40000) (ho2:bits .or .u64 (3*H8) (E*2)=V1) (ho3:bits .and .u64 (a:Int) 1=V2) (ho4:bits .or .u64 V1 V2=(Fw:Int))
  (hFw:Fw<18446744073709551616)
  (cL6:∀ W v,NV 1 Fw v W->CB 63 #[A4 R1,v,.int .i64 T] W (A4 R)) :
  CB 27 #[.int .i64 n,DV 1 true false x k] w (.tuple #[A4 R,.int .i64 0]):=by
 have hsm:=cell_set_map
 unfold DV A4 Z4 at *
 go_enter Tryz.func27,Tryz.ntmps27
 go_wp2_with (first
  | (go_at_call 60;refine (cD _).mono ?_;rintro r w0 ⟨rfl,rfl⟩)
  | (go_at_call 20;refine (cO _).mono ?_;rintro r w1 ⟨rfl,hb1⟩;obtain ⟨_,_,_,_,hA1,_⟩:=wz w hb1;obtain ⟨_,_⟩:=zf hb1 (w.heap.size+1);clear hb1)
  | (go_at_call 61;refine (cI _).mono ?_;rintro r w2 ⟨rfl,hb2⟩;obtain ⟨_,_,_,_,hA2,_⟩:=wz w hb2;obtain ⟨_,_⟩:=zf hb2 (w.heap.size+1);obtain ⟨_,_⟩:=zf hb2 w1.heap.size;clear hb2)
  | (go_at_call 62;refine (cS _).mono ?_;rintro r w3 ⟨rfl,hb3⟩;obtain ⟨_,_,_,_,hA3,_⟩:=wz w hb3;obtain ⟨_,_⟩:=zf hb3 (w.heap.size+1);obtain ⟨_,_⟩:=zf hb3 w1.heap.size;clear hb3;have q0:w.heap.size<w3.heap.size+1+1:=(by omega);have q1:w.heap.size+1<w3.heap.size+1+1:=(by omega);have q2:w1.heap.size<w3.heap.size+1+1:=(by omega);have q3:w3.heap.size<w3.heap.size+1+1:=(by omega))
  | (go_at_call 63;refine (cL1 _ _ (nv_dec (by simp) (by rfl) (by decide))).mono ?_;rintro r w4 ⟨rfl,hb4⟩;clear cL1;obtain ⟨_,_,_,_,hA4,_⟩:=wz w hb4;obtain ⟨_,_⟩:=zf hb4 (w.heap.size+1);obtain ⟨_,_⟩:=zf hb4 w1.heap.size;obtain ⟨_,_⟩:=zf hb4 w3.heap.size;clear hb4)
  | (go_at_call 48;refine (cN _).mono ?_;rintro r w5 ⟨gn,nn,cn,rfl,hg5,hn5,hb5⟩;have hgn:gn≠w3.heap.size:=(by first|omega|(simp at hg5;omega));clear hg5;obtain ⟨_,_,_,_,hA5,_⟩:=wz w hb5;obtain ⟨_,_⟩:=zf hb5 (w.heap.size+1);obtain ⟨_,_⟩:=zf hb5 w1.heap.size;obtain ⟨_,_⟩:=zf hb5 w3.heap.size;clear hb5)
  | (go_at_call 49;refine (cR _ _ hn5).mono ?_;rintro r w6 ⟨gq,kq,cq,bq,rfl,hg6,hq6,hb6⟩;have hgq:gq≠w3.heap.size:=(by omega);clear hg6;obtain ⟨_,_,_,_,hA6,_⟩:=wz w hb6;obtain ⟨_,_⟩:=zf hb6 (w.heap.size+1);obtain ⟨_,_⟩:=zf hb6 w1.heap.size;obtain ⟨_,_⟩:=zf hb6 w3.heap.size;clear hb6))
 go_region_with (first
  | (go_at_call 52;refine (cF _).mono ?_;rintro r w7 ⟨vf,rfl,hv7,hb7⟩;replace hb7:=bnext (w0:=w6) bgo hb7;have hq7:=NV.next hq6 hb7;obtain ⟨_,_,_,_,hA7,_⟩:=wz w hb7;obtain ⟨_,_⟩:=zf hb7 (w.heap.size+1);obtain ⟨_,_⟩:=zf hb7 w1.heap.size;obtain ⟨_,_⟩:=zf hb7 w3.heap.size;clear hb7)
  | (go_at_call 63;refine (cL5 _ _ hv7.nv).mono ?_;rintro r w8 ⟨rfl,hb8⟩;have hq8:=hq7.next hb8;obtain ⟨_,_,_,_,hA8,_⟩:=wz w hb8;obtain ⟨_,_⟩:=zf hb8 (w.heap.size+1);obtain ⟨_,_⟩:=zf hb8 w1.heap.size;obtain ⟨_,_⟩:=zf hb8 w3.heap.size;clear hb8;have k8_w3heapsize_0:w8.cell? ⟨w3.heap.size,0,none⟩=some (.int .u64 (W4 S 0)):=(by go_simp);have k8_w3heapsize_1:w8.cell? ⟨w3.heap.size,1,none⟩=some (.int .u64 (W4 S 1)):=(by go_simp);have k8_w3heapsize_2:w8.cell? ⟨w3.heap.size,2,none⟩=some (.int .u64 (W4 S 2)):=(by go_simp);have k8_w3heapsize_3:w8.cell? ⟨w3.heap.size,3,none⟩=some (.int .u64 (W4 S 3)):=(by go_simp);have f8_0:w8.frozen? ⟨w3.heap.size,0,none⟩=false:=(by go_simp);have f8_1:w8.frozen? ⟨w3.heap.size,1,none⟩=false:=(by go_simp);have f8_2:w8.frozen? ⟨w3.heap.size,2,none⟩=false:=(by go_simp);have f8_3:w8.frozen? ⟨w3.heap.size,3,none⟩=false:=(by go_simp)))
 go_wp2_with (first
  | (go_at_call 53;refine (cM _ _ (hq8.updV hgq (put4C_upd _ _ R1))).mono ?_;rintro r w11 ⟨rfl,rfl⟩)
  | (go_at_call 63;refine (cL6 _ _ (nv_dec (by simp) (by rfl) hFw)).mono ?_;rintro r w12 ⟨rfl,hb12⟩;obtain ⟨_,_,_,_,hA12,_⟩:=wz w hb12;obtain ⟨_,_⟩:=zf hb12 (w.heap.size+1);obtain ⟨_,_⟩:=zf hb12 w1.heap.size;obtain ⟨_,_⟩:=zf hb12 w3.heap.size;clear hb12))
 all_goals exact bodyPost_ret (v:=.tuple #[A4 R,.int .i64 0]) (by simp only [results,Tryz.results27];go_simp) rfl ⟨rfl,bgo⟩
theorem vpk1_tps (R:Nat)(R1 rr Fw:Nat)
  (cO:∀ W,CB 20 #[.int .i64 n] W (.tuple #[IDec n nm wd pr ex le mo pa false,.int .i64 0]))
  (cI:∀ W,CB 61 #[IDec n nm wd pr ex le mo pa false,DV 1 true false x k] W (.bool true))
  (cS:∀ W,CB 62 #[IDec n nm wd pr ex le mo pa false] W (.tuple #[.int .i64 G,.int .i64 T,.int .i64 J]))
  (cL1:∀ W v,NV 1 1 v W->CB 63 #[Z4,v,.int .i64 (T+G)] W (A4 S))
  (cR:∀ W vn,NT 4 k vn W->Calls Tryz.prog 49 #[vn,.int .i64 T] W fun r w'=>∃ g k cap b,r=.returned (.tuple #[.slice (some ⟨g,0,none⟩) k cap,.bool b])/\W.heap.size<=g/\NV 4 a (.slice (some ⟨g,0,none⟩) k cap) w'/\Below W.heap.size W w')
  (cF:∀ W,CE 52 #[A4 k,.int .i64 0,.int .i64 T] W (NT 19 rr))
  (cM:∀ W v,NV 4 a v W->CQ 53 #[v] W (.int .i64 (a:Int)))
  (cL5:∀ W v,NV 19 rr v W->CB 63 #[A4 S,v,.int .i64 0] W (A4 R1))
  (ho1:bits .or .u64 (E*8) (a:Int)=(Fw:Int))
  (h8:¬ (8:Int)<=(a:Int))
  (hFw:Fw<18446744073709551616)
  (cL6:∀ W v,NV 1 Fw v W->CB 63 #[A4 R1,v,.int .i64 T] W (A4 R)) :
  CB 27 #[.int .i64 n,DV 1 true false x k] w (.tuple #[A4 R,.int .i64 0]):=by
 have hsm:=cell_set_map
 unfold DV A4 Z4 at *
 go_enter Tryz.func27,Tryz.ntmps27
 go_wp2_with (first
  | (go_at_call 60;refine (cD _).mono ?_;rintro r w0 ⟨rfl,rfl⟩)
  | (go_at_call 20;refine (cO _).mono ?_;rintro r w1 ⟨rfl,hb1⟩;obtain ⟨_,_,_,_,hA1,_⟩:=wz w hb1;obtain ⟨_,_⟩:=zf hb1 (w.heap.size+1);clear hb1)
  | (go_at_call 61;refine (cI _).mono ?_;rintro r w2 ⟨rfl,hb2⟩;obtain ⟨_,_,_,_,hA2,_⟩:=wz w hb2;obtain ⟨_,_⟩:=zf hb2 (w.heap.size+1);obtain ⟨_,_⟩:=zf hb2 w1.heap.size;clear hb2)
  | (go_at_call 62;refine (cS _).mono ?_;rintro r w3 ⟨rfl,hb3⟩;obtain ⟨_,_,_,_,hA3,_⟩:=wz w hb3;obtain ⟨_,_⟩:=zf hb3 (w.heap.size+1);obtain ⟨_,_⟩:=zf hb3 w1.heap.size;clear hb3;have q0:w.heap.size<w3.heap.size+1+1:=(by omega);have q1:w.heap.size+1<w3.heap.size+1+1:=(by omega);have q2:w1.heap.size<w3.heap.size+1+1:=(by omega);have q3:w3.heap.size<w3.heap.size+1+1:=(by omega))
  | (go_at_call 63;refine (cL1 _ _ (nv_dec (by simp) (by rfl) (by decide))).mono ?_;rintro r w4 ⟨rfl,hb4⟩;clear cL1;obtain ⟨_,_,_,_,hA4,_⟩:=wz w hb4;obtain ⟨_,_⟩:=zf hb4 (w.heap.size+1);obtain ⟨_,_⟩:=zf hb4 w1.heap.size;obtain ⟨_,_⟩:=zf hb4 w3.heap.size;clear hb4)
  | (go_at_call 48;refine (cN _).mono ?_;rintro r w5 ⟨gn,nn,cn,rfl,hg5,hn5,hb5⟩;have hgn:gn≠w3.heap.size:=(by first|omega|(simp at hg5;omega));clear hg5;obtain ⟨_,_,_,_,hA5,_⟩:=wz w hb5;obtain ⟨_,_⟩:=zf hb5 (w.heap.size+1);obtain ⟨_,_⟩:=zf hb5 w1.heap.size;obtain ⟨_,_⟩:=zf hb5 w3.heap.size;clear hb5)
  | (go_at_call 49;refine (cR _ _ hn5).mono ?_;rintro r w6 ⟨gq,kq,cq,bq,rfl,hg6,hq6,hb6⟩;have hgq:gq≠w3.heap.size:=(by omega);clear hg6;obtain ⟨_,_,_,_,hA6,_⟩:=wz w hb6;obtain ⟨_,_⟩:=zf hb6 (w.heap.size+1);obtain ⟨_,_⟩:=zf hb6 w1.heap.size;obtain ⟨_,_⟩:=zf hb6 w3.heap.size;clear hb6))
 go_region_with (first
  | (go_at_call 52;refine (cF _).mono ?_;rintro r w7 ⟨vf,rfl,hv7,hb7⟩;replace hb7:=bnext (w0:=w6) bgo hb7;have hq7:=NV.next hq6 hb7;obtain ⟨_,_,_,_,hA7,_⟩:=wz w hb7;obtain ⟨_,_⟩:=zf hb7 (w.heap.size+1);obtain ⟨_,_⟩:=zf hb7 w1.heap.size;obtain ⟨_,_⟩:=zf hb7 w3.heap.size;clear hb7)
  | (go_at_call 63;refine (cL5 _ _ hv7.nv).mono ?_;rintro r w8 ⟨rfl,hb8⟩;have hq8:=hq7.next hb8;obtain ⟨_,_,_,_,hA8,_⟩:=wz w hb8;obtain ⟨_,_⟩:=zf hb8 (w.heap.size+1);obtain ⟨_,_⟩:=zf hb8 w1.heap.size;obtain ⟨_,_⟩:=zf hb8 w3.heap.size;clear hb8;have k8_w3heapsize_0:w8.cell? ⟨w3.heap.size,0,none⟩=some (.int .u64 (W4 S 0)):=(by go_simp);have k8_w3heapsize_1:w8.cell? ⟨w3.heap.size,1,none⟩=some (.int .u64 (W4 S 1)):=(by go_simp);have k8_w3heapsize_2:w8.cell? ⟨w3.heap.size,2,none⟩=some (.int .u64 (W4 S 2)):=(by go_simp);have k8_w3heapsize_3:w8.cell? ⟨w3.heap.size,3,none⟩=some (.int .u64 (W4 S 3)):=(by go_simp);have f8_0:w8.frozen? ⟨w3.heap.size,0,none⟩=false:=(by go_simp);have f8_1:w8.frozen? ⟨w3.heap.size,1,none⟩=false:=(by go_simp);have f8_2:w8.frozen? ⟨w3.heap.size,2,none⟩=false:=(by go_simp);have f8_3:w8.frozen? ⟨w3.heap.size,3,none⟩=false:=(by go_simp)))
 go_wp2_with (first
  | (go_at_call 53;refine (cM _ _ (hq8.updV hgq (put4C_upd _ _ R1))).mono ?_;rintro r w11 ⟨rfl,rfl⟩)
  | (go_at_call 63;refine (cL6 _ _ (nv_dec (by simp) (by rfl) hFw)).mono ?_;rintro r w12 ⟨rfl,hb12⟩;obtain ⟨_,_,_,_,hA12,_⟩:=wz w hb12;obtain ⟨_,_⟩:=zf hb12 (w.heap.size+1);obtain ⟨_,_⟩:=zf hb12 w1.heap.size;obtain ⟨_,_⟩:=zf hb12 w3.heap.size;clear hb12))
 all_goals exact bodyPost_ret (v:=.tuple #[A4 R,.int .i64 0]) (by simp only [results,Tryz.results27];go_simp) rfl ⟨rfl,bgo⟩
theorem vpk1_fpb (R:Nat)(R1 rr Fw:Nat)(V0 V1 V2 H8:Int)
  (cO:∀ W,CB 20 #[.int .i64 n] W (.tuple #[IDec n nm wd pr ex le mo pa false,.int .i64 0]))
  (cI:∀ W,CB 61 #[IDec n nm wd pr ex le mo pa false,DV 1 false false x k] W (.bool true))
  (cS:∀ W,CB 62 #[IDec n nm wd pr ex le mo pa false] W (.tuple #[.int .i64 G,.int .i64 T,.int .i64 J]))
  (cR:∀ W vn,NT 4 k vn W->Calls Tryz.prog 49 #[vn,.int .i64 T] W fun r w'=>∃ g k cap b,r=.returned (.tuple #[.slice (some ⟨g,0,none⟩) k cap,.bool b])/\W.heap.size<=g/\NV 4 a (.slice (some ⟨g,0,none⟩) k cap) w'/\Below W.heap.size W w')
  (cF:∀ W,CE 52 #[A4 k,.int .i64 0,.int .i64 T] W (NT 19 rr))
  (cM:∀ W v,NV 4 a v W->CQ 53 #[v] W (.int .i64 (a:Int)))
  (cL5:∀ W v,NV 19 rr v W->CB 63 #[Z4,v,.int .i64 0] W (A4 R1))
  (ho1:bits .or .u64 (E*8) (a:Int)=V0)
  (h8:(8:Int)<=(a:Int)) (hw3:(2:Int)^(wn+3)=H8) (hH8:1<=H8) (hH9:H8<=40000) (ho2:bits .or .u64 (3*H8) (E*2)=V1) (ho3:bits .and .u64 (a:Int) 1=V2) (ho4:bits .or .u64 V1 V2=(Fw:Int))
  (hFw:Fw<18446744073709551616)
  (cL6:∀ W v,NV 1 Fw v W->CB 63 #[A4 R1,v,.int .i64 T] W (A4 R)) :
  CB 27 #[.int .i64 n,DV 1 false false x k] w (.tuple #[A4 R,.int .i64 0]):=by
 have hsm:=cell_set_map
 unfold DV A4 Z4 at *
 go_enter Tryz.func27,Tryz.ntmps27
 go_wp2_with (first
  | (go_at_call 60;refine (cD _).mono ?_;rintro r w0 ⟨rfl,rfl⟩)
  | (go_at_call 20;refine (cO _).mono ?_;rintro r w1 ⟨rfl,hb1⟩;obtain ⟨_,_,_,_,hA1,_⟩:=wz w hb1;obtain ⟨_,_⟩:=zf hb1 (w.heap.size+1);clear hb1)
  | (go_at_call 61;refine (cI _).mono ?_;rintro r w2 ⟨rfl,hb2⟩;obtain ⟨_,_,_,_,hA2,_⟩:=wz w hb2;obtain ⟨_,_⟩:=zf hb2 (w.heap.size+1);obtain ⟨_,_⟩:=zf hb2 w1.heap.size;clear hb2)
  | (go_at_call 62;refine (cS _).mono ?_;rintro r w3 ⟨rfl,hb3⟩;obtain ⟨_,_,_,_,hA3,_⟩:=wz w hb3;obtain ⟨_,_⟩:=zf hb3 (w.heap.size+1);obtain ⟨_,_⟩:=zf hb3 w1.heap.size;clear hb3;have q0:w.heap.size<w3.heap.size+1+1:=(by omega);have q1:w.heap.size+1<w3.heap.size+1+1:=(by omega);have q2:w1.heap.size<w3.heap.size+1+1:=(by omega);have q3:w3.heap.size<w3.heap.size+1+1:=(by omega))
  | (go_at_call 48;refine (cN _).mono ?_;rintro r w5 ⟨gn,nn,cn,rfl,hg5,hn5,hb5⟩;have hgn:gn≠w3.heap.size:=(by first|omega|(simp at hg5;omega));clear hg5;obtain ⟨_,_,_,_,hA5,_⟩:=wz w hb5;obtain ⟨_,_⟩:=zf hb5 (w.heap.size+1);obtain ⟨_,_⟩:=zf hb5 w1.heap.size;obtain ⟨_,_⟩:=zf hb5 w3.heap.size;clear hb5)
  | (go_at_call 49;refine (cR _ _ hn5).mono ?_;rintro r w6 ⟨gq,kq,cq,bq,rfl,hg6,hq6,hb6⟩;have hgq:gq≠w3.heap.size:=(by omega);clear hg6;obtain ⟨_,_,_,_,hA6,_⟩:=wz w hb6;obtain ⟨_,_⟩:=zf hb6 (w.heap.size+1);obtain ⟨_,_⟩:=zf hb6 w1.heap.size;obtain ⟨_,_⟩:=zf hb6 w3.heap.size;clear hb6))
 go_region_with (first
  | (go_at_call 52;refine (cF _).mono ?_;rintro r w7 ⟨vf,rfl,hv7,hb7⟩;replace hb7:=bnext (w0:=w6) bgo hb7;have hq7:=NV.next hq6 hb7;obtain ⟨_,_,_,_,hA7,_⟩:=wz w hb7;obtain ⟨_,_⟩:=zf hb7 (w.heap.size+1);obtain ⟨_,_⟩:=zf hb7 w1.heap.size;obtain ⟨_,_⟩:=zf hb7 w3.heap.size;clear hb7)
  | (go_at_call 63;refine (cL5 _ _ hv7.nv).mono ?_;rintro r w8 ⟨rfl,hb8⟩;have hq8:=hq7.next hb8;obtain ⟨_,_,_,_,hA8,_⟩:=wz w hb8;obtain ⟨_,_⟩:=zf hb8 (w.heap.size+1);obtain ⟨_,_⟩:=zf hb8 w1.heap.size;obtain ⟨_,_⟩:=zf hb8 w3.heap.size;clear hb8;have k8_w3heapsize_0:w8.cell? ⟨w3.heap.size,0,none⟩=some (.int .u64 0):=(by go_simp);have k8_w3heapsize_1:w8.cell? ⟨w3.heap.size,1,none⟩=some (.int .u64 0):=(by go_simp);have k8_w3heapsize_2:w8.cell? ⟨w3.heap.size,2,none⟩=some (.int .u64 0):=(by go_simp);have k8_w3heapsize_3:w8.cell? ⟨w3.heap.size,3,none⟩=some (.int .u64 0):=(by go_simp);have f8_0:w8.frozen? ⟨w3.heap.size,0,none⟩=false:=(by go_simp);have f8_1:w8.frozen? ⟨w3.heap.size,1,none⟩=false:=(by go_simp);have f8_2:w8.frozen? ⟨w3.heap.size,2,none⟩=false:=(by go_simp);have f8_3:w8.frozen? ⟨w3.heap.size,3,none⟩=false:=(by go_simp)))
 go_wp2_with (first
  | (go_at_call 53;refine (cM _ _ (hq8.updV hgq (put4C_upd _ _ R1))).mono ?_;rintro r w11 ⟨rfl,rfl⟩)
  | (go_at_call 63;refine (cL6 _ _ (nv_dec (by simp) (by rfl) hFw)).mono ?_;rintro r w12 ⟨rfl,hb12⟩;obtain ⟨_,_,_,_,hA12,_⟩:=wz w hb12;obtain ⟨_,_⟩:=zf hb12 (w.heap.size+1);obtain ⟨_,_⟩:=zf hb12 w1.heap.size;obtain ⟨_,_⟩:=zf hb12 w3.heap.size;clear hb12))
 all_goals exact bodyPost_ret (v:=.tuple #[A4 R,.int .i64 0]) (by simp only [results,Tryz.results27];go_simp) rfl ⟨rfl,bgo⟩
theorem vpk1_fps (R:Nat)(R1 rr Fw:Nat)
  (cO:∀ W,CB 20 #[.int .i64 n] W (.tuple #[IDec n nm wd pr ex le mo pa false,.int .i64 0]))
  (cI:∀ W,CB 61 #[IDec n nm wd pr ex le mo pa false,DV 1 false false x k] W (.bool true))
  (cS:∀ W,CB 62 #[IDec n nm wd pr ex le mo pa false] W (.tuple #[.int .i64 G,.int .i64 T,.int .i64 J]))
  (cR:∀ W vn,NT 4 k vn W->Calls Tryz.prog 49 #[vn,.int .i64 T] W fun r w'=>∃ g k cap b,r=.returned (.tuple #[.slice (some ⟨g,0,none⟩) k cap,.bool b])/\W.heap.size<=g/\NV 4 a (.slice (some ⟨g,0,none⟩) k cap) w'/\Below W.heap.size W w')
  (cF:∀ W,CE 52 #[A4 k,.int .i64 0,.int .i64 T] W (NT 19 rr))
  (cM:∀ W v,NV 4 a v W->CQ 53 #[v] W (.int .i64 (a:Int)))
  (cL5:∀ W v,NV 19 rr v W->CB 63 #[Z4,v,.int .i64 0] W (A4 R1))
  (ho1:bits .or .u64 (E*8) (a:Int)=(Fw:Int))
  (h8:¬ (8:Int)<=(a:Int))
  (hFw:Fw<18446744073709551616)
  (cL6:∀ W v,NV 1 Fw v W->CB 63 #[A4 R1,v,.int .i64 T] W (A4 R)) :
  CB 27 #[.int .i64 n,DV 1 false false x k] w (.tuple #[A4 R,.int .i64 0]):=by
 have hsm:=cell_set_map
 unfold DV A4 Z4 at *
 go_enter Tryz.func27,Tryz.ntmps27
 go_wp2_with (first
  | (go_at_call 60;refine (cD _).mono ?_;rintro r w0 ⟨rfl,rfl⟩)
  | (go_at_call 20;refine (cO _).mono ?_;rintro r w1 ⟨rfl,hb1⟩;obtain ⟨_,_,_,_,hA1,_⟩:=wz w hb1;obtain ⟨_,_⟩:=zf hb1 (w.heap.size+1);clear hb1)
  | (go_at_call 61;refine (cI _).mono ?_;rintro r w2 ⟨rfl,hb2⟩;obtain ⟨_,_,_,_,hA2,_⟩:=wz w hb2;obtain ⟨_,_⟩:=zf hb2 (w.heap.size+1);obtain ⟨_,_⟩:=zf hb2 w1.heap.size;clear hb2)
  | (go_at_call 62;refine (cS _).mono ?_;rintro r w3 ⟨rfl,hb3⟩;obtain ⟨_,_,_,_,hA3,_⟩:=wz w hb3;obtain ⟨_,_⟩:=zf hb3 (w.heap.size+1);obtain ⟨_,_⟩:=zf hb3 w1.heap.size;clear hb3;have q0:w.heap.size<w3.heap.size+1+1:=(by omega);have q1:w.heap.size+1<w3.heap.size+1+1:=(by omega);have q2:w1.heap.size<w3.heap.size+1+1:=(by omega);have q3:w3.heap.size<w3.heap.size+1+1:=(by omega))
  | (go_at_call 48;refine (cN _).mono ?_;rintro r w5 ⟨gn,nn,cn,rfl,hg5,hn5,hb5⟩;have hgn:gn≠w3.heap.size:=(by first|omega|(simp at hg5;omega));clear hg5;obtain ⟨_,_,_,_,hA5,_⟩:=wz w hb5;obtain ⟨_,_⟩:=zf hb5 (w.heap.size+1);obtain ⟨_,_⟩:=zf hb5 w1.heap.size;obtain ⟨_,_⟩:=zf hb5 w3.heap.size;clear hb5)
  | (go_at_call 49;refine (cR _ _ hn5).mono ?_;rintro r w6 ⟨gq,kq,cq,bq,rfl,hg6,hq6,hb6⟩;have hgq:gq≠w3.heap.size:=(by omega);clear hg6;obtain ⟨_,_,_,_,hA6,_⟩:=wz w hb6;obtain ⟨_,_⟩:=zf hb6 (w.heap.size+1);obtain ⟨_,_⟩:=zf hb6 w1.heap.size;obtain ⟨_,_⟩:=zf hb6 w3.heap.size;clear hb6))
 go_region_with (first
  | (go_at_call 52;refine (cF _).mono ?_;rintro r w7 ⟨vf,rfl,hv7,hb7⟩;replace hb7:=bnext (w0:=w6) bgo hb7;have hq7:=NV.next hq6 hb7;obtain ⟨_,_,_,_,hA7,_⟩:=wz w hb7;obtain ⟨_,_⟩:=zf hb7 (w.heap.size+1);obtain ⟨_,_⟩:=zf hb7 w1.heap.size;obtain ⟨_,_⟩:=zf hb7 w3.heap.size;clear hb7)
  | (go_at_call 63;refine (cL5 _ _ hv7.nv).mono ?_;rintro r w8 ⟨rfl,hb8⟩;have hq8:=hq7.next hb8;obtain ⟨_,_,_,_,hA8,_⟩:=wz w hb8;obtain ⟨_,_⟩:=zf hb8 (w.heap.size+1);obtain ⟨_,_⟩:=zf hb8 w1.heap.size;obtain ⟨_,_⟩:=zf hb8 w3.heap.size;clear hb8;have k8_w3heapsize_0:w8.cell? ⟨w3.heap.size,0,none⟩=some (.int .u64 0):=(by go_simp);have k8_w3heapsize_1:w8.cell? ⟨w3.heap.size,1,none⟩=some (.int .u64 0):=(by go_simp);have k8_w3heapsize_2:w8.cell? ⟨w3.heap.size,2,none⟩=some (.int .u64 0):=(by go_simp);have k8_w3heapsize_3:w8.cell? ⟨w3.heap.size,3,none⟩=some (.int .u64 0):=(by go_simp);have f8_0:w8.frozen? ⟨w3.heap.size,0,none⟩=false:=(by go_simp);have f8_1:w8.frozen? ⟨w3.heap.size,1,none⟩=false:=(by go_simp);have f8_2:w8.frozen? ⟨w3.heap.size,2,none⟩=false:=(by go_simp);have f8_3:w8.frozen? ⟨w3.heap.size,3,none⟩=false:=(by go_simp)))
 go_wp2_with (first
  | (go_at_call 53;refine (cM _ _ (hq8.updV hgq (put4C_upd _ _ R1))).mono ?_;rintro r w11 ⟨rfl,rfl⟩)
  | (go_at_call 63;refine (cL6 _ _ (nv_dec (by simp) (by rfl) hFw)).mono ?_;rintro r w12 ⟨rfl,hb12⟩;obtain ⟨_,_,_,_,hA12,_⟩:=wz w hb12;obtain ⟨_,_⟩:=zf hb12 (w.heap.size+1);obtain ⟨_,_⟩:=zf hb12 w1.heap.size;obtain ⟨_,_⟩:=zf hb12 w3.heap.size;clear hb12))
 all_goals exact bodyPost_ret (v:=.tuple #[A4 R,.int .i64 0]) (by simp only [results,Tryz.results27];go_simp) rfl ⟨rfl,bgo⟩
end
end
section
def vPV (n:Int)(d:Dat):Nat:=if decN n/\vI (fD n) d then vP (fD n) d else 0
def vPE (n:Int)(d:Dat):Int:=if decN n then (if vI (fD n) d then 0 else 3) else 1
theorem or_lay (y b r:Nat)(hb:b<2^r)(h:y*2^r+b<18446744073709551616):bits .or .u64 ((y*2^r:Nat):Int) (b:Int)=((y*2^r+b:Nat):Int):=by
 have e:=orW_eq ((y*2^r:Nat):Int) (b:Int) (by omega) (by omega)
 unfold orW at e
 rw [e,Int.toNat_natCast,Int.toNat_natCast,Nat.mul_comm y,← Nat.two_pow_add_eq_or_of_lt hb]
theorem and_lay (y r:Nat)(hr:r<64)(hy:y<18446744073709551616):bits .and .u64 (y:Int) ((2^r:Nat)-1:Int)=((y%2^r:Nat):Int):=by
 have e:=and_mask (y:=(y:Int)) (r:=r) (by omega) hr
 rw [← powCast] at e
 rw [e,Int.natCast_emod]
theorem lay_z (A at_ K:Nat)(v:Value)(w:World)(hK:K<900)(ha:at_<=600)(h:NV K A v w) :
  CB 63 #[Z4,v,.int .i64 at_] w (A4 (A*2^at_)):=by
 have:=lay_any 0 A at_ K v w (by decide) hK ha h
 rw [Z4_eq,Nat.zero_add] at this
 exact this
section
variable (n:Int)(C:Int)(s g:Bool)(x:Int)(k:Nat)(w:World)
theorem vpk_n (c35:∀ W,CQ 60 #[.int .i64 n] W (.bool false)) :
  CB 27 #[.int .i64 n,DV C s g x k] w (.tuple #[Z4,.int .i64 1]):=by
 have hsm:=cell_set_map
 go_enter Tryz.func27,Tryz.ntmps27
 go_wp2_with (go_at_call 60;refine (c35 _).mono ?_;rintro r w0 ⟨rfl,rfl⟩)
 exact bodyPost_ret (v:=.tuple #[Z4,.int .i64 1]) (by simp only [results,Tryz.results27];go_simp) rfl ⟨rfl,bgo⟩
theorem vpk_i (nm:ByteArray)(wd pr ex le mo pa:Int)(dn:Bool)
  (c35:∀ W,CQ 60 #[.int .i64 n] W (.bool true))
  (cO:∀ W,CB 20 #[.int .i64 n] W (.tuple #[IDec n nm wd pr ex le mo pa dn,.int .i64 0]))
  (cI:∀ W,CB 61 #[IDec n nm wd pr ex le mo pa dn,DV C s g x k] W (.bool false)) :
  CB 27 #[.int .i64 n,DV C s g x k] w (.tuple #[Z4,.int .i64 3]):=by
 have hsm:=cell_set_map
 go_enter Tryz.func27,Tryz.ntmps27
 go_wp2_with (first
  | (go_at_call 60;refine (c35 _).mono ?_;rintro r w0 ⟨rfl,rfl⟩)
  | (go_at_call 20;refine (cO _).mono ?_;rintro x w1 ⟨rfl,hb1⟩;obtain ⟨_,_,_,_,hA1,_⟩:=wz w hb1;obtain ⟨_,_⟩:=zf hb1 (w.heap.size+1);clear hb1)
  | (go_at_call 61;refine (cI _).mono ?_;rintro x w2 ⟨rfl,hb2⟩;obtain ⟨_,_,_,_,hA2,_⟩:=wz w hb2;obtain ⟨_,_⟩:=zf hb2 (w.heap.size+1);obtain ⟨_,_⟩:=zf hb2 w1.heap.size;clear hb2))
 exact bodyPost_ret (v:=.tuple #[Z4,.int .i64 3]) (by simp only [results,Tryz.results27];go_simp) rfl ⟨rfl,bgo⟩
end
structure VB (n:Int) (C:Int) (s g:Bool) (x:Int) (k:Nat):Prop where
 cD:∀ W,CQ 60 #[.int .i64 n] W (.bool true)
 cO:∀ W,CB 20 #[.int .i64 n] W (.tuple #[IDec n (nameN n) (((fD n).t+((fD n).w+6):Nat):Int) (3*((fD n).j:Int)+1) (expN n) (fD n).l ((fD n).l+3*2^(fD n).w-1) (3*((fD n).j:Int)) (fD n).dn,.int .i64 0])
 cI:∀ W,CB 61 #[IDec n (nameN n) (((fD n).t+((fD n).w+6):Nat):Int) (3*((fD n).j:Int)+1) (expN n) (fD n).l ((fD n).l+3*2^(fD n).w-1) (3*((fD n).j:Int)) (fD n).dn,DV C s g x k] W (.bool true)
 cS:∀ W,CB 62 #[IDec n (nameN n) (((fD n).t+((fD n).w+6):Nat):Int) (3*((fD n).j:Int)+1) (expN n) (fD n).l ((fD n).l+3*2^(fD n).w-1) (3*((fD n).j:Int)) (fD n).dn] W (.tuple #[.int .i64 (((fD n).w:Int)+5),.int .i64 ((fD n).t:Int),.int .i64 ((fD n).j:Int)])
 cN:∀ W,Calls Tryz.prog 48 #[A4 k] W fun r w'=>∃ g n cap,r=.returned (.slice (some ⟨g,0,none⟩) n cap)/\W.heap.size<g/\NT 4 k (.slice (some ⟨g,0,none⟩) n cap) w'/\Below W.heap.size W w'
theorem vb_of {n:Int}(h:decN n){d:Dat}(hk:d.k<2^256)(hi:vI (fD n) d):VB n d.c d.s d.g d.x d.k:=by
 refine ⟨fun W=>?_,fun W=>rof_dec h W,fun W=>?_,fun W=>dec_shape h _ _ _ _ _ _ W,fun W=>rnat13 _ W hk⟩
 ·have:=rdecimal_any n W
  rw [decide_eq_true h] at this
  exact this
 ·have:=ris14 (fD n) (fD_ok n) n (nameN n) (((fD n).t+((fD n).w+6):Nat):Int) (expN n) (fD n).dn d W hk
  rw [decide_eq_true hi] at this
  exact this
theorem ok_bounds {f:DF}(h:f.ok):6<=f.w/\f.w<=12/\20<=f.t/\f.t<=110/\2<=f.j/\f.j<=11/\f.t%64≠0/\-6176<=f.l/\f.l<=-101/\64<=2^f.w/\2^f.w<=4096:=by
 rcases h with ⟨h1,h2,h3,h4⟩|⟨h1,h2,h3,h4⟩|⟨h1,h2,h3,h4⟩<;>rw [h1,h2,h3,h4]<;>decide
theorem lay_to {B A at_ K R:Nat}{T:Int}{v:Value}{w:World}(hB:B<2^256)(hK:K<900)(ha:at_<=600)(h:NV K A v w)(hT:(at_:Int)=T)(hR:B+A*2^at_=R) :
  CB 63 #[A4 B,v,.int .i64 T] w (A4 R):=by
 subst hT hR
 exact lay_any B A at_ K v w hB hK ha h
theorem layz_to {A at_ K R:Nat}{T:Int}{v:Value}{w:World}(hK:K<900)(ha:at_<=600)(h:NV K A v w)(hT:(at_:Int)=T)(hR:A*2^at_=R) :
  CB 63 #[Z4,v,.int .i64 T] w (A4 R):=by
 subst hT hR
 exact lay_z A at_ K v w hK ha h
theorem p_200 {a:Nat}(h:a<=200):2^a<2^220:=Nat.pow_lt_pow_right (by decide) (by omega)
theorem vpk_inf {n:Int}(h:decN n){s:Bool}(w:World)(hi:vI (fD n) ⟨2,s,false,0,0⟩) :
  CB 27 #[.int .i64 n,DV 2 s false 0 0] w (.tuple #[A4 (vP (fD n) ⟨2,s,false,0,0⟩),.int .i64 0]):=by
 have B:=vb_of h (d:=⟨2,s,false,0,0⟩) (show (0:Nat)<2^256 by decide) hi
 obtain ⟨w6,w12,t20,t110,j2,j11,t64,l0,l1,H0,H1⟩:=ok_bounds (fD_ok n)
 have e:vP (fD n) ⟨2,s,false,0,0⟩=(if s then 2^((fD n).t+((fD n).w+5)) else 0)+30*2^((fD n).t+(fD n).w):=by
  unfold vP vPG vPR
  simp only [if_true,Nat.add_zero]
  rw [Nat.mul_assoc,← Nat.pow_add,Nat.add_comm (fD n).w (fD n).t]
 rw [e]
 have p1:=p_200 (a:=(fD n).t+((fD n).w+5)) (by omega)
 have p2:(2:Nat)^220<2^256:=by decide
 cases s
 ·exact vpk2_f n _ _ _ _ _ _ _ _ _ _ 0 0 w B.cD (by omega) (by omega) (by omega) (by omega) (by omega) (by omega) B.cN _ false _ B.cO B.cI B.cS (fun W v hv=>layz_to (at_:=(fD n).t+(fD n).w) (by decide) (by omega) hv (by omega) (by simp))
 ·exact vpk2_t n _ _ _ _ _ _ _ _ _ _ 0 0 (2^((fD n).t+((fD n).w+5))) w B.cD (by omega) (by omega) (by omega) (by omega) (by omega) (by omega) B.cN _ false _ B.cO B.cI B.cS (fun W v hv=>layz_to (at_:=(fD n).t+((fD n).w+5)) (by decide) (by omega) hv (by omega) (by omega)) (fun W v hv=>lay_to (at_:=(fD n).t+(fD n).w) (by omega) (by decide) (by omega) hv (by omega) (by simp))
theorem vpk_nan {n:Int}(h:decN n){s g:Bool}{k:Nat}(w:World)(hk:k<10^(3*(fD n).j)) :
  CB 27 #[.int .i64 n,DV 3 s g 0 k] w (.tuple #[A4 (vP (fD n) ⟨3,s,g,0,k⟩),.int .i64 0]):=by
 have ho:=fD_ok n
 obtain ⟨w6,w12,t20,t110,j2,j11,t64,l0,l1,H0,H1⟩:=ok_bounds ho
 have p2:(2:Nat)^220<2^256:=by decide
 have hk2:k<2^(fD n).t:=by
  refine Nat.lt_of_lt_of_le hk ?_
  rcases ho with ⟨h1,h2,h3,h4⟩|⟨h1,h2,h3,h4⟩|⟨h1,h2,h3,h4⟩<;>rw [h1,h3]<;>decide
 have pt:=p_200 (a:=(fD n).t) (by omega)
 have p1:=p_200 (a:=(fD n).t+((fD n).w+5)) (by omega)
 have x5:2^((fD n).t+((fD n).w+5))=32*2^((fD n).t+(fD n).w):=by rw [← Nat.add_assoc,Nat.pow_add,Nat.mul_comm]
 have x0:2^((fD n).t+(fD n).w)=2*2^((fD n).t+(fD n).w-1):=by rw [← Nat.pow_succ'];congr 1;omega
 have hpl:dlP (fD n).j k<2^(fD n).t:=by rw [ho.pt];exact dlP_lt _ _
 have hp:dlP (fD n).j k<2^256:=by omega
 have B:=vb_of h (d:=⟨3,s,g,0,k⟩) (show k<2^256 by omega) (Or.inr (Or.inr ⟨rfl,rfl,hk⟩))
 have cP:∀ W,CB 64 #[A4 k,.int .i64 ((fD n).j:Int)] W (.tuple #[A4 (dlP (fD n).j k),.int .i64 0]):=fun W=>by
  have:=rpck_any k ((fD n).j:Int) W (by omega)
  have c1:(0:Int)<=((fD n).j:Int)/\((fD n).j:Int)<=11:=by omega
  rw [ten3] at hk
  unfold dPv dPe at this
  rw [if_pos c1,if_pos c1,Int.toNat_natCast,if_pos hk,if_pos hk] at this
  exact this
 have e:vP (fD n) ⟨3,s,g,0,k⟩=(if s then 2^((fD n).t+((fD n).w+5)) else 0)+31*2^((fD n).t+(fD n).w)+(if g then 2^((fD n).t+(fD n).w-1) else 0)+(if (fD n).dn then dlP (fD n).j k else k):=by
  unfold vP vPG vPR
  simp only [show ¬ (3:Int)=2 by decide,if_false,if_true]
  rw [Nat.add_mul,Nat.mul_assoc,← Nat.pow_add,Nat.add_comm (fD n).w (fD n).t]
  have e2:(if g then 2^((fD n).w-1) else 0)*2^(fD n).t=(if g then 2^((fD n).t+(fD n).w-1) else 0):=by
   cases g
   ·simp
   ·simp only [if_true]
    rw [← Nat.pow_add];congr 1;omega
  rw [e2]
  simp only [Nat.add_assoc]
 rw [e]
 have cO:=B.cO
 have cI:=B.cI
 have cS:=B.cS
 cases hdn:(fD n).dn<;>rw [hdn] at cO cI cS<;>cases s<;>cases g<;>simp only [Bool.false_eq_true,if_false,if_true,Nat.zero_add,Nat.add_zero]
 ·exact vpk3_fff n _ _ _ _ _ _ _ _ _ _ 0 k w B.cD (by omega) (by omega) (by omega) (by omega) (by omega) (by omega) B.cN _ (31*2^((fD n).t+(fD n).w)) cO cI cS (fun W v hv=>layz_to (at_:=(fD n).t+(fD n).w) (by decide) (by omega) hv (by omega) rfl) (fun W v hv=>lay_to (at_:=0) (by omega) (by decide) (by omega) hv rfl (by omega))
 ·exact vpk3_ftf n _ _ _ _ _ _ _ _ _ _ 0 k w B.cD (by omega) (by omega) (by omega) (by omega) (by omega) (by omega) B.cN _ (31*2^((fD n).t+(fD n).w)) (31*2^((fD n).t+(fD n).w)+2^((fD n).t+(fD n).w-1)) cO cI cS (fun W v hv=>layz_to (at_:=(fD n).t+(fD n).w) (by decide) (by omega) hv (by omega) rfl) (fun W v hv=>lay_to (at_:=(fD n).t+(fD n).w-1) (by omega) (by decide) (by omega) hv (by omega) (by omega)) (fun W v hv=>lay_to (at_:=0) (by omega) (by decide) (by omega) hv rfl (by omega))
 ·exact vpk3_tff n _ _ _ _ _ _ _ _ _ _ 0 k (2^((fD n).t+((fD n).w+5))) w B.cD (by omega) (by omega) (by omega) (by omega) (by omega) (by omega) B.cN _ (2^((fD n).t+((fD n).w+5))+31*2^((fD n).t+(fD n).w)) cO cI cS (fun W v hv=>layz_to (at_:=(fD n).t+((fD n).w+5)) (by decide) (by omega) hv (by omega) (by omega)) (fun W v hv=>lay_to (at_:=(fD n).t+(fD n).w) (by omega) (by decide) (by omega) hv (by omega) rfl) (fun W v hv=>lay_to (at_:=0) (by omega) (by decide) (by omega) hv rfl (by omega))
 ·exact vpk3_ttf n _ _ _ _ _ _ _ _ _ _ 0 k (2^((fD n).t+((fD n).w+5))) w B.cD (by omega) (by omega) (by omega) (by omega) (by omega) (by omega) B.cN _ (2^((fD n).t+((fD n).w+5))+31*2^((fD n).t+(fD n).w)) (2^((fD n).t+((fD n).w+5))+31*2^((fD n).t+(fD n).w)+2^((fD n).t+(fD n).w-1)) cO cI cS (fun W v hv=>layz_to (at_:=(fD n).t+((fD n).w+5)) (by decide) (by omega) hv (by omega) (by omega)) (fun W v hv=>lay_to (at_:=(fD n).t+(fD n).w) (by omega) (by decide) (by omega) hv (by omega) rfl) (fun W v hv=>lay_to (at_:=(fD n).t+(fD n).w-1) (by omega) (by decide) (by omega) hv (by omega) (by omega)) (fun W v hv=>lay_to (at_:=0) (by omega) (by decide) (by omega) hv rfl (by omega))
 ·exact vpk3_fft n _ _ _ _ _ _ _ _ _ _ 0 k w B.cD (by omega) (by omega) (by omega) (by omega) (by omega) (by omega) B.cN _ (31*2^((fD n).t+(fD n).w)) (dlP (fD n).j k) cO cI cS (fun W v hv=>layz_to (at_:=(fD n).t+(fD n).w) (by decide) (by omega) hv (by omega) rfl) hp cP (fun W v hv=>lay_to (at_:=0) (by omega) (by decide) (by omega) hv rfl (by omega))
 ·exact vpk3_ftt n _ _ _ _ _ _ _ _ _ _ 0 k w B.cD (by omega) (by omega) (by omega) (by omega) (by omega) (by omega) B.cN _ (31*2^((fD n).t+(fD n).w)) (31*2^((fD n).t+(fD n).w)+2^((fD n).t+(fD n).w-1)) (dlP (fD n).j k) cO cI cS (fun W v hv=>layz_to (at_:=(fD n).t+(fD n).w) (by decide) (by omega) hv (by omega) rfl) (fun W v hv=>lay_to (at_:=(fD n).t+(fD n).w-1) (by omega) (by decide) (by omega) hv (by omega) (by omega)) hp cP (fun W v hv=>lay_to (at_:=0) (by omega) (by decide) (by omega) hv rfl (by omega))
 ·exact vpk3_tft n _ _ _ _ _ _ _ _ _ _ 0 k (2^((fD n).t+((fD n).w+5))) w B.cD (by omega) (by omega) (by omega) (by omega) (by omega) (by omega) B.cN _ (2^((fD n).t+((fD n).w+5))+31*2^((fD n).t+(fD n).w)) (dlP (fD n).j k) cO cI cS (fun W v hv=>layz_to (at_:=(fD n).t+((fD n).w+5)) (by decide) (by omega) hv (by omega) (by omega)) (fun W v hv=>lay_to (at_:=(fD n).t+(fD n).w) (by omega) (by decide) (by omega) hv (by omega) rfl) hp cP (fun W v hv=>lay_to (at_:=0) (by omega) (by decide) (by omega) hv rfl (by omega))
 ·exact vpk3_ttt n _ _ _ _ _ _ _ _ _ _ 0 k (2^((fD n).t+((fD n).w+5))) w B.cD (by omega) (by omega) (by omega) (by omega) (by omega) (by omega) B.cN _ (2^((fD n).t+((fD n).w+5))+31*2^((fD n).t+(fD n).w)) (2^((fD n).t+((fD n).w+5))+31*2^((fD n).t+(fD n).w)+2^((fD n).t+(fD n).w-1)) (dlP (fD n).j k) cO cI cS (fun W v hv=>layz_to (at_:=(fD n).t+((fD n).w+5)) (by decide) (by omega) hv (by omega) (by omega)) (fun W v hv=>lay_to (at_:=(fD n).t+(fD n).w) (by omega) (by decide) (by omega) hv (by omega) rfl) (fun W v hv=>lay_to (at_:=(fD n).t+(fD n).w-1) (by omega) (by decide) (by omega) hv (by omega) (by omega)) hp cP (fun W v hv=>lay_to (at_:=0) (by omega) (by decide) (by omega) hv rfl (by omega))
theorem vpk_dense {n:Int}(h:decN n)(hdn:(fD n).dn=true){s:Bool}{x:Int}{k:Nat}(w:World)(hk:k<10^(3*(fD n).j+1))(hx0:(fD n).l<=x)(hx1:x<=(fD n).l+3*2^(fD n).w-1) :
  CB 27 #[.int .i64 n,DV 1 s false x k] w (.tuple #[A4 (vP (fD n) ⟨1,s,false,x,k⟩),.int .i64 0]):=by
 have ho:=fD_ok n
 obtain ⟨w6,w12,t20,t110,j2,j11,t64,l0,l1,H0,H1⟩:=ok_bounds ho
 have hI:vI (fD n) ⟨1,s,false,x,k⟩:=Or.inl ⟨rfl,rfl,hk,hx0,hx1⟩
 have hPG:=vPG_lt ho hI
 have p2:(2:Nat)^220<2^256:=by decide
 have pt:=p_200 (a:=(fD n).t) (by omega)
 have p1:=p_200 (a:=(fD n).t+((fD n).w+5)) (by omega)
 have hk34:k<2^256:=by
  have e:(10:Nat)^(3*(fD n).j+1)<=10^34:=Nat.pow_le_pow_right (by decide) (by omega)
  have e2:(10:Nat)^34<2^256:=by decide
  omega
 have B:=vb_of h (d:=⟨1,s,false,x,k⟩) hk34 hI
 have cO:=B.cO
 have cI:=B.cI
 have cS:=B.cS
 rw [hdn] at cO cI cS
 have hD:0<(10:Nat)^(3*(fD n).j):=Nat.pow_pos (by decide)
 have ha:k/10^(3*(fD n).j)<=9:=by
  have:k/10^(3*(fD n).j)<10:=by
   rw [Nat.div_lt_iff_lt_mul hD,← Nat.pow_succ']
   exact hk
  omega
 have hr:k%10^(3*(fD n).j)<1000^(fD n).j:=by rw [← ten3];exact Nat.mod_lt _ hD
 have hpl:dlP (fD n).j (k%10^(3*(fD n).j))<2^(fD n).t:=by rw [ho.pt];exact dlP_lt _ _
 have e:vP (fD n) ⟨1,s,false,x,k⟩=(if s then 2^((fD n).t+((fD n).w+5)) else 0)+dlP (fD n).j (k%10^(3*(fD n).j))+vN true (fD n).w (x-(fD n).l).toNat (k/10^(3*(fD n).j))*2^(fD n).t:=by
  unfold vP vPG vPR vQ
  simp only [show ¬ (1:Int)=2 by decide,show ¬ (1:Int)=3 by decide,if_false,hdn,if_true]
  omega
 rw [e]
 have hrr:k%10^(3*(fD n).j)<2^256:=by have:=Nat.mod_le k (10^(3*(fD n).j));omega
 generalize hka:k/10^(3*(fD n).j)=a at *
 generalize hkr:k%10^(3*(fD n).j)=rr at *
 obtain ⟨E,hE⟩:∃ E:Nat,(x-(fD n).l).toNat=E:=⟨_,rfl⟩
 have hEx:x-(fD n).l=(E:Int):=by omega
 have hE3:E<3*2^(fD n).w:=by
  have e3:((3*2^(fD n).w:Nat):Int)=3*2^(fD n).w:=by simp
  omega
 rw [hE]
 have cW:∀ W,CE 26 #[.int .u64 10,.int .i64 (3*((fD n).j:Int))] W (NT 200 (10^(3*(fD n).j))):=fun W=>by
  have:=rpow_nt 10 (3*(fD n).j) W (by decide) (by decide) (by omega)
  rw [show ((3*(fD n).j:Nat):Int)=3*((fD n).j:Int) by omega] at this
  exact this.mono fun r w' ⟨v,e1,e2,e3⟩=>⟨v,e1,e2.more (by omega),e3⟩
 have cV:∀ W vn vd,NT 4 k vn W->NT 200 (10^(3*(fD n).j)) vd W->Calls Tryz.prog 65 #[vn,vd] W fun r w'=>∃ g k cap v,r=.returned (.tuple #[.slice (some ⟨g,0,none⟩) k cap,v])/\W.heap.size<=g/\NV 41000 a (.slice (some ⟨g,0,none⟩) k cap) w'/\NT 41000 rr v w'/\Below W.heap.size W w':=fun W vn vd h1 h2=>by
  have:=roverf_nt (K:=200) (by decide) (h1.more (by decide)) h2 (by omega)
  rw [hka,hkr] at this
  exact this
 have cP:∀ W,CB 64 #[A4 rr,.int .i64 ((fD n).j:Int)] W (.tuple #[A4 (dlP (fD n).j rr),.int .i64 0]):=fun W=>by
  have:=rpck_any rr ((fD n).j:Int) W hrr
  have c1:(0:Int)<=((fD n).j:Int)/\((fD n).j:Int)<=11:=by omega
  unfold dPv dPe at this
  rw [if_pos c1,if_pos c1,Int.toNat_natCast,if_pos hr,if_pos hr] at this
  exact this
 have cM:∀ W v,NV 41000 a v W->CQ 53 #[v] W (.int .i64 (a:Int)):=fun W v hv=>(number_wide hv (by decide) (by omega)).mono fun r w' ⟨e1,e2⟩=>⟨e1,e2.symm⟩
 have hp:dlP (fD n).j rr<2^256:=by omega
 have hQ2:E/2^(fD n).w<=2:=by
  have:E/2^(fD n).w<3:=by rw [Nat.div_lt_iff_lt_mul (Nat.two_pow_pos _)];exact hE3
  omega
 have hLt:E%2^(fD n).w<2^(fD n).w:=Nat.mod_lt _ (Nat.two_pow_pos _)
 have hH:(2:Int)^(fD n).w=((2^(fD n).w:Nat):Int):=(powCast _).symm
 have hL:=and_lay E (fD n).w (by omega) (by omega)
 have hQ:(E:Int)/((2^(fD n).w:Nat):Int)=((E/2^(fD n).w:Nat):Int):=by simp
 have hvn:vN true (fD n).w E a=(if 8<=a then 24+E/2^(fD n).w*2+a%2 else E/2^(fD n).w*8+a)*2^(fD n).w+E%2^(fD n).w:=rfl
 have x5:2^((fD n).t+((fD n).w+5))=32*(2^(fD n).w*2^(fD n).t):=by rw [← Nat.pow_add,show (32:Nat)=2^5 by decide,← Nat.pow_add];congr 1;omega
 have hS:(if s then 2^((fD n).t+((fD n).w+5)) else 0)<2^220:=by split<;>omega
 by_cases h8:8<=a
 ·rw [if_pos h8] at hvn
  have o2:=or_lay 3 (E/2^(fD n).w*2) 3 (by omega) (by omega)
  rw [show ((3*2^3:Nat):Int)=24 by decide,show ((E/2^(fD n).w*2:Nat):Int)=((E/2^(fD n).w:Nat):Int)*2 by omega] at o2
  have o3:bits .and .u64 (a:Int) 1=((a%2:Nat):Int):=and_lay a 1 (by decide) (by omega)
  have o4:=or_lay (12+E/2^(fD n).w) (a%2) 1 (by omega) (by omega)
  rw [show (((12+E/2^(fD n).w)*2^1:Nat):Int)=((3*2^3+E/2^(fD n).w*2:Nat):Int) by omega,show (12+E/2^(fD n).w)*2^1+a%2=24+E/2^(fD n).w*2+a%2 by omega] at o4
  generalize hV:24+E/2^(fD n).w*2+a%2=V at *
  have hV1:V<=31:=by omega
  have hVH:V*2^(fD n).w<=31*4096:=Nat.mul_le_mul hV1 H1
  have o5:=or_lay V (E%2^(fD n).w) (fD n).w hLt (by omega)
  rw [← hvn,Int.natCast_mul] at o5
  generalize hF:vN true (fD n).w E a=Fw at *
  cases s
  ·exact vpk1_fdb n _ _ _ _ _ _ _ _ _ _ x k w B.cD (by omega) (by omega) (by omega) (by omega) (by omega) (by omega) B.cN (E:Int) (fD n).w a _ _ _ hEx (by omega) (by omega) (by omega) (by omega) (by omega) (by omega) (by omega) w12 hH (by omega) (by omega) ha hQ (by omega) (by omega) hL _ (dlP (fD n).j rr) (dlP (fD n).j rr) 200 (10^(3*(fD n).j)) rr Fw _ _ _ _ cO cI cS hp cW cV (fun W v hv=>bits_nv hv.nv) cP cM (fun W v hv=>layz_to (at_:=0) (by decide) (by omega) hv rfl (by omega)) rfl (by omega) o2 o3 o4 (by omega) (by omega) (by rw [← Int.natCast_mul];omega) (by rw [← Int.natCast_mul];omega) o5 (by omega) (fun W v hv=>lay_to (at_:=(fD n).t) (by omega) (by decide) (by omega) hv rfl (by simp))
  ·exact vpk1_tdb n _ _ _ _ _ _ _ _ _ _ x k (2^((fD n).t+((fD n).w+5))) w B.cD (by omega) (by omega) (by omega) (by omega) (by omega) (by omega) B.cN (E:Int) (fD n).w a _ _ _ hEx (by omega) (by omega) (by omega) (by omega) (by omega) (by omega) (by omega) w12 hH (by omega) (by omega) ha hQ (by omega) (by omega) hL _ (2^((fD n).t+((fD n).w+5))+dlP (fD n).j rr) (dlP (fD n).j rr) 200 (10^(3*(fD n).j)) rr Fw _ _ _ _ cO cI cS (fun W v hv=>layz_to (at_:=(fD n).t+((fD n).w+5)) (by decide) (by omega) hv (by omega) (by omega)) hp cW cV (fun W v hv=>bits_nv hv.nv) cP cM (fun W v hv=>lay_to (at_:=0) (by omega) (by decide) (by omega) hv rfl (by omega)) rfl (by omega) o2 o3 o4 (by omega) (by omega) (by rw [← Int.natCast_mul];omega) (by rw [← Int.natCast_mul];omega) o5 (by omega) (fun W v hv=>lay_to (at_:=(fD n).t) (by simp only [if_true] at hS;omega) (by decide) (by omega) hv rfl (by simp))
 ·rw [if_neg h8] at hvn
  have o1:=or_lay (E/2^(fD n).w) a 3 (by omega) (by omega)
  rw [show ((E/2^(fD n).w*2^3:Nat):Int)=((E/2^(fD n).w:Nat):Int)*8 by omega,show E/2^(fD n).w*2^3+a=E/2^(fD n).w*8+a by omega] at o1
  generalize hV:E/2^(fD n).w*8+a=V at *
  have hV1:V<=31:=by omega
  have hVH:V*2^(fD n).w<=31*4096:=Nat.mul_le_mul hV1 H1
  have o5:=or_lay V (E%2^(fD n).w) (fD n).w hLt (by omega)
  rw [← hvn,Int.natCast_mul] at o5
  generalize hF:vN true (fD n).w E a=Fw at *
  cases s
  ·exact vpk1_fds n _ _ _ _ _ _ _ _ _ _ x k w B.cD (by omega) (by omega) (by omega) (by omega) (by omega) (by omega) B.cN (E:Int) (fD n).w a _ _ _ hEx (by omega) (by omega) (by omega) (by omega) (by omega) (by omega) (by omega) w12 hH (by omega) (by omega) ha hQ (by omega) (by omega) hL _ (dlP (fD n).j rr) (dlP (fD n).j rr) 200 (10^(3*(fD n).j)) rr Fw _ cO cI cS hp cW cV (fun W v hv=>bits_nv hv.nv) cP cM (fun W v hv=>layz_to (at_:=0) (by decide) (by omega) hv rfl (by omega)) o1 (by omega) (by omega) (by omega) (by rw [← Int.natCast_mul];omega) (by rw [← Int.natCast_mul];omega) o5 (by omega) (fun W v hv=>lay_to (at_:=(fD n).t) (by omega) (by decide) (by omega) hv rfl (by simp))
  ·exact vpk1_tds n _ _ _ _ _ _ _ _ _ _ x k (2^((fD n).t+((fD n).w+5))) w B.cD (by omega) (by omega) (by omega) (by omega) (by omega) (by omega) B.cN (E:Int) (fD n).w a _ _ _ hEx (by omega) (by omega) (by omega) (by omega) (by omega) (by omega) (by omega) w12 hH (by omega) (by omega) ha hQ (by omega) (by omega) hL _ (2^((fD n).t+((fD n).w+5))+dlP (fD n).j rr) (dlP (fD n).j rr) 200 (10^(3*(fD n).j)) rr Fw _ cO cI cS (fun W v hv=>layz_to (at_:=(fD n).t+((fD n).w+5)) (by decide) (by omega) hv (by omega) (by omega)) hp cW cV (fun W v hv=>bits_nv hv.nv) cP cM (fun W v hv=>lay_to (at_:=0) (by omega) (by decide) (by omega) hv rfl (by omega)) o1 (by omega) (by omega) (by omega) (by rw [← Int.natCast_mul];omega) (by rw [← Int.natCast_mul];omega) o5 (by omega) (fun W v hv=>lay_to (at_:=(fD n).t) (by simp only [if_true] at hS;omega) (by decide) (by omega) hv rfl (by simp))
theorem vpk_plain {n:Int}(h:decN n)(hdn:(fD n).dn=false){s:Bool}{x:Int}{k:Nat}(w:World)(hk:k<10^(3*(fD n).j+1))(hx0:(fD n).l<=x)(hx1:x<=(fD n).l+3*2^(fD n).w-1) :
  CB 27 #[.int .i64 n,DV 1 s false x k] w (.tuple #[A4 (vP (fD n) ⟨1,s,false,x,k⟩),.int .i64 0]):=by
 have ho:=fD_ok n
 obtain ⟨w6,w12,t20,t110,j2,j11,t64,l0,l1,H0,H1⟩:=ok_bounds ho
 have hI:vI (fD n) ⟨1,s,false,x,k⟩:=Or.inl ⟨rfl,rfl,hk,hx0,hx1⟩
 have p2:(2:Nat)^220<2^256:=by decide
 have pt:=p_200 (a:=(fD n).t) (by omega)
 have p1:=p_200 (a:=(fD n).t+((fD n).w+5)) (by omega)
 have hk34:k<2^256:=by
  have e:(10:Nat)^(3*(fD n).j+1)<=10^34:=Nat.pow_le_pow_right (by decide) (by omega)
  have e2:(10:Nat)^34<2^256:=by decide
  omega
 have B:=vb_of h (d:=⟨1,s,false,x,k⟩) hk34 hI
 have cO:=B.cO
 have cI:=B.cI
 have cS:=B.cS
 rw [hdn] at cO cI cS
 have ha:k/2^(fD n).t<=9:=by
  rcases ho with ⟨h1,h2,h3,h4⟩|⟨h1,h2,h3,h4⟩|⟨h1,h2,h3,h4⟩<;>rw [h3] at hk<;>rw [h1]<;>simp only [Nat.reducePow,Nat.reduceAdd,Nat.reduceMul] at*<;> omega
 have hrl:k%2^(fD n).t<2^(fD n).t:=Nat.mod_lt _ (Nat.two_pow_pos _)
 have e:vP (fD n) ⟨1,s,false,x,k⟩=(if s then 2^((fD n).t+((fD n).w+5)) else 0)+k%2^(fD n).t+vN false (fD n).w (x-(fD n).l).toNat (k/2^(fD n).t)*2^(fD n).t:=by
  unfold vP vPG vPR vQ
  simp only [show ¬ (1:Int)=2 by decide,show ¬ (1:Int)=3 by decide,if_false,hdn,Bool.false_eq_true]
  omega
 rw [e]
 have cR:∀ W vn,NT 4 k vn W->Calls Tryz.prog 49 #[vn,.int .i64 ((fD n).t:Int)] W fun r w'=>∃ g k' cap b,r=.returned (.tuple #[.slice (some ⟨g,0,none⟩) k' cap,.bool b])/\W.heap.size<=g/\NV 4 (k/2^(fD n).t) (.slice (some ⟨g,0,none⟩) k' cap) w'/\Below W.heap.size W w':=fun W vn hv=>rrightf_nv (fD n).t (by decide) (by omega) t64 hv.nv
 have cF:∀ W,CE 52 #[A4 k,.int .i64 0,.int .i64 ((fD n).t:Int)] W (NT 19 (k%2^(fD n).t)):=fun W=>by
  have:=field_any k 0 (fD n).t W hk34 (by decide) (by omega)
  rw [Nat.pow_zero,Nat.div_one] at this
  exact this
 generalize k/2^(fD n).t=a at *
 generalize k%2^(fD n).t=rr at *
 obtain ⟨E,hE⟩:∃ E:Nat,(x-(fD n).l).toNat=E:=⟨_,rfl⟩
 have hEx:x-(fD n).l=(E:Int):=by omega
 have hE3:E<3*2^(fD n).w:=by
  have e3:((3*2^(fD n).w:Nat):Int)=3*2^(fD n).w:=by simp
  omega
 rw [hE]
 have cM:∀ W v,NV 4 a v W->CQ 53 #[v] W (.int .i64 (a:Int)):=fun W v hv=>(number_wide hv (by decide) (by omega)).mono fun r w' ⟨e1,e2⟩=>⟨e1,e2.symm⟩
 have hH:(2:Int)^(fD n).w=((2^(fD n).w:Nat):Int):=(powCast _).symm
 have hvn:vN false (fD n).w E a=(if 8<=a then 3*2^((fD n).w+3)+E*2+a%2 else E*8+a):=rfl
 have hS:(if s then 2^((fD n).t+((fD n).w+5)) else 0)<2^220:=by split<;>omega
 have w3:2^((fD n).w+3)=8*2^(fD n).w:=by rw [Nat.pow_add,Nat.mul_comm]
 have w2:2^((fD n).w+2)=4*2^(fD n).w:=by rw [Nat.pow_add,Nat.mul_comm]
 by_cases h8:8<=a
 ·rw [if_pos h8] at hvn
  have o2:=or_lay 3 (E*2) ((fD n).w+3) (by omega) (by omega)
  rw [Int.natCast_mul 3,show ((E*2:Nat):Int)=(E:Int)*2 by omega] at o2
  have o3:bits .and .u64 (a:Int) 1=((a%2:Nat):Int):=and_lay a 1 (by decide) (by omega)
  have o4:=or_lay (3*2^((fD n).w+2)+E) (a%2) 1 (by omega) (by omega)
  rw [show (3*2^((fD n).w+2)+E)*2^1=3*2^((fD n).w+3)+E*2 by omega,← hvn] at o4
  have hH8:(2:Int)^((fD n).w+3)=((2^((fD n).w+3):Nat):Int):=(powCast _).symm
  generalize hF:vN false (fD n).w E a=Fw at *
  cases s
  ·exact vpk1_fpb n _ _ _ _ _ _ _ _ _ _ x k w B.cD (by omega) (by omega) (by omega) (by omega) (by omega) (by omega) B.cN (E:Int) (fD n).w a _ hEx (by omega) (by omega) (by omega) (by omega) (by omega) (by omega) (by omega) w12 hH (by omega) (by omega) ha _ rr rr Fw _ _ _ _ cO cI cS cR cF cM (fun W v hv=>layz_to (at_:=0) (by decide) (by omega) hv rfl (by omega)) rfl (by omega) hH8 (by omega) (by omega) o2 o3 o4 (by omega) (fun W v hv=>lay_to (at_:=(fD n).t) (by omega) (by decide) (by omega) hv rfl (by simp))
  ·exact vpk1_tpb n _ _ _ _ _ _ _ _ _ _ x k (2^((fD n).t+((fD n).w+5))) w B.cD (by omega) (by omega) (by omega) (by omega) (by omega) (by omega) B.cN (E:Int) (fD n).w a _ hEx (by omega) (by omega) (by omega) (by omega) (by omega) (by omega) (by omega) w12 hH (by omega) (by omega) ha _ (2^((fD n).t+((fD n).w+5))+rr) rr Fw _ _ _ _ cO cI cS (fun W v hv=>layz_to (at_:=(fD n).t+((fD n).w+5)) (by decide) (by omega) hv (by omega) (by omega)) cR cF cM (fun W v hv=>lay_to (at_:=0) (by omega) (by decide) (by omega) hv rfl (by omega)) rfl (by omega) hH8 (by omega) (by omega) o2 o3 o4 (by omega) (fun W v hv=>lay_to (at_:=(fD n).t) (by simp only [if_true] at hS;omega) (by decide) (by omega) hv rfl (by simp))
 ·rw [if_neg h8] at hvn
  have o1:=or_lay E a 3 (by omega) (by omega)
  rw [show ((E*2^3:Nat):Int)=(E:Int)*8 by omega,show E*2^3+a=E*8+a by omega,← hvn] at o1
  generalize hF:vN false (fD n).w E a=Fw at *
  cases s
  ·exact vpk1_fps n _ _ _ _ _ _ _ _ _ _ x k w B.cD (by omega) (by omega) (by omega) (by omega) (by omega) (by omega) B.cN (E:Int) (fD n).w a _ hEx (by omega) (by omega) (by omega) (by omega) (by omega) (by omega) (by omega) w12 hH (by omega) (by omega) ha _ rr rr Fw cO cI cS cR cF cM (fun W v hv=>layz_to (at_:=0) (by decide) (by omega) hv rfl (by omega)) o1 (by omega) (by omega) (fun W v hv=>lay_to (at_:=(fD n).t) (by omega) (by decide) (by omega) hv rfl (by simp))
  ·exact vpk1_tps n _ _ _ _ _ _ _ _ _ _ x k (2^((fD n).t+((fD n).w+5))) w B.cD (by omega) (by omega) (by omega) (by omega) (by omega) (by omega) B.cN (E:Int) (fD n).w a _ hEx (by omega) (by omega) (by omega) (by omega) (by omega) (by omega) (by omega) w12 hH (by omega) (by omega) ha _ (2^((fD n).t+((fD n).w+5))+rr) rr Fw cO cI cS (fun W v hv=>layz_to (at_:=(fD n).t+((fD n).w+5)) (by decide) (by omega) hv (by omega) (by omega)) cR cF cM (fun W v hv=>lay_to (at_:=0) (by omega) (by decide) (by omega) hv rfl (by omega)) o1 (by omega) (by omega) (fun W v hv=>lay_to (at_:=(fD n).t) (by simp only [if_true] at hS;omega) (by decide) (by omega) hv rfl (by simp))
theorem rpk14 (n:Int)(d:Dat)(w:World)(hk:d.k<2^256) :
  CB 27 #[.int .i64 n,d.v] w (.tuple #[A4 (vPV n d),.int .i64 (vPE n d)]):=by
 unfold vPV vPE
 by_cases h:decN n
 ·rw [if_pos h]
  by_cases hi:vI (fD n) d
  ·rw [if_pos ⟨h,hi⟩,if_pos hi]
   obtain ⟨c,s,g,x,k⟩:=d
   rcases id hi with ⟨c1,g1,k1,x1,x2⟩|⟨c1,g1,k1,x1⟩|⟨c1,x1,k1⟩
   ·simp only at c1 g1 k1 x1 x2
    subst c1 g1
    cases hdn:(fD n).dn
    ·exact vpk_plain h hdn w k1 x1 x2
    ·exact vpk_dense h hdn w k1 x1 x2
   ·simp only at c1 g1 k1 x1
    subst c1 g1 k1 x1
    exact vpk_inf h w hi
   ·simp only at c1 k1 x1
    subst c1 x1
    exact vpk_nan h w k1
  ·rw [if_neg (fun q=>hi q.2),if_neg hi,Z4_eq]
   refine vpk_i n d.c d.s d.g d.x d.k w (nameN n) _ _ (expN n) _ _ _ _ (fun W=>?_) (fun W=>rof_dec h W) (fun W=>?_)
   ·have:=rdecimal_any n W
    rw [decide_eq_true h] at this
    exact this
   ·have:=ris14 (fD n) (fD_ok n) n (nameN n) (((fD n).t+((fD n).w+6):Nat):Int) (expN n) (fD n).dn d W hk
    rw [decide_eq_false hi] at this
    exact this
 ·rw [if_neg (fun q=>h q.1),if_neg h,Z4_eq]
  refine vpk_n n d.c d.s d.g d.x d.k w (fun W=>?_)
  have:=rdecimal_any n W
  rw [decide_eq_false h] at this
  exact this
end
section
theorem tn_ex {k:Nat}{x:Int}:∀ (d:Nat) (g0:Int),tnP k x g0->¬ tnP k x (g0+d)->∃ E,g0<=E/\E<g0+d/\tnP k x E/\¬ tnP k x (E+1)
 | 0,g0,h0,h1=>absurd h0 (by simpa using h1)
 | d+1,g0,h0,h1=>by
  by_cases h:tnP k x (g0+1)
  ·obtain ⟨E,e1,e2,e3,e4⟩:=tn_ex d (g0+1) h (by rw [show g0+1+(d:Int)=g0+((d+1:Nat):Int) by omega];exact h1)
   exact ⟨E,by omega,by omega,e3,e4⟩
  ·exact ⟨g0,Int.le_refl _,by omega,h0,h⟩
theorem tn_top {k:Nat}{x:Int}(hk:k<2^256)(hx:x<=17000):¬ tnP k x 6000:=by
 unfold tnP zE oE
 rw [show ((-6000:Int)).toNat=0 by decide,Nat.pow_zero,Nat.mul_one,show ((6000:Int)).toNat=6000 by decide]
 have h1:(2:Nat)^18000<=10^6000:=by decide +kernel
 obtain ⟨m',hm'⟩:∃ m':Nat,m'=18000:=⟨_,rfl⟩
 rw [← hm'] at h1
 generalize (10:Nat)^6000=T at *
 obtain ⟨m,hm⟩:∃ m:Nat,m=17000:=⟨_,rfl⟩
 have h2:k*2^x.toNat<2^256*2^m:=by
  have a1:k*2^x.toNat<2^256*2^x.toNat:=Nat.mul_lt_mul_of_pos_right hk (Nat.two_pow_pos _)
  have a2:2^256*2^x.toNat<=2^256*2^m:=Nat.mul_le_mul_left _ (Nat.pow_le_pow_right (by decide) (by omega))
  exact Nat.lt_of_lt_of_le a1 a2
 rw [← Nat.pow_add] at h2
 have h3:(2:Nat)^(256+m)<=2^m':=Nat.pow_le_pow_right (by decide) (by omega)
 have h4:1*T<=2^(-x).toNat*T:=Nat.mul_le_mul_right _ (Nat.two_pow_pos _)
 generalize (2:Nat)^(256+m)=Y at *
 generalize (2:Nat)^m'=Y' at *
 rw [Nat.mul_assoc 4,Nat.mul_assoc 4]
 generalize 2^(-x).toNat*T=Z1 at *
 generalize k*2^x.toNat=Z2 at *
 omega
theorem two_bl (m:Nat):bl (2^m)=m+1:=bl_eq (by rw [Nat.add_sub_cancel];exact Nat.le_refl _) (Nat.pow_lt_pow_right (by decide) (by omega))
attribute [local irreducible] W4 Nz Nt NT
end
end Go.Proofs.YtgknbdehlmlipaaGreatDoor
