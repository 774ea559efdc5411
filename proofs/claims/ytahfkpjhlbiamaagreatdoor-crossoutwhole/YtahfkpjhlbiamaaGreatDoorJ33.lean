/-
  Texts that the proof leans on.
-/
import Derived.Test.YtahfkpjhlbiamaaGreatDoorJ23
import Derived.Test.YtahfkpjhlbiamaaGreatDoorJ11
import Derived.Test.YtahfkpjhlbiamaaGreatDoorJ1
set_option maxHeartbeats 8000000
set_option linter.unusedVariables false
set_option linter.unusedSectionVars false
set_option linter.unusedSimpArgs false
set_option maxRecDepth 20000
namespace Go.Proofs.YtahfkpjhlbiamaaGreatDoor
open Go.RowKit
section
attribute [local irreducible] W4 NT NV
section
variable (n:Int)(nm:ByteArray)(wd pr ex le mo pa:Int)(G T J:Int)(x:Int)(k S:Nat)(w:World)
 (cD:∀ W,CQ 15 #[.int .i64 n] W (.bool true))
 (hG0:11<=G) (hG1:G<=100) (hT0:0<=T) (hT1:T<=200) (hJ0:0<=J) (hJ1:J<=11)
 (cN:∀ W,Calls Tryz.prog 66 #[A4 k] W fun r w'=>∃ g n cap,r=.returned (.slice (some ⟨g,0,none⟩) n cap)/\W.heap.size<g/\NT 4 k (.slice (some ⟨g,0,none⟩) n cap) w'/\Below W.heap.size W w')
include cD hG0 hG1 hT0 hT1 hJ0 hJ1 cN
variable (E:Int)(wn a:Nat)(Q H L:Int)(hx:x-le=E)(hE0:0<=E)(hE1:E<=20000)(hx0:-30000<=x)(hx1:x<=30000)(hl0:-30000<=le)(hl1:le<=30000)(hw:G-5=(wn:Int))(hwn:wn<=12)(hH:(2:Int)^wn=H)(hH0:1<=H)(hH1:H<=4096)(ha:a<=9)
include hx hE0 hE1 hx0 hx1 hl0 hl1 hw hwn hH hH0 hH1 ha
variable (hQ:E/H=Q)(hQ0:0<=Q)(hQ1:Q<=2)(hL:bits .and .u64 E (H-1)=L)
include hQ hQ0 hQ1 hL
theorem zR1 (R:Nat)(R1 p KP D rr Fw:Nat)(V0 V1 V2 V:Int)
  (cO:∀ W,CB 20 #[.int .i64 n] W (.tuple #[zYa n nm wd pr ex le mo pa true,.int .i64 0]))
  (cI:∀ W,CB 89 #[zYa n nm wd pr ex le mo pa true,DV 1 true false x k] W (.bool true))
  (cS:∀ W,CB 83 #[zYa n nm wd pr ex le mo pa true] W (.tuple #[.int .i64 G,.int .i64 T,.int .i64 J]))
  (cL1:∀ W v,NV 1 1 v W->CB 90 #[Z4,v,.int .i64 (T+G)] W (A4 S))
  (hp:p<2^256) (cW:∀ W,CE 64 #[.int .u64 10,.int .i64 (3*J)] W (NT KP D))
  (cV:∀ W vn vd,NT 4 k vn W->NT KP D vd W->Calls Tryz.prog 92 #[vn,vd] W fun r w'=>∃ g k cap v,r=.returned (.tuple #[.slice (some ⟨g,0,none⟩) k cap,v])/\W.heap.size<=g/\NV 41000 a (.slice (some ⟨g,0,none⟩) k cap) w'/\NT 41000 rr v w'/\Below W.heap.size W w')
  (cB:∀ W v,NT 41000 rr v W->CB 62 #[v] W (A4 rr))
  (cP:∀ W,CB 91 #[A4 rr,.int .i64 J] W (.tuple #[A4 p,.int .i64 0]))
  (cM:∀ W v,NV 41000 a v W->CQ 61 #[v] W (.int .i64 (a:Int)))
  (cL5:∀ W v,NV 4 p v W->CB 90 #[A4 S,v,.int .i64 0] W (A4 R1))
  (ho1:bits .or .u64 (Q*8) (a:Int)=V0)
  (h8:(8:Int)<=(a:Int)) (ho2:bits .or .u64 24 (Q*2)=V1) (ho3:bits .and .u64 (a:Int) 1=V2) (ho4:bits .or .u64 V1 V2=V)
  (hV0:0<=V) (hV1:V<=31) (hVH0:0<=V*H) (hVH1:V*H<=200000) (ho5:bits .or .u64 (V*H) L=(Fw:Int)) (hFw:Fw<18446744073709551616)
  (cL6:∀ W v,NV 1 Fw v W->CB 90 #[A4 R1,v,.int .i64 T] W (A4 R)) :
  CB 43 #[.int .i64 n,DV 1 true false x k] w (.tuple #[A4 R,.int .i64 0]):=by
 have hsm:=zAa
 unfold DV A4 Z4 at *
 go_enter Tryz.func43,Tryz.ntmps43
 go_wp2_with (first
  | (go_at_call 15;refine (cD _).mono ?_;rintro r w0 ⟨rfl,rfl⟩)
  | (go_at_call 20;refine wk w (cO _) ?_;intro w1 hb1 _ _ _ _ hA1 _;obtain ⟨_,_⟩:=zf hb1 (w.heap.size+1);clear hb1)
  | (go_at_call 89;refine wk w (cI _) ?_;intro w2 hb2 _ _ _ _ hA2 _;obtain ⟨_,_,_,_⟩:=zg hb2 (w.heap.size+1) w1.heap.size;clear hb2)
  | (go_at_call 83;refine wk w (cS _) ?_;intro w3 hb3 _ _ _ _ hA3 _;obtain ⟨_,_,_,_⟩:=zg hb3 (w.heap.size+1) w1.heap.size;clear hb3;have q0:w.heap.size<w3.heap.size+1+1:=(by omega);have q1:w.heap.size+1<w3.heap.size+1+1:=(by omega);have q2:w1.heap.size<w3.heap.size+1+1:=(by omega);have q3:w3.heap.size<w3.heap.size+1+1:=(by omega))
  | (go_at_call 90;refine (cL1 _ _ (zXa (by simp) (by rfl) (by decide))).mono ?_;rintro r w4 ⟨rfl,hb4⟩;clear cL1;obtain ⟨_,_,_,_,hA4,_⟩:=wz w hb4;obtain ⟨_,_,_,_,_,_⟩:=zh hb4 (w.heap.size+1) w1.heap.size w3.heap.size;clear hb4)
  | (go_at_call 66;refine (cN _).mono ?_;rintro r w5 ⟨gn,nn,cn,rfl,hg5,hn5,hb5⟩;have hgn:gn≠w3.heap.size:=(by first|omega|(simp at hg5;omega));clear hg5;obtain ⟨_,_,_,_,hA5,_⟩:=wz w hb5;obtain ⟨_,_,_,_,_,_⟩:=zh hb5 (w.heap.size+1) w1.heap.size w3.heap.size;clear hb5)
  | (go_at_call 64;refine (cW _).mono ?_;rintro r w6 ⟨vd,rfl,hd6,hb6⟩;have hn6:=hn5.next hb6;obtain ⟨_,_,_,_,hA6,_⟩:=wz w hb6;obtain ⟨_,_,_,_,_,_⟩:=zh hb6 (w.heap.size+1) w1.heap.size w3.heap.size;clear hb6)
  | (go_at_call 92;refine (cV _ _ _ hn6 hd6).mono ?_;rintro r w7 ⟨gq,kq,cq,vr,rfl,hg7,hq7,hr7,hb7⟩;have hgq:gq≠w3.heap.size:=(by omega);clear hg7;obtain ⟨_,_,_,_,hA7,_⟩:=wz w hb7;obtain ⟨_,_,_,_,_,_⟩:=zh hb7 (w.heap.size+1) w1.heap.size w3.heap.size;clear hb7)
  | (go_at_call 62;refine (cB _ _ hr7).mono ?_;rintro r w8 ⟨rfl,hb8⟩;have hq8:=hq7.next hb8;obtain ⟨_,_,_,_,hA8,_⟩:=wz w hb8;obtain ⟨_,_,_,_,_,_⟩:=zh hb8 (w.heap.size+1) w1.heap.size w3.heap.size;clear hb8)
  | (go_at_call 91;refine (cP _).mono ?_;rintro r w9 ⟨rfl,hb9⟩;have hq9:=hq8.next hb9;obtain ⟨_,_,_,_,hA9,_⟩:=wz w hb9;obtain ⟨_,_,_,_,_,_⟩:=zh hb9 (w.heap.size+1) w1.heap.size w3.heap.size;clear hb9))
 refine zZa 3 (by kernel_rfl) (by kernel_rfl) (by kernel_rfl) (fun _ _ d _ _ h=>by cases d<;>exact h) fun hne hcell=>?_
 simp only [List.take_succ_cons,List.take_zero,List.drop_succ_cons,List.drop_zero]
 repeat go_big_quiet_step (fail)
 go_big_quiet_step ((go_at_call 90;exact zBa _ zHa (cL5 _ _ ((zSb hp (by simp) (by go_simp) (by go_simp) (by go_simp) (by go_simp)).next (Wd.h _)))))
 refine wpQuiet_nil fun w10 hb10=>?_
 have hq10:=NV.next (NV.next hq9 bgo) hb10
 obtain ⟨_,_,_,_,hA10,_⟩:=wz w hb10;obtain ⟨_,_,_,_,_,_⟩:=zh hb10 (w.heap.size+1) w1.heap.size w3.heap.size;obtain ⟨_,_⟩:=zf hb10 w9.heap.size;clear hb10
 go_wp2_with (first
  | (go_at_call 61;refine (cM _ _ (hq10.updV hgq (zEb _ _ R1))).mono ?_;rintro r w11 ⟨rfl,rfl⟩)
  | (go_at_call 90;refine wk w (cL6 _ _ (zXa (by simp) (by rfl) hFw)) ?_;intro w12 hb12 _ _ _ _ hA12 _;obtain ⟨_,_,_,_,_,_⟩:=zh hb12 (w.heap.size+1) w1.heap.size w3.heap.size;clear hb12))
 exact bodyPost_ret (v:=.tuple #[A4 R,.int .i64 0]) (by simp only [results,Tryz.results43];go_simp) rfl ⟨rfl,bgo⟩
theorem zQ1 (R:Nat)(R1 p KP D rr Fw:Nat)(V0:Int)
  (cO:∀ W,CB 20 #[.int .i64 n] W (.tuple #[zYa n nm wd pr ex le mo pa true,.int .i64 0]))
  (cI:∀ W,CB 89 #[zYa n nm wd pr ex le mo pa true,DV 1 true false x k] W (.bool true))
  (cS:∀ W,CB 83 #[zYa n nm wd pr ex le mo pa true] W (.tuple #[.int .i64 G,.int .i64 T,.int .i64 J]))
  (cL1:∀ W v,NV 1 1 v W->CB 90 #[Z4,v,.int .i64 (T+G)] W (A4 S))
  (hp:p<2^256) (cW:∀ W,CE 64 #[.int .u64 10,.int .i64 (3*J)] W (NT KP D))
  (cV:∀ W vn vd,NT 4 k vn W->NT KP D vd W->Calls Tryz.prog 92 #[vn,vd] W fun r w'=>∃ g k cap v,r=.returned (.tuple #[.slice (some ⟨g,0,none⟩) k cap,v])/\W.heap.size<=g/\NV 41000 a (.slice (some ⟨g,0,none⟩) k cap) w'/\NT 41000 rr v w'/\Below W.heap.size W w')
  (cB:∀ W v,NT 41000 rr v W->CB 62 #[v] W (A4 rr))
  (cP:∀ W,CB 91 #[A4 rr,.int .i64 J] W (.tuple #[A4 p,.int .i64 0]))
  (cM:∀ W v,NV 41000 a v W->CQ 61 #[v] W (.int .i64 (a:Int)))
  (cL5:∀ W v,NV 4 p v W->CB 90 #[A4 S,v,.int .i64 0] W (A4 R1))
  (ho1:bits .or .u64 (Q*8) (a:Int)=V0)
  (h8:¬ (8:Int)<=(a:Int))
  (hV0:0<=V0) (hV1:V0<=31) (hVH0:0<=V0*H) (hVH1:V0*H<=200000) (ho5:bits .or .u64 (V0*H) L=(Fw:Int)) (hFw:Fw<18446744073709551616)
  (cL6:∀ W v,NV 1 Fw v W->CB 90 #[A4 R1,v,.int .i64 T] W (A4 R)) :
  CB 43 #[.int .i64 n,DV 1 true false x k] w (.tuple #[A4 R,.int .i64 0]):=by
 have hsm:=zAa
 unfold DV A4 Z4 at *
 go_enter Tryz.func43,Tryz.ntmps43
 go_wp2_with (first
  | (go_at_call 15;refine (cD _).mono ?_;rintro r w0 ⟨rfl,rfl⟩)
  | (go_at_call 20;refine wk w (cO _) ?_;intro w1 hb1 _ _ _ _ hA1 _;obtain ⟨_,_⟩:=zf hb1 (w.heap.size+1);clear hb1)
  | (go_at_call 89;refine wk w (cI _) ?_;intro w2 hb2 _ _ _ _ hA2 _;obtain ⟨_,_,_,_⟩:=zg hb2 (w.heap.size+1) w1.heap.size;clear hb2)
  | (go_at_call 83;refine wk w (cS _) ?_;intro w3 hb3 _ _ _ _ hA3 _;obtain ⟨_,_,_,_⟩:=zg hb3 (w.heap.size+1) w1.heap.size;clear hb3;have q0:w.heap.size<w3.heap.size+1+1:=(by omega);have q1:w.heap.size+1<w3.heap.size+1+1:=(by omega);have q2:w1.heap.size<w3.heap.size+1+1:=(by omega);have q3:w3.heap.size<w3.heap.size+1+1:=(by omega))
  | (go_at_call 90;refine (cL1 _ _ (zXa (by simp) (by rfl) (by decide))).mono ?_;rintro r w4 ⟨rfl,hb4⟩;clear cL1;obtain ⟨_,_,_,_,hA4,_⟩:=wz w hb4;obtain ⟨_,_,_,_,_,_⟩:=zh hb4 (w.heap.size+1) w1.heap.size w3.heap.size;clear hb4)
  | (go_at_call 66;refine (cN _).mono ?_;rintro r w5 ⟨gn,nn,cn,rfl,hg5,hn5,hb5⟩;have hgn:gn≠w3.heap.size:=(by first|omega|(simp at hg5;omega));clear hg5;obtain ⟨_,_,_,_,hA5,_⟩:=wz w hb5;obtain ⟨_,_,_,_,_,_⟩:=zh hb5 (w.heap.size+1) w1.heap.size w3.heap.size;clear hb5)
  | (go_at_call 64;refine (cW _).mono ?_;rintro r w6 ⟨vd,rfl,hd6,hb6⟩;have hn6:=hn5.next hb6;obtain ⟨_,_,_,_,hA6,_⟩:=wz w hb6;obtain ⟨_,_,_,_,_,_⟩:=zh hb6 (w.heap.size+1) w1.heap.size w3.heap.size;clear hb6)
  | (go_at_call 92;refine (cV _ _ _ hn6 hd6).mono ?_;rintro r w7 ⟨gq,kq,cq,vr,rfl,hg7,hq7,hr7,hb7⟩;have hgq:gq≠w3.heap.size:=(by omega);clear hg7;obtain ⟨_,_,_,_,hA7,_⟩:=wz w hb7;obtain ⟨_,_,_,_,_,_⟩:=zh hb7 (w.heap.size+1) w1.heap.size w3.heap.size;clear hb7)
  | (go_at_call 62;refine (cB _ _ hr7).mono ?_;rintro r w8 ⟨rfl,hb8⟩;have hq8:=hq7.next hb8;obtain ⟨_,_,_,_,hA8,_⟩:=wz w hb8;obtain ⟨_,_,_,_,_,_⟩:=zh hb8 (w.heap.size+1) w1.heap.size w3.heap.size;clear hb8)
  | (go_at_call 91;refine (cP _).mono ?_;rintro r w9 ⟨rfl,hb9⟩;have hq9:=hq8.next hb9;obtain ⟨_,_,_,_,hA9,_⟩:=wz w hb9;obtain ⟨_,_,_,_,_,_⟩:=zh hb9 (w.heap.size+1) w1.heap.size w3.heap.size;clear hb9))
 refine zZa 3 (by kernel_rfl) (by kernel_rfl) (by kernel_rfl) (fun _ _ d _ _ h=>by cases d<;>exact h) fun hne hcell=>?_
 simp only [List.take_succ_cons,List.take_zero,List.drop_succ_cons,List.drop_zero]
 repeat go_big_quiet_step (fail)
 go_big_quiet_step ((go_at_call 90;exact zBa _ zHa (cL5 _ _ ((zSb hp (by simp) (by go_simp) (by go_simp) (by go_simp) (by go_simp)).next (Wd.h _)))))
 refine wpQuiet_nil fun w10 hb10=>?_
 have hq10:=NV.next (NV.next hq9 bgo) hb10
 obtain ⟨_,_,_,_,hA10,_⟩:=wz w hb10;obtain ⟨_,_,_,_,_,_⟩:=zh hb10 (w.heap.size+1) w1.heap.size w3.heap.size;obtain ⟨_,_⟩:=zf hb10 w9.heap.size;clear hb10
 go_wp2_with (first
  | (go_at_call 61;refine (cM _ _ (hq10.updV hgq (zEb _ _ R1))).mono ?_;rintro r w11 ⟨rfl,rfl⟩)
  | (go_at_call 90;refine wk w (cL6 _ _ (zXa (by simp) (by rfl) hFw)) ?_;intro w12 hb12 _ _ _ _ hA12 _;obtain ⟨_,_,_,_,_,_⟩:=zh hb12 (w.heap.size+1) w1.heap.size w3.heap.size;clear hb12))
 exact bodyPost_ret (v:=.tuple #[A4 R,.int .i64 0]) (by simp only [results,Tryz.results43];go_simp) rfl ⟨rfl,bgo⟩
theorem zV1 (R:Nat)(R1 p KP D rr Fw:Nat)(V0 V1 V2 V:Int)
  (cO:∀ W,CB 20 #[.int .i64 n] W (.tuple #[zYa n nm wd pr ex le mo pa true,.int .i64 0]))
  (cI:∀ W,CB 89 #[zYa n nm wd pr ex le mo pa true,DV 1 false false x k] W (.bool true))
  (cS:∀ W,CB 83 #[zYa n nm wd pr ex le mo pa true] W (.tuple #[.int .i64 G,.int .i64 T,.int .i64 J]))
  (hp:p<2^256) (cW:∀ W,CE 64 #[.int .u64 10,.int .i64 (3*J)] W (NT KP D))
  (cV:∀ W vn vd,NT 4 k vn W->NT KP D vd W->Calls Tryz.prog 92 #[vn,vd] W fun r w'=>∃ g k cap v,r=.returned (.tuple #[.slice (some ⟨g,0,none⟩) k cap,v])/\W.heap.size<=g/\NV 41000 a (.slice (some ⟨g,0,none⟩) k cap) w'/\NT 41000 rr v w'/\Below W.heap.size W w')
  (cB:∀ W v,NT 41000 rr v W->CB 62 #[v] W (A4 rr))
  (cP:∀ W,CB 91 #[A4 rr,.int .i64 J] W (.tuple #[A4 p,.int .i64 0]))
  (cM:∀ W v,NV 41000 a v W->CQ 61 #[v] W (.int .i64 (a:Int)))
  (cL5:∀ W v,NV 4 p v W->CB 90 #[Z4,v,.int .i64 0] W (A4 R1))
  (ho1:bits .or .u64 (Q*8) (a:Int)=V0)
  (h8:(8:Int)<=(a:Int)) (ho2:bits .or .u64 24 (Q*2)=V1) (ho3:bits .and .u64 (a:Int) 1=V2) (ho4:bits .or .u64 V1 V2=V)
  (hV0:0<=V) (hV1:V<=31) (hVH0:0<=V*H) (hVH1:V*H<=200000) (ho5:bits .or .u64 (V*H) L=(Fw:Int)) (hFw:Fw<18446744073709551616)
  (cL6:∀ W v,NV 1 Fw v W->CB 90 #[A4 R1,v,.int .i64 T] W (A4 R)) :
  CB 43 #[.int .i64 n,DV 1 false false x k] w (.tuple #[A4 R,.int .i64 0]):=by
 have hsm:=zAa
 unfold DV A4 Z4 at *
 go_enter Tryz.func43,Tryz.ntmps43
 go_wp2_with (first
  | (go_at_call 15;refine (cD _).mono ?_;rintro r w0 ⟨rfl,rfl⟩)
  | (go_at_call 20;refine wk w (cO _) ?_;intro w1 hb1 _ _ _ _ hA1 _;obtain ⟨_,_⟩:=zf hb1 (w.heap.size+1);clear hb1)
  | (go_at_call 89;refine wk w (cI _) ?_;intro w2 hb2 _ _ _ _ hA2 _;obtain ⟨_,_,_,_⟩:=zg hb2 (w.heap.size+1) w1.heap.size;clear hb2)
  | (go_at_call 83;refine wk w (cS _) ?_;intro w3 hb3 _ _ _ _ hA3 _;obtain ⟨_,_,_,_⟩:=zg hb3 (w.heap.size+1) w1.heap.size;clear hb3;have q0:w.heap.size<w3.heap.size+1+1:=(by omega);have q1:w.heap.size+1<w3.heap.size+1+1:=(by omega);have q2:w1.heap.size<w3.heap.size+1+1:=(by omega);have q3:w3.heap.size<w3.heap.size+1+1:=(by omega))
  | (go_at_call 66;refine (cN _).mono ?_;rintro r w5 ⟨gn,nn,cn,rfl,hg5,hn5,hb5⟩;have hgn:gn≠w3.heap.size:=(by first|omega|(simp at hg5;omega));clear hg5;obtain ⟨_,_,_,_,hA5,_⟩:=wz w hb5;obtain ⟨_,_,_,_,_,_⟩:=zh hb5 (w.heap.size+1) w1.heap.size w3.heap.size;clear hb5)
  | (go_at_call 64;refine (cW _).mono ?_;rintro r w6 ⟨vd,rfl,hd6,hb6⟩;have hn6:=hn5.next hb6;obtain ⟨_,_,_,_,hA6,_⟩:=wz w hb6;obtain ⟨_,_,_,_,_,_⟩:=zh hb6 (w.heap.size+1) w1.heap.size w3.heap.size;clear hb6)
  | (go_at_call 92;refine (cV _ _ _ hn6 hd6).mono ?_;rintro r w7 ⟨gq,kq,cq,vr,rfl,hg7,hq7,hr7,hb7⟩;have hgq:gq≠w3.heap.size:=(by omega);clear hg7;obtain ⟨_,_,_,_,hA7,_⟩:=wz w hb7;obtain ⟨_,_,_,_,_,_⟩:=zh hb7 (w.heap.size+1) w1.heap.size w3.heap.size;clear hb7)
  | (go_at_call 62;refine (cB _ _ hr7).mono ?_;rintro r w8 ⟨rfl,hb8⟩;have hq8:=hq7.next hb8;obtain ⟨_,_,_,_,hA8,_⟩:=wz w hb8;obtain ⟨_,_,_,_,_,_⟩:=zh hb8 (w.heap.size+1) w1.heap.size w3.heap.size;clear hb8)
  | (go_at_call 91;refine (cP _).mono ?_;rintro r w9 ⟨rfl,hb9⟩;have hq9:=hq8.next hb9;obtain ⟨_,_,_,_,hA9,_⟩:=wz w hb9;obtain ⟨_,_,_,_,_,_⟩:=zh hb9 (w.heap.size+1) w1.heap.size w3.heap.size;clear hb9))
 refine zZa 3 (by kernel_rfl) (by kernel_rfl) (by kernel_rfl) (fun _ _ d _ _ h=>by cases d<;>exact h) fun hne hcell=>?_
 simp only [List.take_succ_cons,List.take_zero,List.drop_succ_cons,List.drop_zero]
 repeat go_big_quiet_step (fail)
 go_big_quiet_step ((go_at_call 90;exact zBa _ zHa (cL5 _ _ ((zSb hp (by simp) (by go_simp) (by go_simp) (by go_simp) (by go_simp)).next (Wd.h _)))))
 refine wpQuiet_nil fun w10 hb10=>?_
 have hq10:=NV.next (NV.next hq9 bgo) hb10
 obtain ⟨_,_,_,_,hA10,_⟩:=wz w hb10;obtain ⟨_,_,_,_,_,_⟩:=zh hb10 (w.heap.size+1) w1.heap.size w3.heap.size;obtain ⟨_,_⟩:=zf hb10 w9.heap.size;clear hb10
 go_wp2_with (first
  | (go_at_call 61;refine (cM _ _ (hq10.updV hgq (zEb _ _ R1))).mono ?_;rintro r w11 ⟨rfl,rfl⟩)
  | (go_at_call 90;refine wk w (cL6 _ _ (zXa (by simp) (by rfl) hFw)) ?_;intro w12 hb12 _ _ _ _ hA12 _;obtain ⟨_,_,_,_,_,_⟩:=zh hb12 (w.heap.size+1) w1.heap.size w3.heap.size;clear hb12))
 exact bodyPost_ret (v:=.tuple #[A4 R,.int .i64 0]) (by simp only [results,Tryz.results43];go_simp) rfl ⟨rfl,bgo⟩
theorem zU1 (R:Nat)(R1 p KP D rr Fw:Nat)(V0:Int)
  (cO:∀ W,CB 20 #[.int .i64 n] W (.tuple #[zYa n nm wd pr ex le mo pa true,.int .i64 0]))
  (cI:∀ W,CB 89 #[zYa n nm wd pr ex le mo pa true,DV 1 false false x k] W (.bool true))
  (cS:∀ W,CB 83 #[zYa n nm wd pr ex le mo pa true] W (.tuple #[.int .i64 G,.int .i64 T,.int .i64 J]))
  (hp:p<2^256) (cW:∀ W,CE 64 #[.int .u64 10,.int .i64 (3*J)] W (NT KP D))
  (cV:∀ W vn vd,NT 4 k vn W->NT KP D vd W->Calls Tryz.prog 92 #[vn,vd] W fun r w'=>∃ g k cap v,r=.returned (.tuple #[.slice (some ⟨g,0,none⟩) k cap,v])/\W.heap.size<=g/\NV 41000 a (.slice (some ⟨g,0,none⟩) k cap) w'/\NT 41000 rr v w'/\Below W.heap.size W w')
  (cB:∀ W v,NT 41000 rr v W->CB 62 #[v] W (A4 rr))
  (cP:∀ W,CB 91 #[A4 rr,.int .i64 J] W (.tuple #[A4 p,.int .i64 0]))
  (cM:∀ W v,NV 41000 a v W->CQ 61 #[v] W (.int .i64 (a:Int)))
  (cL5:∀ W v,NV 4 p v W->CB 90 #[Z4,v,.int .i64 0] W (A4 R1))
  (ho1:bits .or .u64 (Q*8) (a:Int)=V0)
  (h8:¬ (8:Int)<=(a:Int))
  (hV0:0<=V0) (hV1:V0<=31) (hVH0:0<=V0*H) (hVH1:V0*H<=200000) (ho5:bits .or .u64 (V0*H) L=(Fw:Int)) (hFw:Fw<18446744073709551616)
  (cL6:∀ W v,NV 1 Fw v W->CB 90 #[A4 R1,v,.int .i64 T] W (A4 R)) :
  CB 43 #[.int .i64 n,DV 1 false false x k] w (.tuple #[A4 R,.int .i64 0]):=by
 have hsm:=zAa
 unfold DV A4 Z4 at *
 go_enter Tryz.func43,Tryz.ntmps43
 go_wp2_with (first
  | (go_at_call 15;refine (cD _).mono ?_;rintro r w0 ⟨rfl,rfl⟩)
  | (go_at_call 20;refine wk w (cO _) ?_;intro w1 hb1 _ _ _ _ hA1 _;obtain ⟨_,_⟩:=zf hb1 (w.heap.size+1);clear hb1)
  | (go_at_call 89;refine wk w (cI _) ?_;intro w2 hb2 _ _ _ _ hA2 _;obtain ⟨_,_,_,_⟩:=zg hb2 (w.heap.size+1) w1.heap.size;clear hb2)
  | (go_at_call 83;refine wk w (cS _) ?_;intro w3 hb3 _ _ _ _ hA3 _;obtain ⟨_,_,_,_⟩:=zg hb3 (w.heap.size+1) w1.heap.size;clear hb3;have q0:w.heap.size<w3.heap.size+1+1:=(by omega);have q1:w.heap.size+1<w3.heap.size+1+1:=(by omega);have q2:w1.heap.size<w3.heap.size+1+1:=(by omega);have q3:w3.heap.size<w3.heap.size+1+1:=(by omega))
  | (go_at_call 66;refine (cN _).mono ?_;rintro r w5 ⟨gn,nn,cn,rfl,hg5,hn5,hb5⟩;have hgn:gn≠w3.heap.size:=(by first|omega|(simp at hg5;omega));clear hg5;obtain ⟨_,_,_,_,hA5,_⟩:=wz w hb5;obtain ⟨_,_,_,_,_,_⟩:=zh hb5 (w.heap.size+1) w1.heap.size w3.heap.size;clear hb5)
  | (go_at_call 64;refine (cW _).mono ?_;rintro r w6 ⟨vd,rfl,hd6,hb6⟩;have hn6:=hn5.next hb6;obtain ⟨_,_,_,_,hA6,_⟩:=wz w hb6;obtain ⟨_,_,_,_,_,_⟩:=zh hb6 (w.heap.size+1) w1.heap.size w3.heap.size;clear hb6)
  | (go_at_call 92;refine (cV _ _ _ hn6 hd6).mono ?_;rintro r w7 ⟨gq,kq,cq,vr,rfl,hg7,hq7,hr7,hb7⟩;have hgq:gq≠w3.heap.size:=(by omega);clear hg7;obtain ⟨_,_,_,_,hA7,_⟩:=wz w hb7;obtain ⟨_,_,_,_,_,_⟩:=zh hb7 (w.heap.size+1) w1.heap.size w3.heap.size;clear hb7)
  | (go_at_call 62;refine (cB _ _ hr7).mono ?_;rintro r w8 ⟨rfl,hb8⟩;have hq8:=hq7.next hb8;obtain ⟨_,_,_,_,hA8,_⟩:=wz w hb8;obtain ⟨_,_,_,_,_,_⟩:=zh hb8 (w.heap.size+1) w1.heap.size w3.heap.size;clear hb8)
  | (go_at_call 91;refine (cP _).mono ?_;rintro r w9 ⟨rfl,hb9⟩;have hq9:=hq8.next hb9;obtain ⟨_,_,_,_,hA9,_⟩:=wz w hb9;obtain ⟨_,_,_,_,_,_⟩:=zh hb9 (w.heap.size+1) w1.heap.size w3.heap.size;clear hb9))
 refine zZa 3 (by kernel_rfl) (by kernel_rfl) (by kernel_rfl) (fun _ _ d _ _ h=>by cases d<;>exact h) fun hne hcell=>?_
 simp only [List.take_succ_cons,List.take_zero,List.drop_succ_cons,List.drop_zero]
 repeat go_big_quiet_step (fail)
 go_big_quiet_step ((go_at_call 90;exact zBa _ zHa (cL5 _ _ ((zSb hp (by simp) (by go_simp) (by go_simp) (by go_simp) (by go_simp)).next (Wd.h _)))))
 refine wpQuiet_nil fun w10 hb10=>?_
 have hq10:=NV.next (NV.next hq9 bgo) hb10
 obtain ⟨_,_,_,_,hA10,_⟩:=wz w hb10;obtain ⟨_,_,_,_,_,_⟩:=zh hb10 (w.heap.size+1) w1.heap.size w3.heap.size;obtain ⟨_,_⟩:=zf hb10 w9.heap.size;clear hb10
 go_wp2_with (first
  | (go_at_call 61;refine (cM _ _ (hq10.updV hgq (zEb _ _ R1))).mono ?_;rintro r w11 ⟨rfl,rfl⟩)
  | (go_at_call 90;refine wk w (cL6 _ _ (zXa (by simp) (by rfl) hFw)) ?_;intro w12 hb12 _ _ _ _ hA12 _;obtain ⟨_,_,_,_,_,_⟩:=zh hb12 (w.heap.size+1) w1.heap.size w3.heap.size;clear hb12))
 exact bodyPost_ret (v:=.tuple #[A4 R,.int .i64 0]) (by simp only [results,Tryz.results43];go_simp) rfl ⟨rfl,bgo⟩
end
end
end Go.Proofs.YtahfkpjhlbiamaaGreatDoor
