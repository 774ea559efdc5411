/-
  Texts that the proof leans on.
-/
import Derived.Test.YtahfkpjhlbiamaaGreatDoorL40
import Derived.Test.YtahfkpjhlbiamaaGreatDoorL1
set_option maxHeartbeats 8000000
set_option linter.unusedVariables false
set_option linter.unusedSectionVars false
set_option linter.unusedSimpArgs false
set_option maxRecDepth 20000
namespace Go.Proofs.YtahfkpjhlbiamaaGreatDoor
open Go.RowKit
section
attribute [local irreducible] W4 Nz Nt NT
section
variable (n d x y:Int)(s:Bool)(vn vd:Value)(w:World)
theorem ddec_e (E:Int)(hE:(E != 0)=true)
  (c17:∀ W,Below w.heap.size w W->CB 109 #[.int .i64 n,.int .i64 d,vn,vd] W (.tuple #[IZ,.int .i64 E])) :
  CB 55 #[.int .i64 n,.int .i64 d,.bool s,vn,vd,.int .i64 x,.int .i64 y] w (.tuple #[.agg #[.int .i64 0,.bool false,.bool false,.int .i64 0,.int .u64 0,.int .u64 0,.int .u64 0,.int .u64 0],.int .i64 0,.int .i64 E]):=by
 have hsm:=cell_set_map
 go_enter Tryz.func55,Tryz.ntmps55
 go_wp2_with (go_at_call 109;refine (c17 _ bgo).mono ?_;rintro r w1 ⟨rfl,hb1⟩;obtain ⟨_,_,_,_,hA1,_⟩:=wz w hb1;clear hb1)
 exact bodyPost_ret (v:=.tuple #[.agg #[.int .i64 0,.bool false,.bool false,.int .i64 0,.int .u64 0,.int .u64 0,.int .u64 0,.int .u64 0],.int .i64 0,.int .i64 E]) (by simp only [results,Tryz.results55];go_simp) rfl ⟨rfl,bgo⟩
variable (nm:ByteArray)(wd P ex l m pa:Int)(dn:Bool)(N:Nat)(vc vx V0 V1 V2 V3:Int)(vs vg:Bool)
 (c17:∀ W,Below w.heap.size w W->CB 109 #[.int .i64 n,.int .i64 d,vn,vd] W (.tuple #[IDec n nm wd P ex l m pa dn,.int .i64 0]))
 (c18:∀ W,Below w.heap.size w W->CQ 110 #[vn] W (.int .i64 (bl N:Int)))
include c17 c18
theorem ddec_z (hN:(((bl N:Nat):Int)==0)=true)(t:Int)(ht:min (max y l) m=t)
  (c19:∀ W,CB 111 #[.bool s,.slice none 0 0,.int .i64 t] W (.agg #[.int .i64 vc,.bool vs,.bool vg,.int .i64 vx,.int .u64 V0,.int .u64 V1,.int .u64 V2,.int .u64 V3])) :
  CB 55 #[.int .i64 n,.int .i64 d,.bool s,vn,vd,.int .i64 x,.int .i64 y] w (.tuple #[.agg #[.int .i64 vc,.bool vs,.bool vg,.int .i64 vx,.int .u64 V0,.int .u64 V1,.int .u64 V2,.int .u64 V3],.int .i64 0,.int .i64 0]):=by
 have hsm:=cell_set_map
 go_enter Tryz.func55,Tryz.ntmps55
 go_wp2_with (first
  | (go_at_call 109;refine (c17 _ bgo).mono ?_;rintro r w1 ⟨rfl,hb1⟩;obtain ⟨_,_,_,_,hA1,_⟩:=wz w hb1;clear hb1)
  | (go_at_call 110;refine (c18 _ bgo).mono ?_;rintro r w2 ⟨rfl,rfl⟩)
  | (go_at_call 111;refine (c19 _).mono ?_;rintro r w3 ⟨rfl,hb3⟩;obtain ⟨_,_,_,_,hA3,_⟩:=wz w hb3;obtain ⟨_,_⟩:=zf hb3 w1.heap.size;clear hb3))
 exact bodyPost_ret (v:=.tuple #[.agg #[.int .i64 vc,.bool vs,.bool vg,.int .i64 vx,.int .u64 V0,.int .u64 V1,.int .u64 V2,.int .u64 V3],.int .i64 0,.int .i64 0]) (by simp only [results,Tryz.results55];go_simp) rfl ⟨rfl,bgo⟩
variable (hP:1<=P/\P<=300)(hl:-100000<=l/\l<=100000)(hm:-100000<=m/\m<=100000)(hN:(((bl N:Nat):Int)==0)=false)
 (L X q0:Int) (hL:-100000<=L/\L<=100000) (hX:-300000<=X/\X<=300000) (hq:max l (L+X-P+1)=q0) (hqb:-500000<=q0/\q0<=500000) (C T:Nat) (cm:Int) (exa:Bool)
 (c20:∀ W,Below w.heap.size w W->CB 112 #[vn,vd] W (.int .i64 L))
 (c21:∀ W,CB 113 #[IDec n nm wd P ex l m pa dn,.int .i64 L,.int .i64 x] W (.int .i64 X))
 (c22:∀ W,Below w.heap.size w W->Calls Tryz.prog 114 #[vn,vd,.int .i64 (X-q0)] W fun r w'=>∃ va vb,r=.returned (.tuple #[va,vb])/\Below W.heap.size W w'/\(Calls Tryz.prog 99 #[.int .i64 d,.bool s,va,vb] w' fun r w''=>∃ v,r=.returned (.tuple #[v,.bool exa])/\Nz 2003 C v w''/\Below w'.heap.size w' w''))
 (c25:∀ W,CE 115 #[.int .i64 P] W (NT 2001 T))
 (c24:∀ W v u,Nz 2003 C v W->NT 2001 T u W->CB 57 #[v,u] W (.int .i64 cm))
include hP hl hm hN hL hX hq hqb c20 c21 c22 c25 c24
theorem ddec_no (hcm:(cm==0)=false)(ho:m<q0)
  (c26:∀ W,CB 116 #[IDec n nm wd P ex l m pa dn,.int .i64 d,.bool s] W (.agg #[.int .i64 vc,.bool vs,.bool vg,.int .i64 vx,.int .u64 V0,.int .u64 V1,.int .u64 V2,.int .u64 V3])) :
  CB 55 #[.int .i64 n,.int .i64 d,.bool s,vn,vd,.int .i64 x,.int .i64 y] w (.tuple #[.agg #[.int .i64 vc,.bool vs,.bool vg,.int .i64 vx,.int .u64 V0,.int .u64 V1,.int .u64 V2,.int .u64 V3],.int .i64 10,.int .i64 0]):=by
 have hsm:=cell_set_map
 go_enter Tryz.func55,Tryz.ntmps55
 go_wp2_with (first
  | (go_at_call 109;refine (c17 _ bgo).mono ?_;rintro r w1 ⟨rfl,hb1⟩;obtain ⟨_,_,_,_,hA1,_⟩:=wz w hb1;clear hb1)
  | (go_at_call 110;refine (c18 _ bgo).mono ?_;rintro r w2 ⟨rfl,rfl⟩)
  | (go_at_call 112;refine (c20 _ bgo).mono ?_;rintro r w3 ⟨rfl,hb3⟩;obtain ⟨_,_,_,_,hA3,_⟩:=wz w hb3;obtain ⟨_,_⟩:=zf hb3 w1.heap.size;clear hb3)
  | (go_at_call 113;refine (c21 _).mono ?_;rintro r w4 ⟨rfl,hb4⟩;obtain ⟨_,_,_,_,hA4,_⟩:=wz w hb4;obtain ⟨_,_⟩:=zf hb4 w1.heap.size;clear hb4)
  | (go_at_call 114;refine (c22 _ bgo).mono ?_;rintro r w5 ⟨va,vb,rfl,hb5,c23⟩;obtain ⟨_,_,_,_,hA5,_⟩:=wz w hb5;obtain ⟨_,_⟩:=zf hb5 w1.heap.size;clear hb5)
  | (go_at_call 99;refine c23.mono ?_;rintro r w6 ⟨v6,rfl,hv6,hb6⟩;obtain ⟨_,_,_,_,hA6,_⟩:=wz w hb6;obtain ⟨_,_⟩:=zf hb6 w1.heap.size;clear hb6)
  | (go_at_call 115;refine (c25 _).mono ?_;rintro r w7 ⟨v7,rfl,hv7,hb7⟩;have hq7:=hv6.next hb7;obtain ⟨_,_,_,_,hA7,_⟩:=wz w hb7;obtain ⟨_,_⟩:=zf hb7 w1.heap.size;clear hb7)
  | (go_at_call 57;refine (c24 _ _ _ hq7 hv7).mono ?_;rintro r w8 ⟨rfl,hb8⟩;have hq8:=hq7.next hb8;obtain ⟨_,_,_,_,hA8,_⟩:=wz w hb8;obtain ⟨_,_⟩:=zf hb8 w1.heap.size;clear hb8)
  | (go_at_call 116;refine (c26 _).mono ?_;rintro r w10 ⟨rfl,hb10⟩;obtain ⟨_,_,_,_,hA10,_⟩:=wz w hb10;obtain ⟨_,_⟩:=zf hb10 w1.heap.size;clear hb10))
 exact bodyPost_ret (v:=.tuple #[.agg #[.int .i64 vc,.bool vs,.bool vg,.int .i64 vx,.int .u64 V0,.int .u64 V1,.int .u64 V2,.int .u64 V3],.int .i64 10,.int .i64 0]) (by simp only [results,Tryz.results55];go_simp) rfl ⟨rfl,bgo⟩
theorem ddec_nx (hcm:(cm==0)=false)(ho:¬ m<q0)(hex:exa=true)(R1:Nat)(R2 t:Int)(ht:min y m=t)
  (c27:∀ W v,Nz 2003 C v W->Calls Tryz.prog 117 #[v,.int .i64 (q0),.int .i64 t] W fun r w'=>∃ u,r=.returned (.tuple #[u,.int .i64 R2])/\Nz 2003 R1 u w'/\Below W.heap.size W w')
  (c19:∀ W v,Nz 2003 R1 v W->CB 111 #[.bool s,v,.int .i64 R2] W (.agg #[.int .i64 vc,.bool vs,.bool vg,.int .i64 vx,.int .u64 V0,.int .u64 V1,.int .u64 V2,.int .u64 V3]))
  (c28:∀ W,CQ 118 #[.bool true,.bool (decide (L+X<P-1+l))] W (.int .i64 0)) :
  CB 55 #[.int .i64 n,.int .i64 d,.bool s,vn,vd,.int .i64 x,.int .i64 y] w (.tuple #[.agg #[.int .i64 vc,.bool vs,.bool vg,.int .i64 vx,.int .u64 V0,.int .u64 V1,.int .u64 V2,.int .u64 V3],.int .i64 0,.int .i64 0]):=by
 have hsm:=cell_set_map
 subst hex
 go_enter Tryz.func55,Tryz.ntmps55
 go_wp2_with (first
  | (go_at_call 109;refine (c17 _ bgo).mono ?_;rintro r w1 ⟨rfl,hb1⟩;obtain ⟨_,_,_,_,hA1,_⟩:=wz w hb1;clear hb1)
  | (go_at_call 110;refine (c18 _ bgo).mono ?_;rintro r w2 ⟨rfl,rfl⟩)
  | (go_at_call 112;refine (c20 _ bgo).mono ?_;rintro r w3 ⟨rfl,hb3⟩;obtain ⟨_,_,_,_,hA3,_⟩:=wz w hb3;obtain ⟨_,_⟩:=zf hb3 w1.heap.size;clear hb3)
  | (go_at_call 113;refine (c21 _).mono ?_;rintro r w4 ⟨rfl,hb4⟩;obtain ⟨_,_,_,_,hA4,_⟩:=wz w hb4;obtain ⟨_,_⟩:=zf hb4 w1.heap.size;clear hb4)
  | (go_at_call 114;refine (c22 _ bgo).mono ?_;rintro r w5 ⟨va,vb,rfl,hb5,c23⟩;obtain ⟨_,_,_,_,hA5,_⟩:=wz w hb5;obtain ⟨_,_⟩:=zf hb5 w1.heap.size;clear hb5)
  | (go_at_call 99;refine c23.mono ?_;rintro r w6 ⟨v6,rfl,hv6,hb6⟩;obtain ⟨_,_,_,_,hA6,_⟩:=wz w hb6;obtain ⟨_,_⟩:=zf hb6 w1.heap.size;clear hb6)
  | (go_at_call 115;refine (c25 _).mono ?_;rintro r w7 ⟨v7,rfl,hv7,hb7⟩;have hq7:=hv6.next hb7;obtain ⟨_,_,_,_,hA7,_⟩:=wz w hb7;obtain ⟨_,_⟩:=zf hb7 w1.heap.size;clear hb7)
  | (go_at_call 57;refine (c24 _ _ _ hq7 hv7).mono ?_;rintro r w8 ⟨rfl,hb8⟩;have hq8:=hq7.next hb8;obtain ⟨_,_,_,_,hA8,_⟩:=wz w hb8;obtain ⟨_,_⟩:=zf hb8 w1.heap.size;clear hb8)
  | (go_at_call 117;refine (c27 _ _ hq8).mono ?_;rintro r w10 ⟨v10,rfl,hv10,hb10⟩;obtain ⟨_,_,_,_,hA10,_⟩:=wz w hb10;obtain ⟨_,_⟩:=zf hb10 w1.heap.size;clear hb10)
  | (go_at_call 111;refine (c19 _ _ hv10).mono ?_;rintro r w11 ⟨rfl,hb11⟩;obtain ⟨_,_,_,_,hA11,_⟩:=wz w hb11;obtain ⟨_,_⟩:=zf hb11 w1.heap.size;clear hb11)
  | (go_at_call 118;refine (c28 _).mono ?_;rintro r w12 ⟨rfl,rfl⟩))
 exact bodyPost_ret (v:=.tuple #[.agg #[.int .i64 vc,.bool vs,.bool vg,.int .i64 vx,.int .u64 V0,.int .u64 V1,.int .u64 V2,.int .u64 V3],.int .i64 0,.int .i64 0]) (by simp only [results,Tryz.results55];go_simp) rfl ⟨rfl,bgo⟩
theorem ddec_ni (hcm:(cm==0)=false)(ho:¬ m<q0)(hex:exa=false)(fl:Int)
  (c19:∀ W v,Nz 2003 C v W->CB 111 #[.bool s,v,.int .i64 (q0)] W (.agg #[.int .i64 vc,.bool vs,.bool vg,.int .i64 vx,.int .u64 V0,.int .u64 V1,.int .u64 V2,.int .u64 V3]))
  (c28:∀ W,CQ 118 #[.bool false,.bool (decide (L+X<P-1+l))] W (.int .i64 fl)) :
  CB 55 #[.int .i64 n,.int .i64 d,.bool s,vn,vd,.int .i64 x,.int .i64 y] w (.tuple #[.agg #[.int .i64 vc,.bool vs,.bool vg,.int .i64 vx,.int .u64 V0,.int .u64 V1,.int .u64 V2,.int .u64 V3],.int .i64 fl,.int .i64 0]):=by
 have hsm:=cell_set_map
 subst hex
 go_enter Tryz.func55,Tryz.ntmps55
 go_wp2_with (first
  | (go_at_call 109;refine (c17 _ bgo).mono ?_;rintro r w1 ⟨rfl,hb1⟩;obtain ⟨_,_,_,_,hA1,_⟩:=wz w hb1;clear hb1)
  | (go_at_call 110;refine (c18 _ bgo).mono ?_;rintro r w2 ⟨rfl,rfl⟩)
  | (go_at_call 112;refine (c20 _ bgo).mono ?_;rintro r w3 ⟨rfl,hb3⟩;obtain ⟨_,_,_,_,hA3,_⟩:=wz w hb3;obtain ⟨_,_⟩:=zf hb3 w1.heap.size;clear hb3)
  | (go_at_call 113;refine (c21 _).mono ?_;rintro r w4 ⟨rfl,hb4⟩;obtain ⟨_,_,_,_,hA4,_⟩:=wz w hb4;obtain ⟨_,_⟩:=zf hb4 w1.heap.size;clear hb4)
  | (go_at_call 114;refine (c22 _ bgo).mono ?_;rintro r w5 ⟨va,vb,rfl,hb5,c23⟩;obtain ⟨_,_,_,_,hA5,_⟩:=wz w hb5;obtain ⟨_,_⟩:=zf hb5 w1.heap.size;clear hb5)
  | (go_at_call 99;refine c23.mono ?_;rintro r w6 ⟨v6,rfl,hv6,hb6⟩;obtain ⟨_,_,_,_,hA6,_⟩:=wz w hb6;obtain ⟨_,_⟩:=zf hb6 w1.heap.size;clear hb6)
  | (go_at_call 115;refine (c25 _).mono ?_;rintro r w7 ⟨v7,rfl,hv7,hb7⟩;have hq7:=hv6.next hb7;obtain ⟨_,_,_,_,hA7,_⟩:=wz w hb7;obtain ⟨_,_⟩:=zf hb7 w1.heap.size;clear hb7)
  | (go_at_call 57;refine (c24 _ _ _ hq7 hv7).mono ?_;rintro r w8 ⟨rfl,hb8⟩;have hq8:=hq7.next hb8;obtain ⟨_,_,_,_,hA8,_⟩:=wz w hb8;obtain ⟨_,_⟩:=zf hb8 w1.heap.size;clear hb8)
  | (go_at_call 111;refine (c19 _ _ hq8).mono ?_;rintro r w11 ⟨rfl,hb11⟩;obtain ⟨_,_,_,_,hA11,_⟩:=wz w hb11;obtain ⟨_,_⟩:=zf hb11 w1.heap.size;clear hb11)
  | (go_at_call 118;refine (c28 _).mono ?_;rintro r w12 ⟨rfl,rfl⟩))
 exact bodyPost_ret (v:=.tuple #[.agg #[.int .i64 vc,.bool vs,.bool vg,.int .i64 vx,.int .u64 V0,.int .u64 V1,.int .u64 V2,.int .u64 V3],.int .i64 fl,.int .i64 0]) (by simp only [results,Tryz.results55];go_simp) rfl ⟨rfl,bgo⟩
theorem ddec_uo (hcm:(cm==0)=true)(T1:Nat)
  (c25b:∀ W,CE 115 #[.int .i64 (P-1)] W (NT 2001 T1)) (ho:m<q0+1)
  (c26:∀ W,CB 116 #[IDec n nm wd P ex l m pa dn,.int .i64 d,.bool s] W (.agg #[.int .i64 vc,.bool vs,.bool vg,.int .i64 vx,.int .u64 V0,.int .u64 V1,.int .u64 V2,.int .u64 V3])) :
  CB 55 #[.int .i64 n,.int .i64 d,.bool s,vn,vd,.int .i64 x,.int .i64 y] w (.tuple #[.agg #[.int .i64 vc,.bool vs,.bool vg,.int .i64 vx,.int .u64 V0,.int .u64 V1,.int .u64 V2,.int .u64 V3],.int .i64 10,.int .i64 0]):=by
 have hsm:=cell_set_map
 go_enter Tryz.func55,Tryz.ntmps55
 go_wp2_with (first
  | (go_at_call 109;refine (c17 _ bgo).mono ?_;rintro r w1 ⟨rfl,hb1⟩;obtain ⟨_,_,_,_,hA1,_⟩:=wz w hb1;clear hb1)
  | (go_at_call 110;refine (c18 _ bgo).mono ?_;rintro r w2 ⟨rfl,rfl⟩)
  | (go_at_call 112;refine (c20 _ bgo).mono ?_;rintro r w3 ⟨rfl,hb3⟩;obtain ⟨_,_,_,_,hA3,_⟩:=wz w hb3;obtain ⟨_,_⟩:=zf hb3 w1.heap.size;clear hb3)
  | (go_at_call 113;refine (c21 _).mono ?_;rintro r w4 ⟨rfl,hb4⟩;obtain ⟨_,_,_,_,hA4,_⟩:=wz w hb4;obtain ⟨_,_⟩:=zf hb4 w1.heap.size;clear hb4)
  | (go_at_call 114;refine (c22 _ bgo).mono ?_;rintro r w5 ⟨va,vb,rfl,hb5,c23⟩;obtain ⟨_,_,_,_,hA5,_⟩:=wz w hb5;obtain ⟨_,_⟩:=zf hb5 w1.heap.size;clear hb5)
  | (go_at_call 99;refine c23.mono ?_;rintro r w6 ⟨v6,rfl,hv6,hb6⟩;obtain ⟨_,_,_,_,hA6,_⟩:=wz w hb6;obtain ⟨_,_⟩:=zf hb6 w1.heap.size;clear hb6)
  | (have:=hq7;go_at_call 115;refine (c25b _).mono ?_;rintro r w9 ⟨v9,rfl,hv9,hb9⟩;obtain ⟨_,_,_,_,hA9,_⟩:=wz w hb9;obtain ⟨_,_⟩:=zf hb9 w1.heap.size;clear hb9)
  | (go_at_call 115;refine (c25 _).mono ?_;rintro r w7 ⟨v7,rfl,hv7,hb7⟩;have hq7:=hv6.next hb7;obtain ⟨_,_,_,_,hA7,_⟩:=wz w hb7;obtain ⟨_,_⟩:=zf hb7 w1.heap.size;clear hb7)
  | (go_at_call 57;refine (c24 _ _ _ hq7 hv7).mono ?_;rintro r w8 ⟨rfl,hb8⟩;have hq8:=hq7.next hb8;obtain ⟨_,_,_,_,hA8,_⟩:=wz w hb8;obtain ⟨_,_⟩:=zf hb8 w1.heap.size;clear hb8)
  | (go_at_call 116;refine (c26 _).mono ?_;rintro r w10 ⟨rfl,hb10⟩;obtain ⟨_,_,_,_,hA10,_⟩:=wz w hb10;obtain ⟨_,_⟩:=zf hb10 w1.heap.size;clear hb10))
 exact bodyPost_ret (v:=.tuple #[.agg #[.int .i64 vc,.bool vs,.bool vg,.int .i64 vx,.int .u64 V0,.int .u64 V1,.int .u64 V2,.int .u64 V3],.int .i64 10,.int .i64 0]) (by simp only [results,Tryz.results55];go_simp) rfl ⟨rfl,bgo⟩
theorem ddec_ux (hcm:(cm==0)=true)(T1:Nat)
  (c25b:∀ W,CE 115 #[.int .i64 (P-1)] W (NT 2001 T1)) (ho:¬ m<q0+1) (hex:exa=true) (R1:Nat) (R2 t:Int) (ht:min y m=t)
  (c27:∀ W v,Nz 2003 T1 v W->Calls Tryz.prog 117 #[v,.int .i64 (q0+1),.int .i64 t] W fun r w'=>∃ u,r=.returned (.tuple #[u,.int .i64 R2])/\Nz 2003 R1 u w'/\Below W.heap.size W w')
  (c19:∀ W v,Nz 2003 R1 v W->CB 111 #[.bool s,v,.int .i64 R2] W (.agg #[.int .i64 vc,.bool vs,.bool vg,.int .i64 vx,.int .u64 V0,.int .u64 V1,.int .u64 V2,.int .u64 V3]))
  (c28:∀ W,CQ 118 #[.bool true,.bool (decide (L+X<P-1+l))] W (.int .i64 0)) :
  CB 55 #[.int .i64 n,.int .i64 d,.bool s,vn,vd,.int .i64 x,.int .i64 y] w (.tuple #[.agg #[.int .i64 vc,.bool vs,.bool vg,.int .i64 vx,.int .u64 V0,.int .u64 V1,.int .u64 V2,.int .u64 V3],.int .i64 0,.int .i64 0]):=by
 have hsm:=cell_set_map
 subst hex
 go_enter Tryz.func55,Tryz.ntmps55
 go_wp2_with (first
  | (go_at_call 109;refine (c17 _ bgo).mono ?_;rintro r w1 ⟨rfl,hb1⟩;obtain ⟨_,_,_,_,hA1,_⟩:=wz w hb1;clear hb1)
  | (go_at_call 110;refine (c18 _ bgo).mono ?_;rintro r w2 ⟨rfl,rfl⟩)
  | (go_at_call 112;refine (c20 _ bgo).mono ?_;rintro r w3 ⟨rfl,hb3⟩;obtain ⟨_,_,_,_,hA3,_⟩:=wz w hb3;obtain ⟨_,_⟩:=zf hb3 w1.heap.size;clear hb3)
  | (go_at_call 113;refine (c21 _).mono ?_;rintro r w4 ⟨rfl,hb4⟩;obtain ⟨_,_,_,_,hA4,_⟩:=wz w hb4;obtain ⟨_,_⟩:=zf hb4 w1.heap.size;clear hb4)
  | (go_at_call 114;refine (c22 _ bgo).mono ?_;rintro r w5 ⟨va,vb,rfl,hb5,c23⟩;obtain ⟨_,_,_,_,hA5,_⟩:=wz w hb5;obtain ⟨_,_⟩:=zf hb5 w1.heap.size;clear hb5)
  | (go_at_call 99;refine c23.mono ?_;rintro r w6 ⟨v6,rfl,hv6,hb6⟩;obtain ⟨_,_,_,_,hA6,_⟩:=wz w hb6;obtain ⟨_,_⟩:=zf hb6 w1.heap.size;clear hb6)
  | (have:=hq7;go_at_call 115;refine (c25b _).mono ?_;rintro r w9 ⟨v9,rfl,hv9,hb9⟩;obtain ⟨_,_,_,_,hA9,_⟩:=wz w hb9;obtain ⟨_,_⟩:=zf hb9 w1.heap.size;clear hb9)
  | (go_at_call 115;refine (c25 _).mono ?_;rintro r w7 ⟨v7,rfl,hv7,hb7⟩;have hq7:=hv6.next hb7;obtain ⟨_,_,_,_,hA7,_⟩:=wz w hb7;obtain ⟨_,_⟩:=zf hb7 w1.heap.size;clear hb7)
  | (go_at_call 57;refine (c24 _ _ _ hq7 hv7).mono ?_;rintro r w8 ⟨rfl,hb8⟩;have hq8:=hq7.next hb8;obtain ⟨_,_,_,_,hA8,_⟩:=wz w hb8;obtain ⟨_,_⟩:=zf hb8 w1.heap.size;clear hb8)
  | (go_at_call 117;refine (c27 _ _ (nz_wide hv9.nz (by decide))).mono ?_;rintro r w10 ⟨v10,rfl,hv10,hb10⟩;obtain ⟨_,_,_,_,hA10,_⟩:=wz w hb10;obtain ⟨_,_⟩:=zf hb10 w1.heap.size;clear hb10)
  | (go_at_call 111;refine (c19 _ _ hv10).mono ?_;rintro r w11 ⟨rfl,hb11⟩;obtain ⟨_,_,_,_,hA11,_⟩:=wz w hb11;obtain ⟨_,_⟩:=zf hb11 w1.heap.size;clear hb11)
  | (go_at_call 118;refine (c28 _).mono ?_;rintro r w12 ⟨rfl,rfl⟩))
 exact bodyPost_ret (v:=.tuple #[.agg #[.int .i64 vc,.bool vs,.bool vg,.int .i64 vx,.int .u64 V0,.int .u64 V1,.int .u64 V2,.int .u64 V3],.int .i64 0,.int .i64 0]) (by simp only [results,Tryz.results55];go_simp) rfl ⟨rfl,bgo⟩
theorem ddec_ui (hcm:(cm==0)=true)(T1:Nat)
  (c25b:∀ W,CE 115 #[.int .i64 (P-1)] W (NT 2001 T1)) (ho:¬ m<q0+1) (hex:exa=false) (fl:Int)
  (c19:∀ W v,Nz 2003 T1 v W->CB 111 #[.bool s,v,.int .i64 (q0+1)] W (.agg #[.int .i64 vc,.bool vs,.bool vg,.int .i64 vx,.int .u64 V0,.int .u64 V1,.int .u64 V2,.int .u64 V3]))
  (c28:∀ W,CQ 118 #[.bool false,.bool (decide (L+X<P-1+l))] W (.int .i64 fl)) :
  CB 55 #[.int .i64 n,.int .i64 d,.bool s,vn,vd,.int .i64 x,.int .i64 y] w (.tuple #[.agg #[.int .i64 vc,.bool vs,.bool vg,.int .i64 vx,.int .u64 V0,.int .u64 V1,.int .u64 V2,.int .u64 V3],.int .i64 fl,.int .i64 0]):=by
 have hsm:=cell_set_map
 subst hex
 go_enter Tryz.func55,Tryz.ntmps55
 go_wp2_with (first
  | (go_at_call 109;refine (c17 _ bgo).mono ?_;rintro r w1 ⟨rfl,hb1⟩;obtain ⟨_,_,_,_,hA1,_⟩:=wz w hb1;clear hb1)
  | (go_at_call 110;refine (c18 _ bgo).mono ?_;rintro r w2 ⟨rfl,rfl⟩)
  | (go_at_call 112;refine (c20 _ bgo).mono ?_;rintro r w3 ⟨rfl,hb3⟩;obtain ⟨_,_,_,_,hA3,_⟩:=wz w hb3;obtain ⟨_,_⟩:=zf hb3 w1.heap.size;clear hb3)
  | (go_at_call 113;refine (c21 _).mono ?_;rintro r w4 ⟨rfl,hb4⟩;obtain ⟨_,_,_,_,hA4,_⟩:=wz w hb4;obtain ⟨_,_⟩:=zf hb4 w1.heap.size;clear hb4)
  | (go_at_call 114;refine (c22 _ bgo).mono ?_;rintro r w5 ⟨va,vb,rfl,hb5,c23⟩;obtain ⟨_,_,_,_,hA5,_⟩:=wz w hb5;obtain ⟨_,_⟩:=zf hb5 w1.heap.size;clear hb5)
  | (go_at_call 99;refine c23.mono ?_;rintro r w6 ⟨v6,rfl,hv6,hb6⟩;obtain ⟨_,_,_,_,hA6,_⟩:=wz w hb6;obtain ⟨_,_⟩:=zf hb6 w1.heap.size;clear hb6)
  | (have:=hq7;go_at_call 115;refine (c25b _).mono ?_;rintro r w9 ⟨v9,rfl,hv9,hb9⟩;obtain ⟨_,_,_,_,hA9,_⟩:=wz w hb9;obtain ⟨_,_⟩:=zf hb9 w1.heap.size;clear hb9)
  | (go_at_call 115;refine (c25 _).mono ?_;rintro r w7 ⟨v7,rfl,hv7,hb7⟩;have hq7:=hv6.next hb7;obtain ⟨_,_,_,_,hA7,_⟩:=wz w hb7;obtain ⟨_,_⟩:=zf hb7 w1.heap.size;clear hb7)
  | (go_at_call 57;refine (c24 _ _ _ hq7 hv7).mono ?_;rintro r w8 ⟨rfl,hb8⟩;have hq8:=hq7.next hb8;obtain ⟨_,_,_,_,hA8,_⟩:=wz w hb8;obtain ⟨_,_⟩:=zf hb8 w1.heap.size;clear hb8)
  | (go_at_call 111;refine (c19 _ _ (nz_wide hv9.nz (by decide))).mono ?_;rintro r w11 ⟨rfl,hb11⟩;obtain ⟨_,_,_,_,hA11,_⟩:=wz w hb11;obtain ⟨_,_⟩:=zf hb11 w1.heap.size;clear hb11)
  | (go_at_call 118;refine (c28 _).mono ?_;rintro r w12 ⟨rfl,rfl⟩))
 exact bodyPost_ret (v:=.tuple #[.agg #[.int .i64 vc,.bool vs,.bool vg,.int .i64 vx,.int .u64 V0,.int .u64 V1,.int .u64 V2,.int .u64 V3],.int .i64 fl,.int .i64 0]) (by simp only [results,Tryz.results55];go_simp) rfl ⟨rfl,bgo⟩
end
end
end Go.Proofs.YtahfkpjhlbiamaaGreatDoor
