/-
  Texts that the proof leans on.
-/
import Derived.Test.YtahfkpjhlbiamaaGreatDoorL24
import Derived.Test.YtahfkpjhlbiamaaGreatDoorL1
import Derived.Deep.Cut
import Derived.Deep.CutRange
import Derived.Deep.RegionWith
set_option maxHeartbeats 8000000
set_option linter.unusedVariables false
set_option linter.unusedSectionVars false
set_option linter.unusedSimpArgs false
set_option maxRecDepth 20000
namespace Go.Proofs.YtahfkpjhlbiamaaGreatDoor
open Go.RowKit
section
attribute [local irreducible] W4
def wiZ (f:Nat)(l m lead x:Int):Int:=min (max x (l-2-lead)) (m+((f:Int)+1)-lead)
theorem within_any (n:Int)(nm:ByteArray)(wd:Int)(f e:Nat)(l m lead x:Int)(w:World)(hf:f<=300)(hl:-100000<=l/\l<=100000)(hm:-100000<=m/\m<=100000)(hd:-100000<=lead/\lead<=100000) :
  CB 148 #[DI n nm wd f e l m,.int .i64 lead,.int .i64 x] w (.int .i64 (wiZ f l m lead x)):=by
 go_enter Tryz.func148,Tryz.ntmps148
 go_wp2
 go_ret
 exact ⟨by first|rfl|simp [wiZ],bgo⟩
section
variable (n:Int)(nm:ByteArray)(wd:Int)(f e:Nat)(l m d:Int)(s:Bool)(R:Nat)(E:Int)(w:World)(hT:Tab w)
include hT
theorem overflow_i (h:inB d s=true)
  (c56:∀ W,Tab W->CB 23 #[.int .i64 n,.agg #[.int .i64 2,.bool s,.bool false,.int .i64 0,.int .u64 0,.int .u64 0,.int .u64 0,.int .u64 0]] W (.tuple #[A4 R,.int .i64 E])) :
  CB 151 #[DI n nm wd f e l m,.int .i64 d,.bool s] w (.tuple #[A4 R,.int .i64 10,.int .i64 E]):=by
 have hsm:=cell_set_map
 have c64:=infinite_any d s
 rw [h] at c64
 go_enter Tryz.func151,Tryz.ntmps151
 go_wp2_with (first
  | (go_at_call 176;refine (c64 _).mono ?_;rintro r w0 ⟨rfl,rfl⟩)
  | (go_at_call 23;refine (c56 _ (hT.go bgo)).mono ?_;rintro r w1 ⟨rfl,hb1⟩;obtain ⟨_,_,_,_,hA1,_⟩:=wz w hb1;obtain ⟨_,_⟩:=zf hb1 (w.heap.size+1);obtain ⟨_,_⟩:=zf hb1 (w.heap.size+2);obtain ⟨_,_⟩:=zf hb1 (w.heap.size+1+1);clear hb1))
 exact bodyPost_ret (v:=.tuple #[A4 R,.int .i64 10,.int .i64 E]) (by simp only [results,Tryz.results151];go_simp) rfl ⟨rfl,bgo⟩
theorem overflow_l (h:inB d s=false)
  (c65:∀ W,Tab W->CB 191 #[.int .i64 n,.bool s] W (.tuple #[A4 R,.int .i64 E])) :
  CB 151 #[DI n nm wd f e l m,.int .i64 d,.bool s] w (.tuple #[A4 R,.int .i64 10,.int .i64 E]):=by
 have hsm:=cell_set_map
 have c64:=infinite_any d s
 rw [h] at c64
 go_enter Tryz.func151,Tryz.ntmps151
 go_wp2_with (first
  | (go_at_call 176;refine (c64 _).mono ?_;rintro r w0 ⟨rfl,rfl⟩)
  | (go_at_call 191;refine (c65 _ (hT.go bgo)).mono ?_;rintro r w1 ⟨rfl,hb1⟩;obtain ⟨_,_,_,_,hA1,_⟩:=wz w hb1;obtain ⟨_,_⟩:=zf hb1 (w.heap.size+1);obtain ⟨_,_⟩:=zf hb1 (w.heap.size+2);obtain ⟨_,_⟩:=zf hb1 (w.heap.size+1+1);clear hb1))
 exact bodyPost_ret (v:=.tuple #[A4 R,.int .i64 10,.int .i64 E]) (by simp only [results,Tryz.results151];go_simp) rfl ⟨rfl,bgo⟩
end
abbrev IZ:Value:=.agg #[.int .i64 0,.string ⟨#[]⟩,.int .i64 0,.int .i64 0,.int .i64 0,.int .i64 0,.int .i64 0,.int .i64 0,.int .i64 0,.bool false]
section
variable (n d:Int)(nm:ByteArray)(wd:Int)(f e:Nat)(l m:Int)(N D:Nat)(vn vd I:Value)(w:World)(hT:Tab w)
 (c26:∀ W,Below w.heap.size w W->CQ 110 #[vn] W (.int .i64 (bl N:Int)))
 (c26d:∀ W,Below w.heap.size w W->CQ 110 #[vd] W (.int .i64 (bl D:Int)))
include hT c26 c26d
theorem check_k (hd:decide (knB d)=true)(hD:(((bl D:Nat):Int)==0)=false)(hN:¬ (51200:Int)<(bl N:Int))(hDl:¬ (51200:Int)<(bl D:Int))(c52:∀ W,Tab W->CB 53 #[.int .i64 n] W (.tuple #[DI n nm wd f e l m,.int .i64 0])):CB 145 #[.int .i64 n,.int .i64 d,vn,vd] w (.tuple #[DI n nm wd f e l m,.int .i64 0]):=by
 have hsm:=cell_set_map
 have c53:=known_any d
 rw [hd] at c53
 go_enter Tryz.func145,Tryz.ntmps145
 go_wp2_with (first
  | (go_at_call 53;refine (c52 _ (hT.go bgo)).mono ?_;rintro r w1 ⟨rfl,hb1⟩;obtain ⟨_,_,_,_,hA1,_⟩:=wz w hb1;clear hb1)
  | (go_at_call 44;refine (c53 _).mono ?_;rintro r w2 ⟨rfl,rfl⟩)
  | (go_at_call_of 110 vn;refine (c26 _ bgo).mono ?_;rintro r w3 ⟨rfl,rfl⟩)
  | (go_at_call_of 110 vd;refine (c26d _ bgo).mono ?_;rintro r w3 ⟨rfl,rfl⟩))
 exact bodyPost_ret (v:=.tuple #[DI n nm wd f e l m,.int .i64 0]) (by simp only [results,Tryz.results145];go_simp) rfl ⟨rfl,bgo⟩
end
end
section
structure Ib (w:World) (g:Nat) (n:Int) (nm:ByteArray) (wd:Int) (f e:Nat) (l m:Int):Prop where
 c0:w.cell? ⟨g,0,none⟩=some (.int .i64 n)
 c1:w.cell? ⟨g,1,none⟩=some (.string nm)
 c2:w.cell? ⟨g,2,none⟩=some (.int .i64 2)
 c3:w.cell? ⟨g,3,none⟩=some (.int .i64 wd)
 c4:w.cell? ⟨g,4,none⟩=some (.int .i64 ((f:Int)+1))
 c5:w.cell? ⟨g,5,none⟩=some (.int .i64 e)
 c6:w.cell? ⟨g,6,none⟩=some (.int .i64 l)
 c7:w.cell? ⟨g,7,none⟩=some (.int .i64 m)
 c8:w.cell? ⟨g,8,none⟩=some (.int .i64 ((f:Int)-1))
 c9:w.cell? ⟨g,9,none⟩=some (.bool false)
theorem Ib.next {w w':World}{g:Nat}{n:Int}{nm:ByteArray}{wd:Int}{f e:Nat}{l m:Int}(h:Ib w g n nm wd f e l m)(hg:g<w.heap.size)(hb:Below w.heap.size w w'):Ib w' g n nm wd f e l m :=
 ⟨by rw [hb.cell (p:=⟨g,0,none⟩) hg,h.c0],by rw [hb.cell (p:=⟨g,1,none⟩) hg,h.c1],by rw [hb.cell (p:=⟨g,2,none⟩) hg,h.c2],by rw [hb.cell (p:=⟨g,3,none⟩) hg,h.c3],by rw [hb.cell (p:=⟨g,4,none⟩) hg,h.c4],by rw [hb.cell (p:=⟨g,5,none⟩) hg,h.c5],by rw [hb.cell (p:=⟨g,6,none⟩) hg,h.c6],by rw [hb.cell (p:=⟨g,7,none⟩) hg,h.c7],by rw [hb.cell (p:=⟨g,8,none⟩) hg,h.c8],by rw [hb.cell (p:=⟨g,9,none⟩) hg,h.c9]⟩
theorem zeros4 {w:World}{g:Nat}{v:Value}(h0:w.cell? ⟨g,0,none⟩=some v)(h1:w.cell? ⟨g,1,none⟩=some v)(h2:w.cell? ⟨g,2,none⟩=some v)(h3:w.cell? ⟨g,3,none⟩=some v):∀ i,i<4->w.cell? ⟨g,i,none⟩=some v:=fun i hi=>by
 have:i=0∨i=1∨i=2∨i=3:=by omega
 rcases this with rfl|rfl|rfl|rfl<;>assumption
attribute [local irreducible] W4 Nz Nt
section
variable (n d x:Int)(s:Bool)(vn vd:Value)(w:World)(hT:Tab w)
variable (nm:ByteArray)(wd:Int)(f e:Nat)(l m:Int)(N C:Nat)(R:Nat)(E fl lead x1 q0:Int)(ex:Bool)
 (c25:∀ W,Below w.heap.size w W->CB 145 #[.int .i64 n,.int .i64 d,vn,vd] W (.tuple #[DI n nm wd f e l m,.int .i64 0]))
 (c26:∀ W,Below w.heap.size w W->CQ 110 #[vn] W (.int .i64 (bl N:Int)))
include hT c25 c26
theorem binary_z (hN:(((bl N:Nat):Int)==0)=true)
  (c27:∀ W,Tab W->CB 146 #[DI n nm wd f e l m,.bool s,.slice none 0 0,.int .i64 l,.int .i64 0] W (.tuple #[A4 R,.int .i64 0,.int .i64 E])) :
  CB 82 #[.int .i64 n,.int .i64 d,.bool s,vn,vd,.int .i64 x] w (.tuple #[A4 R,.int .i64 0,.int .i64 E]):=by
 have hsm:=cell_set_map
 go_enter Tryz.func82,Tryz.ntmps82
 go_wp2_with (first
  | (go_at_call 145;refine (c25 _ bgo).mono ?_;rintro r w1 ⟨rfl,hb1⟩;obtain ⟨_,_,_,_,hA1,_⟩:=wz w hb1;clear hb1)
  | (go_at_call 110;refine (c26 _ bgo).mono ?_;rintro r w2 ⟨rfl,rfl⟩)
  | (go_at_call 146;refine (c27 _ (hT.go bgo)).mono ?_;rintro r w3 ⟨rfl,hb3⟩;obtain ⟨_,_,_,_,hA3,_⟩:=wz w hb3;obtain ⟨_,_⟩:=zf hb3 w1.heap.size;clear hb3))
 exact bodyPost_ret (v:=.tuple #[A4 R,.int .i64 0,.int .i64 E]) (by simp only [results,Tryz.results82];go_simp) rfl ⟨rfl,bgo⟩
variable (hf:f<=300)(hl:-100000<=l/\l<=100000)(hm:-100000<=m/\m<=100000)(hld:-100000<=lead/\lead<=100000)(hx1:-300000<=x1/\x1<=300000)(hq0:q0=max l (lead+x1-((f:Int)+1)+1))
 (hN:(((bl N:Nat):Int)==0)=false)
 (c28:∀ W,Below w.heap.size w W->CB 147 #[vn,vd] W (.int .i64 lead))
 (c29:∀ W,CB 148 #[DI n nm wd f e l m,.int .i64 lead,.int .i64 x] W (.int .i64 x1))
 (c30:∀ W k,k=x1-q0->Below w.heap.size w W->Calls Tryz.prog 149 #[vn,vd,.int .i64 k] W fun r w'=>∃ va vb,r=.returned (.tuple #[va,vb])/\Below W.heap.size W w'/\(Calls Tryz.prog 99 #[.int .i64 d,.bool s,va,vb] w' fun r w''=>∃ v,r=.returned (.tuple #[v,.bool ex])/\Nz 2003 C v w''/\Below w'.heap.size w' w''))
 (c26c:∀ W v,Nz 2003 C v W->CQ 110 #[v] W (.int .i64 (bl C:Int)))
 (c31:∀ W v,Nz 2003 C v W->Calls Tryz.prog 150 #[v,.int .i64 1] W fun r w'=>∃ v' b,r=.returned (.tuple #[v',.bool b])/\Nz 2003 (C/2) v' w'/\Below W.heap.size W w')
include hf hl hm hld hx1 hq0 hN c28 c29 c30 c26c c31
theorem binary_o (C':Nat)(q':Int)(hup:(f:Int)+1<(bl C:Int)->C'=C/2/\q'=q0+1)(hno:¬ (f:Int)+1<(bl C:Int)->C'=C/\q'=q0)
  (ho:m<q')
  (c32:∀ W,Tab W->CB 151 #[DI n nm wd f e l m,.int .i64 d,.bool s] W (.tuple #[A4 R,.int .i64 fl,.int .i64 E])) :
  CB 82 #[.int .i64 n,.int .i64 d,.bool s,vn,vd,.int .i64 x] w (.tuple #[A4 R,.int .i64 fl,.int .i64 E]):=by
 have hsm:=cell_set_map
 have hds:∀ W:World,W.drew.heap.size=W.heap.size:=fun W=>by simp
 have hqb:-500000<=q0/\q0<=500000:=by omega
 go_enter Tryz.func82,Tryz.ntmps82
 go_upto_region 11 with (first
  | (go_at_call 145;refine (c25 _ bgo).mono ?_;rintro r w1 ⟨rfl,hb1⟩;obtain ⟨_,_,_,_,hA1,_⟩:=wz w hb1;clear hb1)
  | (go_at_call 110;refine (c26 _ bgo).mono ?_;rintro r w2 ⟨rfl,rfl⟩)
  | (go_at_call 147;refine (c28 _ bgo).mono ?_;rintro r w3 ⟨rfl,hb3⟩;obtain ⟨_,_,_,_,hA3,_⟩:=wz w hb3;obtain ⟨_,_⟩:=zf hb3 w1.heap.size;clear hb3)
  | (go_at_call 148;refine (c29 _).mono ?_;rintro r w4 ⟨rfl,hb4⟩;obtain ⟨_,_,_,_,hA4,_⟩:=wz w hb4;obtain ⟨_,_⟩:=zf hb4 w1.heap.size;clear hb4)
  | (go_at_call 149;refine (c30 _ _ (by omega) bgo).mono ?_;rintro r w10 ⟨va,vb,rfl,hb10,c30b⟩;obtain ⟨_,_,_,_,hA10,_⟩:=wz w hb10;obtain ⟨_,_⟩:=zf hb10 w1.heap.size;clear hb10)
  | (go_at_call 99;refine c30b.mono ?_;rintro r w5 ⟨vc,rfl,hvc,hb5⟩;obtain ⟨_,_,_,_,hA5,_⟩:=wz w hb5;obtain ⟨_,_⟩:=zf hb5 w1.heap.size;clear hb5))
 go_cut [83] from 22 (fun t wc=>t=.bool (decide ((f:Int)+1<(bl C:Int)))/\Nz 2003 C vc wc/\Ib wc w1.heap.size n nm wd f e l m/\(∀ i,i<4->wc.cell? ⟨w.heap.size,i,none⟩=some (.int .u64 0))/\(∀ i,wc.frozen? ⟨w.heap.size,i,none⟩=false)/\Below w.heap.size w wc/\w1.heap.size<wc.heap.size)
 case first =>
  go_region_with (go_at_call 110;refine (c26c _ _ (hvc.next bgo)).mono ?_;rintro r w6 ⟨rfl,rfl⟩)
  all_goals (
   go_wp2_with fail
   go_meet
   exact ⟨rfl,hvc.next bgo,⟨by go_simp,by go_simp,by go_simp,by go_simp,by go_simp,by go_simp,by go_simp,by go_simp,by go_simp,by go_simp⟩,zeros4 (by go_simp) (by go_simp) (by go_simp) (by go_simp),fun i=>by go_simp,bgo,by first|assumption|(simp;done)|(simp;omega)|omega⟩)
 case rest =>
  obtain ⟨ht,hvc',fI,fz,ffr,hbw,hsz⟩:=hcut
  obtain ⟨y0,y1,y2,y3,y4,y5,y6,y7,y8,y9⟩:=fI
  have hl0:w.heap.size<wc.heap.size:=by omega
  have hle0:=Nat.le_of_lt hl0
  have hle1:=Nat.le_of_lt hsz
  have z0:=fz 0 (by decide)
  have z1:=fz 1 (by decide)
  have z2:=fz 2 (by decide)
  have z3:=fz 3 (by decide)
  go_upto_if 83 with fail
  go_cut [18,19] from 22 (fun t18 t19 wc=>t18=.int .i64 q'/\Nz 2003 C' t19 wc/\Ib wc w1.heap.size n nm wd f e l m/\(∀ i,i<4->wc.cell? ⟨w.heap.size,i,none⟩=some (.int .u64 0))/\(∀ i,wc.frozen? ⟨w.heap.size,i,none⟩=false)/\Below w.heap.size w wc/\w1.heap.size<wc.heap.size)
  case first =>
   by_cases hu:(f:Int)+1<(bl C:Int)
   ·obtain ⟨rfl,rfl⟩:=hup (by omega)
    rw [decide_eq_true hu] at ht
    subst ht
    clear hup hno
    go_wp2_with (go_at_call 150;refine (c31 _ _ hvc').mono ?_;rintro r w7 ⟨v7,b7,rfl,h7,hb7⟩;obtain ⟨_,_,_,_,hA7,_⟩:=wz w hb7;obtain ⟨_,_⟩:=zf hb7 w1.heap.size;clear hb7)
    go_meet
    exact ⟨by first|rfl|(congr 1;omega),h7,⟨by go_simp,by go_simp,by go_simp,by go_simp,by go_simp,by go_simp,by go_simp,by go_simp,by go_simp,by go_simp⟩,zeros4 (by go_simp) (by go_simp) (by go_simp) (by go_simp),fun i=>by go_simp,bgo,by first|assumption|(simp;done)|(simp;omega)|omega⟩
   ·obtain ⟨rfl,rfl⟩:=hno (by omega)
    rw [decide_eq_false hu] at ht
    subst ht
    clear hup hno
    go_wp2
    go_meet
    exact ⟨by first|rfl|(congr 1;omega),hvc',⟨by go_simp,by go_simp,by go_simp,by go_simp,by go_simp,by go_simp,by go_simp,by go_simp,by go_simp,by go_simp⟩,zeros4 (by go_simp) (by go_simp) (by go_simp) (by go_simp),fun i=>by go_simp,bgo,by first|assumption|(simp;done)|(simp;omega)|omega⟩
  case rest =>
   clear fz ffr hbw hsz y0 y1 y2 y3 y4 y5 y6 y7 y8 y9 hl0 hle0 hle1 z0 z1 z2 z3 ht hvc'
   obtain ⟨rfl,hv',fI,fz,ffr,hbw,hsz⟩:=hcut
   obtain ⟨y0,y1,y2,y3,y4,y5,y6,y7,y8,y9⟩:=fI
   have hl0:w.heap.size<wc.heap.size:=by omega
   have hle0:=Nat.le_of_lt hl0
   have hle1:=Nat.le_of_lt hsz
   have z0:=fz 0 (by decide)
   have z1:=fz 1 (by decide)
   have z2:=fz 2 (by decide)
   have z3:=fz 3 (by decide)
   go_wp2_with (go_at_call 151;refine (c32 _ (hT.go bgo)).mono ?_;rintro r w8 ⟨rfl,hb8⟩;obtain ⟨_,_,_,_,hA8,_⟩:=wz w hb8;obtain ⟨_,_⟩:=zf hb8 w1.heap.size;clear hb8)
   exact bodyPost_ret (v:=.tuple #[A4 R,.int .i64 fl,.int .i64 E]) (by simp only [results,Tryz.results82];go_simp) rfl ⟨rfl,bgo⟩
theorem binary_f (C':Nat)(q':Int)(hup:(f:Int)+1<(bl C:Int)->C'=C/2/\q'=q0+1)(hno:¬ (f:Int)+1<(bl C:Int)->C'=C/\q'=q0)
  (ho:¬ m<q') (fl0:Int) (hfl:Hid (fl=if ex then 0 else if decide (lead+x1<(f:Int)+l) then 12 else 8))
  (c27:∀ W v,Tab W->Nz 2003 C' v W->CB 146 #[DI n nm wd f e l m,.bool s,v,.int .i64 q',.int .i64 fl] W (.tuple #[A4 R,.int .i64 fl,.int .i64 E])) :
  CB 82 #[.int .i64 n,.int .i64 d,.bool s,vn,vd,.int .i64 x] w (.tuple #[A4 R,.int .i64 fl,.int .i64 E]):=by
 have hsm:=cell_set_map
 have hds:∀ W:World,W.drew.heap.size=W.heap.size:=fun W=>by simp
 have hqb:-500000<=q0/\q0<=500000:=by omega
 go_enter Tryz.func82,Tryz.ntmps82
 go_upto_region 11 with (first
  | (go_at_call 145;refine (c25 _ bgo).mono ?_;rintro r w1 ⟨rfl,hb1⟩;obtain ⟨_,_,_,_,hA1,_⟩:=wz w hb1;clear hb1)
  | (go_at_call 110;refine (c26 _ bgo).mono ?_;rintro r w2 ⟨rfl,rfl⟩)
  | (go_at_call 147;refine (c28 _ bgo).mono ?_;rintro r w3 ⟨rfl,hb3⟩;obtain ⟨_,_,_,_,hA3,_⟩:=wz w hb3;obtain ⟨_,_⟩:=zf hb3 w1.heap.size;clear hb3)
  | (go_at_call 148;refine (c29 _).mono ?_;rintro r w4 ⟨rfl,hb4⟩;obtain ⟨_,_,_,_,hA4,_⟩:=wz w hb4;obtain ⟨_,_⟩:=zf hb4 w1.heap.size;clear hb4)
  | (go_at_call 149;refine (c30 _ _ (by omega) bgo).mono ?_;rintro r w10 ⟨va,vb,rfl,hb10,c30b⟩;obtain ⟨_,_,_,_,hA10,_⟩:=wz w hb10;obtain ⟨_,_⟩:=zf hb10 w1.heap.size;clear hb10)
  | (go_at_call 99;refine c30b.mono ?_;rintro r w5 ⟨vc,rfl,hvc,hb5⟩;obtain ⟨_,_,_,_,hA5,_⟩:=wz w hb5;obtain ⟨_,_⟩:=zf hb5 w1.heap.size;clear hb5))
 go_cut [83] from 22 (fun t wc=>t=.bool (decide ((f:Int)+1<(bl C:Int)))/\Nz 2003 C vc wc/\Ib wc w1.heap.size n nm wd f e l m/\(∀ i,i<4->wc.cell? ⟨w.heap.size,i,none⟩=some (.int .u64 0))/\(∀ i,wc.frozen? ⟨w.heap.size,i,none⟩=false)/\Below w.heap.size w wc/\w1.heap.size<wc.heap.size)
 case first =>
  go_region_with (go_at_call 110;refine (c26c _ _ (hvc.next bgo)).mono ?_;rintro r w6 ⟨rfl,rfl⟩)
  all_goals (
   go_wp2_with fail
   go_meet
   exact ⟨rfl,hvc.next bgo,⟨by go_simp,by go_simp,by go_simp,by go_simp,by go_simp,by go_simp,by go_simp,by go_simp,by go_simp,by go_simp⟩,zeros4 (by go_simp) (by go_simp) (by go_simp) (by go_simp),fun i=>by go_simp,bgo,by first|assumption|(simp;done)|(simp;omega)|omega⟩)
 case rest =>
  obtain ⟨ht,hvc',fI,fz,ffr,hbw,hsz⟩:=hcut
  obtain ⟨y0,y1,y2,y3,y4,y5,y6,y7,y8,y9⟩:=fI
  have hl0:w.heap.size<wc.heap.size:=by omega
  have hle0:=Nat.le_of_lt hl0
  have hle1:=Nat.le_of_lt hsz
  have z0:=fz 0 (by decide)
  have z1:=fz 1 (by decide)
  have z2:=fz 2 (by decide)
  have z3:=fz 3 (by decide)
  go_upto_if 83 with fail
  go_cut [18,19] from 22 (fun t18 t19 wc=>t18=.int .i64 q'/\Nz 2003 C' t19 wc/\Ib wc w1.heap.size n nm wd f e l m/\(∀ i,i<4->wc.cell? ⟨w.heap.size,i,none⟩=some (.int .u64 0))/\(∀ i,wc.frozen? ⟨w.heap.size,i,none⟩=false)/\Below w.heap.size w wc/\w1.heap.size<wc.heap.size)
  case first =>
   by_cases hu:(f:Int)+1<(bl C:Int)
   ·obtain ⟨rfl,rfl⟩:=hup (by omega)
    rw [decide_eq_true hu] at ht
    subst ht
    clear hup hno
    go_wp2_with (go_at_call 150;refine (c31 _ _ hvc').mono ?_;rintro r w7 ⟨v7,b7,rfl,h7,hb7⟩;obtain ⟨_,_,_,_,hA7,_⟩:=wz w hb7;obtain ⟨_,_⟩:=zf hb7 w1.heap.size;clear hb7)
    go_meet
    exact ⟨by first|rfl|(congr 1;omega),h7,⟨by go_simp,by go_simp,by go_simp,by go_simp,by go_simp,by go_simp,by go_simp,by go_simp,by go_simp,by go_simp⟩,zeros4 (by go_simp) (by go_simp) (by go_simp) (by go_simp),fun i=>by go_simp,bgo,by first|assumption|(simp;done)|(simp;omega)|omega⟩
   ·obtain ⟨rfl,rfl⟩:=hno (by omega)
    rw [decide_eq_false hu] at ht
    subst ht
    clear hup hno
    go_wp2
    go_meet
    exact ⟨by first|rfl|(congr 1;omega),hvc',⟨by go_simp,by go_simp,by go_simp,by go_simp,by go_simp,by go_simp,by go_simp,by go_simp,by go_simp,by go_simp⟩,zeros4 (by go_simp) (by go_simp) (by go_simp) (by go_simp),fun i=>by go_simp,bgo,by first|assumption|(simp;done)|(simp;omega)|omega⟩
  case rest =>
   clear fz ffr hbw hsz y0 y1 y2 y3 y4 y5 y6 y7 y8 y9 hl0 hle0 hle1 z0 z1 z2 z3 ht hvc'
   obtain ⟨rfl,hv',fI,fz,ffr,hbw,hsz⟩:=hcut
   obtain ⟨y0,y1,y2,y3,y4,y5,y6,y7,y8,y9⟩:=fI
   have hl0:w.heap.size<wc.heap.size:=by omega
   have hle0:=Nat.le_of_lt hl0
   have hle1:=Nat.le_of_lt hsz
   have z0:=fz 0 (by decide)
   have z1:=fz 1 (by decide)
   have z2:=fz 2 (by decide)
   have z3:=fz 3 (by decide)
   have c33:=raised_any ex (decide (lead+x1<(f:Int)+l))
   rw [← hfl.out] at c33
   clear hfl
   go_wp2
   go_region_with (first
    | (go_at_call 118;refine (c33 _).mono ?_;rintro r w8 ⟨rfl,rfl⟩)
    | (go_at_call 146;refine (c27 _ _ (hT.go bgo) (hv'.next bgo)).mono ?_;rintro r w9 ⟨rfl,hb9⟩;obtain ⟨_,_,_,_,hA9,_⟩:=wz w hb9;obtain ⟨_,_⟩:=zf hb9 w1.heap.size;clear hb9))
   all_goals (
    go_wp2_with fail
    exact bodyPost_ret (v:=.tuple #[A4 R,.int .i64 fl,.int .i64 E]) (by simp only [results,Tryz.results82];go_simp) rfl ⟨rfl,bgo⟩)
end
end
end Go.Proofs.YtahfkpjhlbiamaaGreatDoor
