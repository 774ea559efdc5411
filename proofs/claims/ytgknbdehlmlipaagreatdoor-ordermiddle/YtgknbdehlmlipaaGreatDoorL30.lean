/-
  Texts that the proof leans on.
-/
import Derived.Test.YtgknbdehlmlipaaGreatDoorL24
import Derived.Test.YtgknbdehlmlipaaGreatDoorL2
import Derived.Deep.Cut
import Derived.Deep.CutRange
import Derived.Deep.RegionWith
import Derived.Test.YtgknbdehlmlipaaGreatDoorL23
import Derived.Test.YtgknbdehlmlipaaGreatDoorL20
import Derived.Test.YtgknbdehlmlipaaGreatDoorL18
import Derived.Test.YtgknbdehlmlipaaGreatDoorL22
set_option maxHeartbeats 8000000
set_option linter.unusedVariables false
set_option linter.unusedSectionVars false
set_option linter.unusedSimpArgs false
set_option maxRecDepth 20000
namespace Go.Proofs.YtgknbdehlmlipaaGreatDoor
open Go.RowKit
section
attribute [local irreducible] W4
def wiZ (f:Nat)(l m lead x:Int):Int:=min (max x (l-2-lead)) (m+((f:Int)+1)-lead)
theorem within_any (n:Int)(nm:ByteArray)(wd:Int)(f e:Nat)(l m lead x:Int)(w:World)(hf:f<=300)(hl:-100000<=l/\l<=100000)(hm:-100000<=m/\m<=100000)(hd:-100000<=lead/\lead<=100000) :
  CB 137 #[DI n nm wd f e l m,.int .i64 lead,.int .i64 x] w (.int .i64 (wiZ f l m lead x)):=by
 go_enter Tryz.func137,Tryz.ntmps137
 go_wp2
 go_ret
 exact ⟨by first|rfl|simp [wiZ],bgo⟩
section
variable (n:Int)(nm:ByteArray)(wd:Int)(f e:Nat)(l m d:Int)(s:Bool)(R:Nat)(E:Int)(w:World)(hT:Tab w)
include hT
theorem overflow_i (h:inB d s=true)
  (c56:∀ W,Tab W->CB 70 #[.int .i64 n,.agg #[.int .i64 2,.bool s,.bool false,.int .i64 0,.int .u64 0,.int .u64 0,.int .u64 0,.int .u64 0]] W (.tuple #[A4 R,.int .i64 E])) :
  CB 141 #[DI n nm wd f e l m,.int .i64 d,.bool s] w (.tuple #[A4 R,.int .i64 10,.int .i64 E]):=by
 have hsm:=cell_set_map
 have c64:=infinite_any d s
 rw [h] at c64
 go_enter Tryz.func141,Tryz.ntmps141
 go_wp2_with (first
  | (go_at_call 168;refine (c64 _).mono ?_;rintro r w0 ⟨rfl,rfl⟩)
  | (go_at_call 70;refine (c56 _ (hT.go bgo)).mono ?_;rintro r w1 ⟨rfl,hb1⟩;obtain ⟨_,_,_,_,hA1,_⟩:=wz w hb1;obtain ⟨_,_⟩:=zf hb1 (w.heap.size+1);obtain ⟨_,_⟩:=zf hb1 (w.heap.size+2);obtain ⟨_,_⟩:=zf hb1 (w.heap.size+1+1);clear hb1))
 exact bodyPost_ret (v:=.tuple #[A4 R,.int .i64 10,.int .i64 E]) (by simp only [results,Tryz.results141];go_simp) rfl ⟨rfl,bgo⟩
theorem overflow_l (h:inB d s=false)
  (c65:∀ W,Tab W->CB 169 #[.int .i64 n,.bool s] W (.tuple #[A4 R,.int .i64 E])) :
  CB 141 #[DI n nm wd f e l m,.int .i64 d,.bool s] w (.tuple #[A4 R,.int .i64 10,.int .i64 E]):=by
 have hsm:=cell_set_map
 have c64:=infinite_any d s
 rw [h] at c64
 go_enter Tryz.func141,Tryz.ntmps141
 go_wp2_with (first
  | (go_at_call 168;refine (c64 _).mono ?_;rintro r w0 ⟨rfl,rfl⟩)
  | (go_at_call 169;refine (c65 _ (hT.go bgo)).mono ?_;rintro r w1 ⟨rfl,hb1⟩;obtain ⟨_,_,_,_,hA1,_⟩:=wz w hb1;obtain ⟨_,_⟩:=zf hb1 (w.heap.size+1);obtain ⟨_,_⟩:=zf hb1 (w.heap.size+2);obtain ⟨_,_⟩:=zf hb1 (w.heap.size+1+1);clear hb1))
 exact bodyPost_ret (v:=.tuple #[A4 R,.int .i64 10,.int .i64 E]) (by simp only [results,Tryz.results141];go_simp) rfl ⟨rfl,bgo⟩
end
abbrev IZ:Value:=.agg #[.int .i64 0,.string ⟨#[]⟩,.int .i64 0,.int .i64 0,.int .i64 0,.int .i64 0,.int .i64 0,.int .i64 0,.int .i64 0,.bool false]
section
variable (n d:Int)(nm:ByteArray)(wd:Int)(f e:Nat)(l m:Int)(N D:Nat)(vn vd I:Value)(w:World)(hT:Tab w)
 (c26:∀ W,Below w.heap.size w W->CQ 71 #[vn] W (.int .i64 (bl N:Int)))
 (c26d:∀ W,Below w.heap.size w W->CQ 71 #[vd] W (.int .i64 (bl D:Int)))
include hT c26 c26d
theorem check_k (hd:decide (knB d)=true)(hD:(((bl D:Nat):Int)==0)=false)(hN:¬ (51200:Int)<(bl N:Int))(hDl:¬ (51200:Int)<(bl D:Int))(c52:∀ W,Tab W->CB 81 #[.int .i64 n] W (.tuple #[DI n nm wd f e l m,.int .i64 0])):CB 134 #[.int .i64 n,.int .i64 d,vn,vd] w (.tuple #[DI n nm wd f e l m,.int .i64 0]):=by
 have hsm:=cell_set_map
 have c53:=known_any d
 rw [hd] at c53
 go_enter Tryz.func134,Tryz.ntmps134
 go_wp2_with (first
  | (go_at_call 81;refine (c52 _ (hT.go bgo)).mono ?_;rintro r w1 ⟨rfl,hb1⟩;obtain ⟨_,_,_,_,hA1,_⟩:=wz w hb1;clear hb1)
  | (go_at_call 95;refine (c53 _).mono ?_;rintro r w2 ⟨rfl,rfl⟩)
  | (go_at_call_of 71 vn;refine (c26 _ bgo).mono ?_;rintro r w3 ⟨rfl,rfl⟩)
  | (go_at_call_of 71 vd;refine (c26d _ bgo).mono ?_;rintro r w3 ⟨rfl,rfl⟩))
 exact bodyPost_ret (v:=.tuple #[DI n nm wd f e l m,.int .i64 0]) (by simp only [results,Tryz.results134];go_simp) rfl ⟨rfl,bgo⟩
end
end
section
structure Ib (w:World) (g:Nat) (n:Int) (nm:ByteArray) (wd:Int) (f e:Nat) (l m:Int):Prop where
 c0:w.cell? ⟨g,0,none⟩=some (.int .i64 n)
 c1:w.cell? ⟨g,1,none⟩=some (.string nm)
 c2:w.cell? ⟨g,2,none⟩=some (.int .i64 2)
 c3:w.cell? ⟨g,3,none⟩=some (.int .i64 wd)
 c4:w.cell? ⟨g,4,none⟩=some (.int .i64 ((f:Int)+1))
 c5:w.cell? ⟨g,5,none⟩=some (.int .i64 e)
 c6:w.cell? ⟨g,6,none⟩=some (.int .i64 l)
 c7:w.cell? ⟨g,7,none⟩=some (.int .i64 m)
 c8:w.cell? ⟨g,8,none⟩=some (.int .i64 ((f:Int)-1))
 c9:w.cell? ⟨g,9,none⟩=some (.bool false)
theorem Ib.next {w w':World}{g:Nat}{n:Int}{nm:ByteArray}{wd:Int}{f e:Nat}{l m:Int}(h:Ib w g n nm wd f e l m)(hg:g<w.heap.size)(hb:Below w.heap.size w w'):Ib w' g n nm wd f e l m :=
 ⟨by rw [hb.cell (p:=⟨g,0,none⟩) hg,h.c0],by rw [hb.cell (p:=⟨g,1,none⟩) hg,h.c1],by rw [hb.cell (p:=⟨g,2,none⟩) hg,h.c2],by rw [hb.cell (p:=⟨g,3,none⟩) hg,h.c3],by rw [hb.cell (p:=⟨g,4,none⟩) hg,h.c4],by rw [hb.cell (p:=⟨g,5,none⟩) hg,h.c5],by rw [hb.cell (p:=⟨g,6,none⟩) hg,h.c6],by rw [hb.cell (p:=⟨g,7,none⟩) hg,h.c7],by rw [hb.cell (p:=⟨g,8,none⟩) hg,h.c8],by rw [hb.cell (p:=⟨g,9,none⟩) hg,h.c9]⟩
theorem zeros4 {w:World}{g:Nat}{v:Value}(h0:w.cell? ⟨g,0,none⟩=some v)(h1:w.cell? ⟨g,1,none⟩=some v)(h2:w.cell? ⟨g,2,none⟩=some v)(h3:w.cell? ⟨g,3,none⟩=some v):∀ i,i<4->w.cell? ⟨g,i,none⟩=some v:=fun i hi=>by
 have:i=0∨i=1∨i=2∨i=3:=by omega
 rcases this with rfl|rfl|rfl|rfl<;>assumption
attribute [local irreducible] W4 Nz Nt
section
variable (n d x:Int)(s:Bool)(vn vd:Value)(w:World)(hT:Tab w)
variable (nm:ByteArray)(wd:Int)(f e:Nat)(l m:Int)(N C:Nat)(R:Nat)(E fl lead x1 q0:Int)(ex:Bool)
 (c25:∀ W,Below w.heap.size w W->CB 134 #[.int .i64 n,.int .i64 d,vn,vd] W (.tuple #[DI n nm wd f e l m,.int .i64 0]))
 (c26:∀ W,Below w.heap.size w W->CQ 71 #[vn] W (.int .i64 (bl N:Int)))
include hT c25 c26
theorem binary_z (hN:(((bl N:Nat):Int)==0)=true)
  (c27:∀ W,Tab W->CB 135 #[DI n nm wd f e l m,.bool s,.slice none 0 0,.int .i64 l,.int .i64 0] W (.tuple #[A4 R,.int .i64 0,.int .i64 E])) :
  CB 98 #[.int .i64 n,.int .i64 d,.bool s,vn,vd,.int .i64 x] w (.tuple #[A4 R,.int .i64 0,.int .i64 E]):=by
 have hsm:=cell_set_map
 go_enter Tryz.func98,Tryz.ntmps98
 go_wp2_with (first
  | (go_at_call 134;refine (c25 _ bgo).mono ?_;rintro r w1 ⟨rfl,hb1⟩;obtain ⟨_,_,_,_,hA1,_⟩:=wz w hb1;clear hb1)
  | (go_at_call 71;refine (c26 _ bgo).mono ?_;rintro r w2 ⟨rfl,rfl⟩)
  | (go_at_call 135;refine (c27 _ (hT.go bgo)).mono ?_;rintro r w3 ⟨rfl,hb3⟩;obtain ⟨_,_,_,_,hA3,_⟩:=wz w hb3;obtain ⟨_,_⟩:=zf hb3 w1.heap.size;clear hb3))
 exact bodyPost_ret (v:=.tuple #[A4 R,.int .i64 0,.int .i64 E]) (by simp only [results,Tryz.results98];go_simp) rfl ⟨rfl,bgo⟩
variable (hf:f<=300)(hl:-100000<=l/\l<=100000)(hm:-100000<=m/\m<=100000)(hld:-100000<=lead/\lead<=100000)(hx1:-300000<=x1/\x1<=300000)(hq0:q0=max l (lead+x1-((f:Int)+1)+1))
 (hN:(((bl N:Nat):Int)==0)=false)
 (c28:∀ W,Below w.heap.size w W->CB 136 #[vn,vd] W (.int .i64 lead))
 (c29:∀ W,CB 137 #[DI n nm wd f e l m,.int .i64 lead,.int .i64 x] W (.int .i64 x1))
 (c30:∀ W k,k=x1-q0->Below w.heap.size w W->Calls Tryz.prog 138 #[vn,vd,.int .i64 k] W fun r w'=>∃ va vb,r=.returned (.tuple #[va,vb])/\Below W.heap.size W w'/\(Calls Tryz.prog 139 #[.int .i64 d,.bool s,va,vb] w' fun r w''=>∃ v,r=.returned (.tuple #[v,.bool ex])/\Nz 2003 C v w''/\Below w'.heap.size w' w''))
 (c26c:∀ W v,Nz 2003 C v W->CQ 71 #[v] W (.int .i64 (bl C:Int)))
 (c31:∀ W v,Nz 2003 C v W->Calls Tryz.prog 140 #[v,.int .i64 1] W fun r w'=>∃ v' b,r=.returned (.tuple #[v',.bool b])/\Nz 2003 (C/2) v' w'/\Below W.heap.size W w')
include hf hl hm hld hx1 hq0 hN c28 c29 c30 c26c c31
theorem binary_o (C':Nat)(q':Int)(hup:(f:Int)+1<(bl C:Int)->C'=C/2/\q'=q0+1)(hno:¬ (f:Int)+1<(bl C:Int)->C'=C/\q'=q0)
  (ho:m<q')
  (c32:∀ W,Tab W->CB 141 #[DI n nm wd f e l m,.int .i64 d,.bool s] W (.tuple #[A4 R,.int .i64 fl,.int .i64 E])) :
  CB 98 #[.int .i64 n,.int .i64 d,.bool s,vn,vd,.int .i64 x] w (.tuple #[A4 R,.int .i64 fl,.int .i64 E]):=by
 have hsm:=cell_set_map
 have hds:∀ W:World,W.drew.heap.size=W.heap.size:=fun W=>by simp
 have hqb:-500000<=q0/\q0<=500000:=by omega
 go_enter Tryz.func98,Tryz.ntmps98
 go_upto_region 11 with (first
  | (go_at_call 134;refine (c25 _ bgo).mono ?_;rintro r w1 ⟨rfl,hb1⟩;obtain ⟨_,_,_,_,hA1,_⟩:=wz w hb1;clear hb1)
  | (go_at_call 71;refine (c26 _ bgo).mono ?_;rintro r w2 ⟨rfl,rfl⟩)
  | (go_at_call 136;refine (c28 _ bgo).mono ?_;rintro r w3 ⟨rfl,hb3⟩;obtain ⟨_,_,_,_,hA3,_⟩:=wz w hb3;obtain ⟨_,_⟩:=zf hb3 w1.heap.size;clear hb3)
  | (go_at_call 137;refine (c29 _).mono ?_;rintro r w4 ⟨rfl,hb4⟩;obtain ⟨_,_,_,_,hA4,_⟩:=wz w hb4;obtain ⟨_,_⟩:=zf hb4 w1.heap.size;clear hb4)
  | (go_at_call 138;refine (c30 _ _ (by omega) bgo).mono ?_;rintro r w10 ⟨va,vb,rfl,hb10,c30b⟩;obtain ⟨_,_,_,_,hA10,_⟩:=wz w hb10;obtain ⟨_,_⟩:=zf hb10 w1.heap.size;clear hb10)
  | (go_at_call 139;refine c30b.mono ?_;rintro r w5 ⟨vc,rfl,hvc,hb5⟩;obtain ⟨_,_,_,_,hA5,_⟩:=wz w hb5;obtain ⟨_,_⟩:=zf hb5 w1.heap.size;clear hb5))
 go_cut [83] from 22 (fun t wc=>t=.bool (decide ((f:Int)+1<(bl C:Int)))/\Nz 2003 C vc wc/\Ib wc w1.heap.size n nm wd f e l m/\(∀ i,i<4->wc.cell? ⟨w.heap.size,i,none⟩=some (.int .u64 0))/\(∀ i,wc.frozen? ⟨w.heap.size,i,none⟩=false)/\Below w.heap.size w wc/\w1.heap.size<wc.heap.size)
 case first =>
  go_region_with (go_at_call 71;refine (c26c _ _ (hvc.next bgo)).mono ?_;rintro r w6 ⟨rfl,rfl⟩)
  all_goals (
   go_wp2_with fail
   go_meet
   exact ⟨rfl,hvc.next bgo,⟨by go_simp,by go_simp,by go_simp,by go_simp,by go_simp,by go_simp,by go_simp,by go_simp,by go_simp,by go_simp⟩,zeros4 (by go_simp) (by go_simp) (by go_simp) (by go_simp),fun i=>by go_simp,bgo,by first|assumption|(simp;done)|(simp;omega)|omega⟩)
 case rest =>
  obtain ⟨ht,hvc',fI,fz,ffr,hbw,hsz⟩:=hcut
  obtain ⟨y0,y1,y2,y3,y4,y5,y6,y7,y8,y9⟩:=fI
  have hl0:w.heap.size<wc.heap.size:=by omega
  have hle0:=Nat.le_of_lt hl0
  have hle1:=Nat.le_of_lt hsz
  have z0:=fz 0 (by decide)
  have z1:=fz 1 (by decide)
  have z2:=fz 2 (by decide)
  have z3:=fz 3 (by decide)
  go_upto_if 83 with fail
  go_cut [18,19] from 22 (fun t18 t19 wc=>t18=.int .i64 q'/\Nz 2003 C' t19 wc/\Ib wc w1.heap.size n nm wd f e l m/\(∀ i,i<4->wc.cell? ⟨w.heap.size,i,none⟩=some (.int .u64 0))/\(∀ i,wc.frozen? ⟨w.heap.size,i,none⟩=false)/\Below w.heap.size w wc/\w1.heap.size<wc.heap.size)
  case first =>
   by_cases hu:(f:Int)+1<(bl C:Int)
   ·obtain ⟨rfl,rfl⟩:=hup (by omega)
    rw [decide_eq_true hu] at ht
    subst ht
    clear hup hno
    go_wp2_with (go_at_call 140;refine (c31 _ _ hvc').mono ?_;rintro r w7 ⟨v7,b7,rfl,h7,hb7⟩;obtain ⟨_,_,_,_,hA7,_⟩:=wz w hb7;obtain ⟨_,_⟩:=zf hb7 w1.heap.size;clear hb7)
    go_meet
    exact ⟨by first|rfl|(congr 1;omega),h7,⟨by go_simp,by go_simp,by go_simp,by go_simp,by go_simp,by go_simp,by go_simp,by go_simp,by go_simp,by go_simp⟩,zeros4 (by go_simp) (by go_simp) (by go_simp) (by go_simp),fun i=>by go_simp,bgo,by first|assumption|(simp;done)|(simp;omega)|omega⟩
   ·obtain ⟨rfl,rfl⟩:=hno (by omega)
    rw [decide_eq_false hu] at ht
    subst ht
    clear hup hno
    go_wp2
    go_meet
    exact ⟨by first|rfl|(congr 1;omega),hvc',⟨by go_simp,by go_simp,by go_simp,by go_simp,by go_simp,by go_simp,by go_simp,by go_simp,by go_simp,by go_simp⟩,zeros4 (by go_simp) (by go_simp) (by go_simp) (by go_simp),fun i=>by go_simp,bgo,by first|assumption|(simp;done)|(simp;omega)|omega⟩
  case rest =>
   clear fz ffr hbw hsz y0 y1 y2 y3 y4 y5 y6 y7 y8 y9 hl0 hle0 hle1 z0 z1 z2 z3 ht hvc'
   obtain ⟨rfl,hv',fI,fz,ffr,hbw,hsz⟩:=hcut
   obtain ⟨y0,y1,y2,y3,y4,y5,y6,y7,y8,y9⟩:=fI
   have hl0:w.heap.size<wc.heap.size:=by omega
   have hle0:=Nat.le_of_lt hl0
   have hle1:=Nat.le_of_lt hsz
   have z0:=fz 0 (by decide)
   have z1:=fz 1 (by decide)
   have z2:=fz 2 (by decide)
   have z3:=fz 3 (by decide)
   go_wp2_with (go_at_call 141;refine (c32 _ (hT.go bgo)).mono ?_;rintro r w8 ⟨rfl,hb8⟩;obtain ⟨_,_,_,_,hA8,_⟩:=wz w hb8;obtain ⟨_,_⟩:=zf hb8 w1.heap.size;clear hb8)
   exact bodyPost_ret (v:=.tuple #[A4 R,.int .i64 fl,.int .i64 E]) (by simp only [results,Tryz.results98];go_simp) rfl ⟨rfl,bgo⟩
theorem binary_f (C':Nat)(q':Int)(hup:(f:Int)+1<(bl C:Int)->C'=C/2/\q'=q0+1)(hno:¬ (f:Int)+1<(bl C:Int)->C'=C/\q'=q0)
  (ho:¬ m<q') (fl0:Int) (hfl:Hid (fl=if ex then 0 else if decide (lead+x1<(f:Int)+l) then 12 else 8))
  (c27:∀ W v,Tab W->Nz 2003 C' v W->CB 135 #[DI n nm wd f e l m,.bool s,v,.int .i64 q',.int .i64 fl] W (.tuple #[A4 R,.int .i64 fl,.int .i64 E])) :
  CB 98 #[.int .i64 n,.int .i64 d,.bool s,vn,vd,.int .i64 x] w (.tuple #[A4 R,.int .i64 fl,.int .i64 E]):=by
 have hsm:=cell_set_map
 have hds:∀ W:World,W.drew.heap.size=W.heap.size:=fun W=>by simp
 have hqb:-500000<=q0/\q0<=500000:=by omega
 go_enter Tryz.func98,Tryz.ntmps98
 go_upto_region 11 with (first
  | (go_at_call 134;refine (c25 _ bgo).mono ?_;rintro r w1 ⟨rfl,hb1⟩;obtain ⟨_,_,_,_,hA1,_⟩:=wz w hb1;clear hb1)
  | (go_at_call 71;refine (c26 _ bgo).mono ?_;rintro r w2 ⟨rfl,rfl⟩)
  | (go_at_call 136;refine (c28 _ bgo).mono ?_;rintro r w3 ⟨rfl,hb3⟩;obtain ⟨_,_,_,_,hA3,_⟩:=wz w hb3;obtain ⟨_,_⟩:=zf hb3 w1.heap.size;clear hb3)
  | (go_at_call 137;refine (c29 _).mono ?_;rintro r w4 ⟨rfl,hb4⟩;obtain ⟨_,_,_,_,hA4,_⟩:=wz w hb4;obtain ⟨_,_⟩:=zf hb4 w1.heap.size;clear hb4)
  | (go_at_call 138;refine (c30 _ _ (by omega) bgo).mono ?_;rintro r w10 ⟨va,vb,rfl,hb10,c30b⟩;obtain ⟨_,_,_,_,hA10,_⟩:=wz w hb10;obtain ⟨_,_⟩:=zf hb10 w1.heap.size;clear hb10)
  | (go_at_call 139;refine c30b.mono ?_;rintro r w5 ⟨vc,rfl,hvc,hb5⟩;obtain ⟨_,_,_,_,hA5,_⟩:=wz w hb5;obtain ⟨_,_⟩:=zf hb5 w1.heap.size;clear hb5))
 go_cut [83] from 22 (fun t wc=>t=.bool (decide ((f:Int)+1<(bl C:Int)))/\Nz 2003 C vc wc/\Ib wc w1.heap.size n nm wd f e l m/\(∀ i,i<4->wc.cell? ⟨w.heap.size,i,none⟩=some (.int .u64 0))/\(∀ i,wc.frozen? ⟨w.heap.size,i,none⟩=false)/\Below w.heap.size w wc/\w1.heap.size<wc.heap.size)
 case first =>
  go_region_with (go_at_call 71;refine (c26c _ _ (hvc.next bgo)).mono ?_;rintro r w6 ⟨rfl,rfl⟩)
  all_goals (
   go_wp2_with fail
   go_meet
   exact ⟨rfl,hvc.next bgo,⟨by go_simp,by go_simp,by go_simp,by go_simp,by go_simp,by go_simp,by go_simp,by go_simp,by go_simp,by go_simp⟩,zeros4 (by go_simp) (by go_simp) (by go_simp) (by go_simp),fun i=>by go_simp,bgo,by first|assumption|(simp;done)|(simp;omega)|omega⟩)
 case rest =>
  obtain ⟨ht,hvc',fI,fz,ffr,hbw,hsz⟩:=hcut
  obtain ⟨y0,y1,y2,y3,y4,y5,y6,y7,y8,y9⟩:=fI
  have hl0:w.heap.size<wc.heap.size:=by omega
  have hle0:=Nat.le_of_lt hl0
  have hle1:=Nat.le_of_lt hsz
  have z0:=fz 0 (by decide)
  have z1:=fz 1 (by decide)
  have z2:=fz 2 (by decide)
  have z3:=fz 3 (by decide)
  go_upto_if 83 with fail
  go_cut [18,19] from 22 (fun t18 t19 wc=>t18=.int .i64 q'/\Nz 2003 C' t19 wc/\Ib wc w1.heap.size n nm wd f e l m/\(∀ i,i<4->wc.cell? ⟨w.heap.size,i,none⟩=some (.int .u64 0))/\(∀ i,wc.frozen? ⟨w.heap.size,i,none⟩=false)/\Below w.heap.size w wc/\w1.heap.size<wc.heap.size)
  case first =>
   by_cases hu:(f:Int)+1<(bl C:Int)
   ·obtain ⟨rfl,rfl⟩:=hup (by omega)
    rw [decide_eq_true hu] at ht
    subst ht
    clear hup hno
    go_wp2_with (go_at_call 140;refine (c31 _ _ hvc').mono ?_;rintro r w7 ⟨v7,b7,rfl,h7,hb7⟩;obtain ⟨_,_,_,_,hA7,_⟩:=wz w hb7;obtain ⟨_,_⟩:=zf hb7 w1.heap.size;clear hb7)
    go_meet
    exact ⟨by first|rfl|(congr 1;omega),h7,⟨by go_simp,by go_simp,by go_simp,by go_simp,by go_simp,by go_simp,by go_simp,by go_simp,by go_simp,by go_simp⟩,zeros4 (by go_simp) (by go_simp) (by go_simp) (by go_simp),fun i=>by go_simp,bgo,by first|assumption|(simp;done)|(simp;omega)|omega⟩
   ·obtain ⟨rfl,rfl⟩:=hno (by omega)
    rw [decide_eq_false hu] at ht
    subst ht
    clear hup hno
    go_wp2
    go_meet
    exact ⟨by first|rfl|(congr 1;omega),hvc',⟨by go_simp,by go_simp,by go_simp,by go_simp,by go_simp,by go_simp,by go_simp,by go_simp,by go_simp,by go_simp⟩,zeros4 (by go_simp) (by go_simp) (by go_simp) (by go_simp),fun i=>by go_simp,bgo,by first|assumption|(simp;done)|(simp;omega)|omega⟩
  case rest =>
   clear fz ffr hbw hsz y0 y1 y2 y3 y4 y5 y6 y7 y8 y9 hl0 hle0 hle1 z0 z1 z2 z3 ht hvc'
   obtain ⟨rfl,hv',fI,fz,ffr,hbw,hsz⟩:=hcut
   obtain ⟨y0,y1,y2,y3,y4,y5,y6,y7,y8,y9⟩:=fI
   have hl0:w.heap.size<wc.heap.size:=by omega
   have hle0:=Nat.le_of_lt hl0
   have hle1:=Nat.le_of_lt hsz
   have z0:=fz 0 (by decide)
   have z1:=fz 1 (by decide)
   have z2:=fz 2 (by decide)
   have z3:=fz 3 (by decide)
   have c33:=raised_any ex (decide (lead+x1<(f:Int)+l))
   rw [← hfl.out] at c33
   clear hfl
   go_wp2
   go_region_with (first
    | (go_at_call 142;refine (c33 _).mono ?_;rintro r w8 ⟨rfl,rfl⟩)
    | (go_at_call 135;refine (c27 _ _ (hT.go bgo) (hv'.next bgo)).mono ?_;rintro r w9 ⟨rfl,hb9⟩;obtain ⟨_,_,_,_,hA9,_⟩:=wz w hb9;obtain ⟨_,_⟩:=zf hb9 w1.heap.size;clear hb9))
   all_goals (
    go_wp2_with fail
    exact bodyPost_ret (v:=.tuple #[A4 R,.int .i64 fl,.int .i64 E]) (by simp only [results,Tryz.results98];go_simp) rfl ⟨rfl,bgo⟩)
end
end
theorem finite_v (n:Int)(nm:ByteArray)(wd:Int)(f e:Nat)(l m:Int)(s:Bool)(x fl:Int){K C:Nat}{v:Value}{w:World}(hT:Tab w)(h:Nz K C v w)(hC:C<2^256) :
  CB 135 #[DI n nm wd f e l m,.bool s,v,.int .i64 x,.int .i64 fl] w (.tuple #[A4 (pkV n ⟨1,s,false,x,C⟩),.int .i64 fl,.int .i64 (pkE n ⟨1,s,false,x,C⟩)]):=by
 obtain ⟨a,k,cap,z,rfl,hk,hN,hv,hs⟩:=h
 have hk4:k<=4:=by
  have:=(size_bl (m:=4) hN.2.2.1 hv).2 (bl_le.2 hC)
  omega
 have hv4:val z 4=(C:Int):=by rw [val_more hN.2.2.2.1 4 hk4,hv]
 have hz:∀ i,i<4->z i=W4 C i:=val_inj hN.2.2.1 (W4_words C) 4 (by rw [hv4,W4_val4 hC])
 have c56:=fun W hT=>pack_any n ⟨1,s,false,x,C⟩ W hT hC
 have ed:(Dat.mk 1 s false x C).v=.agg #[.int .i64 1,.bool s,.bool false,.int .i64 x,.int .u64 (z 0),.int .u64 (z 1),.int .u64 (z 2),.int .u64 (z 3)]:=by
  unfold Dat.v DV
  rw [hz 0 (by decide),hz 1 (by decide),hz 2 (by decide),hz 3 (by decide)]
 rw [ed] at c56
 have z0:=hN.2.2.2.1
 generalize pkV n ⟨1,s,false,x,C⟩=R at *
 generalize pkE n ⟨1,s,false,x,C⟩=E at *
 obtain ⟨n1,n2,n3,n4,n5⟩:=hN
 rcases n5 with ⟨rfl,rfl⟩|⟨b,off,rfl,hb,hc⟩
 ·obtain rfl:k=0:=by omega
  rw [z0 0 (by omega),z0 1 (by omega),z0 2 (by omega),z0 3 (by omega)] at c56
  exact fin_n n nm wd f e l m s x fl E R w hT c56
 ·have:k=0∨k=1∨k=2∨k=3∨k=4:=by omega
  rcases this with rfl|rfl|rfl|rfl|rfl
  ·rw [z0 0 (by omega),z0 1 (by omega),z0 2 (by omega),z0 3 (by omega)] at c56
   exact fin_0 n nm wd f e l m s x fl E R w hT b off cap hb c56
  ·rw [z0 1 (by omega),z0 2 (by omega),z0 3 (by omega)] at c56
   exact fin_1 n nm wd f e l m s x fl E R z w hT b off cap hb (hc 0 (by decide)) c56
  ·rw [z0 2 (by omega),z0 3 (by omega)] at c56
   exact fin_2 n nm wd f e l m s x fl E R z w hT b off cap hb (hc 0 (by decide)) (hc 1 (by decide)) c56
  ·rw [z0 3 (by omega)] at c56
   exact fin_3 n nm wd f e l m s x fl E R z w hT b off cap hb (hc 0 (by decide)) (hc 1 (by decide)) (hc 2 (by decide)) c56
  ·exact fin_4 n nm wd f e l m s x fl E R z w hT b off cap hb (hc 0 (by decide)) (hc 1 (by decide)) (hc 2 (by decide)) (hc 3 (by decide)) c56
def rX (n:Int)(N D:Nat)(x:Int):Int:=wiZ (fN n) (leastN n) (mostN n) (ld N D) x
def rQ (n:Int)(N D:Nat)(x:Int):Int:=max (leastN n) (ld N D+rX n N D x-((fN n:Int)+1)+1)
def rC (n d:Int)(s:Bool)(N D:Nat)(x:Int):Nat:=nrC d s N D (rX n N D x-rQ n N D x)
def rC' (n d:Int)(s:Bool)(N D:Nat)(x:Int):Nat:=if (fN n:Int)+1<(bl (rC n d s N D x):Int) then rC n d s N D x/2 else rC n d s N D x
def rQ' (n d:Int)(s:Bool)(N D:Nat)(x:Int):Int:=if (fN n:Int)+1<(bl (rC n d s N D x):Int) then rQ n N D x+1 else rQ n N D x
def rdV (n d:Int)(s:Bool)(N D:Nat)(x:Int):Nat:=if N=0 then pkV n ⟨1,s,false,leastN n,0⟩ else if mostN n<rQ' n d s N D x then (if inB d s then pkV n ⟨2,s,false,0,0⟩ else lgV n s) else pkV n ⟨1,s,false,rQ' n d s N D x,rC' n d s N D x⟩
def rdF (n d:Int)(s:Bool)(N D:Nat)(x:Int):Int:=if N=0 then 0 else if mostN n<rQ' n d s N D x then 10 else if decide (nrR N D (rX n N D x-rQ n N D x)=0) then 0 else if decide (ld N D+rX n N D x<(fN n:Int)+leastN n) then 12 else 8
theorem bin_more' {n:Int}(h:binN n):numN n=n/\denseN n=false:=by
 rcases bin_cases h with rfl|rfl|rfl|rfl|rfl|rfl<;>exact ⟨by decide,by decide⟩
theorem dof_bin {n:Int}(hb:binN n)(w:World)(hT:Tab w):CB 81 #[.int .i64 n] w (.tuple #[DI n (nameN n) (widthN n) (fN n) (eN n) (leastN n) (mostN n),.int .i64 0]):=by
 obtain ⟨hok,hb2,hpr,hex,hwd,hpy⟩:=bin_fields hb
 obtain ⟨hnum,hden⟩:=bin_more' hb
 have c:=ofv_any n w hT
 rw [show infoE n=0 from if_pos hok,hnum,hb2,hpr,hex,hden,hpy] at c
 exact c
theorem nz_nil (w:World):Nz 0 0 (.slice none 0 0) w :=
 ⟨none,0,0,fun _=>0,rfl,Nat.le_refl _,⟨Nat.le_refl _,by unfold maxLen;omega,fun i=>⟨Int.le_refl _,(by decide:(0:Int)<=18446744073709551615)⟩,fun _ _=>rfl,Or.inl ⟨rfl,rfl⟩⟩,rfl,rfl⟩
theorem r_isD {n d:Int}{s:Bool}{N D:Nat}{x:Int}(hb:binN n)(hN:N≠0)(hD:D≠0)(ho:¬ mostN n<rQ' n d s N D x):isD (fN n) (leastN n) (mostN n) ⟨1,s,false,rQ' n d s N D x,rC' n d s N D x⟩:=by
 have hq:leastN n<=rQ n N D x:=Int.le_max_left _ _
 have hq2:ld N D+(rX n N D x-rQ n N D x)<=(fN n:Int):=by unfold rQ;omega
 have hlt:=nrQ_lt hN hD hq2
 have hge:rQ n N D x≠leastN n->2^fN n<=nrQ N D (rX n N D x-rQ n N D x):=fun h=>nrQ_ge hN hD (by unfold rQ at h ⊢;omega)
 have hC:rC n d s N D x=nrQ N D (rX n N D x-rQ n N D x)∨rC n d s N D x=nrQ N D (rX n N D x-rQ n N D x)+1:=by
  unfold rC nrC
  cases nrF d s N D (rX n N D x-rQ n N D x)
  ·exact Or.inl rfl
  ·exact Or.inr rfl
 have hs:2^(fN n+1)=2^fN n+2^fN n:=by rw [Nat.pow_succ];omega
 have hu:(fN n:Int)+1<(bl (rC n d s N D x):Int)↔2^(fN n+1)<=rC n d s N D x:=by
  rw [← bl_ge];omega
 unfold rQ' rC' at *
 by_cases h:(fN n:Int)+1<(bl (rC n d s N D x):Int)
 ·rw [if_pos h] at ho
  have h2:=hu.1 h
  have e:rC n d s N D x=2^(fN n+1):=by omega
  rw [if_pos h,if_pos h]
  exact Or.inl ⟨rfl,rfl,by show rC n d s N D x/2<_;omega,by show leastN n<=rQ n N D x+1;omega,by show rQ n N D x+1<=_;omega,Or.inl (by show 2^fN n<=rC n d s N D x/2;omega)⟩
 ·rw [if_neg h] at ho
  have h2:=mt hu.2 h
  rw [if_neg h,if_neg h]
  refine Or.inl ⟨rfl,rfl,by show rC n d s N D x<_;omega,hq,by show rQ n N D x<=_;omega,?_⟩
  by_cases h3:rQ n N D x=leastN n
  ·exact Or.inr h3
  ·have:=hge h3
   exact Or.inl (by show 2^fN n<=rC n d s N D x;omega)
theorem wi_bd {n:Int}{L x:Int}(hb:binN n)(hL:-60000<=L/\L<=60000):-300000<=wiZ (fN n) (leastN n) (mostN n) L x/\wiZ (fN n) (leastN n) (mostN n) L x<=300000/\-100000<=leastN n/\leastN n<=100000/\-100000<=mostN n/\mostN n<=100000/\L+wiZ (fN n) (leastN n) (mostN n) L x<=100000/\-100000<=L+wiZ (fN n) (leastN n) (mostN n) L x:=by
 unfold wiZ
 rcases bin_cases hb with rfl|rfl|rfl|rfl|rfl|rfl
 all_goals
  simp [leastN,mostN,fN,precN]
  omega
theorem ld_ab {N D:Nat}(h1:bl N<=51200)(h2:bl D<=51200):-60000<=ld N D/\ld N D<=60000:=by
 unfold ld
 dsimp only
 split<;>omega
theorem rnd_good (n d x:Int)(s:Bool){N D:Nat}{vn vd:Value}{w:World}(hT:Tab w)(hn:Nt 2001 N vn w)(hd:Nt 2001 D vd w)(hb:binN n)(hk:knB d)(hD:D≠0)(h1:bl N<=51200)(h2:bl D<=51200) :
  CB 98 #[.int .i64 n,.int .i64 d,.bool s,vn,vd,.int .i64 x] w (.tuple #[A4 (rdV n d s N D x),.int .i64 (rdF n d s N D x),.int .i64 0]):=by
 have hF:=bin_fm hb
 have hf240:=hF.f240
 have c26:=fun W (hb':Below w.heap.size w W)=>nlen_v (by decide) (hn.next hb')
 have c26d:=fun W (hb':Below w.heap.size w W)=>nlen_v (by decide) (hd.next hb')
 have hDb:(((bl D:Nat):Int)==0)=false:=by
  have:bl D≠0:=fun e=>hD (bl_zero.1 e)
  rw [beq_eq_false_iff_ne];omega
 have c25:∀ W,Below w.heap.size w W->CB 134 #[.int .i64 n,.int .i64 d,vn,vd] W (.tuple #[DI n (nameN n) (widthN n) (fN n) (eN n) (leastN n) (mostN n),.int .i64 0]):=fun W hW =>
  check_k n d _ _ _ _ _ _ N D vn vd W (hT.go hW) (fun W' h'=>c26 W' (bnx hW h')) (fun W' h'=>c26d W' (bnx hW h')) (decide_eq_true hk) hDb (by omega) (by omega) (fun W' hT'=>dof_bin hb W' hT')
 unfold rdV rdF
 by_cases hz:N=0
 ·rw [if_pos hz,if_pos hz]
  have hp:=pow_e hF.e2 hF.e15
  have hm:=hF.m
  have hi:isD (fN n) (leastN n) (mostN n) ⟨1,s,false,leastN n,0⟩:=Or.inl ⟨rfl,rfl,Nat.two_pow_pos _,Int.le_refl _,by show leastN n<=mostN n;omega,Or.inr rfl⟩
  have e:pkE n ⟨1,s,false,leastN n,0⟩=0:=by unfold pkE;rw [if_pos hb,if_pos hi]
  refine binary_z n d x s vn vd w hT _ _ _ _ _ _ N _ _ c25 c26 (by rw [hz];decide) fun W hT'=>?_
  have:=finite_v n (nameN n) (widthN n) (fN n) (eN n) (leastN n) (mostN n) s (leastN n) 0 hT' (nz_nil W) (by decide)
  rw [e] at this
  exact this
 ·rw [if_neg hz,if_neg hz]
  have hN0:(((bl N:Nat):Int)==0)=false:=by
   have:bl N≠0:=fun e=>hz (bl_zero.1 e)
   rw [beq_eq_false_iff_ne];omega
  have hL:=ld_ab h1 h2
  obtain ⟨w1,w2,w3,w4,w5,w6,w7,w8⟩:=wi_bd (x:=x) hb hL
  have hq0:rQ n N D x=max (leastN n) (ld N D+rX n N D x-((fN n:Int)+1)+1):=rfl
  have c28:=fun W (hb':Below w.heap.size w W)=>leading_v (hn.next hb') (hd.next hb') h1 h2
  have c29:=fun W=>within_any n (nameN n) (widthN n) (fN n) (eN n) (leastN n) (mostN n) (ld N D) x W (by omega) ⟨w3,w4⟩ ⟨w5,w6⟩ (by omega)
  have hX:rX n N D x=wiZ (fN n) (leastN n) (mostN n) (ld N D) x:=rfl
  rw [← hX] at w1 w2 w7 w8
  have hbn:(bl N:Int)+(rX n N D x-rQ n N D x)<=127000/\(bl D:Int)-(rX n N D x-rQ n N D x)<=127000:=by
   have hl2:(bl N:Int)-bl D-1<=ld N D/\ld N D<=(bl N:Int)-bl D:=by
    unfold ld;dsimp only;split<;>omega
   have hp:=pow_e hF.e2 hF.e15
   have hm:=hF.m
   have hr:leastN n-2-ld N D<=rX n N D x:=by rw [hX];unfold wiZ;omega
   rw [hq0];omega
  have c30:∀ W k,k=rX n N D x-rQ n N D x->Below w.heap.size w W->Calls Tryz.prog 138 #[vn,vd,.int .i64 k] W fun r w'=>∃ va vb,r=.returned (.tuple #[va,vb])/\Below W.heap.size W w'/\(Calls Tryz.prog 139 #[.int .i64 d,.bool s,va,vb] w' fun r w''=>∃ v,r=.returned (.tuple #[v,.bool (decide (nrR N D (rX n N D x-rQ n N D x)=0))])/\Nz 2003 (rC n d s N D x) v w''/\Below w'.heap.size w' w''):=fun W k hk' hb'=>by
   subst hk'
   exact near_sv d _ s (hn.next hb') (hd.next hb') hD hbn.1 hbn.2 (by omega) (by omega)
  have hup:(fN n:Int)+1<(bl (rC n d s N D x):Int)->rC' n d s N D x=rC n d s N D x/2/\rQ' n d s N D x=rQ n N D x+1:=fun h=>⟨if_pos h,if_pos h⟩
  have hno:¬ (fN n:Int)+1<(bl (rC n d s N D x):Int)->rC' n d s N D x=rC n d s N D x/\rQ' n d s N D x=rQ n N D x:=fun h=>⟨if_neg h,if_neg h⟩
  have c26c:=fun W v (h:Nz 2003 (rC n d s N D x) v W)=>nlen_v (by decide) h.nt
  have c31:=fun W v (h:Nz 2003 (rC n d s N D x) v W)=>nshr_v (by decide) h.nt
  by_cases ho:mostN n<rQ' n d s N D x
  ·rw [if_pos ho,if_pos ho]
   refine binary_o n d x s vn vd w hT _ _ _ _ _ _ N (rC n d s N D x) _ _ _ (ld N D) (rX n N D x) (rQ n N D x) _ c25 c26 (by omega) ⟨w3,w4⟩ ⟨w5,w6⟩ (by omega) ⟨w1,w2⟩ hq0 hN0 c28 c29 c30 c26c c31 _ _ hup hno ho ?_
   intro W hT'
   by_cases hi:inB d s=true
   ·rw [if_pos hi]
    have hd2:isD (fN n) (leastN n) (mostN n) ⟨2,s,false,0,0⟩:=Or.inr (Or.inl ⟨rfl,rfl,rfl,rfl⟩)
    have e:pkE n ⟨2,s,false,0,0⟩=0:=by unfold pkE;rw [if_pos hb,if_pos hd2]
    refine overflow_i n _ _ _ _ _ _ d s _ _ W hT' hi fun W' hT2=>?_
    have:=pack_any n ⟨2,s,false,0,0⟩ W' hT2 (by show 0<2^256;decide)
    rw [e] at this
    unfold Dat.v DV at this
    simp only [W4_zero] at this
    exact this
   ·rw [if_neg hi]
    refine overflow_l n _ _ _ _ _ _ d s _ _ W hT' (by simpa using hi) fun W' hT2=>?_
    have:=largest_any n s W' hT2
    rw [show lgE n=0 from if_pos hb] at this
    exact this
  ·rw [if_neg ho,if_neg ho]
   have hi:=r_isD (s:=s) hb hz hD ho
   have e:pkE n ⟨1,s,false,rQ' n d s N D x,rC' n d s N D x⟩=0:=by unfold pkE;rw [if_pos hb,if_pos hi]
   have hC:rC' n d s N D x<2^256:=by
    rcases hi with ⟨_,_,hk1,_⟩|⟨hc,_⟩|⟨hc,_⟩
    ·exact Nat.lt_of_lt_of_le hk1 (Nat.pow_le_pow_right (by decide) (by omega))
    ·exact absurd (show (1:Int)=2 from hc) (by decide)
    ·exact absurd (show (1:Int)=3 from hc) (by decide)
   refine binary_f n d x s vn vd w hT _ _ _ _ _ _ N (rC n d s N D x) _ _ _ (ld N D) (rX n N D x) (rQ n N D x) _ c25 c26 (by omega) ⟨w3,w4⟩ ⟨w5,w6⟩ (by omega) ⟨w1,w2⟩ hq0 hN0 c28 c29 c30 c26c c31 _ _ hup hno ho 0 rfl ?_
   intro W v hT' hv
   have:=finite_v n (nameN n) (widthN n) (fN n) (eN n) (leastN n) (mostN n) s (rQ' n d s N D x) (if decide (nrR N D (rX n N D x-rQ n N D x)=0) then 0 else if decide (ld N D+rX n N D x<(fN n:Int)+leastN n) then 12 else 8) hT' hv hC
   rw [e] at this
   exact this
theorem NT.more {K K' V:Nat}{v:Value}{w:World}(h:NT K V v w)(hk:K<=K'):NT K' V v w:=by
 obtain ⟨g,k,cap,z,h1,h2,h3,h4,h5⟩:=h
 exact ⟨g,k,cap,z,h1,by omega,h3,h4,h5⟩
theorem rtimes_nt {K K' A B:Nat}{v v':Value}{w:World}(hK:K<1000000)(hK':K'<1000000)(h:NV K A v w)(h':NV K' B v' w) :
  CE 24 #[v,v'] w (NT (K+K'+1) (A*B)):=by
 obtain ⟨g,k,c,z,rfl,hk,hN,hz⟩:=h
 obtain ⟨g2,k2,c2,z2,rfl,hk2,hN2,hz2⟩:=h'
 refine (times_tr g 0 k c g2 0 k2 c2 z z2 w (by omega) (by omega) hN hN2).mono fun e w' ⟨g3,k3,cap3,z3,e1,hk3,hN3,hv3,hB,ht⟩=>⟨_,e1,⟨g3,k3,cap3,z3,rfl,by omega,hN3,?_,ht⟩,hB⟩
 rw [← val_more hN3.2.2.2.1 _ hk3,hv3,hz,hz2];simp
theorem rcmp_nv {K K' A B:Nat}{v v':Value}{w:World}(hK:K<1000000)(hK':K'<1000000)(h:NV K A v w)(h':NV K' B v' w) :
  CQ 25 #[v,v'] w (.int .i64 (sgn (A:Int) B)):=by
 obtain ⟨g,k,c,z,rfl,hk,hN,hz⟩:=h
 obtain ⟨g2,k2,c2,z2,rfl,hk2,hN2,hz2⟩:=h'
 have:=rcmp_any _ _ k c k2 c2 z z2 w (by omega) (by omega) hN hN2
 rw [hz,hz2] at this
 exact this
theorem rlen_nv {K V:Nat}{v:Value}{w:World}(hK:K<1000000)(h:NV K V v w) :
  CQ 23 #[v] w (.int .i64 (bl V:Int)):=by
 obtain ⟨g,k,c,z,rfl,hk,hN,hz⟩:=h
 have:=rlen_num _ k c z w (by omega) hN
 rw [len_bl hN.2.2.1 hz] at this
 exact this
end Go.Proofs.YtgknbdehlmlipaaGreatDoor
