/-
  Texts that the proof leans on.
-/
import Derived.Test.YtahfkpjhlbiamaaGreatDoorR8
import Derived.Test.YtahfkpjhlbiamaaGreatDoorR1
import Derived.Lib.SmallJoins
import Derived.ProofKit
import Derived.OpenShut
import Derived.Carry
import Derived.Deep.DeepHandedRow
import Derived.Test.YtahfkpjhlbiamaaGreatDoorR7
import Derived.Test.YtahfkpjhlbiamaaGreatDoorR4
set_option linter.unusedVariables false
set_option linter.unusedSimpArgs false
set_option linter.unusedSectionVars false
set_option maxRecDepth 20000
namespace Go.Proofs.YtahfkpjhlbiamaaGreatDoor
open Go.RowKit
theorem zRr (k:Nat)(h:k<10):dg (UInt8.ofNat (48+k))=true/\((UInt8.ofNat (48+k)).toNat:Int)=48+k:=by
 have:(UInt8.ofNat (48+k)).toNat=48+k:=by
  rw [UInt8.toNat_ofNat'];omega
 refine ⟨?_,by omega⟩
 unfold dg;rw [this];simp;omega
theorem zZ4 (u:Nat):(Lib.decDigits u).all dg=true:=by
 induction u using Nat.strongRecOn with
 | ind u ih =>
  rw [Lib.decDigits]
  split
  ·rename_i h
   simp only [List.all_cons,List.all_nil,Bool.and_true]
   exact (zRr u h).1
  ·rename_i h
   rw [List.all_append,ih (u/10) (by omega)]
   simp only [List.all_cons,List.all_nil,Bool.and_true,Bool.true_and]
   exact (zRr (u%10) (by omega)).1
theorem zX4 (u:Nat):nv (Lib.decDigits u)=u:=by
 induction u using Nat.strongRecOn with
 | ind u ih =>
  rw [Lib.decDigits]
  split
  ·rename_i h
   rw [zVp,(zRr u h).2];omega
  ·rename_i h
   rw [zZ3,ih (u/10) (by omega),zVp,(zRr (u%10) (by omega)).2]
   simp
   omega
theorem dec_ne (u:Nat):Lib.decDigits u≠[]:=by
 rw [Lib.decDigits]
 split
 ·simp
 ·simp
theorem zCy (u:Nat):isd (Lib.decDigits u)=true:=by
 unfold isd
 rw [zZ4]
 simp [dec_ne u]
theorem zCv {c:UInt8}{r:List UInt8}(h:(c.toNat:Int)≠45/\(c.toNat:Int)≠43):gsgB (c::r)=false/\sgR (c::r)=c::r:=by
 refine ⟨by simp only [gsgB];exact decide_eq_false h.1,?_⟩
 simp only [sgR]
 rw [if_neg (by omega)]
theorem zTr {c:UInt8}(h:dg c=true):48<=(c.toNat:Int)/\(c.toNat:Int)<=57:=by
 unfold dg at h
 have:=of_decide_eq_true h
 omega
theorem sg_all {l:List UInt8}(h:l.all dg=true):gsgB l=false/\sgR l=l:=by
 cases l with
 | nil=>exact ⟨rfl,rfl⟩
 | cons c r =>
  rw [List.all_cons,Bool.and_eq_true] at h
  have:=zTr h.1
  exact zCv ⟨by omega,by omega⟩
theorem zJx (e:Int)(h:-1000000000<=e/\e<=1000000000):exB (exT e)=true/\exI (exT e)=e/\Lib.hasPrefix (exT e) [46]=false/\dgs (exT e)=[]/\rst (exT e)=exT e:=by
 unfold exT
 split
 ·rename_i h0;subst h0;exact ⟨rfl,rfl,rfl,rfl,rfl⟩
 ·rename_i h0
  have hi:isd (sgR (Lib.itoa e))=true/\exS (Lib.itoa e)=e:=by
   unfold Lib.itoa
   split
   ·rename_i h1
    have e1:gsgB (45::Lib.decDigits e.natAbs)=true:=rfl
    have e2:sgR (45::Lib.decDigits e.natAbs)=Lib.decDigits e.natAbs:=rfl
    unfold exS
    rw [e1,e2,if_pos rfl]
    refine ⟨zCy _,?_⟩
    unfold vc;rw [zX4];omega
   ·rename_i h1
    obtain ⟨e1,e2⟩:=sg_all (zZ4 e.toNat)
    unfold exS
    rw [e1,e2]
    refine ⟨zCy _,?_⟩
    rw [if_neg (by decide)]
    unfold vc;rw [zX4];omega
  have hx:exB (101::Lib.itoa e)=true:=by
   simp only [exB]
   rw [hi.1];rfl
  refine ⟨hx,?_,rfl,rfl,rfl⟩
  simp only [exI]
  rw [if_pos hx]
  exact hi.2
theorem zWf {l m:List UInt8}(h:l.all dg=true)(hm:dgs m=[]):dgs (l++m)=l/\rst (l++m)=m:=by
 have h1:dgs (l++m)=l:=by
  induction l with
  | nil=>exact hm
  | cons c r ih =>
   rw [List.all_cons,Bool.and_eq_true] at h
   unfold dgs at ih ⊢
   rw [List.cons_append,List.takeWhile_cons,if_pos h.1,ih h.2]
 refine ⟨h1,?_⟩
 have e:=zKg (l++m)
 rw [h1] at e
 exact List.append_cancel_left e
theorem zM8 (T:List UInt8)(e:Int)(hT:T.all dg=true)(hn:T≠[])(h:-1000000000<=e/\e<=1000000000):zSk (T++exT e)=true/\finD (T++exT e)=bar T/\finE (T++exT e)=e:=by
 obtain ⟨h1,h2,h3,h4,h5⟩:=zJx e h
 obtain ⟨d1,d2⟩:=zWf hT h4
 have f1:zZn (T++exT e)=[]:=by unfold zZn;rw [d2,h3];rfl
 have f2:zKc (T++exT e)=exT e:=by unfold zKc;rw [d2,h3];rfl
 refine ⟨?_,?_,?_⟩
 ·unfold zSk;rw [f1,f2,h1,d1]
  cases T with
  | nil=>exact absurd rfl hn
  | cons c r=>rfl
 ·unfold finD;rw [f1,d1,List.append_nil]
 ·unfold finE;rw [f1,f2,h2];unfold zGg;simp;omega
def gdD (d:List UInt8):Prop:=d=[]∨(isd d=true/\by_ d 0≠48)
theorem zJj {d:List UInt8}(h:gdD d):d.all dg=true:=by
 rcases h with rfl|⟨h,_⟩
 ·rfl
 ·exact zRp h
theorem zCx {d:List UInt8}(h:gdD d):bar d=d:=by
 cases d with
 | nil=>rfl
 | cons c r =>
  rcases h with h|⟨_,h⟩
  ·cases h
  ·rw [zMg] at h
   rw [zLm,if_neg h]
theorem zI8 {d:List UInt8}(h:gdD d):(dgT d).all dg=true/\dgT d≠[]/\bar (dgT d)=d:=by
 unfold dgT
 split
 ·rename_i h0;subst h0;exact ⟨rfl,by simp,rfl⟩
 ·rename_i h0;exact ⟨zJj h,h0,zCx h⟩
def gdP (p:Prt):Prop:=gdD p.dig/\((p.cls=1/\p.sn=false/\(-1000000000<=p.ex/\p.ex<=1000000000)/\(zOh p.cls p.sg p.sn p.dig p.ex).length<=4000)∨(p.cls=2/\p.sn=false/\p.dig=[]/\p.ex=0)∨(p.cls=3/\p.ex=0/\(zOh p.cls p.sg p.sn p.dig p.ex).length<=4000))
theorem zYi (s:Bool)(c:UInt8)(r:List UInt8)(h:(c.toNat:Int)≠45/\(c.toNat:Int)≠43):gsgB ((if s then [45] else [])++(c::r))=s/\sgR ((if s then [45] else [])++(c::r))=c::r:=by
 cases s
 ·exact zCv h
 ·exact ⟨rfl,rfl⟩
theorem sml_dg {d:List UInt8}(h:d.all dg=true):sml d=d:=by
 induction d with
 | nil=>rfl
 | cons c r ih =>
  rw [List.all_cons,Bool.and_eq_true] at h
  have:=zTr h.1
  show sm c::sml r=c::r
  rw [ih h.2]
  unfold sm
  rw [if_neg (by omega)]
theorem nan_pa {d:List UInt8}(h:gdD d):sml (if d=[] then [] else 40::(d++[41]))=(if d=[] then [] else 40::(d++[41]))/\paB (if d=[] then [] else 40::(d++[41]))=true/\paD (if d=[] then [] else 40::(d++[41]))=d:=by
 by_cases h0:d=[]
 ·rw [if_pos h0];subst h0;exact ⟨rfl,rfl,rfl⟩
 ·rw [if_neg h0]
  have e1:Lib.trimPrefix (40::(d++[41])) [40]=d++[41]:=rfl
  have e2:Lib.hasPrefix (40::(d++[41])) [40]=true:=rfl
  obtain ⟨d1,d2⟩:=zWf (m:=[41]) (zJj h) rfl
  refine ⟨?_,?_,?_⟩
  ·have:=sml_dg (zJj h)
   unfold sml at this ⊢
   rw [List.map_cons,List.map_append,this];rfl
  ·unfold paB;rw [e1,e2,d1,d2]
   cases d with
   | nil=>exact absurd rfl h0
   | cons c r=>rfl
  ·unfold paD;rw [e1,e2,d1];rfl
theorem zQ7 (g:Bool){d:List UInt8}(h:gdD d):zSk (zOm g d)=false/\zVw (sml (zOm g d))=false/\zR7 (sml (zOm g d))=true/\Lib.hasPrefix (sml (zOm g d)) [115]=g/\paD (nanR (sml (zOm g d)))=d:=by
 obtain ⟨p1,p2,p3⟩:=nan_pa h
 unfold zOm
 generalize (if d=[] then [] else 40::(d++[41]):List UInt8)=X at p1 p2 p3 ⊢
 cases g
 ·have e:sml ((if false=true then [115] else [])++([110,97,110]++X))=[110,97,110]++X:=by
   show 110::97::110::sml X=_
   rw [p1];rfl
  rw [e]
  refine ⟨rfl,rfl,?_,rfl,?_⟩
  ·show (true&&paB X)=true
   rw [p2];rfl
  ·exact p3
 ·have e:sml ((if true=true then [115] else [])++([110,97,110]++X))=115::([110,97,110]++X):=by
   show 115::110::97::110::sml X=_
   rw [p1];rfl
  rw [e]
  refine ⟨rfl,rfl,?_,rfl,?_⟩
  ·show (true&&paB X)=true
   rw [p2];rfl
  ·exact p3
theorem zZ1 {p:Prt}(h:gdP p):jnP p:=by
 obtain ⟨c,s,g,d,e⟩:=p
 obtain ⟨hd,h⟩:=h
 dsimp only at hd h
 rcases h with ⟨rfl,rfl,he,hl⟩|⟨rfl,rfl,rfl,rfl⟩|⟨rfl,rfl,hl⟩
 ·obtain ⟨t1,t2,t3⟩:=zI8 hd
  have hb:zX9 1 false d e=dgT d++exT e:=rfl
  have hdl:d.length<=(dgT d).length:=by
   unfold dgT;split
   ·rename_i h0;subst h0;simp
   ·exact Nat.le_refl _
  have ht:zOh 1 s false d e=(if s then [45] else [])++(dgT d++exT e):=rfl
  refine ⟨?_,?_⟩
  ·rw [ht] at hl
   simp only [List.length_append] at hl
   show d.length<=4000
   omega
  ·unfold zVr
   rw [if_neg (show ¬ 4000<(zOh 1 s false d e).length by omega)]
   show zE5 (gsgB (zOh 1 s false d e)) (sgR (zOh 1 s false d e))=_
   obtain ⟨f1,f2,f3⟩:=zM8 (dgT d) e t1 t2 he
   have hs:gsgB (zOh 1 s false d e)=s/\sgR (zOh 1 s false d e)=dgT d++exT e:=by
    rw [ht]
    revert t1 t2
    generalize dgT d=T
    intro t1 t2
    cases T with
    | nil=>exact absurd rfl t2
    | cons c r =>
     rw [List.all_cons,Bool.and_eq_true] at t1
     have:=zTr t1.1
     exact zYi s c _ ⟨by omega,by omega⟩
   rw [hs.1,hs.2]
   unfold zE5
   rw [if_pos f1,f2,f3,t3]
 ·refine ⟨by simp,?_⟩
  cases s<;>rfl
 ·have hn:=zQ7 g hd
  have ht:zOh 3 s g d 0=(if s then [45] else [])++zOm g d:=rfl
  refine ⟨?_,?_⟩
  ·rw [ht] at hl
   unfold zOm at hl
   simp only [List.length_append] at hl
   show d.length<=4000
   by_cases h0:d=[]
   ·subst h0;simp
   ·rw [if_neg h0] at hl
    simp only [List.length_cons,List.length_append] at hl
    omega
  ·unfold zVr
   rw [if_neg (show ¬ 4000<(zOh 3 s g d 0).length by omega)]
   show zE5 (gsgB (zOh 3 s g d 0)) (sgR (zOh 3 s g d 0))=_
   have hs:gsgB (zOh 3 s g d 0)=s/\sgR (zOh 3 s g d 0)=zOm g d:=by
    rw [ht]
    cases g
    ·exact zYi s 110 _ ⟨by decide,by decide⟩
    ·exact zYi s 115 _ ⟨by decide,by decide⟩
   obtain ⟨n1,n2,n3,n4,n5⟩:=hn
   rw [hs.1,hs.2]
   unfold zE5
   rw [if_neg (by rw [n1];decide),if_neg (by rw [n2];decide),if_pos n3,n4,n5,zCx hd]
theorem zIr (e:Int)(w:World)(he:-9223372036854775808<=e/\e<=9223372036854775807)(hT:Tb10 w) :
  CB 100 #[.int .i64 e] w (.string (B (Lib.itoa e))):=by
 refine (Tryz.strconv_Itoa e he.1 he.2 w hT).mono ?_
 rintro x w' ⟨rfl,k,os,rfl⟩
 exact ⟨rfl,⟨rfl,rfl,rfl,by show w.heap.size<=(w.heap++os).size;simp,fun b hb=>by show (w.heap++os)[b]?=w.heap[b]?;rw [Array.getElem?_append_left hb]⟩⟩
section
section
variable {H:Type}{enc:TypeId×Value->H}{W:World}{base:Nat}{sp:Nat->Bool}{held:Bool}
theorem u59:∃ a b c d,Tryz.prog.underlying 142=some (.struct #[a,b,c,d])/\a.offset=0/\b.offset=1/\c.offset=2/\d.offset=3/\a.type=9/\b.type=3/\c.type=3/\d.type=3 :=
 ⟨_,_,_,_,Tryz.underlying142,rfl,rfl,rfl,rfl,rfl,rfl,rfl,rfl⟩
theorem c9:Tryz.prog.cellsOf 9=1:=by kernel_rfl
theorem c3:Tryz.prog.cellsOf 3=1:=by kernel_rfl
theorem c59:Tryz.prog.cellsOf 142=4:=by kernel_rfl
theorem c60:Tryz.prog.cellsOf 143=48:=by kernel_rfl
theorem u60:Tryz.prog.underlying 143=some (.array 12 142):=by kernel_rfl
theorem zJv {fuel:Nat}{cs:List Value}{nm:List UInt8}{a b c:Int}{p:DataW H×List MemPlace}(hp:p.1=.agg [.lit (.string nm),.lit (.int .i64 a),.lit (.int .i64 b),.lit (.int .i64 c)])
  (h:DataW.trod enc Tryz.prog W base sp held fuel 142 cs=some p):cs=[.string ⟨nm.toArray⟩,.int .i64 a,.int .i64 b,.int .i64 c]:=by
 obtain ⟨f0,f1,f2,f3,hu,o0,o1,o2,o3,t0,t1,t2,t3⟩:=u59
 obtain ⟨y0,y1,y2,y3,n,rfl,hl,h0,h1,h2,h3⟩:=Joins.trod_struct4 hu h
 rw [o0,t0,c9] at h0
 rw [o1,t1,c3] at h1
 rw [o2,t2,c3] at h2
 rw [o3,t3,c3] at h3
 obtain ⟨s,hs,rfl,_⟩:=DataW.trod_string Tryz.underlying9 h0
 obtain ⟨z1,hz1,rfl,_⟩:=DataW.trod_int Tryz.underlying3 h1
 obtain ⟨z2,hz2,rfl,_⟩:=DataW.trod_int Tryz.underlying3 h2
 obtain ⟨z3,hz3,rfl,_⟩:=DataW.trod_int Tryz.underlying3 h3
 simp only [DataW.agg.injEq,List.cons.injEq,DataW.lit.injEq,Lit.string.injEq,Lit.int.injEq,true_and,and_true] at hp
 obtain ⟨rfl,rfl,rfl,rfl⟩:=hp
 rw [c59] at hl
 match cs,hl with
 | [v0,v1,v2,v3],_ =>
  simp at hs hz1 hz2 hz3
  subst hs hz1 hz2 hz3
  rfl
theorem row_at {cs:List Value}{i:Nat}{v0 v1 v2 v3:Value}(h:(cs.drop (i*4)).take 4=[v0,v1,v2,v3]):cs[i*4]?=some v0/\cs[i*4+1]?=some v1/\cs[i*4+2]?=some v2/\cs[i*4+3]?=some v3:=by
 have g:∀ k,k<4->cs[i*4+k]?=[v0,v1,v2,v3][k]?:=fun k hk=>by
  rw [← h,List.getElem?_take_of_lt hk,List.getElem?_drop]
 exact ⟨g 0 (by decide),g 1 (by decide),g 2 (by decide),g 3 (by decide)⟩
theorem zUo {fuel:Nat}{cs:List Value}{p:List MemPlace}(h:DataW.trod enc Tryz.prog W base sp held fuel 143 cs=some (Rows.laid_caliper_desc_rows,p)) :
  ∀ i k,i<12->k<4->cs[i*4+k]?=some (zLo i k):=by
 cases fuel with
 | zero=>simp [DataW.trod] at h
 | succ fuel =>
  simp only [DataW.trod,u60,c59,c60] at h
  split at h
  ·rename_i hl
   obtain ⟨xs,hm,hx⟩:=Option.map_eq_some_iff.1 h
   have hxs:=congrArg Prod.fst hx
   simp only [Rows.laid_caliper_desc_rows,DataW.agg.injEq] at hxs
   intro i k hi hk
   obtain ⟨b,hb,hf⟩:=Lib.mapM_at hm i i (by simp [hi])
   have hd:(xs.map (·.1))[i]?=some b.1:=by simp [hb]
   rw [hxs] at hd
   have key:∀ (nm:List UInt8) (x y z:Int),b.1=.agg [.lit (.string nm),.lit (.int .i64 x),.lit (.int .i64 y),.lit (.int .i64 z)]->cs[i*4]?=some (.string ⟨nm.toArray⟩)/\cs[i*4+1]?=some (.int .i64 x)/\cs[i*4+2]?=some (.int .i64 y)/\cs[i*4+3]?=some (.int .i64 z) :=
    fun nm x y z e=>row_at (zJv e hf)
   have hk':k=0∨k=1∨k=2∨k=3:=by omega
   have hi':i=0∨i=1∨i=2∨i=3∨i=4∨i=5∨i=6∨i=7∨i=8∨i=9∨i=10∨i=11:=by omega
   rcases hi' with rfl|rfl|rfl|rfl|rfl|rfl|rfl|rfl|rfl|rfl|rfl|rfl
   all_goals
    obtain ⟨q0,q1,q2,q3⟩:=key _ _ _ _ (Option.some.inj hd).symm
    rcases hk' with rfl|rfl|rfl|rfl
    ·exact q0
    ·exact q1
    ·exact q2
    ·exact q3
  ·cases h
end
theorem tab_of_laid {W:World}{rest:List (String×DataW Unit)}(h:laidMet Tryz.prog (("caliper/desc.rows",Rows.laid_caliper_desc_rows)::rest) W):Tab W:=by
 obtain ⟨ps,⟨g',t',cs,fuel,p,q,hg',ht',hvar,hd,_,_⟩,_⟩:=h
 have hg:Tryz.prog.globalNamed "caliper/desc.rows" = some 0:=by kernel_rfl
 have hty:(Tryz.prog.globals[0]?).map (·.type)=some 143:=by kernel_rfl
 obtain rfl:=Option.some.inj (hg.symm.trans hg')
 obtain rfl:=Option.some.inj (hty.symm.trans ht')
 have hc:=zUo hd
 have hcell:∀ i k,i<12->k<4->W.cell? ⟨0,i*4+k,none⟩=some (zLo i k):=fun i k hi hk=>by
  have:=World.var?_cell hg hvar (i*4+k)
  rw [this,← hc i k hi hk]
  simp
 refine ⟨?_,hcell⟩
 have h0:=hcell 0 0 (by decide) (by decide)
 by_cases hz:0<W.heap.size
 ·exact hz
 ·have:W.heap[0]?=none:=Array.getElem?_eq_none (by omega)
  simp [World.cell?,this] at h0
end
end Go.Proofs.YtahfkpjhlbiamaaGreatDoor

namespace Go.Proofs.YtahfkpjhlbiamaaGreatDoor
open Go.ChangeShapes Go.WideShapes Go.ChangeAt Go.RowKit
theorem Tryz.own:ownKnob Tryz.prog.godebug=none:=by kernel_rfl
theorem Tryz.laidOut:laidOutB Tryz.prog=true:=by kernel_rfl
def zJ0:Array Value:=((List.range 12).flatMap fun i=>(List.range 4).map fun k=>zLo i k).toArray
def zTf (c:Array Value):Obj->Obj
 | .cells _ t frozen=>.cells c t frozen
 | o=>o
end Go.Proofs.YtahfkpjhlbiamaaGreatDoor

set_option maxRecDepth 100000
set_option maxRecDepth 20000
namespace Go.Proofs.YtahfkpjhlbiamaaGreatDoor
open Go.ChangeShapes Go.WideShapes Go.ChangeAt Go.RowKit
theorem Tryz.cells22:Tryz.prog.cellsOf 22=1:=by kernel_rfl
section
variable {H:Type}{enc:TypeId×Value->H}{W:World}{r:Reach}{base b:Nat}{sp:Nat->Bool}{held:Bool}{t:TypeId}{n:Nat}{v:Value}{d:DataW H}{p:List MemPlace}
theorem zCt (ht:Tryz.prog.underlying t=some (.array n 22))(hc:Tryz.prog.cellsOf t=n)(hok:Value.okWide Tryz.prog W r base t v)(h:DataW.Trod enc Tryz.prog W b sp held t v d p) :
  ∃ x,zDa x/\v=.agg (arrOf x n)/\p=[]:=by
 have ho:∃ cs,v=.agg cs/\cs.size=n:=by
  simp only [Value.okWide,ht] at hok
  obtain ⟨cs,h1,h2,_⟩:=hok
  exact ⟨cs,h1,by rw [h2,hc]⟩
 obtain ⟨cs,rfl,hcs⟩:=ho
 obtain ⟨fuel,hf⟩:=h
 obtain ⟨xs,m,rfl,hx,hl,hlen,hi⟩:=DataW.trod_array ht hf
 have hcell:∀ i,i<n->∃ z,cs[i]?=some (.int .u64 z)/\xs[i]?=some (.lit (.int .u64 z),[])/\(0<=z/\z<=18446744073709551615):=by
  intro i hin
  have h1:=hi i hin
  rw [Tryz.cells22] at h1
  have hix:i<xs.length:=by omega
  rw [List.getElem?_eq_getElem hix] at h1
  obtain ⟨z,hz,hxz,hw⟩:=DataW.trod_int Tryz.underlying22 h1
  refine ⟨z,?_,?_,bounds_u64 hw⟩
  ·have hic:i<cs.size:=by omega
   have:((Value.agg cs).cells.toList.drop (i*1)).take 1=[cs[i]]:=by
    simp [Value.cells,List.take_one,List.head?_drop,hic]
   rw [this] at hz
   rw [Array.getElem?_eq_getElem hic]
   simpa using hz
  ·rw [List.getElem?_eq_getElem hix,hxz]
 refine ⟨fun i=>match cs[i]? with|some (.int .u64 z)=>(if i<n then z else 0)|_=>0,?_,?_,?_⟩
 ·intro i
  by_cases hin:i<n
  ·obtain ⟨z,h1,_,h3⟩:=hcell i hin
   simp only [h1,if_pos hin];exact h3
  ·have:cs[i]?=none:=by simp;omega
   simp only [this];omega
 ·congr 1
  refine zZr cs n _ hcs fun i hin=>?_
  obtain ⟨z,h1,_,_⟩:=hcell i hin
  simp only [h1,if_pos hin]
 ·have:p=xs.flatMap (·.2):=by
   have:=congrArg Prod.snd hx;simpa using this
  rw [this]
  simp only [List.flatMap_eq_nil_iff]
  intro y hy
  obtain ⟨i,hin,rfl⟩:=List.getElem_of_mem hy
  obtain ⟨z,_,h2,_⟩:=hcell i (by omega)
  rw [List.getElem?_eq_getElem hin] at h2
  rw [Option.some.inj h2]
end
end Go.Proofs.YtahfkpjhlbiamaaGreatDoor
