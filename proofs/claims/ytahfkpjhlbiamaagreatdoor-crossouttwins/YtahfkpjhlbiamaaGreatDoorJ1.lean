/-
  Texts that the proof leans on.
-/
import Derived.Test.YtahfkpjhlbiamaaGreatDoorProg
import Derived.Below
import Derived.WalkKit
import Derived.Test.YtahfkpjhlbiamaaGreatDoorRows
import Derived.WalkSpells
import Derived.WalkLawsBesides
import Derived.RegionTactic
import Derived.ChangeAlike
import Derived.Laws.ResultCell
import Derived.LaidLaws
import Derived.Lib.LaidTab
import Derived.RowKit
import Derived.Deep.QuietTactic
import Derived.BigQuiet
import Derived.Lib.Strings
set_option maxHeartbeats 8000000
set_option linter.unusedVariables false
set_option linter.unusedSimpArgs false
set_option linter.unusedSectionVars false
set_option maxRecDepth 20000
namespace Go.Proofs.YtahfkpjhlbiamaaGreatDoor
open Go.RowKit
theorem bgo {n:Nat}{a b:World}(h:Below n a b:=by (repeat (first|with_reducible assumption|with_reducible exact Below.refl _ _|with_reducible refine Below.setCell ?_ (by first|omega|(dsimp only;omega)|(simp<;>omega)) _|with_reducible refine Below.alloc ?_ (by first|omega|(simp<;>omega)) _|with_reducible refine Below.drew ?_))):Below n a b:=h
theorem ltg {a b:Nat}(h:a<b:=by first|with_reducible assumption|(simp;done)|(simp;omega)):a<b:=h
theorem zf {W w1:World}(hb:Below W.heap.size W w1)(k:Nat)(h:k<W.heap.size:=by first|with_reducible assumption|(simp;done)|(simp;omega)):k<w1.heap.size/\k<=w1.heap.size :=
  ⟨Nat.lt_of_lt_of_le h hb.size,Nat.le_of_lt (Nat.lt_of_lt_of_le h hb.size)⟩
theorem wf (w0:World){W w1:World}(hb:Below W.heap.size W w1)(h:Below w0.heap.size w0 W:=by (repeat (first|with_reducible assumption|with_reducible exact Below.refl _ _|with_reducible refine Below.setCell ?_ (by first|omega|(dsimp only;omega)|(simp<;>omega)) _|with_reducible refine Below.alloc ?_ (by first|omega|(simp<;>omega)) _|with_reducible refine Below.drew ?_))):(∀ b o,b<W.heap.size->w1.cell? ⟨b,o,none⟩=W.cell? ⟨b,o,none⟩)/\(∀ b o,b<W.heap.size->w1.frozen? ⟨b,o,none⟩=W.frozen? ⟨b,o,none⟩)/\Below w0.heap.size w0 w1/\w0.heap.size<=w1.heap.size :=
  ⟨fun b o h=>hb.cell (p:=⟨b,o,none⟩) h,fun b o h=>hb.frozen (p:=⟨b,o,none⟩) h,h.trans (hb.mono h.size),(h.trans (hb.mono h.size)).size⟩
theorem wz (w0:World){W w1:World}(hb:Below W.heap.size W w1)(k:Nat:=w0.heap.size)(hk:k<W.heap.size:=by first|with_reducible assumption|(simp;done)|(simp;omega))(h:Below w0.heap.size w0 W:=by (repeat (first|with_reducible assumption|with_reducible exact Below.refl _ _|with_reducible refine Below.setCell ?_ (by first|omega|(dsimp only;omega)|(simp<;>omega)) _|with_reducible refine Below.alloc ?_ (by first|omega|(simp<;>omega)) _|with_reducible refine Below.drew ?_))):(∀ b o,b<W.heap.size->w1.cell? ⟨b,o,none⟩=W.cell? ⟨b,o,none⟩)/\(∀ b o,b<W.heap.size->w1.frozen? ⟨b,o,none⟩=W.frozen? ⟨b,o,none⟩)/\k<w1.heap.size/\k<=w1.heap.size/\Below w0.heap.size w0 w1/\w0.heap.size<=w1.heap.size :=
  ⟨fun b o h=>hb.cell (p:=⟨b,o,none⟩) h,fun b o h=>hb.frozen (p:=⟨b,o,none⟩) h,Nat.lt_of_lt_of_le hk hb.size,Nat.le_of_lt (Nat.lt_of_lt_of_le hk hb.size),h.trans (hb.mono h.size),(h.trans (hb.mono h.size)).size⟩
abbrev CB (f:FuncId)(a:Array Value)(W:World)(v:Value):Prop:=Calls Tryz.prog f a W fun r w'=>r=.returned v/\Below W.heap.size W w'
abbrev CQ (f:FuncId)(a:Array Value)(W:World)(v:Value):Prop:=Calls Tryz.prog f a W fun r w'=>r=.returned v/\W=w'
abbrev CE (f:FuncId)(a:Array Value)(W:World)(p:Value->World->Prop):Prop:=Calls Tryz.prog f a W fun r w'=>∃ v,r=.returned v/\p v w'/\Below W.heap.size W w'
theorem wk (w0:World){f:FuncId}{a:Array Value}{W:World}{v:Value}{P:Ending->World->Prop}(hc:CB f a W v)(hq:∀ w1,Below W.heap.size W w1->(∀ b o,b<W.heap.size->w1.cell? ⟨b,o,none⟩=W.cell? ⟨b,o,none⟩)->(∀ b o,b<W.heap.size->w1.frozen? ⟨b,o,none⟩=W.frozen? ⟨b,o,none⟩)->w0.heap.size<w1.heap.size->w0.heap.size<=w1.heap.size->Below w0.heap.size w0 w1->w0.heap.size<=w1.heap.size->P (.returned v) w1)(hk:w0.heap.size<W.heap.size:=by first|with_reducible assumption|(simp;done)|(simp;omega))(h:Below w0.heap.size w0 W:=by (repeat (first|with_reducible assumption|with_reducible exact Below.refl _ _|with_reducible refine Below.setCell ?_ (by first|omega|(dsimp only;omega)|(simp<;>omega)) _|with_reducible refine Below.alloc ?_ (by first|omega|(simp<;>omega)) _|with_reducible refine Below.drew ?_))):Calls Tryz.prog f a W P :=
  hc.mono fun r w1 ⟨e,hb⟩=>e▸hq w1 hb (fun b o h=>hb.cell (p:=⟨b,o,none⟩) h) (fun b o h=>hb.frozen (p:=⟨b,o,none⟩) h) (Nat.lt_of_lt_of_le hk hb.size) (Nat.le_of_lt (Nat.lt_of_lt_of_le hk hb.size)) (h.trans (hb.mono h.size)) (h.trans (hb.mono h.size)).size
theorem zg {W w1:World}(hb:Below W.heap.size W w1)(k j:Nat)(h:k<W.heap.size:=by first|with_reducible assumption|(simp;done)|(simp;omega))(i:j<W.heap.size:=by first|with_reducible assumption|(simp;done)|(simp;omega)):k<w1.heap.size/\k<=w1.heap.size/\j<w1.heap.size/\j<=w1.heap.size :=
  ⟨(zf hb k h).1,(zf hb k h).2,(zf hb j i).1,(zf hb j i).2⟩
theorem zh {W w1:World}(hb:Below W.heap.size W w1)(k j l:Nat)(h:k<W.heap.size:=by first|with_reducible assumption|(simp;done)|(simp;omega))(i:j<W.heap.size:=by first|with_reducible assumption|(simp;done)|(simp;omega))(g:l<W.heap.size:=by first|with_reducible assumption|(simp;done)|(simp;omega)):k<w1.heap.size/\k<=w1.heap.size/\j<w1.heap.size/\j<=w1.heap.size/\l<w1.heap.size/\l<=w1.heap.size :=
  ⟨(zf hb k h).1,(zf hb k h).2,(zf hb j i).1,(zf hb j i).2,(zf hb l g).1,(zf hb l g).2⟩
theorem ll {α:Type}:(∀ a b:List α,(a++b).length=a.length+b.length)/\(∀ (a:α) (l:List α),(a::l).length=l.length+1)/\([]:List α).length=0:=⟨fun _ _=>List.length_append,fun _ _=>rfl,rfl⟩
def zEp:Nat->Nat->Value
 | 0,0=>.string ⟨#[72,97,108,102]⟩
 | 0,1=>.int .i64 16
 | 0,2=>.int .i64 11
 | 0,3=>.int .i64 5
 | 1,0=>.string ⟨#[66,114,97,105,110]⟩
 | 1,1=>.int .i64 16
 | 1,2=>.int .i64 8
 | 1,3=>.int .i64 8
 | 2,0=>.string ⟨#[83,105,110,103,108,101]⟩
 | 2,1=>.int .i64 32
 | 2,2=>.int .i64 24
 | 2,3=>.int .i64 8
 | 3,0=>.string ⟨#[68,111,117,98,108,101]⟩
 | 3,1=>.int .i64 64
 | 3,2=>.int .i64 53
 | 3,3=>.int .i64 11
 | 4,0=>.string ⟨#[81,117,97,100]⟩
 | 4,1=>.int .i64 128
 | 4,2=>.int .i64 113
 | 4,3=>.int .i64 15
 | 5,0=>.string ⟨#[79,99,116,111]⟩
 | 5,1=>.int .i64 256
 | 5,2=>.int .i64 241
 | 5,3=>.int .i64 15
 | 6,0=>.string ⟨#[80,108,97,105,110,51,50]⟩
 | 6,1=>.int .i64 32
 | 6,2=>.int .i64 7
 | 6,3=>.int .i64 96
 | 7,0=>.string ⟨#[80,108,97,105,110,54,52]⟩
 | 7,1=>.int .i64 64
 | 7,2=>.int .i64 16
 | 7,3=>.int .i64 384
 | 8,0=>.string ⟨#[80,108,97,105,110,49,50,56]⟩
 | 8,1=>.int .i64 128
 | 8,2=>.int .i64 34
 | 8,3=>.int .i64 6144
 | 9,0=>.string ⟨#[68,101,110,115,101,51,50]⟩
 | 9,1=>.int .i64 32
 | 9,2=>.int .i64 7
 | 9,3=>.int .i64 96
 | 10,0=>.string ⟨#[68,101,110,115,101,54,52]⟩
 | 10,1=>.int .i64 64
 | 10,2=>.int .i64 16
 | 10,3=>.int .i64 384
 | 11,0=>.string ⟨#[68,101,110,115,101,49,50,56]⟩
 | 11,1=>.int .i64 128
 | 11,2=>.int .i64 34
 | 11,3=>.int .i64 6144
 | _,_=>.int .i64 0
def Tab (w:World):Prop:=0<w.heap.size/\∀ i k,i<12->k<4->w.cell? ⟨0,i*4+k,none⟩=some (zEp i k)
theorem Tab.next {B:Nat}{w w':World}(h:Tab w)(hb:Below B w w')(hB:0<B):Tab w' :=
 ⟨Nat.lt_of_lt_of_le h.1 hb.size,fun i k hi hk=>(hb.cell (p:=⟨0,i*4+k,none⟩) hB).trans (h.2 i k hi hk)⟩
theorem Tab.go {w w':World}(h:Tab w)(hb:Below w.heap.size w w'):Tab w':=h.next hb h.1
theorem Tab.drew {w:World}(h:Tab w):Tab w.drew:=h
theorem Tab.alloc {w:World}(h:Tab w)(o:Obj):Tab (w.alloc o):=h.go ((Below.refl _ _).alloc (Nat.le_refl _) o)
def zDc:Int->Array Value
 | 1=>#[.int .i64 1,.string ⟨#[72,97,108,102]⟩,.int .i64 2,.int .i64 16,.int .i64 11,.int .i64 5,.int .i64 (-24),.int .i64 5,.int .i64 9,.bool false]
 | 2=>#[.int .i64 2,.string ⟨#[66,114,97,105,110]⟩,.int .i64 2,.int .i64 16,.int .i64 8,.int .i64 8,.int .i64 (-133),.int .i64 120,.int .i64 6,.bool false]
 | 3=>#[.int .i64 3,.string ⟨#[83,105,110,103,108,101]⟩,.int .i64 2,.int .i64 32,.int .i64 24,.int .i64 8,.int .i64 (-149),.int .i64 104,.int .i64 22,.bool false]
 | 4=>#[.int .i64 4,.string ⟨#[68,111,117,98,108,101]⟩,.int .i64 2,.int .i64 64,.int .i64 53,.int .i64 11,.int .i64 (-1074),.int .i64 971,.int .i64 51,.bool false]
 | 5=>#[.int .i64 5,.string ⟨#[81,117,97,100]⟩,.int .i64 2,.int .i64 128,.int .i64 113,.int .i64 15,.int .i64 (-16494),.int .i64 16271,.int .i64 111,.bool false]
 | 6=>#[.int .i64 6,.string ⟨#[79,99,116,111]⟩,.int .i64 2,.int .i64 256,.int .i64 241,.int .i64 15,.int .i64 (-16622),.int .i64 16143,.int .i64 239,.bool false]
 | 7=>#[.int .i64 7,.string ⟨#[80,108,97,105,110,51,50]⟩,.int .i64 10,.int .i64 32,.int .i64 7,.int .i64 96,.int .i64 (-101),.int .i64 90,.int .i64 6,.bool false]
 | 8=>#[.int .i64 8,.string ⟨#[80,108,97,105,110,54,52]⟩,.int .i64 10,.int .i64 64,.int .i64 16,.int .i64 384,.int .i64 (-398),.int .i64 369,.int .i64 15,.bool false]
 | 9=>#[.int .i64 9,.string ⟨#[80,108,97,105,110,49,50,56]⟩,.int .i64 10,.int .i64 128,.int .i64 34,.int .i64 6144,.int .i64 (-6176),.int .i64 6111,.int .i64 33,.bool false]
 | 10=>#[.int .i64 10,.string ⟨#[68,101,110,115,101,51,50]⟩,.int .i64 10,.int .i64 32,.int .i64 7,.int .i64 96,.int .i64 (-101),.int .i64 90,.int .i64 6,.bool true]
 | 11=>#[.int .i64 11,.string ⟨#[68,101,110,115,101,54,52]⟩,.int .i64 10,.int .i64 64,.int .i64 16,.int .i64 384,.int .i64 (-398),.int .i64 369,.int .i64 15,.bool true]
 | 12=>#[.int .i64 12,.string ⟨#[68,101,110,115,101,49,50,56]⟩,.int .i64 10,.int .i64 128,.int .i64 34,.int .i64 6144,.int .i64 (-6176),.int .i64 6111,.int .i64 33,.bool true]
 | _=>#[.int .i64 0,.string ⟨#[]⟩,.int .i64 0,.int .i64 0,.int .i64 0,.int .i64 0,.int .i64 0,.int .i64 0,.int .i64 0,.bool false]
def okN (n:Int):Prop:=1<=n/\n<=12
instance (n:Int):Decidable (okN n):=inferInstanceAs (Decidable (_/\_))
def zQd (n:Int):Int:=if okN n then 0 else 1
theorem zWh {n:Int}(h:¬ okN n):zDc n=#[.int .i64 0,.string ⟨#[]⟩,.int .i64 0,.int .i64 0,.int .i64 0,.int .i64 0,.int .i64 0,.int .i64 0,.int .i64 0,.bool false]:=by
 unfold zDc okN at *
 split<;>first|rfl|omega
theorem zEe {n:Int}(h:okN n):n=1∨n=2∨n=3∨n=4∨n=5∨n=6∨n=7∨n=8∨n=9∨n=10∨n=11∨n=12:=by unfold okN at h;omega
theorem zZb (w:World)(a:Obj):Below w.heap.size w (w.alloc a):=(Below.refl _ _).alloc (Nat.le_refl _) a
theorem zLc (w:World)(a b:Obj):Below w.heap.size w ((w.alloc a).alloc b):=(zZb w a).alloc (by simp) b
theorem zCd (w:World)(a b c:Obj):Below w.heap.size w (((w.alloc a).alloc b).alloc c):=(zLc w a b).alloc (by simp;omega) c
theorem of_1 (w:World)(hT:Tab w) :
  CB 53 #[.int .i64 1] w (.tuple #[.agg (zDc 1),.int .i64 0]):=by
 have hs:=hT.1
 have h0:=hT.2 0 0 (by decide) (by decide)
 have h1:=hT.2 0 1 (by decide) (by decide)
 have h2:=hT.2 0 2 (by decide) (by decide)
 have h3:=hT.2 0 3 (by decide) (by decide)
 simp only [Nat.reduceMul,Nat.reduceAdd,zEp] at h0 h1 h2 h3
 show CB 53 #[.int .i64 1] w (.tuple #[.agg #[.int .i64 1,.string ⟨#[72,97,108,102]⟩,.int .i64 2,.int .i64 16,.int .i64 11,.int .i64 5,.int .i64 (-24),.int .i64 5,.int .i64 9,.bool false],.int .i64 0])
 clear hT
 go_enter Tryz.func53,Tryz.ntmps53
 go_wp2
 go_region
 go_wp2
 exact bodyPost_ret (v:=.tuple #[.agg #[.int .i64 1,.string ⟨#[72,97,108,102]⟩,.int .i64 2,.int .i64 16,.int .i64 11,.int .i64 5,.int .i64 (-24),.int .i64 5,.int .i64 9,.bool false],.int .i64 0]) (by rw [results_cell_tmp rfl];go_simp) rfl ⟨rfl,(zCd _ _ _ _).drew⟩
theorem of_2 (w:World)(hT:Tab w) :
  CB 53 #[.int .i64 2] w (.tuple #[.agg (zDc 2),.int .i64 0]):=by
 have hs:=hT.1
 have h0:=hT.2 1 0 (by decide) (by decide)
 have h1:=hT.2 1 1 (by decide) (by decide)
 have h2:=hT.2 1 2 (by decide) (by decide)
 have h3:=hT.2 1 3 (by decide) (by decide)
 simp only [Nat.reduceMul,Nat.reduceAdd,zEp] at h0 h1 h2 h3
 show CB 53 #[.int .i64 2] w (.tuple #[.agg #[.int .i64 2,.string ⟨#[66,114,97,105,110]⟩,.int .i64 2,.int .i64 16,.int .i64 8,.int .i64 8,.int .i64 (-133),.int .i64 120,.int .i64 6,.bool false],.int .i64 0])
 clear hT
 go_enter Tryz.func53,Tryz.ntmps53
 go_wp2
 go_region
 go_wp2
 exact bodyPost_ret (v:=.tuple #[.agg #[.int .i64 2,.string ⟨#[66,114,97,105,110]⟩,.int .i64 2,.int .i64 16,.int .i64 8,.int .i64 8,.int .i64 (-133),.int .i64 120,.int .i64 6,.bool false],.int .i64 0]) (by rw [results_cell_tmp rfl];go_simp) rfl ⟨rfl,(zCd _ _ _ _).drew⟩
theorem of_3 (w:World)(hT:Tab w) :
  CB 53 #[.int .i64 3] w (.tuple #[.agg (zDc 3),.int .i64 0]):=by
 have hs:=hT.1
 have h0:=hT.2 2 0 (by decide) (by decide)
 have h1:=hT.2 2 1 (by decide) (by decide)
 have h2:=hT.2 2 2 (by decide) (by decide)
 have h3:=hT.2 2 3 (by decide) (by decide)
 simp only [Nat.reduceMul,Nat.reduceAdd,zEp] at h0 h1 h2 h3
 show CB 53 #[.int .i64 3] w (.tuple #[.agg #[.int .i64 3,.string ⟨#[83,105,110,103,108,101]⟩,.int .i64 2,.int .i64 32,.int .i64 24,.int .i64 8,.int .i64 (-149),.int .i64 104,.int .i64 22,.bool false],.int .i64 0])
 clear hT
 go_enter Tryz.func53,Tryz.ntmps53
 go_wp2
 go_region
 go_wp2
 exact bodyPost_ret (v:=.tuple #[.agg #[.int .i64 3,.string ⟨#[83,105,110,103,108,101]⟩,.int .i64 2,.int .i64 32,.int .i64 24,.int .i64 8,.int .i64 (-149),.int .i64 104,.int .i64 22,.bool false],.int .i64 0]) (by rw [results_cell_tmp rfl];go_simp) rfl ⟨rfl,(zCd _ _ _ _).drew⟩
theorem of_4 (w:World)(hT:Tab w) :
  CB 53 #[.int .i64 4] w (.tuple #[.agg (zDc 4),.int .i64 0]):=by
 have hs:=hT.1
 have h0:=hT.2 3 0 (by decide) (by decide)
 have h1:=hT.2 3 1 (by decide) (by decide)
 have h2:=hT.2 3 2 (by decide) (by decide)
 have h3:=hT.2 3 3 (by decide) (by decide)
 simp only [Nat.reduceMul,Nat.reduceAdd,zEp] at h0 h1 h2 h3
 show CB 53 #[.int .i64 4] w (.tuple #[.agg #[.int .i64 4,.string ⟨#[68,111,117,98,108,101]⟩,.int .i64 2,.int .i64 64,.int .i64 53,.int .i64 11,.int .i64 (-1074),.int .i64 971,.int .i64 51,.bool false],.int .i64 0])
 clear hT
 go_enter Tryz.func53,Tryz.ntmps53
 go_wp2
 go_region
 go_wp2
 exact bodyPost_ret (v:=.tuple #[.agg #[.int .i64 4,.string ⟨#[68,111,117,98,108,101]⟩,.int .i64 2,.int .i64 64,.int .i64 53,.int .i64 11,.int .i64 (-1074),.int .i64 971,.int .i64 51,.bool false],.int .i64 0]) (by rw [results_cell_tmp rfl];go_simp) rfl ⟨rfl,(zCd _ _ _ _).drew⟩
theorem of_5 (w:World)(hT:Tab w) :
  CB 53 #[.int .i64 5] w (.tuple #[.agg (zDc 5),.int .i64 0]):=by
 have hs:=hT.1
 have h0:=hT.2 4 0 (by decide) (by decide)
 have h1:=hT.2 4 1 (by decide) (by decide)
 have h2:=hT.2 4 2 (by decide) (by decide)
 have h3:=hT.2 4 3 (by decide) (by decide)
 simp only [Nat.reduceMul,Nat.reduceAdd,zEp] at h0 h1 h2 h3
 show CB 53 #[.int .i64 5] w (.tuple #[.agg #[.int .i64 5,.string ⟨#[81,117,97,100]⟩,.int .i64 2,.int .i64 128,.int .i64 113,.int .i64 15,.int .i64 (-16494),.int .i64 16271,.int .i64 111,.bool false],.int .i64 0])
 clear hT
 go_enter Tryz.func53,Tryz.ntmps53
 go_wp2
 go_region
 go_wp2
 exact bodyPost_ret (v:=.tuple #[.agg #[.int .i64 5,.string ⟨#[81,117,97,100]⟩,.int .i64 2,.int .i64 128,.int .i64 113,.int .i64 15,.int .i64 (-16494),.int .i64 16271,.int .i64 111,.bool false],.int .i64 0]) (by rw [results_cell_tmp rfl];go_simp) rfl ⟨rfl,(zCd _ _ _ _).drew⟩
theorem of_6 (w:World)(hT:Tab w) :
  CB 53 #[.int .i64 6] w (.tuple #[.agg (zDc 6),.int .i64 0]):=by
 have hs:=hT.1
 have h0:=hT.2 5 0 (by decide) (by decide)
 have h1:=hT.2 5 1 (by decide) (by decide)
 have h2:=hT.2 5 2 (by decide) (by decide)
 have h3:=hT.2 5 3 (by decide) (by decide)
 simp only [Nat.reduceMul,Nat.reduceAdd,zEp] at h0 h1 h2 h3
 show CB 53 #[.int .i64 6] w (.tuple #[.agg #[.int .i64 6,.string ⟨#[79,99,116,111]⟩,.int .i64 2,.int .i64 256,.int .i64 241,.int .i64 15,.int .i64 (-16622),.int .i64 16143,.int .i64 239,.bool false],.int .i64 0])
 clear hT
 go_enter Tryz.func53,Tryz.ntmps53
 go_wp2
 go_region
 go_wp2
 exact bodyPost_ret (v:=.tuple #[.agg #[.int .i64 6,.string ⟨#[79,99,116,111]⟩,.int .i64 2,.int .i64 256,.int .i64 241,.int .i64 15,.int .i64 (-16622),.int .i64 16143,.int .i64 239,.bool false],.int .i64 0]) (by rw [results_cell_tmp rfl];go_simp) rfl ⟨rfl,(zCd _ _ _ _).drew⟩
theorem of_7 (w:World)(hT:Tab w) :
  CB 53 #[.int .i64 7] w (.tuple #[.agg (zDc 7),.int .i64 0]):=by
 have hs:=hT.1
 have h0:=hT.2 6 0 (by decide) (by decide)
 have h1:=hT.2 6 1 (by decide) (by decide)
 have h2:=hT.2 6 2 (by decide) (by decide)
 have h3:=hT.2 6 3 (by decide) (by decide)
 simp only [Nat.reduceMul,Nat.reduceAdd,zEp] at h0 h1 h2 h3
 show CB 53 #[.int .i64 7] w (.tuple #[.agg #[.int .i64 7,.string ⟨#[80,108,97,105,110,51,50]⟩,.int .i64 10,.int .i64 32,.int .i64 7,.int .i64 96,.int .i64 (-101),.int .i64 90,.int .i64 6,.bool false],.int .i64 0])
 clear hT
 go_enter Tryz.func53,Tryz.ntmps53
 go_wp2
 go_region
 go_wp2
 exact bodyPost_ret (v:=.tuple #[.agg #[.int .i64 7,.string ⟨#[80,108,97,105,110,51,50]⟩,.int .i64 10,.int .i64 32,.int .i64 7,.int .i64 96,.int .i64 (-101),.int .i64 90,.int .i64 6,.bool false],.int .i64 0]) (by rw [results_cell_tmp rfl];go_simp) rfl ⟨rfl,(zCd _ _ _ _).drew⟩
theorem of_8 (w:World)(hT:Tab w) :
  CB 53 #[.int .i64 8] w (.tuple #[.agg (zDc 8),.int .i64 0]):=by
 have hs:=hT.1
 have h0:=hT.2 7 0 (by decide) (by decide)
 have h1:=hT.2 7 1 (by decide) (by decide)
 have h2:=hT.2 7 2 (by decide) (by decide)
 have h3:=hT.2 7 3 (by decide) (by decide)
 simp only [Nat.reduceMul,Nat.reduceAdd,zEp] at h0 h1 h2 h3
 show CB 53 #[.int .i64 8] w (.tuple #[.agg #[.int .i64 8,.string ⟨#[80,108,97,105,110,54,52]⟩,.int .i64 10,.int .i64 64,.int .i64 16,.int .i64 384,.int .i64 (-398),.int .i64 369,.int .i64 15,.bool false],.int .i64 0])
 clear hT
 go_enter Tryz.func53,Tryz.ntmps53
 go_wp2
 go_region
 go_wp2
 exact bodyPost_ret (v:=.tuple #[.agg #[.int .i64 8,.string ⟨#[80,108,97,105,110,54,52]⟩,.int .i64 10,.int .i64 64,.int .i64 16,.int .i64 384,.int .i64 (-398),.int .i64 369,.int .i64 15,.bool false],.int .i64 0]) (by rw [results_cell_tmp rfl];go_simp) rfl ⟨rfl,(zCd _ _ _ _).drew⟩
theorem of_9 (w:World)(hT:Tab w) :
  CB 53 #[.int .i64 9] w (.tuple #[.agg (zDc 9),.int .i64 0]):=by
 have hs:=hT.1
 have h0:=hT.2 8 0 (by decide) (by decide)
 have h1:=hT.2 8 1 (by decide) (by decide)
 have h2:=hT.2 8 2 (by decide) (by decide)
 have h3:=hT.2 8 3 (by decide) (by decide)
 simp only [Nat.reduceMul,Nat.reduceAdd,zEp] at h0 h1 h2 h3
 show CB 53 #[.int .i64 9] w (.tuple #[.agg #[.int .i64 9,.string ⟨#[80,108,97,105,110,49,50,56]⟩,.int .i64 10,.int .i64 128,.int .i64 34,.int .i64 6144,.int .i64 (-6176),.int .i64 6111,.int .i64 33,.bool false],.int .i64 0])
 clear hT
 go_enter Tryz.func53,Tryz.ntmps53
 go_wp2
 go_region
 go_wp2
 exact bodyPost_ret (v:=.tuple #[.agg #[.int .i64 9,.string ⟨#[80,108,97,105,110,49,50,56]⟩,.int .i64 10,.int .i64 128,.int .i64 34,.int .i64 6144,.int .i64 (-6176),.int .i64 6111,.int .i64 33,.bool false],.int .i64 0]) (by rw [results_cell_tmp rfl];go_simp) rfl ⟨rfl,(zCd _ _ _ _).drew⟩
theorem of_10 (w:World)(hT:Tab w) :
  CB 53 #[.int .i64 10] w (.tuple #[.agg (zDc 10),.int .i64 0]):=by
 have hs:=hT.1
 have h0:=hT.2 9 0 (by decide) (by decide)
 have h1:=hT.2 9 1 (by decide) (by decide)
 have h2:=hT.2 9 2 (by decide) (by decide)
 have h3:=hT.2 9 3 (by decide) (by decide)
 simp only [Nat.reduceMul,Nat.reduceAdd,zEp] at h0 h1 h2 h3
 show CB 53 #[.int .i64 10] w (.tuple #[.agg #[.int .i64 10,.string ⟨#[68,101,110,115,101,51,50]⟩,.int .i64 10,.int .i64 32,.int .i64 7,.int .i64 96,.int .i64 (-101),.int .i64 90,.int .i64 6,.bool true],.int .i64 0])
 clear hT
 go_enter Tryz.func53,Tryz.ntmps53
 go_wp2
 go_region
 go_wp2
 exact bodyPost_ret (v:=.tuple #[.agg #[.int .i64 10,.string ⟨#[68,101,110,115,101,51,50]⟩,.int .i64 10,.int .i64 32,.int .i64 7,.int .i64 96,.int .i64 (-101),.int .i64 90,.int .i64 6,.bool true],.int .i64 0]) (by rw [results_cell_tmp rfl];go_simp) rfl ⟨rfl,(zCd _ _ _ _).drew⟩
theorem of_11 (w:World)(hT:Tab w) :
  CB 53 #[.int .i64 11] w (.tuple #[.agg (zDc 11),.int .i64 0]):=by
 have hs:=hT.1
 have h0:=hT.2 10 0 (by decide) (by decide)
 have h1:=hT.2 10 1 (by decide) (by decide)
 have h2:=hT.2 10 2 (by decide) (by decide)
 have h3:=hT.2 10 3 (by decide) (by decide)
 simp only [Nat.reduceMul,Nat.reduceAdd,zEp] at h0 h1 h2 h3
 show CB 53 #[.int .i64 11] w (.tuple #[.agg #[.int .i64 11,.string ⟨#[68,101,110,115,101,54,52]⟩,.int .i64 10,.int .i64 64,.int .i64 16,.int .i64 384,.int .i64 (-398),.int .i64 369,.int .i64 15,.bool true],.int .i64 0])
 clear hT
 go_enter Tryz.func53,Tryz.ntmps53
 go_wp2
 go_region
 go_wp2
 exact bodyPost_ret (v:=.tuple #[.agg #[.int .i64 11,.string ⟨#[68,101,110,115,101,54,52]⟩,.int .i64 10,.int .i64 64,.int .i64 16,.int .i64 384,.int .i64 (-398),.int .i64 369,.int .i64 15,.bool true],.int .i64 0]) (by rw [results_cell_tmp rfl];go_simp) rfl ⟨rfl,(zCd _ _ _ _).drew⟩
theorem of_12 (w:World)(hT:Tab w) :
  CB 53 #[.int .i64 12] w (.tuple #[.agg (zDc 12),.int .i64 0]):=by
 have hs:=hT.1
 have h0:=hT.2 11 0 (by decide) (by decide)
 have h1:=hT.2 11 1 (by decide) (by decide)
 have h2:=hT.2 11 2 (by decide) (by decide)
 have h3:=hT.2 11 3 (by decide) (by decide)
 simp only [Nat.reduceMul,Nat.reduceAdd,zEp] at h0 h1 h2 h3
 show CB 53 #[.int .i64 12] w (.tuple #[.agg #[.int .i64 12,.string ⟨#[68,101,110,115,101,49,50,56]⟩,.int .i64 10,.int .i64 128,.int .i64 34,.int .i64 6144,.int .i64 (-6176),.int .i64 6111,.int .i64 33,.bool true],.int .i64 0])
 clear hT
 go_enter Tryz.func53,Tryz.ntmps53
 go_wp2
 go_region
 go_wp2
 exact bodyPost_ret (v:=.tuple #[.agg #[.int .i64 12,.string ⟨#[68,101,110,115,101,49,50,56]⟩,.int .i64 10,.int .i64 128,.int .i64 34,.int .i64 6144,.int .i64 (-6176),.int .i64 6111,.int .i64 33,.bool true],.int .i64 0]) (by rw [results_cell_tmp rfl];go_simp) rfl ⟨rfl,(zCd _ _ _ _).drew⟩
theorem zM9 (n:Int)(w:World)(h:¬ okN n) :
  CB 53 #[.int .i64 n] w (.tuple #[.agg (zDc n),.int .i64 1]):=by
 rw [zWh h]
 have key:n<1∨(1<=n/\12<n):=by unfold okN at h;omega
 clear h
 rcases key with k1|⟨k1,k2⟩
 all_goals
  go_enter Tryz.func53,Tryz.ntmps53
  go_wp2
  exact bodyPost_ret (v:=.tuple #[.agg #[.int .i64 0,.string ⟨#[]⟩,.int .i64 0,.int .i64 0,.int .i64 0,.int .i64 0,.int .i64 0,.int .i64 0,.int .i64 0,.bool false],.int .i64 1]) (by rw [results_cell_tmp rfl];go_simp) rfl ⟨rfl,zZb _ _⟩
theorem yCb (n:Int)(w:World)(hT:Tab w) :
  CB 53 #[.int .i64 n] w (.tuple #[.agg (zDc n),.int .i64 (zQd n)]):=by
 by_cases h:okN n
 ·rcases zEe h with rfl|rfl|rfl|rfl|rfl|rfl|rfl|rfl|rfl|rfl|rfl|rfl
  ·exact of_1 w hT
  ·exact of_2 w hT
  ·exact of_3 w hT
  ·exact of_4 w hT
  ·exact of_5 w hT
  ·exact of_6 w hT
  ·exact of_7 w hT
  ·exact of_8 w hT
  ·exact of_9 w hT
  ·exact of_10 w hT
  ·exact of_11 w hT
  ·exact of_12 w hT
 ·unfold zQd;rw [if_neg h];exact zM9 n w h
def B (l:List UInt8):ByteArray:=⟨l.toArray⟩
theorem B_of (s:ByteArray):B s.data.toList=s:=by cases s;rfl
theorem zFa (l:List UInt8):(B l).size=l.length:=rfl
theorem B_get {l:List UInt8}{i:Nat}(h:i<(B l).size):(B l)[i]'h=l[i]'(by rwa [zFa] at h):=by
 show (B l).data[i]'_=_
 simp [B]
theorem zXq (l:List UInt8)(a b:Nat):(B l).extract a b=B ((l.take b).drop a):=by
 apply ByteArray.ext
 rw [ByteArray.data_extract]
 show l.toArray.extract a b=((l.take b).drop a).toArray
 rw [List.extract_toArray,List.extract_eq_take_drop,List.drop_take]
theorem zCn (a b:List UInt8):B a++B b=B (a++b):=by
 apply ByteArray.ext
 rw [ByteArray.data_append]
 show a.toArray++b.toArray=(a++b).toArray
 simp
def by_ (l:List UInt8)(i:Nat):Int:=if h:i<l.length then ((l[i]'h).toNat:Int) else 0
theorem zYu {l:List UInt8}{i:Nat}(h:i<(B l).size):(((B l)[i]'h).toNat:Int)=by_ l i:=by
 rw [B_get h];unfold by_;rw [dif_pos (by rwa [zFa] at h)]
theorem by_bd (l:List UInt8)(i:Nat):0<=by_ l i/\by_ l i<=255:=by
 unfold by_;split
 ·rename_i h;have:=(l[i]'h).toNat_lt;omega
 ·omega
theorem zQq (c:UInt8)(r:List UInt8)(i:Nat):by_ (c::r) (i+1)=by_ r i:=by
 unfold by_
 by_cases h:i<r.length
 ·rw [dif_pos h,dif_pos (by simpa using h)];rfl
 ·rw [dif_neg h,dif_neg (by simpa using h)]
theorem zNg (c:UInt8)(r:List UInt8):by_ (c::r) 0=(c.toNat:Int):=by simp [by_]
def dg (c:UInt8):Bool:=decide (48<=c.toNat/\c.toNat<=57)
def dgs (l:List UInt8):List UInt8:=l.takeWhile dg
def rst (l:List UInt8):List UInt8:=l.dropWhile dg
theorem zLg (l:List UInt8):dgs l++rst l=l:=List.takeWhile_append_dropWhile
theorem zPl (l:List UInt8):(dgs l).length<=l.length:=by
 have:=congrArg List.length (zLg l)
 rw [List.length_append] at this;omega
theorem zD2 (l:List UInt8):l.take (dgs l).length=dgs l:=by
 conv=>lhs;arg 2;rw [← zLg l]
 simp
theorem zR4 (l:List UInt8):l.drop (dgs l).length=rst l:=by
 conv=>lhs;arg 2;rw [← zLg l]
 simp
theorem zS6:∀ (l:List UInt8) (i:Nat),i<(dgs l).length->48<=by_ l i/\by_ l i<=57
 | [],i,h=>by simp [dgs] at h
 | c::r,i,h=>by
  unfold dgs at h
  rw [List.takeWhile_cons] at h
  split at h
  ·rename_i hc
   unfold dg at hc
   simp at hc
   cases i with
   | zero=>simp [by_];omega
   | succ i =>
    have:=zS6 r i (by simpa [dgs] using h)
    rw [zQq]
    exact this
  ·simp at h
theorem zVs:∀ (l:List UInt8),(dgs l).length<l.length->¬ (48<=by_ l (dgs l).length/\by_ l (dgs l).length<=57)
 | [],h=>by simp [dgs] at h
 | c::r,h=>by
  unfold dgs at h ⊢
  rw [List.takeWhile_cons] at h ⊢
  split at h
  ·rename_i hc
   rw [if_pos hc]
   have:=zVs r (by simpa [dgs] using h)
   rw [List.length_cons,zQq]
   exact this
  ·rename_i hc
   rw [if_neg hc]
   unfold dg at hc
   simp at hc
   simp [by_]
   intro h1
   omega
theorem gbcell {W w1:World}(hb:Below W.heap.size W w1):(∀ b o,b<W.heap.size->w1.cell? ⟨b,o,none⟩=W.cell? ⟨b,o,none⟩)/\(∀ b o,b<W.heap.size->w1.frozen? ⟨b,o,none⟩=W.frozen? ⟨b,o,none⟩) :=
 ⟨fun b o h=>hb.cell (p:=⟨b,o,none⟩) h,fun b o h=>hb.frozen (p:=⟨b,o,none⟩) h⟩
theorem zWc {B:Nat}{a w:World}{m:Nat}(h:Below B a w):Below B a (w.drewN m):=⟨h.os,h.tape,h.output,h.size,h.block⟩
theorem zLs {w0 W W':World}(h:Below w0.heap.size w0 W)(hb:Below W.heap.size W W'):Below w0.heap.size w0 W':=h.trans (hb.mono h.size)
theorem glt_below {n g:Nat}{W W':World}(hb:Below n W W')(h:g<W.heap.size):g<W'.heap.size:=Nat.lt_of_lt_of_le h hb.size
theorem zGd (W:World)(b i:Nat)(v:Value):(W.setCell ⟨b,i,none⟩ v).cell? ⟨b,i,none⟩=(W.cell? ⟨b,i,none⟩).map fun _=>v:=by
 unfold World.cell? World.setCell
 simp only [Array.getElem?_modify,if_true]
 cases h:W.heap[b]? with
 | none=>simp
 | some o =>
  cases o with
  | cells c e fr =>
   simp only [Option.map_some,Option.isSome_none,Bool.false_eq_true,if_false]
   by_cases hi:i<c.size
   ·simp [hi]
   ·simp [hi]
  | _=>simp
theorem zSa (l:List UInt8):(B l).toList=l:=by rw [Lib.toList_data];rfl
theorem zZg (l:List UInt8)(w:World)(hs:l.length<4294967296) :
  CB 222 #[.string (B l)] w (.tuple #[.string (B (dgs l)),.string (B (rst l))]):=by
 have hsz:=zFa l
 have E1:(B l).extract 0 (dgs l).length=B (dgs l):=by rw [zXq,List.drop_zero,zD2]
 have E2:(B l).extract (dgs l).length (B l).size=B (rst l):=by rw [zXq,zFa,List.take_length,zR4]
 rw [hsz] at E2
 have hle:=zPl l
 have HA:Hid (∀ i,i<(dgs l).length->48<=by_ l i/\by_ l i<=57):=zS6 l
 have HS:Hid ((dgs l).length<l.length->¬ (48<=by_ l (dgs l).length/\by_ l (dgs l).length<=57)):=zVs l
 generalize dgs l=d at *
 go_enter Tryz.func222,Tryz.ntmps222
 go_wp2
 go_loop [4] (fun i=>∃ k:Nat,k<=d.length/\i=.int .i64 k) (fun i=>d.length-(intOf i).toNat)
 case atStart=>exact ⟨0,Nat.zero_le _,rfl⟩
 case round =>
  obtain ⟨k,hk,rfl⟩:=hrel
  by_cases hlt:k<d.length
  ·have hki:(k:Int)<(B l).size:=by omega
   have hsb:=zYu (l:=l) (i:=k) (by omega)
   have hbd:=HA.out k hlt
   go_wp2
   go_round
   case rel=>exact ⟨k+1,by omega,by go_num⟩
   case measure=>simp [intOf];omega
  ·obtain rfl:k=d.length:=by omega
   by_cases he:d.length<l.length
   ·have hki:(d.length:Int)<(B l).size:=by omega
    have hsb:=zYu (l:=l) (i:=d.length) (by omega)
    have hbd:=by_bd l d.length
    have hst:=HS.out he
    by_cases h1:by_ l d.length<48
    ·go_wp2
     go_quiet (fail)
     go_wp2
     go_ret2
     exact ⟨rfl,zWc (Below.refl _ _)⟩
    ·have h2:57<by_ l d.length:=by omega
     go_wp2
     go_quiet (fail)
     go_wp2
     go_ret2
     exact ⟨rfl,zWc (Below.refl _ _)⟩
   ·have hki:(d.length:Int)=(B l).size:=by omega
    have hki2:(d.length:Int)=l.length:=by omega
    have hdl:d.length=l.length:=by omega
    have X1:Hid (B d=(B l).extract 0 l.length):=by show _=_;rw [← E1,hdl]
    have X2:Hid (B (rst l)=ByteArray.empty):=by
     show _=_
     rw [← E2,hdl,zXq,List.take_length,List.drop_length];rfl
    go_wp2
    go_quiet (fail)
    go_wp2
    go_ret2
    refine ⟨?_,zWc (Below.refl _ _)⟩
    rw [X1.out,X2.out]
    rfl
def gsgB:List UInt8->Bool
 | c::_=>decide ((c.toNat:Int)=45)
 | []=>false
def sgR:List UInt8->List UInt8
 | c::r=>if (c.toNat:Int)=45∨(c.toNat:Int)=43 then r else c::r
 | []=>[]
theorem zF7 (c:UInt8)(r:List UInt8):(B (c::r)).extract 1 (B (c::r)).size=B r:=by
 rw [zXq,zFa,List.take_length];rfl
theorem zYg (l:List UInt8)(w:World)(hs:l.length<4294967296) :
  CB 204 #[.string (B l)] w (.tuple #[.bool (gsgB l),.string (B (sgR l))]):=by
 have htl:=zSa
 cases l with
 | nil =>
  have hsz:(B []).size=0:=rfl
  go_enter Tryz.func204,Tryz.ntmps204
  go_wp2
  go_ret2
  exact ⟨rfl,Below.refl _ _⟩
 | cons c r =>
  have hsz:=zFa (c::r)
  have hln:(c::r).length=r.length+1:=rfl
  have hbt:=zF7 c r
  have hsb:=zYu (l:=c::r) (i:=0) (by rw [hsz,hln];omega)
  rw [zNg] at hsb
  rw [hsz,hln] at hbt
  have hbd:=c.toNat_lt
  rw [List.length_cons] at hs
  by_cases h1:(c.toNat:Int)=45
  ·have HX:Hid (sgR (c::r)=r/\gsgB (c::r)=true):=⟨if_pos (Or.inl h1),decide_eq_true h1⟩
   rw [HX.out.1,HX.out.2]
   go_enter Tryz.func204,Tryz.ntmps204
   go_wp2
   go_quiet (fail)
   go_wp2
   go_ret2
   exact ⟨rfl,zWc (Below.refl _ _)⟩
  ·by_cases h2:(c.toNat:Int)=43
   ·have HX:Hid (sgR (c::r)=r/\gsgB (c::r)=false):=⟨if_pos (Or.inr h2),decide_eq_false h1⟩
    rw [HX.out.1,HX.out.2]
    go_enter Tryz.func204,Tryz.ntmps204
    go_wp2
    go_quiet (fail)
    go_wp2
    go_ret2
    exact ⟨rfl,zWc (Below.refl _ _)⟩
   ·have HX:Hid (sgR (c::r)=c::r/\gsgB (c::r)=false):=⟨if_neg (by omega),decide_eq_false h1⟩
    rw [HX.out.1,HX.out.2]
    have g1:((c.toNat:Int)==45)=false:=beq_eq_false_iff_ne.2 h1
    have g2:((c.toNat:Int)==43)=false:=beq_eq_false_iff_ne.2 h2
    go_enter Tryz.func204,Tryz.ntmps204
    go_wp2
    go_ret2
    exact ⟨rfl,Below.refl _ _⟩
def bar (l:List UInt8):List UInt8:=l.dropWhile (·==48)
theorem zBn (c:UInt8)(r:List UInt8):bar (c::r)=if (c.toNat:Int)=48 then bar r else c::r:=by
 unfold bar
 rw [List.dropWhile_cons]
 by_cases h:c=48
 ·subst h;rfl
 ·have:¬ (c.toNat:Int)=48:=fun e=>h (UInt8.toNat_inj.1 (by simpa using (show c.toNat=48 by omega)))
  rw [if_neg this,if_neg (by simpa using h)]
def isd (l:List UInt8):Bool:=l.all dg&&!l.isEmpty
theorem zU0 (l:List UInt8):l.all dg=true↔∀ i,i<l.length->48<=by_ l i/\by_ l i<=57:=by
 rw [List.all_eq_true]
 constructor
 ·intro h i hi
  have:=h _ (List.getElem_mem hi)
  unfold dg at this;simp at this
  unfold by_;rw [dif_pos hi];omega
 ·intro h c hc
  obtain ⟨i,hi,rfl⟩:=List.getElem_of_mem hc
  have:=h i hi
  unfold by_ at this;rw [dif_pos hi] at this
  unfold dg;simp;omega
def nv (l:List UInt8):Int:=l.foldl (fun v c=>10*v+((c.toNat:Int)-48)) 0
theorem zO9 (l:List UInt8):∀ v:Int,l.foldl (fun v c=>10*v+((c.toNat:Int)-48)) v=v*10^l.length+nv l:=by
 induction l with
 | nil=>intro v;simp [nv]
 | cons c r ih =>
  intro v
  unfold nv
  rw [List.foldl_cons,List.foldl_cons,ih,ih (10*0+_),List.length_cons,Int.pow_succ]
  grind
theorem zA6 (a b:List UInt8):nv (a++b)=nv a*10^b.length+nv b:=by
 unfold nv
 rw [List.foldl_append,zO9 b]
 rfl
theorem zKq (c:UInt8):nv [c]=(c.toNat:Int)-48:=by simp [nv]
theorem zZv {l:List UInt8}{k:Nat}(h:k<l.length):l.take (k+1)=l.take k++[l[k]]:=List.take_succ_eq_append_getElem h
theorem zLx {l:List UInt8}{k:Nat}(h:k<l.length):nv (l.take (k+1))=10*nv (l.take k)+(by_ l k-48):=by
 rw [zZv h,zA6,zKq]
 unfold by_;rw [dif_pos h]
 simp;omega
theorem nv_nn {l:List UInt8}(h:l.all dg=true):0<=nv l/\nv l<10^l.length:=by
 have key:∀ k,k<=l.length->0<=nv (l.take k)/\nv (l.take k)<10^k:=by
  intro k
  induction k with
  | zero=>intro _;simp [nv]
  | succ k ih =>
   intro hk
   have h1:=ih (by omega)
   have h2:=(zU0 l).1 h k (by omega)
   rw [zLx (by omega),Int.pow_succ]
   omega
 have:=key l.length (Nat.le_refl _)
 rwa [List.take_length] at this
theorem zIu {l:List UInt8}(h:l.all dg=true)(k:Nat):0<=nv (l.take k) :=
 (nv_nn (l:=l.take k) (List.all_eq_true.2 fun c hc=>List.all_eq_true.1 h c (List.mem_of_mem_take hc))).1
def vc (l:List UInt8):Int:=min (nv l) 2000000000
theorem zGv (l:List UInt8)(w:World)(hs:l.length<4294967296)(hd:l.all dg=true) :
  CB 241 #[.string (B l)] w (.int .i64 (vc l)):=by
 have hsz:=zFa l
 have HD:Hid (l.all dg=true):=hd
 have HA:Hid (∀ i,i<l.length->48<=by_ l i/\by_ l i<=57):=(zU0 l).1 hd
 clear hd
 go_enter Tryz.func241,Tryz.ntmps241
 go_wp2
 go_loop [3,4,7] (fun v u4 i=>∃ (k:Nat) (x:Int),k<=l.length/\i=.int .i64 k/\v=.int .i64 x/\0<=x/\x<=2000000000/\Hid (x=vc (l.take k))) (fun _ _ i=>l.length-(intOf i).toNat)
 case atStart=>exact ⟨0,0,Nat.zero_le _,rfl,rfl,by decide,by decide,rfl⟩
 case round =>
  obtain ⟨k,x,hk,rfl,rfl,hx0,hx1,hx⟩:=hrel
  by_cases hlt:k<l.length
  ·have hki:(k:Int)<(B l).size:=by omega
   have hki2:(k:Int)<l.length:=by omega
   have hsb:=zYu (l:=l) (i:=k) (by omega)
   have hbd:=HA.out k hlt
   have HX:Hid (min (10*x+(by_ l k-48)) 2000000000=vc (l.take (k+1))):=by
    show _=_
    have h0:=zIu HD.out k
    rw [hx.out];unfold vc;rw [zLx hlt]
    omega
   go_wp2
   go_round
   case rel=>exact ⟨k+1,min (10*x+(by_ l k-48)) 2000000000,by omega,by go_num,by go_num,by omega,by omega,HX.out⟩
   case measure=>simp [intOf];omega
  ·obtain rfl:k=l.length:=by omega
   rw [List.take_length] at hx
   go_wp2
   go_ret
   exact ⟨by rw [← hx.out];rfl,Below.refl _ _⟩
end Go.Proofs.YtahfkpjhlbiamaaGreatDoor
