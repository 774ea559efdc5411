/-
  Texts that the proof leans on.
-/
import Derived.Test.YtgknbdehlmlipaaGreatDoorProg
import Derived.Below
import Derived.WalkKit
import Derived.Lib.BitFns
import Derived.Test.YtgknbdehlmlipaaGreatDoorRows
import Derived.WalkSpells
import Derived.WalkLawsBesides
import Derived.RegionTactic
import Derived.ChangeAlike
import Derived.Laws.ResultCell
import Derived.LaidLaws
import Derived.Lib.LaidTab
set_option maxHeartbeats 8000000
namespace Go.Proofs.YtgknbdehlmlipaaGreatDoor
open Go.RowKit
theorem bgo {n:Nat}{a b:World}(h:Below n a b:=by (repeat (first|with_reducible assumption|with_reducible exact Below.refl _ _|with_reducible refine Below.setCell ?_ (by first|omega|(dsimp only;omega)|(simp<;>omega)) _|with_reducible refine Below.alloc ?_ (by first|omega|(simp<;>omega)) _|with_reducible refine Below.drew ?_))):Below n a b:=h
theorem ltg {a b:Nat}(h:a<b:=by first|with_reducible assumption|(simp;done)|(simp;omega)):a<b:=h
theorem zf {W w1:World}(hb:Below W.heap.size W w1)(k:Nat)(h:k<W.heap.size:=by first|with_reducible assumption|(simp;done)|(simp;omega)):k<w1.heap.size/\k<=w1.heap.size :=
  ⟨Nat.lt_of_lt_of_le h hb.size,Nat.le_of_lt (Nat.lt_of_lt_of_le h hb.size)⟩
theorem wf (w0:World){W w1:World}(hb:Below W.heap.size W w1)(h:Below w0.heap.size w0 W:=by (repeat (first|with_reducible assumption|with_reducible exact Below.refl _ _|with_reducible refine Below.setCell ?_ (by first|omega|(dsimp only;omega)|(simp<;>omega)) _|with_reducible refine Below.alloc ?_ (by first|omega|(simp<;>omega)) _|with_reducible refine Below.drew ?_))):(∀ b o,b<W.heap.size->w1.cell? ⟨b,o,none⟩=W.cell? ⟨b,o,none⟩)/\(∀ b o,b<W.heap.size->w1.frozen? ⟨b,o,none⟩=W.frozen? ⟨b,o,none⟩)/\Below w0.heap.size w0 w1/\w0.heap.size<=w1.heap.size :=
  ⟨fun b o h=>hb.cell (p:=⟨b,o,none⟩) h,fun b o h=>hb.frozen (p:=⟨b,o,none⟩) h,h.trans (hb.mono h.size),(h.trans (hb.mono h.size)).size⟩
theorem wz (w0:World){W w1:World}(hb:Below W.heap.size W w1)(k:Nat:=w0.heap.size)(hk:k<W.heap.size:=by first|with_reducible assumption|(simp;done)|(simp;omega))(h:Below w0.heap.size w0 W:=by (repeat (first|with_reducible assumption|with_reducible exact Below.refl _ _|with_reducible refine Below.setCell ?_ (by first|omega|(dsimp only;omega)|(simp<;>omega)) _|with_reducible refine Below.alloc ?_ (by first|omega|(simp<;>omega)) _|with_reducible refine Below.drew ?_))):(∀ b o,b<W.heap.size->w1.cell? ⟨b,o,none⟩=W.cell? ⟨b,o,none⟩)/\(∀ b o,b<W.heap.size->w1.frozen? ⟨b,o,none⟩=W.frozen? ⟨b,o,none⟩)/\k<w1.heap.size/\k<=w1.heap.size/\Below w0.heap.size w0 w1/\w0.heap.size<=w1.heap.size :=
  ⟨fun b o h=>hb.cell (p:=⟨b,o,none⟩) h,fun b o h=>hb.frozen (p:=⟨b,o,none⟩) h,Nat.lt_of_lt_of_le hk hb.size,Nat.le_of_lt (Nat.lt_of_lt_of_le hk hb.size),h.trans (hb.mono h.size),(h.trans (hb.mono h.size)).size⟩
abbrev CB (f:FuncId)(a:Array Value)(W:World)(v:Value):Prop:=Calls Tryz.prog f a W fun r w'=>r=.returned v/\Below W.heap.size W w'
abbrev CQ (f:FuncId)(a:Array Value)(W:World)(v:Value):Prop:=Calls Tryz.prog f a W fun r w'=>r=.returned v/\W=w'
abbrev CE (f:FuncId)(a:Array Value)(W:World)(p:Value->World->Prop):Prop:=Calls Tryz.prog f a W fun r w'=>∃ v,r=.returned v/\p v w'/\Below W.heap.size W w'
end Go.Proofs.YtgknbdehlmlipaaGreatDoor

set_option linter.unusedVariables false
set_option maxRecDepth 20000
set_option linter.unusedSectionVars false
set_option linter.unusedSimpArgs false
namespace Go.Proofs.YtgknbdehlmlipaaGreatDoor
theorem bitLenAux_spec:∀ (f x:Nat),0<x->x<2^f->1<=Lib.bitLenAux f x/\2^(Lib.bitLenAux f x-1)<=x/\x<2^Lib.bitLenAux f x
 | 0,x,h0,h=>by simp at h;omega
 | f+1,x,h0,h=>by
  simp only [Lib.bitLenAux]
  rw [if_neg (by omega)]
  by_cases h1:x/2=0
  ·have hx:x=1:=by omega
   subst hx
   have:Lib.bitLenAux f (1/2)=0:=by cases f<;>simp [Lib.bitLenAux]
   rw [this];decide
  ·have ih:=bitLenAux_spec f (x/2) (by omega) (by rw [Nat.pow_succ] at h;omega)
   generalize Lib.bitLenAux f (x/2)=k at ih
   obtain ⟨j,rfl⟩:∃ j,k=j+1:=⟨k-1,by omega⟩
   simp only [Nat.add_sub_cancel] at ih
   refine ⟨by omega,?_,?_⟩
   ·rw [show 1+(j+1)-1=j+1 by omega,Nat.pow_succ];omega
   ·rw [show 1+(j+1)=(j+1)+1 by omega,Nat.pow_succ];omega
theorem bitLen_spec (x:Nat)(h0:0<x)(h:x<18446744073709551616):1<=Lib.bitLen x/\Lib.bitLen x<=64/\2^(Lib.bitLen x-1)<=x/\x<2^Lib.bitLen x:=by
 have h1:=bitLenAux_spec 64 x h0 h
 have h2:Lib.bitLen x<=64:=by
  rcases Nat.lt_or_ge 64 (Lib.bitLen x) with h3|h3
  ·exfalso
   have h4:2^64<=2^(Lib.bitLen x-1):=Nat.pow_le_pow_right (by decide) (by omega)
   have h5:2^(Lib.bitLen x-1)<=x:=h1.2.1
   have:(2:Nat)^64=18446744073709551616:=by decide
   omega
  ·exact h3
 exact ⟨h1.1,h2,h1.2.1,h1.2.2⟩
theorem norm_bd (y:Nat)(h0:0<y)(h:y<18446744073709551616):9223372036854775808<=y*2^(64-Lib.bitLen y)/\y*2^(64-Lib.bitLen y)<18446744073709551616/\64-Lib.bitLen y<64:=by
 obtain ⟨h1,h2,h3,h4⟩:=bitLen_spec y h0 h
 generalize hL:Lib.bitLen y=L at *
 have p1:2^(L-1)*2^(64-L)=9223372036854775808:=by rw [← Nat.pow_add,show L-1+(64-L)=63 by omega]
 have p2:2^L*2^(64-L)=18446744073709551616:=by rw [← Nat.pow_add,show L+(64-L)=64 by omega]
 have hp:0<2^(64-L):=Nat.pow_pos (by decide)
 exact ⟨by rw [← p1];exact Nat.mul_le_mul_right _ h3,by rw [← p2];exact Nat.mul_lt_mul_of_pos_right h4 hp,by omega⟩
theorem norm_join (hi lo y s:Nat)(hs:s<64)(hh:hi<y)(hl:lo<18446744073709551616)(hy:y*2^s<18446744073709551616) :
  (hi*2^s) ||| (lo/2^(64-s))=hi*2^s+lo/2^(64-s)/\(hi*2^s+lo/2^(64-s))*18446744073709551616+(lo*2^s)%18446744073709551616=(hi*18446744073709551616+lo)*2^s/\hi*2^s+lo/2^(64-s)<y*2^s:=by
 have hp:0<2^s:=Nat.pow_pos (by decide)
 have hq:0<2^(64-s):=Nat.pow_pos (by decide)
 have hpq:2^(64-s)*2^s=18446744073709551616:=by rw [← Nat.pow_add,show 64-s+s=64 by omega]
 have hlt:lo/2^(64-s)<2^s:=by
  rw [Nat.div_lt_iff_lt_mul hq,Nat.mul_comm,hpq];exact hl
 have hsum:lo*2^s=(lo/2^(64-s))*18446744073709551616+(lo*2^s)%18446744073709551616:=by
  have h1:lo*2^s/18446744073709551616=lo/2^(64-s):=by rw [← hpq,Nat.mul_div_mul_right _ _ hp]
  have h2:=Nat.div_add_mod (lo*2^s) 18446744073709551616
  rw [h1] at h2
  omega
 refine ⟨?_,?_,?_⟩
 ·exact nat_join s _ _ (Nat.mul_mod_left _ _) hlt
 ·rw [Nat.add_mul,Nat.add_mul,Nat.mul_right_comm hi 18446744073709551616 (2^s)]
  omega
 ·have:(hi+1)*2^s<=y*2^s:=Nat.mul_le_mul_right _ hh
  rw [Nat.add_mul] at this
  omega
theorem norm_back (n y s q r:Nat)(h:n*2^s=q*(y*2^s)+r)(hr:r<y*2^s):q=n/y/\r/2^s=n%y:=by
 have hp:0<2^s:=Nat.pow_pos (by decide)
 have hy:0<y:=by
  rcases Nat.eq_zero_or_pos y with h0|h0
  ·subst h0;simp at hr
  ·exact h0
 have h1:r=(n-q*y)*2^s:=by
  rw [Nat.sub_mul,Nat.mul_assoc];omega
 have h2:n-q*y<y:=by
  rw [h1] at hr;exact Nat.lt_of_mul_lt_mul_right hr
 have h3:q*y<=n:=by
  have:q*y*2^s<=n*2^s:=by rw [h,Nat.mul_assoc];omega
  exact Nat.le_of_mul_le_mul_right this hp
 have h4:n=y*q+(n-q*y):=by rw [Nat.mul_comm y q];omega
 constructor
 ·rw [h4,Nat.mul_add_div hy,Nat.div_eq_of_lt h2];omega
 ·rw [h1,Nat.mul_div_cancel _ hp]
  conv=>rhs;rw [h4]
  rw [Nat.mul_add_mod,Nat.mod_eq_of_lt h2]
end Go.Proofs.YtgknbdehlmlipaaGreatDoor

namespace Go.Proofs.YtgknbdehlmlipaaGreatDoor
open Go.RowKit
def rowV:Nat->Nat->Value
 | 0,0=>.string ⟨#[72,97,108,102]⟩
 | 0,1=>.int .i64 16
 | 0,2=>.int .i64 11
 | 0,3=>.int .i64 5
 | 1,0=>.string ⟨#[66,114,97,105,110]⟩
 | 1,1=>.int .i64 16
 | 1,2=>.int .i64 8
 | 1,3=>.int .i64 8
 | 2,0=>.string ⟨#[83,105,110,103,108,101]⟩
 | 2,1=>.int .i64 32
 | 2,2=>.int .i64 24
 | 2,3=>.int .i64 8
 | 3,0=>.string ⟨#[68,111,117,98,108,101]⟩
 | 3,1=>.int .i64 64
 | 3,2=>.int .i64 53
 | 3,3=>.int .i64 11
 | 4,0=>.string ⟨#[81,117,97,100]⟩
 | 4,1=>.int .i64 128
 | 4,2=>.int .i64 113
 | 4,3=>.int .i64 15
 | 5,0=>.string ⟨#[79,99,116,111]⟩
 | 5,1=>.int .i64 256
 | 5,2=>.int .i64 241
 | 5,3=>.int .i64 15
 | 6,0=>.string ⟨#[80,108,97,105,110,51,50]⟩
 | 6,1=>.int .i64 32
 | 6,2=>.int .i64 7
 | 6,3=>.int .i64 96
 | 7,0=>.string ⟨#[80,108,97,105,110,54,52]⟩
 | 7,1=>.int .i64 64
 | 7,2=>.int .i64 16
 | 7,3=>.int .i64 384
 | 8,0=>.string ⟨#[80,108,97,105,110,49,50,56]⟩
 | 8,1=>.int .i64 128
 | 8,2=>.int .i64 34
 | 8,3=>.int .i64 6144
 | 9,0=>.string ⟨#[68,101,110,115,101,51,50]⟩
 | 9,1=>.int .i64 32
 | 9,2=>.int .i64 7
 | 9,3=>.int .i64 96
 | 10,0=>.string ⟨#[68,101,110,115,101,54,52]⟩
 | 10,1=>.int .i64 64
 | 10,2=>.int .i64 16
 | 10,3=>.int .i64 384
 | 11,0=>.string ⟨#[68,101,110,115,101,49,50,56]⟩
 | 11,1=>.int .i64 128
 | 11,2=>.int .i64 34
 | 11,3=>.int .i64 6144
 | _,_=>.int .i64 0
def Tab (w:World):Prop:=0<w.heap.size/\∀ i k,i<12->k<4->w.cell? ⟨0,i*4+k,none⟩=some (rowV i k)
theorem Tab.next {B:Nat}{w w':World}(h:Tab w)(hb:Below B w w')(hB:0<B):Tab w' :=
 ⟨Nat.lt_of_lt_of_le h.1 hb.size,fun i k hi hk=>(hb.cell (p:=⟨0,i*4+k,none⟩) hB).trans (h.2 i k hi hk)⟩
theorem Tab.go {w w':World}(h:Tab w)(hb:Below w.heap.size w w'):Tab w':=h.next hb h.1
theorem Tab.drew {w:World}(h:Tab w):Tab w.drew:=h
theorem Tab.alloc {w:World}(h:Tab w)(o:Obj):Tab (w.alloc o):=h.go ((Below.refl _ _).alloc (Nat.le_refl _) o)
def infoV:Int->Array Value
 | 1=>#[.int .i64 1,.string ⟨#[72,97,108,102]⟩,.int .i64 2,.int .i64 16,.int .i64 11,.int .i64 5,.int .i64 (-24),.int .i64 5,.int .i64 9,.bool false]
 | 2=>#[.int .i64 2,.string ⟨#[66,114,97,105,110]⟩,.int .i64 2,.int .i64 16,.int .i64 8,.int .i64 8,.int .i64 (-133),.int .i64 120,.int .i64 6,.bool false]
 | 3=>#[.int .i64 3,.string ⟨#[83,105,110,103,108,101]⟩,.int .i64 2,.int .i64 32,.int .i64 24,.int .i64 8,.int .i64 (-149),.int .i64 104,.int .i64 22,.bool false]
 | 4=>#[.int .i64 4,.string ⟨#[68,111,117,98,108,101]⟩,.int .i64 2,.int .i64 64,.int .i64 53,.int .i64 11,.int .i64 (-1074),.int .i64 971,.int .i64 51,.bool false]
 | 5=>#[.int .i64 5,.string ⟨#[81,117,97,100]⟩,.int .i64 2,.int .i64 128,.int .i64 113,.int .i64 15,.int .i64 (-16494),.int .i64 16271,.int .i64 111,.bool false]
 | 6=>#[.int .i64 6,.string ⟨#[79,99,116,111]⟩,.int .i64 2,.int .i64 256,.int .i64 241,.int .i64 15,.int .i64 (-16622),.int .i64 16143,.int .i64 239,.bool false]
 | 7=>#[.int .i64 7,.string ⟨#[80,108,97,105,110,51,50]⟩,.int .i64 10,.int .i64 32,.int .i64 7,.int .i64 96,.int .i64 (-101),.int .i64 90,.int .i64 6,.bool false]
 | 8=>#[.int .i64 8,.string ⟨#[80,108,97,105,110,54,52]⟩,.int .i64 10,.int .i64 64,.int .i64 16,.int .i64 384,.int .i64 (-398),.int .i64 369,.int .i64 15,.bool false]
 | 9=>#[.int .i64 9,.string ⟨#[80,108,97,105,110,49,50,56]⟩,.int .i64 10,.int .i64 128,.int .i64 34,.int .i64 6144,.int .i64 (-6176),.int .i64 6111,.int .i64 33,.bool false]
 | 10=>#[.int .i64 10,.string ⟨#[68,101,110,115,101,51,50]⟩,.int .i64 10,.int .i64 32,.int .i64 7,.int .i64 96,.int .i64 (-101),.int .i64 90,.int .i64 6,.bool true]
 | 11=>#[.int .i64 11,.string ⟨#[68,101,110,115,101,54,52]⟩,.int .i64 10,.int .i64 64,.int .i64 16,.int .i64 384,.int .i64 (-398),.int .i64 369,.int .i64 15,.bool true]
 | 12=>#[.int .i64 12,.string ⟨#[68,101,110,115,101,49,50,56]⟩,.int .i64 10,.int .i64 128,.int .i64 34,.int .i64 6144,.int .i64 (-6176),.int .i64 6111,.int .i64 33,.bool true]
 | _=>#[.int .i64 0,.string ⟨#[]⟩,.int .i64 0,.int .i64 0,.int .i64 0,.int .i64 0,.int .i64 0,.int .i64 0,.int .i64 0,.bool false]
def okN (n:Int):Prop:=1<=n/\n<=12
instance (n:Int):Decidable (okN n):=inferInstanceAs (Decidable (_/\_))
def infoE (n:Int):Int:=if okN n then 0 else 1
theorem infoV_none {n:Int}(h:¬ okN n):infoV n=#[.int .i64 0,.string ⟨#[]⟩,.int .i64 0,.int .i64 0,.int .i64 0,.int .i64 0,.int .i64 0,.int .i64 0,.int .i64 0,.bool false]:=by
 unfold infoV okN at *
 split<;>first|rfl|omega
theorem okN_cases {n:Int}(h:okN n):n=1∨n=2∨n=3∨n=4∨n=5∨n=6∨n=7∨n=8∨n=9∨n=10∨n=11∨n=12:=by unfold okN at h;omega
theorem below1' (w:World)(a:Obj):Below w.heap.size w (w.alloc a):=(Below.refl _ _).alloc (Nat.le_refl _) a
theorem below2' (w:World)(a b:Obj):Below w.heap.size w ((w.alloc a).alloc b):=(below1' w a).alloc (by simp) b
theorem below3' (w:World)(a b c:Obj):Below w.heap.size w (((w.alloc a).alloc b).alloc c):=(below2' w a b).alloc (by simp;omega) c
theorem of_1 (w:World)(hT:Tab w) :
  CB 81 #[.int .i64 1] w (.tuple #[.agg (infoV 1),.int .i64 0]):=by
 have hs:=hT.1
 have h0:=hT.2 0 0 (by decide) (by decide)
 have h1:=hT.2 0 1 (by decide) (by decide)
 have h2:=hT.2 0 2 (by decide) (by decide)
 have h3:=hT.2 0 3 (by decide) (by decide)
 simp only [Nat.reduceMul,Nat.reduceAdd,rowV] at h0 h1 h2 h3
 show CB 81 #[.int .i64 1] w (.tuple #[.agg #[.int .i64 1,.string ⟨#[72,97,108,102]⟩,.int .i64 2,.int .i64 16,.int .i64 11,.int .i64 5,.int .i64 (-24),.int .i64 5,.int .i64 9,.bool false],.int .i64 0])
 clear hT
 go_enter Tryz.func81,Tryz.ntmps81
 go_wp2
 go_region
 go_wp2
 exact bodyPost_ret (v:=.tuple #[.agg #[.int .i64 1,.string ⟨#[72,97,108,102]⟩,.int .i64 2,.int .i64 16,.int .i64 11,.int .i64 5,.int .i64 (-24),.int .i64 5,.int .i64 9,.bool false],.int .i64 0]) (by rw [results_cell_tmp rfl];go_simp) rfl ⟨rfl,(below3' _ _ _ _).drew⟩
theorem of_2 (w:World)(hT:Tab w) :
  CB 81 #[.int .i64 2] w (.tuple #[.agg (infoV 2),.int .i64 0]):=by
 have hs:=hT.1
 have h0:=hT.2 1 0 (by decide) (by decide)
 have h1:=hT.2 1 1 (by decide) (by decide)
 have h2:=hT.2 1 2 (by decide) (by decide)
 have h3:=hT.2 1 3 (by decide) (by decide)
 simp only [Nat.reduceMul,Nat.reduceAdd,rowV] at h0 h1 h2 h3
 show CB 81 #[.int .i64 2] w (.tuple #[.agg #[.int .i64 2,.string ⟨#[66,114,97,105,110]⟩,.int .i64 2,.int .i64 16,.int .i64 8,.int .i64 8,.int .i64 (-133),.int .i64 120,.int .i64 6,.bool false],.int .i64 0])
 clear hT
 go_enter Tryz.func81,Tryz.ntmps81
 go_wp2
 go_region
 go_wp2
 exact bodyPost_ret (v:=.tuple #[.agg #[.int .i64 2,.string ⟨#[66,114,97,105,110]⟩,.int .i64 2,.int .i64 16,.int .i64 8,.int .i64 8,.int .i64 (-133),.int .i64 120,.int .i64 6,.bool false],.int .i64 0]) (by rw [results_cell_tmp rfl];go_simp) rfl ⟨rfl,(below3' _ _ _ _).drew⟩
theorem of_3 (w:World)(hT:Tab w) :
  CB 81 #[.int .i64 3] w (.tuple #[.agg (infoV 3),.int .i64 0]):=by
 have hs:=hT.1
 have h0:=hT.2 2 0 (by decide) (by decide)
 have h1:=hT.2 2 1 (by decide) (by decide)
 have h2:=hT.2 2 2 (by decide) (by decide)
 have h3:=hT.2 2 3 (by decide) (by decide)
 simp only [Nat.reduceMul,Nat.reduceAdd,rowV] at h0 h1 h2 h3
 show CB 81 #[.int .i64 3] w (.tuple #[.agg #[.int .i64 3,.string ⟨#[83,105,110,103,108,101]⟩,.int .i64 2,.int .i64 32,.int .i64 24,.int .i64 8,.int .i64 (-149),.int .i64 104,.int .i64 22,.bool false],.int .i64 0])
 clear hT
 go_enter Tryz.func81,Tryz.ntmps81
 go_wp2
 go_region
 go_wp2
 exact bodyPost_ret (v:=.tuple #[.agg #[.int .i64 3,.string ⟨#[83,105,110,103,108,101]⟩,.int .i64 2,.int .i64 32,.int .i64 24,.int .i64 8,.int .i64 (-149),.int .i64 104,.int .i64 22,.bool false],.int .i64 0]) (by rw [results_cell_tmp rfl];go_simp) rfl ⟨rfl,(below3' _ _ _ _).drew⟩
theorem of_4 (w:World)(hT:Tab w) :
  CB 81 #[.int .i64 4] w (.tuple #[.agg (infoV 4),.int .i64 0]):=by
 have hs:=hT.1
 have h0:=hT.2 3 0 (by decide) (by decide)
 have h1:=hT.2 3 1 (by decide) (by decide)
 have h2:=hT.2 3 2 (by decide) (by decide)
 have h3:=hT.2 3 3 (by decide) (by decide)
 simp only [Nat.reduceMul,Nat.reduceAdd,rowV] at h0 h1 h2 h3
 show CB 81 #[.int .i64 4] w (.tuple #[.agg #[.int .i64 4,.string ⟨#[68,111,117,98,108,101]⟩,.int .i64 2,.int .i64 64,.int .i64 53,.int .i64 11,.int .i64 (-1074),.int .i64 971,.int .i64 51,.bool false],.int .i64 0])
 clear hT
 go_enter Tryz.func81,Tryz.ntmps81
 go_wp2
 go_region
 go_wp2
 exact bodyPost_ret (v:=.tuple #[.agg #[.int .i64 4,.string ⟨#[68,111,117,98,108,101]⟩,.int .i64 2,.int .i64 64,.int .i64 53,.int .i64 11,.int .i64 (-1074),.int .i64 971,.int .i64 51,.bool false],.int .i64 0]) (by rw [results_cell_tmp rfl];go_simp) rfl ⟨rfl,(below3' _ _ _ _).drew⟩
theorem of_5 (w:World)(hT:Tab w) :
  CB 81 #[.int .i64 5] w (.tuple #[.agg (infoV 5),.int .i64 0]):=by
 have hs:=hT.1
 have h0:=hT.2 4 0 (by decide) (by decide)
 have h1:=hT.2 4 1 (by decide) (by decide)
 have h2:=hT.2 4 2 (by decide) (by decide)
 have h3:=hT.2 4 3 (by decide) (by decide)
 simp only [Nat.reduceMul,Nat.reduceAdd,rowV] at h0 h1 h2 h3
 show CB 81 #[.int .i64 5] w (.tuple #[.agg #[.int .i64 5,.string ⟨#[81,117,97,100]⟩,.int .i64 2,.int .i64 128,.int .i64 113,.int .i64 15,.int .i64 (-16494),.int .i64 16271,.int .i64 111,.bool false],.int .i64 0])
 clear hT
 go_enter Tryz.func81,Tryz.ntmps81
 go_wp2
 go_region
 go_wp2
 exact bodyPost_ret (v:=.tuple #[.agg #[.int .i64 5,.string ⟨#[81,117,97,100]⟩,.int .i64 2,.int .i64 128,.int .i64 113,.int .i64 15,.int .i64 (-16494),.int .i64 16271,.int .i64 111,.bool false],.int .i64 0]) (by rw [results_cell_tmp rfl];go_simp) rfl ⟨rfl,(below3' _ _ _ _).drew⟩
theorem of_6 (w:World)(hT:Tab w) :
  CB 81 #[.int .i64 6] w (.tuple #[.agg (infoV 6),.int .i64 0]):=by
 have hs:=hT.1
 have h0:=hT.2 5 0 (by decide) (by decide)
 have h1:=hT.2 5 1 (by decide) (by decide)
 have h2:=hT.2 5 2 (by decide) (by decide)
 have h3:=hT.2 5 3 (by decide) (by decide)
 simp only [Nat.reduceMul,Nat.reduceAdd,rowV] at h0 h1 h2 h3
 show CB 81 #[.int .i64 6] w (.tuple #[.agg #[.int .i64 6,.string ⟨#[79,99,116,111]⟩,.int .i64 2,.int .i64 256,.int .i64 241,.int .i64 15,.int .i64 (-16622),.int .i64 16143,.int .i64 239,.bool false],.int .i64 0])
 clear hT
 go_enter Tryz.func81,Tryz.ntmps81
 go_wp2
 go_region
 go_wp2
 exact bodyPost_ret (v:=.tuple #[.agg #[.int .i64 6,.string ⟨#[79,99,116,111]⟩,.int .i64 2,.int .i64 256,.int .i64 241,.int .i64 15,.int .i64 (-16622),.int .i64 16143,.int .i64 239,.bool false],.int .i64 0]) (by rw [results_cell_tmp rfl];go_simp) rfl ⟨rfl,(below3' _ _ _ _).drew⟩
theorem of_7 (w:World)(hT:Tab w) :
  CB 81 #[.int .i64 7] w (.tuple #[.agg (infoV 7),.int .i64 0]):=by
 have hs:=hT.1
 have h0:=hT.2 6 0 (by decide) (by decide)
 have h1:=hT.2 6 1 (by decide) (by decide)
 have h2:=hT.2 6 2 (by decide) (by decide)
 have h3:=hT.2 6 3 (by decide) (by decide)
 simp only [Nat.reduceMul,Nat.reduceAdd,rowV] at h0 h1 h2 h3
 show CB 81 #[.int .i64 7] w (.tuple #[.agg #[.int .i64 7,.string ⟨#[80,108,97,105,110,51,50]⟩,.int .i64 10,.int .i64 32,.int .i64 7,.int .i64 96,.int .i64 (-101),.int .i64 90,.int .i64 6,.bool false],.int .i64 0])
 clear hT
 go_enter Tryz.func81,Tryz.ntmps81
 go_wp2
 go_region
 go_wp2
 exact bodyPost_ret (v:=.tuple #[.agg #[.int .i64 7,.string ⟨#[80,108,97,105,110,51,50]⟩,.int .i64 10,.int .i64 32,.int .i64 7,.int .i64 96,.int .i64 (-101),.int .i64 90,.int .i64 6,.bool false],.int .i64 0]) (by rw [results_cell_tmp rfl];go_simp) rfl ⟨rfl,(below3' _ _ _ _).drew⟩
theorem of_8 (w:World)(hT:Tab w) :
  CB 81 #[.int .i64 8] w (.tuple #[.agg (infoV 8),.int .i64 0]):=by
 have hs:=hT.1
 have h0:=hT.2 7 0 (by decide) (by decide)
 have h1:=hT.2 7 1 (by decide) (by decide)
 have h2:=hT.2 7 2 (by decide) (by decide)
 have h3:=hT.2 7 3 (by decide) (by decide)
 simp only [Nat.reduceMul,Nat.reduceAdd,rowV] at h0 h1 h2 h3
 show CB 81 #[.int .i64 8] w (.tuple #[.agg #[.int .i64 8,.string ⟨#[80,108,97,105,110,54,52]⟩,.int .i64 10,.int .i64 64,.int .i64 16,.int .i64 384,.int .i64 (-398),.int .i64 369,.int .i64 15,.bool false],.int .i64 0])
 clear hT
 go_enter Tryz.func81,Tryz.ntmps81
 go_wp2
 go_region
 go_wp2
 exact bodyPost_ret (v:=.tuple #[.agg #[.int .i64 8,.string ⟨#[80,108,97,105,110,54,52]⟩,.int .i64 10,.int .i64 64,.int .i64 16,.int .i64 384,.int .i64 (-398),.int .i64 369,.int .i64 15,.bool false],.int .i64 0]) (by rw [results_cell_tmp rfl];go_simp) rfl ⟨rfl,(below3' _ _ _ _).drew⟩
theorem of_9 (w:World)(hT:Tab w) :
  CB 81 #[.int .i64 9] w (.tuple #[.agg (infoV 9),.int .i64 0]):=by
 have hs:=hT.1
 have h0:=hT.2 8 0 (by decide) (by decide)
 have h1:=hT.2 8 1 (by decide) (by decide)
 have h2:=hT.2 8 2 (by decide) (by decide)
 have h3:=hT.2 8 3 (by decide) (by decide)
 simp only [Nat.reduceMul,Nat.reduceAdd,rowV] at h0 h1 h2 h3
 show CB 81 #[.int .i64 9] w (.tuple #[.agg #[.int .i64 9,.string ⟨#[80,108,97,105,110,49,50,56]⟩,.int .i64 10,.int .i64 128,.int .i64 34,.int .i64 6144,.int .i64 (-6176),.int .i64 6111,.int .i64 33,.bool false],.int .i64 0])
 clear hT
 go_enter Tryz.func81,Tryz.ntmps81
 go_wp2
 go_region
 go_wp2
 exact bodyPost_ret (v:=.tuple #[.agg #[.int .i64 9,.string ⟨#[80,108,97,105,110,49,50,56]⟩,.int .i64 10,.int .i64 128,.int .i64 34,.int .i64 6144,.int .i64 (-6176),.int .i64 6111,.int .i64 33,.bool false],.int .i64 0]) (by rw [results_cell_tmp rfl];go_simp) rfl ⟨rfl,(below3' _ _ _ _).drew⟩
theorem of_10 (w:World)(hT:Tab w) :
  CB 81 #[.int .i64 10] w (.tuple #[.agg (infoV 10),.int .i64 0]):=by
 have hs:=hT.1
 have h0:=hT.2 9 0 (by decide) (by decide)
 have h1:=hT.2 9 1 (by decide) (by decide)
 have h2:=hT.2 9 2 (by decide) (by decide)
 have h3:=hT.2 9 3 (by decide) (by decide)
 simp only [Nat.reduceMul,Nat.reduceAdd,rowV] at h0 h1 h2 h3
 show CB 81 #[.int .i64 10] w (.tuple #[.agg #[.int .i64 10,.string ⟨#[68,101,110,115,101,51,50]⟩,.int .i64 10,.int .i64 32,.int .i64 7,.int .i64 96,.int .i64 (-101),.int .i64 90,.int .i64 6,.bool true],.int .i64 0])
 clear hT
 go_enter Tryz.func81,Tryz.ntmps81
 go_wp2
 go_region
 go_wp2
 exact bodyPost_ret (v:=.tuple #[.agg #[.int .i64 10,.string ⟨#[68,101,110,115,101,51,50]⟩,.int .i64 10,.int .i64 32,.int .i64 7,.int .i64 96,.int .i64 (-101),.int .i64 90,.int .i64 6,.bool true],.int .i64 0]) (by rw [results_cell_tmp rfl];go_simp) rfl ⟨rfl,(below3' _ _ _ _).drew⟩
theorem of_11 (w:World)(hT:Tab w) :
  CB 81 #[.int .i64 11] w (.tuple #[.agg (infoV 11),.int .i64 0]):=by
 have hs:=hT.1
 have h0:=hT.2 10 0 (by decide) (by decide)
 have h1:=hT.2 10 1 (by decide) (by decide)
 have h2:=hT.2 10 2 (by decide) (by decide)
 have h3:=hT.2 10 3 (by decide) (by decide)
 simp only [Nat.reduceMul,Nat.reduceAdd,rowV] at h0 h1 h2 h3
 show CB 81 #[.int .i64 11] w (.tuple #[.agg #[.int .i64 11,.string ⟨#[68,101,110,115,101,54,52]⟩,.int .i64 10,.int .i64 64,.int .i64 16,.int .i64 384,.int .i64 (-398),.int .i64 369,.int .i64 15,.bool true],.int .i64 0])
 clear hT
 go_enter Tryz.func81,Tryz.ntmps81
 go_wp2
 go_region
 go_wp2
 exact bodyPost_ret (v:=.tuple #[.agg #[.int .i64 11,.string ⟨#[68,101,110,115,101,54,52]⟩,.int .i64 10,.int .i64 64,.int .i64 16,.int .i64 384,.int .i64 (-398),.int .i64 369,.int .i64 15,.bool true],.int .i64 0]) (by rw [results_cell_tmp rfl];go_simp) rfl ⟨rfl,(below3' _ _ _ _).drew⟩
theorem of_12 (w:World)(hT:Tab w) :
  CB 81 #[.int .i64 12] w (.tuple #[.agg (infoV 12),.int .i64 0]):=by
 have hs:=hT.1
 have h0:=hT.2 11 0 (by decide) (by decide)
 have h1:=hT.2 11 1 (by decide) (by decide)
 have h2:=hT.2 11 2 (by decide) (by decide)
 have h3:=hT.2 11 3 (by decide) (by decide)
 simp only [Nat.reduceMul,Nat.reduceAdd,rowV] at h0 h1 h2 h3
 show CB 81 #[.int .i64 12] w (.tuple #[.agg #[.int .i64 12,.string ⟨#[68,101,110,115,101,49,50,56]⟩,.int .i64 10,.int .i64 128,.int .i64 34,.int .i64 6144,.int .i64 (-6176),.int .i64 6111,.int .i64 33,.bool true],.int .i64 0])
 clear hT
 go_enter Tryz.func81,Tryz.ntmps81
 go_wp2
 go_region
 go_wp2
 exact bodyPost_ret (v:=.tuple #[.agg #[.int .i64 12,.string ⟨#[68,101,110,115,101,49,50,56]⟩,.int .i64 10,.int .i64 128,.int .i64 34,.int .i64 6144,.int .i64 (-6176),.int .i64 6111,.int .i64 33,.bool true],.int .i64 0]) (by rw [results_cell_tmp rfl];go_simp) rfl ⟨rfl,(below3' _ _ _ _).drew⟩
theorem of_none (n:Int)(w:World)(h:¬ okN n) :
  CB 81 #[.int .i64 n] w (.tuple #[.agg (infoV n),.int .i64 1]):=by
 rw [infoV_none h]
 have key:n<1∨(1<=n/\12<n):=by unfold okN at h;omega
 clear h
 rcases key with k1|⟨k1,k2⟩
 all_goals
  go_enter Tryz.func81,Tryz.ntmps81
  go_wp2
  exact bodyPost_ret (v:=.tuple #[.agg #[.int .i64 0,.string ⟨#[]⟩,.int .i64 0,.int .i64 0,.int .i64 0,.int .i64 0,.int .i64 0,.int .i64 0,.int .i64 0,.bool false],.int .i64 1]) (by rw [results_cell_tmp rfl];go_simp) rfl ⟨rfl,below1' _ _⟩
theorem dof_any (n:Int)(w:World)(hT:Tab w) :
  CB 81 #[.int .i64 n] w (.tuple #[.agg (infoV n),.int .i64 (infoE n)]):=by
 by_cases h:okN n
 ·rcases okN_cases h with rfl|rfl|rfl|rfl|rfl|rfl|rfl|rfl|rfl|rfl|rfl|rfl
  ·exact of_1 w hT
  ·exact of_2 w hT
  ·exact of_3 w hT
  ·exact of_4 w hT
  ·exact of_5 w hT
  ·exact of_6 w hT
  ·exact of_7 w hT
  ·exact of_8 w hT
  ·exact of_9 w hT
  ·exact of_10 w hT
  ·exact of_11 w hT
  ·exact of_12 w hT
 ·unfold infoE;rw [if_neg h];exact of_none n w h
theorem rof_1 (w:World) :
  CB 20 #[.int .i64 1] w (.tuple #[.agg (infoV 1),.int .i64 0]):=by
 show CB 20 #[.int .i64 1] w (.tuple #[.agg #[.int .i64 1,.string ⟨#[72,97,108,102]⟩,.int .i64 2,.int .i64 16,.int .i64 11,.int .i64 5,.int .i64 (-24),.int .i64 5,.int .i64 9,.bool false],.int .i64 0])
 go_enter Tryz.func20,Tryz.ntmps20
 go_wp2
 exact bodyPost_ret (v:=.tuple #[.agg #[.int .i64 1,.string ⟨#[72,97,108,102]⟩,.int .i64 2,.int .i64 16,.int .i64 11,.int .i64 5,.int .i64 (-24),.int .i64 5,.int .i64 9,.bool false],.int .i64 0]) (by rw [results_cell_tmp rfl];go_simp) rfl ⟨rfl,below2' _ _ _⟩
theorem rof_2 (w:World) :
  CB 20 #[.int .i64 2] w (.tuple #[.agg (infoV 2),.int .i64 0]):=by
 show CB 20 #[.int .i64 2] w (.tuple #[.agg #[.int .i64 2,.string ⟨#[66,114,97,105,110]⟩,.int .i64 2,.int .i64 16,.int .i64 8,.int .i64 8,.int .i64 (-133),.int .i64 120,.int .i64 6,.bool false],.int .i64 0])
 go_enter Tryz.func20,Tryz.ntmps20
 go_wp2
 exact bodyPost_ret (v:=.tuple #[.agg #[.int .i64 2,.string ⟨#[66,114,97,105,110]⟩,.int .i64 2,.int .i64 16,.int .i64 8,.int .i64 8,.int .i64 (-133),.int .i64 120,.int .i64 6,.bool false],.int .i64 0]) (by rw [results_cell_tmp rfl];go_simp) rfl ⟨rfl,below2' _ _ _⟩
theorem rof_3 (w:World) :
  CB 20 #[.int .i64 3] w (.tuple #[.agg (infoV 3),.int .i64 0]):=by
 show CB 20 #[.int .i64 3] w (.tuple #[.agg #[.int .i64 3,.string ⟨#[83,105,110,103,108,101]⟩,.int .i64 2,.int .i64 32,.int .i64 24,.int .i64 8,.int .i64 (-149),.int .i64 104,.int .i64 22,.bool false],.int .i64 0])
 go_enter Tryz.func20,Tryz.ntmps20
 go_wp2
 exact bodyPost_ret (v:=.tuple #[.agg #[.int .i64 3,.string ⟨#[83,105,110,103,108,101]⟩,.int .i64 2,.int .i64 32,.int .i64 24,.int .i64 8,.int .i64 (-149),.int .i64 104,.int .i64 22,.bool false],.int .i64 0]) (by rw [results_cell_tmp rfl];go_simp) rfl ⟨rfl,below2' _ _ _⟩
theorem rof_4 (w:World) :
  CB 20 #[.int .i64 4] w (.tuple #[.agg (infoV 4),.int .i64 0]):=by
 show CB 20 #[.int .i64 4] w (.tuple #[.agg #[.int .i64 4,.string ⟨#[68,111,117,98,108,101]⟩,.int .i64 2,.int .i64 64,.int .i64 53,.int .i64 11,.int .i64 (-1074),.int .i64 971,.int .i64 51,.bool false],.int .i64 0])
 go_enter Tryz.func20,Tryz.ntmps20
 go_wp2
 exact bodyPost_ret (v:=.tuple #[.agg #[.int .i64 4,.string ⟨#[68,111,117,98,108,101]⟩,.int .i64 2,.int .i64 64,.int .i64 53,.int .i64 11,.int .i64 (-1074),.int .i64 971,.int .i64 51,.bool false],.int .i64 0]) (by rw [results_cell_tmp rfl];go_simp) rfl ⟨rfl,below2' _ _ _⟩
theorem rof_5 (w:World) :
  CB 20 #[.int .i64 5] w (.tuple #[.agg (infoV 5),.int .i64 0]):=by
 show CB 20 #[.int .i64 5] w (.tuple #[.agg #[.int .i64 5,.string ⟨#[81,117,97,100]⟩,.int .i64 2,.int .i64 128,.int .i64 113,.int .i64 15,.int .i64 (-16494),.int .i64 16271,.int .i64 111,.bool false],.int .i64 0])
 go_enter Tryz.func20,Tryz.ntmps20
 go_wp2
 exact bodyPost_ret (v:=.tuple #[.agg #[.int .i64 5,.string ⟨#[81,117,97,100]⟩,.int .i64 2,.int .i64 128,.int .i64 113,.int .i64 15,.int .i64 (-16494),.int .i64 16271,.int .i64 111,.bool false],.int .i64 0]) (by rw [results_cell_tmp rfl];go_simp) rfl ⟨rfl,below2' _ _ _⟩
theorem rof_6 (w:World) :
  CB 20 #[.int .i64 6] w (.tuple #[.agg (infoV 6),.int .i64 0]):=by
 show CB 20 #[.int .i64 6] w (.tuple #[.agg #[.int .i64 6,.string ⟨#[79,99,116,111]⟩,.int .i64 2,.int .i64 256,.int .i64 241,.int .i64 15,.int .i64 (-16622),.int .i64 16143,.int .i64 239,.bool false],.int .i64 0])
 go_enter Tryz.func20,Tryz.ntmps20
 go_wp2
 exact bodyPost_ret (v:=.tuple #[.agg #[.int .i64 6,.string ⟨#[79,99,116,111]⟩,.int .i64 2,.int .i64 256,.int .i64 241,.int .i64 15,.int .i64 (-16622),.int .i64 16143,.int .i64 239,.bool false],.int .i64 0]) (by rw [results_cell_tmp rfl];go_simp) rfl ⟨rfl,below2' _ _ _⟩
theorem rof_7 (w:World) :
  CB 20 #[.int .i64 7] w (.tuple #[.agg (infoV 7),.int .i64 0]):=by
 show CB 20 #[.int .i64 7] w (.tuple #[.agg #[.int .i64 7,.string ⟨#[80,108,97,105,110,51,50]⟩,.int .i64 10,.int .i64 32,.int .i64 7,.int .i64 96,.int .i64 (-101),.int .i64 90,.int .i64 6,.bool false],.int .i64 0])
 go_enter Tryz.func20,Tryz.ntmps20
 go_wp2
 exact bodyPost_ret (v:=.tuple #[.agg #[.int .i64 7,.string ⟨#[80,108,97,105,110,51,50]⟩,.int .i64 10,.int .i64 32,.int .i64 7,.int .i64 96,.int .i64 (-101),.int .i64 90,.int .i64 6,.bool false],.int .i64 0]) (by rw [results_cell_tmp rfl];go_simp;rfl) rfl ⟨rfl,below2' _ _ _⟩
theorem rof_8 (w:World) :
  CB 20 #[.int .i64 8] w (.tuple #[.agg (infoV 8),.int .i64 0]):=by
 show CB 20 #[.int .i64 8] w (.tuple #[.agg #[.int .i64 8,.string ⟨#[80,108,97,105,110,54,52]⟩,.int .i64 10,.int .i64 64,.int .i64 16,.int .i64 384,.int .i64 (-398),.int .i64 369,.int .i64 15,.bool false],.int .i64 0])
 go_enter Tryz.func20,Tryz.ntmps20
 go_wp2
 exact bodyPost_ret (v:=.tuple #[.agg #[.int .i64 8,.string ⟨#[80,108,97,105,110,54,52]⟩,.int .i64 10,.int .i64 64,.int .i64 16,.int .i64 384,.int .i64 (-398),.int .i64 369,.int .i64 15,.bool false],.int .i64 0]) (by rw [results_cell_tmp rfl];go_simp;rfl) rfl ⟨rfl,below2' _ _ _⟩
theorem rof_9 (w:World) :
  CB 20 #[.int .i64 9] w (.tuple #[.agg (infoV 9),.int .i64 0]):=by
 show CB 20 #[.int .i64 9] w (.tuple #[.agg #[.int .i64 9,.string ⟨#[80,108,97,105,110,49,50,56]⟩,.int .i64 10,.int .i64 128,.int .i64 34,.int .i64 6144,.int .i64 (-6176),.int .i64 6111,.int .i64 33,.bool false],.int .i64 0])
 go_enter Tryz.func20,Tryz.ntmps20
 go_wp2
 exact bodyPost_ret (v:=.tuple #[.agg #[.int .i64 9,.string ⟨#[80,108,97,105,110,49,50,56]⟩,.int .i64 10,.int .i64 128,.int .i64 34,.int .i64 6144,.int .i64 (-6176),.int .i64 6111,.int .i64 33,.bool false],.int .i64 0]) (by rw [results_cell_tmp rfl];go_simp;rfl) rfl ⟨rfl,below2' _ _ _⟩
theorem rof_10 (w:World) :
  CB 20 #[.int .i64 10] w (.tuple #[.agg (infoV 10),.int .i64 0]):=by
 show CB 20 #[.int .i64 10] w (.tuple #[.agg #[.int .i64 10,.string ⟨#[68,101,110,115,101,51,50]⟩,.int .i64 10,.int .i64 32,.int .i64 7,.int .i64 96,.int .i64 (-101),.int .i64 90,.int .i64 6,.bool true],.int .i64 0])
 go_enter Tryz.func20,Tryz.ntmps20
 go_wp2
 exact bodyPost_ret (v:=.tuple #[.agg #[.int .i64 10,.string ⟨#[68,101,110,115,101,51,50]⟩,.int .i64 10,.int .i64 32,.int .i64 7,.int .i64 96,.int .i64 (-101),.int .i64 90,.int .i64 6,.bool true],.int .i64 0]) (by rw [results_cell_tmp rfl];go_simp;rfl) rfl ⟨rfl,below2' _ _ _⟩
theorem rof_11 (w:World) :
  CB 20 #[.int .i64 11] w (.tuple #[.agg (infoV 11),.int .i64 0]):=by
 show CB 20 #[.int .i64 11] w (.tuple #[.agg #[.int .i64 11,.string ⟨#[68,101,110,115,101,54,52]⟩,.int .i64 10,.int .i64 64,.int .i64 16,.int .i64 384,.int .i64 (-398),.int .i64 369,.int .i64 15,.bool true],.int .i64 0])
 go_enter Tryz.func20,Tryz.ntmps20
 go_wp2
 exact bodyPost_ret (v:=.tuple #[.agg #[.int .i64 11,.string ⟨#[68,101,110,115,101,54,52]⟩,.int .i64 10,.int .i64 64,.int .i64 16,.int .i64 384,.int .i64 (-398),.int .i64 369,.int .i64 15,.bool true],.int .i64 0]) (by rw [results_cell_tmp rfl];go_simp;rfl) rfl ⟨rfl,below2' _ _ _⟩
theorem rof_12 (w:World) :
  CB 20 #[.int .i64 12] w (.tuple #[.agg (infoV 12),.int .i64 0]):=by
 show CB 20 #[.int .i64 12] w (.tuple #[.agg #[.int .i64 12,.string ⟨#[68,101,110,115,101,49,50,56]⟩,.int .i64 10,.int .i64 128,.int .i64 34,.int .i64 6144,.int .i64 (-6176),.int .i64 6111,.int .i64 33,.bool true],.int .i64 0])
 go_enter Tryz.func20,Tryz.ntmps20
 go_wp2
 exact bodyPost_ret (v:=.tuple #[.agg #[.int .i64 12,.string ⟨#[68,101,110,115,101,49,50,56]⟩,.int .i64 10,.int .i64 128,.int .i64 34,.int .i64 6144,.int .i64 (-6176),.int .i64 6111,.int .i64 33,.bool true],.int .i64 0]) (by rw [results_cell_tmp rfl];go_simp;rfl) rfl ⟨rfl,below2' _ _ _⟩
theorem rof_none (n:Int)(w:World)(h:¬ okN n) :
  CB 20 #[.int .i64 n] w (.tuple #[.agg (infoV n),.int .i64 1]):=by
 rw [infoV_none h]
 have e1:(n==1)=false:=by unfold okN at h;simp only [beq_eq_false_iff_ne,ne_eq];omega
 have e2:(n==2)=false:=by unfold okN at h;simp only [beq_eq_false_iff_ne,ne_eq];omega
 have e3:(n==3)=false:=by unfold okN at h;simp only [beq_eq_false_iff_ne,ne_eq];omega
 have e4:(n==4)=false:=by unfold okN at h;simp only [beq_eq_false_iff_ne,ne_eq];omega
 have e5:(n==5)=false:=by unfold okN at h;simp only [beq_eq_false_iff_ne,ne_eq];omega
 have e6:(n==6)=false:=by unfold okN at h;simp only [beq_eq_false_iff_ne,ne_eq];omega
 have e7:(n==7)=false:=by unfold okN at h;simp only [beq_eq_false_iff_ne,ne_eq];omega
 have e8:(n==8)=false:=by unfold okN at h;simp only [beq_eq_false_iff_ne,ne_eq];omega
 have e9:(n==9)=false:=by unfold okN at h;simp only [beq_eq_false_iff_ne,ne_eq];omega
 have e10:(n==10)=false:=by unfold okN at h;simp only [beq_eq_false_iff_ne,ne_eq];omega
 have e11:(n==11)=false:=by unfold okN at h;simp only [beq_eq_false_iff_ne,ne_eq];omega
 have e12:(n==12)=false:=by unfold okN at h;simp only [beq_eq_false_iff_ne,ne_eq];omega
 clear h
 go_enter Tryz.func20,Tryz.ntmps20
 go_wp2
 exact bodyPost_ret (v:=.tuple #[.agg #[.int .i64 0,.string ⟨#[]⟩,.int .i64 0,.int .i64 0,.int .i64 0,.int .i64 0,.int .i64 0,.int .i64 0,.int .i64 0,.bool false],.int .i64 1]) (by rw [results_cell_tmp rfl];go_simp) rfl ⟨rfl,below2' _ _ _⟩
theorem rof_any (n:Int)(w:World) :
  CB 20 #[.int .i64 n] w (.tuple #[.agg (infoV n),.int .i64 (infoE n)]):=by
 by_cases h:okN n
 ·rcases okN_cases h with rfl|rfl|rfl|rfl|rfl|rfl|rfl|rfl|rfl|rfl|rfl|rfl
  ·exact rof_1 w
  ·exact rof_2 w
  ·exact rof_3 w
  ·exact rof_4 w
  ·exact rof_5 w
  ·exact rof_6 w
  ·exact rof_7 w
  ·exact rof_8 w
  ·exact rof_9 w
  ·exact rof_10 w
  ·exact rof_11 w
  ·exact rof_12 w
 ·unfold infoE;rw [if_neg h];exact rof_none n w h
end Go.Proofs.YtgknbdehlmlipaaGreatDoor
