/-
  Texts that the proof leans on.
-/
import Derived.Test.YtjfeaiaafbaobaaGreatDoorJ5
import Derived.Test.YtjfeaiaafbaobaaGreatDoorJ1
import Derived.Lib.RabinKarpLaws
set_option linter.unusedVariables false
set_option linter.unusedSimpArgs false
set_option linter.unusedSectionVars false
set_option maxHeartbeats 8000000
set_option maxRecDepth 20000
namespace Go.Proofs.YtjfeaiaafbaobaaGreatDoor
open Go.RowKit
def Own (g N:Nat)(x:Nat->Int)(w:World):Prop:=w.heap[g]?=some (.cells (arrOf x N) 22)
structure Upd (g:Nat) (w w':World):Prop where
 os:w'.os=w.os
 tape:w'.tape=w.tape
 output:w'.output=w.output
 size:w'.heap.size=w.heap.size
 block:∀ k,k≠g->w'.heap[k]?=w.heap[k]?
theorem Upd.refl (g:Nat)(w:World):Upd g w w:=⟨rfl,rfl,rfl,rfl,fun _ _=>rfl⟩
theorem Upd.trans {g:Nat}{a b c:World}(h:Upd g a b)(k:Upd g b c):Upd g a c :=
 ⟨k.os.trans h.os,k.tape.trans h.tape,k.output.trans h.output,k.size.trans h.size,fun i hi=>(k.block i hi).trans (h.block i hi)⟩
theorem Upd.drewN {g:Nat}{a b:World}(h:Upd g a b)(m:Nat):Upd g a (b.drewN m):=⟨h.os,h.tape,h.output,h.size,h.block⟩
theorem Upd.drew {g:Nat}{a b:World}(h:Upd g a b):Upd g a b.drew:=⟨h.os,h.tape,h.output,h.size,h.block⟩
theorem Upd.set {g:Nat}{a b:World}(h:Upd g a b)(i:Nat)(v:Value):Upd g a (b.setCell ⟨g,i,none⟩ v) :=
 h.trans ⟨rfl,rfl,rfl,by simp [World.setCell],fun k hk=>Below.heap_setCell _ _ _ _ hk⟩
theorem Upd.below {g B:Nat}{w w':World}(h:Upd g w w')(hB:B<=g):Below B w w':=⟨h.os,h.tape,h.output,Nat.le_of_eq h.size.symm,fun k hk=>h.block k (by omega)⟩
theorem Upd.num {g:Nat}{w w':World}{b off n c:Nat}{x:Nat->Int}(h:Upd g w w')(hb:b≠g)(hN:Num w (some ⟨b,off,none⟩) n c x):Num w' (some ⟨b,off,none⟩) n c x:=by
 obtain ⟨h1,h2,h3,h4,h5⟩:=hN
 refine ⟨h1,h2,h3,h4,?_⟩
 rcases h5 with ⟨h5,_⟩|⟨b',off',h6,h7,h8⟩
 ·cases h5
 ·cases h6
  exact Or.inr ⟨b,off,rfl,by rw [h.size];exact h7,fun i hi=>(World.cell?_of_block (w:=w) (a:=⟨b,off+i,none⟩) (h.block b hb)).trans (h8 i hi)⟩
def Apart (a:Option Addr)(g:Nat):Prop:=∀ p,a=some p->p.block≠g
theorem Upd.num' {g:Nat}{w w':World}{a:Option Addr}{n c:Nat}{x:Nat->Int}(h:Upd g w w')(hb:Apart a g)(hN:Num w a n c x):Num w' a n c x:=by
 have hN':=hN
 obtain ⟨h1,h2,h3,h4,h5⟩:=hN'
 rcases h5 with ⟨rfl,rfl⟩|⟨b',off',rfl,h7,h8⟩
 ·exact ⟨h1,h2,h3,h4,Or.inl ⟨rfl,rfl⟩⟩
 ·exact h.num (hb _ rfl) hN
theorem Upd.own {g g' N:Nat}{w w':World}{x:Nat->Int}(h:Upd g w w')(hb:g'≠g)(hN:Own g' N x w):Own g' N x w':=(h.block g' hb).trans hN
theorem Below.own {B g N:Nat}{w w':World}{x:Nat->Int}(h:Below B w w')(hb:g<B)(hN:Own g N x w):Own g N x w':=(h.block g hb).trans hN
theorem Own.lt {g N:Nat}{x:Nat->Int}{w:World}(h:Own g N x w):g<w.heap.size:=by
 rcases Nat.lt_or_ge g w.heap.size with h'|h'
 ·exact h'
 ·unfold Own at h;rw [Array.getElem?_eq_none h'] at h;cases h
theorem Own.cell {g N:Nat}{x:Nat->Int}{w:World}(h:Own g N x w)(i:Nat)(hi:i<N):w.cell? ⟨g,i,none⟩=some (.int .u64 (x i)):=by
 unfold World.cell?
 have hh:w.heap[g]?=some (.cells (arrOf x N) 22):=h
 simp [hh,arrOf_get? x N i hi]
theorem Own.frozen {g N:Nat}{x:Nat->Int}{w:World}(h:Own g N x w)(i:Nat):w.frozen? ⟨g,i,none⟩=false:=by
 unfold World.frozen?
 have hh:w.heap[g]?=some (.cells (arrOf x N) 22):=h
 simp [hh]
theorem Own.set {g N:Nat}{x:Nat->Int}{w:World}(h:Own g N x w)(i:Nat)(v:Int):Own g N (fun j=>if j=i then v else x j) (w.setCell ⟨g,i,none⟩ (.int .u64 v)):=by
 have hh:w.heap[g]?=some (.cells (arrOf x N) 22):=h
 show (w.setCell ⟨g,i,none⟩ (.int .u64 v)).heap[g]?=_
 simp only [World.setCell,Array.getElem?_modify,if_true,hh]
 simp [arrOf_set]
theorem Own.congr {g N:Nat}{x y:Nat->Int}{w:World}(h:Own g N x w)(e:∀ i,i<N->x i=y i):Own g N y w:=by
 unfold Own;rw [← arrOf_congr e];exact h
theorem Own.new (w:World)(x:Nat->Int)(N:Nat):Own w.heap.size N x (w.alloc (.cells (arrOf x N) 22)):=(MapKept.heap_alloc w _).1
def segW (x:Nat->Int)(off m i:Nat):Int:=if i<m then x (off+i) else 0
theorem segW_words {x:Nat->Int}(hx:Words x)(off m:Nat):Words (segW x off m):=fun i=>by unfold segW;split;exact hx _;decide
theorem segW_zero (x:Nat->Int)(off m i:Nat)(h:m<=i):segW x off m i=0:=by unfold segW;rw [if_neg (by omega)]
theorem segW_lt (x:Nat->Int)(off m i:Nat)(h:i<m):segW x off m i=x (off+i):=by unfold segW;rw [if_pos h]
theorem Own.num {g N:Nat}{x:Nat->Int}{w:World}(h:Own g N x w)(hx:Words x)(off m c:Nat)(hm:off+m<=N)(hc:m<=c)(hc2:c<=maxLen):Num w (some ⟨g,off,none⟩) m c (segW x off m) :=
 ⟨hc,hc2,segW_words hx off m,fun i hi=>segW_zero x off m i hi,Or.inr ⟨g,off,rfl,h.lt,fun i hi=>by rw [h.cell (off+i) (by omega),segW_lt x off m i hi]⟩⟩
def divZ (x:Nat->Int)(d:Int)(m k i:Nat):Int:=if k<=i/\i<m then quoW x d m i else x i
theorem divideBy_any (g N m c:Nat)(x:Nat->Int)(d:Int)(w:World)(hm:m<=N)(hm2:m<4294967296)(hx:Words x)(hd:0<d/\d<=18446744073709551615)(h:Own g N x w) :
  Calls Tryz.prog 85 #[.slice (some ⟨g,0,none⟩) m c,.int .u64 d] w fun e w'=>e=.returned (.int .u64 (remJ x d m m))/\Own g N (divZ x d m 0) w'/\Upd g w w':=by
 have H:=fun j hj w=>limDiv_ok x d m hx hd j hj w
 have hd0:(d==0)=false:=by simp;omega
 go_enter Tryz.func85,Tryz.ntmps85
 go_wp2
 go_loopw [5,6,14] (fun c i u14 wr=>∃ (k:Nat),k<=m/\i=.int .i64 ((k:Int)-1)/\c=.int .u64 (remJ x d m (m-k))/\Own g N (divZ x d m k) wr/\Upd g w wr) (fun _ i _ _=>(intOf i+1).toNat)
 case atStart=>exact ⟨m,Nat.le_refl _,rfl,by rw [Nat.sub_self];rfl,h.congr fun i _=>by unfold divZ;rw [if_neg (by omega)],Upd.refl _ _⟩
 case round =>
  obtain ⟨k,hk,rfl,rfl,hO,hU⟩:=hrel
  by_cases h0:k=0
  ·subst h0
   have HO:Hid (Own g N (divZ x d m 0) wr):=hO
   have HU:Hid (Upd g w wr):=hU
   clear hO hU H
   go_wp2
   go_ret
   exact ⟨rfl,HO.out,HU.out⟩
  ·obtain ⟨j,rfl⟩:∃ j,k=j+1:=⟨k-1,by omega⟩
   have hjm:(j:Int)<m:=by omega
   have ej:((j+1:Nat):Int)-1=j:=by omega
   have ej2:m-(j+1)=m-1-j:=by omega
   rw [ej,ej2]
   have hcj:=hO.cell j (by omega)
   have hzj:divZ x d m (j+1) j=x j:=by unfold divZ;rw [if_neg (by omega)]
   rw [hzj] at hcj
   have hfj:=hO.frozen j
   have HJ:=H j (by omega)
   have HO:Hid (Own g N (divZ x d m j) (wr.setCell ⟨g,j,none⟩ (.int .u64 (quoW x d m j)))):=(hO.set j (quoW x d m j)).congr fun i hi=>by
    unfold divZ
    by_cases e:i=j
    ·subst e;rw [if_pos rfl,if_pos (by omega)]
    ·rw [if_neg e]
     by_cases e2:j+1<=i/\i<m
     ·rw [if_pos e2,if_pos (by omega)]
     ·rw [if_neg e2,if_neg (by omega)]
   have HU:Hid (Upd g w (wr.setCell ⟨g,j,none⟩ (.int .u64 (quoW x d m j)))):=hU.set j _
   clear hO hU H ej ej2 hzj
   go_wp2_with (go_at_call 132;refine (HJ _).mono ?_;rintro e w' ⟨rfl,m',rfl⟩)
   go_roundw
   case rel=>exact ⟨j,by omega,by go_num,rfl,HO.out,HU.out.drewN m'⟩
   case measure=>simp [intOf]
theorem sizeL_congr {x y:Nat->Int}:∀ n,(∀ i,i<n->x i=y i)->sizeL x n=sizeL y n
 | 0,_=>rfl
 | n+1,h=>by simp only [sizeL];rw [h n (by omega),sizeL_congr n fun i hi=>h i (by omega)]
theorem val_bare {x:Nat->Int}(m:Nat):val x (sizeL x m)=val x m:=by
 have h1:=val_more (sizeL_zero m fun i hi=>segW_zero x 0 m i hi) m (sizeL_le _ m)
 have h2:sizeL (segW x 0 m) m=sizeL x m:=sizeL_congr m fun i hi=>by rw [segW_lt x 0 m i hi,Nat.zero_add]
 rw [h2] at h1
 have hle:=sizeL_le x m
 rw [val_congr (x:=segW x 0 m) (y:=x) m fun i hi=>by rw [segW_lt x 0 m i hi,Nat.zero_add],val_congr (x:=segW x 0 m) (y:=x) (sizeL x m) fun i hi=>by rw [segW_lt x 0 m i (by omega),Nat.zero_add]] at h1
 exact h1.symm
def sgn (a b:Int):Int:=if a<b then -1 else if b<a then 1 else 0
theorem sgn_add (a b t:Int):sgn (a+t) (b+t)=sgn a b:=by
 unfold sgn
 by_cases h:a<b
 ·rw [if_pos h,if_pos (by omega)]
 ·rw [if_neg h,if_neg (by omega)]
  by_cases h':b<a
  ·rw [if_pos h',if_pos (by omega)]
  ·rw [if_neg h',if_neg (by omega)]
theorem drw2 (w:World)(m a b:Nat):∃ k,w.drewN k=((w.drewN m).drewN a).drewN b:=⟨m+a+b,by simp [World.drewN,Nat.add_assoc]⟩
theorem compare_u64 (a b:Int)(w:World):CQ 120 #[.int .u64 a,.int .u64 b] w (.int .i64 (sgn a b)):=by
 have hN:∀ (a:Int),CQ 174 #[.int .u64 a] w (.bool false):=by
  intro a
  go_enter Tryz.func174,Tryz.ntmps174
  go_wp2
  go_ret
  exact ⟨rfl,rfl⟩
 have ha:=hN a
 have hb:=hN b
 clear hN
 by_cases h1:a<b
 ·have HS:Hid (sgn a b=-1):=by show _=_;unfold sgn;rw [if_pos h1]
  go_enter Tryz.func120,Tryz.ntmps120
  go_wp2_with (go_at_call 174;first|(refine ha.mono ?_;rintro e w' ⟨rfl,rfl⟩)|(refine hb.mono ?_;rintro e w' ⟨rfl,rfl⟩))
  go_ret
  exact ⟨ret_int HS.out.symm,rfl⟩
 ·by_cases h2:b<a
  ·have HS:Hid (sgn a b=1):=by show _=_;unfold sgn;rw [if_neg h1,if_pos h2]
   go_enter Tryz.func120,Tryz.ntmps120
   go_wp2_with (go_at_call 174;first|(refine ha.mono ?_;rintro e w' ⟨rfl,rfl⟩)|(refine hb.mono ?_;rintro e w' ⟨rfl,rfl⟩))
   go_ret
   exact ⟨ret_int HS.out.symm,rfl⟩
  ·have HS:Hid (sgn a b=0):=by show _=_;unfold sgn;rw [if_neg h1,if_neg h2]
   go_enter Tryz.func120,Tryz.ntmps120
   go_wp2_with (go_at_call 174;first|(refine ha.mono ?_;rintro e w' ⟨rfl,rfl⟩)|(refine hb.mono ?_;rintro e w' ⟨rfl,rfl⟩))
   go_ret
   exact ⟨ret_int HS.out.symm,rfl⟩
theorem compare_int (a b:Int)(w:World):CQ 119 #[.int .i64 a,.int .i64 b] w (.int .i64 (sgn a b)):=by
 have hN:∀ (a:Int),CQ 173 #[.int .i64 a] w (.bool false):=by
  intro a
  go_enter Tryz.func173,Tryz.ntmps173
  go_wp2
  go_ret
  exact ⟨rfl,rfl⟩
 have ha:=hN a
 have hb:=hN b
 clear hN
 by_cases h1:a<b
 ·have HS:Hid (sgn a b=-1):=by show _=_;unfold sgn;rw [if_pos h1]
  go_enter Tryz.func119,Tryz.ntmps119
  go_wp2_with (go_at_call 173;first|(refine ha.mono ?_;rintro e w' ⟨rfl,rfl⟩)|(refine hb.mono ?_;rintro e w' ⟨rfl,rfl⟩))
  go_ret
  exact ⟨ret_int HS.out.symm,rfl⟩
 ·by_cases h2:b<a
  ·have HS:Hid (sgn a b=1):=by show _=_;unfold sgn;rw [if_neg h1,if_pos h2]
   go_enter Tryz.func119,Tryz.ntmps119
   go_wp2_with (go_at_call 173;first|(refine ha.mono ?_;rintro e w' ⟨rfl,rfl⟩)|(refine hb.mono ?_;rintro e w' ⟨rfl,rfl⟩))
   go_ret
   exact ⟨ret_int HS.out.symm,rfl⟩
  ·have HS:Hid (sgn a b=0):=by show _=_;unfold sgn;rw [if_neg h1,if_neg h2]
   go_enter Tryz.func119,Tryz.ntmps119
   go_wp2_with (go_at_call 173;first|(refine ha.mono ?_;rintro e w' ⟨rfl,rfl⟩)|(refine hb.mono ?_;rintro e w' ⟨rfl,rfl⟩))
   go_ret
   exact ⟨ret_int HS.out.symm,rfl⟩
theorem cmpL_val {x y:Nat->Int}(hx:Words x)(hy:Words y):∀ n,cmpL x y n=sgn (val x n) (val y n)
 | 0=>by simp [cmpL,sgn,val]
 | n+1=>by
  have hxb:=val_bd hx n
  have hyb:=val_bd hy n
  have ih:=cmpL_val hx hy n
  have hp:=pw_pos n
  have e1:val x (n+1)=val x n+x n*18446744073709551616^n:=rfl
  have e2:val y (n+1)=val y n+y n*18446744073709551616^n:=rfl
  rw [e1,e2]
  simp only [cmpL]
  generalize (18446744073709551616:Int)^n=P at *
  by_cases h1:x n<y n
  ·rw [if_pos h1]
   have:(x n+1)*P<=y n*P:=Int.mul_le_mul_of_nonneg_right (by omega) (by omega)
   rw [Int.add_mul,Int.one_mul] at this
   unfold sgn;rw [if_pos (by omega)]
  ·rw [if_neg h1]
   by_cases h2:y n<x n
   ·rw [if_pos h2]
    have:(y n+1)*P<=x n*P:=Int.mul_le_mul_of_nonneg_right (by omega) (by omega)
    rw [Int.add_mul,Int.one_mul] at this
    unfold sgn;rw [if_neg (by omega),if_pos (by omega)]
   ·have e:x n=y n:=by omega
    rw [if_neg h2,ih,e,sgn_add]
theorem val_longer {x y:Nat->Int}(hx:Words x)(hy:Words y){n m:Nat}(h:n<m)(hm:sizeL y m=m):val x n<val y m:=by
 obtain ⟨k,rfl⟩:∃ k,m=k+1:=⟨m-1,by omega⟩
 have hne:y k≠0:=by
  intro e
  have:sizeL y (k+1)=sizeL y k:=by simp [sizeL,e]
  have:=sizeL_le y k
  omega
 have h1:=(val_bd hx n).2
 have h2:=(val_bd hy k).1
 have h3:=pw_pos k
 have h4:=hy k
 have h5:(18446744073709551616:Int)^n<=18446744073709551616^k:=by
  obtain ⟨q,rfl⟩:∃ q,k=n+q:=⟨k-n,by omega⟩
  rw [Int.pow_add]
  have:=pw_pos n
  have:=pw_pos q
  have:(18446744073709551616:Int)^n*1<=18446744073709551616^n*18446744073709551616^q:=Int.mul_le_mul_of_nonneg_left (by omega) (by omega)
  omega
 show _<val y k+y k*18446744073709551616^k
 have:1*18446744073709551616^k<=y k*18446744073709551616^k:=Int.mul_le_mul_of_nonneg_right (by omega) (by omega)
 omega
theorem ncmp_any (a a':Option Addr)(n c n' c':Nat)(x y:Nat->Int)(w:World)(hn:n<4294967296)(hn':n'<4294967296)(h:Num w a n c x)(h':Num w a' n' c' y) :
  Calls Tryz.prog 64 #[.slice a n c,.slice a' n' c'] w fun e w'=>e=.returned (.int .i64 (sgn (val x n) (val y n')))/\∃ m,w.drewN m=w':=by
 have hb:=bare_any a n c x w hn h
 have hb':=bare_any a' n' c' y w hn' h'
 rw [← val_bare n,← val_bare n']
 have hx:=h.2.2.1
 have hy:=h'.2.2.1
 have h1:=sizeL_sizeL x n
 have h1':=sizeL_sizeL y n'
 have hle:=sizeL_le x n
 have hle':=sizeL_le y n'
 have hN:=h.bare
 have hN':=h'.bare
 generalize sizeL x n=s at *
 generalize sizeL y n'=s' at *
 have HV:Hid (∀ k,cmpL x y k=sgn (val x k) (val y k)):=cmpL_val hx hy
 have HL1:Hid (s<s'->sgn (val x s) (val y s')=sgn s s'):=fun hlt=>by
  have:=val_longer hx hy hlt h1'
  unfold sgn;rw [if_pos this,if_pos (by omega)]
 have HL2:Hid (s'<s->sgn (val x s) (val y s')=sgn s s'):=fun hlt=>by
  have:=val_longer hy hx hlt h1
  unfold sgn;rw [if_neg (by omega),if_pos this,if_neg (by omega),if_pos (by omega)]
 clear h h' h1 h1' hx hy
 by_cases e:s=s'
 ·subst e
  have hc:∀ i,i<s->∃ b off,a=some ⟨b,off,none⟩/\w.cell? ⟨b,off+i,none⟩=some (.int .u64 (x i)):=by
   intro i hi
   have h5:=hN.2.2.2.2
   rcases h5 with ⟨_,h⟩|⟨b,off,h,_,hc⟩
   ·have:=hN.1;omega
   ·exact ⟨b,off,h,hc i hi⟩
  have hc':∀ i,i<s->∃ b off,a'=some ⟨b,off,none⟩/\w.cell? ⟨b,off+i,none⟩=some (.int .u64 (y i)):=by
   intro i hi
   have h5:=hN'.2.2.2.2
   rcases h5 with ⟨_,h⟩|⟨b,off,h,_,hc⟩
   ·have:=hN'.1;omega
   ·exact ⟨b,off,h,hc i hi⟩
  clear hN hN' HL1 HL2
  go_enter Tryz.func64,Tryz.ntmps64
  go_wp2_with (first|(go_at_call_of 83 (Value.slice a n c);refine hb.mono ?_;rintro e w' ⟨rfl,rfl⟩)|(go_at_call_of 83 (Value.slice a' n' c');refine hb'.mono ?_;rintro e w' ⟨rfl,rfl⟩))
  go_loopw [7] (fun t wr=>∃ k m:Nat,k<=s/\cmpL x y k=cmpL x y s/\t=.int .i64 ((k:Int)-1)/\w.drewN m=wr) (fun t _=>(intOf t+1).toNat)
  case atStart=>exact ⟨s,0,Nat.le_refl _,rfl,by go_num,rfl⟩
  case round =>
   obtain ⟨k,m,hk,hs,rfl,rfl⟩:=hrel
   by_cases h0:k=0
   ·subst h0
    have HS:Hid (sgn (val x s) (val y s)=0):=by show _=_;rw [← HV.out,← hs];rfl
    clear hs hc hc'
    go_wp2
    go_ret
    exact ⟨ret_int HS.out.symm,_,rfl⟩
   ·obtain ⟨j,rfl⟩:∃ j,k=j+1:=⟨k-1,by omega⟩
    have ej:((j+1:Nat):Int)-1=j:=by omega
    have hjs:(j:Int)<s:=by omega
    rw [ej]
    obtain ⟨b,off,rfl,hcj⟩:=hc j (by omega)
    obtain ⟨b',off',rfl,hcj'⟩:=hc' j (by omega)
    have hs':(if x j<y j then -1 else if y j<x j then 1 else cmpL x y j)=cmpL x y s:=hs
    have hcmp:=compare_u64 (x j) (y j)
    by_cases he:x j=y j
    ·have HR:Hid (cmpL x y j=cmpL x y s):=by rw [← hs',if_neg (by omega),if_neg (by omega)];rfl
     have hne:(x j != y j)=false:=by simp [he]
     rw [he] at hcj
     clear hs hs' hc hc' hcmp
     go_wp2
     go_quiet (fail)
     go_wp2
     go_roundw
     case rel=>exact ⟨j,m+nq,by omega,HR.out,by go_num,rfl⟩
     case measure=>simp [intOf]
    ·have HR:Hid (sgn (val x s) (val y s)=sgn (x j) (y j)):=by
      show _=_
      rw [← HV.out,← hs']
      unfold sgn
      by_cases h1:x j<y j
      ·rw [if_pos h1,if_pos h1]
      ·rw [if_neg h1,if_neg h1,if_pos (by omega),if_pos (by omega)]
     have hne:(x j != y j)=true:=by simp [he]
     clear hs hs' hc hc'
     go_wp2
     go_quiet (fail)
     go_wp2
     go_quiet ((go_at_call 120;exact (hcmp _).mono fun _ _ h=>⟨h.1,_,h.2.symm⟩))
     go_wp2
     go_ret
     exact ⟨ret_int HR.out.symm,drw2 _ _ _ _⟩
 ·have hne:((s:Int) != s')=true:=by simp;omega
  have hcmp:=compare_int s s' w
  have HR:Hid (sgn (val x s) (val y s')=sgn s s'):=by
   rcases Nat.lt_or_gt_of_ne e with h|h
   ·exact HL1.out h
   ·exact HL2.out h
  clear HL1 HL2 hN hN'
  go_enter Tryz.func64,Tryz.ntmps64
  go_wp2_with (first|(first|(go_at_call_of 83 (Value.slice a n c);refine hb.mono ?_;rintro e w' ⟨rfl,rfl⟩)|(go_at_call_of 83 (Value.slice a' n' c');refine hb'.mono ?_;rintro e w' ⟨rfl,rfl⟩))|(go_at_call 119;refine hcmp.mono ?_;rintro e w' ⟨rfl,rfl⟩))
  go_ret
  exact ⟨ret_int HR.out.symm,0,rfl⟩
theorem rcmp_any (a a':Option Addr)(n c n' c':Nat)(x y:Nat->Int)(w:World)(hn:n<4294967296)(hn':n'<4294967296)(h:Num w a n c x)(h':Num w a' n' c' y) :
  CQ 73 #[.slice a n c,.slice a' n' c'] w (.int .i64 (sgn (val x n) (val y n'))):=by
 refine (cmp_any a a' n c n' c' x y w hn hn' h h').mono fun e w' hw=>⟨?_,hw.2.symm⟩
 rw [hw.1,cmpL_val h.2.2.1 h'.2.2.1,val_more h.2.2.2.1 _ (Nat.le_max_left n n'),val_more h'.2.2.2.1 _ (Nat.le_max_right n n')]
theorem size_num (a:Option Addr)(n c:Nat)(x:Nat->Int)(w:World)(hn:n<4294967296)(h:Num w a n c x) :
  CQ 76 #[.slice a n c] w (.int .i64 (sizeL x n)):=by
 have h':=h
 obtain ⟨h1,h2,h3,h4,h5⟩:=h'
 rcases h5 with ⟨rfl,rfl⟩|⟨b,off,rfl,hb,hc⟩
 ·obtain rfl:n=0:=by omega
  exact (size_nil w).mono fun e w' hw=>⟨hw.1,hw.2.symm⟩
 ·exact (size_any b off n c x w (by omega) hc).mono fun e w' hw=>⟨hw.1,hw.2.symm⟩
def addZ (x y:Nat->Int)(off k j:Nat):Int:=if off<=j/\j<off+k then sumW (fun i=>x (off+i)) y (j-off) else x j
theorem addZ_next (x y:Nat->Int)(off k j:Nat):(if j=off+k then sumW (fun i=>x (off+i)) y k else addZ x y off k j)=addZ x y off (k+1) j:=by
 unfold addZ
 by_cases e:j=off+k
 ·subst e
  rw [if_pos rfl,if_pos (by omega)];congr 1;omega
 ·rw [if_neg e]
  by_cases e2:off<=j/\j<off+k
  ·rw [if_pos e2,if_pos (by omega)]
  ·rw [if_neg e2,if_neg (by omega)]
theorem addZ_at (x y:Nat->Int)(off k:Nat):addZ x y off k (off+k)=x (off+k):=by unfold addZ;rw [if_neg (by omega)]
theorem Num.cells {w:World}{a:Option Addr}{n c:Nat}{x:Nat->Int}(h:Num w a n c x)(hn:0<n):∃ b off,a=some ⟨b,off,none⟩/\b<w.heap.size/\∀ i,i<n->w.cell? ⟨b,off+i,none⟩=some (.int .u64 (x i)):=by
 rcases h.2.2.2.2 with ⟨_,h'⟩|⟨b,off,h',hb,hc⟩
 ·have:=h.1;omega
 ·exact ⟨b,off,h',hb,hc⟩
theorem addInto_any (g N off m c k c':Nat)(a':Option Addr)(x y:Nat->Int)(w:World)(hm:off+m<=N)(hN:N<4294967296)(hk:k<=m)(hx:Words x)(h:Own g N x w)(h':Num w a' k c' y)(hA:Apart a' g) :
  Calls Tryz.prog 194 #[.slice (some ⟨g,off,none⟩) m c,.slice a' k c'] w fun e w'=>e=.returned (.int .u64 (carryW (fun i=>x (off+i)) y k))/\Own g N (addZ x y off k) w'/\Upd g w w':=by
 have hy:=h'.2.2.1
 have hX:Words (fun i=>x (off+i)):=fun i=>hx (off+i)
 have HX:Hid (Words (fun i=>x (off+i))):=hX
 go_enter Tryz.func194,Tryz.ntmps194
 go_wp2
 go_loopw [5,6,7,10,15] (fun cv u6 u7 i u15 wr=>∃ (j:Nat),j<=k/\i=.int .i64 j/\cv=.int .u64 (carryW (fun i=>x (off+i)) y j)/\Own g N (addZ x y off j) wr/\Upd g w wr) (fun _ _ _ i _ _=>k-(intOf i).toNat)
 case atStart=>exact ⟨0,Nat.zero_le _,rfl,rfl,h.congr fun i _=>by unfold addZ;rw [if_neg (by omega)],Upd.refl _ _⟩
 case round =>
  obtain ⟨j,hj,rfl,rfl,hO,hU⟩:=hrel
  have hcar:=carryW_01 HX.out hy j
  by_cases hlt:j<k
  ·have hji:(j:Int)<k:=by omega
   have hjm:(j:Int)<m:=by omega
   obtain ⟨b,off',rfl,hb,hc⟩:=(hU.num' hA h').cells (by omega)
   have hcj:=hc j hlt
   have hco:=hO.cell (off+j) (by omega)
   rw [addZ_at] at hco
   have hfo:=hO.frozen (off+j)
   have bx:=hx (off+j)
   have b_y:=hy j
   have hadd:=fun w=>add64 (x (off+j)) (y j) (carryW (fun i=>x (off+i)) y j) bx.1 b_y.1 hcar.1 hcar.2 w
   have HO:Hid (Own g N (addZ x y off (j+1)) (wr.setCell ⟨g,off+j,none⟩ (.int .u64 (sumW (fun i=>x (off+i)) y j)))):=(hO.set (off+j) _).congr fun i _=>addZ_next x y off j i
   have HU:Hid (Upd g w (wr.setCell ⟨g,off+j,none⟩ (.int .u64 (sumW (fun i=>x (off+i)) y j)))):=hU.set (off+j) _
   clear hO hU hc h h' hA hx hy hX
   go_wp2
   go_roundw
   case rel=>exact ⟨j+1,by omega,by go_num,rfl,HO.out,HU.out⟩
   case measure=>simp [intOf];omega
  ·obtain rfl:j=k:=by omega
   have HO:Hid (Own g N (addZ x y off j) wr):=hO
   have HU:Hid (Upd g w wr):=hU
   clear hO hU h h' hA hx hy hX
   go_wp2
   go_ret
   exact ⟨rfl,HO.out,HU.out⟩
theorem carryW_stop {x y:Nat->Int}(hx:Words x){k:Nat}(zy:∀ i,k<=i->y i=0){i:Nat}(hi:k<=i)(h0:carryW x y i=0):∀ j,i<=j->carryW x y j=0/\sumW x y j=x j:=by
  have h1:∀ j,i<=j->carryW x y j=0:=by
    intro j hj
    induction j with
    | zero => obtain rfl : i = 0 := by omega
              exact h0
    | succ j ih =>
      by_cases e:i=j+1
      · rw [← e];exact h0
      · have hb:=hx j
        simp only [carryW];rw [ih (by omega),zy j (by omega)];omega
  intro j hj
  refine ⟨h1 j hj,?_⟩
  have hb:=hx j
  unfold sumW
  rw [h1 j hj,zy j (by omega)];omega
theorem carryInto_any (g N k c:Nat)(x y:Nat->Int)(w:World)(hk:k<=N)(hN:N<4294967296)(hx:Words x)(hy:Words y)(zy:∀ i,k<=i->y i=0)(hend:carryW x y N=0)(h:Own g N (addZ x y 0 k) w) :
  Calls Tryz.prog 193 #[.slice (some ⟨g,k,none⟩) (N-k) c,.int .u64 (carryW x y k)] w fun e w'=>e=.returned (.tuple #[])/\Own g N (sumW x y) w'/\Upd g w w':=by
 have e0:(fun i=>x (0+i))=x:=by funext i;rw [Nat.zero_add]
 go_enter Tryz.func193,Tryz.ntmps193
 go_wp2
 go_loopw [1,4,9] (fun cv i u9 wr=>∃ (j:Nat),k+j<=N/\i=.int .i64 j/\cv=.int .u64 (carryW x y (k+j))/\Own g N (addZ x y 0 (k+j)) wr/\Upd g w wr) (fun _ i _ _=>N-(intOf i).toNat)
 case atStart=>exact ⟨0,by omega,rfl,rfl,h,Upd.refl _ _⟩
 case round =>
  obtain ⟨j,hj,rfl,rfl,hO,hU⟩:=hrel
  have hcar:=carryW_01 hx hy (k+j)
  by_cases hc0:carryW x y (k+j)=0
  ·have HO:Hid (Own g N (sumW x y) wr):=hO.congr fun i hi=>by
    unfold addZ
    by_cases e:0<=i/\i<0+(k+j)
    ·rw [if_pos e,e0];rfl
    ·rw [if_neg e];exact ((carryW_stop hx zy (by omega) hc0 i (by omega)).2).symm
   have HU:Hid (Upd g w wr):=hU
   rw [hc0]
   clear hO hU h hend hcar e0
   go_wp2
   go_end0
   exact ⟨rfl,HO.out,HU.out⟩
  ·have hlt:k+j<N:=by
    rcases Nat.lt_or_ge (k+j) N with h'|h'
    ·exact h'
    ·obtain e:k+j=N:=by omega
     rw [e] at hc0;exact absurd hend hc0
   have hpos:0<carryW x y (k+j):=by omega
   have hji:(j:Int)<((N-k:Nat):Int):=by omega
   have hco:=hO.cell (k+j) hlt
   have e1:addZ x y 0 (k+j) (k+j)=x (k+j):=by have:=addZ_at x y 0 (k+j);simpa using this
   rw [e1] at hco
   have hfo:=hO.frozen (k+j)
   have bx:=hx (k+j)
   have hs:sumW x y (k+j)=(x (k+j)+carryW x y (k+j))%18446744073709551616:=by unfold sumW;rw [zy _ (by omega),Int.add_zero]
   have hcn:carryW x y (k+(j+1))=(x (k+j)+carryW x y (k+j))/18446744073709551616:=by
    show (x (k+j)+y (k+j)+carryW x y (k+j))/18446744073709551616=_
    rw [zy _ (by omega),Int.add_zero]
   have hadd:=fun w=>add64 (x (k+j)) 0 (carryW x y (k+j)) bx.1 (by decide) hcar.1 hcar.2 w
   have HO:Hid (Own g N (addZ x y 0 (k+(j+1))) (wr.setCell ⟨g,k+j,none⟩ (.int .u64 (sumW x y (k+j))))):=(hO.set (k+j) _).congr fun i _=>by
    have:=addZ_next x y 0 (k+j) i
    rw [e0,Nat.zero_add] at this
    exact this
   have HU:Hid (Upd g w (wr.setCell ⟨g,k+j,none⟩ (.int .u64 (sumW x y (k+j))))):=hU.set (k+j) _
   have HC:Hid (carryW x y (k+(j+1))=(x (k+j)+carryW x y (k+j))/18446744073709551616):=hcn
   rw [hs] at HO HU
   clear hO hU h hend hx hy zy hc0 e1 hs hcn e0
   go_wp2
   go_roundw
   case rel=>exact ⟨j+1,by omega,by go_num,by rw [HC.out],HO.out,HU.out⟩
   case measure=>simp [intOf];omega
theorem sum_end {x y:Nat->Int}{s s' N:Nat}(hx:Words x)(hy:Words y)(zx:∀ i,s<=i->x i=0)(zy:∀ i,s'<=i->y i=0)(h:s<N)(h':s'<N):carryW x y N=0:=by
 obtain ⟨q,rfl⟩:∃ q,N=q+1:=⟨N-1,by omega⟩
 have:=carryW_01 hx hy q
 simp only [carryW];rw [zx q (by omega),zy q (by omega)];omega
theorem sum_num {x y:Nat->Int}{g N s s':Nat}{w:World}(hx:Words x)(hy:Words y)(zx:∀ i,s<=i->x i=0)(zy:∀ i,s'<=i->y i=0)(h:s<N)(h':s'<N)(hN:N<4294967296)(hO:Own g N (sumW x y) w) :
  Num w (some ⟨g,0,none⟩) N N (segW (sumW x y) 0 N)/\val (segW (sumW x y) 0 N) N=val x s+val y s':=by
 refine ⟨hO.num (sumW_words x y) 0 N N (by omega) (Nat.le_refl _) (by unfold maxLen;omega),?_⟩
 rw [val_congr (x:=segW (sumW x y) 0 N) (y:=sumW x y) N fun i hi=>by rw [segW_lt _ 0 N i hi,Nat.zero_add]]
 have e:=sum_val (x:=x) (y:=y) N
 rw [sum_end hx hy zx zy h h',val_more zx N (by omega),val_more zy N (by omega)] at e
 omega
theorem nadd_any (a a':Option Addr)(n c n' c':Nat)(x y:Nat->Int)(w:World)(hn:n<4000000000)(hn':n'<4000000000)(h:Num w a n c x)(h':Num w a' n' c' y) :
  Calls Tryz.prog 169 #[.slice a n c,.slice a' n' c'] w fun e w'=>∃ g k cap z,e=.returned (.slice (some ⟨g,0,none⟩) k cap)/\k<=max (sizeL x n) (sizeL y n')+1/\Num w' (some ⟨g,0,none⟩) k cap z/\val z k=val x n+val y n'/\sizeL z k=k/\Below w.heap.size w w':=by
 have hb:=bare_any a n c x w (by omega) h
 have hb':=bare_any a' n' c' y w (by omega) h'
 rw [← val_bare n,← val_bare n']
 have hx:=h.2.2.1
 have hy:=h'.2.2.1
 have hle:=sizeL_le x n
 have hle':=sizeL_le y n'
 have hN:=h.bare
 have hN':=h'.bare
 generalize sizeL x n=s at *
 generalize sizeL y n'=s' at *
 clear h h'
 by_cases hlt:s<s'
 ·have hlt':(s:Int)<s':=by omega
  obtain ⟨N,hNs⟩:∃ N,s'+1=N:=⟨_,rfl⟩
  have hNi:(s':Int)+1=N:=by omega
  have hmk:=fun w=>make_any ((s':Int)+1) N hNi (by omega) w
  have hcp:=fun ty=>copy_num (N:=N) (C:=N) ty hN' (by omega)
  have hO:=Own.new w y N
  have hA:Apart a w.heap.size:=by
   intro p hp
   rcases hN.2.2.2.2 with ⟨h,_⟩|⟨b,off,h,hb,_⟩
   ·rw [h] at hp;cases hp
   ·rw [h] at hp;cases hp;exact Nat.ne_of_lt hb
  have hnS:=hN.next (below1 w (.cells (arrOf y N) 22))
  have hai:=fun wr hO hn=>addInto_any w.heap.size N 0 N N s c a y x wr (by omega) (by omega) (by omega) hy hO hn hA
  rw [show (fun i=>y (0+i))=y by funext i;rw [Nat.zero_add]] at hai
  have hci:=fun wr hO=>carryInto_any w.heap.size N s (N-s) y x wr (by omega) (by omega) hy hx hN.2.2.2.1 (sum_end hy hx hN'.2.2.2.1 hN.2.2.2.1 (by omega) (by omega)) hO
  have HSN:Hid (∀ w2,Own w.heap.size N (sumW y x) w2->Num w2 (some ⟨w.heap.size,0,none⟩) N N (segW (sumW y x) 0 N)/\val (segW (sumW y x) 0 N) N=val y s'+val x s):=fun w2 h2=>sum_num hy hx hN'.2.2.2.1 hN.2.2.2.1 (by omega) (by omega) (by omega) h2
  have HBW:Hid (Below w.heap.size w (w.alloc (.cells (arrOf y N) 22))):=below1 w _
  have hsN:(s:Int)<=N:=by omega
  clear hN hN' hNi hA hx hy
  go_enter Tryz.func169,Tryz.ntmps169
  go_wp2_with (first|(go_at_call_of 83 (Value.slice a n c);refine hb.mono ?_;rintro e w' ⟨rfl,rfl⟩)|(go_at_call_of 83 (Value.slice a' n' c');refine hb'.mono ?_;rintro e w' ⟨rfl,rfl⟩))
  generalize w.alloc (.cells (arrOf y N) 22)=wA at *
  go_region_with (first|(go_at_call 194;refine (hai wA.drew hO hnS).mono ?_;rintro e w1 ⟨rfl,hO1,hU1⟩)|(go_at_call 193;refine (hci _ hO1).mono ?_;rintro e w2 ⟨rfl,hO2,hU2⟩))
  have hsn:=HSN.out w2 hO2
  have hbr:=bare_any (some ⟨w.heap.size,0,none⟩) N N (segW (sumW y x) 0 N) w2 (by omega) hsn.1
  have HN2:Hid (Num w2 (some ⟨w.heap.size,0,none⟩) (sizeL (segW (sumW y x) 0 N) N) N (segW (sumW y x) 0 N)):=hsn.1.bare
  have HV2:Hid (val (segW (sumW y x) 0 N) (sizeL (segW (sumW y x) 0 N) N)=val y s'+val x s):=by show _=_;rw [val_bare,hsn.2]
  have HS2:Hid (sizeL (segW (sumW y x) 0 N) (sizeL (segW (sumW y x) 0 N) N)=sizeL (segW (sumW y x) 0 N) N):=sizeL_sizeL _ _
  have HLE:Hid (sizeL (segW (sumW y x) 0 N) N<=N):=sizeL_le _ _
  generalize segW (sumW y x) 0 N=z at *
  generalize sizeL z N=k at *
  have HB2:Hid (Below w.heap.size w w2):=(HBW.out.drew.trans (hU1.below (Nat.le_refl _))).trans (hU2.below (Nat.le_refl _))
  clear hsn hO1 hO2 hU1 hU2 hO hnS hai hci hb hb'
  go_wp2_with (go_at_call 83;refine hbr.mono ?_;rintro e w3 ⟨rfl,rfl⟩)
  go_ret
  exact ⟨_,k,N,z,rfl,by have:=HLE.out;omega,HN2.out,by rw [HV2.out];omega,HS2.out,HB2.out⟩
 ·have hlt':¬ (s:Int)<s':=by omega
  obtain ⟨N,hNs⟩:∃ N,s+1=N:=⟨_,rfl⟩
  have hNi:(s:Int)+1=N:=by omega
  have hmk:=fun w=>make_any ((s:Int)+1) N hNi (by omega) w
  have hcp:=fun ty=>copy_num (N:=N) (C:=N) ty hN (by omega)
  have hO:=Own.new w x N
  have hA:Apart a' w.heap.size:=by
   intro p hp
   rcases hN'.2.2.2.2 with ⟨h,_⟩|⟨b,off,h,hb,_⟩
   ·rw [h] at hp;cases hp
   ·rw [h] at hp;cases hp;exact Nat.ne_of_lt hb
  have hnS:=hN'.next (below1 w (.cells (arrOf x N) 22))
  have hai:=fun wr hO hn=>addInto_any w.heap.size N 0 N N s' c' a' x y wr (by omega) (by omega) (by omega) hx hO hn hA
  rw [show (fun i=>x (0+i))=x by funext i;rw [Nat.zero_add]] at hai
  have hci:=fun wr hO=>carryInto_any w.heap.size N s' (N-s') x y wr (by omega) (by omega) hx hy hN'.2.2.2.1 (sum_end hx hy hN.2.2.2.1 hN'.2.2.2.1 (by omega) (by omega)) hO
  have HSN:Hid (∀ w2,Own w.heap.size N (sumW x y) w2->Num w2 (some ⟨w.heap.size,0,none⟩) N N (segW (sumW x y) 0 N)/\val (segW (sumW x y) 0 N) N=val x s+val y s'):=fun w2 h2=>sum_num hx hy hN.2.2.2.1 hN'.2.2.2.1 (by omega) (by omega) (by omega) h2
  have HBW:Hid (Below w.heap.size w (w.alloc (.cells (arrOf x N) 22))):=below1 w _
  have hsN:(s':Int)<=N:=by omega
  clear hN hN' hNi hA hx hy
  go_enter Tryz.func169,Tryz.ntmps169
  go_wp2_with (first|(go_at_call_of 83 (Value.slice a n c);refine hb.mono ?_;rintro e w' ⟨rfl,rfl⟩)|(go_at_call_of 83 (Value.slice a' n' c');refine hb'.mono ?_;rintro e w' ⟨rfl,rfl⟩))
  generalize w.alloc (.cells (arrOf x N) 22)=wA at *
  go_region_with (first|(go_at_call 194;refine (hai wA.drew hO hnS).mono ?_;rintro e w1 ⟨rfl,hO1,hU1⟩)|(go_at_call 193;refine (hci _ hO1).mono ?_;rintro e w2 ⟨rfl,hO2,hU2⟩))
  have hsn:=HSN.out w2 hO2
  have hbr:=bare_any (some ⟨w.heap.size,0,none⟩) N N (segW (sumW x y) 0 N) w2 (by omega) hsn.1
  have HN2:Hid (Num w2 (some ⟨w.heap.size,0,none⟩) (sizeL (segW (sumW x y) 0 N) N) N (segW (sumW x y) 0 N)):=hsn.1.bare
  have HV2:Hid (val (segW (sumW x y) 0 N) (sizeL (segW (sumW x y) 0 N) N)=val x s+val y s'):=by show _=_;rw [val_bare,hsn.2]
  have HS2:Hid (sizeL (segW (sumW x y) 0 N) (sizeL (segW (sumW x y) 0 N) N)=sizeL (segW (sumW x y) 0 N) N):=sizeL_sizeL _ _
  have HLE:Hid (sizeL (segW (sumW x y) 0 N) N<=N):=sizeL_le _ _
  generalize segW (sumW x y) 0 N=z at *
  generalize sizeL z N=k at *
  have HB2:Hid (Below w.heap.size w w2):=(HBW.out.drew.trans (hU1.below (Nat.le_refl _))).trans (hU2.below (Nat.le_refl _))
  clear hsn hO1 hO2 hU1 hU2 hO hnS hai hci hb hb'
  go_wp2_with (go_at_call 83;refine hbr.mono ?_;rintro e w3 ⟨rfl,rfl⟩)
  go_ret
  exact ⟨_,k,N,z,rfl,by have:=HLE.out;omega,HN2.out,by rw [HV2.out],HS2.out,HB2.out⟩
theorem bor_val {x y b:Int}(hx:0<=x/\x<=18446744073709551615)(hy:0<=y/\y<=18446744073709551615)(hb:0<=b/\b<=1):(x-y-b)%18446744073709551616-bor x y b*18446744073709551616=x-y-b:=by
 unfold bor;split<;>omega
theorem dif_val {x y:Nat->Int}(hx:Words x)(hy:Words y):∀ n,val (difW x y) n-borW x y n*18446744073709551616^n=val x n-val y n
 | 0=>by simp [val,borW]
 | n+1=>by
  have ih:=dif_val hx hy n
  have h:=bor_val (hx n) (hy n) (borW_01 x y n)
  show val (difW x y) n+difW x y n*18446744073709551616^n-bor (x n) (y n) (borW x y n)*18446744073709551616^(n+1)=val x n+x n*18446744073709551616^n-(val y n+y n*18446744073709551616^n)
  have hd:difW x y n=(x n-y n-borW x y n)%18446744073709551616:=rfl
  rw [← hd] at h
  rw [Int.pow_succ]
  generalize (18446744073709551616:Int)^n=P at *
  grind
theorem borW_end {x y:Nat->Int}(hx:Words x)(hy:Words y){n:Nat}(h:val y n<=val x n):borW x y n=0:=by
 have e:=dif_val hx hy n
 have h1:=val_bd (difW_words x y) n
 have h2:=borW_01 x y n
 have h3:=pw_pos n
 by_cases h0:borW x y n=0
 ·exact h0
 ·have:borW x y n=1:=by omega
  rw [this] at e;omega
theorem nlen_any (a:Option Addr)(n c:Nat)(x:Nat->Int)(w:World)(hn:n<100000000)(h:Num w a n c x) :
  CQ 110 #[.slice a n c] w (.int .i64 (lenL x n)):=by
 have hb:=bare_any a n c x w (by omega) h
 have hle:=sizeL_le x n
 by_cases h0:sizeL x n=0
 ·have HL:Hid (lenL x n=0):=by show _=_;simp [lenL,h0]
  rw [h0] at hb
  clear h0 h
  go_enter Tryz.func110,Tryz.ntmps110
  go_wp2_with (go_at_call 83;refine hb.mono ?_;rintro e w' ⟨rfl,rfl⟩)
  go_ret
  exact ⟨ret_int HL.out.symm,rfl⟩
 ·obtain ⟨j,hj⟩:∃ j,sizeL x n=j+1:=⟨sizeL x n-1,by omega⟩
  have HL:Hid (lenL x n=64*(j:Int)+Lib.bitLen (x j).toNat):=by show _=_;simp [lenL,hj];omega
  obtain ⟨b,off,rfl,hbs,hc⟩:=h.cells (by omega)
  rw [hj] at hb
  have hcj:=hc j (by omega)
  have hbx:=h.2.2.1 j
  have hbl:=bitLen64 (x j).toNat
  have hj':j+1<=n:=by omega
  clear h0 hc hj hle h
  have hcl:=Tryz.bits_Len64 (x j) w hbx.1 hbx.2
  generalize Lib.bitLen (x j).toNat=L at *
  go_enter Tryz.func110,Tryz.ntmps110
  go_wp2_with (first|(go_at_call 83;refine hb.mono ?_;rintro e w' ⟨rfl,rfl⟩)|(go_at_call 134;refine hcl.mono ?_;rintro e w' ⟨rfl,rfl⟩))
  go_ret
  exact ⟨ret_int (by rw [HL.out];omega),rfl⟩
theorem rlen_nil (w:World):CQ 78 #[.slice none 0 0] w (.int .i64 0):=by
 have hs:=size_nil w
 go_enter Tryz.func78,Tryz.ntmps78
 go_wp2_with (go_at_call 76;refine hs.mono ?_;rintro e w' ⟨rfl,rfl⟩)
 go_ret
 exact ⟨rfl,rfl⟩
theorem rlen_num (a:Option Addr)(n c:Nat)(x:Nat->Int)(w:World)(hn:n<100000000)(h:Num w a n c x) :
  CQ 78 #[.slice a n c] w (.int .i64 (lenL x n)):=by
 have h':=h
 obtain ⟨h1,h2,h3,h4,h5⟩:=h'
 rcases h5 with ⟨rfl,rfl⟩|⟨b,off,rfl,hb,hc⟩
 ·obtain rfl:n=0:=by omega
  exact rlen_nil w
 ·exact (len_any b off n c x w hn h3 hc).mono fun e w' hw=>⟨hw.1,hw.2.symm⟩
theorem radd_val (a a':Option Addr)(n c n' c':Nat)(x y:Nat->Int)(w:World)(hn:n<4000000000)(hn':n'<4000000000)(h:Num w a n c x)(h':Num w a' n' c' y) :
  Calls Tryz.prog 27 #[.slice a n c,.slice a' n' c'] w fun e w'=>∃ g k cap z,e=.returned (.slice (some ⟨g,0,none⟩) k cap)/\k<=max n n'+1/\Num w' (some ⟨g,0,none⟩) k cap z/\val z k=val x n+val y n'/\Below w.heap.size w w':=by
 refine (radd_any a a' n c n' c' x y w (by omega) (by omega) h h').mono fun e w' ⟨g,k,cap,e1,hk,hN,hB⟩=>⟨g,k,cap,_,e1,hk,hN,?_,hB⟩
 have e:=sum_val (x:=x) (y:=y) (max n n'+1)
 rw [sum_end h.2.2.1 h'.2.2.1 h.2.2.2.1 h'.2.2.2.1 (by omega) (by omega),val_more h.2.2.2.1 _ (by omega),val_more h'.2.2.2.1 _ (by omega),val_more hN.2.2.2.1 _ hk] at e
 omega
theorem ncmp_b (a a':Option Addr)(n c n' c':Nat)(x y:Nat->Int)(w:World)(hn:n<4294967296)(hn':n'<4294967296)(h:Num w a n c x)(h':Num w a' n' c' y) :
  CB 64 #[.slice a n c,.slice a' n' c'] w (.int .i64 (sgn (val x n) (val y n'))) :=
 (ncmp_any a a' n c n' c' x y w hn hn' h h').mono fun e w' ⟨h1,m,hm⟩=>⟨h1,hm▸below_drewN (Below.refl _ _) m⟩
theorem num_none (w:World):Num w none 0 0 (fun _=>0):=⟨Nat.le_refl _,by unfold maxLen;omega,fun _=>(by decide:(0:Int)<=0/\(0:Int)<=18446744073709551615),fun _ _=>rfl,Or.inl ⟨rfl,rfl⟩⟩
theorem mulAdd_any (a n z C:Int)(w:World)(ha:0<=a/\a<=18446744073709551615)(hn:0<=n/\n<=18446744073709551615)(hz:0<=z/\z<=18446744073709551615)(hC:0<=C/\C<=18446744073709551615) :
  Calls Tryz.prog 166 #[.int .u64 a,.int .u64 n,.int .u64 z,.int .u64 C] w fun e w'=>∃ l h,e=.returned (.tuple #[.int .u64 l,.int .u64 h])/\l+h*18446744073709551616=a*n+z+C/\(0<=l/\l<=18446744073709551615)/\(0<=h/\h<=18446744073709551615)/\w=w':=by
 have hms:=mul_step a n z C ha hn hz hC
 have hmul:=mul64 a n ha hn w
 have hL0:0<=a*n%18446744073709551616:=Int.emod_nonneg _ (by decide)
 have hA1:=fun w=>add64z (a*n%18446744073709551616) z hL0 hz.1 w
 have hs0:0<=(a*n%18446744073709551616+z)%18446744073709551616:=Int.emod_nonneg _ (by decide)
 have hA2:=fun w=>add64z ((a*n%18446744073709551616+z)%18446744073709551616) C hs0 hC.1 w
 have ht0:0<=((a*n%18446744073709551616+z)%18446744073709551616+C)%18446744073709551616/\((a*n%18446744073709551616+z)%18446744073709551616+C)%18446744073709551616<=18446744073709551615:=by omega
 generalize ((a*n%18446744073709551616+z)%18446744073709551616+C)%18446744073709551616=t2 at *
 generalize ((a*n%18446744073709551616+z)%18446744073709551616+C)/18446744073709551616=f2 at *
 generalize (a*n%18446744073709551616+z)%18446744073709551616=t1 at *
 generalize (a*n%18446744073709551616+z)/18446744073709551616=f1 at *
 generalize a*n%18446744073709551616=lo at *
 generalize a*n/18446744073709551616=hi at *
 have HMS:Hid (t2+(hi+f1+f2)*18446744073709551616=a*n+z+C):=hms.1
 have hb1:0<=hi+f1:=hms.2.1
 have hb2:hi+f1<=18446744073709551615:=hms.2.2.1
 have hb3:0<=hi+f1+f2:=hms.2.2.2.1
 have hb4:hi+f1+f2<=18446744073709551615:=hms.2.2.2.2
 clear hms
 go_enter Tryz.func166,Tryz.ntmps166
 go_wp2_with (go_at_call 35;refine hmul.mono ?_;rintro e w' ⟨rfl,rfl⟩)
 go_ret2
 exact ⟨t2,hi+f1+f2,rfl,HMS.out,ht0,⟨hb3,hb4⟩,rfl⟩
theorem addProduct_any (g N off m c k c':Nat)(a':Option Addr)(x y:Nat->Int)(n:Int)(w:World)(hm:off+m<=N)(hN:N<4294967296)(hk:k<=m)(hx:Words x)(hn:0<=n/\n<=18446744073709551615)(h:Own g N x w)(h':Num w a' k c' y)(hA:Apart a' g) :
  Calls Tryz.prog 108 #[.slice (some ⟨g,off,none⟩) m c,.slice a' k c',.int .u64 n] w fun e w'=>∃ C z,e=.returned (.int .u64 C)/\(0<=C/\C<=18446744073709551615)/\Own g N z w'/\Words z/\val z N+C*18446744073709551616^(off+k)=val x N+n*val y k*18446744073709551616^off/\(∀ i,off+k<=i->z i=x i)/\Upd g w w':=by
 have hy:=h'.2.2.1
 go_enter Tryz.func108,Tryz.ntmps108
 go_wp2
 go_loopw [7,8,9,12,17] (fun cv u8 u9 i u17 wr=>∃ (j:Nat) (C:Int) (z:Nat->Int),j<=k/\i=.int .i64 j/\cv=.int .u64 C/\(0<=C/\C<=18446744073709551615)/\Own g N z wr/\Words z/\Hid (val z N+C*18446744073709551616^(off+j)=val x N+n*val y j*18446744073709551616^off)/\(∀ i,off+j<=i->z i=x i)/\Upd g w wr) (fun _ _ _ i _ _=>k-(intOf i).toNat)
 case atStart=>exact ⟨0,0,x,Nat.zero_le _,rfl,rfl,by decide,h,hx,by show _=_;simp [val],fun _ _=>rfl,Upd.refl _ _⟩
 case round =>
  obtain ⟨j,C,z,hj,rfl,rfl,hCb,hO,hzw,hv,hzx,hU⟩:=hrel
  by_cases hlt:j<k
  ·have hji:(j:Int)<k:=by omega
   have hjm:(j:Int)<m:=by omega
   obtain ⟨b,off',rfl,hb,hc⟩:=(hU.num' hA h').cells (by omega)
   have hcj:=hc j hlt
   have hco:=hO.cell (off+j) (by omega)
   have hfo:=hO.frozen (off+j)
   have hma:=fun w=>mulAdd_any (y j) n (z (off+j)) C w (hy j) hn (hzw (off+j)) hCb
   have HO:Hid (Own g N z wr):=hO
   have HU:Hid (Upd g w wr):=hU
   have HZW:Hid (Words z):=hzw
   have HZX:Hid (∀ i,off+j<=i->z i=x i):=hzx
   clear hO hU hc h h' hA hx hy hzw hzx
   go_wp2_with (go_at_call 166;refine (hma _).mono ?_;rintro e w1 ⟨l,hi,rfl,hlh,hlb,hhb,rfl⟩)
   go_roundw
   case rel =>
    refine ⟨j+1,hi,fun i=>if i=off+j then l else z i,by omega,by go_num,rfl,hhb,HO.out.set (off+j) l,upd_words HZW.out hlb,?_,?_,HU.out.set (off+j) _⟩
    ·show _=_
     rw [val_set z (off+j) l N (by omega)]
     exact mul_inner _ _ _ _ _ _ _ _ _ off j hv.out (by rw [hlh,Int.mul_comm (y j) n])
    ·intro i hi2
     exact (if_neg (show ¬ i=off+j by omega)).trans (HZX.out i (by omega))
   case measure=>simp [intOf];omega
  ·obtain rfl:j=k:=by omega
   have HO:Hid (Own g N z wr):=hO
   have HU:Hid (Upd g w wr):=hU
   have HZW:Hid (Words z):=hzw
   have HZX:Hid (∀ i,off+j<=i->z i=x i):=hzx
   clear hO hU h h' hA hx hy hzw hzx
   go_wp2
   go_ret
   exact ⟨C,z,rfl,hCb,HO.out,HZW.out,hv.out,HZX.out,HU.out⟩
theorem apart_of {w:World}{a:Option Addr}{n c:Nat}{x:Nat->Int}(h:Num w a n c x):Apart a w.heap.size:=by
 intro p hp
 rcases h.2.2.2.2 with ⟨h,_⟩|⟨b,off,h,hb,_⟩
 ·rw [h] at hp;cases hp
 ·rw [h] at hp;cases hp;exact Nat.ne_of_lt hb
theorem val_zero:∀ m,val (fun _=>0) m=0:=by intro m;induction m with|zero=>rfl|succ m ih=>simp only [val];rw [ih];simp
theorem nmul_any (a a':Option Addr)(n c n' c':Nat)(x y:Nat->Int)(w:World)(hn:n<4000000000)(hn':n'<4000000000)(h:Num w a n c x)(h':Num w a' n' c' y)(hs:sizeL x n+sizeL y n'<=2000) :
  Calls Tryz.prog 62 #[.slice a n c,.slice a' n' c'] w fun e w'=>∃ g k cap z,e=.returned (.tuple #[.slice (some ⟨g,0,none⟩) k cap,.int .i64 0])/\k<=sizeL x n+sizeL y n'/\Num w' (some ⟨g,0,none⟩) k cap z/\val z k=val x n*val y n'/\sizeL z k=k/\Below w.heap.size w w':=by
 have hb:=bare_any a n c x w (by omega) h
 have hb':=bare_any a' n' c' y w (by omega) h'
 rw [← val_bare n,← val_bare n']
 have hx:=h.2.2.1
 have hy:=h'.2.2.1
 have hle:=sizeL_le x n
 have hle':=sizeL_le y n'
 have hN:=h.bare
 have hN':=h'.bare
 generalize sizeL x n=s at *
 generalize sizeL y n'=s' at *
 clear h h'
 obtain ⟨N,hNs⟩:∃ N,s+s'=N:=⟨_,rfl⟩
 have hNi:(s:Int)+s'=N:=by omega
 have hmk:=fun w=>make_any ((s:Int)+s') N hNi (by omega) w
 have hN2:(s:Int)+s'<=2000:=by omega
 have HNS:Hid (s+s'=N):=hNs
 have hA:=apart_of hN
 have hA':=apart_of hN'
 have hO:=Own.new w (fun _=>0) N
 have hBW:=below1 w (.cells (arrOf (fun _=>0) N) 22)
 have hnx:=hN.next hBW
 have hny:=hN'.next hBW
 have hap:=fun wr z off hO hzw hU (hoff:off+s<=N) n hn=>addProduct_any w.heap.size N off (N-off) (N-off) s c a z x n wr (by omega) (by omega) (by omega) hzw hn hO (Upd.num' (w:=w.alloc (.cells (arrOf (fun _=>0) N) 22)) hU hA hnx) hA
 have HBW:Hid (Below w.heap.size w (w.alloc (.cells (arrOf (fun _=>0) N) 22))):=hBW
 clear hBW hN hN' hNi hNs
 go_enter Tryz.func62,Tryz.ntmps62
 go_wp2_with (first|(go_at_call_of 83 (Value.slice a n c);refine hb.mono ?_;rintro e w' ⟨rfl,rfl⟩)|(go_at_call_of 83 (Value.slice a' n' c');refine hb'.mono ?_;rintro e w' ⟨rfl,rfl⟩))
 generalize w.alloc (.cells (arrOf (fun _=>0) N) 22)=wA at *
 go_loopw [9,10,29] (fun u9 u10 i wr=>∃ (j:Nat) (z:Nat->Int),j<=s'/\i=.int .i64 j/\Own w.heap.size N z wr/\Words z/\(∀ q,s+j<=q->z q=0)/\Hid (val z N=val x s*val y j)/\Upd w.heap.size wA wr) (fun _ _ i _=>s'-(intOf i).toNat)
 case atStart=>exact ⟨0,fun _=>0,Nat.zero_le _,rfl,hO,fun _=>(by decide:(0:Int)<=0/\(0:Int)<=18446744073709551615),fun _ _=>rfl,by show _=_;rw [val_zero];simp [val],Upd.refl _ _⟩
 case round =>
  clear hO
  obtain ⟨j,z,hj,rfl,hO,hzw,hz0,hv,hU⟩:=hrel
  by_cases hlt:j<s'
  ·have hji:(j:Int)<s':=by omega
   obtain ⟨b,off',rfl,hbb,hc⟩:=(hU.num' hA' hny).cells (by omega)
   have hcj:=hc j hlt
   have hap1:=hap wr z j hO hzw hU (by have:=HNS.out;omega) (y j) (hy j)
   have hjN:(j:Int)<=N:=by have:=HNS.out;omega
   have hjs:(j:Int)+s<N:=by have:=HNS.out;omega
   have e1:((j:Int)+s).toNat=j+s:=by omega
   have HU:Hid (Upd w.heap.size wA wr):=hU
   have HZ0:Hid (∀ q,s+j<=q->z q=0):=hz0
   clear hO hU hc hzw hz0 hap hx hy hA hA' hnx hny
   go_wp2_with (go_at_call 108;refine hap1.mono ?_;rintro e w1 ⟨C,z1,rfl,hCb,hO1,hw1,hv1,hzx1,hU1⟩;have hc1:=hO1.cell (j+s) (by have:=HNS.out;omega);have hf1:=hO1.frozen (j+s))
   go_roundw
   case rel =>
    have e2:z1 (j+s)=0:=by rw [hzx1 (j+s) (Nat.le_refl _)];exact HZ0.out _ (by omega)
    refine ⟨j+1,fun i=>if i=j+s then C else z1 i,by omega,by go_num,hO1.set (j+s) C,upd_words hw1 hCb,?_,?_,(HU.out.trans hU1).set (j+s) _⟩
    ·intro q hq
     exact (if_neg (show ¬ q=j+s by omega)).trans ((hzx1 q (by omega)).trans (HZ0.out q (by omega)))
    ·show _=_
     rw [val_set z1 (j+s) C N (by have:=HNS.out;omega),e2,Int.sub_zero,hv1,hv.out]
     show _=val x s*(val y j+y j*18446744073709551616^j)
     generalize (18446744073709551616:Int)^j=P
     grind
   case measure=>simp [intOf];omega
  ·obtain rfl:j=s':=by omega
   have hN2':=hO.num hzw 0 N N (by omega) (Nat.le_refl _) (by unfold maxLen;have:=HNS.out;omega)
   have hbr:=bare_any (some ⟨w.heap.size,0,none⟩) N N (segW z 0 N) wr (by have:=HNS.out;omega) hN2'
   have HN2:Hid (Num wr (some ⟨w.heap.size,0,none⟩) (sizeL (segW z 0 N) N) N (segW z 0 N)):=hN2'.bare
   have HV2:Hid (val (segW z 0 N) (sizeL (segW z 0 N) N)=val x s*val y j):=by
    show _=_
    rw [val_bare,val_congr (x:=segW z 0 N) (y:=z) N fun i hi=>by rw [segW_lt _ 0 N i hi,Nat.zero_add],hv.out]
   have HS2:Hid (sizeL (segW z 0 N) (sizeL (segW z 0 N) N)=sizeL (segW z 0 N) N):=sizeL_sizeL _ _
   have HLE:Hid (sizeL (segW z 0 N) N<=N):=sizeL_le _ _
   generalize segW z 0 N=z2 at *
   generalize sizeL z2 N=k at *
   have HB2:Hid (Below w.heap.size w wr):=HBW.out.trans (hU.below (Nat.le_refl _))
   clear hO hU hN2' hx hy hzw hz0 hap hA hA' hnx hny
   go_wp2_with (go_at_call 83;refine hbr.mono ?_;rintro e w3 ⟨rfl,rfl⟩)
   go_ret2
   exact ⟨_,k,N,z2,rfl,by rw [HNS.out];exact HLE.out,HN2.out,HV2.out,HS2.out,HB2.out⟩
theorem wrap_mod (a:Int):IntKind.u64.wrap a=a%18446744073709551616:=by
 simp only [IntKind.wrap,IntKind.bits,IntKind.signed]
 simp
theorem p2_pos (n:Nat):(0:Int)<2^n:=Int.pow_pos (by decide)
theorem p2_split {r:Nat}(hr:r<=64):(2:Int)^(64-r)*2^r=18446744073709551616:=by
 rw [← Int.pow_add,show 64-r+r=64 by omega];rfl
def hiW (x:Int)(r:Nat):Int:=x*2^r/18446744073709551616
theorem hiW_eq (x:Int){r:Nat}(hr:r<=64):x/2^(64-r)=hiW x r:=by
 unfold hiW
 rw [← p2_split hr,Int.mul_ediv_mul_of_pos_left _ _ (p2_pos r)]
theorem hiW_bd {x:Int}(hx:0<=x/\x<=18446744073709551615)(r:Nat):0<=hiW x r/\hiW x r<2^r:=by
 have hp:=p2_pos r
 unfold hiW
 refine ⟨Int.ediv_nonneg (Int.mul_nonneg hx.1 (by omega)) (by decide),Int.ediv_lt_of_lt_mul (by decide) ?_⟩
 rw [Int.mul_comm (2^r)]
 exact Int.mul_lt_mul_of_pos_right (by omega) hp
theorem p2_le {r:Nat}(hr:r<64):(2:Int)^r<=9223372036854775808:=by
 have h:=p2_split (show r<=64 by omega)
 have h1:(2:Int)^(64-r)=2^(63-r)*2:=by rw [← Int.pow_succ];congr 1;omega
 have h2:=p2_pos (63-r)
 rw [h1] at h
 have:(1:Int)*(2*2^r)<=2^(63-r)*(2*2^r):=Int.mul_le_mul_of_nonneg_right (by omega) (by have:=p2_pos r;omega)
 rw [← Int.mul_assoc] at this
 have e:(2:Int)^(63-r)*(2*2^r)=18446744073709551616:=by rw [← Int.mul_assoc];exact h
 omega
theorem or_shl {y b:Int}{r:Nat}(hr:r<64)(hy:0<=y)(hb:0<=b/\b<2^r):orW b (IntKind.u64.wrap (y*2^r))=y*2^r%18446744073709551616+b:=by
 have hle:=p2_le hr
 have hp:=p2_pos r
 have hme:y*2^r%(2^(64-r)*2^r)=y%2^(64-r)*2^r:=by
  have:=Int.mul_emod_mul_of_pos y (2^(64-r)) hp
  rw [Int.mul_comm y,Int.mul_comm (2^(64-r)),this,Int.mul_comm]
 rw [orW_eq b _ (by omega) (wrap_word _),wrap_mod,← p2_split (show r<=64 by omega),hme]
 have hm0:=Int.emod_nonneg y (show (2:Int)^(64-r)≠0 by have:=p2_pos (64-r);omega)
 obtain ⟨u,hu⟩:=Int.eq_ofNat_of_zero_le hm0
 obtain ⟨b',rfl⟩:=Int.eq_ofNat_of_zero_le hb.1
 rw [hu]
 have e1:((u:Int)*2^r).toNat=2^r*u:=by
  have:((u:Int)*2^r)=((2^r*u:Nat):Int):=by rw [Int.natCast_mul,powCast,Int.mul_comm]
  rw [this];exact Int.toNat_natCast _
 have hb2:b'<2^r:=by
  have h:=hb.2
  rw [← powCast] at h;omega
 rw [e1,Int.toNat_natCast,Nat.or_comm,← Nat.two_pow_add_eq_or_of_lt hb2]
 rw [Int.natCast_add,Int.natCast_mul,powCast,Int.mul_comm]
def prevW (x:Nat->Int)(r i:Nat):Int:=if i=0 then 0 else hiW (x (i-1)) r
def shW (x:Nat->Int)(r i:Nat):Int:=x i*2^r%18446744073709551616+prevW x r i
theorem prevW_bd {x:Nat->Int}(hx:Words x)(r i:Nat):0<=prevW x r i/\prevW x r i<2^r:=by
 unfold prevW;split
 ·have:=p2_pos r;omega
 ·exact hiW_bd (hx _) r
theorem shW_or {x:Nat->Int}(hx:Words x){r:Nat}(hr:r<64)(i:Nat):orW (prevW x r i) (IntKind.u64.wrap (x i*2^r))=shW x r i:=or_shl hr (hx i).1 (prevW_bd hx r i)
theorem prevW_word {x:Nat->Int}(hx:Words x){r:Nat}(hr:r<64)(i:Nat):0<=prevW x r i/\prevW x r i<=18446744073709551615:=by
 have:=prevW_bd hx r i
 have:=p2_le hr
 omega
theorem shW_words {x:Nat->Int}(hx:Words x){r:Nat}(hr:r<64):Words (shW x r):=fun i=>by
 rw [← shW_or hx hr i];exact orW_word _ _ (prevW_word hx hr i) (wrap_word _)
theorem sh_val (x:Nat->Int)(r:Nat):∀ m,val (shW x r) m+prevW x r m*18446744073709551616^m=val x m*2^r
 | 0=>by simp [val,prevW]
 | m+1=>by
  have ih:=sh_val x r m
  show val (shW x r) m+shW x r m*18446744073709551616^m+prevW x r (m+1)*18446744073709551616^(m+1)=(val x m+x m*18446744073709551616^m)*2^r
  have e1:prevW x r (m+1)=x m*2^r/18446744073709551616:=rfl
  have e2:shW x r m=x m*2^r%18446744073709551616+prevW x r m:=rfl
  have e3:=Int.emod_add_mul_ediv (x m*2^r) 18446744073709551616
  rw [e1,e2,Int.pow_succ]
  generalize x m*2^r/18446744073709551616=K at *
  generalize x m*2^r%18446744073709551616=R at *
  generalize (18446744073709551616:Int)^m=P at *
  grind
theorem sh_end {x:Nat->Int}{n:Nat}(zx:∀ i,n<=i->x i=0)(r m:Nat)(h:n<m):val (shW x r) m=val x n*2^r:=by
 have e:=sh_val x r m
 have e1:prevW x r m=0:=by
  unfold prevW hiW;rw [if_neg (by omega),zx (m-1) (by omega)];simp
 rw [e1,val_more zx m (by omega)] at e
 omega
def upW (f:Nat->Int)(q j:Nat):Int:=if q<=j then f (j-q) else 0
theorem val_up (f:Nat->Int)(q:Nat):∀ m,val (upW f q) (q+m)=val f m*18446744073709551616^q
 | 0=>by
  have:∀ k,k<=q->val (upW f q) k=0:=by
   intro k
   induction k with
   | zero=>intro _;rfl
   | succ k ih =>
    intro hk
    show val (upW f q) k+upW f q k*18446744073709551616^k=0
    rw [ih (by omega)]
    unfold upW;rw [if_neg (by omega)];simp
  rw [Nat.add_zero,this q (Nat.le_refl _)];simp [val]
 | m+1=>by
  have ih:=val_up f q m
  show val (upW f q) (q+m)+upW f q (q+m)*18446744073709551616^(q+m)=(val f m+f m*18446744073709551616^m)*18446744073709551616^q
  rw [ih]
  have e:upW f q (q+m)=f m:=by unfold upW;rw [if_pos (by omega)];congr 1;omega
  rw [e,Int.pow_add]
  generalize (18446744073709551616:Int)^m=P
  generalize (18446744073709551616:Int)^q=Q
  grind
theorem finL_up {x:Nat->Int}(hx:Words x)(q:Nat){r:Nat}(hr:r<64):finL x q r=upW (shW x r) q:=by
 funext j
 unfold finL upW
 by_cases h:q<=j
 ·rw [if_pos h,if_pos h,← shW_or hx hr (j-q)]
  congr 1
  unfold lowp prevW
  by_cases h0:j-q=0
  ·rw [if_pos h0,if_neg (by omega)]
  ·rw [if_neg h0]
   by_cases hr0:0<r
   ·rw [if_pos (by omega),hiW_eq _ (by omega)]
   ·obtain rfl:r=0:=by omega
    rw [if_neg (by omega)]
    unfold hiW
    have:=hx (j-q-1)
    omega
 ·rw [if_neg h,if_neg h]
theorem p64 (q r:Nat):(2:Int)^r*18446744073709551616^q=2^(64*q+r):=by
 rw [Int.pow_add,Int.pow_mul,Int.mul_comm];rfl
theorem finL_val {x:Nat->Int}{n:Nat}(hx:Words x)(zx:∀ i,n<=i->x i=0)(q:Nat){r:Nat}(hr:r<64):val (finL x q r) (n+q+1)=val x n*2^(64*q+r):=by
 rw [finL_up hx q hr,show n+q+1=q+(n+1) by omega,val_up,sh_end zx r (n+1) (by omega),Int.mul_assoc,p64]
section
def upZ (z y:Nat->Int)(r off k j:Nat):Int:=if off<=j/\j<off+k then shW y r (j-off) else z j
theorem upZ_next (z y:Nat->Int)(r off k j:Nat):(if j=off+k then shW y r k else upZ z y r off k j)=upZ z y r off (k+1) j:=by
 unfold upZ
 by_cases e:j=off+k
 ·subst e
  rw [if_pos rfl,if_pos (by omega)];congr 1;omega
 ·rw [if_neg e]
  by_cases e2:off<=j/\j<off+k
  ·rw [if_pos e2,if_pos (by omega)]
  ·rw [if_neg e2,if_neg (by omega)]
theorem shiftUp_any (g N off m c k c' r:Nat)(a':Option Addr)(z y:Nat->Int)(w:World)(hm:off+m<=N)(hN:N<4294967296)(hk:k<m)(hr:r<64)(h:Own g N z w)(h':Num w a' k c' y)(hA:Apart a' g) :
  Calls Tryz.prog 164 #[.slice (some ⟨g,off,none⟩) m c,.slice a' k c',.int .i64 r] w fun e w'=>e=.returned (.tuple #[])/\Own g N (upZ z y r off (k+1)) w'/\Upd g w w':=by
 have hy:=h'.2.2.1
 have hri:(r:Int)<64:=by omega
 have e64:((64:Int)-r).toNat=64-r:=by omega
 have hk0:=h'.2.2.2.1 k (Nat.le_refl _)
 go_enter Tryz.func164,Tryz.ntmps164
 go_wp2
 go_loopw [6,7,8,11] (fun cv u7 u8 i wr=>∃ (j:Nat),j<=k/\i=.int .i64 j/\cv=.int .u64 (prevW y r j)/\Own g N (upZ z y r off j) wr/\Upd g w wr) (fun _ _ _ i _=>k-(intOf i).toNat)
 case atStart=>exact ⟨0,Nat.zero_le _,rfl,rfl,h.congr fun i _=>by unfold upZ;rw [if_neg (by omega)],Upd.refl _ _⟩
 case round =>
  obtain ⟨j,hj,rfl,rfl,hO,hU⟩:=hrel
  have hpb:=prevW_word hy hr j
  by_cases hlt:j<k
  ·have hji:(j:Int)<k:=by omega
   have hjm:(j:Int)<m:=by omega
   obtain ⟨b,off',rfl,hb,hc⟩:=(hU.num' hA h').cells (by omega)
   have hcj:=hc j hlt
   have hco:∃ u,wr.cell? ⟨g,off+j,none⟩=some (.int .u64 u):=⟨_,hO.cell (off+j) (by omega)⟩
   obtain ⟨u,hco⟩:=hco
   have hfo:=hO.frozen (off+j)
   have b_y:=hy j
   have HP:Hid (prevW y r (j+1)=y j/2^(64-r)):=by show _=_;rw [hiW_eq _ (by omega)];rfl
   have HS:Hid (bits BinOp.or IntKind.u64 (IntKind.u64.wrap (y j*2^r)) (prevW y r j)=shW y r j):=by
    show _=_
    rw [← shW_or hy hr j]
    exact orW_comm _ _ (wrap_word _) hpb
   have HO:Hid (Own g N (upZ z y r off (j+1)) (wr.setCell ⟨g,off+j,none⟩ (.int .u64 (shW y r j)))):=(hO.set (off+j) _).congr fun i _=>upZ_next z y r off j i
   have HU:Hid (Upd g w (wr.setCell ⟨g,off+j,none⟩ (.int .u64 (shW y r j)))):=hU.set (off+j) _
   rw [← HS.out] at HO HU
   clear hO hU hc h h' hA hy hk0 HS
   generalize prevW y r j=pv at *
   go_wp2
   go_roundw
   case rel=>exact ⟨j+1,by omega,by go_num,by rw [HP.out],HO.out,HU.out⟩
   case measure=>simp [intOf];omega
  ·obtain rfl:j=k:=by omega
   have hjm:(j:Int)<m:=by omega
   have hco:∃ u,wr.cell? ⟨g,off+j,none⟩=some (.int .u64 u):=⟨_,hO.cell (off+j) (by omega)⟩
   obtain ⟨u,hco⟩:=hco
   have hfo:=hO.frozen (off+j)
   have e1:shW y r j=prevW y r j:=by unfold shW;rw [hk0];simp
   have HO:Hid (Own g N (upZ z y r off (j+1)) (wr.setCell ⟨g,off+j,none⟩ (.int .u64 (prevW y r j)))):=(hO.set (off+j) _).congr fun i _=>by rw [← e1];exact upZ_next z y r off j i
   have HU:Hid (Upd g w (wr.setCell ⟨g,off+j,none⟩ (.int .u64 (prevW y r j)))):=hU.set (off+j) _
   clear hO hU h h' hA hy hk0 e1
   generalize prevW y r j=pv at *
   go_wp2
   go_end0
   exact ⟨rfl,HO.out,HU.out⟩
theorem bare_own {g N c:Nat}{z:Nat->Int}{w:World}{V:Int}(hO:Own g N z w)(hW:Words z)(hN:N<4000000000)(hc:N<=c)(hc2:c<=maxLen)(hv:val z N=V) :
  ∃ k z',k<=N/\Num w (some ⟨g,0,none⟩) k c z'/\val z' k=V/\sizeL z' k=k/\CQ 83 #[.slice (some ⟨g,0,none⟩) N c] w (.slice (some ⟨g,0,none⟩) k c):=by
 have h:=hO.num hW 0 N c (by omega) hc hc2
 refine ⟨sizeL (segW z 0 N) N,segW z 0 N,sizeL_le _ _,h.bare,?_,sizeL_sizeL _ _,bare_any _ N c _ w (by omega) h⟩
 rw [val_bare,val_congr (x:=segW z 0 N) (y:=z) N fun i hi=>by rw [segW_lt _ 0 N i hi,Nat.zero_add],hv]
set_option maxRecDepth 20000 in
theorem nshl_any (a:Option Addr)(n c:Nat)(x:Nat->Int)(d:Int)(w:World)(hn:n<4000000000)(h:Num w a n c x)(hd:0<=d)(hs:(sizeL x n:Int)+(d+63)/64<=2000) :
  Calls Tryz.prog 106 #[.slice a n c,.int .i64 d] w fun e w'=>∃ g k cap z,e=.returned (.tuple #[.slice (some ⟨g,0,none⟩) k cap,.int .i64 0])/\k<=2001/\Num w' (some ⟨g,0,none⟩) k cap z/\val z k=val x n*2^d.toNat/\sizeL z k=k/\Below w.heap.size w w':=by
 have hb:=bare_any a n c x w (by omega) h
 rw [← val_bare n]
 have hx:=h.2.2.1
 have hle:=sizeL_le x n
 have hN:=h.bare
 generalize sizeL x n=s at *
 clear h
 obtain ⟨q,hq⟩:∃ q:Nat,d/64=q:=⟨(d/64).toNat,by omega⟩
 obtain ⟨r,hr⟩:∃ r:Nat,d%64=r:=⟨(d%64).toNat,by omega⟩
 have hr64:r<64:=by omega
 have hdn:d.toNat=64*q+r:=by omega
 rw [hdn]
 obtain ⟨N,hNs⟩:∃ N,s+q+1=N:=⟨_,rfl⟩
 have hNi:(s:Int)+q+1=N:=by omega
 have hq2:(q:Int)<=2000:=by omega
 have hmk:=fun w=>make_any ((s:Int)+q+1) N hNi (by omega) w
 have hA:=apart_of hN
 have hO:=Own.new w (fun _=>0) N
 have hBW:=below1 w (.cells (arrOf (fun _=>0) N) 22)
 have hsu:=shiftUp_any w.heap.size N q (N-q) (N-q) s c r a (fun _=>0) x _ (by omega) (by omega) (by omega) hr64 hO (hN.next hBW) hA
 have hqN:(q:Int)<=N:=by omega
 have HVL:Hid (val (upZ (fun _=>0) x r q (s+1)) N=val x s*2^(64*q+r)):=by
  show _=_
  rw [← hNs,show s+q+1=q+(s+1) by omega]
  rw [val_congr (y:=upW (shW x r) q) (q+(s+1)) fun i hi=>by
   unfold upZ upW
   by_cases e:q<=i
   ·rw [if_pos (by omega),if_pos e]
   ·rw [if_neg (by omega),if_neg e]]
  rw [val_up,sh_end hN.2.2.2.1 r (s+1) (by omega),Int.mul_assoc,p64]
 have HW:Hid (Words (upZ (fun _=>0) x r q (s+1))):=fun i=>by
  unfold upZ;split
  ·exact shW_words hx hr64 _
  ·exact (by decide:(0:Int)<=0/\(0:Int)<=18446744073709551615)
 generalize hz:upZ (fun _=>0) x r q (s+1)=zz at *
 have HB:Hid (Below w.heap.size w (w.alloc (.cells (arrOf (fun _=>0) N) 22))):=hBW
 have HNS:Hid (N<=2001):=by show _<=_;omega
 have hup:(s:Int)+q<=2000:=by omega
 have hup2:0<r->(s:Int)+(q+1)<=2000:=by omega
 clear hBW hN hA hO hNi hz hs hdn hx
 by_cases hr0:0<r
 ·have hr0':(0:Int)<r:=by omega
  have hu:=hup2 hr0
  clear hup2
  go_enter Tryz.func106,Tryz.ntmps106
  go_wp2_with (first|(go_at_call_of 83 (Value.slice a n c);refine hb.mono ?_;rintro e w' ⟨rfl,rfl⟩)|(go_at_call 164;refine hsu.mono ?_;rintro e w1 ⟨rfl,hO1,hU1⟩))
  obtain ⟨k,z',hkN,hNk,hvk,hsk,hbr⟩:=bare_own hO1 HW.out (by have:=HNS.out;omega) (Nat.le_refl N) (by unfold maxLen;have:=HNS.out;omega) HVL.out
  have HB2:Hid (Below w.heap.size w w1):=HB.out.trans (hU1.below (Nat.le_refl _))
  have HNk:Hid (Num w1 (some ⟨w.heap.size,0,none⟩) k N z'):=hNk
  clear hO1 hU1 hNk
  go_wp2_with (go_at_call 83;refine hbr.mono ?_;rintro e w3 ⟨rfl,rfl⟩)
  go_ret2
  exact ⟨_,k,N,z',rfl,by have:=HNS.out;omega,HNk.out,hvk,hsk,HB2.out⟩
 ·obtain rfl:r=0:=by omega
  clear hup2
  go_enter Tryz.func106,Tryz.ntmps106
  go_wp2_with (first|(go_at_call_of 83 (Value.slice a n c);refine hb.mono ?_;rintro e w' ⟨rfl,rfl⟩)|(go_at_call 164;refine hsu.mono ?_;rintro e w1 ⟨rfl,hO1,hU1⟩))
  obtain ⟨k,z',hkN,hNk,hvk,hsk,hbr⟩:=bare_own hO1 HW.out (by have:=HNS.out;omega) (Nat.le_refl N) (by unfold maxLen;have:=HNS.out;omega) HVL.out
  have HB2:Hid (Below w.heap.size w w1):=HB.out.trans (hU1.below (Nat.le_refl _))
  have HNk:Hid (Num w1 (some ⟨w.heap.size,0,none⟩) k N z'):=hNk
  clear hO1 hU1 hNk
  go_wp2_with (go_at_call 83;refine hbr.mono ?_;rintro e w3 ⟨rfl,rfl⟩)
  go_ret2
  exact ⟨_,k,N,z',rfl,by have:=HNS.out;omega,HNk.out,hvk,hsk,HB2.out⟩
end
section
attribute [local go_sem] setCell_drewN alloc_drewN
def goneB (x:Nat->Int)(q r:Nat):Bool:=decide (0<sizeL x q)||decide (x q%2^r≠0)
def goneK (x:Nat->Int)(q r k:Nat):Bool:=if k<=q then decide (0<sizeL x k) else goneB x q r
theorem goneK_zero (x:Nat->Int)(q r:Nat):goneK x q r 0=false:=by unfold goneK;rw [if_pos (Nat.zero_le _)];rfl
theorem goneK_lt0 {x:Nat->Int}{q r k:Nat}(h:k<q)(hz:x k=0):goneK x q r (k+1)=goneK x q r k:=by
 unfold goneK;rw [if_pos (by omega),if_pos (by omega)];simp [sizeL,hz]
theorem goneK_lt1 {x:Nat->Int}{q r k:Nat}(h:k<q)(hz:¬ x k=0):goneK x q r (k+1)=true:=by
 unfold goneK;rw [if_pos (by omega)];simp [sizeL,hz]
theorem goneK_eq (x:Nat->Int)(k r:Nat):goneK x k r (k+1)=(goneK x k r k||decide (x k%2^r≠0)):=by
 unfold goneK;rw [if_neg (by omega),if_pos (Nat.le_refl _)];rfl
theorem goneK_gt {x:Nat->Int}{q r k:Nat}(h:q<k):goneK x q r (k+1)=goneK x q r k:=by
 unfold goneK;rw [if_neg (by omega),if_neg (by omega)]
theorem goneK_end {x:Nat->Int}{q r n:Nat}(h:q<n):goneK x q r n=goneB x q r:=by
 unfold goneK;rw [if_neg (by omega)]
theorem and_mask {y:Int}{r:Nat}(hy:0<=y/\y<=18446744073709551615)(hr:r<64):bits BinOp.and IntKind.u64 y (2^r-1)=y%2^r:=by
 have h1:=p2_pos r
 have h2:=p2_le hr
 rw [u64_and _ _ hy.1 (by omega) (by omega) (by omega)]
 obtain ⟨n,rfl⟩:=Int.eq_ofNat_of_zero_le hy.1
 have e:((2:Int)^r-1).toNat=2^r-1:=by rw [← powCast];omega
 rw [e,Int.toNat_natCast,Nat.and_two_pow_sub_one_eq_mod,Int.natCast_emod,powCast]
end
section
theorem sizeL_more {x:Nat->Int}{n:Nat}(hz:∀ i,n<=i->x i=0):∀ m,n<=m->sizeL x m=sizeL x n
  | 0, h => by have : n = 0 := by omega
               subst this;rfl
  | m+1,h=>by
    by_cases e:n=m+1
    · subst e;rfl
    · rw [show sizeL x (m+1)=sizeL x m by simp [sizeL,hz m (by omega)]]
      exact sizeL_more hz m (by omega)
def dnW (y:Int)(r:Nat):Int:=IntKind.u64.wrap (y*2^(64-r))
theorem shr_or {y:Nat->Int}(hy:Words y){r:Nat}(hr:r<64)(q i:Nat):orW (y (q+i)/2^r) (dnW (y (q+i+1)) r)=shrW y q r i:=by
 unfold shrW dnW
 by_cases h:r=0
 ·subst h
  rw [if_pos rfl,wrap_mod]
  have e:y (q+i+1)*2^(64-0)%18446744073709551616=0:=Int.mul_emod_left _ _
  rw [e,Int.pow_zero,Int.ediv_one,orW_zero _ (hy _)]
 ·rw [if_neg h]
def dnZ (z y:Nat->Int)(r m k j:Nat):Int:=if k<=j/\j<m then shrW y 0 r j else z j
theorem shiftDown_any (g N m c c' r:Nat)(a':Option Addr)(z y:Nat->Int)(w:World)(hm:m<=N)(hN:N<4294967296)(hr:r<64)(h:Own g N z w)(h':Num w a' m c' y)(hA:Apart a' g) :
  Calls Tryz.prog 170 #[.slice (some ⟨g,0,none⟩) m c,.slice a' m c',.int .i64 r] w fun e w'=>e=.returned (.tuple #[])/\Own g N (dnZ z y r m 0) w'/\Upd g w w':=by
 have hy:=h'.2.2.1
 have hri:(r:Int)<64:=by omega
 have e64:((64:Int)-r).toNat=64-r:=by omega
 have hk0:=h'.2.2.2.1 m (Nat.le_refl _)
 go_enter Tryz.func170,Tryz.ntmps170
 go_wp2
 go_loopw [6,7] (fun cv i wr=>∃ (k:Nat),k<=m/\i=.int .i64 ((k:Int)-1)/\cv=.int .u64 (dnW (y k) r)/\Own g N (dnZ z y r m k) wr/\Upd g w wr) (fun _ i _=>(intOf i+1).toNat)
 case atStart=>exact ⟨m,Nat.le_refl _,by go_num,by rw [hk0];unfold dnW;rw [Int.zero_mul,wrap_id 0 (by decide)],h.congr fun i _=>by unfold dnZ;rw [if_neg (by omega)],Upd.refl _ _⟩
 case round =>
  obtain ⟨k,hk,rfl,rfl,hO,hU⟩:=hrel
  have hpb:0<=dnW (y k) r/\dnW (y k) r<=18446744073709551615:=wrap_word _
  by_cases h0:k=0
  ·subst h0
   have HO:Hid (Own g N (dnZ z y r m 0) wr):=hO
   have HU:Hid (Upd g w wr):=hU
   clear hO hU h h' hA hy hk0
   go_wp2
   go_end0
   exact ⟨rfl,HO.out,HU.out⟩
  ·obtain ⟨j,rfl⟩:∃ j,k=j+1:=⟨k-1,by omega⟩
   have ej:((j+1:Nat):Int)-1=j:=by omega
   rw [ej]
   have hjm:(j:Int)<m:=by omega
   obtain ⟨b,off',rfl,hb,hc⟩:=(hU.num' hA h').cells (by omega)
   have hcj:=hc j (by omega)
   have hco:∃ u,wr.cell? ⟨g,j,none⟩=some (.int .u64 u):=⟨_,hO.cell j (by omega)⟩
   obtain ⟨u,hco⟩:=hco
   have hfo:=hO.frozen j
   have b_y:=hy j
   have hbg:b≠g:=hA _ rfl
   have hcj2:∀ v,(wr.setCell ⟨g,j,none⟩ v).cell? ⟨b,off'+j,none⟩=some (.int .u64 (y j)):=fun v=>(World.cell?_of_block (w:=wr) (a:=⟨b,off'+j,none⟩) (Below.heap_setCell wr ⟨g,j,none⟩ v b hbg)).trans hcj
   have HS:Hid (bits BinOp.or IntKind.u64 (y j/2^r) (dnW (y (j+1)) r)=shrW y 0 r j):=by
    show _=_
    have:=shr_or hy hr 0 j
    rw [Nat.zero_add] at this
    exact this
   have HO:Hid (Own g N (dnZ z y r m j) (wr.setCell ⟨g,j,none⟩ (.int .u64 (shrW y 0 r j)))):=(hO.set j _).congr fun i _=>by
    unfold dnZ
    by_cases e:i=j
    ·subst e;rw [if_pos rfl,if_pos (by omega)]
    ·rw [if_neg e]
     by_cases e2:j+1<=i/\i<m
     ·rw [if_pos e2,if_pos (by omega)]
     ·rw [if_neg e2,if_neg (by omega)]
   have HU:Hid (Upd g w (wr.setCell ⟨g,j,none⟩ (.int .u64 (shrW y 0 r j)))):=hU.set j _
   rw [← HS.out] at HO HU
   have HDW:Hid (IntKind.u64.wrap (y j*2^(64-r))=dnW (y j) r):=rfl
   clear hO hU hc h h' hA hy hk0 HS ej
   generalize dnW (y (j+1)) r=pv at *
   go_wp2
   go_roundw
   case rel=>exact ⟨j,by omega,by go_num,by rw [← HDW.out],HO.out,HU.out⟩
   case measure=>simp [intOf]
theorem Num.drop {w:World}{b off n c q:Nat}{x:Nat->Int}(h:Num w (some ⟨b,off,none⟩) n c x)(hq:q<=n):Num w (some ⟨b,off+q,none⟩) (n-q) (c-q) (fun i=>x (q+i)):=by
 obtain ⟨h1,h2,h3,h4,h5⟩:=h
 refine ⟨by omega,by omega,fun i=>h3 (q+i),fun i hi=>h4 (q+i) (by omega),?_⟩
 rcases h5 with ⟨h5,_⟩|⟨b',off',h6,h7,h8⟩
 ·cases h5
 ·cases h6
  exact Or.inr ⟨b,off+q,rfl,h7,fun i hi=>by have:=h8 (q+i) (by omega);rw [Nat.add_assoc];exact this⟩
theorem Num.take {w:World}{b off n c q:Nat}{x:Nat->Int}(h:Num w (some ⟨b,off,none⟩) n c x)(hq:q<=n):Num w (some ⟨b,off,none⟩) q c (segW x 0 q):=by
 obtain ⟨h1,h2,h3,h4,h5⟩:=h
 refine ⟨by omega,by omega,segW_words h3 0 q,fun i hi=>segW_zero x 0 q i hi,?_⟩
 rcases h5 with ⟨h5,_⟩|⟨b',off',h6,h7,h8⟩
 ·cases h5
 ·cases h6
  exact Or.inr ⟨b,off,rfl,h7,fun i hi=>by rw [h8 i (by omega),segW_lt x 0 q i hi,Nat.zero_add]⟩
theorem out_test {y:Int}{r:Nat}(hr:r<64):(IntKind.u64.wrap (y*2^(64-r)) != 0)=decide (y%2^r≠0):=by
 have hp:=p2_pos (64-r)
 have e:y*2^(64-r)%18446744073709551616=y%2^r*2^(64-r):=by
  have h1:=Int.mul_emod_mul_of_pos y (2^r) hp
  have h2:=p2_split (show r<=64 by omega)
  rw [← h2,Int.mul_comm y,h1,Int.mul_comm]
 rw [wrap_mod,e]
 by_cases h:y%2^r=0
 ·simp [h]
 ·have:y%2^r*2^(64-r)≠0:=Int.mul_ne_zero h (by omega)
  simp [h,this]
set_option maxRecDepth 20000 in
theorem nshr_any (a:Option Addr)(n c q r:Nat)(x:Nat->Int)(d:Int)(w:World)(hn:n<4000000000)(h:Num w a n c x)(hd:1<=d)(hq:d/64=q)(hr:d%64=r)(hqs:q<sizeL x n) :
  Calls Tryz.prog 116 #[.slice a n c,.int .i64 d] w fun e w'=>∃ g k cap,e=.returned (.tuple #[.slice (some ⟨g,0,none⟩) k cap,.bool (goneB x q r)])/\k<=n/\Num w' (some ⟨g,0,none⟩) k cap (shrW x q r)/\sizeL (shrW x q r) k=k/\Below w.heap.size w w':=by
 have hb:=bare_any a n c x w (by omega) h
 have hx:=h.2.2.1
 have hle:=sizeL_le x n
 have hN:=h.bare
 generalize sizeL x n=s at *
 clear h
 have hr64:r<64:=by omega
 obtain ⟨b,off,rfl,hbs,hc⟩:=hN.cells (by omega)
 have hcq:=hc q hqs
 have bq:=hx q
 have hcap:=hN.1
 have ht:=out_test (y:=x q) hr64
 have e64:((64:Int)-r).toNat=64-r:=by omega
 have hr64i:(r:Int)<64:=by omega
 have hbt:=bare_any (some ⟨b,off,none⟩) q c (segW x 0 q) w (by omega) (hN.take (by omega))
 have es:sizeL (segW x 0 q) q=sizeL x q:=sizeL_congr q fun i hi=>by rw [segW_lt x 0 q i hi,Nat.zero_add]
 rw [es] at hbt
 have hsq:=sizeL_le x q
 obtain ⟨N,hNs⟩:∃ N,s-q=N:=⟨_,rfl⟩
 have hNi:(s:Int)-q=N:=by omega
 have hmk:=fun w=>make_any ((s:Int)-q) N hNi (by omega) w
 have hA:=apart_of (hN.drop (q:=q) (by omega))
 have hO:=Own.new w (fun _=>0) N
 have hBW:=below1 w (.cells (arrOf (fun _=>0) N) 22)
 have hsd:=shiftDown_any w.heap.size N N N (c-q) r (some ⟨b,off+q,none⟩) (fun _=>0) (fun i=>x (q+i)) _ (Nat.le_refl _) (by omega) hr64 hO (by have:=(hN.drop (q:=q) (by omega)).next hBW;rw [hNs] at this;exact this) hA
 have HZ:Hid (∀ j,N<=j->shrW x q r j=0):=fun j hj=>shrW_zero hN.2.2.2.1 q r j (by omega)
 have HW:Hid (Words (shrW x q r)):=shrW_words hx q r
 have HD:Hid (∀ i,i<N->dnZ (fun _=>0) (fun i=>x (q+i)) r N 0 i=shrW x q r i):=fun i hi=>by
  unfold dnZ;rw [if_pos (by omega)];unfold shrW;simp only [Nat.zero_add,Nat.add_assoc]
 have HB:Hid (Below w.heap.size w (w.alloc (.cells (arrOf (fun _=>0) N) 22))):=hBW
 have HNN:Hid (N<=s):=by show _<=_;omega
 have hqsi:(q:Int)<s:=by omega
 have hqc:(q:Int)<=c:=by omega
 have HG:Hid (goneB x q r=(decide (0<sizeL x q)||decide (x q%2^r≠0))):=rfl
 have fin:∀ w1,Own w.heap.size N (dnZ (fun _=>0) (fun i=>x (q+i)) r N 0) w1->∃ k,k<=N/\Num w1 (some ⟨w.heap.size,0,none⟩) k N (shrW x q r)/\sizeL (shrW x q r) k=k/\CQ 83 #[.slice (some ⟨w.heap.size,0,none⟩) N N] w1 (.slice (some ⟨w.heap.size,0,none⟩) k N):=by
  intro w1 hO1
  have hO2:=hO1.congr HD.out
  have h1:=hO2.num HW.out 0 N N (by omega) (Nat.le_refl _) (by unfold maxLen;omega)
  have e:segW (shrW x q r) 0 N=shrW x q r:=by
   funext i
   by_cases hi:i<N
   ·rw [segW_lt _ 0 N i hi,Nat.zero_add]
   ·rw [segW_zero _ 0 N i (by omega),HZ.out i (by omega)]
  rw [e] at h1
  exact ⟨sizeL (shrW x q r) N,sizeL_le _ _,h1.bare,sizeL_sizeL _ _,bare_any _ N N _ w1 (by omega) h1⟩
 have FIN:Hid (∀ w1,Own w.heap.size N (dnZ (fun _=>0) (fun i=>x (q+i)) r N 0) w1->∃ k,k<=N/\Num w1 (some ⟨w.heap.size,0,none⟩) k N (shrW x q r)/\sizeL (shrW x q r) k=k/\CQ 83 #[.slice (some ⟨w.heap.size,0,none⟩) N N] w1 (.slice (some ⟨w.heap.size,0,none⟩) k N)):=fin
 clear fin hBW hN hA hO hc hx HZ HW HD es hNi
 generalize dnZ (fun _=>0) (fun i=>x (q+i)) r N 0=zz at *
 by_cases hm:x q%2^r=0
 ·have htf:(IntKind.u64.wrap (x q*2^(64-r)) != 0)=false:=by rw [ht];simp [hm]
  have HGv:Hid (goneB x q r=decide (0<sizeL x q)):=by show _=_;rw [HG.out];simp [hm]
  generalize sizeL x q=sq at *
  clear ht HG hm
  by_cases hsq0:sq=0
  ·subst hsq0
   go_enter Tryz.func116,Tryz.ntmps116
   go_wp2_with (first|(go_at_call_of 83 (Value.slice (some ⟨b,off,none⟩) n c);refine hb.mono ?_;rintro e w' ⟨rfl,rfl⟩;clear hb)|(go_at_call_of 83 (Value.slice (some ⟨b,off,none⟩) q c);refine hbt.mono ?_;rintro e w' ⟨rfl,rfl⟩;clear hbt)|(go_at_call 170;refine hsd.mono ?_;rintro e w1 ⟨rfl,hO1,hU1⟩))
   obtain ⟨k,hkN,hNk,hsk,hbr⟩:=FIN.out w1 hO1
   have HB2:Hid (Below w.heap.size w w1):=HB.out.trans (hU1.below (Nat.le_refl _))
   have HNk:Hid (Num w1 (some ⟨w.heap.size,0,none⟩) k N (shrW x q r)):=hNk
   clear hO1 hU1 hNk
   go_wp2_with (go_at_call 83;refine hbr.mono ?_;rintro e w3 ⟨rfl,rfl⟩)
   go_ret2
   exact ⟨_,k,N,by rw [HGv.out];rfl,by have:=HNN.out;omega,HNk.out,hsk,HB2.out⟩
  ·have hsq0':(0:Int)<sq:=by omega
   go_enter Tryz.func116,Tryz.ntmps116
   go_wp2_with (first|(go_at_call_of 83 (Value.slice (some ⟨b,off,none⟩) n c);refine hb.mono ?_;rintro e w' ⟨rfl,rfl⟩;clear hb)|(go_at_call_of 83 (Value.slice (some ⟨b,off,none⟩) q c);refine hbt.mono ?_;rintro e w' ⟨rfl,rfl⟩;clear hbt)|(go_at_call 170;refine hsd.mono ?_;rintro e w1 ⟨rfl,hO1,hU1⟩))
   obtain ⟨k,hkN,hNk,hsk,hbr⟩:=FIN.out w1 hO1
   have HB2:Hid (Below w.heap.size w w1):=HB.out.trans (hU1.below (Nat.le_refl _))
   have HNk:Hid (Num w1 (some ⟨w.heap.size,0,none⟩) k N (shrW x q r)):=hNk
   clear hO1 hU1 hNk
   go_wp2_with (go_at_call 83;refine hbr.mono ?_;rintro e w3 ⟨rfl,rfl⟩)
   go_ret2
   exact ⟨_,k,N,by rw [HGv.out];rfl,by have:=HNN.out;omega,HNk.out,hsk,HB2.out⟩
 ·have htt:(IntKind.u64.wrap (x q*2^(64-r)) != 0)=true:=by rw [ht];simp [hm]
  have HGv:Hid (goneB x q r=true):=by show _=_;rw [HG.out];simp [hm]
  clear ht HG hm
  go_enter Tryz.func116,Tryz.ntmps116
  go_wp2_with (first|(go_at_call_of 83 (Value.slice (some ⟨b,off,none⟩) n c);refine hb.mono ?_;rintro e w' ⟨rfl,rfl⟩;clear hb)|(go_at_call_of 83 (Value.slice (some ⟨b,off,none⟩) q c);refine hbt.mono ?_;rintro e w' ⟨rfl,rfl⟩;clear hbt)|(go_at_call 170;refine hsd.mono ?_;rintro e w1 ⟨rfl,hO1,hU1⟩))
  obtain ⟨k,hkN,hNk,hsk,hbr⟩:=FIN.out w1 hO1
  have HB2:Hid (Below w.heap.size w w1):=HB.out.trans (hU1.below (Nat.le_refl _))
  have HNk:Hid (Num w1 (some ⟨w.heap.size,0,none⟩) k N (shrW x q r)):=hNk
  clear hO1 hU1 hNk
  go_wp2_with (go_at_call 83;refine hbr.mono ?_;rintro e w3 ⟨rfl,rfl⟩)
  go_ret2
  exact ⟨_,k,N,by rw [HGv.out];rfl,by have:=HNN.out;omega,HNk.out,hsk,HB2.out⟩
theorem nshr_small (a:Option Addr)(n c:Nat)(x:Nat->Int)(d:Int)(w:World)(hn:n<4000000000)(h:Num w a n c x)(hd:d<1) :
  Calls Tryz.prog 116 #[.slice a n c,.int .i64 d] w fun e w'=>e=.returned (.tuple #[.slice (some ⟨w.heap.size,0,none⟩) (sizeL x n) (sizeL x n),.bool false])/\w.alloc (.cells (arrOf x (sizeL x n)) 22)=w':=by
 have ht:=ntrim_any a n c x w (by omega) h
 generalize sizeL x n=s at *
 clear h
 go_enter Tryz.func116,Tryz.ntmps116
 go_wp2_with (go_at_call 84;refine ht.mono ?_;rintro e w' ⟨rfl,rfl⟩)
 go_ret2
 exact ⟨rfl,rfl⟩
set_option maxRecDepth 20000 in
theorem nshr_all_out (a:Option Addr)(n c:Nat)(x:Nat->Int)(d:Int)(w:World)(hn:n<4000000000)(h:Num w a n c x)(hd:1<=d)(hd2:d<=9223372036854775807)(hq:(sizeL x n:Int)<=d/64) :
  CQ 116 #[.slice a n c,.int .i64 d] w (.tuple #[.slice none 0 0,.bool (decide (0<sizeL x n))]):=by
 have hb:=bare_any a n c x w (by omega) h
 generalize sizeL x n=s at *
 clear h
 obtain ⟨q,hq2⟩:∃ q:Nat,d/64=q:=⟨(d/64).toNat,by omega⟩
 obtain ⟨r,hr⟩:∃ r:Nat,d%64=r:=⟨(d%64).toNat,by omega⟩
 rw [hq2] at hq
 have hqn:s<=q:=by omega
 have hqm:¬ q<s:=by omega
 have hqb:(q:Int)<=144115188075855871:=by omega
 go_enter Tryz.func116,Tryz.ntmps116
 go_wp2_with (go_at_call 83;refine hb.mono ?_;rintro e w' ⟨rfl,rfl⟩)
 go_ret2
 exact ⟨rfl,rfl⟩
def shrF (x:Nat->Int)(d:Int):Nat->Int:=if d<1 then x else shrW x (d/64).toNat (d%64).toNat
def shrG (x:Nat->Int)(d:Int):Bool:=if d<1 then false else goneB x (d/64).toNat (d%64).toNat
theorem goneB_out {x:Nat->Int}{n q r:Nat}(zx:∀ i,n<=i->x i=0)(h:sizeL x n<=q):goneB x q r=decide (0<sizeL x n):=by
 have z:=sizeL_zero n zx
 unfold goneB
 rw [z q h,← sizeL_sizeL x n,sizeL_more z q h]
 simp
theorem nshr_all (a:Option Addr)(n c:Nat)(x:Nat->Int)(d:Int)(w:World)(hn:n<4000000000)(h:Num w a n c x)(hd2:d<=9223372036854775807) :
  Calls Tryz.prog 116 #[.slice a n c,.int .i64 d] w fun e w'=>∃ o k cap,e=.returned (.tuple #[.slice o k cap,.bool (shrG x d)])/\k<=n/\Num w' o k cap (shrF x d)/\sizeL (shrF x d) k=k/\Below w.heap.size w w':=by
 have hle:=sizeL_le x n
 by_cases hd:d<1
 ·have e1:shrF x d=x:=by unfold shrF;rw [if_pos hd]
  have e2:shrG x d=false:=by unfold shrG;rw [if_pos hd]
  rw [e1,e2]
  refine (nshr_small a n c x d w hn h hd).mono fun e w' hw=>⟨_,sizeL x n,sizeL x n,hw.1,hle,?_,sizeL_sizeL x n,hw.2▸below1 w _⟩
  rw [← hw.2]
  exact num_of_block (by omega) h.2.2.1 h.bare.2.2.2.1 (arrOf_size _ _) (fun j hj=>arrOf_get _ _ _ _)
 ·obtain ⟨q,hq⟩:∃ q:Nat,d/64=q:=⟨(d/64).toNat,by omega⟩
  obtain ⟨r,hr⟩:∃ r:Nat,d%64=r:=⟨(d%64).toNat,by omega⟩
  have e1:shrF x d=shrW x q r:=by unfold shrF;rw [if_neg hd,hq,hr,Int.toNat_natCast,Int.toNat_natCast]
  have e2:shrG x d=goneB x q r:=by unfold shrG;rw [if_neg hd,hq,hr,Int.toNat_natCast,Int.toNat_natCast]
  rw [e1,e2]
  by_cases hqs:q<sizeL x n
  ·exact (nshr_any a n c q r x d w hn h (by omega) hq hr hqs).mono fun e w' ⟨g,k,cap,e1,h2,h3,h4,h5⟩=>⟨_,k,cap,e1,h2,h3,h4,h5⟩
  ·have e3:shrW x q r=fun _=>0:=by funext j;exact shrW_zero h.bare.2.2.2.1 q r j (by omega)
   rw [e3,goneB_out h.2.2.2.1 (by omega)]
   exact (nshr_all_out a n c x d w hn h (by omega) hd2 (by omega)).mono fun e w' hw=>⟨none,0,0,hw.1,Nat.zero_le _,num_none w',rfl,hw.2▸Below.refl _ _⟩
end
theorem times_val (b off n c b' off' n' c':Nat)(x y:Nat->Int)(w:World)(hn:n<1000000)(hn':n'<1000000)(h:Num w (some ⟨b,off,none⟩) n c x)(h':Num w (some ⟨b',off',none⟩) n' c' y) :
  Calls Tryz.prog 16 #[.slice (some ⟨b,off,none⟩) n c,.slice (some ⟨b',off',none⟩) n' c'] w fun e w'=>∃ g k cap z,e=.returned (.slice (some ⟨g,0,none⟩) k cap)/\k<=n+n'+1/\Num w' (some ⟨g,0,none⟩) k cap z/\val z k=val x n*val y n'/\Below w.heap.size w w' :=
 (times_raw b off n c b' off' n' c' x y w hn hn' h h').mono fun e w' ⟨g,k,cap,z,e1,hk,hN,hv,hB⟩=>⟨g,k,cap,z,e1,hk,hN,by rw [← hv,val_more hN.2.2.2.1 _ hk],hB⟩
theorem val_one1 (c:Int):val (oneW c) 1=c:=by simp [val,oneW]
theorem pow_half (s:Int)(m:Nat):s^m=(if m%2=1 then s else 1)*(s*s)^(m/2):=by
 have e:(s*s)^(m/2)=s^(2*(m/2)):=by rw [Int.pow_mul];congr 1;rw [Int.pow_succ,Int.pow_succ,Int.pow_zero,Int.one_mul]
 rw [e]
 by_cases h:m%2=1
 ·rw [if_pos h,Int.mul_comm,← Int.pow_succ];congr 1;omega
 ·rw [if_neg h,Int.one_mul];congr 1;omega
theorem rpow_any (b:Int)(n:Nat)(w:World)(hb:0<=b/\b<=18446744073709551615)(hn:n<=17000) :
  Calls Tryz.prog 17 #[.int .u64 b,.int .i64 n] w fun e w'=>∃ g k cap z,e=.returned (.slice (some ⟨g,0,none⟩) k cap)/\k<=4*n+2/\Num w' (some ⟨g,0,none⟩) k cap z/\val z k=b^n/\Below w.heap.size w w':=by
 have hN1:=num_one w 1 (by decide)
 have hB1:=below1 w (.cells #[.int .u64 1] 22)
 have hN2:=num_one (w.alloc (.cells #[.int .u64 1] 22)) b hb
 have hB2:=below1 (w.alloc (.cells #[.int .u64 1] 22)) (.cells #[.int .u64 b] 22)
 have hN1':=hN1.next hB2
 have hB:=hB1.trans (hB2.mono hB1.size)
 have hs:(w.alloc (.cells #[.int .u64 1] 22)).heap.size=w.heap.size+1:=by simp
 rw [hs] at hN2
 have HB:Hid (Below w.heap.size w ((w.alloc (.cells #[.int .u64 1] 22)).alloc (.cells #[.int .u64 b] 22))):=hB
 clear hN1 hB1 hB2 hB hs
 go_enter Tryz.func17,Tryz.ntmps17
 go_wp2
 generalize (w.alloc (.cells #[.int .u64 1] 22)).alloc (.cells #[.int .u64 b] 22)=wA at *
 go_loopw [1,5,6] (fun nv ov sv wr=>∃ (m P g1 k1 p1 g2 k2 p2:Nat) (z1 z2:Nat->Int),nv=.int .i64 m/\m<=n/\1<=P/\m*P<=n/\P<=2*n+1/\ov=.slice (some ⟨g1,0,none⟩) k1 p1/\sv=.slice (some ⟨g2,0,none⟩) k2 p2/\k1+1<=2*P/\k2+1<=2*P/\Num wr (some ⟨g1,0,none⟩) k1 p1 z1/\Num wr (some ⟨g2,0,none⟩) k2 p2 z2/\Hid (val z1 k1*val z2 k2^m=b^n)/\Below w.heap.size w wr) (fun nv _ _ _=>(intOf nv).toNat)
 case atStart=>exact ⟨n,1,w.heap.size,1,1,w.heap.size+1,1,1,oneW 1,oneW b,rfl,Nat.le_refl _,Nat.le_refl _,by omega,by omega,rfl,rfl,by omega,by omega,hN1',hN2,by show _=_;rw [val_one1,val_one1,Int.one_mul],HB.out⟩
 case round =>
  clear hN1' hN2 HB
  obtain ⟨m,P,g1,k1,p1,g2,k2,p2,z1,z2,rfl,hmn,hP,hmP,hP2,rfl,rfl,hk1,hk2,hN1,hN2,hv,hB⟩:=hrel
  by_cases h0:m=0
  ·subst h0
   have HV:Hid (val z1 k1=b^n):=by show _=_;have:=hv.out;simpa using this
   have HN1:Hid (Num wr (some ⟨g1,0,none⟩) k1 p1 z1):=hN1
   clear hN1 hN2 hv
   go_wp2
   go_ret
   exact ⟨g1,k1,p1,z1,rfl,by omega,HN1.out,HV.out,hB⟩
  ·have hm0:(0:Int)<m:=by omega
   have hPn:P<=n:=by
    have:1*P<=m*P:=Nat.mul_le_mul_right P (by omega)
    omega
   have hq2:(m:Int)/2=((m/2:Nat):Int):=by omega
   have hr2:(m:Int)%2=((m%2:Nat):Int):=by omega
   have hmP':m/2*(2*P)<=n:=by
    have h1:m/2*2<=m:=Nat.div_mul_le_self m 2
    have h2:m/2*2*P<=m*P:=Nat.mul_le_mul_right P h1
    rw [← Nat.mul_assoc];omega
   have HPH:Hid (val z2 k2^m=(if m%2=1 then val z2 k2 else 1)*(val z2 k2*val z2 k2)^(m/2)):=pow_half _ _
   have tt:=fun wr (hb:Below w.heap.size w wr) h1 h2=>times_val g1 0 k1 p1 g2 0 k2 p2 z1 z2 wr (by omega) (by omega) h1 h2
   have ts:=fun wr (hb:Below w.heap.size w wr) h2=>times_val g2 0 k2 p2 g2 0 k2 p2 z2 z2 wr (by omega) (by omega) h2 h2
   generalize hq:m/2=q at *
   by_cases hodd:m%2=1
   ·rw [hodd] at hr2
    rw [if_pos hodd] at HPH
    have t1:=tt wr hB hN1 hN2
    by_cases hq0:q=0
    ·subst hq0
     have hq00:(m:Int)/2=0:=hq2
     clear hq2
     go_wp2_with (go_at_call 16;refine t1.mono ?_;rintro e w1 ⟨g3,k3,p3,z3,rfl,hk3,hN3,hv3,hb1⟩;clear tt t1)
     have HV3:Hid (val z3 k3*val z2 k2^0=b^n):=by
      show _=_
      rw [hv3,← hv.out,HPH.out];simp
     have HN3:Hid (Num w1 (some ⟨g3,0,none⟩) k3 p3 z3):=hN3
     have HN2:Hid (Num w1 (some ⟨g2,0,none⟩) k2 p2 z2):=hN2.next hb1
     have hB1:=hB.trans (hb1.mono hB.size)
     clear hN1 hN2 hN3 hv hv3 ts
     go_roundw
     case rel=>exact ⟨0,2*P,g3,k3,p3,g2,k2,p2,z3,z2,rfl,by omega,by omega,by omega,by omega,rfl,rfl,by omega,by omega,HN3.out,HN2.out,HV3,hB1⟩
     case measure=>simp [intOf];omega
    ·have hq0':(0:Int)<q:=by omega
     go_wp2_with (go_at_call 16;refine t1.mono ?_;rintro e w1 ⟨g3,k3,p3,z3,rfl,hk3,hN3,hv3,hb1⟩;clear tt t1)
     have hB1:=hB.trans (hb1.mono hB.size)
     have hN21:=hN2.next hb1
     have t2:=ts w1 hB1 hN21
     go_wp2_with (go_at_call 16;refine t2.mono ?_;rintro e w2 ⟨g4,k4,p4,z4,rfl,hk4,hN4,hv4,hb2⟩;clear ts t2)
     have HV3:Hid (val z3 k3*val z4 k4^q=b^n):=by
      show _=_
      rw [hv3,hv4,← hv.out,HPH.out,Int.mul_assoc]
     have HN3:Hid (Num w2 (some ⟨g3,0,none⟩) k3 p3 z3):=hN3.next hb2
     have HN4:Hid (Num w2 (some ⟨g4,0,none⟩) k4 p4 z4):=hN4
     have hB2:=hB1.trans (hb2.mono hB1.size)
     clear hN1 hN2 hN3 hN21 hN4 hv hv3 hv4
     go_roundw
     case rel=>exact ⟨q,2*P,g3,k3,p3,g4,k4,p4,z3,z4,rfl,by omega,by omega,by omega,by omega,rfl,rfl,by omega,by omega,HN3.out,HN4.out,HV3,hB2⟩
     case measure=>simp [intOf];omega
   ·have h20:m%2=0:=by omega
    rw [h20] at hr2
    rw [if_neg hodd,Int.one_mul] at HPH
    have hq0':(0:Int)<q:=by omega
    have t2:=ts wr hB hN2
    go_wp2_with (go_at_call 16;refine t2.mono ?_;rintro e w2 ⟨g4,k4,p4,z4,rfl,hk4,hN4,hv4,hb2⟩;clear ts tt t2)
    have HV3:Hid (val z1 k1*val z4 k4^q=b^n):=by
     show _=_
     rw [hv4,← hv.out,HPH.out]
    have HN3:Hid (Num w2 (some ⟨g1,0,none⟩) k1 p1 z1):=hN1.next hb2
    have HN4:Hid (Num w2 (some ⟨g4,0,none⟩) k4 p4 z4):=hN4
    have hB2:=hB.trans (hb2.mono hB.size)
    clear hN1 hN2 hN4 hv hv4
    go_roundw
    case rel=>exact ⟨q,2*P,g1,k1,p1,g4,k4,p4,z1,z4,rfl,by omega,by omega,by omega,by omega,rfl,rfl,by omega,by omega,HN3.out,HN4.out,HV3,hB2⟩
    case measure=>simp [intOf];omega
theorem p10_posN (n:Nat):(0:Int)<10^n:=Int.pow_pos (by decide)
theorem val_ones:∀ t,val (fun _=>18446744073709551615) t=18446744073709551616^t-1
 | 0=>by simp [val]
 | t+1=>by
  show val (fun _=>18446744073709551615) t+18446744073709551615*18446744073709551616^t=18446744073709551616^(t+1)-1
  rw [val_ones t,Int.pow_succ];omega
theorem size_bound {z:Nat->Int}(hz:Words z){k t:Nat}(hs:sizeL z k=k)(hv:val z k<18446744073709551616^t):k<=t:=by
 rcases Nat.lt_or_ge t k with h|h
 ·have:=val_longer (x:=fun _=>18446744073709551615) (fun _=>(by decide:(0:Int)<=18446744073709551615/\(18446744073709551615:Int)<=18446744073709551615)) hz h hs
  rw [val_ones] at this;omega
 ·exact h
theorem p19:∀ t:Nat,(10:Int)^(19*t)<=18446744073709551616^t
 | 0=>by simp
 | t+1=>by
  have ih:=p19 t
  have e:(10:Int)^(19*(t+1))=10^(19*t)*10000000000000000000:=by rw [Nat.mul_add,Int.pow_add];rfl
  rw [e,Int.pow_succ]
  have h0:=pw_pos t
  have h1:=p10_posN (19*t)
  generalize (18446744073709551616:Int)^t=A at *
  generalize (10:Int)^(19*t)=B at *
  omega
theorem pow_le10 {b:Int}(hb:0<=b)(hb2:b<=10):∀ e:Nat,0<=b^e/\b^e<=10^e
 | 0=>by simp
 | e+1=>by
  have ih:=pow_le10 hb hb2 e
  rw [Int.pow_succ,Int.pow_succ]
  exact ⟨Int.mul_nonneg ih.1 hb,Int.mul_le_mul ih.2 hb2 hb (Int.le_of_lt (p10_posN e))⟩
theorem pow_small {b:Int}(hb:0<=b)(hb2:b<=10){e:Nat}(he:e<=12000):b^e<18446744073709551616^632:=by
 have h1:=(pow_le10 hb hb2 e).2
 have h2:=p19 632
 have h3:(10:Int)^e<10^(19*632):=by
  obtain ⟨k,hk⟩:∃ k,19*632=e+1+k:=⟨19*632-(e+1),by omega⟩
  rw [hk,Int.pow_add,Int.pow_succ]
  have:=p10_posN e
  have h4:=p10_posN k
  have h5:(10:Int)^e*10*1<=10^e*10*10^k:=Int.mul_le_mul_of_nonneg_left (by omega) (by omega)
  omega
 exact Int.lt_of_lt_of_le (Int.lt_of_le_of_lt h1 h3) h2
theorem npow_two (n:Nat)(w:World)(hn:n<=12000) :
  Calls Tryz.prog 61 #[.int .i64 2,.int .i64 n] w fun e w'=>∃ g k cap z,e=.returned (.tuple #[.slice (some ⟨g,0,none⟩) k cap,.int .i64 0])/\k<=2001/\Num w' (some ⟨g,0,none⟩) k cap z/\val z k=2^n/\sizeL z k=k/\Below w.heap.size w w':=by
 have hN1:=num_one w 1 (by decide)
 have hs:sizeL (oneW 1) 1=1:=by simp [sizeL,oneW]
 have hsh:=nshl_any _ 1 1 (oneW 1) n _ (by omega) hN1 (by omega) (by rw [hs];omega)
 rw [val_one1,Int.one_mul,Int.toNat_natCast] at hsh
 have HB:=below1 w (.cells #[.int .u64 1] 22)
 have hn':(n:Int)<=12000:=by omega
 clear hN1 hs
 go_enter Tryz.func61,Tryz.ntmps61
 go_wp2_with (go_at_call 106;refine hsh.mono ?_;rintro e w' ⟨g,k,cap,z,rfl,hk,hN,hv,hs,hB⟩)
 go_ret2
 exact ⟨g,k,cap,z,rfl,hk,hN,hv,hs,HB.trans (hB.mono HB.size)⟩
theorem npow_any (b:Int)(n:Nat)(w:World)(hb:b=5∨b=10)(hn:n<=12000) :
  Calls Tryz.prog 61 #[.int .i64 b,.int .i64 n] w fun e w'=>∃ g k cap z,e=.returned (.tuple #[.slice (some ⟨g,0,none⟩) k cap,.int .i64 0])/\k<=2001/\Num w' (some ⟨g,0,none⟩) k cap z/\val z k=b^n/\sizeL z k=k/\Below w.heap.size w w':=by
 have hb0:0<=b/\b<=10:=by omega
 have hbc:b=5∨b=10:=hb
 have hb2:(b==2)=false:=by simp;omega
 have hN1:=num_one w 1 (by decide)
 have hBB:=below1 w (.cells #[.int .u64 1] 22)
 have hn':(n:Int)<=12000:=by omega
 have hlen:=Tryz.bits_Len n (w.alloc (.cells #[.int .u64 1] 22)) (by omega) (by omega)
 rw [Int.toNat_natCast] at hlen
 obtain ⟨L,hL⟩:∃ L,Lib.bitLen n=L:=⟨_,rfl⟩
 have hL64:L<=64:=by rw [← hL];exact bitLen64 n
 have HLn:Hid (n/2^L=0):=by
  show _=_
  by_cases h0:n=0
  ·subst h0;simp
  ·have:=bitLen_spec n (by omega) (by omega)
   rw [hL] at this
   exact Nat.div_eq_of_lt this.2.2.2
 rw [hL] at hlen
 clear hL
 have HS1:Hid (sizeL (oneW 1) 1=1):=by show _=_;simp [sizeL,oneW]
 have hne:(b != 2)=true:=by simp;omega
 have hpick:(b != 5)=true/\(b != 10)=false∨(b != 5)=false:=by rcases hb with rfl|rfl<;>decide
 have hps:∀ e,e<=12000->b^e<18446744073709551616^632:=fun e he=>pow_small hb0.1 hb0.2 he
 have HPS:Hid (∀ e,e<=12000->b^e<18446744073709551616^632):=hps
 clear hps hb
 rcases hpick with ⟨h5,h10⟩|h5
 all_goals
  go_enter Tryz.func61,Tryz.ntmps61
  go_wp2_with (go_at_call 107;refine hlen.mono ?_;rintro e w' ⟨rfl,rfl⟩)
  generalize w.alloc (.cells #[.int .u64 1] 22)=wA at *
  go_loopw [6,7,40,51] (fun pv iv u40 u51 wr=>∃ (k kk g p:Nat) (z:Nat->Int),k<=L/\iv=.int .i64 ((k:Int)-1)/\pv=.slice (some ⟨g,0,none⟩) kk p/\kk<=632/\Num wr (some ⟨g,0,none⟩) kk p z/\sizeL z kk=kk/\Hid (val z kk=b^(n/2^k))/\Below w.heap.size w wr) (fun _ iv _ _ _=>(intOf iv+1).toNat)
  case atStart=>exact ⟨L,1,w.heap.size,1,oneW 1,Nat.le_refl _,by go_num,rfl,by omega,hN1,HS1.out,by show _=_;rw [val_one1,HLn.out,Int.pow_zero],hBB⟩
  case round =>
   clear hN1 hBB hlen
   obtain ⟨k,kk,g,p,z,hk,rfl,rfl,hkk,hN,hs,hv,hB⟩:=hrel
   by_cases h0:k=0
   ·subst h0
    have HV:Hid (val z kk=b^n):=by show _=_;have:=hv.out;simpa using this
    have HN:Hid (Num wr (some ⟨g,0,none⟩) kk p z):=hN
    have HS:Hid (sizeL z kk=kk):=hs
    clear hN hv hs
    go_wp2
    go_ret2
    exact ⟨g,kk,p,z,rfl,by omega,HN.out,HV.out,HS.out,hB⟩
   ·obtain ⟨j,rfl⟩:∃ j,k=j+1:=⟨k-1,by omega⟩
    have ej:((j+1:Nat):Int)-1=j:=by omega
    rw [ej]
    obtain ⟨e,he⟩:∃ e,n/2^j=e:=⟨_,rfl⟩
    have hcast:(n:Int)/2^j=(e:Int):=by rw [← he,Int.natCast_ediv,powCast]
    have hen:e<=n:=by rw [← he];exact Nat.div_le_self _ _
    have hand:=Go.Proofs.and_one e (by omega)
    have hhalf:n/2^(j+1)=e/2:=by rw [Nat.pow_succ,← Nat.div_div_eq_div_mul,he]
    have m1:=nmul_any (some ⟨g,0,none⟩) (some ⟨g,0,none⟩) kk p kk p z z wr (by omega) (by omega) hN hN (by omega)
    have HV1:Hid (val z kk*val z kk=b^(2*(e/2))):=by
     show _=_
     rw [hv.out,hhalf,← Int.pow_add];congr 1;omega
    have HJ:Hid (j<=L):=by show _<=_;omega
    have HE:Hid (n/2^j=e):=he
    clear ej he hhalf hN hs hv
    by_cases hodd:e%2=1
    ·rw [hodd] at hand
     go_wp2_with (go_at_call 62;refine m1.mono ?_;rintro e' w1 ⟨g1,k1,p1,z1,rfl,hk1,hN1,hv1,hs1,hb1⟩;clear m1)
     rw [HV1.out] at hv1
     have hk1b:k1<=632:=size_bound hN1.2.2.1 hs1 (by rw [hv1];exact HPS.out _ (by omega))
     have hB1:=hB.trans (hb1.mono hB.size)
     have hNb:=num_one w1 b (by omega)
     have hbb:=below1 w1 (.cells #[.int .u64 b] 22)
     have hsb:=sizeL_le (oneW b) 1
     have m2:=nmul_any (some ⟨g1,0,none⟩) (some ⟨w1.heap.size,0,none⟩) k1 p1 1 1 z1 (oneW b) (w1.alloc (.cells #[.int .u64 b] 22)) (by omega) (by omega) (hN1.next hbb) hNb (by omega)
     have HBB:Hid (Below w.heap.size w (w1.alloc (.cells #[.int .u64 b] 22))):=hB1.trans (hbb.mono hB1.size)
     clear hN1 hNb hbb
     go_wp2_with (go_at_call 62;refine m2.mono ?_;rintro e' w2 ⟨g2,k2,p2,z2,rfl,hk2,hN2,hv2,hs2,hb2⟩;clear m2)
     have hv3:val z2 k2=b^e:=by
      rw [hv2,hv1,val_one1,← Int.pow_succ];congr 1;omega
     have hk2b:k2<=632:=size_bound hN2.2.2.1 hs2 (by rw [hv3];exact HPS.out _ (by omega))
     have hB2:=HBB.out.trans (hb2.mono HBB.out.size)
     have HN2:Hid (Num w2 (some ⟨g2,0,none⟩) k2 p2 z2):=hN2
     clear hN2
     go_roundw
     case rel=>exact ⟨j,k2,g2,p2,z2,HJ.out,by go_num,rfl,hk2b,HN2.out,hs2,by show _=_;rw [HE.out,hv3],hB2⟩
     case measure=>simp [intOf]
    ·have he0:e%2=0:=by omega
     rw [he0] at hand
     go_wp2_with (go_at_call 62;refine m1.mono ?_;rintro e' w1 ⟨g1,k1,p1,z1,rfl,hk1,hN1,hv1,hs1,hb1⟩;clear m1)
     have hv3:val z1 k1=b^e:=by
      rw [hv1,HV1.out];congr 1;omega
     have hk1b:k1<=632:=size_bound hN1.2.2.1 hs1 (by rw [hv3];exact HPS.out _ (by omega))
     have hB1:=hB.trans (hb1.mono hB.size)
     have HN1:Hid (Num w1 (some ⟨g1,0,none⟩) k1 p1 z1):=hN1
     clear hN1
     go_roundw
     case rel=>exact ⟨j,k1,g1,p1,z1,HJ.out,by go_num,rfl,hk1b,HN1.out,hs1,by show _=_;rw [HE.out,hv3],hB1⟩
     case measure=>simp [intOf]
theorem radd_tr (a a':Option Addr)(n c n' c':Nat)(x y:Nat->Int)(w:World)(hn:n<4294967290)(hn':n'<4294967290)(h:Num w a n c x)(h':Num w a' n' c' y) :
  Calls Tryz.prog 27 #[.slice a n c,.slice a' n' c'] w fun e w'=>∃ g k cap,e=.returned (.slice (some ⟨g,0,none⟩) k cap)/\k<=max n n'+1/\Num w' (some ⟨g,0,none⟩) k cap (sumW x y)/\Below w.heap.size w w'/\sizeL (sumW x y) k=k:=by
 have hx:=h.2.2.1
 have hy:=h'.2.2.1
 have zx:=h.2.2.2.1
 have zy:=h'.2.2.2.1
 obtain ⟨M,hM⟩:∃ M,max n n'+1=M:=⟨_,rfl⟩
 have hMi:max (n:Int) n'+1=(M:Int):=by omega
 have hMb:M<4294967292:=by omega
 have hmk:=fun w=>make_any (max (n:Int) n'+1) M hMi (by omega) w
 have hfin:∀ (ss:Array Value),ss.size=M->(∀ j h,ss[j]'h=Value.int .u64 (sumW x y j))->Num (w.alloc (.cells ss 22)) (some ⟨w.heap.size,0,none⟩) M M (sumW x y):=fun ss h1 h2=>num_of_block (by omega) (sumW_words x y) (fun i hi=>sumW_zero (n:=max n n') hx hy (fun i hi=>zx i (by omega)) (fun i hi=>zy i (by omega)) i (by omega)) h1 (fun j hj=>by rw [h2 j hj])
 have hw1:=fun (i:Nat) (ss:Array Value)=>word_any a n c i x (w.alloc (.cells ss 22)) (h.next (below1 w _))
 have hw2:=fun (i:Nat) (ss:Array Value)=>word_any a' n' c' i y (w.alloc (.cells ss 22)) (h'.next (below1 w _))
 have HM:Hid (max n n'+1=M):=hM
 have HZ:Hid ((arrOf (fun _=>0) M).size=M/\∀ j h,(arrOf (fun _=>0) M)[j]'h=Value.int .u64 0):=⟨arrOf_size _ _,fun j h=>arrOf_get _ _ _ _⟩
 clear h h' zx zy hM hMi
 generalize arrOf (fun _=>0) M=zz at *
 go_enter Tryz.func27,Tryz.ntmps27
 go_wp2
 go_loopw [6,7,17,20] (fun c u7 i u20 wr=>∃ (k:Nat) (ss:Array Value),k<=M/\i=.int .i64 k/\c=.int .u64 (carryW x y k)/\ss.size=M/\(∀ j h,ss[j]'h=Value.int .u64 (if j<k then sumW x y j else 0))/\wr=w.alloc (.cells ss 22)) (fun _ _ i _ _=>M-(intOf i).toNat)
 case atStart=>exact ⟨0,zz,Nat.zero_le _,rfl,rfl,HZ.out.1,fun j h=>by rw [HZ.out.2 j h];simp,rfl⟩
 case round =>
  obtain ⟨k,ss,hk,rfl,rfl,hsz,hss,rfl⟩:=hrel
  have hcar:=carryW_01 hx hy k
  by_cases h8:k<M
  ·have h8i:(k:Int)<M:=by omega
   have h8s:k<ss.size:=by omega
   have bx:=hx k
   have b_y:=hy k
   have hsk:ss[k]?=some (.int .u64 0):=by rw [Array.getElem?_eq_getElem h8s,hss k h8s,if_neg (by omega)]
   have hadd:=fun w=>add64 (x k) (y k) (carryW x y k) bx.1 b_y.1 hcar.1 hcar.2 w
   have hwa:=hw1 k ss
   have hwb:=hw2 k ss
   have HR:Hid (∀ (i:Nat) (h:i<(ss.setIfInBounds k (.int .u64 (sumW x y k))).size),(ss.setIfInBounds k (.int .u64 (sumW x y k)))[i]'h=Value.int .u64 (if i<k+1 then sumW x y i else 0)):=set_next hss
   clear hss hw1 hw2 hfin hmk hx hy
   go_wp2_with (first|(go_at_call_of 34 (Value.slice a n c);refine hwa.mono ?_;rintro e w' ⟨rfl,rfl⟩)|(go_at_call_of 34 (Value.slice a' n' c');refine hwb.mono ?_;rintro e w' ⟨rfl,rfl⟩))
   go_roundw
   case rel=>exact ⟨k+1,ss.setIfInBounds k (.int .u64 (sumW x y k)),by omega,by go_num,rfl,by simp [hsz],HR.out,rfl⟩
   case measure=>simp [intOf];omega
  ·obtain rfl:k=M:=by omega
   have hss':∀ j h,ss[j]'h=Value.int .u64 (sumW x y j):=by
    intro j h;rw [hss j h,if_pos (by omega)]
   have hT:=trim_any _ _ _ _ _ (by omega) (hfin ss hsz hss')
   have hle:=sizeL_le (sumW x y) k
   clear hss hss' hw1 hw2 hfin hmk hx hy
   go_wp2_with (go_at_call 37;refine hT.mono ?_;rintro e w1 ⟨g,cap,rfl,hN,hB⟩)
   go_ret
   exact ⟨g,_,cap,rfl,Nat.le_trans hle (Nat.le_of_eq HM.out.symm),hN,(below1 w _).trans (hB.mono (by simp)),sizeL_sizeL _ _⟩
theorem radd_vt (a a':Option Addr)(n c n' c':Nat)(x y:Nat->Int)(w:World)(hn:n<4000000000)(hn':n'<4000000000)(h:Num w a n c x)(h':Num w a' n' c' y) :
  Calls Tryz.prog 27 #[.slice a n c,.slice a' n' c'] w fun e w'=>∃ g k cap z,e=.returned (.slice (some ⟨g,0,none⟩) k cap)/\k<=max n n'+1/\Num w' (some ⟨g,0,none⟩) k cap z/\val z k=val x n+val y n'/\Below w.heap.size w w'/\sizeL z k=k:=by
 refine (radd_tr a a' n c n' c' x y w (by omega) (by omega) h h').mono fun e w' ⟨g,k,cap,e1,hk,hN,hB,ht⟩=>⟨g,k,cap,_,e1,hk,hN,?_,hB,ht⟩
 have e:=sum_val (x:=x) (y:=y) (max n n'+1)
 rw [sum_end h.2.2.1 h'.2.2.1 h.2.2.2.1 h'.2.2.2.1 (by omega) (by omega),val_more h.2.2.2.1 _ (by omega),val_more h'.2.2.2.1 _ (by omega),val_more hN.2.2.2.1 _ hk] at e
 omega
end Go.Proofs.YtjfeaiaafbaobaaGreatDoor
