/-
  Texts that the proof leans on.
-/
import Derived.Test.YtahfkpjhlbiamaaGreatDoorL1
import Derived.Test.YtahfkpjhlbiamaaGreatDoorL15
import Derived.Test.YtahfkpjhlbiamaaGreatDoorL10
import Derived.Deep.Cut
import Derived.Test.YtahfkpjhlbiamaaGreatDoorL3
import Derived.Laws.BytesArg
import Derived.Test.YtahfkpjhlbiamaaGreatDoorL4
import Derived.Shelf.SlicesE.Reverse
import Derived.Test.YtahfkpjhlbiamaaGreatDoorL11
set_option maxHeartbeats 8000000
set_option linter.unusedVariables false
set_option linter.unusedSimpArgs false
set_option linter.unusedSectionVars false
set_option maxRecDepth 20000
namespace Go.Proofs.YtahfkpjhlbiamaaGreatDoor
open Go.RowKit
section
theorem sizeL_more {x:Nat->Int}{n:Nat}(hz:∀ i,n<=i->x i=0):∀ m,n<=m->sizeL x m=sizeL x n
  | 0, h => by have : n = 0 := by omega
               subst this;rfl
  | m+1,h=>by
    by_cases e:n=m+1
    · subst e;rfl
    · rw [show sizeL x (m+1)=sizeL x m by simp [sizeL,hz m (by omega)]]
      exact sizeL_more hz m (by omega)
def dnW (y:Int)(r:Nat):Int:=IntKind.u64.wrap (y*2^(64-r))
theorem shr_or {y:Nat->Int}(hy:Words y){r:Nat}(hr:r<64)(q i:Nat):orW (y (q+i)/2^r) (dnW (y (q+i+1)) r)=shrW y q r i:=by
 unfold shrW dnW
 by_cases h:r=0
 ·subst h
  rw [if_pos rfl,wrap_mod]
  have e:y (q+i+1)*2^(64-0)%18446744073709551616=0:=Int.mul_emod_left _ _
  rw [e,Int.pow_zero,Int.ediv_one,orW_zero _ (hy _)]
 ·rw [if_neg h]
def dnZ (z y:Nat->Int)(r m k j:Nat):Int:=if k<=j/\j<m then shrW y 0 r j else z j
theorem shiftDown_any (g N m c c' r:Nat)(a':Option Addr)(z y:Nat->Int)(w:World)(hm:m<=N)(hN:N<4294967296)(hr:r<64)(h:Own g N z w)(h':Num w a' m c' y)(hA:Apart a' g) :
  Calls Tryz.prog 190 #[.slice (some ⟨g,0,none⟩) m c,.slice a' m c',.int .i64 r] w fun e w'=>e=.returned (.tuple #[])/\Own g N (dnZ z y r m 0) w'/\Upd g w w':=by
 have hy:=h'.2.2.1
 have hri:(r:Int)<64:=by omega
 have e64:((64:Int)-r).toNat=64-r:=by omega
 have hk0:=h'.2.2.2.1 m (Nat.le_refl _)
 go_enter Tryz.func190,Tryz.ntmps190
 go_wp2
 go_loopw [6,7] (fun cv i wr=>∃ (k:Nat),k<=m/\i=.int .i64 ((k:Int)-1)/\cv=.int .u64 (dnW (y k) r)/\Own g N (dnZ z y r m k) wr/\Upd g w wr) (fun _ i _=>(intOf i+1).toNat)
 case atStart=>exact ⟨m,Nat.le_refl _,by go_num,by rw [hk0];unfold dnW;rw [Int.zero_mul,wrap_id 0 (by decide)],h.congr fun i _=>by unfold dnZ;rw [if_neg (by omega)],Upd.refl _ _⟩
 case round =>
  obtain ⟨k,hk,rfl,rfl,hO,hU⟩:=hrel
  have hpb:0<=dnW (y k) r/\dnW (y k) r<=18446744073709551615:=wrap_word _
  by_cases h0:k=0
  ·subst h0
   have HO:Hid (Own g N (dnZ z y r m 0) wr):=hO
   have HU:Hid (Upd g w wr):=hU
   clear hO hU h h' hA hy hk0
   go_wp2
   go_end0
   exact ⟨rfl,HO.out,HU.out⟩
  ·obtain ⟨j,rfl⟩:∃ j,k=j+1:=⟨k-1,by omega⟩
   have ej:((j+1:Nat):Int)-1=j:=by omega
   rw [ej]
   have hjm:(j:Int)<m:=by omega
   obtain ⟨b,off',rfl,hb,hc⟩:=(hU.num' hA h').cells (by omega)
   have hcj:=hc j (by omega)
   have hco:∃ u,wr.cell? ⟨g,j,none⟩=some (.int .u64 u):=⟨_,hO.cell j (by omega)⟩
   obtain ⟨u,hco⟩:=hco
   have hfo:=hO.frozen j
   have b_y:=hy j
   have hbg:b≠g:=hA _ rfl
   have hcj2:∀ v,(wr.setCell ⟨g,j,none⟩ v).cell? ⟨b,off'+j,none⟩=some (.int .u64 (y j)):=fun v=>(World.cell?_of_block (w:=wr) (a:=⟨b,off'+j,none⟩) (Below.heap_setCell wr ⟨g,j,none⟩ v b hbg)).trans hcj
   have HS:Hid (bits BinOp.or IntKind.u64 (y j/2^r) (dnW (y (j+1)) r)=shrW y 0 r j):=by
    show _=_
    have:=shr_or hy hr 0 j
    rw [Nat.zero_add] at this
    exact this
   have HO:Hid (Own g N (dnZ z y r m j) (wr.setCell ⟨g,j,none⟩ (.int .u64 (shrW y 0 r j)))):=(hO.set j _).congr fun i _=>by
    unfold dnZ
    by_cases e:i=j
    ·subst e;rw [if_pos rfl,if_pos (by omega)]
    ·rw [if_neg e]
     by_cases e2:j+1<=i/\i<m
     ·rw [if_pos e2,if_pos (by omega)]
     ·rw [if_neg e2,if_neg (by omega)]
   have HU:Hid (Upd g w (wr.setCell ⟨g,j,none⟩ (.int .u64 (shrW y 0 r j)))):=hU.set j _
   rw [← HS.out] at HO HU
   have HDW:Hid (IntKind.u64.wrap (y j*2^(64-r))=dnW (y j) r):=rfl
   clear hO hU hc h h' hA hy hk0 HS ej
   generalize dnW (y (j+1)) r=pv at *
   go_wp2
   go_roundw
   case rel=>exact ⟨j,by omega,by go_num,by rw [← HDW.out],HO.out,HU.out⟩
   case measure=>simp [intOf]
theorem Num.drop {w:World}{b off n c q:Nat}{x:Nat->Int}(h:Num w (some ⟨b,off,none⟩) n c x)(hq:q<=n):Num w (some ⟨b,off+q,none⟩) (n-q) (c-q) (fun i=>x (q+i)):=by
 obtain ⟨h1,h2,h3,h4,h5⟩:=h
 refine ⟨by omega,by omega,fun i=>h3 (q+i),fun i hi=>h4 (q+i) (by omega),?_⟩
 rcases h5 with ⟨h5,_⟩|⟨b',off',h6,h7,h8⟩
 ·cases h5
 ·cases h6
  exact Or.inr ⟨b,off+q,rfl,h7,fun i hi=>by have:=h8 (q+i) (by omega);rw [Nat.add_assoc];exact this⟩
theorem Num.take {w:World}{b off n c q:Nat}{x:Nat->Int}(h:Num w (some ⟨b,off,none⟩) n c x)(hq:q<=n):Num w (some ⟨b,off,none⟩) q c (segW x 0 q):=by
 obtain ⟨h1,h2,h3,h4,h5⟩:=h
 refine ⟨by omega,by omega,segW_words h3 0 q,fun i hi=>segW_zero x 0 q i hi,?_⟩
 rcases h5 with ⟨h5,_⟩|⟨b',off',h6,h7,h8⟩
 ·cases h5
 ·cases h6
  exact Or.inr ⟨b,off,rfl,h7,fun i hi=>by rw [h8 i (by omega),segW_lt x 0 q i hi,Nat.zero_add]⟩
theorem out_test {y:Int}{r:Nat}(hr:r<64):(IntKind.u64.wrap (y*2^(64-r)) != 0)=decide (y%2^r≠0):=by
 have hp:=p2_pos (64-r)
 have e:y*2^(64-r)%18446744073709551616=y%2^r*2^(64-r):=by
  have h1:=Int.mul_emod_mul_of_pos y (2^r) hp
  have h2:=p2_split (show r<=64 by omega)
  rw [← h2,Int.mul_comm y,h1,Int.mul_comm]
 rw [wrap_mod,e]
 by_cases h:y%2^r=0
 ·simp [h]
 ·have:y%2^r*2^(64-r)≠0:=Int.mul_ne_zero h (by omega)
  simp [h,this]
set_option maxRecDepth 20000 in
theorem nshr_any (a:Option Addr)(n c q r:Nat)(x:Nat->Int)(d:Int)(w:World)(hn:n<4000000000)(h:Num w a n c x)(hd:1<=d)(hq:d/64=q)(hr:d%64=r)(hqs:q<sizeL x n) :
  Calls Tryz.prog 150 #[.slice a n c,.int .i64 d] w fun e w'=>∃ g k cap,e=.returned (.tuple #[.slice (some ⟨g,0,none⟩) k cap,.bool (goneB x q r)])/\k<=n/\Num w' (some ⟨g,0,none⟩) k cap (shrW x q r)/\sizeL (shrW x q r) k=k/\Below w.heap.size w w':=by
 have hb:=bare_any a n c x w (by omega) h
 have hx:=h.2.2.1
 have hle:=sizeL_le x n
 have hN:=h.bare
 generalize sizeL x n=s at *
 clear h
 have hr64:r<64:=by omega
 obtain ⟨b,off,rfl,hbs,hc⟩:=hN.cells (by omega)
 have hcq:=hc q hqs
 have bq:=hx q
 have hcap:=hN.1
 have ht:=out_test (y:=x q) hr64
 have e64:((64:Int)-r).toNat=64-r:=by omega
 have hr64i:(r:Int)<64:=by omega
 have hbt:=bare_any (some ⟨b,off,none⟩) q c (segW x 0 q) w (by omega) (hN.take (by omega))
 have es:sizeL (segW x 0 q) q=sizeL x q:=sizeL_congr q fun i hi=>by rw [segW_lt x 0 q i hi,Nat.zero_add]
 rw [es] at hbt
 have hsq:=sizeL_le x q
 obtain ⟨N,hNs⟩:∃ N,s-q=N:=⟨_,rfl⟩
 have hNi:(s:Int)-q=N:=by omega
 have hmk:=fun w=>make_any ((s:Int)-q) N hNi (by omega) w
 have hA:=apart_of (hN.drop (q:=q) (by omega))
 have hO:=Own.new w (fun _=>0) N
 have hBW:=below1 w (.cells (arrOf (fun _=>0) N) 22)
 have hsd:=shiftDown_any w.heap.size N N N (c-q) r (some ⟨b,off+q,none⟩) (fun _=>0) (fun i=>x (q+i)) _ (Nat.le_refl _) (by omega) hr64 hO (by have:=(hN.drop (q:=q) (by omega)).next hBW;rw [hNs] at this;exact this) hA
 have HZ:Hid (∀ j,N<=j->shrW x q r j=0):=fun j hj=>shrW_zero hN.2.2.2.1 q r j (by omega)
 have HW:Hid (Words (shrW x q r)):=shrW_words hx q r
 have HD:Hid (∀ i,i<N->dnZ (fun _=>0) (fun i=>x (q+i)) r N 0 i=shrW x q r i):=fun i hi=>by
  unfold dnZ;rw [if_pos (by omega)];unfold shrW;simp only [Nat.zero_add,Nat.add_assoc]
 have HB:Hid (Below w.heap.size w (w.alloc (.cells (arrOf (fun _=>0) N) 22))):=hBW
 have HNN:Hid (N<=s):=by show _<=_;omega
 have hqsi:(q:Int)<s:=by omega
 have hqc:(q:Int)<=c:=by omega
 have HG:Hid (goneB x q r=(decide (0<sizeL x q)||decide (x q%2^r≠0))):=rfl
 have fin:∀ w1,Own w.heap.size N (dnZ (fun _=>0) (fun i=>x (q+i)) r N 0) w1->∃ k,k<=N/\Num w1 (some ⟨w.heap.size,0,none⟩) k N (shrW x q r)/\sizeL (shrW x q r) k=k/\CQ 102 #[.slice (some ⟨w.heap.size,0,none⟩) N N] w1 (.slice (some ⟨w.heap.size,0,none⟩) k N):=by
  intro w1 hO1
  have hO2:=hO1.congr HD.out
  have h1:=hO2.num HW.out 0 N N (by omega) (Nat.le_refl _) (by unfold maxLen;omega)
  have e:segW (shrW x q r) 0 N=shrW x q r:=by
   funext i
   by_cases hi:i<N
   ·rw [segW_lt _ 0 N i hi,Nat.zero_add]
   ·rw [segW_zero _ 0 N i (by omega),HZ.out i (by omega)]
  rw [e] at h1
  exact ⟨sizeL (shrW x q r) N,sizeL_le _ _,h1.bare,sizeL_sizeL _ _,bare_any _ N N _ w1 (by omega) h1⟩
 have FIN:Hid (∀ w1,Own w.heap.size N (dnZ (fun _=>0) (fun i=>x (q+i)) r N 0) w1->∃ k,k<=N/\Num w1 (some ⟨w.heap.size,0,none⟩) k N (shrW x q r)/\sizeL (shrW x q r) k=k/\CQ 102 #[.slice (some ⟨w.heap.size,0,none⟩) N N] w1 (.slice (some ⟨w.heap.size,0,none⟩) k N)):=fin
 clear fin hBW hN hA hO hc hx HZ HW HD es hNi
 generalize dnZ (fun _=>0) (fun i=>x (q+i)) r N 0=zz at *
 by_cases hm:x q%2^r=0
 ·have htf:(IntKind.u64.wrap (x q*2^(64-r)) != 0)=false:=by rw [ht];simp [hm]
  have HGv:Hid (goneB x q r=decide (0<sizeL x q)):=by show _=_;rw [HG.out];simp [hm]
  generalize sizeL x q=sq at *
  clear ht HG hm
  by_cases hsq0:sq=0
  ·subst hsq0
   go_enter Tryz.func150,Tryz.ntmps150
   go_wp2_with (first|(go_at_call_of 102 (Value.slice (some ⟨b,off,none⟩) n c);refine hb.mono ?_;rintro e w' ⟨rfl,rfl⟩;clear hb)|(go_at_call_of 102 (Value.slice (some ⟨b,off,none⟩) q c);refine hbt.mono ?_;rintro e w' ⟨rfl,rfl⟩;clear hbt)|(go_at_call 190;refine hsd.mono ?_;rintro e w1 ⟨rfl,hO1,hU1⟩))
   obtain ⟨k,hkN,hNk,hsk,hbr⟩:=FIN.out w1 hO1
   have HB2:Hid (Below w.heap.size w w1):=HB.out.trans (hU1.below (Nat.le_refl _))
   have HNk:Hid (Num w1 (some ⟨w.heap.size,0,none⟩) k N (shrW x q r)):=hNk
   clear hO1 hU1 hNk
   go_wp2_with (go_at_call 102;refine hbr.mono ?_;rintro e w3 ⟨rfl,rfl⟩)
   go_ret2
   exact ⟨_,k,N,by rw [HGv.out];rfl,by have:=HNN.out;omega,HNk.out,hsk,HB2.out⟩
  ·have hsq0':(0:Int)<sq:=by omega
   go_enter Tryz.func150,Tryz.ntmps150
   go_wp2_with (first|(go_at_call_of 102 (Value.slice (some ⟨b,off,none⟩) n c);refine hb.mono ?_;rintro e w' ⟨rfl,rfl⟩;clear hb)|(go_at_call_of 102 (Value.slice (some ⟨b,off,none⟩) q c);refine hbt.mono ?_;rintro e w' ⟨rfl,rfl⟩;clear hbt)|(go_at_call 190;refine hsd.mono ?_;rintro e w1 ⟨rfl,hO1,hU1⟩))
   obtain ⟨k,hkN,hNk,hsk,hbr⟩:=FIN.out w1 hO1
   have HB2:Hid (Below w.heap.size w w1):=HB.out.trans (hU1.below (Nat.le_refl _))
   have HNk:Hid (Num w1 (some ⟨w.heap.size,0,none⟩) k N (shrW x q r)):=hNk
   clear hO1 hU1 hNk
   go_wp2_with (go_at_call 102;refine hbr.mono ?_;rintro e w3 ⟨rfl,rfl⟩)
   go_ret2
   exact ⟨_,k,N,by rw [HGv.out];rfl,by have:=HNN.out;omega,HNk.out,hsk,HB2.out⟩
 ·have htt:(IntKind.u64.wrap (x q*2^(64-r)) != 0)=true:=by rw [ht];simp [hm]
  have HGv:Hid (goneB x q r=true):=by show _=_;rw [HG.out];simp [hm]
  clear ht HG hm
  go_enter Tryz.func150,Tryz.ntmps150
  go_wp2_with (first|(go_at_call_of 102 (Value.slice (some ⟨b,off,none⟩) n c);refine hb.mono ?_;rintro e w' ⟨rfl,rfl⟩;clear hb)|(go_at_call_of 102 (Value.slice (some ⟨b,off,none⟩) q c);refine hbt.mono ?_;rintro e w' ⟨rfl,rfl⟩;clear hbt)|(go_at_call 190;refine hsd.mono ?_;rintro e w1 ⟨rfl,hO1,hU1⟩))
  obtain ⟨k,hkN,hNk,hsk,hbr⟩:=FIN.out w1 hO1
  have HB2:Hid (Below w.heap.size w w1):=HB.out.trans (hU1.below (Nat.le_refl _))
  have HNk:Hid (Num w1 (some ⟨w.heap.size,0,none⟩) k N (shrW x q r)):=hNk
  clear hO1 hU1 hNk
  go_wp2_with (go_at_call 102;refine hbr.mono ?_;rintro e w3 ⟨rfl,rfl⟩)
  go_ret2
  exact ⟨_,k,N,by rw [HGv.out];rfl,by have:=HNN.out;omega,HNk.out,hsk,HB2.out⟩
theorem nshr_small (a:Option Addr)(n c:Nat)(x:Nat->Int)(d:Int)(w:World)(hn:n<4000000000)(h:Num w a n c x)(hd:d<1) :
  Calls Tryz.prog 150 #[.slice a n c,.int .i64 d] w fun e w'=>e=.returned (.tuple #[.slice (some ⟨w.heap.size,0,none⟩) (sizeL x n) (sizeL x n),.bool false])/\w.alloc (.cells (arrOf x (sizeL x n)) 22)=w':=by
 have ht:=ntrim_any a n c x w (by omega) h
 generalize sizeL x n=s at *
 clear h
 go_enter Tryz.func150,Tryz.ntmps150
 go_wp2_with (go_at_call 103;refine ht.mono ?_;rintro e w' ⟨rfl,rfl⟩)
 go_ret2
 exact ⟨rfl,rfl⟩
set_option maxRecDepth 20000 in
theorem nshr_all_out (a:Option Addr)(n c:Nat)(x:Nat->Int)(d:Int)(w:World)(hn:n<4000000000)(h:Num w a n c x)(hd:1<=d)(hd2:d<=9223372036854775807)(hq:(sizeL x n:Int)<=d/64) :
  CQ 150 #[.slice a n c,.int .i64 d] w (.tuple #[.slice none 0 0,.bool (decide (0<sizeL x n))]):=by
 have hb:=bare_any a n c x w (by omega) h
 generalize sizeL x n=s at *
 clear h
 obtain ⟨q,hq2⟩:∃ q:Nat,d/64=q:=⟨(d/64).toNat,by omega⟩
 obtain ⟨r,hr⟩:∃ r:Nat,d%64=r:=⟨(d%64).toNat,by omega⟩
 rw [hq2] at hq
 have hqn:s<=q:=by omega
 have hqm:¬ q<s:=by omega
 have hqb:(q:Int)<=144115188075855871:=by omega
 go_enter Tryz.func150,Tryz.ntmps150
 go_wp2_with (go_at_call 102;refine hb.mono ?_;rintro e w' ⟨rfl,rfl⟩)
 go_ret2
 exact ⟨rfl,rfl⟩
def shrF (x:Nat->Int)(d:Int):Nat->Int:=if d<1 then x else shrW x (d/64).toNat (d%64).toNat
def shrG (x:Nat->Int)(d:Int):Bool:=if d<1 then false else goneB x (d/64).toNat (d%64).toNat
theorem goneB_out {x:Nat->Int}{n q r:Nat}(zx:∀ i,n<=i->x i=0)(h:sizeL x n<=q):goneB x q r=decide (0<sizeL x n):=by
 have z:=sizeL_zero n zx
 unfold goneB
 rw [z q h,← sizeL_sizeL x n,sizeL_more z q h]
 simp
theorem nshr_all (a:Option Addr)(n c:Nat)(x:Nat->Int)(d:Int)(w:World)(hn:n<4000000000)(h:Num w a n c x)(hd2:d<=9223372036854775807) :
  Calls Tryz.prog 150 #[.slice a n c,.int .i64 d] w fun e w'=>∃ o k cap,e=.returned (.tuple #[.slice o k cap,.bool (shrG x d)])/\k<=n/\Num w' o k cap (shrF x d)/\sizeL (shrF x d) k=k/\Below w.heap.size w w':=by
 have hle:=sizeL_le x n
 by_cases hd:d<1
 ·have e1:shrF x d=x:=by unfold shrF;rw [if_pos hd]
  have e2:shrG x d=false:=by unfold shrG;rw [if_pos hd]
  rw [e1,e2]
  refine (nshr_small a n c x d w hn h hd).mono fun e w' hw=>⟨_,sizeL x n,sizeL x n,hw.1,hle,?_,sizeL_sizeL x n,hw.2▸below1 w _⟩
  rw [← hw.2]
  exact num_of_block (by omega) h.2.2.1 h.bare.2.2.2.1 (arrOf_size _ _) (fun j hj=>arrOf_get _ _ _ _)
 ·obtain ⟨q,hq⟩:∃ q:Nat,d/64=q:=⟨(d/64).toNat,by omega⟩
  obtain ⟨r,hr⟩:∃ r:Nat,d%64=r:=⟨(d%64).toNat,by omega⟩
  have e1:shrF x d=shrW x q r:=by unfold shrF;rw [if_neg hd,hq,hr,Int.toNat_natCast,Int.toNat_natCast]
  have e2:shrG x d=goneB x q r:=by unfold shrG;rw [if_neg hd,hq,hr,Int.toNat_natCast,Int.toNat_natCast]
  rw [e1,e2]
  by_cases hqs:q<sizeL x n
  ·exact (nshr_any a n c q r x d w hn h (by omega) hq hr hqs).mono fun e w' ⟨g,k,cap,e1,h2,h3,h4,h5⟩=>⟨_,k,cap,e1,h2,h3,h4,h5⟩
  ·have e3:shrW x q r=fun _=>0:=by funext j;exact shrW_zero h.bare.2.2.2.1 q r j (by omega)
   rw [e3,goneB_out h.2.2.2.1 (by omega)]
   exact (nshr_all_out a n c x d w hn h (by omega) hd2 (by omega)).mono fun e w' hw=>⟨none,0,0,hw.1,Nat.zero_le _,num_none w',rfl,hw.2▸Below.refl _ _⟩
end
section
structure Gs (R D u1 u0 v1 v0 P a b:Int):Prop where
 hR:R=a+(u1*18446744073709551616+u0)*(P*18446744073709551616)
 hD:D=b+(v1*18446744073709551616+v0)*P
 p:0<P
 a0:0<=a
 a1:a<P*18446744073709551616
 b0:0<=b
 b1:b<P
 u1w:0<=u1/\u1<=18446744073709551615
 u0w:0<=u0/\u0<=18446744073709551615
 v1w:9223372036854775808<=v1/\v1<=18446744073709551615
 v0w:0<=v0/\v0<=18446744073709551615
 lt:R<D*18446744073709551616
section
variable {R D u1 u0 v1 v0 P a b:Int}
theorem Gs.lowR (h:Gs R D u1 u0 v1 v0 P a b):(u1*18446744073709551616+u0)*18446744073709551616*P<=R:=by
 have:=h.hR;have:=h.a0
 have e:(u1*18446744073709551616+u0)*18446744073709551616*P=(u1*18446744073709551616+u0)*(P*18446744073709551616):=by grind
 omega
theorem Gs.highR (h:Gs R D u1 u0 v1 v0 P a b):R<((u1*18446744073709551616+u0)+1)*18446744073709551616*P:=by
 have:=h.hR;have:=h.a1
 have e:((u1*18446744073709551616+u0)+1)*18446744073709551616*P=(u1*18446744073709551616+u0)*(P*18446744073709551616)+P*18446744073709551616:=by grind
 omega
theorem Gs.lowD (h:Gs R D u1 u0 v1 v0 P a b):(v1*18446744073709551616+v0)*P<=D:=by have:=h.hD;have:=h.b0;omega
theorem Gs.highD (h:Gs R D u1 u0 v1 v0 P a b):D<=(v1*18446744073709551616+v0+1)*P:=by
 have:=h.hD;have:=h.b1
 have e:(v1*18446744073709551616+v0+1)*P=(v1*18446744073709551616+v0)*P+P:=by grind
 omega
theorem Gs.posD (h:Gs R D u1 u0 v1 v0 P a b):0<D:=by
 have h1:=h.lowD
 have:0<(v1*18446744073709551616+v0)*P:=Int.mul_pos (by have:=h.v1w;have:=h.v0w;omega) h.p
 omega
theorem Gs.times_ge (h:Gs R D u1 u0 v1 v0 P a b){k N:Int}(hk:0<=k)(hN:N<=k*(v1*18446744073709551616+v0)):N*P<=k*D:=by
 have h1:k*((v1*18446744073709551616+v0)*P)<=k*D:=Int.mul_le_mul_of_nonneg_left h.lowD hk
 have h2:N*P<=k*(v1*18446744073709551616+v0)*P:=Int.mul_le_mul_of_nonneg_right hN (Int.le_of_lt h.p)
 rw [Int.mul_assoc] at h2
 omega
theorem Gs.times_le (h:Gs R D u1 u0 v1 v0 P a b){k N:Int}(hk:0<=k)(hN:k*(v1*18446744073709551616+v0+1)<=N):k*D<=N*P:=by
 have h1:k*D<=k*((v1*18446744073709551616+v0+1)*P):=Int.mul_le_mul_of_nonneg_left h.highD hk
 have h2:k*(v1*18446744073709551616+v0+1)*P<=N*P:=Int.mul_le_mul_of_nonneg_right hN (Int.le_of_lt h.p)
 rw [Int.mul_assoc] at h2
 omega
theorem Gs.first (h:Gs R D u1 u0 v1 v0 P a b):R<((u1*18446744073709551616+u0)/v1+1)*D:=by
 have hv:0<v1:=by have:=h.v1w;omega
 have h1:=h.highR
 have hq:=Int.lt_mul_ediv_self_add (x:=u1*18446744073709551616+u0) hv
 have hq0:0<=(u1*18446744073709551616+u0)/v1:=Int.ediv_nonneg (by have:=h.u1w;have:=h.u0w;omega) (Int.le_of_lt hv)
 have:=h.v0w
 generalize (u1*18446744073709551616+u0)/v1=k at *
 have h2:(u1*18446744073709551616+u0+1)*18446744073709551616<=(k+1)*(v1*18446744073709551616+v0):=by
  have e:(k+1)*(v1*18446744073709551616+v0)=(v1*k+v1)*18446744073709551616+(k+1)*v0:=by grind
  have:0<=(k+1)*v0:=Int.mul_nonneg (by omega) (by omega)
  omega
 have h3:=h.times_ge (by omega) h2
 omega
theorem Gs.great (h:Gs R D u1 u0 v1 v0 P a b){k r:Int}(hk:0<=k)(he:k*v1+r=u1*18446744073709551616+u0)(ht:(r+1)*18446744073709551616<=k*v0):R<k*D:=by
 have h1:=h.highR
 have h2:(u1*18446744073709551616+u0+1)*18446744073709551616<=k*(v1*18446744073709551616+v0):=by
  have e:k*(v1*18446744073709551616+v0)=(k*v1)*18446744073709551616+k*v0:=by grind
  omega
 have h3:=h.times_ge hk h2
 omega
theorem Gs.stands (h:Gs R D u1 u0 v1 v0 P a b){k r:Int}(hk:0<=k)(hk2:k<=18446744073709551615)(he:k*v1+r=u1*18446744073709551616+u0)(ht:k*v0<(r+1)*18446744073709551616):(k-1)*D<=R:=by
 have h1:=h.lowR
 by_cases h0:k=0
 ·subst h0
  have:=h.posD
  have:0<=(u1*18446744073709551616+u0)*18446744073709551616*P:=Int.mul_nonneg (Int.mul_nonneg (by have:=h.u1w;have:=h.u0w;omega) (by decide)) (Int.le_of_lt h.p)
  omega
 ·have hv:=h.v1w
  have hv0:=h.v0w
  have h2:(k-1)*(v1*18446744073709551616+v0+1)<=(u1*18446744073709551616+u0)*18446744073709551616:=by
   have e:(k-1)*(v1*18446744073709551616+v0+1)=(k*v1)*18446744073709551616+k*v0+k-v1*18446744073709551616-v0-1:=by grind
   omega
  have h3:=h.times_le (by omega) h2
  omega
theorem Gs.full (h:Gs R D u1 u0 v1 v0 P a b)(he:v1<=u1):(18446744073709551615-1)*D<=R:=by
 have h1:=h.lowR
 have hv:=h.v1w
 have hv0:=h.v0w
 have hu0:=h.u0w
 have h2:(18446744073709551615-1)*(v1*18446744073709551616+v0+1)<=(u1*18446744073709551616+u0)*18446744073709551616:=by omega
 have h3:=h.times_le (by decide) h2
 omega
end
theorem dn_val {y:Nat->Int}(hy:Words y){r:Nat}(hr:r<64):∀ m,val (shrW y 0 r) m*2^r+y 0%2^r=val y m+y m%2^r*18446744073709551616^m
 | 0=>by simp [val]
 | m+1=>by
  have ih:=dn_val hy hr m
  have hp:=p2_pos r
  have e1:shrW y 0 r m=y m/2^r+y (m+1)%2^r*2^(64-r):=by
   have h1:=shr_or hy hr 0 m
   rw [Nat.zero_add] at h1
   rw [← h1]
   unfold dnW
   have hme:y (m+1)*2^(64-r)%18446744073709551616=y (m+1)%2^r*2^(64-r):=by
    have h3:=Int.mul_emod_mul_of_pos (y (m+1)) (2^r) (p2_pos (64-r))
    rw [← p2_split (show r<=64 by omega),Int.mul_comm (y (m+1)),h3,Int.mul_comm]
   have hlt:y m/2^r<2^(64-r):=by
    refine Int.ediv_lt_of_lt_mul hp ?_
    rw [p2_split (show r<=64 by omega)]
    have:=hy m;omega
   by_cases h0:r=0
   ·subst h0
    have:y (m+1)*2^(64-0)%18446744073709551616=0:=Int.mul_emod_left _ _
    rw [wrap_mod,this,orW_zero _ (div_word _ _ (hy m))]
    simp [Int.emod_one]
   ·have h64:64-(64-r)=r:=by omega
    have ho:=or_shl (y:=y (m+1)) (b:=y m/2^r) (r:=64-r) (by omega) (hy (m+1)).1 ⟨(div_word _ _ (hy m)).1,hlt⟩
    rw [ho,hme];omega
  show (val (shrW y 0 r) m+shrW y 0 r m*18446744073709551616^m)*2^r+y 0%2^r=val y m+y m*18446744073709551616^m+y (m+1)%2^r*18446744073709551616^(m+1)
  have e2:=Int.emod_add_mul_ediv (y m) (2^r)
  have e3:=p2_split (show r<=64 by omega)
  rw [e1,Int.pow_succ]
  generalize (18446744073709551616:Int)^m=Q at *
  generalize y m/2^r=A at *
  generalize y m%2^r=A' at *
  generalize y (m+1)%2^r=C at *
  generalize y 0%2^r=Z at *
  generalize (2:Int)^(64-r)=T at *
  generalize (2:Int)^r=S at *
  grind
end
def gsL (v1 v0:Int):Nat->Int->Int->Int
 | 0,d,r=>d
 | f+1,d,r=>if d*v0/18446744073709551616<=r then d else if 18446744073709551616<=r+v1 then d-1 else gsL v1 v0 f (d-1) (r+v1)
def gsF (u1 u0 v1 v0:Int):Int:=if v1<=u1 then 18446744073709551615 else gsL v1 v0 2 ((u1*18446744073709551616+u0)/v1) ((u1*18446744073709551616+u0)%v1)
theorem gs_one {d v0 r:Int}(hd:0<=d)(hr:0<=r)(h:¬ d*v0/18446744073709551616<=r):1<=d:=by
 by_cases e:d=0
 ·subst e;rw [Int.zero_mul] at h;omega
 ·omega
theorem gsL_spec {R D u1 u0 v1 v0 P a b:Int}(G:Gs R D u1 u0 v1 v0 P a b):∀ (f:Nat) (d r:Int),0<=d->d<=18446744073709551615->0<=r->r<=18446744073709551615->d*v1+r=u1*18446744073709551616+u0->R<(d+1)*D->18446744073709551616<=r+f*v1 ->
  0<=gsL v1 v0 f d r/\gsL v1 v0 f d r<=18446744073709551615/\R<(gsL v1 v0 f d r+1)*D/\(gsL v1 v0 f d r-1)*D<=R
 | 0,d,r,h1,h2,h3,h4,he,hR,hf=>by simp at hf;omega
 | f+1,d,r,h1,h2,h3,h4,he,hR,hf=>by
  unfold gsL
  by_cases hh:d*v0/18446744073709551616<=r
  ·rw [if_pos hh]
   exact ⟨h1,h2,hR,G.stands h1 h2 he (by omega)⟩
  ·rw [if_neg hh]
   have h11:=gs_one h1 h3 hh
   have hR2:R<(d-1+1)*D:=by
    have:=G.great h1 he (by omega)
    rw [show d-1+1=d by omega];exact this
   have he2:(d-1)*v1+(r+v1)=u1*18446744073709551616+u0:=by rw [Int.sub_mul];omega
   have hv:=G.v1w
   have hv0:=G.v0w
   by_cases ho:18446744073709551616<=r+v1
   ·rw [if_pos ho]
    refine ⟨by omega,by omega,hR2,G.stands (by omega) (by omega) he2 ?_⟩
    have:(d-1)*v0<=18446744073709551615*18446744073709551615:=Int.mul_le_mul (by omega) hv0.2 hv0.1 (by decide)
    omega
   ·rw [if_neg ho]
    refine gsL_spec G f (d-1) (r+v1) (by omega) (by omega) (by omega) (by omega) he2 hR2 ?_
    have e:((f+1:Nat):Int)*v1=f*v1+v1:=by rw [Int.natCast_add,Int.add_mul];simp
    rw [e] at hf
    omega
theorem gsF_spec {R D u1 u0 v1 v0 P a b:Int}(G:Gs R D u1 u0 v1 v0 P a b):0<=gsF u1 u0 v1 v0/\gsF u1 u0 v1 v0<=18446744073709551615/\R<(gsF u1 u0 v1 v0+1)*D/\(gsF u1 u0 v1 v0-1)*D<=R:=by
 have hv:=G.v1w
 have hu:=G.u1w
 have hu0:=G.u0w
 unfold gsF
 by_cases h:v1<=u1
 ·rw [if_pos h]
  refine ⟨by decide,by decide,?_,G.full h⟩
  have:=G.lt
  rw [Int.mul_comm];exact this
 ·rw [if_neg h]
  have h1:0<=(u1*18446744073709551616+u0)/v1:=Int.ediv_nonneg (by omega) (by omega)
  have h2:(u1*18446744073709551616+u0)/v1<18446744073709551616:=Int.ediv_lt_of_lt_mul (by omega) (by omega)
  have h3:=Int.emod_nonneg (u1*18446744073709551616+u0) (show v1≠0 by omega)
  have h4:=Int.emod_lt_of_pos (u1*18446744073709551616+u0) (show 0<v1 by omega)
  have h5:=Int.emod_add_mul_ediv (u1*18446744073709551616+u0) v1
  refine gsL_spec G 2 _ _ h1 (by omega) h3 (by omega) ?_ G.first (by omega)
  rw [Int.mul_comm];omega
theorem drw_add (w:World)(a b:Nat):(w.drewN a).drewN b=w.drewN (a+b):=by simp [World.drewN,Nat.add_assoc]
theorem guess_any (u1 u0 v1 v0:Int)(w:World)(hu1:0<=u1/\u1<=18446744073709551615)(hu0:0<=u0/\u0<=18446744073709551615)(hv1:9223372036854775808<=v1/\v1<=18446744073709551615)(hv0:0<=v0/\v0<=18446744073709551615) :
    Calls Tryz.prog 233 #[.int .u64 u1,.int .u64 u0,.int .u64 v1,.int .u64 v0] w fun e w'=>e=.returned (.int .u64 (gsF u1 u0 v1 v0))/\∃ m,w'=w.drewN m:=by
  by_cases h:v1<=u1
  · have HG:Hid (gsF u1 u0 v1 v0=18446744073709551615):=by show _=_;unfold gsF;rw [if_pos h]
    go_enter Tryz.func233,Tryz.ntmps233
    go_wp2
    go_ret
    exact ⟨ret_int HG.out.symm,0,rfl⟩
  · have HG:Hid (gsF u1 u0 v1 v0=gsL v1 v0 2 ((u1*18446744073709551616+u0)/v1) ((u1*18446744073709551616+u0)%v1)):=by show _=_;unfold gsF;rw [if_neg h]
    have hd:=div64_all u1 u0 v1 w hu1.1 (by omega) hv1.2 hu0
    have h1:0<=(u1*18446744073709551616+u0)/v1:=Int.ediv_nonneg (by omega) (by omega)
    have h2:(u1*18446744073709551616+u0)/v1<18446744073709551616:=Int.ediv_lt_of_lt_mul (by omega) (by omega)
    have h3:=Int.emod_nonneg (u1*18446744073709551616+u0) (show v1≠0 by omega)
    have h4:=Int.emod_lt_of_pos (u1*18446744073709551616+u0) (show 0<v1 by omega)
    generalize gsF u1 u0 v1 v0=T at *
    generalize (u1*18446744073709551616+u0)/v1=d0 at *
    generalize (u1*18446744073709551616+u0)%v1=r0 at *
    go_enter Tryz.func233,Tryz.ntmps233
    go_wp2_with (go_at_call 170;refine hd.mono ?_;rintro e w' ⟨rfl,m,rfl⟩)
    go_loopw [9,10,11,12,23] (fun dv rv u11 u12 u23 wr=>∃ (f:Nat) (d r:Int),dv=.int .u64 d/\rv=.int .u64 r/\0<=d/\d<=18446744073709551615/\0<=r/\r<=18446744073709551615/\18446744073709551616<=r+f*v1/\Hid (T=gsL v1 v0 f d r)/\wr=w.drewN m) (fun dv _ _ _ _ _=>(intOf dv).toNat)
    case atStart=>exact ⟨2,d0,r0,rfl,rfl,h1,by omega,h3,by omega,by omega,HG.out,rfl⟩
    case round =>
      clear hd h1 h2 h3 h4 HG
      obtain ⟨f,d,r,rfl,rfl,a1,a2,a3,a4,hf,hT,rfl⟩:=hrel
      obtain ⟨f',rfl⟩:∃ f',f=f'+1:=by
        cases f with
        | zero=>simp at hf;omega
        | succ f'=>exact ⟨f',rfl⟩
      have hmul:=mul64 d v0 ⟨a1,a2⟩ hv0 (w.drewN m)
      have hfe:((f'+1:Nat):Int)*v1=f'*v1+v1:=by rw [Int.natCast_add,Int.add_mul];simp
      rw [hfe] at hf
      have HF:Hid (18446744073709551616<=r+(f'*v1+v1)):=hf
      have hh0:0<=d*v0/18446744073709551616:=Int.ediv_nonneg (Int.mul_nonneg a1 hv0.1) (by decide)
      by_cases hh:d*v0/18446744073709551616<=r
      · have HT:Hid (T=d):=by show _=_;rw [hT.out];unfold gsL;rw [if_pos hh]
        clear hT hf hfe HF
        generalize d*v0/18446744073709551616=hi at *
        generalize d*v0%18446744073709551616=lo at *
        go_wp2_with (go_at_call 154;refine hmul.mono ?_;rintro e w' ⟨rfl,rfl⟩)
        go_ret
        exact ⟨ret_int HT.out.symm,m,rfl⟩
      · have h11:=gs_one a1 a3 hh
        by_cases ho:18446744073709551616<=r+v1
        · have HT:Hid (T=d-1):=by show _=_;rw [hT.out];unfold gsL;rw [if_neg hh,if_pos ho]
          have hw:IntKind.u64.wrap (r+v1)=r+v1-18446744073709551616:=by rw [wrap_mod];omega
          have hlt:r+v1-18446744073709551616<v1:=by omega
          clear hT hf hfe HF
          generalize d*v0/18446744073709551616=hi at *
          generalize d*v0%18446744073709551616=lo at *
          go_wp2_with (go_at_call 154;refine hmul.mono ?_;rintro e w' ⟨rfl,rfl⟩)
          go_ret
          exact ⟨ret_int HT.out.symm,m,rfl⟩
        · have HT : Hid (T = gsL v1 v0 f' (d - 1) (r + v1)) := by show _ = _; rw [hT.out]; conv => lhs; unfold gsL
                                                                  rw [if_neg hh,if_neg ho]
          have hlt:¬ r+v1<v1:=by omega
          have hle:r+v1<=18446744073709551615:=by omega
          clear hT hf hfe
          generalize d*v0/18446744073709551616=hi at *
          generalize d*v0%18446744073709551616=lo at *
          go_wp2_with (go_at_call 154;refine hmul.mono ?_;rintro e w' ⟨rfl,rfl⟩)
          go_roundw
          case rel=>exact ⟨f',d-1,r+v1,rfl,rfl,by omega,by omega,by omega,by omega,by have:=HF.out;omega,HT,trivial⟩
          case measure=>simp [intOf];omega
theorem seg_next (z:Nat->Int)(off j:Nat):val (segW z off (j+1)) (j+1)=val (segW z off j) j+z (off+j)*18446744073709551616^j:=by
 show val (segW z off (j+1)) j+segW z off (j+1) j*18446744073709551616^j=_
 rw [segW_lt z off (j+1) j (by omega),val_congr (x:=segW z off (j+1)) (y:=segW z off j) j fun i hi=>by rw [segW_lt _ _ _ i (by omega),segW_lt _ _ _ i hi]]
theorem seg_congr {z z':Nat->Int}(off j:Nat)(h:∀ i,off<=i->i<off+j->z i=z' i):val (segW z off j) j=val (segW z' off j) j :=
 val_congr j fun i hi=>by rw [segW_lt _ _ _ i hi,segW_lt _ _ _ i hi,h (off+i) (by omega) (by omega)]
theorem sub_round {V V0 C n vy yj zj l hi l' bo:Int}{Q:Int}(h:V-C*Q=V0-n*vy)(hl:l+hi*18446744073709551616=yj*n+0+C)(hb:l'-bo*18446744073709551616=zj-l) :
  V+l'*Q-(hi+bo)*(Q*18446744073709551616)=V0+zj*Q-n*(vy+yj*Q):=by grind
theorem sub_nowrap {yj n C l hi zj:Int}(hy:0<=yj/\yj<=18446744073709551615)(hn:0<=n/\n<=18446744073709551615)(hC:0<=C/\C<=18446744073709551615)(hl:l+hi*18446744073709551616=yj*n+0+C)(hlb:0<=l/\l<=18446744073709551615)(hz:0<=zj/\zj<=18446744073709551615):hi+bor zj l 0<=18446744073709551615:=by
 have hp:yj*n<=18446744073709551615*18446744073709551615:=Int.mul_le_mul hy.2 hn.2 hn.1 (by decide)
 have hb:=bor_01 zj l 0
 by_cases e:hi=18446744073709551615
 ·have e2:l=0:=by omega
  have:bor zj l 0=0:=by unfold bor;rw [if_neg (by omega)]
  omega
 ·omega
theorem subProduct_any (g N off m c k c':Nat)(a':Option Addr)(x y:Nat->Int)(n:Int)(w:World)(hm:off+m<=N)(hN:N<4294967296)(hk:k<=m)(hx:Words x)(hn:0<=n/\n<=18446744073709551615)(h:Own g N x w)(h':Num w a' k c' y)(hA:Apart a' g) :
  Calls Tryz.prog 234 #[.slice (some ⟨g,off,none⟩) m c,.slice a' k c',.int .u64 n] w fun e w'=>∃ C z,e=.returned (.int .u64 C)/\(0<=C/\C<=18446744073709551615)/\Own g N z w'/\Words z/\val (segW z off k) k-C*18446744073709551616^k=val (segW x off k) k-n*val y k/\(∀ i,i<off∨off+k<=i->z i=x i)/\Upd g w w':=by
 have hy:=h'.2.2.1
 go_enter Tryz.func234,Tryz.ntmps234
 go_wp2
 go_loopw [7,8,9,10,11,12,15,20,27] (fun cv u8 u9 u10 u11 u12 i u20 u27 wr=>∃ (j:Nat) (C:Int) (z:Nat->Int),j<=k/\i=.int .i64 j/\cv=.int .u64 C/\(0<=C/\C<=18446744073709551615)/\Own g N z wr/\Words z/\Hid (val (segW z off j) j-C*18446744073709551616^j=val (segW x off j) j-n*val y j)/\(∀ i,i<off∨off+j<=i->z i=x i)/\Upd g w wr) (fun _ _ _ _ _ _ i _ _ _=>k-(intOf i).toNat)
 case atStart=>exact ⟨0,0,x,Nat.zero_le _,rfl,rfl,by decide,h,hx,by show _=_;simp [val],fun _ _=>rfl,Upd.refl _ _⟩
 case round =>
  obtain ⟨j,C,z,hj,rfl,rfl,hCb,hO,hzw,hv,hzx,hU⟩:=hrel
  by_cases hlt:j<k
  ·have hji:(j:Int)<k:=by omega
   have hjm:(j:Int)<m:=by omega
   obtain ⟨b,off',rfl,hb,hc⟩:=(hU.num' hA h').cells (by omega)
   have hcj:=hc j hlt
   have hco:=hO.cell (off+j) (by omega)
   have hzj:z (off+j)=x (off+j):=hzx _ (by omega)
   rw [hzj] at hco
   have hfo:=hO.frozen (off+j)
   have hma:=fun w=>mulAdd_any (y j) n 0 C w (hy j) hn (by decide) hCb
   have bx:=hx (off+j)
   have b_y:=hy j
   have HO:Hid (Own g N z wr):=hO
   have HU:Hid (Upd g w wr):=hU
   have HZW:Hid (Words z):=hzw
   have HZX:Hid (∀ i,i<off∨off+j<=i->z i=x i):=hzx
   clear hO hU hc h h' hA hx hy hzw hzx
   go_wp2_with (go_at_call 189;refine (hma _).mono ?_;rintro e w1 ⟨l,hi,rfl,hlh,hlb,hhb,rfl⟩;have hsb:=fun w=>sub64 (x (off+j)) l 0 bx.1 hlb.1 (by omega) (by decide) (by decide) w;have hbo:=bor_01 (x (off+j)) l 0;have hbv:=bor_val bx hlb (b:=0) (by decide);have hw:=sub_nowrap b_y hn hCb hlh hlb bx;rw [Int.sub_zero] at hsb hbv;generalize bor (x (off+j)) l 0=bo at *)
   go_roundw
   case rel =>
    refine ⟨j+1,hi+bo,fun i=>if i=off+j then (x (off+j)-l)%18446744073709551616 else z i,by omega,by go_num,rfl,by omega,HO.out.set (off+j) _,upd_words HZW.out (by omega),?_,?_,HU.out.set (off+j) _⟩
    ·show _=_
     rw [seg_next,seg_next,if_pos rfl,seg_congr (z:=fun i=>if i=off+j then (x (off+j)-l)%18446744073709551616 else z i) (z':=z) off j fun i h1 h2=>if_neg (by omega),Int.pow_succ]
     exact sub_round hv.out hlh (by omega)
    ·intro i hi2
     exact (if_neg (show ¬ i=off+j by omega)).trans (HZX.out i (by omega))
   case measure=>simp [intOf];omega
  ·obtain rfl:j=k:=by omega
   have HO:Hid (Own g N z wr):=hO
   have HU:Hid (Upd g w wr):=hU
   have HZW:Hid (Words z):=hzw
   have HZX:Hid (∀ i,i<off∨off+j<=i->z i=x i):=hzx
   clear hO hU h h' hA hx hy hzw hzx
   go_wp2
   go_ret
   exact ⟨C,z,rfl,hCb,HO.out,HZW.out,hv.out,HZX.out,HU.out⟩
theorem stp_on {R D dg V0 V1 u1 C Q:Int}(h:V1-C*Q=V0-dg*D)(hR:R=V0+u1*Q)(h0:0<=V1)(hV:V1<Q)(hD:0<D)(hDQ:D<Q)(h1:R<(dg+1)*D)(hc:C<=u1):R/D=dg/\R%D=V1:=by
 have e:R-dg*D=V1+(u1-C)*Q:=by rw [Int.sub_mul];omega
 have e1:(dg+1)*D=dg*D+D:=by rw [Int.add_mul,Int.one_mul]
 have hk:u1=C:=by
  rcases Int.lt_or_le C u1 with hlt|hge
  ·have:1*Q<=(u1-C)*Q:=Int.mul_le_mul_of_nonneg_right (by omega) (by omega)
   omega
  ·omega
 rw [hk,Int.sub_self,Int.zero_mul] at e
 have:=(Int.ediv_emod_unique hD (a:=R) (r:=V1) (q:=dg)).2 ⟨by rw [Int.mul_comm];omega,h0,by omega⟩
 exact this
theorem stp_back {R D dg V0 V1 u1 C Q N1 c:Int}(h:V1-C*Q=V0-dg*D)(hR:R=V0+u1*Q)(h0:0<=V1)(hV:V1<Q)(hD:0<D)(hDQ:D<Q)(h2:(dg-1)*D<=R)(hc:u1<C)(hn:N1+c*Q=V1+D)(n0:0<=N1)(n1:N1<Q):R/D=dg-1/\R%D=N1:=by
 have e:R-dg*D=V1+(u1-C)*Q:=by rw [Int.sub_mul];omega
 have e1:(dg-1)*D=dg*D-D:=by rw [Int.sub_mul,Int.one_mul]
 have hneg:(C-u1)*Q ≥ 1*Q:=Int.mul_le_mul_of_nonneg_right (by omega) (by omega)
 have e2:(u1-C)*Q=- ((C-u1)*Q):=by rw [← Int.neg_mul];congr 1;omega
 have e3:N1-(R-(dg-1)*D)=(C-u1-c)*Q:=by rw [Int.sub_mul (C-u1) c Q];omega
 have hk:C-u1-c=0:=by
  rcases Int.lt_trichotomy (C-u1-c) 0 with hl|he|hg
  ·have:(C-u1-c)*Q<=(-1)*Q:=Int.mul_le_mul_of_nonneg_right (by omega) (by omega)
   omega
  ·exact he
  ·have:1*Q<=(C-u1-c)*Q:=Int.mul_le_mul_of_nonneg_right (by omega) (by omega)
   omega
 rw [hk,Int.zero_mul] at e3
 exact (Int.ediv_emod_unique hD (a:=R) (r:=N1) (q:=dg-1)).2 ⟨by rw [Int.mul_comm];omega,n0,by omega⟩
theorem divideStep_any (g N off t c c':Nat)(a':Option Addr)(z y:Nat->Int)(w:World)(ht:2<=t)(hm:off+t+1<=N)(hN:N<4294967296)(hz:Words z)(h:Own g N z w)(h':Num w a' t c' y)(hA:Apart a' g)(hy1:9223372036854775808<=y (t-1))(hlt:val (segW z off (t+1)) (t+1)<val y t*18446744073709551616) :
  Calls Tryz.prog 216 #[.slice (some ⟨g,off,none⟩) (t+1) c,.slice a' t c'] w fun e w'=>e=.returned (.int .u64 (val (segW z off (t+1)) (t+1)/val y t))/\∃ z',Own g N z' w'/\Words z'/\(∀ i,i<off->z' i=z i)/\val (segW z' off t) t=val (segW z off (t+1)) (t+1)%val y t/\Upd g w w':=by
 have hy:=h'.2.2.1
 obtain ⟨p,rfl⟩:∃ p,t=p+2:=⟨t-2,by omega⟩
 have hy1':9223372036854775808<=y (p+1):=hy1
 have G:Gs (val (segW z off (p+2+1)) (p+2+1)) (val y (p+2)) (z (off+(p+2))) (z (off+(p+1))) (y (p+1)) (y p) (18446744073709551616^p) (val (segW z off (p+1)) (p+1)) (val y p):=by
  have ba:=val_bd (segW_words hz off (p+1)) (p+1)
  have bb:=val_bd hy p
  refine ⟨?_,?_,pw_pos p,ba.1,by rw [← Int.pow_succ];exact ba.2,bb.1,bb.2,hz _,hz _,⟨hy1',(hy _).2⟩,hy _,hlt⟩
  ·rw [seg_next,seg_next,Int.pow_succ,Int.pow_succ,Int.pow_succ];grind
  ·show val y p+y p*18446744073709551616^p+y (p+1)*18446744073709551616^(p+1)=_
   rw [Int.pow_succ];grind
 have hsp:=gsF_spec G
 have hg:=fun w=>guess_any (z (off+(p+2))) (z (off+(p+1))) (y (p+1)) (y p) w (hz _) (hz _) ⟨hy1',(hy _).2⟩ (hy _)
 have hposD:=G.posD
 have hRe:val (segW z off (p+2+1)) (p+2+1)=val (segW z off (p+2)) (p+2)+z (off+(p+2))*18446744073709551616^(p+2):=seg_next z off (p+2)
 have hDQ:=(val_bd hy (p+2)).2
 generalize gsF (z (off+(p+2))) (z (off+(p+1))) (y (p+1)) (y p)=dg at *
 generalize hR:val (segW z off (p+2+1)) (p+2+1)=R at *
 obtain ⟨b,off',rfl,hb,hc⟩:=h'.cells (by omega)
 have hv1:=hc (p+1) (by omega)
 have hv0:=hc p (by omega)
 have hu1:=h.cell (off+(p+2)) (by omega)
 have hu0:=h.cell (off+(p+1)) (by omega)
 have bu1:=hz (off+(p+2))
 have hsub:=fun wr hO hN'=>subProduct_any g N off (p+2+1) c (p+2) c' (some ⟨b,off',none⟩) z y dg wr (by omega) hN (by omega) hz ⟨hsp.1,hsp.2.1⟩ hO hN' hA
 have hpi:(0:Int)<=p:=by omega
 go_enter Tryz.func216,Tryz.ntmps216
 go_wp2
 go_quiet ((go_at_call 233;exact (hg _).mono fun _ _ h=>⟨h.1,h.2.elim fun m hm=>⟨_,hm.trans (drw_add _ _ _)⟩⟩))
 go_wp2
 have HRe:Hid (R=val (segW z off (p+2)) (p+2)+z (off+(p+2))*18446744073709551616^(p+2)):=hRe
 have HSP:Hid (R<(dg+1)*val y (p+2)/\(dg-1)*val y (p+2)<=R):=⟨hsp.2.2.1,hsp.2.2.2⟩
 have hdg0:=hsp.1
 have hdg1:=hsp.2.1
 have HWY:Hid (Words y):=hy
 have HWZ:Hid (Words z):=hz
 clear hsp hRe G hg hlt hc hv1 hv0 hu0 hy hz hy1 hy1' hR
 go_region_with (go_at_call 234;refine (hsub (w.drewN nq).drew h h').mono ?_;rintro e w1 ⟨C,z1,rfl,hCb,hO1,hw1,hvv,hzx1,hU1⟩;have hct:=hO1.cell (off+(p+2)) (by omega);rw [hzx1 (off+(p+2)) (by omega)] at hct)
 all_goals
  have hbd:=val_bd (segW_words hw1 off (p+2)) (p+2)
  by_cases hcc:z (off+(p+2))<C
  ·have hd1:1<=dg:=by
    rcases Int.lt_or_le 0 dg with h1|h1
    ·omega
    ·exfalso
     have e0:dg=0:=by omega
     rw [e0,Int.zero_mul,Int.sub_zero] at hvv
     have h5:=(val_bd (segW_words HWZ.out off (p+2)) (p+2)).1
     have h6:1*18446744073709551616^(p+2)<=C*18446744073709551616^(p+2):=Int.mul_le_mul_of_nonneg_right (by omega) (Int.le_of_lt (pw_pos _))
     omega
   have had:=addInto_any g N off (p+2+1) c (p+2) c' (some ⟨b,off',none⟩) z1 y w1 (by omega) hN (by omega) hw1 hO1 (hU1.num' hA h') hA
   have e1:val (segW (addZ z1 y off (p+2)) off (p+2)) (p+2)=val (sumW (fun i=>z1 (off+i)) y) (p+2):=val_congr _ fun i hi=>by
    rw [segW_lt _ _ _ i hi];unfold addZ;rw [if_pos (by omega)];congr 1;omega
   have e2:val (fun i=>z1 (off+i)) (p+2)=val (segW z1 off (p+2)) (p+2):=val_congr _ fun i hi=>by rw [segW_lt _ _ _ i hi]
   have e3:=sum_val (x:=fun i=>z1 (off+i)) (y:=y) (p+2)
   rw [e2,← e1] at e3
   have HAW:Hid (Words (addZ z1 y off (p+2))):=fun i=>by
    unfold addZ;split
    ·exact sumW_words _ _ _
    ·exact hw1 i
   have hnb:=val_bd (segW_words HAW.out off (p+2)) (p+2)
   have HQ:Hid (R/val y (p+2)=dg-1/\R%val y (p+2)=val (segW (addZ z1 y off (p+2)) off (p+2)) (p+2)):=stp_back hvv HRe.out hbd.1 hbd.2 hposD hDQ HSP.out.2 hcc e3 hnb.1 hnb.2
   have HU:Hid (Upd g w w1):=⟨hU1.os,hU1.tape,hU1.output,hU1.size,hU1.block⟩
   have HZX:Hid (∀ i,i<off->addZ z1 y off (p+2) i=z i):=fun i hi=>by
    unfold addZ;rw [if_neg (by omega)];exact hzx1 i (Or.inl hi)
   clear e1 e2 e3 hnb hbd hvv hzx1 hO1 hw1 hU1 hsub h h' hposD hDQ HRe HSP
   go_wp2_with (go_at_call 200;refine had.mono ?_;rintro e w2 ⟨rfl,hO2,hU2⟩)
   go_ret
   exact ⟨ret_int HQ.out.1.symm,_,hO2,HAW.out,HZX.out,HQ.out.2.symm,HU.out.trans hU2⟩
  ·have HQ:Hid (R/val y (p+2)=dg/\R%val y (p+2)=val (segW z1 off (p+2)) (p+2)):=stp_on hvv HRe.out hbd.1 hbd.2 hposD hDQ HSP.out.1 (by omega)
   have HU:Hid (Upd g w w1):=⟨hU1.os,hU1.tape,hU1.output,hU1.size,hU1.block⟩
   have HO:Hid (Own g N z1 w1):=hO1
   have HW1:Hid (Words z1):=hw1
   have HZX:Hid (∀ i,i<off->z1 i=z i):=fun i hi=>hzx1 i (Or.inl hi)
   clear hbd hvv hzx1 hO1 hw1 hU1 hsub h h' hposD hDQ HRe HSP
   go_wp2
   go_ret
   exact ⟨ret_int HQ.out.1.symm,z1,HO.out,HW1.out,HZX.out,HQ.out.2.symm,HU.out⟩
section
theorem val_pos {z:Nat->Int}(hz:Words z):∀ m,0<m->sizeL z m=m->0<val z m
 | 0,h,_=>by omega
 | m+1,_,h=>by
  have hne:z m≠0:=by
   intro e
   have:sizeL z (m+1)=sizeL z m:=by simp [sizeL,e]
   have:=sizeL_le z m
   omega
  have h1:=(val_bd hz m).1
  have h2:=hz m
  have h3:=pw_pos m
  show 0<val z m+z m*18446744073709551616^m
  have:0<z m*18446744073709551616^m:=Int.mul_pos (by omega) h3
  omega
theorem val_split (z:Nat->Int)(j:Nat):∀ m,val z (j+m)=val z j+val (segW z j m) m*18446744073709551616^j
 | 0=>by simp [val]
 | m+1=>by
  rw [seg_next]
  show val z (j+m)+z (j+m)*18446744073709551616^(j+m)=_
  rw [val_split z j m,Int.pow_add];grind
theorem norm_top {y:Int}(h0:0<y)(h:y<=18446744073709551615):∃ r:Nat,r<64/\(64-(Lib.bitLen y.toNat:Int))=r/\9223372036854775808<=y*2^r/\y*2^r<=18446744073709551615:=by
 obtain ⟨n,rfl⟩:=Int.eq_ofNat_of_zero_le (Int.le_of_lt h0)
 have h1:=bitLen_spec n (by omega) (by omega)
 have h2:=norm_bd n (by omega) (by omega)
 rw [Int.toNat_natCast]
 refine ⟨64-Lib.bitLen n,by omega,by omega,?_,?_⟩
 ·rw [← powCast,← Int.natCast_mul];omega
 ·rw [← powCast,← Int.natCast_mul];omega
theorem shW_top {y:Nat->Int}(hy:Words y){r t:Nat}(ht:0<t)(h1:9223372036854775808<=y (t-1)*2^r)(h2:y (t-1)*2^r<=18446744073709551615):9223372036854775808<=shW y r (t-1)/\val (shW y r) t=val y t*2^r:=by
 refine ⟨?_,?_⟩
 ·unfold shW
  have:=(prevW_bd hy r (t-1)).1
  rw [Int.emod_eq_of_lt (by omega) (by omega)];omega
 ·have e:=sh_val y r t
  have e1:prevW y r t=0:=by
   unfold prevW hiW;rw [if_neg (by omega)];exact Int.ediv_eq_zero_of_lt (by omega) (by omega)
  rw [e1] at e;omega
theorem long_round {U VQ D Vj R q rho Vn B:Int}(h:VQ*D+Vn=U)(hs:Vn=Vj+R*B)(hq:D*q+rho=R):(VQ+q*B)*D+(Vj+rho*B)=U:=by grind
theorem long_end {X Y S VQ Vz Vr m:Int}(hS:0<S)(hY:0<Y)(h:VQ*(Y*S)+Vz=X*S)(hlt:Vz<Y*S)(hz:0<=Vz)(hr:Vr*S+m=Vz)(hm:0<=m)(hmS:m<S):VQ=X/Y/\Vr=X%Y:=by
 have e:(X-VQ*Y-Vr)*S=m:=by grind
 have hk:X-VQ*Y-Vr=0:=by
  rcases Int.lt_trichotomy (X-VQ*Y-Vr) 0 with hl|he|hg
  ·have:(X-VQ*Y-Vr)*S<=(-1)*S:=Int.mul_le_mul_of_nonneg_right (by omega) (by omega)
   omega
  ·exact he
  ·have:1*S<=(X-VQ*Y-Vr)*S:=Int.mul_le_mul_of_nonneg_right (by omega) (by omega)
   omega
 rw [hk,Int.zero_mul] at e
 have h1:0<=Vr:=by
  rcases Int.lt_or_le Vr 0 with hl|hge
  ·have:Vr*S<=(-1)*S:=Int.mul_le_mul_of_nonneg_right (by omega) (by omega)
   omega
  ·exact hge
 have h2:Vr<Y:=by
  rcases Int.lt_or_le Vr Y with hl|hge
  ·exact hl
  ·have:Y*S<=Vr*S:=Int.mul_le_mul_of_nonneg_right hge (by omega)
   omega
 have:=(Int.ediv_emod_unique hY (a:=X) (r:=Vr) (q:=VQ)).2 ⟨by rw [Int.mul_comm];omega,h1,h2⟩
 exact ⟨this.1.symm,this.2.symm⟩
theorem upZ_all (y:Nat->Int)(r k i:Nat)(hi:i<k):upZ (fun _=>0) y r 0 k i=shW y r i:=by unfold upZ;rw [if_pos (by omega)];rfl
set_option maxRecDepth 20000 in
theorem divideLong_any (a a':Option Addr)(s c t c':Nat)(x y:Nat->Int)(w:World)(hs:s<=2000)(ht:2<=t)(hts:t<=s)(h:Num w a s c x)(h':Num w a' t c' y)(hy0:sizeL y t=t) :
  Calls Tryz.prog 198 #[.slice a s c,.slice a' t c'] w fun e w'=>∃ gq gr q z,e=.returned (.tuple #[.slice (some ⟨gq,0,none⟩) (s-t+1) (s-t+1),.slice (some ⟨gr,0,none⟩) t t])/\Own gq (s-t+1) q w'/\Words q/\val q (s-t+1)=val x s/val y t/\Own gr t z w'/\Words z/\val z t=val x s%val y t/\Below w.heap.size w w':=by
 have hx:=h.2.2.1
 have hy:=h'.2.2.1
 have hyne:y (t-1)≠0:=by have:=sizeL_top (x:=y) t (by omega);rw [hy0] at this;exact this
 have hyb:=hy (t-1)
 obtain ⟨r,hr64,hr,hn1,hn2⟩:=norm_top (y:=y (t-1)) (by omega) hyb.2
 have htop:=shW_top hy (t:=t) (by omega) hn1 hn2
 have hlz:=fun w=>(Tryz.bits_LeadingZeros64 (y (t-1)) w hyb.1 hyb.2).mono (fun e w' hw=>(⟨hw.1,hw.2.symm⟩:_/\w=w'))
 rw [hr] at hlz
 obtain ⟨b',off',rfl,hb',hc'⟩:=h'.cells (by omega)
 have hct:=hc' (t-1) (by omega)
 have et1:((t:Int)-1).toNat=t-1:=by omega
 have hti:(2:Int)<=t:=by omega
 have hm1:=fun w=>make_any ((t:Int)+1) (t+1) (by omega) (by omega) w
 have hm2:=fun w=>make_any ((s:Int)+1) (s+1) (by omega) (by omega) w
 have hm3:=fun w=>make_any ((s:Int)-t+1) (s-t+1) (by omega) (by omega) w
 have hm4:=fun w=>make_any (t:Int) t rfl (by omega) w
 have hB1:=below1 w (.cells (arrOf (fun _=>0) (t+1)) 22)
 have u1:=shiftUp_any w.heap.size (t+1) 0 (t+1) (t+1) t c' r _ (fun _=>0) y _ (by omega) (by omega) (by omega) hr64 (Own.new w (fun _=>0) (t+1)) (h'.next hB1) (apart_of h')
 go_enter Tryz.func198,Tryz.ntmps198
 go_wp2_with (first|(go_at_call 207;refine (hlz _).mono ?_;rintro e w' ⟨rfl,rfl⟩)|(go_at_call 108;refine u1.mono ?_;rintro e w1 ⟨rfl,hV1,hU1⟩;clear u1))
 have hBw1:Below w.heap.size w w1:=hB1.trans (hU1.below (Nat.le_refl _))
 have HG1:Hid (w1.heap.size=w.heap.size+1):=by show _=_;rw [hU1.size];simp
 have hn1w:=h.next hBw1
 have hB2:=below1 w1 (.cells (arrOf (fun _=>0) (s+1)) 22)
 have u2:=shiftUp_any w1.heap.size (s+1) 0 (s+1) (s+1) s c r a (fun _=>0) x _ (by omega) (by omega) (by omega) hr64 (Own.new w1 (fun _=>0) (s+1)) (hn1w.next hB2) (apart_of hn1w)
 go_wp2_with (go_at_call 108;refine u2.mono ?_;rintro e w2 ⟨rfl,hL2,hU2⟩;clear u2)
 have hg2:w2.heap.size=w1.heap.size+1:=by rw [hU2.size];simp
 have hg1:w1.heap.size=w.heap.size+1:=HG1.out
 clear HG1
 have hB3:=below1 w2 (.cells (arrOf (fun _=>0) (s-t+1)) 22)
 have hBw2:Below w.heap.size w w2:=(hBw1.trans (hB2.mono hBw1.size)).trans (hU2.below (by omega))
 have hBwC:=hBw2.trans (hB3.mono hBw2.size)
 have hV3:Own w.heap.size (t+1) (upZ (fun _=>0) y r 0 (t+1)) (w2.alloc (.cells (arrOf (fun _=>0) (s-t+1)) 22)):=Below.own hB3 (by omega) (hU2.own (by omega) (Below.own hB2 (by omega) hV1))
 have hL3:=Below.own hB3 (by omega) hL2
 have hQ3:=Own.new w2 (fun _=>0) (s-t+1)
 have e1:∀ i,i<t+1->upZ (fun _=>0) y r 0 (t+1) i=shW y r i:=fun i hi=>upZ_all y r _ i hi
 have e2:∀ i,i<s+1->upZ (fun _=>0) x r 0 (s+1) i=shW x r i:=fun i hi=>upZ_all x r _ i hi
 replace hV3:=hV3.congr e1
 replace hL3:=hL3.congr e2
 have hUv:val (shW x r) (s+1)=val x s*2^r:=sh_end h.2.2.2.1 r (s+1) (by omega)
 have HWX:=shW_words hx hr64
 have HWY:=shW_words hy hr64
 have hD0:0<val y t:=val_pos hy t (by omega) hy0
 have hS:=p2_pos r
 have hDpos:0<val y t*2^r:=Int.mul_pos hD0 hS
 have hxb:=val_bd hx s
 have hUlt:val x s*2^r<val y t*2^r*18446744073709551616^(s-t+1):=by
  have hY1:9223372036854775808*18446744073709551616^(t-1)<=val y t*2^r:=by
   rw [← htop.2]
   have e5:val (shW y r) t=val (shW y r) (t-1)+shW y r (t-1)*18446744073709551616^(t-1):=by
    conv=>lhs;rw [show t=t-1+1 by omega]
    rfl
   have h6:=(val_bd HWY (t-1)).1
   have h7:9223372036854775808*18446744073709551616^(t-1)<=shW y r (t-1)*18446744073709551616^(t-1):=Int.mul_le_mul_of_nonneg_right htop.1 (Int.le_of_lt (pw_pos _))
   omega
  have h8:val x s*2^r<18446744073709551616^s*2^r:=Int.mul_lt_mul_of_pos_right hxb.2 hS
  have h9:(18446744073709551616:Int)^s*2^r<=18446744073709551616^s*9223372036854775808:=Int.mul_le_mul_of_nonneg_left (p2_le hr64) (Int.le_of_lt (pw_pos _))
  have h10:9223372036854775808*18446744073709551616^(t-1)*18446744073709551616^(s-t+1)<=val y t*2^r*18446744073709551616^(s-t+1):=Int.mul_le_mul_of_nonneg_right hY1 (Int.le_of_lt (pw_pos _))
  have h11:(18446744073709551616:Int)^(t-1)*18446744073709551616^(s-t+1)=18446744073709551616^s:=by rw [← Int.pow_add];congr 1;omega
  rw [Int.mul_assoc,h11,Int.mul_comm] at h10
  omega
 generalize hgV:w.heap.size=gV at *
 generalize hgL:w1.heap.size=gL at *
 generalize hgQ:w2.heap.size=gQ at *
 generalize hwC:w2.alloc (.cells (arrOf (fun _=>0) (s-t+1)) 22)=wC at *
 obtain ⟨D,hDe⟩:∃ D,val y t*2^r=D:=⟨_,rfl⟩
 obtain ⟨U,hUe⟩:∃ U,val x s*2^r=U:=⟨_,rfl⟩
 rw [hDe] at htop hDpos hUlt
 rw [hUe] at hUv hUlt
 have hVL:gV<gL:=by omega
 have hLQ:gL<gQ:=by omega
 have HGV:Hid (w.heap.size=gV):=hgV
 clear hg1 hg2 hgV
 have HE:Hid (val y t*2^r=D/\val x s*2^r=U/\0<val y t/\(0:Int)<2^r):=⟨hDe,hUe,hD0,hS⟩
 clear hV1 hL2 hU1 hU2 hB1 hB2 hB3 hBw1 hBw2 hn1w e1 e2 hlz hct hc' h h' hm1 hm2 hm3 hDe hUe hD0 hS hxb hn1 hn2 hr hyb hyne hwC hgQ hgL w1 w2
 have hYN:∀ wr,Own gV (t+1) (shW y r) wr->Num wr (some ⟨gV,0,none⟩) t (t+1) (segW (shW y r) 0 t):=fun wr hO=>hO.num HWY 0 t (t+1) (by omega) (by omega) (by unfold maxLen;omega)
 have hYv:val (segW (shW y r) 0 t) t=D:=by
  rw [val_congr (y:=shW y r) t fun i hi=>by rw [segW_lt _ _ _ i hi,Nat.zero_add]];exact htop.2
 have hYt:9223372036854775808<=segW (shW y r) 0 t (t-1):=by rw [segW_lt _ _ _ (t-1) (by omega),Nat.zero_add];exact htop.1
 have HYN:Hid (∀ wr,Own gV (t+1) (shW y r) wr->Num wr (some ⟨gV,0,none⟩) t (t+1) (segW (shW y r) 0 t)):=hYN
 have HYT:Hid (val (segW (shW y r) 0 t) t=D/\9223372036854775808<=segW (shW y r) 0 t (t-1)):=⟨hYv,hYt⟩
 have hAp:Apart (some ⟨gV,0,none⟩) gL:=by intro p hp;cases hp;show gV≠gL;omega
 have HAP:Hid (Apart (some ⟨gV,0,none⟩) gL):=hAp
 clear hYN hYv hYt hAp htop hy hx
 generalize segW (shW y r) 0 t=Y at *
 go_loopw [10] (fun iv wr=>∃ (k:Nat) (z q:Nat->Int),k<=s-t+1/\iv=.int .i64 ((k:Int)-1)/\Own gV (t+1) (shW y r) wr/\Own gL (s+1) z wr/\Words z/\Own gQ (s-t+1) q wr/\Words q/\(∀ i,i<k->q i=0)/\Hid (val q (s-t+1)*D+val z (k+t)=U)/\Hid (val z (k+t)<D*18446744073709551616^k)/\Below gV w wr) (fun iv _=>(intOf iv+1).toNat)
 case atStart=>exact ⟨s-t+1,shW x r,fun _=>0,Nat.le_refl _,by go_num,hV3,hL3,HWX,hQ3,fun _=>(by decide:(0:Int)<=0/\(0:Int)<=18446744073709551615),fun _ _=>rfl,by show _=_;rw [val_zero,Int.zero_mul,Int.zero_add,show s-t+1+t=s+1 by omega,hUv],by show _<_;rw [show s-t+1+t=s+1 by omega,hUv];exact hUlt,hBwC⟩
 case round =>
  clear hV3 hL3 hQ3 hBwC hUv hUlt HWX
  obtain ⟨k,z,q,hk,rfl,hV,hL,hzw,hQ,hqw,hq0,hvU,hlt,hB⟩:=hrel
  by_cases h0:k=0
  ·subst h0
   have hZN:=hL.num hzw 0 t (s+1) (by omega) (by omega) (by unfold maxLen;omega)
   have hB5:=below1 wr (.cells (arrOf (fun _=>0) t) 22)
   have u3:=shiftDown_any wr.heap.size t t t (s+1) r (some ⟨gL,0,none⟩) (fun _=>0) (segW z 0 t) _ (Nat.le_refl _) (by omega) hr64 (Own.new wr (fun _=>0) t) (hZN.next hB5) (apart_of hZN)
   have HFIN:Hid (val q (s-t+1)=val x s/val y t/\val (shrW (segW z 0 t) 0 r) t=val x s%val y t):=by
    have hdn:=dn_val (segW_words hzw 0 t) hr64 t
    have e1:val (segW z 0 t) t=val z (0+t):=by
     rw [Nat.zero_add];exact val_congr t fun i hi=>by rw [segW_lt _ _ _ i hi,Nat.zero_add]
    rw [segW_zero z 0 t t (Nat.le_refl _),Int.zero_emod,Int.zero_mul,Int.add_zero,e1] at hdn
    have hE:=HE.out
    have h1:=hvU.out
    have h2:=hlt.out
    rw [← hE.1,← hE.2.1] at h1
    rw [Int.pow_zero,Int.mul_one,← hE.1] at h2
    exact long_end hE.2.2.2 hE.2.2.1 h1 h2 (val_bd hzw (0+t)).1 hdn (Int.emod_nonneg _ (by have:=hE.2.2.2;omega)) (Int.emod_lt_of_pos _ hE.2.2.2)
   have HRW:Hid (Words (shrW (segW z 0 t) 0 r)):=shrW_words (segW_words hzw 0 t) 0 r
   have HQx:Hid (Own gQ (s-t+1) q (wr.alloc (.cells (arrOf (fun _=>0) t) 22))):=Below.own hB5 hQ.lt hQ
   have hQlt:=hQ.lt
   have HQW:Hid (Words q):=hqw
   have HB6:Hid (Below gV w (wr.alloc (.cells (arrOf (fun _=>0) t) 22))):=hB.trans (hB5.mono (by have:=hB.size;have:=HGV.out;omega))
   have HLE:Hid (gV<=wr.heap.size):=by have h1:=hB.size;have h2:=HGV.out;show _<=_;omega
   clear hZN hB5 hV hL hzw hQ hqw hq0 hvU hlt hB HYN HYT HAP
   go_wp2_with (go_at_call 190;refine u3.mono ?_;rintro e w5 ⟨rfl,hR5,hU5⟩;clear u3)
   go_ret2
   exact ⟨gQ,wr.heap.size,q,shrW (segW z 0 t) 0 r,rfl,hU5.own (by omega) HQx.out,HQW.out,HFIN.out.1,hR5.congr (fun i hi=>by unfold dnZ;rw [if_pos (by omega)]),HRW.out,HFIN.out.2,by rw [HGV.out];exact HB6.out.trans (hU5.below HLE.out)⟩
  ·obtain ⟨j,rfl⟩:∃ j,k=j+1:=⟨k-1,by omega⟩
   have ej:((j+1:Nat):Int)-1=j:=by omega
   rw [ej]
   have ejt:j+t+1-j=t+1:=by omega
   have hsp:=val_split z j (t+1)
   rw [show j+(t+1)=j+1+t by omega] at hsp
   have hRlt:val (segW z j (t+1)) (t+1)<val Y t*18446744073709551616:=by
    rw [HYT.out.1]
    rcases Int.lt_or_le (val (segW z j (t+1)) (t+1)) (D*18446744073709551616) with h1|h1
    ·exact h1
    ·exfalso
     have h2:=hlt.out
     have h3:=(val_bd hzw j).1
     have h4:D*18446744073709551616*18446744073709551616^j<=val (segW z j (t+1)) (t+1)*18446744073709551616^j:=Int.mul_le_mul_of_nonneg_right h1 (Int.le_of_lt (pw_pos j))
     rw [hsp,Int.pow_succ] at h2
     have e:D*18446744073709551616*18446744073709551616^j=D*(18446744073709551616^j*18446744073709551616):=by grind
     omega
   have hst:=divideStep_any gL (s+1) j t (s+1-j) (t+1) (some ⟨gV,0,none⟩) z Y wr ht (by omega) (by omega) hzw hL (HYN.out wr hV) HAP.out HYT.out.2 hRlt
   rw [HYT.out.1] at hst
   have hR0:=(val_bd (segW_words hzw j (t+1)) (t+1)).1
   rw [HYT.out.1] at hRlt
   have HRB:Hid (0<=val (segW z j (t+1)) (t+1)/\val (segW z j (t+1)) (t+1)<D*18446744073709551616):=⟨hR0,hRlt⟩
   have HSP:Hid (val z (j+1+t)=val z j+val (segW z j (t+1)) (t+1)*18446744073709551616^j):=hsp
   generalize val (segW z j (t+1)) (t+1)=R at *
   have HVx:Hid (Own gV (t+1) (shW y r) wr):=hV
   have HQx:Hid (Own gQ (s-t+1) q wr):=hQ
   have HZB:Hid (0<=val z j/\val z j<18446744073709551616^j):=val_bd hzw j
   have hjb:j<s-t+1:=by omega
   have hji:(j:Int)<((s-t+1:Nat):Int):=by omega
   have hjs:(j:Int)+t+1<=((s+1:Nat):Int):=by omega
   have HQ0:Hid (∀ i,i<j+1->q i=0):=hq0
   have HQW:Hid (Words q):=hqw
   clear hsp hRlt hR0 hV hL hzw hQ hqw hq0 ej HYN HYT HAP
   go_wp2_with (go_at_call 216;refine hst.mono ?_;rintro e w1 ⟨rfl,z1,hO1,hw1,hzx1,hv1,hU1⟩;have hQ1:=hU1.own (by omega) HQx.out;have hcq:=hQ1.cell j hjb;have hfq:=hQ1.frozen j)
   go_roundw
   case rel =>
    have hD:=HRB.out
    have hDp:0<D:=hDpos
    have hdq:D*(R/D)+R%D=R:=Int.mul_ediv_add_emod R D
    have hq1:0<=R/D:=Int.ediv_nonneg hD.1 (by omega)
    have hq2:R/D<18446744073709551616:=Int.ediv_lt_of_lt_mul hDp (by rw [Int.mul_comm];exact hD.2)
    have hsp1:=val_split z1 j t
    have hzz:val z1 j=val z j:=val_congr j fun i hi=>hzx1 i hi
    rw [hzz,hv1] at hsp1
    refine ⟨j,z1,fun i=>if i=j then R/D else q i,by omega,by go_num,?_,?_,hw1,hQ1.set j _,upd_words HQW.out (by omega),?_,?_,?_,?_⟩
    ·exact (((Upd.refl gQ w1).set j _)).own (by omega) (hU1.own (by omega) HVx.out)
    ·exact (((Upd.refl gQ w1).set j _)).own (by omega) hO1
    ·intro i hi
     exact (if_neg (show ¬ i=j by omega)).trans (HQ0.out i (by omega))
    ·show _=_
     rw [val_set q j (R/D) (s-t+1) hjb,HQ0.out j (by omega),Int.sub_zero,hsp1]
     exact long_round hvU.out HSP.out hdq
    ·show _<_
     rw [hsp1]
     have h1:=Int.emod_lt_of_pos R hDp
     have h2:=HZB.out
     have h3:R%D*18446744073709551616^j<=(D-1)*18446744073709551616^j:=Int.mul_le_mul_of_nonneg_right (by omega) (Int.le_of_lt (pw_pos j))
     rw [Int.sub_mul,Int.one_mul] at h3
     omega
    ·exact (hB.trans (hU1.below (by omega))).trans (((Upd.refl gQ w1).set j _).below (by omega))
   case measure=>simp [intOf]
end
theorem quo_val {x:Nat->Int}{d:Int}(hx:Words x)(hd:0<d)(m:Nat):val (quoW x d m) m=val x m/d/\remJ x d m m=val x m%d:=by
 have h:=div_val x d m m (Nat.le_refl _)
 simp only [Nat.sub_self,val,Int.pow_zero,Int.mul_one,Int.zero_add,Int.sub_zero] at h
 have hb:=remJ_bd x d m m hd
 have e:=(Int.ediv_emod_unique hd (a:=val x m) (r:=remJ x d m m) (q:=val (quoW x d m) m)).2 ⟨h,hb.1,hb.2⟩
 exact ⟨e.1.symm,e.2.symm⟩
theorem divZ_words {x:Nat->Int}{d:Int}(hx:Words x)(hd:0<d)(m k:Nat):Words (divZ x d m k):=fun i=>by unfold divZ;split;exact quoW_words hx hd m i;exact hx i
theorem val_oneA (c:Int):val (oneW c) 1=c:=by simp [val,oneW]
def DivOut (n n':Nat)(X Y:Int)(w:World)(e:Ending)(w':World):Prop :=
 ∃ o k cap z o' k' cap' z',e=.returned (.tuple #[.slice o k cap,.slice o' k' cap',.int .i64 0])/\k<=2001/\k'<=2001/\Num w' o k cap z/\Num w' o' k' cap' z'/\val z k=X/Y/\val z' k'=X%Y/\sizeL z k=k/\sizeL z' k'=k'/\Below w.heap.size w w'
theorem ndiv_less (a a':Option Addr)(n c n' c':Nat)(x y:Nat->Int)(w:World)(hn:n<4000000000)(hn':n'<4000000000)(h:Num w a n c x)(h':Num w a' n' c' y)(hs:sizeL x n<=2000)(hs':sizeL y n'<=2000)(hlt:sizeL x n<sizeL y n') :
  Calls Tryz.prog 164 #[.slice a n c,.slice a' n' c'] w (DivOut n n' (val x n) (val y n') w):=by
 have hb:=bare_any a n c x w (by omega) h
 have hb':=bare_any a' n' c' y w (by omega) h'
 have hle:=sizeL_le x n
 have hle':=sizeL_le y n'
 have ht:=ntrim_any a (sizeL x n) c x w (by omega) h.bare
 rw [sizeL_sizeL] at ht
 have hv:=val_longer h.2.2.1 h'.2.2.1 hlt (sizeL_sizeL y n')
 rw [val_bare,val_bare] at hv
 have hx0:=(val_bd h.2.2.1 n).1
 have HV:Hid (val x n/val y n'=0/\val x n%val y n'=val x n):=⟨Int.ediv_eq_zero_of_lt hx0 hv,Int.emod_eq_of_lt hx0 hv⟩
 have HN:Hid (Num (w.alloc (.cells (arrOf x (sizeL x n)) 22)) (some ⟨w.heap.size,0,none⟩) (sizeL x n) (sizeL x n) x):=num_of_block (by omega) h.2.2.1 h.bare.2.2.2.1 (arrOf_size _ _) (fun j hj=>arrOf_get _ _ _ _)
 have HVX:Hid (val x (sizeL x n)=val x n):=val_bare n
 have HSS:Hid (sizeL x (sizeL x n)=sizeL x n):=sizeL_sizeL x n
 have hlti:(sizeL x n:Int)<sizeL y n':=by omega
 have hsi:(sizeL x n:Int)<=2000:=by omega
 have hsi':(sizeL y n':Int)<=2000:=by omega
 have hne:((sizeL y n':Int)==0)=false:=by simp;omega
 generalize sizeL x n=s at *
 generalize sizeL y n'=s' at *
 clear h h' hv hx0
 generalize val x n=X at *
 generalize val y n'=Y at *
 go_enter Tryz.func164,Tryz.ntmps164
 go_wp2_with (first|(go_at_call_of 102 (Value.slice a n c);refine hb.mono ?_;rintro e w' ⟨rfl,rfl⟩)|(go_at_call_of 102 (Value.slice a' n' c');refine hb'.mono ?_;rintro e w' ⟨rfl,rfl⟩)|(go_at_call 103;refine ht.mono ?_;rintro e w1 ⟨rfl,rfl⟩))
 go_ret3
 exact ⟨none,0,0,_,_,s,s,x,rfl,by omega,by omega,num_none _,HN.out,by rw [HV.out.1];rfl,by rw [HV.out.2];exact HVX.out,rfl,HSS.out,below1 w _⟩
theorem ndiv_one (a a':Option Addr)(n c n' c':Nat)(x y:Nat->Int)(w:World)(hn:n<4000000000)(hn':n'<4000000000)(h:Num w a n c x)(h':Num w a' n' c' y)(hs:sizeL x n<=2000)(hs':sizeL y n'=1)(hlt:1<=sizeL x n) :
  Calls Tryz.prog 164 #[.slice a n c,.slice a' n' c'] w (DivOut n n' (val x n) (val y n') w):=by
 have hb:=bare_any a n c x w (by omega) h
 have hb':=bare_any a' n' c' y w (by omega) h'
 have hle:=sizeL_le x n
 have hle':=sizeL_le y n'
 have ht:=ntrim_any a (sizeL x n) c x w (by omega) h.bare
 rw [sizeL_sizeL] at ht
 have hy1:val y n'=y 0:=by rw [← val_bare n',hs'];simp [val]
 have hyt:=sizeL_top (x:=y) n' (by omega)
 rw [hs'] at hyt
 have hyb:=h'.2.2.1 0
 have hy0:0<y 0:=by have:y 0≠0:=hyt;omega
 obtain ⟨b',off',rfl,hbs',hc'⟩:=h'.cells (by omega)
 have hcy:=hc' 0 (by omega)
 have hx:=h.2.2.1
 have HVX:Hid (val x (sizeL x n)=val x n):=val_bare n
 rw [hs'] at hb'
 have hd:=divideBy_any w.heap.size (sizeL x n) (sizeL x n) (sizeL x n) x (y 0) _ (Nat.le_refl _) (by omega) hx ⟨hy0,hyb.2⟩ (Own.new w x (sizeL x n))
 have hqv:=quo_val hx hy0 (sizeL x n)
 rw [hy1]
 have hcy2:(w.alloc (.cells (arrOf x (sizeL x n)) 22)).cell? ⟨b',off',none⟩=some (.int .u64 (y 0)):=((below1 w _).cell (p:=⟨b',off',none⟩) hbs').trans hcy
 have HB:=below1 w (.cells (arrOf x (sizeL x n)) 22)
 have hsi:(sizeL x n:Int)<=2000:=by omega
 have hs1i:¬ (sizeL x n:Int)<1:=by omega
 have hs1n:¬ sizeL x n<1:=by omega
 have HDW:Hid (Words (divZ x (y 0) (sizeL x n) 0)):=divZ_words hx hy0 _ 0
 have HDV:Hid (val (divZ x (y 0) (sizeL x n) 0) (sizeL x n)=val x n/y 0):=by
  show _=_
  rw [val_congr (y:=quoW x (y 0) (sizeL x n)) (sizeL x n) fun i hi=>by unfold divZ;rw [if_pos (by omega)],hqv.1,HVX.out]
 have HRV:Hid (remJ x (y 0) (sizeL x n) (sizeL x n)=val x n%y 0):=by show _=_;rw [hqv.2,HVX.out]
 have hrb:=remJ_bd x (y 0) (sizeL x n) (sizeL x n) hy0
 generalize remJ x (y 0) (sizeL x n) (sizeL x n)=rm at *
 generalize divZ x (y 0) (sizeL x n) 0=dz at *
 generalize sizeL x n=s at *
 clear h h' hc' hqv hyt hx HVX hy1
 generalize val x n=X at *
 go_enter Tryz.func164,Tryz.ntmps164
 go_wp2_with (first|(go_at_call_of 102 (Value.slice a n c);refine hb.mono ?_;rintro e w' ⟨rfl,rfl⟩;clear hb)|(go_at_call_of 102 (Value.slice (some ⟨b',off',none⟩) n' c');refine hb'.mono ?_;rintro e w' ⟨rfl,rfl⟩;clear hb')|(go_at_call 103;refine ht.mono ?_;rintro e w1 ⟨rfl,rfl⟩)|(go_at_call 104;refine hd.mono ?_;rintro e w2 ⟨rfl,hO2,hU2⟩))
 obtain ⟨k,z',hkN,hNk,hvk,hsk,hbr⟩:=bare_own hO2 HDW.out (by omega) (Nat.le_refl s) (by unfold maxLen;omega) HDV.out
 go_wp2_with (go_at_call 102;refine hbr.mono ?_;rintro e w3 ⟨rfl,rfl⟩;clear hbr)
 have hN1:=num_one w2 rm (by omega)
 have hB2:=below1 w2 (.cells #[.int .u64 rm] 22)
 have hbr2:=bare_any _ 1 1 (oneW rm) _ (by omega) hN1
 have HN1:Hid (Num (w2.alloc (.cells #[.int .u64 rm] 22)) (some ⟨w2.heap.size,0,none⟩) (sizeL (oneW rm) 1) 1 (oneW rm)):=hN1.bare
 have HNk:Hid (Num (w2.alloc (.cells #[.int .u64 rm] 22)) (some ⟨w.heap.size,0,none⟩) k s z'):=hNk.next hB2
 have HBB:Hid (Below w.heap.size w (w2.alloc (.cells #[.int .u64 rm] 22))):=(HB.trans (hU2.below (Nat.le_refl _))).trans (hB2.mono (by rw [hU2.size];simp))
 have HV1:Hid (val (oneW rm) (sizeL (oneW rm) 1)=X%y 0):=by show _=_;rw [val_bare,val_oneA,HRV.out]
 have HSS:Hid (sizeL (oneW rm) (sizeL (oneW rm) 1)=sizeL (oneW rm) 1):=sizeL_sizeL _ _
 have HLE:Hid (sizeL (oneW rm) 1<=1):=sizeL_le _ _
 generalize sizeL (oneW rm) 1=k1 at *
 clear hN1 hB2 hNk hO2 hU2 HB
 go_wp2_with (go_at_call 102;refine hbr2.mono ?_;rintro e w4 ⟨rfl,rfl⟩;clear hbr2)
 go_ret3
 exact ⟨_,k,s,z',_,k1,1,oneW rm,rfl,by omega,by have:=HLE.out;omega,HNk.out,HN1.out,hvk,HV1.out,hsk,HSS.out,HBB.out⟩
theorem ndiv_long (a a':Option Addr)(n c n' c':Nat)(x y:Nat->Int)(w:World)(hn:n<4000000000)(hn':n'<4000000000)(h:Num w a n c x)(h':Num w a' n' c' y)(hs:sizeL x n<=2000)(hs':2<=sizeL y n')(hlt:sizeL y n'<=sizeL x n) :
  Calls Tryz.prog 164 #[.slice a n c,.slice a' n' c'] w (DivOut n n' (val x n) (val y n') w):=by
 have hb:=bare_any a n c x w (by omega) h
 have hb':=bare_any a' n' c' y w (by omega) h'
 have hle:=sizeL_le x n
 have hle':=sizeL_le y n'
 have hd:=divideLong_any a a' (sizeL x n) c (sizeL y n') c' x y w hs hs' hlt h.bare h'.bare (sizeL_sizeL y n')
 rw [val_bare,val_bare] at hd
 have hlti:¬ (sizeL x n:Int)<sizeL y n':=by omega
 have hltn:¬ sizeL x n<sizeL y n':=by omega
 have hsi:(sizeL x n:Int)<=2000:=by omega
 have hsi':(sizeL y n':Int)<=2000:=by omega
 have hne:((sizeL y n':Int)==0)=false:=by simp;omega
 have hne1:((sizeL y n':Int)==1)=false:=by simp;omega
 generalize sizeL x n=s at *
 generalize sizeL y n'=s' at *
 clear h h'
 generalize val x n=X at *
 generalize val y n'=Y at *
 go_enter Tryz.func164,Tryz.ntmps164
 go_wp2_with (first|(go_at_call_of 102 (Value.slice a n c);refine hb.mono ?_;rintro e w' ⟨rfl,rfl⟩;clear hb)|(go_at_call_of 102 (Value.slice a' n' c');refine hb'.mono ?_;rintro e w' ⟨rfl,rfl⟩;clear hb')|(go_at_call 198;refine hd.mono ?_;rintro e w2 ⟨gq,gr,q,z,rfl,hQ,hqw,hqv,hR,hzw,hzv,hB⟩))
 obtain ⟨k,z',hkN,hNk,hvk,hsk,hbr⟩:=bare_own hQ hqw (by omega) (Nat.le_refl _) (by unfold maxLen;omega) hqv
 obtain ⟨k2,z2,hkN2,hNk2,hvk2,hsk2,hbr2⟩:=bare_own hR hzw (by omega) (Nat.le_refl _) (by unfold maxLen;omega) hzv
 have HNk:Hid (Num w2 (some ⟨gq,0,none⟩) k (s-s'+1) z'):=hNk
 have HNk2:Hid (Num w2 (some ⟨gr,0,none⟩) k2 s' z2):=hNk2
 clear hQ hR hNk hNk2
 go_wp2_with (go_at_call 102;refine hbr.mono ?_;rintro e w3 ⟨rfl,rfl⟩;clear hbr)
 go_wp2_with (go_at_call 102;refine hbr2.mono ?_;rintro e w4 ⟨rfl,rfl⟩;clear hbr2)
 go_ret3
 exact ⟨_,k,_,z',_,k2,_,z2,rfl,by omega,by omega,HNk.out,HNk2.out,hvk,hvk2,hsk,hsk2,hB⟩
theorem ndiv_any (a a':Option Addr)(n c n' c':Nat)(x y:Nat->Int)(w:World)(hn:n<4000000000)(hn':n'<4000000000)(h:Num w a n c x)(h':Num w a' n' c' y)(hs:sizeL x n<=2000)(hs':sizeL y n'<=2000)(hy:0<sizeL y n') :
  Calls Tryz.prog 164 #[.slice a n c,.slice a' n' c'] w (DivOut n n' (val x n) (val y n') w):=by
 by_cases h1:sizeL x n<sizeL y n'
 ·exact ndiv_less a a' n c n' c' x y w hn hn' h h' hs hs' h1
 ·by_cases h2:sizeL y n'=1
  ·exact ndiv_one a a' n c n' c' x y w hn hn' h h' hs h2 (by omega)
  ·exact ndiv_long a a' n c n' c' x y w hn hn' h h' hs (by omega) (by omega)
theorem p64' (q r:Nat):(18446744073709551616:Int)^q*2^r=2^(64*q+r):=by rw [Int.mul_comm];exact p64 q r
theorem len_bd {x:Nat->Int}(hx:Words x){n:Nat}(h:0<sizeL x n):∃ L:Nat,lenL x n=(L:Int)+1/\2^L<=val x n/\val x n<2^(L+1):=by
 obtain ⟨j,hj⟩:∃ j,sizeL x n=j+1:=⟨sizeL x n-1,by omega⟩
 have ht:=sizeL_top (x:=x) n h
 rw [hj] at ht
 have hxj:=hx j
 have hne:x j≠0:=ht
 obtain ⟨u,hu⟩:=Int.eq_ofNat_of_zero_le hxj.1
 have hb:=bitLen_spec u (by omega) (by omega)
 have hv:val x n=val x j+x j*18446744073709551616^j:=by rw [← val_bare n,hj];rfl
 have hbd:=val_bd hx j
 have hP:=pw_pos j
 refine ⟨64*j+(Lib.bitLen u-1),?_,?_,?_⟩
 ·unfold lenL;rw [if_neg (by omega),hj]
  show 64*((j+1:Nat):Int)-64+(Lib.bitLen (x j).toNat:Nat)=_
  rw [hu,Int.toNat_natCast];omega
 ·rw [hv,← p64',hu]
  have h1:(2:Int)^(Lib.bitLen u-1)<=u:=by rw [← powCast];omega
  have h2:18446744073709551616^j*2^(Lib.bitLen u-1)<=18446744073709551616^j*(u:Int):=Int.mul_le_mul_of_nonneg_left h1 (Int.le_of_lt hP)
  rw [Int.mul_comm _ (u:Int)] at h2
  omega
 ·rw [hv,show 64*j+(Lib.bitLen u-1)+1=64*j+Lib.bitLen u by omega,← p64',hu]
  have h1:(u:Int)+1<=2^Lib.bitLen u:=by rw [← powCast];omega
  have h2:18446744073709551616^j*((u:Int)+1)<=18446744073709551616^j*2^Lib.bitLen u:=Int.mul_le_mul_of_nonneg_left h1 (Int.le_of_lt hP)
  rw [Int.mul_add,Int.mul_one,Int.mul_comm _ (u:Int)] at h2
  omega
theorem shrW_val {y:Nat->Int}{n q r A:Nat}(hy:Words y)(hz:∀ i,n<=i->y i=0)(hr:r<64)(m:Nat)(hm:n<=m)(hA:val y n=A):val (shrW y q r) m=((A/2^(64*q+r):Nat):Int):=by
 have hw:Words (fun i=>y (q+i)):=fun i=>hy (q+i)
 have e1:shrW y q r=shrW (fun i=>y (q+i)) 0 r:=by
  funext j;unfold shrW;simp only [Nat.zero_add,Nat.add_assoc]
 have h1:=dn_val hw hr m
 have h2:y (q+m)=0:=hz _ (by omega)
 simp only [h2,Int.zero_emod,Int.zero_mul,Int.add_zero,Nat.add_zero] at h1
 have h3:=val_split y q m
 have h4:val (segW y q m) m=val (fun i=>y (q+i)) m:=val_congr m fun i hi=>segW_lt y q m i hi
 rw [h4,val_more hz (q+m) (by omega),hA] at h3
 rw [e1]
 have hb1:=val_bd hy q
 have hb2:=val_bd (shrW_words hw (q:=0) (r:=r)) m
 have hp:(0:Int)<2^r:=p2_pos r
 have hm1:=Int.emod_nonneg (y q) (Int.ne_of_gt hp)
 have hm2:=Int.emod_lt_of_pos (y q) hp
 generalize val (shrW (fun i=>y (q+i)) 0 r) m=S at *
 generalize val (fun i=>y (q+i)) m=Z at *
 have eZ:Z/2^r=S:=by
  rw [← h1,Int.add_comm,Int.add_mul_ediv_right _ _ (Int.ne_of_gt hp),Int.ediv_eq_zero_of_lt hm1 hm2,Int.zero_add]
 have eA:(A:Int)/18446744073709551616^q=Z:=by
  rw [h3,Int.add_mul_ediv_right _ _ (Int.ne_of_gt (pw_pos q)),Int.ediv_eq_zero_of_lt hb1.1 hb1.2,Int.zero_add]
 rw [← eZ,← eA,Int.natCast_ediv,Int.ediv_ediv_of_nonneg (Int.le_of_lt (pw_pos q)),p64']
 simp
theorem bnx {w0 W W':World}(h:Below w0.heap.size w0 W)(hb:Below W.heap.size W W'):Below w0.heap.size w0 W':=h.trans (hb.mono h.size)
def bl (V:Nat):Nat:=if V=0 then 0 else Nat.log2 V+1
theorem bl_le {V k:Nat}:bl V<=k↔V<2^k:=by
 unfold bl
 by_cases h:V=0
 ·subst h;simp;exact Nat.two_pow_pos k
 ·rw [if_neg h]
  have:=Nat.log2_lt h (k:=k)
  omega
theorem bl_ge {V k:Nat}:k<bl V↔2^k<=V:=by
 have:=bl_le (V:=V) (k:=k)
 omega
theorem bl_zero {V:Nat}:bl V=0↔V=0:=by
 unfold bl;by_cases h:V=0<;>simp [h]
theorem bl_eq {V L:Nat}(h1:2^(L-1)<=V)(h2:V<2^L):bl V=L:=by
 have a:=bl_le.2 h2
 by_cases h:L=0
 ·omega
 ·have b:=bl_ge.2 h1
  omega
def Nt (K V:Nat)(v:Value)(w:World):Prop:=∃ a k cap z,v=.slice a k cap/\k<=K/\Num w a k cap z/\val z k=(V:Int)
theorem Nt.next {K V:Nat}{v:Value}{w w':World}(h:Nt K V v w)(hb:Below w.heap.size w w'):Nt K V v w':=by
 obtain ⟨a,k,cap,z,h1,h2,h3,h4⟩:=h
 exact ⟨a,k,cap,z,h1,h2,h3.next hb,h4⟩
theorem Nt.more {K K' V:Nat}{v:Value}{w:World}(h:Nt K V v w)(hk:K<=K'):Nt K' V v w:=by
 obtain ⟨a,k,cap,z,h1,h2,h3,h4⟩:=h
 exact ⟨a,k,cap,z,h1,by omega,h3,h4⟩
def Nz (K V:Nat)(v:Value)(w:World):Prop:=∃ a k cap z,v=.slice a k cap/\k<=K/\Num w a k cap z/\val z k=(V:Int)/\sizeL z k=k
theorem Nz.next {K V:Nat}{v:Value}{w w':World}(h:Nz K V v w)(hb:Below w.heap.size w w'):Nz K V v w':=by
 obtain ⟨a,k,cap,z,h1,h2,h3,h4,h5⟩:=h
 exact ⟨a,k,cap,z,h1,h2,h3.next hb,h4,h5⟩
theorem Nz.nt {K V:Nat}{v:Value}{w:World}(h:Nz K V v w):Nt K V v w:=by
 obtain ⟨a,k,cap,z,h1,h2,h3,h4,h5⟩:=h
 exact ⟨a,k,cap,z,h1,h2,h3,h4⟩
theorem size_zero {z:Nat->Int}{k V:Nat}(hz:Words z)(hv:val z k=(V:Int)):sizeL z k=0↔V=0:=by
 constructor
 ·intro h
  have:=val_bare (x:=z) k
  rw [h] at this
  have h0:val z 0=0:=rfl
  omega
 ·intro h
  subst h
  rcases Nat.eq_zero_or_pos (sizeL z k) with h|h
  ·exact h
  ·exfalso
   have:=val_longer (x:=z) (y:=z) hz hz (n:=0) (m:=sizeL z k) h (sizeL_sizeL z k)
   rw [val_bare] at this
   have h0:val z 0=0:=rfl
   omega
theorem len_bl {z:Nat->Int}{k V:Nat}(hz:Words z)(hv:val z k=(V:Int)):lenL z k=(bl V:Int):=by
 rcases Nat.eq_zero_or_pos (sizeL z k) with h|h
 ·have h0:=(size_zero hz hv).1 h
  unfold lenL;rw [if_pos h,h0];rfl
 ·obtain ⟨L,h1,h2,h3⟩:=len_bd hz h
  rw [hv] at h2 h3
  have e:bl V=L+1:=by
   have e1:((2:Int)^L)=((2^L:Nat):Int):=by simp
   have e2:((2:Int)^(L+1))=((2^(L+1):Nat):Int):=by simp
   rw [e1] at h2
   rw [e2] at h3
   exact bl_eq (by rw [Nat.add_sub_cancel];omega) (by omega)
  rw [e,h1];omega
theorem size_bl {z:Nat->Int}{k V m:Nat}(hz:Words z)(hv:val z k=(V:Int)):sizeL z k<=m↔bl V<=64*m:=by
 have hl:=len_bl hz hv
 unfold lenL at hl
 rcases Nat.eq_zero_or_pos (sizeL z k) with h|h
 ·rw [if_pos h] at hl;omega
 ·rw [if_neg (by omega)] at hl
  have ht:=sizeL_top k h
  have hw:=hz (sizeL z k-1)
  have hb:=bitLen_spec (z (sizeL z k-1)).toNat (by omega) (by omega)
  omega
theorem nlen_v {K V:Nat}{v:Value}{w:World}(hK:K<100000000)(h:Nt K V v w) :
  CQ 110 #[v] w (.int .i64 (bl V:Int)):=by
 obtain ⟨a,k,cap,z,rfl,hk,hN,hv⟩:=h
 refine (nlen_any a k cap z w (by omega) hN).mono fun e w' ⟨h1,h2⟩=>⟨?_,h2⟩
 rw [h1,len_bl hN.2.2.1 hv]
theorem nshl_v {K V:Nat}{v:Value}{w:World}(d:Nat)(hK:K<100000000)(h:Nt K V v w)(hd:bl V+d<=127000) :
  Calls Tryz.prog 54 #[v,.int .i64 (d:Int)] w fun e w'=>∃ r,e=.returned (.tuple #[r,.int .i64 0])/\Nz 2001 (V*2^d) r w'/\Below w.heap.size w w':=by
 obtain ⟨a,k,cap,z,rfl,hk,hN,hv⟩:=h
 have hs:=(size_bl (m:=(bl V+63)/64) hN.2.2.1 hv).2 (by omega)
 refine (nshl_any a k cap z d w (by omega) hN (by omega) (by omega)).mono fun e w' ⟨g,k',cap',z',h1,h2,h3,h4,h5,h6⟩=>⟨_,h1,⟨_,k',cap',z',rfl,h2,h3,?_,h5⟩,h6⟩
 rw [h4,hv];simp
theorem ncmp_v {K K' V V':Nat}{v v':Value}{w:World}(hK:K<100000000)(hK':K'<100000000)(h:Nt K V v w)(h':Nt K' V' v' w) :
  CB 57 #[v,v'] w (.int .i64 (sgn (V:Int) (V':Int))):=by
 obtain ⟨a,k,cap,z,rfl,hk,hN,hv⟩:=h
 obtain ⟨a',k',cap',z',rfl,hk',hN',hv'⟩:=h'
 have:=ncmp_b a a' k cap k' cap' z z' w (by omega) (by omega) hN hN'
 rw [hv,hv'] at this
 exact this
theorem nadd_v {K K' V V':Nat}{v v':Value}{w:World}(hK:K<100000000)(hK':K'<100000000)(h:Nt K V v w)(h':Nt K' V' v' w) :
  CE 166 #[v,v'] w (Nz (K+K'+1) (V+V')):=by
 obtain ⟨a,k,cap,z,rfl,hk,hN,hv⟩:=h
 obtain ⟨a',k',cap',z',rfl,hk',hN',hv'⟩:=h'
 have s1:=sizeL_le z k
 have s2:=sizeL_le z' k'
 refine (nadd_any a a' k cap k' cap' z z' w (by omega) (by omega) hN hN').mono fun e w' ⟨g,k2,cap2,z2,h1,h2,h3,h4,h5,h6⟩=>⟨_,h1,⟨_,k2,cap2,z2,rfl,by omega,h3,?_,h5⟩,h6⟩
 rw [h4,hv,hv'];omega
theorem ndiv_v {K K' V V':Nat}{v v':Value}{w:World}(hK:K<100000000)(hK':K'<100000000)(h:Nt K V v w)(h':Nt K' V' v' w)(hb:bl V<=128000)(hb':bl V'<=128000)(h0:V'≠0) :
  Calls Tryz.prog 164 #[v,v'] w fun e w'=>∃ q r,e=.returned (.tuple #[q,r,.int .i64 0])/\Nz 2001 (V/V') q w'/\Nz 2001 (V%V') r w'/\Below w.heap.size w w':=by
 obtain ⟨a,k,cap,z,rfl,hk,hN,hv⟩:=h
 obtain ⟨a',k',cap',z',rfl,hk',hN',hv'⟩:=h'
 have s1:=(size_bl (m:=2000) hN.2.2.1 hv).2 (by omega)
 have s2:=(size_bl (m:=2000) hN'.2.2.1 hv').2 (by omega)
 have s3:0<sizeL z' k':=Nat.pos_of_ne_zero fun e=>h0 ((size_zero hN'.2.2.1 hv').1 e)
 refine (ndiv_any a a' k cap k' cap' z z' w (by omega) (by omega) hN hN' s1 s2 s3).mono fun e w' ⟨o,k2,cap2,z2,o',k3,cap3,z3,h1,h2,h3,h4,h5,h6,h7,h8,h9,h10⟩=>⟨_,_,h1,⟨_,_,_,_,rfl,h2,h4,?_,h8⟩,⟨_,_,_,_,rfl,h3,h5,?_,h9⟩,h10⟩
 ·rw [h6,hv,hv'];simp
 ·rw [h7,hv,hv'];simp
theorem nshr_v {K V:Nat}{v:Value}{w:World}(hK:K<100000000)(h:Nt K V v w) :
  Calls Tryz.prog 150 #[v,.int .i64 1] w fun e w'=>∃ r b,e=.returned (.tuple #[r,.bool b])/\Nz K (V/2) r w'/\Below w.heap.size w w':=by
 obtain ⟨a,k,cap,z,rfl,hk,hN,hv⟩:=h
 refine (nshr_all a k cap z 1 w (by omega) hN (by decide)).mono fun e w' ⟨o,k2,cap2,h1,h2,h3,h4,h5⟩=>⟨_,_,h1,⟨_,_,_,_,rfl,by omega,h3,?_,h4⟩,h5⟩
 have hz:=h3.2.2.2.1
 have e1:shrF z 1=shrW z 0 1:=by unfold shrF;rw [if_neg (by decide)];rfl
 rw [← val_more hz k h2,e1]
 exact shrW_val hN.2.2.1 hN.2.2.2.1 (by decide) k (Nat.le_refl _) hv
section
def knB (d:Int):Prop:=0<=d/\d<=4
instance (d:Int):Decidable (knB d):=inferInstanceAs (Decidable (_/\_))
theorem known_any (d:Int)(w:World):CQ 44 #[.int .i64 d] w (.bool (decide (knB d))):=by
 by_cases h1:0<=d
 ·by_cases h2:d<=4
  ·rw [decide_eq_true (show knB d from ⟨h1,h2⟩)]
   go_enter Tryz.func44,Tryz.ntmps44
   go_wp2
   go_ret
   exact ⟨rfl,rfl⟩
  ·rw [decide_eq_false (show ¬ knB d from fun h=>h2 h.2)]
   go_enter Tryz.func44,Tryz.ntmps44
   go_wp2
   go_ret
   exact ⟨rfl,rfl⟩
 ·rw [decide_eq_false (show ¬ knB d from fun h=>h1 h.1)]
  go_enter Tryz.func44,Tryz.ntmps44
  go_wp2
  go_ret
  exact ⟨rfl,rfl⟩
def inB (d:Int)(s:Bool):Bool:=if d=0∨d=1 then true else if d=3 then !s else if d=4 then s else false
theorem infinite_any (d:Int)(s:Bool)(w:World):CQ 176 #[.int .i64 d,.bool s] w (.bool (inB d s)):=by
 by_cases h0:d=0
 ·subst h0
  go_enter Tryz.func176,Tryz.ntmps176
  go_wp2
  go_ret
  exact ⟨rfl,rfl⟩
 ·by_cases h1:d=1
  ·subst h1
   go_enter Tryz.func176,Tryz.ntmps176
   go_wp2
   go_ret
   exact ⟨rfl,rfl⟩
  ·by_cases h3:d=3
   ·subst h3
    go_enter Tryz.func176,Tryz.ntmps176
    go_wp2
    go_ret
    exact ⟨rfl,rfl⟩
   ·by_cases h4:d=4
    ·subst h4
     go_enter Tryz.func176,Tryz.ntmps176
     go_wp2
     go_ret
     exact ⟨rfl,rfl⟩
    ·have e:inB d s=false:=by unfold inB;simp [h0,h1,h3,h4]
     have b0:(d==0)=false:=by simpa using h0
     have b1:(d==1)=false:=by simpa using h1
     have b3:(d==3)=false:=by simpa using h3
     have b4:(d==4)=false:=by simpa using h4
     rw [e]
     go_enter Tryz.func176,Tryz.ntmps176
     go_wp2
     go_ret
     exact ⟨rfl,rfl⟩
def faB (d:Int)(s odd:Bool)(R D:Nat):Bool:=if R=0 then false else if d=0 then decide (D<R+R)||(decide (R+R=D)&&odd) else if d=1 then decide (D<=R+R) else inB d s
theorem sgn_ways (a b:Int):(a<b/\sgn a b=-1)∨(a=b/\sgn a b=0)∨(b<a/\sgn a b=1):=by
 unfold sgn
 by_cases h:a<b
 ·exact Or.inl ⟨h,if_pos h⟩
 ·by_cases h':b<a
  ·exact Or.inr (Or.inr ⟨h',by rw [if_neg h,if_pos h']⟩)
  ·exact Or.inr (Or.inl ⟨by omega,by rw [if_neg h,if_neg h']⟩)
section
variable (d:Int)(s odd:Bool)(R D:Nat)(vr vd:Value)(w:World)
 (c26:∀ W,Below w.heap.size w W->CQ 110 #[vr] W (.int .i64 (bl R:Int)))
include c26
theorem far_zero (h:R=0):CB 165 #[.int .i64 d,.bool s,.bool odd,vr,vd] w (.bool false):=by
 have hb:(((bl R:Nat):Int)==0)=true:=by rw [h];decide
 go_enter Tryz.func165,Tryz.ntmps165
 go_wp2_with (go_at_call 110;refine (c26 _ bgo).mono ?_;rintro e w1 ⟨rfl,rfl⟩)
 go_ret
 exact ⟨rfl,bgo⟩
variable (hv:Int)(hR:(((bl R:Nat):Int)==0)=false)
 (c61:∀ W,Below w.heap.size w W->Calls Tryz.prog 166 #[vr,vr] W fun e w'=>∃ r,e=.returned r/\(∀ W',Below w'.heap.size w' W'->Calls Tryz.prog 57 #[r,vd] W' fun e w''=>e=.returned (.int .i64 hv)/\Below W'.heap.size W' w'')/\Below W.heap.size W w')
include hR c61
theorem far_0g (h:0<hv):CB 165 #[.int .i64 0,.bool s,.bool odd,vr,vd] w (.bool true):=by
 go_enter Tryz.func165,Tryz.ntmps165
 go_wp2_with (first
  | (go_at_call 110;refine (c26 _ bgo).mono ?_;rintro e w1 ⟨rfl,rfl⟩)
  | (go_at_call 166;refine (c61 _ bgo).mono ?_;rintro e w2 ⟨v2,rfl,c58,hb2⟩;have hA2:=bnx (w0:=w) bgo hb2)
  | (go_at_call 57;refine (c58 _ (Below.refl _ _)).mono ?_;rintro e w3 ⟨rfl,hb3⟩;have hA3:=bnx (w0:=w) hA2 hb3)
  | (go_at_call 176;refine (infinite_any _ _ _).mono ?_;rintro e w4 ⟨rfl,rfl⟩))
 go_ret
 exact ⟨by first|rfl|(simp;omega),bgo⟩
theorem far_0e (h:hv=0):CB 165 #[.int .i64 0,.bool s,.bool odd,vr,vd] w (.bool odd):=by
 subst h
 go_enter Tryz.func165,Tryz.ntmps165
 go_wp2_with (first
  | (go_at_call 110;refine (c26 _ bgo).mono ?_;rintro e w1 ⟨rfl,rfl⟩)
  | (go_at_call 166;refine (c61 _ bgo).mono ?_;rintro e w2 ⟨v2,rfl,c58,hb2⟩;have hA2:=bnx (w0:=w) bgo hb2)
  | (go_at_call 57;refine (c58 _ (Below.refl _ _)).mono ?_;rintro e w3 ⟨rfl,hb3⟩;have hA3:=bnx (w0:=w) hA2 hb3)
  | (go_at_call 176;refine (infinite_any _ _ _).mono ?_;rintro e w4 ⟨rfl,rfl⟩))
 go_ret
 exact ⟨by first|rfl|(simp;omega),bgo⟩
theorem far_0l (h:¬ 0<hv)(h1:(hv==0)=false):CB 165 #[.int .i64 0,.bool s,.bool odd,vr,vd] w (.bool false):=by
 go_enter Tryz.func165,Tryz.ntmps165
 go_wp2_with (first
  | (go_at_call 110;refine (c26 _ bgo).mono ?_;rintro e w1 ⟨rfl,rfl⟩)
  | (go_at_call 166;refine (c61 _ bgo).mono ?_;rintro e w2 ⟨v2,rfl,c58,hb2⟩;have hA2:=bnx (w0:=w) bgo hb2)
  | (go_at_call 57;refine (c58 _ (Below.refl _ _)).mono ?_;rintro e w3 ⟨rfl,hb3⟩;have hA3:=bnx (w0:=w) hA2 hb3)
  | (go_at_call 176;refine (infinite_any _ _ _).mono ?_;rintro e w4 ⟨rfl,rfl⟩))
 go_ret
 exact ⟨by first|rfl|(simp;omega),bgo⟩
theorem far_1g (h:0<=hv):CB 165 #[.int .i64 1,.bool s,.bool odd,vr,vd] w (.bool true):=by
 go_enter Tryz.func165,Tryz.ntmps165
 go_wp2_with (first
  | (go_at_call 110;refine (c26 _ bgo).mono ?_;rintro e w1 ⟨rfl,rfl⟩)
  | (go_at_call 166;refine (c61 _ bgo).mono ?_;rintro e w2 ⟨v2,rfl,c58,hb2⟩;have hA2:=bnx (w0:=w) bgo hb2)
  | (go_at_call 57;refine (c58 _ (Below.refl _ _)).mono ?_;rintro e w3 ⟨rfl,hb3⟩;have hA3:=bnx (w0:=w) hA2 hb3)
  | (go_at_call 176;refine (infinite_any _ _ _).mono ?_;rintro e w4 ⟨rfl,rfl⟩))
 go_ret
 exact ⟨by first|rfl|(simp;omega),bgo⟩
theorem far_1l (h:¬ 0<=hv):CB 165 #[.int .i64 1,.bool s,.bool odd,vr,vd] w (.bool false):=by
 go_enter Tryz.func165,Tryz.ntmps165
 go_wp2_with (first
  | (go_at_call 110;refine (c26 _ bgo).mono ?_;rintro e w1 ⟨rfl,rfl⟩)
  | (go_at_call 166;refine (c61 _ bgo).mono ?_;rintro e w2 ⟨v2,rfl,c58,hb2⟩;have hA2:=bnx (w0:=w) bgo hb2)
  | (go_at_call 57;refine (c58 _ (Below.refl _ _)).mono ?_;rintro e w3 ⟨rfl,hb3⟩;have hA3:=bnx (w0:=w) hA2 hb3)
  | (go_at_call 176;refine (infinite_any _ _ _).mono ?_;rintro e w4 ⟨rfl,rfl⟩))
 go_ret
 exact ⟨by first|rfl|(simp;omega),bgo⟩
theorem far_d (h0:(d==0)=false)(h1:(d==1)=false):CB 165 #[.int .i64 d,.bool s,.bool odd,vr,vd] w (.bool (inB d s)):=by
 go_enter Tryz.func165,Tryz.ntmps165
 go_wp2_with (first
  | (go_at_call 110;refine (c26 _ bgo).mono ?_;rintro e w1 ⟨rfl,rfl⟩)
  | (go_at_call 166;refine (c61 _ bgo).mono ?_;rintro e w2 ⟨v2,rfl,c58,hb2⟩;have hA2:=bnx (w0:=w) bgo hb2)
  | (go_at_call 57;refine (c58 _ (Below.refl _ _)).mono ?_;rintro e w3 ⟨rfl,hb3⟩;have hA3:=bnx (w0:=w) hA2 hb3)
  | (go_at_call 176;refine (infinite_any _ _ _).mono ?_;rintro e w4 ⟨rfl,rfl⟩))
 go_ret
 exact ⟨by first|rfl|(simp;omega),bgo⟩
end
theorem farther_v (d:Int)(s odd:Bool){K K' R D:Nat}{vr vd:Value}{w:World}(hK:K<1000000)(hK':K'<1000000)(h:Nt K R vr w)(h':Nt K' D vd w) :
  CB 165 #[.int .i64 d,.bool s,.bool odd,vr,vd] w (.bool (faB d s odd R D)):=by
 have c26:=fun W (hb:Below w.heap.size w W)=>nlen_v (by omega) (h.next hb)
 unfold faB
 by_cases hz:R=0
 ·rw [if_pos hz];exact far_zero d s odd R vr vd w c26 hz
 ·rw [if_neg hz]
  have hR:(((bl R:Nat):Int)==0)=false:=by
   have:bl R≠0:=fun e=>hz (bl_zero.1 e)
   rw [beq_eq_false_iff_ne];omega
  have c61:∀ W,Below w.heap.size w W->Calls Tryz.prog 166 #[vr,vr] W fun e w'=>∃ r,e=.returned r/\(∀ W',Below w'.heap.size w' W'->Calls Tryz.prog 57 #[r,vd] W' fun e w''=>e=.returned (.int .i64 (sgn ((R+R:Nat):Int) (D:Int)))/\Below W'.heap.size W' w'')/\Below W.heap.size W w':=fun W hb =>
   (nadd_v (by omega) (by omega) (h.next hb) (h.next hb)).mono fun e w' ⟨r,h1,h2,h3⟩=>⟨r,h1,fun W' hb'=>ncmp_v (by omega) (by omega) (h2.nt.next hb') (h'.next (bnx (bnx hb h3) hb')),h3⟩
  by_cases h0:d=0
  ·subst h0
   rw [if_pos rfl]
   rcases sgn_ways ((R+R:Nat):Int) (D:Int) with ⟨a,e⟩|⟨a,e⟩|⟨a,e⟩
   ·rw [e] at c61
    rw [decide_eq_false (show ¬ D<R+R by omega),decide_eq_false (show ¬ R+R=D by omega)]
    exact far_0l s odd R vr vd w c26 (-1) hR c61 (by decide) (by decide)
   ·rw [e] at c61
    rw [decide_eq_false (show ¬ D<R+R by omega),decide_eq_true (show R+R=D by omega),Bool.false_or,Bool.true_and]
    exact far_0e s odd R vr vd w c26 0 hR c61 rfl
   ·rw [e] at c61
    rw [decide_eq_true (show D<R+R by omega),Bool.true_or]
    exact far_0g s odd R vr vd w c26 1 hR c61 (by decide)
  ·rw [if_neg h0]
   by_cases h1:d=1
   ·subst h1
    rw [if_pos rfl]
    rcases sgn_ways ((R+R:Nat):Int) (D:Int) with ⟨a,e⟩|⟨a,e⟩|⟨a,e⟩
    ·rw [e] at c61
     rw [decide_eq_false (show ¬ D<=R+R by omega)]
     exact far_1l s odd R vr vd w c26 (-1) hR c61 (by decide)
    ·rw [e] at c61
     rw [decide_eq_true (show D<=R+R by omega)]
     exact far_1g s odd R vr vd w c26 0 hR c61 (by decide)
    ·rw [e] at c61
     rw [decide_eq_true (show D<=R+R by omega)]
     exact far_1g s odd R vr vd w c26 1 hR c61 (by decide)
   ·rw [if_neg h1]
    exact far_d d s odd R vr vd w c26 _ hR c61 (by simpa using h0) (by simpa using h1)
theorem raised_any (x s:Bool)(w:World):CQ 118 #[.bool x,.bool s] w (.int .i64 (if x then 0 else if s then 12 else 8)):=by
 cases x<;>cases s
 all_goals (
  go_enter Tryz.func118,Tryz.ntmps118
  go_wp2
  go_ret
  exact ⟨rfl,rfl⟩)
end
section
theorem nz_more2 {K V:Nat}{v:Value}{w w':World}(h:Nz K V v w)(hb:Below w.heap.size w w'):Nz (K+2) V v w':=by
 obtain ⟨a,k,cap,z,rfl,hk,hN,hv,hs⟩:=h
 exact ⟨a,k,cap,z,rfl,by omega,hN.next hb,hv,hs⟩
theorem nt_w1 {W:World}{g V:Nat}{vi:Int}(hg:g=W.heap.size)(hv:vi=(V:Int))(hb:V<18446744073709551616):Nt 1 V (.slice (some ⟨g,0,none⟩) 1 1) (W.alloc (.cells #[.int .u64 vi] 22)):=by
 subst hg hv
 exact ⟨_,1,1,oneW V,rfl,Nat.le_refl _,num_one W V (by omega),val_one1 V⟩
section
variable (d:Int)(s odd far:Bool)(vn vd:Value)(Q R D:Nat)(w:World)(hvb:Nt 2001 D vd w)
 (c59:Calls Tryz.prog 164 #[vn,vd] w fun e w'=>∃ q r,e=.returned (.tuple #[q,r,.int .i64 0])/\Nz 2001 Q q w'/\Nz 2001 R r w'/\Below w.heap.size w w')
 (c60:∀ W vr vb,Nt 2001 R vr W->Nt 2001 D vb W->CB 165 #[.int .i64 d,.bool s,.bool odd,vr,vb] W (.bool far))
 (c26:∀ W vr,Nt 2001 R vr W->CQ 110 #[vr] W (.int .i64 (bl R:Int)))
 (c61:∀ W q v,Nt 2001 Q q W->Nt 1 1 v W->CE 166 #[q,v] W (Nz 2003 (Q+1)))
 (hodd:∀ k z,Words z->val z k=(Q:Int)->0<k->(bits BinOp.and IntKind.u64 (z 0) 1==1)=odd)
 (hodd0:Q=0->odd=false)
include hvb c59 c60 c26 c61 hodd hodd0
theorem whole_cw:Calls Tryz.prog 99 #[.int .i64 d,.bool s,vn,vd] w fun e w'=>∃ v,e=.returned (.tuple #[v,.bool (((bl R:Nat):Int)==0)])/\Nz 2003 (if far then Q+1 else Q) v w'/\Below w.heap.size w w':=by
 go_enter Tryz.func99,Tryz.ntmps99
 go_upto_region 2 with (go_at_call 164;refine c59.mono ?_;rintro e w2 ⟨q,r,rfl,hq,hr,hb2⟩)
 replace hvb:=hvb.next hb2
 have hq':=hq
 obtain ⟨aq,kq,cq,zq,rfl,hkq,hNq,hvq,hsq⟩:=hq
 go_cut [12] from 13 (fun o wc=>o=.bool odd/\wc=w2)
 case first =>
  rcases Nat.eq_zero_or_pos kq with hk0|hk0
  ·have h0:Q=0:=by
    subst hk0
    have:val zq 0=0:=rfl
    omega
   have ho:=hodd0 h0
   subst ho hk0
   clear hodd hodd0 c59 c60 c61 c26
   go_wp2
   go_meet
   exact ⟨rfl,rfl⟩
  ·have ho:=hodd kq zq hNq.2.2.1 hvq hk0
   have hki:(0:Int)<kq:=by omega
   have hz0:=hNq.2.2.1 0
   obtain ⟨n1,n2,n3,n4,n5⟩:=hNq
   rcases n5 with ⟨_,n6⟩|⟨b,off,rfl,n7,n8⟩
   ·omega
   ·have hc0:=n8 0 hk0
    rw [Nat.add_zero] at hc0
    subst ho
    clear hodd hodd0 c59 c60 c61 c26
    go_wp2
    go_meet
    exact ⟨rfl,rfl⟩
 case rest =>
  obtain ⟨rfl,rfl⟩:=hcut
  clear hNq hvq hsq hodd hodd0 c59
  cases far with
  | false =>
   go_wp2_with (first
    | (go_at_call 165;refine (c60 _ _ _ hr.nt hvb).mono ?_;rintro e w3 ⟨rfl,hb3⟩)
    | (go_at_call 110;refine (c26 _ _ (hr.nt.next hb3)).mono ?_;rintro e w4 ⟨rfl,rfl⟩))
   exact bodyPost_ret (v:=.tuple #[_,_]) (by simp only [results,Tryz.results99];go_simp) rfl ⟨_,rfl,nz_more2 hq' hb3,bnx hb2 hb3⟩
  | true =>
   go_wp2_with (first
    | (go_at_call 165;refine (c60 _ _ _ hr.nt hvb).mono ?_;rintro e w3 ⟨rfl,hb3⟩)
    | (go_at_call 166;refine (c61 _ _ _ (hq'.nt.next (bnx hb3 bgo)) (nt_w1 (by simp) rfl (by decide))).mono ?_;rintro e w4 ⟨v4,rfl,h4,hb4⟩;have hA4:Below wc.heap.size wc w4:=bnx (bnx hb3 bgo) hb4)
    | (go_at_call 110;refine (c26 _ _ (hr.nt.next hA4)).mono ?_;rintro e w5 ⟨rfl,rfl⟩))
   exact bodyPost_ret (v:=.tuple #[v4,_]) (by simp only [results,Tryz.results99];go_simp) rfl ⟨_,rfl,h4,bnx hb2 hA4⟩
end
theorem odd_low {k Q:Nat}{z:Nat->Int}(hz:Words z)(hv:val z k=(Q:Int))(hk:0<k):(bits BinOp.and IntKind.u64 (z 0) 1==1)=decide (Q%2=1):=by
 have hb:=hz 0
 rw [show (1:Int)=2^1-1 by decide,and_mask hb (by decide)]
 obtain ⟨k',rfl⟩:∃ k',k=1+k':=⟨k-1,by omega⟩
 have hs:=val_split z 1 k'
 rw [hv] at hs
 have h10:val z 1=z 0:=by show val z 0+z 0*18446744073709551616^0=z 0;simp [val]
 rw [h10,Int.pow_one] at hs
 rcases Nat.mod_two_eq_zero_or_one Q with e|e
 ·rw [decide_eq_false (by omega)]
  rw [beq_eq_false_iff_ne];omega
 ·rw [decide_eq_true e]
  rw [beq_iff_eq];omega
theorem bl_nought (R:Nat):(((bl R:Nat):Int)==0)=decide (R=0):=by
 by_cases hz:R=0
 ·rw [hz];rfl
 ·rw [decide_eq_false hz,beq_eq_false_iff_ne]
  have:=mt bl_zero.1 hz
  omega
theorem whole_cv (d:Int)(s:Bool){N D:Nat}{vn vd:Value}{w:World}(h:Nt 2001 N vn w)(h':Nt 2001 D vd w)(hD:D≠0)(h1:bl N<=128000)(h2:bl D<=128000) :
  Calls Tryz.prog 99 #[.int .i64 d,.bool s,vn,vd] w fun e w'=>∃ v,e=.returned (.tuple #[v,.bool (decide (N%D=0))])/\Nz 2003 (if faB d s (decide (N/D%2=1)) (N%D) D then N/D+1 else N/D) v w'/\Below w.heap.size w w':=by
 refine (whole_cw d s (decide (N/D%2=1)) (faB d s (decide (N/D%2=1)) (N%D) D) vn vd (N/D) (N%D) D w h' (ndiv_v (by decide) (by decide) h h' h1 h2 hD) (fun W vr vb a b=>farther_v d s _ (by decide) (by decide) a b) (fun W vr a=>nlen_v (by decide) a) (fun W q v a b=>nadd_v (by decide) (by decide) a b) (fun k z hz hv hk=>odd_low hz hv hk) ?_).mono ?_
 ·intro h0
  rw [h0];rfl
 ·rintro e w' ⟨v,e1,e2,e3⟩
  rw [bl_nought] at e1
  exact ⟨v,e1,e2,e3⟩
end
def W4 (A:Nat)(i:Nat):Int:=((A/2^(64*i)%18446744073709551616:Nat):Int)
abbrev A4 (A:Nat):Value:=.agg #[.int .u64 (W4 A 0),.int .u64 (W4 A 1),.int .u64 (W4 A 2),.int .u64 (W4 A 3)]
theorem W4_words (A:Nat):Words (W4 A):=fun i=>by
 unfold W4
 have:=Nat.mod_lt (A/2^(64*i)) (show 0<18446744073709551616 by decide)
 omega
theorem p64n (n:Nat):(18446744073709551616:Int)^n=((2^(64*n):Nat):Int):=by
 rw [Nat.pow_mul]
 simp
theorem W4_val (A:Nat):∀ n,val (W4 A) n=((A%2^(64*n):Nat):Int)
 | 0=>by simp [val,Nat.mod_one]
 | n+1=>by
  show val (W4 A) n+W4 A n*18446744073709551616^n=_
  have e:A%2^(64*(n+1))=A%2^(64*n)+2^(64*n)*(A/2^(64*n)%18446744073709551616):=by
   rw [show 64*(n+1)=64*n+64 by omega,Nat.pow_add]
   exact Nat.mod_mul
  rw [W4_val A n,p64n,e]
  unfold W4
  rw [Int.natCast_add,Int.natCast_mul,Int.mul_comm]
theorem W4_val4 {A:Nat}(h:A<2^256):val (W4 A) 4=A:=by
 rw [W4_val,Nat.mod_eq_of_lt h]
theorem arr_eq {x y:Nat->Int}(hx:Words x)(hy:Words y)(h:val x 4=val y 4):arrOf x 4=arrOf y 4 :=
 arrOf_congr (val_inj hx hy 4 h)
theorem arr_A4 {x:Nat->Int}(hx:Words x){A:Nat}(h:val x 4=((A%2^256:Nat):Int)):Value.agg (arrOf x 4)=A4 A:=by
 have e:arrOf x 4=arrOf (W4 A) 4:=arr_eq hx (W4_words A) (by rw [h,W4_val])
 rw [e];rfl
theorem A4_mod (A:Nat):A4 (A%2^256)=A4 A:=by
 have:=arr_A4 (W4_words (A%2^256)) (A:=A) (by rw [W4_val,Nat.mod_mod])
 exact this
theorem A4_inj {A B:Nat}(hA:A<2^256)(hB:B<2^256)(h:∀ i,i<4->W4 A i=W4 B i):A=B:=by
 have:=val_congr (x:=W4 A) (y:=W4 B) 4 h
 rw [W4_val4 hA,W4_val4 hB] at this
 omega
theorem words_A4 {x:Nat->Int}(hx:Words x):∃ A,A<2^256/\Value.agg (arrOf x 4)=A4 A/\val x 4=A:=by
 have hb:=val_bd hx 4
 have e:(18446744073709551616:Int)^4=((2^256:Nat):Int):=by decide
 rw [e] at hb
 obtain ⟨A,hA⟩:=Int.eq_ofNat_of_zero_le hb.1
 have hlt:A<2^256:=by rw [hA] at hb;exact Int.ofNat_lt.1 hb.2
 exact ⟨A,hlt,arr_A4 hx (by rw [Nat.mod_eq_of_lt hlt];exact hA),hA⟩
theorem add4 (A B:Nat)(w:World)(hA:A<2^256)(hB:B<2^256) :
  CB 37 #[A4 A,A4 B] w (.tuple #[A4 (A+B),.int .u64 (((A+B)/2^256:Nat):Int)]):=by
 refine (limAdd4 (W4 A) (W4 B) w (W4_words A) (W4_words B)).mono ?_
 rintro e w' ⟨rfl,hb⟩
 refine ⟨?_,hb⟩
 have hs:=sum_val (x:=W4 A) (y:=W4 B) 4
 have hc:=carryW_01 (W4_words A) (W4_words B) 4
 have hv:=val_bd (sumW_words (W4 A) (W4 B)) 4
 rw [W4_val4 hA,W4_val4 hB] at hs
 have e4:(18446744073709551616:Int)^4=115792089237316195423570985008687907853269984665640564039457584007913129639936:=by decide
 have e4n:(2:Nat)^256=115792089237316195423570985008687907853269984665640564039457584007913129639936:=by decide
 rw [e4] at hs hv
 rw [e4n] at hA hB ⊢
 rw [arr_A4 (sumW_words _ _) (A:=A+B) (by rw [e4n];omega)]
 have:carryW (W4 A) (W4 B) 4=(((A+B)/115792089237316195423570985008687907853269984665640564039457584007913129639936:Nat):Int):=by omega
 rw [this]
theorem sub4 (A B:Nat)(w:World)(hA:A<2^256)(hB:B<2^256) :
  CB 73 #[A4 A,A4 B] w (.tuple #[A4 (A+2^256-B),.int .u64 (if A<B then 1 else 0)]):=by
 refine (limSub4 (W4 A) (W4 B) w (W4_words A) (W4_words B)).mono ?_
 rintro e w' ⟨rfl,hb⟩
 refine ⟨?_,hb⟩
 have hs:=dif_val (x:=W4 A) (y:=W4 B) (W4_words A) (W4_words B) 4
 have hc:=borW_01 (W4 A) (W4 B) 4
 have hv:=val_bd (difW_words (W4 A) (W4 B)) 4
 rw [W4_val4 hA,W4_val4 hB] at hs
 have e4:(18446744073709551616:Int)^4=115792089237316195423570985008687907853269984665640564039457584007913129639936:=by decide
 have e4n:(2:Nat)^256=115792089237316195423570985008687907853269984665640564039457584007913129639936:=by decide
 rw [e4] at hs hv
 rw [e4n] at hA hB ⊢
 rw [arr_A4 (difW_words _ _) (A:=A+115792089237316195423570985008687907853269984665640564039457584007913129639936-B) (by rw [e4n];omega)]
 have:borW (W4 A) (W4 B) 4=if A<B then 1 else 0:=by split<;>omega
 rw [this]
theorem A4_sub {A B:Nat}(h:B<=A):A4 (A+2^256-B)=A4 (A-B):=by
 rw [← A4_mod (A-B),← A4_mod (A+2^256-B),show A+2^256-B=A-B+2^256 by omega,Nat.add_mod_right]
theorem shl4 (A n:Nat)(w:World)(hA:A<2^256)(hn:n<=100000) :
  CB 74 #[A4 A,.int .i64 n] w (A4 (A*2^n)):=by
 refine (shlA4 (W4 A) n w (W4_words A) (by omega)).mono ?_
 rintro e w' ⟨rfl,hb⟩
 refine ⟨?_,hb⟩
 congr 1
 by_cases h1:n=0
 ·subst h1
  have e:shlA (W4 A) ((0:Nat):Int)=W4 A:=by funext j;unfold shlA;rw [if_pos (by omega)]
  rw [e,Nat.pow_zero,Nat.mul_one];rfl
 refine arr_A4 (shlA_words (W4_words A) _) ?_
 have hlow:=shlL_fin (W4_words A) (N:=4) (((n:Int)/64).toNat) (((n:Int)%64).toNat)
 have es:shlA (W4 A) (n:Int)=shlL (W4 A) ((n:Int)/64).toNat ((n:Int)%64).toNat:=by funext j;unfold shlA;rw [if_neg (by omega)]
 rw [es]
 obtain ⟨q,hq⟩:∃ q:Nat,((n:Int)/64).toNat=q:=⟨_,rfl⟩
 obtain ⟨r,hr⟩:∃ r:Nat,((n:Int)%64).toNat=r:=⟨_,rfl⟩
 rw [hq,hr] at hlow ⊢
 have hn:n=64*q+r:=by omega
 have hr6:r<64:=by omega
 have h4:val (shlL (W4 A) q r) 4=val (finL (lowW (W4 A) 4) q r) 4:=by
  refine val_congr 4 fun i hi=>?_
  have:=congrFun hlow i
  rw [lowW_lt hi,lowW_lt hi] at this
  exact this
 have hlw:Words (lowW (W4 A) 4):=lowW_words (W4_words A) 4
 have hz:∀ i,4<=i->lowW (W4 A) 4 i=0:=fun i hi=>lowW_ge hi
 have hF:=finL_val hlw hz q hr6
 have hvl:val (lowW (W4 A) 4) 4=A:=by
  rw [val_congr (x:=lowW (W4 A) 4) (y:=W4 A) 4 (fun i hi=>lowW_lt hi),W4_val4 hA]
 rw [hvl,← hn] at hF
 have hsp:=val_split (finL (lowW (W4 A) 4) q r) 4 (q+1)
 rw [show 4+(q+1)=4+q+1 by omega,hF] at hsp
 have hbd:=val_bd (finL_words hlw (q:=q) (r:=r)) 4
 have e4:(18446744073709551616:Int)^4=((2^256:Nat):Int):=by decide
 rw [e4] at hbd hsp
 rw [h4]
 have:(A:Int)*2^n=((A*2^n:Nat):Int):=by simp
 rw [this] at hsp
 have h5:=congrArg (·%((2^256:Nat):Int)) hsp
 simp only [Int.add_mul_emod_self_right,Int.emod_eq_of_lt hbd.1 hbd.2] at h5
 rw [← h5]
 rfl
theorem shr4 (A n:Nat)(w:World)(hA:A<2^256)(hn:n<=100000) :
  CB 72 #[A4 A,.int .i64 n] w (A4 (A/2^n)):=by
 refine (shrA4 (W4 A) n w (W4_words A) (by omega)).mono ?_
 rintro e w' ⟨rfl,hb⟩
 refine ⟨?_,hb⟩
 congr 1
 by_cases h1:n=0
 ·subst h1
  have e:shrA (W4 A) ((0:Nat):Int) 4=W4 A:=by funext j;unfold shrA;rw [if_pos (by omega)]
  rw [e,Nat.pow_zero,Nat.div_one];rfl
 refine arr_A4 (shrA_words (W4_words A) _ _) ?_
 have hlow:=shrL_fin (W4_words A) (N:=4) (((n:Int)/64).toNat) (((n:Int)%64).toNat)
 have es:shrA (W4 A) (n:Int) 4=shrL (W4 A) ((n:Int)/64).toNat ((n:Int)%64).toNat 4:=by funext j;unfold shrA;rw [if_neg (by omega)]
 rw [es]
 obtain ⟨q,hq⟩:∃ q:Nat,((n:Int)/64).toNat=q:=⟨_,rfl⟩
 obtain ⟨r,hr⟩:∃ r:Nat,((n:Int)%64).toNat=r:=⟨_,rfl⟩
 rw [hq,hr] at hlow ⊢
 have hn:n=64*q+r:=by omega
 have hr6:r<64:=by omega
 have h4:val (shrL (W4 A) q r 4) 4=val (shrW (lowW (W4 A) 4) q r) 4:=by
  refine val_congr 4 fun i hi=>?_
  have:=congrFun hlow i
  rw [lowW_lt hi] at this
  exact this
 rw [h4]
 exact (shrW_val (lowW_words (W4_words A) 4) (fun i hi=>lowW_ge hi) hr6 4 (Nat.le_refl _) (by
  rw [val_congr (x:=lowW (W4 A) 4) (y:=W4 A) 4 (fun i hi=>lowW_lt hi),W4_val4 hA])).trans (by rw [← hn,Nat.mod_eq_of_lt (Nat.lt_of_le_of_lt (Nat.div_le_self _ _) hA)])
theorem len4_le {A k:Nat}(hA:A<2^256):lenL (W4 A) 4<=(k:Int)↔A<2^k:=by
  have hv:=W4_val4 hA
  by_cases h0:0<sizeL (W4 A) 4
  · obtain ⟨L,h1,h2,h3⟩:=len_bd (W4_words A) h0
    rw [hv] at h2 h3
    rw [h1]
    have h2' : 2 ^ L ≤ A := by have : ((2 ^ L : Nat) : Int) ≤ A := by simpa using h2
                               omega
    have h3' : A < 2 ^ (L + 1) := by have : (A : Int) < ((2 ^ (L + 1) : Nat) : Int) := by simpa using h3
                                     omega
    constructor
    · intro h
      exact Nat.lt_of_lt_of_le h3' (Nat.pow_le_pow_right (by decide) (by omega))
    · intro h
      have:2^L<2^k:=Nat.lt_of_le_of_lt h2' h
      have:=(Nat.pow_lt_pow_iff_right (a:=2) (by decide)).1 this
      omega
  · have hz:sizeL (W4 A) 4=0:=by omega
    have hl:lenL (W4 A) 4=0:=by unfold lenL;rw [if_pos hz]
    have hA0:(A:Int)=0:=by
      rw [← hv,← val_bare 4,hz];rfl
    rw [hl]
    have:A=0:=by omega
    subst this
    exact ⟨fun _=>Nat.two_pow_pos k,fun _=>by omega⟩
theorem len4_zero {A:Nat}(hA:A<2^256):lenL (W4 A) 4=0↔A=0:=by
 have h:=len4_le (k:=0) hA
 have h2:0<=lenL (W4 A) 4:=by
  by_cases h0:0<sizeL (W4 A) 4
  ·obtain ⟨L,h1,_⟩:=len_bd (W4_words A) h0
   omega
  ·unfold lenL;rw [if_pos (by omega)];exact Int.le_refl _
 constructor
 ·intro h3;have:=h.1 (by omega);omega
 ·intro h3;have:=h.2 (by omega);omega
theorem lenL_low (A:Nat):lenL (lowW (W4 A) 4) 4=lenL (W4 A) 4:=by
 unfold lenL
 rw [sizeL_congr (x:=lowW (W4 A) 4) (y:=W4 A) 4 (fun i hi=>lowW_lt hi)]
 by_cases h:sizeL (W4 A) 4=0
 ·rw [if_pos h,if_pos h]
 ·have:=sizeL_le (W4 A) 4
  rw [if_neg h,if_neg h,lowW_lt (by omega)]
theorem len4' (A:Nat)(w:World):CB 75 #[A4 A] w (.int .i64 (lenL (W4 A) 4)):=len4 (W4 A) w (W4_words A)
theorem bit4 (A n:Nat)(w:World)(hA:A<2^256)(hn:n<256) :
  CB 71 #[A4 A,.int .i64 n] w (.int .u64 ((A/2^n%2:Nat):Int)):=by
 refine (limBit4 (W4 A) n w (W4_words A) (by omega) (by omega)).mono ?_
 rintro e w' ⟨rfl,hb⟩
 refine ⟨?_,hb⟩
 have hb:=W4_words A ((n:Int)/64).toNat
 have h1:bitV (W4 A ((n:Int)/64).toNat) n=((A/2^n%2:Nat):Int):=by
  unfold bitV
  have h2:=and_mask (y:=W4 A ((n:Int)/64).toNat/2^((n:Int)%64).toNat) (r:=1) (div_word _ _ hb) (by decide)
  rw [show (1:Int)=2^1-1 by decide,h2]
  unfold W4
  obtain ⟨q,hq⟩:∃ q:Nat,((n:Int)/64).toNat=q:=⟨_,rfl⟩
  obtain ⟨r,hr⟩:∃ r:Nat,((n:Int)%64).toNat=r:=⟨_,rfl⟩
  rw [hq,hr]
  have hn:n=64*q+r:=by omega
  have hr6:r<64:=by omega
  have e1:((2:Int)^r)=((2^r:Nat):Int):=by simp
  rw [e1,← Int.natCast_ediv]
  have e2:A/2^n=A/2^(64*q)/2^r:=by rw [hn,Nat.pow_add,Nat.div_div_eq_div_mul]
  rw [e2]
  generalize A/2^(64*q)=B
  have e3:B%18446744073709551616/2^r%2=B/2^r%2:=by
   rw [show (18446744073709551616:Nat)=2^r*(2*2^(63-r)) by rw [← Nat.pow_succ',← Nat.pow_add,show r+(63-r+1)=64 by omega]]
   rw [Nat.mod_mul_right_div_self,Nat.mod_mul_right_mod]
  have e4:((2:Int)^1)=((2:Nat):Int):=by decide
  rw [e4,← Int.natCast_emod,e3]
 rw [h1]
theorem of4 (u:Nat)(w:World)(hu:u<18446744073709551616) :
  CB 78 #[.int .u64 u] w (A4 u):=by
 have e0:W4 u 0=u:=by unfold W4;rw [Nat.mul_zero,Nat.pow_zero,Nat.div_one,Nat.mod_eq_of_lt hu]
 have e1:∀ i,0<i->W4 u i=0:=fun i hi=>by
  unfold W4
  have:u<2^(64*i):=Nat.lt_of_lt_of_le hu (by rw [show (18446744073709551616:Nat)=2^64 by decide];exact Nat.pow_le_pow_right (by decide) (by omega))
  rw [Nat.div_eq_of_lt this];rfl
 unfold A4
 rw [e0,e1 1 (by decide),e1 2 (by decide),e1 3 (by decide)]
 go_enter Tryz.func78,Tryz.ntmps78
 go_wp2
 exact bodyPost_ret (v:=.agg #[.int .u64 u,.int .u64 0,.int .u64 0,.int .u64 0]) (by simp [results,Tryz.results78,go_sem]) rfl ⟨rfl,((Below.refl _ _).alloc (Nat.le_refl _) _).alloc (by simp) _⟩
structure Fm (f e:Nat) (l m:Int):Prop where
 f2:2<=f
 f240:f<=240
 e2:2<=e
 e15:e<=15
 fe:f+e<=255
 l1:-1000000<=l
 l0:l<=0
 m:m=l+2^e-3
abbrev LV (f e:Nat)(l m:Int):Value:=.agg #[.int .i64 f,.int .i64 e,.int .i64 l,.int .i64 m]
theorem pow_e {e:Nat}(h2:2<=e)(h15:e<=15):(4:Int)<=2^e/\(2:Int)^e<=32768:=by
 have a:(2:Nat)^2<=2^e:=Nat.pow_le_pow_right (by decide) h2
 have b:(2:Nat)^e<=2^15:=Nat.pow_le_pow_right (by decide) h15
 have c:((2:Int)^e)=((2^e:Nat):Int):=by simp
 rw [c];omega
theorem special_any (f e:Nat)(l m:Int)(w:World)(h:Fm f e l m) :
  CB 35 #[LV f e l m] w (.int .u64 ((2^e-1:Nat):Int)):=by
 have h2:=h.e2
 have h15:=h.e15
 have hp:=pow_e h2 h15
 have hc:((2^e-1:Nat):Int)=2^e-1:=by
  have c:((2:Int)^e)=((2^e:Nat):Int):=by simp
  have:1<=2^e:=Nat.one_le_two_pow
  rw [c];omega
 rw [hc]
 clear hc h
 go_enter Tryz.func35,Tryz.ntmps35
 go_wp2
 go_ret
 exact ⟨rfl,(Below.refl _ _).alloc (Nat.le_refl _) _⟩
theorem lt_below {n g:Nat}{W W':World}(hb:Below n W W')(h:g<W.heap.size):g<W'.heap.size:=Nat.lt_of_lt_of_le h hb.size
theorem bnext {w0 W W':World}(h:Below w0.heap.size w0 W)(hb:Below W.heap.size W W'):Below w0.heap.size w0 W':=h.trans (hb.mono h.size)
theorem power_any (n:Nat)(w:World)(hn:n<=100000) :
  CB 38 #[.int .i64 n] w (A4 (2^n)):=by
 have c1:=fun w=>of4 1 w (by decide)
 have c2:=fun w=>shl4 1 n w (by decide) hn
 rw [Nat.one_mul] at c2
 go_enter Tryz.func38,Tryz.ntmps38
 go_wp2_with (first
  | (go_at_call 78;refine (c1 _).mono ?_;rintro x w1 ⟨rfl,hb1⟩;obtain ⟨hc1,hf1⟩:=bcell hb1;have hz1:=lt_alloc' hb1;have hA1:=bnext (w0:=w) bgo hb1;clear hb1)
  | (go_at_call 74;refine (c2 _).mono ?_;rintro x w2 ⟨rfl,hb2⟩;obtain ⟨hc2,hf2⟩:=bcell hb2;have hz2:=Nat.lt_of_lt_of_le hz1 hb2.size;have hA2:=bnext (w0:=w) bgo hb2;clear hb2))
 exact bodyPost_ret (v:=A4 (2^n)) (by simp [results,Tryz.results38,go_sem, *]) rfl ⟨rfl,bgo⟩
theorem quiet_any (f e:Nat)(l m:Int)(w:World)(h:Fm f e l m) :
  CB 76 #[LV f e l m] w (A4 (2^(f-1))):=by
 have h2:=h.f2
 have h240:=h.f240
 have c1:=fun w=>power_any (f-1) w (by omega)
 rw [show ((f-1:Nat):Int)=(f:Int)-1 by omega] at c1
 clear h
 go_enter Tryz.func76,Tryz.ntmps76
 go_wp2_with (go_at_call 38;refine (c1 _).mono ?_;rintro x w1 ⟨rfl,hb1⟩;obtain ⟨hc1,hf1⟩:=bcell hb1)
 have hA1:=bnext (w0:=w) bgo hb1
 exact bodyPost_ret (v:=A4 (2^(f-1))) (by simp [results,Tryz.results76,go_sem,hc1,hf1]) rfl ⟨rfl,bgo⟩
theorem mod_and {f e B:Nat}(he:e<=15):bits BinOp.and IntKind.u64 (W4 (B/2^f) 0) ((2^e-1:Nat):Int)=((B/2^f%2^e:Nat):Int):=by
 have hc:((2^e-1:Nat):Int)=2^e-1:=by
  have c:((2:Int)^e)=((2^e:Nat):Int):=by simp
  have:1<=2^e:=Nat.one_le_two_pow
  rw [c];omega
 rw [hc,and_mask (W4_words _ 0) (by omega)]
 unfold W4
 rw [Nat.mul_zero,Nat.pow_zero,Nat.div_one]
 have e2:((2:Int)^e)=((2^e:Nat):Int):=by simp
 rw [e2,← Int.natCast_emod]
 congr 1
 rw [show (18446744073709551616:Nat)=2^e*2^(64-e) by rw [← Nat.pow_add,show e+(64-e)=64 by omega]]
 exact Nat.mod_mul_right_mod _ _ _
theorem cell_set {W:World}{p:Addr}{u:Value}(h:W.cell? p=some u)(v:Value):(W.setCell p v).cell? p=some v:=by simp [go_sem,h]
theorem cell_set_ne {W:World}{g i j:Nat}(hij:i≠j)(v:Value):(W.setCell ⟨g,i,none⟩ v).cell? ⟨g,j,none⟩=W.cell? ⟨g,j,none⟩:=by simp [go_sem,hij]
theorem put4 {W:World}{g:Nat}{u0 u1 u2 u3:Value}(h0:W.cell? ⟨g,0,none⟩=some u0)(h1:W.cell? ⟨g,1,none⟩=some u1)(h2:W.cell? ⟨g,2,none⟩=some u2)(h3:W.cell? ⟨g,3,none⟩=some u3)(v0 v1 v2 v3:Value) :
  (W.setCell ⟨g,0,none⟩ v0).cell? ⟨g,0,none⟩=some v0/\((W.setCell ⟨g,0,none⟩ v0).setCell ⟨g,1,none⟩ v1).cell? ⟨g,1,none⟩=some v1/\(((W.setCell ⟨g,0,none⟩ v0).setCell ⟨g,1,none⟩ v1).setCell ⟨g,2,none⟩ v2).cell? ⟨g,2,none⟩=some v2/\((((W.setCell ⟨g,0,none⟩ v0).setCell ⟨g,1,none⟩ v1).setCell ⟨g,2,none⟩ v2).setCell ⟨g,3,none⟩ v3).cell? ⟨g,3,none⟩=some v3 :=
 ⟨cell_set h0 _,cell_set ((cell_set_ne (by decide) _).trans h1) _,cell_set ((cell_set_ne (by decide) _).trans ((cell_set_ne (by decide) _).trans h2)) _,cell_set ((cell_set_ne (by decide) _).trans ((cell_set_ne (by decide) _).trans ((cell_set_ne (by decide) _).trans h3))) _⟩
def sgB (f e B:Nat):Bool:=(((B/2^(f+e)%2:Nat):Int)==1)
theorem split_any (f e:Nat)(l m:Int)(B:Nat)(w:World)(h:Fm f e l m)(hB:B<2^256) :
  CB 34 #[LV f e l m,A4 B] w (.tuple #[.bool (sgB f e B),.int .u64 ((B/2^f%2^e:Nat):Int),A4 (B%2^f)]):=by
 have hf2:=h.f2
 have hf240:=h.f240
 have he15:=h.e15
 have hfe:=h.fe
 have c43:=fun w=>bit4 B (f+e) w hB (by omega)
 have c44:=fun w=>shr4 B f w hB (by omega)
 have c20:=fun w=>special_any f e l m w h
 have hd:B/2^f<2^256:=Nat.lt_of_le_of_lt (Nat.div_le_self _ _) hB
 have c45:=fun w=>shl4 (B/2^f) f w hd (by omega)
 have hle:B/2^f*2^f<=B:=Nat.div_mul_le_self _ _
 have c39:=fun w=>sub4 B (B/2^f*2^f) w hB (Nat.lt_of_le_of_lt hle hB)
 rw [A4_sub hle,show B-B/2^f*2^f=B%2^f by have:=Nat.div_add_mod' B (2^f);omega,if_neg (show ¬ B<B/2^f*2^f by omega)] at c39
 have hand:=mod_and (f:=f) (B:=B) he15
 unfold sgB
 rw [Int.natCast_add] at c43
 clear h hd hle hB
 generalize ((B/2^(f+e)%2:Nat):Int)=S at *
 generalize ((B/2^f%2^e:Nat):Int)=E at *
 generalize ((2^e-1:Nat):Int)=sp at *
 generalize B%2^f=Fr at *
 generalize B/2^f*2^f=Sh at *
 generalize B/2^f=Ab at *
 go_enter Tryz.func34,Tryz.ntmps34
 go_wp2_with (first
  | (go_at_call 71;refine (c43 _).mono ?_;rintro x w1 ⟨rfl,hb1⟩;obtain ⟨hc1,hf1,_,_,hA1,_⟩:=wz w hb1;obtain ⟨_,_⟩:=zf hb1 (w.heap.size+1);obtain ⟨_,_⟩:=zf hb1 (w.heap.size+1+1);clear hb1)
  | (go_at_call 72;refine (c44 _).mono ?_;rintro x w2 ⟨rfl,hb2⟩;obtain ⟨hc2,hf2,_,_,hA2,_⟩:=wz w hb2;obtain ⟨_,_⟩:=zf hb2 (w.heap.size+1);obtain ⟨_,_⟩:=zf hb2 (w.heap.size+1+1);clear hb2))
 refine wp_whole (by kernel_rfl) (by kernel_rfl) fun hne hcell=>?_
 repeat go_big_quiet_step (fail)
 go_big_quiet_step ((go_at_call 35;exact calls_wd _ bk_next (c20 _)))
 repeat go_big_quiet_step (fail)
 refine wpQuiet_nil fun w3 hb3=>?_
 obtain ⟨_,_,_,_,hA3,_⟩:=wz w hb3;obtain ⟨_,_⟩:=zf hb3 (w.heap.size+1);obtain ⟨_,_⟩:=zf hb3 (w.heap.size+1+1);obtain ⟨_,_⟩:=zf hb3 w2.heap.size;clear hb3
 go_wp2
 refine wp_tail 6 (by kernel_rfl) (by kernel_rfl) (by kernel_rfl) (fun _ _ d _ _ h=>by cases d<;>exact h) fun hne hcell=>?_
 simp only [List.take_succ_cons,List.take_zero,List.drop_succ_cons,List.drop_zero]
 repeat go_big_quiet_step (fail)
 go_big_quiet_step ((go_at_call 74;exact calls_wd _ bk_next (c45 _)))
 repeat go_big_quiet_step (fail)
 go_big_quiet_step ((go_at_call 73;exact calls_wd _ bk_next (c39 _)))
 repeat go_big_quiet_step (fail)
 refine wpQuiet_nil fun w4 hb4=>?_
 obtain ⟨_,_,_,_,hA4,_⟩:=wz w hb4;obtain ⟨_,_⟩:=zf hb4 (w.heap.size+1);obtain ⟨_,_⟩:=zf hb4 (w.heap.size+1+1);obtain ⟨_,_⟩:=zf hb4 w2.heap.size;clear hb4
 have k4_wheapsize11_0:w4.cell? ⟨w.heap.size+1+1,0,none⟩=some (.int .u64 0):=(by go_simp);have k4_wheapsize11_1:w4.cell? ⟨w.heap.size+1+1,1,none⟩=some (.int .u64 0):=(by go_simp);have k4_wheapsize11_2:w4.cell? ⟨w.heap.size+1+1,2,none⟩=some (.int .u64 0):=(by go_simp);have k4_wheapsize11_3:w4.cell? ⟨w.heap.size+1+1,3,none⟩=some (.int .u64 0):=(by go_simp)
 go_wp2
 refine wp_tail 5 (by kernel_rfl) (by kernel_rfl) (by kernel_rfl) (fun _ _ d _ _ h=>by cases d<;>exact h) fun hne hcell=>?_
 simp only [List.take_succ_cons,List.take_zero,List.drop_succ_cons,List.drop_zero]
 repeat go_big_quiet_step (fail)
 refine wpQuiet_nil fun w5 hb5=>?_
 obtain ⟨_,_,_,_,hA5,_⟩:=wz w hb5;obtain ⟨_,_⟩:=zf hb5 (w.heap.size+1);obtain ⟨_,_⟩:=zf hb5 (w.heap.size+1+1);obtain ⟨_,_⟩:=zf hb5 w2.heap.size;clear hb5
 have k5_wheapsize11_0:w5.cell? ⟨w.heap.size+1+1,0,none⟩=some (.int .u64 (W4 Fr 0)):=(by go_simp);have k5_wheapsize11_1:w5.cell? ⟨w.heap.size+1+1,1,none⟩=some (.int .u64 (W4 Fr 1)):=(by go_simp);have k5_wheapsize11_2:w5.cell? ⟨w.heap.size+1+1,2,none⟩=some (.int .u64 (W4 Fr 2)):=(by go_simp);have k5_wheapsize11_3:w5.cell? ⟨w.heap.size+1+1,3,none⟩=some (.int .u64 (W4 Fr 3)):=(by go_simp)
 obtain ⟨p5_0,p5_1,p5_2,p5_3⟩:=put4 k5_wheapsize11_0 k5_wheapsize11_1 k5_wheapsize11_2 k5_wheapsize11_3 (.int .u64 (W4 Fr 0)) (.int .u64 (W4 Fr 1)) (.int .u64 (W4 Fr 2)) (.int .u64 (W4 Fr 3))
 go_wp2
 exact bodyPost_ret (v:=.tuple #[.bool (S==1),.int .u64 E,A4 Fr]) (by simp only [results,Tryz.results34];go_simp) rfl ⟨rfl,bgo⟩
theorem p10_pos (n:Nat):(0:Int)<10^n:=Int.pow_pos (by decide)
def dgt (V:Int)(i:Nat):Int:=V/10^i%10
theorem dgt_bd (V:Int)(i:Nat):0<=dgt V i/\dgt V i<=9:=by
 unfold dgt
 have:=Int.emod_nonneg (V/10^i) (show (10:Int)≠0 by decide)
 have:=Int.emod_lt_of_pos (V/10^i) (show (0:Int)<10 by decide)
 omega
theorem dgt_small {V:Int}{L:Nat}(h0:0<=V)(h:V<10^L)(i:Nat)(hi:L<=i):dgt V i=0:=by
 unfold dgt
 have:V/10^i=0:=Int.ediv_eq_zero_of_lt h0 (Int.lt_of_lt_of_le h (by
  obtain ⟨k,rfl⟩:∃ k,i=L+k:=⟨i-L,by omega⟩
  rw [Int.pow_add]
  have h1:=p10_pos L
  have h2:=p10_pos k
  have:(10:Int)^L*1<=10^L*10^k:=Int.mul_le_mul_of_nonneg_left (by omega) (by omega)
  omega))
 rw [this];rfl
theorem div_div10 (V:Int)(a b:Nat):V/10^a/10^b=V/10^(a+b):=by
 rw [Int.pow_add,Int.ediv_ediv_of_nonneg (Int.le_of_lt (p10_pos a))]
theorem emod_mul_ediv' {W a b:Int}(ha:0<a):W%(a*b)/a=W/a%b:=by
 rw [Int.emod_def,Int.emod_def,← Int.ediv_ediv_of_nonneg (Int.le_of_lt ha)]
 have:W-a*b*(W/a/b)=W+(-(b*(W/a/b)))*a:=by grind
 rw [this,Int.add_mul_ediv_right _ _ (by omega)];omega
theorem dgt_step {V r:Int}{L j:Nat}(hr:V/10^L%10^19=r)(hj:j<19):r/10^j%10=dgt V (L+j):=by
 unfold dgt
 rw [← div_div10]
 generalize V/10^L=W at *
 subst hr
 have h1:(10:Int)^19=10^j*(10*10^(18-j)):=by
  rw [← Int.mul_assoc,← Int.pow_succ,← Int.pow_add];congr 1;omega
 have hp:=p10_pos j
 have hp2:=p10_pos (18-j)
 rw [h1,emod_mul_ediv' hp]
 exact Int.emod_emod_of_dvd _ ⟨10^(18-j),rfl⟩
def decL (V:Int)(L:Nat):List Int:=if sizeL (dgt V) L=0 then [48] else (List.range (sizeL (dgt V) L)).map fun i=>48+dgt V (sizeL (dgt V) L-1-i)
theorem decL_more {V:Int}{L L':Nat}(h0:0<=V)(h:V<10^L)(h':V<10^L'):decL V L=decL V L':=by
 have key:∀ a b,a<=b->V<10^a->decL V b=decL V a:=fun a b hab ha=>by
  unfold decL
  rw [sizeL_more (fun i hi=>dgt_small h0 ha i hi) b hab]
 rcases Nat.le_total L L' with e|e
 ·exact (key L L' e h).symm
 ·exact key L' L e h'
def blB (V:Int)(L:Nat):List Value:=(List.range L).map fun i=>Value.int .u8 (48+dgt V i)
theorem blB_succ (V:Int)(L:Nat):blB V L++[Value.int .u8 (48+dgt V L)]=blB V (L+1):=by simp [blB,List.range_succ]
theorem owns_upd {w w':World}{g base n:Nat}{v:Value}{xs:List Value}(h:w.ownsRow base 5 1 v n xs)(hU:Upd g w w')(hg:g<base):w'.ownsRow base 5 1 v n xs:=by
 obtain ⟨h1,h2⟩:=h
 refine ⟨h1,?_⟩
 rcases h2 with h2|⟨g',cap,cur,e,hb,hh,r⟩
 ·exact Or.inl h2
 ·exact Or.inr ⟨g',cap,cur,e,hb,(hU.block g' (by omega)).trans hh,r⟩
def DigSt (w0:World)(V:Int)(s:Nat)(z:Nat->Int)(ao:Option Addr)(L cp:Nat)(wr:World):Prop :=
 Own w0.heap.size s z wr/\wr.ownsRow (w0.heap.size+1) 5 1 (.slice ao L cp) L (blB V L)/\Below w0.heap.size w0 wr/\w0.heap.size+1<=wr.heap.size
def slLen:Value->Nat|.slice _ n _=>n|_=>0
theorem p22:∀ s:Nat,(18446744073709551616:Int)^s<=10^(22*s)
 | 0=>by simp
 | s+1=>by
  have ih:=p22 s
  have e:(10:Int)^(22*(s+1))=10^(22*s)*10000000000000000000000:=by rw [Nat.mul_add,Int.pow_add];rfl
  rw [e,Int.pow_succ]
  have h0:=pw_pos s
  have h1:=p10_pos (22*s)
  generalize (18446744073709551616:Int)^s=A at *
  generalize (10:Int)^(22*s)=B at *
  omega
theorem p10_lt {L s:Nat}(h:(10:Int)^L<18446744073709551616^s):L<22*s:=by
 rcases Nat.lt_or_ge L (22*s) with h'|h'
 ·exact h'
 ·have h2:=p22 s
  obtain ⟨k,rfl⟩:∃ k,L=22*s+k:=⟨L-22*s,by omega⟩
  rw [Int.pow_add] at h
  have h3:=p10_pos k
  have h4:=p10_pos (22*s)
  have:(10:Int)^(22*s)*1<=10^(22*s)*10^k:=Int.mul_le_mul_of_nonneg_left (by omega) (by omega)
  omega
def HasB (g n:Nat)(f:Nat->Int)(w:World):Prop:=g<w.heap.size/\∀ i,i<n->w.cell? ⟨g,i,none⟩=some (.int .u8 (f i))/\w.frozen? ⟨g,i,none⟩=false
theorem owns_cells {w:World}{base g L cap:Nat}{V:Int}(h:w.ownsRow base 5 1 (.slice (some ⟨g,0,none⟩) L cap) L (blB V L)):base<=g/\L<=cap/\cap<=maxLen/\HasB g L (fun i=>48+dgt V i) w:=by
 obtain ⟨hl,h⟩:=h
 rcases h with ⟨h,_⟩|⟨g',cap',cur,he,hb,hh,h1,h2,h3,h4⟩
 ·cases h
 ·cases he
  have hg:g<w.heap.size:=by
   rcases Nat.lt_or_ge g w.heap.size with h'|h'
   ·exact h'
   ·rw [Array.getElem?_eq_none h'] at hh;cases hh
  refine ⟨hb,h1,h2,hg,fun i hi=>⟨?_,?_⟩⟩
  ·have hcur:cur[i]?=some (.int .u8 (48+dgt V i)):=by
    have:(cur.toList.take (L*1))[i]?=some (.int .u8 (48+dgt V i)):=by rw [h4];simp [blB,hi]
    rw [List.getElem?_take] at this
    simpa [hi] using this
   unfold World.cell?
   simp [hh,hcur]
  ·unfold World.frozen?
   simp [hh]
theorem lt_sizeL {V:Int}(h0:0<=V):∀ L,V<10^L->V<10^(sizeL (dgt V) L)
 | 0,h=>h
 | L+1,h=>by
  by_cases e:dgt V L=0
  ·have e1:sizeL (dgt V) (L+1)=sizeL (dgt V) L:=by simp [sizeL,e]
   rw [e1]
   refine lt_sizeL h0 L ?_
   unfold dgt at e
   have hp:=p10_pos L
   rw [Int.pow_succ] at h
   have h1:V/10^L<10:=Int.ediv_lt_of_lt_mul hp (by omega)
   have h2:0<=V/10^L:=Int.ediv_nonneg h0 (by omega)
   have h3:V/10^L=0:=by omega
   have:=Int.lt_mul_ediv_self_add (x:=V) (k:=10^L) hp
   rw [h3] at this;omega
  ·have e1:sizeL (dgt V) (L+1)=L+1:=by simp [sizeL,e]
   rw [e1];exact h
def revL (V:Int)(K:Nat):List Int:=(List.range K).map fun i=>48+dgt V (K-1-i)
section
theorem trimRB_any (b n c:Nat)(f:Nat->Int)(w:World)(hn:n<4294967296)(hnc:n<=c)(hc2:c<=maxLen)(hf:∀ i,0<=f i/\f i<=9)(hc:∀ i,i<n->w.cell? ⟨b,i,none⟩=some (.int .u8 (48+f i))) :
  CQ 171 #[.slice (some ⟨b,0,none⟩) n c,.int .u8 48] w (.slice (some ⟨b,0,none⟩) (sizeL f n) c):=by
 unfold maxLen at hc2
 go_enter Tryz.func171,Tryz.ntmps171
 go_wp2
 go_loop [0] (fun t=>∃ k:Nat,k<=n/\sizeL f k=sizeL f n/\t=.slice (some ⟨b,0,none⟩) k c) (fun t=>match t with|.slice _ k _=>k|_=>0)
 case atStart=>exact ⟨n,Nat.le_refl _,rfl,rfl⟩
 case round =>
  obtain ⟨k,hk,hs,rfl⟩:=hrel
  by_cases h0:k=0
  ·subst h0
   have HS:Hid (sizeL f n=0):=hs.symm
   clear hs hc
   go_wp2
   go_ret
   exact ⟨by rw [HS.out];rfl,rfl⟩
  ·obtain ⟨j,rfl⟩:∃ j,k=j+1:=⟨k-1,by omega⟩
   have hcj:=hc j (by omega)
   have hfj:=hf j
   by_cases hzj:f j=0
   ·have HS:Hid (sizeL f j=sizeL f n):=by
     have:sizeL f (j+1)=sizeL f j:=by simp [sizeL,hzj]
     exact this.symm.trans hs
    clear hs hc hf
    rw [hzj] at hcj
    go_wp2
    go_round
    case rel=>exact ⟨j,by omega,HS.out,rfl⟩
    case measure=>simp
   ·have HS:Hid (sizeL f n=j+1):=by
     have:sizeL f (j+1)=j+1:=by simp [sizeL,hzj]
     exact hs.symm.trans this
    have hne:(48+f j==48)=false:=by simp;omega
    clear hs hc hf
    go_wp2
    go_ret
    exact ⟨by rw [HS.out];rfl,rfl⟩
set_option maxRecDepth 20000 in
theorem trimRight_any (b n c:Nat)(f:Nat->Int)(w:World)(hn:n<4294967296)(hnc:n<=c)(hc2:c<=maxLen)(hf:∀ i,0<=f i/\f i<=9)(hc:∀ i,i<n->w.cell? ⟨b,i,none⟩=some (.int .u8 (48+f i))) :
  CQ 105 #[.slice (some ⟨b,0,none⟩) n c,.string ⟨#[48]⟩] w (.slice (some ⟨b,0,none⟩) (sizeL f n) c):=by
 have hT:=trimRB_any b n c f w hn hnc hc2 hf hc
 clear hf
 by_cases h0:n=0
 ·subst h0
  clear hT hc
  go_enter Tryz.func105,Tryz.ntmps105
  go_wp2
  go_ret
  exact ⟨rfl,rfl⟩
 ·have hn0:((n:Int)==0)=false:=by simp;omega
  clear hc
  generalize sizeL f n=s at *
  go_enter Tryz.func105,Tryz.ntmps105
  have h48:∀ h,((⟨#[48]⟩:ByteArray)[0]'h).toNat=48:=fun _=>rfl
  go_wp2_with (go_at_call 171;refine hT.mono ?_;rintro e w' ⟨rfl,rfl⟩)
  go_ret
  exact ⟨rfl,rfl⟩
theorem trimRight_nil (w:World) :
  CQ 105 #[.slice none 0 0,.string ⟨#[48]⟩] w (.slice none 0 0):=by
 go_enter Tryz.func105,Tryz.ntmps105
 go_wp2
 go_ret
 exact ⟨rfl,rfl⟩
end
end Go.Proofs.YtahfkpjhlbiamaaGreatDoor

namespace Go.Proofs
open Go.Shelf
def Tryz.laysRev_ren:Go.Shelf.Ren:=⟨fun|35=>106|n=>n,fun|22=>136|23=>5|3=>3|4=>4|0=>0|n=>n,fun|n=>n⟩
theorem Tryz.laysRev:Go.Proofs.SlLaysE.n35 Tryz.prog Tryz.laysRev_ren:={
 mixed:=by kernel_rfl
 f35:=⟨Tryz.f106.name,by decide,Tryz.func106.trans (congrArg some (by kernel_rfl))⟩
 t0:=Tryz.underlying0
 a0:=Tryz.isAgg0
 z0:=Tryz.sizeOf0
 v0:=Tryz.zeroValue0
 t3:=Tryz.underlying3
 a3:=Tryz.isAgg3
 z3:=Tryz.sizeOf3
 v3:=Tryz.zeroValue3
 t4:=Tryz.underlying4
 a4:=Tryz.isAgg4
 z4:=Tryz.sizeOf4
 v4:=Tryz.zeroValue4
 t22:=Tryz.underlying136
 a22:=Tryz.isAgg136
 z22:=Tryz.sizeOf136
 v22:=Tryz.zeroValue136
 a23:=Tryz.isAgg5
 z23:=Tryz.sizeOf5 }
end Go.Proofs
set_option maxRecDepth 20000
set_option linter.unusedSectionVars false
set_option linter.unusedSimpArgs false
namespace Go.Proofs.YtahfkpjhlbiamaaGreatDoor
open Go.RowKit Go.Sort
theorem reverse_any (g n c:Nat)(f:Nat->Int)(w:World)(hn:n<4294967296)(h:HasB g n f w) :
  Calls Tryz.prog 106 #[.slice (some ⟨g,0,none⟩) n c] w fun e w'=>e=.returned (.tuple #[])/\HasB g n (fun i=>f (n-1-i)) w'/\Upd g w w':=by
 obtain ⟨hg,hc⟩:=h
 have hl:((List.range n).map f).length=n:=by simp
 have hH:Holds (Value.int .u8) w g 0 ((List.range n).map f).toArray:=by
  intro j hj
  have hj':j<n:=by simpa using hj
  have:=hc j hj'
  rw [Nat.zero_add]
  refine ⟨?_,this.2⟩
  rw [this.1,getElem!_pos _ j hj]
  simp
 have hR:=AnyE.slices_Reverse Tryz.laysRev (Value.int .u8) (fun _=>rfl) g 0 c ((List.range n).map f) w hH (by rw [hl];omega)
 rw [hl] at hR
 refine Calls.mono hR ?_
 rintro e w' ⟨rfl,m,rfl⟩
 have hs:((List.range n).map f).reverse.toArray.size=((List.range n).map f).toArray.size:=by simp
 refine ⟨rfl,⟨by simpa using hg,fun i hi=>?_⟩,?_⟩
 ·have hh:=holds_putRow (Value.int .u8) (Sort.ahead w m) g 0 _ ((List.range n).map f).reverse.toArray (holds_ahead _ _ _ _ _ _ hH) hs i (by simpa using hi)
  rw [Nat.zero_add] at hh
  refine ⟨?_,hh.2⟩
  rw [hh.1,getElem!_pos _ i (by simpa using hi)]
  simp
 ·refine ⟨rfl,rfl,rfl,by simp,fun k hk=>?_⟩
  simp only [putRow,mapBlock,Array.getElem?_modify]
  rw [if_neg (fun e=>hk e.symm)]
  rfl
end Go.Proofs.YtahfkpjhlbiamaaGreatDoor

namespace Go.Proofs.YtahfkpjhlbiamaaGreatDoor
open Go.RowKit
theorem ndigits_any (a:Option Addr)(n c:Nat)(x:Nat->Int)(w:World)(hn:n<4294967296)(h:Num w a n c x)(hsz:sizeL x n<=2000) :
  Calls Tryz.prog 48 #[.slice a n c] w fun e w'=>∃ L,val x n<10^L/\e=.returned (.tuple #[.string (strOfNums (decL (val x n) L)),.int .i64 0])/\Below w.heap.size w w':=by
 have hb:=bare_any a n c x w hn h
 have ht:=ntrim_any a n c x w hn h
 obtain ⟨s,hs⟩:∃ s,sizeL x n=s:=⟨_,rfl⟩
 have hss:=sizeL_sizeL x n
 have hx:=h.2.2.1
 have hval:val x n=val x s:=by rw [← hs];exact val_more (sizeL_zero n h.2.2.2.1) n (sizeL_le x n)
 rw [hval]
 obtain ⟨V,hV⟩:∃ V,val x s=V:=⟨_,rfl⟩
 rw [hs] at hb ht hsz hss
 have hV0:0<=V:=by rw [← hV];exact (val_bd hx s).1
 have hst0:DigSt w V s x none 0 0 (w.alloc (.cells (arrOf x s) 22)):=⟨Own.new w x s,World.ownsRow_nil _ _ _ _,below1 w _,by simp⟩
 rw [hV]
 have HVB:Hid (V<18446744073709551616^s):=by show _<_;rw [← hV];exact (val_bd hx s).2
 have HV:Hid (val x s=V):=hV
 have HSS:Hid (sizeL x s=s):=hss
 have HX:Hid (Words x):=hx
 clear h hval hs hV hss hx
 go_enter Tryz.func48,Tryz.ntmps48
 go_wp2_with (first|(go_at_call 102;refine hb.mono ?_;rintro e w' ⟨rfl,rfl⟩)|(go_at_call 103;refine ht.mono ?_;rintro e w' ⟨rfl,rfl⟩))
 generalize w.alloc (.cells (arrOf x s) 22)=wA at *
 go_loopw [4,5,6,20] (fun dv lv u6 u20 wr=>∃ (L m cp:Nat) (ao:Option Addr) (z:Nat->Int),dv=.slice ao L cp/\lv=.slice (some ⟨w.heap.size,0,none⟩) m s/\m<=s/\L<=22*s+18/\Words z/\sizeL z m=m/\val z m=V/10^L/\DigSt w V s z ao L cp wr) (fun dv _ _ _ _=>22*s+19-slLen dv)
 case atStart=>exact ⟨0,s,0,none,x,rfl,rfl,Nat.le_refl _,by omega,HX.out,HSS.out,by rw [HV.out];simp,hst0⟩
 case round =>
  obtain ⟨L,m,cp,ao,z,rfl,rfl,hm,hLs,hz,hzm,hv,hst⟩:=hrel
  by_cases h0:m=0
  ·subst h0
   have hVL:V<10^L:=by
    have e:V/10^L=0:=hv.symm
    have:=Int.lt_mul_ediv_self_add (x:=V) (k:=10^L) (p10_pos L)
    rw [e] at this;simpa using this
   obtain ⟨hO,hown,hB,hsz2⟩:=hst
   have hown':=hown
   obtain ⟨hl,hcase⟩:=hown'
   rcases hcase with ⟨he,hL0⟩|⟨g,cap,cur,he,_⟩
   ·cases he
    have hTn:=trimRight_nil wr
    have HV2:Hid (V<10^0):=hVL
    have HB:Hid (Below w.heap.size w wr):=hB
    clear hVL hB hown hl hO hv hst0
    go_wp2_with (go_at_call 105;refine hTn.mono ?_;rintro e w' ⟨rfl,rfl⟩)
    go_ret2
    exact ⟨0,HV2.out,rfl,HB.out⟩
   ·cases he
    obtain ⟨hbg,hLc,hcm,hHB⟩:=owns_cells hown
    have hTr:=trimRight_any g L cp (dgt V) wr (by omega) hLc hcm (dgt_bd V) (fun i hi=>(hHB.2 i hi).1)
    have hKL:=sizeL_le (dgt V) L
    have hRv:=reverse_any g (sizeL (dgt V) L) cp (fun i=>48+dgt V i) wr (by omega) ⟨hHB.1,fun i hi=>hHB.2 i (by omega)⟩
    have HD:Hid (decL V L=if sizeL (dgt V) L=0 then [48] else (List.range (sizeL (dgt V) L)).map fun i=>48+dgt V (sizeL (dgt V) L-1-i)):=rfl
    have HV2:Hid (V<10^L):=hVL
    have HB:Hid (Below w.heap.size w wr):=hB
    have HG:Hid (w.heap.size<=g):=by show _<=_;omega
    generalize sizeL (dgt V) L=K at *
    clear hVL hB hown hl hO hv hst0 hHB
    by_cases hK:K=0
    ·subst hK
     have HD0:Hid (strOfNums (decL V L)=⟨#[48]⟩):=by show _=_;rw [HD.out];rfl
     clear HD hRv
     go_wp2_with (go_at_call 105;refine hTr.mono ?_;rintro e w' ⟨rfl,rfl⟩)
     go_ret2
     exact ⟨L,HV2.out,by rw [HD0.out];rfl,HB.out⟩
    ·have hK0:((K:Int)==0)=false:=by simp;omega
     rw [if_neg hK] at HD
     go_wp2_with (first|(go_at_call 105;refine hTr.mono ?_;rintro e w' ⟨rfl,rfl⟩)|(go_at_call 106;refine hRv.mono ?_;rintro e w2 ⟨rfl,hB2,hU2⟩;have hcv:=run_convert_bytes_arg (P:=Tryz.prog) w2 136 5 Tryz.underlying136 Tryz.underlying5 g 0 K cp (decL V L) (by rw [HD.out];simp) (fun i hi=>by rw [HD.out,Nat.zero_add,(hB2.2 i hi).1];simp [hi]) 9 Tryz.underlying9))
     go_ret2
     exact ⟨L,HV2.out,rfl,HB.out.trans (hU2.below HG.out)⟩
  ·have hm0:(0:Int)<m:=by omega
   have hd:=divideBy_any w.heap.size s m s z 10000000000000000000 wr hm (by omega) hz (by omega) hst.1
   have hL:L<22*s:=by
    have h1:=val_pos hz m (by omega) hzm
    rw [hv] at h1
    refine p10_lt (Int.lt_of_le_of_lt ?_ HVB.out)
    have h2:=p10_pos L
    rcases Int.lt_or_le V (10^L) with h3|h3
    ·rw [Int.ediv_eq_zero_of_lt hV0 h3] at h1;omega
    ·exact h3
   have HZM:Hid (sizeL z m=m):=hzm
   have hq:=quo_val hz (show (0:Int)<10000000000000000000 by decide) m
   have hr:V/10^L%10^19=remJ z 10000000000000000000 m m:=by rw [hq.2,hv];rfl
   have hrb:=remJ_bd z 10000000000000000000 m m (by decide)
   have HW:Hid (Words (divZ z 10000000000000000000 m 0)):=divZ_words hz (by decide) m 0
   have HQ:Hid (val (divZ z 10000000000000000000 m 0) m=V/10^(L+19)):=by
    show _=_
    rw [val_congr (y:=quoW z 10000000000000000000 m) m fun i hi=>by unfold divZ;rw [if_pos (by omega)],hq.1,hv,← div_div10];rfl
   have HR:Hid (∀ j,j<19->remJ z 10000000000000000000 m m/10^j%10=dgt V (L+j)):=fun j hj=>dgt_step hr hj
   generalize remJ z 10000000000000000000 m m=r at *
   generalize hz':divZ z 10000000000000000000 m 0=z' at *
   have HST:Hid (DigSt w V s z ao L cp wr):=hst
   clear hst hzm hq hr hv hz' hst0 hz
   go_wp2_with (go_at_call 104;refine hd.mono ?_;rintro e w1 ⟨rfl,hO1,hU1⟩)
   have hst1:DigSt w V s z' ao L cp w1:=⟨hO1,owns_upd HST.out.2.1 hU1 (by omega),HST.out.2.2.1.trans (hU1.below (Nat.le_refl _)),by rw [hU1.size];exact HST.out.2.2.2⟩
   clear hO1 hU1 hd
   go_loopw [4,6,20] (fun dv pv cv wr=>∃ (j cp:Nat) (ao:Option Addr),j<=19/\dv=.slice ao (L+j) cp/\pv=.int .u64 (r/10^j)/\cv=.int .i64 j/\DigSt w V s z' ao (L+j) cp wr) (fun _ _ cv _=>19-(intOf cv).toNat)
   case atStart=>exact ⟨0,cp,ao,by omega,rfl,by simp,rfl,hst1⟩
   case round =>
    clear hst1 HST
    obtain ⟨j,cp2,ao2,hj,rfl,rfl,rfl,hst2⟩:=hrel
    by_cases hj19:j<19
    ·have hji:(j:Int)<19:=by omega
     have hp:0<=r/10^j/\r/10^j<=18446744073709551615:=by
      have h1:=p10_pos j
      have h2:=Int.ediv_nonneg hrb.1 (Int.le_of_lt h1)
      have h3:r/10^j<=r:=Int.ediv_le_self _ hrb.1
      omega
     have HP:Hid (r/10^(j+1)=r/10^j/10):=by
      show _=_
      rw [Int.pow_succ,← Int.ediv_ediv_of_nonneg (Int.le_of_lt (p10_pos j))]
     have HVAL:Hid (r/10^j%10=dgt V (L+j)):=HR.out j hj19
     generalize r/10^j=p at *
     obtain ⟨i0,hi,hz0,hz1,hz2⟩:=info_parts Tryz.info5
     obtain ⟨hO,hown,hB,hsz2⟩:=hst2
     have HOwn:Hid (Own w.heap.size s z' wr):=hO
     have HO:Hid (wr.ownsRow (w.heap.size+1) 5 1 (.slice ao2 (L+j) cp2) (L+j) (blB V (L+j))):=hown
     have HOWN:(wr.alloc (.cells #[.int .u8 (48+p%10)] 5)).ownsRow (w.heap.size+1) 5 1 (.slice ao2 (L+j) cp2) (L+j) (blB V (L+j)):=hown.alloc _
     have HNEWS:∀ (q:Nat) (u:Value),[Value.int .u8 (48+p%10)][q]?=some u->(wr.alloc (.cells #[.int .u8 (48+p%10)] 5)).cell? ((⟨wr.heap.size,0,none⟩:Addr).add q)=some u:=by
      intro q u hq
      match q,hq with
      | 0,hq=>simp at hq;subst hq;simp [Addr.add]
     have HONE:∀ u ∈ [Value.int .u8 (48+p%10)],u.oneCell'=true:=by
      intro u hu;simp at hu;subst hu;rfl
     clear hO hown
     go_wp2_with (first|(at_builtin;refine wpList_append_lies _ rfl (.tmp 22) (.tmp 27) 136 rfl (w.heap.size+1) 5 i0 (.int .u8 0) 1 1 Tryz.underlying136 hi hz0 hz1 hz2 rfl (by decide) (.slice ao2 (L+j) cp2) (L+j) (blB V (L+j)) rfl HOWN ⟨wr.heap.size,0,none⟩ 1 1 [Value.int .u8 (48+p%10)] rfl rfl HNEWS HONE (by omega) (by unfold maxLen;omega) (by omega) (by simp;omega) (wr.heap.size+1) (by simp) ?_;intro g cap w1 hown1 hgrow hat hlt1;clear HOWN HNEWS HONE))
     have hrow:∀ q,(Value.slice ao2 (L+j) cp2).ownBlock=some q->w.heap.size+1<=q:=by
      intro q hq
      rcases ao2 with _|⟨bb,oo,sp⟩
      ·cases hq
      ·cases hq
       obtain ⟨_,h1⟩:=HO.out
       rcases h1 with ⟨h1,_⟩|⟨g',_,_,h1,h2,_⟩
       ·cases h1
       ·cases h1;exact h2
     have hown2:w1.ownsRow (w.heap.size+1) 5 1 (.slice (some ⟨g,0,none⟩) (L+(j+1)) cap) (L+(j+1)) (blB V (L+(j+1))):=by
      rw [HVAL.out,blB_succ] at hown1;exact hown1
     have HB1:Below (w.heap.size+1) wr w1:=((Below.refl _ wr).alloc hsz2 _).grown hgrow (by simp;omega) hrow
     have HST2:DigSt w V s z' (some ⟨g,0,none⟩) (L+(j+1)) cap w1:=⟨Below.own HB1 (by omega) HOwn.out,hown2,hB.trans (HB1.mono (by omega)),Nat.le_trans hsz2 HB1.size⟩
     clear hown1 hgrow hown2 HB1 hB hrow
     go_wp2
     go_roundw
     case rel=>exact ⟨j+1,cap,some ⟨g,0,none⟩,by omega,rfl,by rw [HP.out],by go_num,HST2⟩
     case measure=>simp [intOf];omega
    ·obtain rfl:j=19:=by omega
     obtain ⟨m',hm'⟩:∃ m',sizeL z' m=m':=⟨_,rfl⟩
     have hmle:=sizeL_le z' m
     have hbr:=bare_any (some ⟨w.heap.size,0,none⟩) m s (segW z' 0 m) wr (by omega) (hst2.1.num HW.out 0 m s (by omega) hm (by unfold maxLen;omega))
     have e1:sizeL (segW z' 0 m) m=m':=by rw [← hm'];exact sizeL_congr m fun i hi=>by rw [segW_lt z' 0 m i hi,Nat.zero_add]
     rw [e1] at hbr
     rw [hm'] at hmle
     have HM1:Hid (sizeL z' m'=m'):=by show _=_;rw [← hm'];exact sizeL_sizeL z' m
     have HM2:Hid (val z' m'=V/10^(L+19)):=by show _=_;rw [← hm',val_bare,HQ.out]
     have HST:Hid (DigSt w V s z' ao2 (L+19) cp2 wr):=hst2
     clear hst2 e1 hm'
     go_wp2_with (go_at_call 102;refine hbr.mono ?_;rintro e w2 ⟨rfl,rfl⟩)
     go_roundw
     case rel=>exact ⟨L+19,m',cp2,ao2,z',rfl,rfl,by omega,by omega,HW.out,HM1.out,HM2.out,HST.out⟩
     case measure=>simp [slLen];omega
section
attribute [local go_sem] setCell_drewN alloc_drewN
theorem limMul4 (x:Nat->Int)(n:Int)(w:World)(hx:Words x)(hn:0<=n/\n<=18446744073709551615) :
  CB 143 #[.agg (arrOf x 4),.int .u64 n] w (.tuple #[.agg (arrOf (mulP x n) 4),.int .u64 (mulC x n 4)]):=by
 have sx:(arrOf x 4).size=4:=arrOf_size x 4
 have gx:=fun i h=>arrOf_get x 4 i h
 generalize arrOf x 4=ax at *
 go_enter Tryz.func143,Tryz.ntmps143
 go_wp2
 go_loopw [7,15] (fun c i wr=>∃ (k:Nat) (ss:Array Value),k<=4/\i=.int .i64 k/\c=.int .u64 (mulC x n k)/\ss.size=4/\(∀ j h,ss[j]'h=Value.int .u64 (if j<k then mulP x n j else 0))/\wr=((w.alloc (.cells ax 23)).alloc (.cells #[.int .u64 0,.int .u64 0,.int .u64 0,.int .u64 0] 23)).alloc (.cells ss 23)) (fun _ i _=>4-(intOf i).toNat)
 case atStart=>exact ⟨0,_,Nat.zero_le _,rfl,rfl,rfl,by intro j h;have h':j<4:=h;match j,h' with|0,_=>rfl|1,_=>rfl|2,_=>rfl|3,_=>rfl,rfl⟩
 case round =>
  obtain ⟨k,ss,hk,rfl,rfl,hsz,hss,rfl⟩:=hrel
  by_cases h8:k<4
  ·have h8i:(k:Int)<4:=by omega
   have h8s:k<ss.size:=by omega
   have bx:=hx k
   have bc:=mulC_word hx hn k
   have bc':=mulC_word hx hn (k+1)
   have hcx:∀ h,ax[k]'h=.int .u64 (x k):=fun h=>gx k h
   have hsk:ss[k]?=some (.int .u64 0):=by rw [Array.getElem?_eq_getElem h8s,hss k h8s,if_neg (by omega)]
   have HR:Hid (∀ (i:Nat) (h:i<(ss.setIfInBounds k (.int .u64 (mulP x n k))).size),(ss.setIfInBounds k (.int .u64 (mulP x n k)))[i]'h=Value.int .u64 (if i<k+1 then mulP x n i else 0)):=set_next hss
   have hmul:=mul64 (x k) n bx hn
   have e1:mulC x n (k+1)=x k*n/18446744073709551616+(x k*n%18446744073709551616+mulC x n k)/18446744073709551616:=rfl
   have e2:mulP x n k=(x k*n%18446744073709551616+mulC x n k)%18446744073709551616:=rfl
   rw [e1] at bc'
   have HE1:Hid (mulC x n (k+1)=x k*n/18446744073709551616+(x k*n%18446744073709551616+mulC x n k)/18446744073709551616):=e1
   have HE2:Hid (mulP x n k=(x k*n%18446744073709551616+mulC x n k)%18446744073709551616):=e2
   have hP:0<=x k*n:=Int.mul_nonneg bx.1 hn.1
   clear hss gx e1 e2 hx
   generalize x k*n=P at *
   have hL:0<=P%18446744073709551616:=by omega
   have hH:0<=P/18446744073709551616:=by omega
   generalize P/18446744073709551616=hi at *
   generalize P%18446744073709551616=lo at *
   generalize hCC:mulC x n k=c at *
   have hadd:=fun w=>add64z lo c hL bc.1 w
   go_wp2_with (go_at_call 154;refine (hmul _).mono ?_;rintro e w' ⟨rfl,rfl⟩)
   go_roundw
   case rel=>refine ⟨k+1,ss.setIfInBounds k (.int .u64 (mulP x n k)),by omega,by go_num,by rw [HE1.out],by simp [hsz],HR.out,by rw [HE2.out]⟩
   case measure=>simp [intOf];omega
  ·obtain rfl:k=4:=by omega
   have hss':∀ j h,ss[j]'h=Value.int .u64 (mulP x n j):=by
    intro j h;rw [hss j h,if_pos (by omega)]
   clear hss
   go_wp2
   exact bodyPost_ret (v:=.tuple #[.agg (arrOf (mulP x n) 4),.int .u64 (mulC x n 4)]) (by simp [results,Tryz.results143,go_sem];rfl) rfl ⟨rfl,below_alloc3 _ _ _ _ 0⟩
theorem limDiv4 (x:Nat->Int)(d:Int)(w:World)(hd:0<d/\d<=18446744073709551615)
  (H:∀ j,j<4->∀ w,Calls Tryz.prog 170 #[.int .u64 (remJ x d 4 (4-1-j)),.int .u64 (x j),.int .u64 d] w fun e w'=>e=.returned (.tuple #[.int .u64 (quoW x d 4 j),.int .u64 (remJ x d 4 (4-j))])/\∃ m,w'=w.drewN m) :
  CB 230 #[.agg (arrOf x 4),.int .u64 d] w (.tuple #[.agg (arrOf (quoW x d 4) 4),.int .u64 (remJ x d 4 4)]):=by
 have sx:(arrOf x 4).size=4:=arrOf_size x 4
 have gx:=fun i h=>arrOf_get x 4 i h
 have hd0:(d==0)=false:=by simp;omega
 generalize arrOf x 4=ax at *
 go_enter Tryz.func230,Tryz.ntmps230
 go_wp2
 go_loopw [7,8,19] (fun c i u19 wr=>∃ (k m:Nat) (ss:Array Value),k<=4/\i=.int .i64 ((k:Int)-1)/\c=.int .u64 (remJ x d 4 (4-k))/\ss.size=4/\(∀ j h,ss[j]'h=Value.int .u64 (if k<=j then quoW x d 4 j else 0))/\wr=((((w.alloc (.cells ax 23)).alloc (.cells #[.int .u64 0,.int .u64 0,.int .u64 0,.int .u64 0] 23)).alloc (.cells ss 23)).drewN m)) (fun _ i _ _=>(intOf i+1).toNat)
 case atStart=>exact ⟨4,0,_,Nat.le_refl _,rfl,rfl,rfl,by intro j h;have h':j<4:=h;match j,h' with|0,_=>rfl|1,_=>rfl|2,_=>rfl|3,_=>rfl,rfl⟩
 case round =>
  obtain ⟨k,m,ss,hk,rfl,rfl,hsz,hss,rfl⟩:=hrel
  by_cases h0:k=0
  ·subst h0
   have hss':∀ j h,ss[j]'h=Value.int .u64 (quoW x d 4 j):=by
    intro j h;rw [hss j h,if_pos (by omega)]
   clear hss H
   go_wp2
   exact bodyPost_ret (v:=.tuple #[.agg (arrOf (quoW x d 4) 4),.int .u64 (remJ x d 4 4)]) (by simp [results,Tryz.results230,go_sem];rfl) rfl ⟨rfl,below_alloc3 _ _ _ _ _⟩
  ·obtain ⟨j,rfl⟩:∃ j,k=j+1:=⟨k-1,by omega⟩
   have hj8:(j:Int)<4:=by omega
   have ej:((j+1:Nat):Int)-1=j:=by omega
   have ej2:4-(j+1)=4-1-j:=by omega
   rw [ej,ej2]
   have hjs:j<ss.size:=by omega
   have hcx:ax[j]?=some (.int .u64 (x j)):=by rw [Array.getElem?_eq_getElem (by omega),gx j (by omega)]
   have HJ:=H j (by omega)
   have hsj:ss[j]?=some (.int .u64 0):=by rw [Array.getElem?_eq_getElem hjs,hss j hjs,if_neg (by omega)]
   have hrel1:=set_prev (k:=j) (f:=quoW x d 4) hss
   have HR:Hid (∀ (i:Nat) (h:i<(ss.setIfInBounds j (.int .u64 (quoW x d 4 j))).size),(ss.setIfInBounds j (.int .u64 (quoW x d 4 j)))[i]'h=Value.int .u64 (if j<=i then quoW x d 4 i else 0)):=hrel1
   clear hss H hrel1 ej ej2
   go_wp2_with (go_at_call 170;refine (HJ _).mono ?_;rintro e w' ⟨rfl,m',rfl⟩)
   go_roundw
   case rel=>exact ⟨j,m+m',ss.setIfInBounds j (.int .u64 (quoW x d 4 j)),by omega,by go_num,rfl,by simp [hsz],HR.out,rfl⟩
   case measure=>simp [intOf]
theorem mul4 (A n:Nat)(w:World)(hA:A<2^256)(hn:n<18446744073709551616) :
  CB 143 #[A4 A,.int .u64 (n:Int)] w (.tuple #[A4 (A*n),.int .u64 ((A*n/2^256:Nat):Int)]):=by
 refine (limMul4 (W4 A) n w (W4_words A) (by omega)).mono ?_
 rintro e w' ⟨rfl,hb⟩
 refine ⟨?_,hb⟩
 have hs:=mul_val (W4 A) (n:Int) 4
 have hv:=val_bd (mulP_words (W4 A) (n:Int)) 4
 have hc:=mulC_word (W4_words A) (n:=(n:Int)) (by omega) 4
 rw [W4_val4 hA] at hs
 have e4:(18446744073709551616:Int)^4=115792089237316195423570985008687907853269984665640564039457584007913129639936:=by decide
 have e4n:(2:Nat)^256=115792089237316195423570985008687907853269984665640564039457584007913129639936:=by decide
 have hcast:(A:Int)*(n:Int)=((A*n:Nat):Int):=by simp
 rw [e4,hcast] at hs
 rw [e4] at hv
 rw [e4n]
 generalize A*n=P at *
 rw [arr_A4 (mulP_words _ _) (A:=P) (by rw [e4n];omega)]
 have:mulC (W4 A) (n:Int) 4=((P/115792089237316195423570985008687907853269984665640564039457584007913129639936:Nat):Int):=by omega
 rw [this]
theorem div4 (A d:Nat)(w:World)(hA:A<2^256)(hd:0<d)(hd':d<18446744073709551616) :
  CB 230 #[A4 A,.int .u64 (d:Int)] w (.tuple #[A4 (A/d),.int .u64 ((A%d:Nat):Int)]):=by
 have hdi:0<(d:Int)/\(d:Int)<=18446744073709551615:=by omega
 refine (limDiv4 (W4 A) d w hdi (fun j hj w=>limDiv_ok (W4 A) d 4 (W4_words A) hdi j hj w)).mono ?_
 rintro e w' ⟨rfl,hb⟩
 refine ⟨?_,hb⟩
 have hs:=div_val (W4 A) (d:Int) 4 4 (Nat.le_refl _)
 have hr:=remJ_bd (W4 A) (d:Int) 4 4 hdi.1
 obtain ⟨Q,hQ⟩:∃ Q,val (quoW (W4 A) (d:Int) 4) 4=Q:=⟨_,rfl⟩
 rw [W4_val4 hA,hQ] at hs
 simp only [Nat.sub_self,val,Int.zero_add,Int.pow_zero,Int.mul_one,Int.sub_zero] at hs
 generalize hq:remJ (W4 A) (d:Int) 4 4=r at *
 have h1:(A:Int)%(d:Int)=r:=by
  rw [← hs,Int.add_mul_emod_self_left,Int.emod_eq_of_lt hr.1 hr.2]
 have h2:val (quoW (W4 A) (d:Int) 4) 4=(A:Int)/(d:Int):=by
  rw [hQ]
  have:(A:Int)/(d:Int)=r/(d:Int)+Q:=by
   rw [← Int.add_mul_ediv_left r _ (show (d:Int)≠0 by omega)]
   exact congrArg (·/(d:Int)) hs.symm
  rw [this,Int.ediv_eq_zero_of_lt hr.1 hr.2,Int.zero_add]
 have hlt:A/d<2^256:=Nat.lt_of_le_of_lt (Nat.div_le_self _ _) hA
 rw [arr_A4 (quoW_words (W4_words A) hdi.1 4) (A:=A/d) (by rw [h2,Nat.mod_eq_of_lt hlt];simp),← h1]
 simp
end
end Go.Proofs.YtahfkpjhlbiamaaGreatDoor
