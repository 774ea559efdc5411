/-
  Texts that the proof leans on.
-/
import Derived.Test.YtgknbdehlmlipaaGreatDoorL18
import Derived.Test.YtgknbdehlmlipaaGreatDoorL2
set_option linter.unusedVariables false
set_option linter.unusedSimpArgs false
set_option linter.unusedSectionVars false
set_option maxHeartbeats 8000000
set_option maxRecDepth 20000
namespace Go.Proofs.YtgknbdehlmlipaaGreatDoor
open Go.RowKit
section
attribute [local go_sem] setCell_drewN alloc_drewN
def goneB (x:Nat->Int)(q r:Nat):Bool:=decide (0<sizeL x q)||decide (x q%2^r≠0)
def goneK (x:Nat->Int)(q r k:Nat):Bool:=if k<=q then decide (0<sizeL x k) else goneB x q r
theorem goneK_zero (x:Nat->Int)(q r:Nat):goneK x q r 0=false:=by unfold goneK;rw [if_pos (Nat.zero_le _)];rfl
theorem goneK_lt0 {x:Nat->Int}{q r k:Nat}(h:k<q)(hz:x k=0):goneK x q r (k+1)=goneK x q r k:=by
 unfold goneK;rw [if_pos (by omega),if_pos (by omega)];simp [sizeL,hz]
theorem goneK_lt1 {x:Nat->Int}{q r k:Nat}(h:k<q)(hz:¬ x k=0):goneK x q r (k+1)=true:=by
 unfold goneK;rw [if_pos (by omega)];simp [sizeL,hz]
theorem goneK_eq (x:Nat->Int)(k r:Nat):goneK x k r (k+1)=(goneK x k r k||decide (x k%2^r≠0)):=by
 unfold goneK;rw [if_neg (by omega),if_pos (Nat.le_refl _)];rfl
theorem goneK_gt {x:Nat->Int}{q r k:Nat}(h:q<k):goneK x q r (k+1)=goneK x q r k:=by
 unfold goneK;rw [if_neg (by omega),if_neg (by omega)]
theorem goneK_end {x:Nat->Int}{q r n:Nat}(h:q<n):goneK x q r n=goneB x q r:=by
 unfold goneK;rw [if_neg (by omega)]
theorem and_mask {y:Int}{r:Nat}(hy:0<=y/\y<=18446744073709551615)(hr:r<64):bits BinOp.and IntKind.u64 y (2^r-1)=y%2^r:=by
 have h1:=p2_pos r
 have h2:=p2_le hr
 rw [u64_and _ _ hy.1 (by omega) (by omega) (by omega)]
 obtain ⟨n,rfl⟩:=Int.eq_ofNat_of_zero_le hy.1
 have e:((2:Int)^r-1).toNat=2^r-1:=by rw [← powCast];omega
 rw [e,Int.toNat_natCast,Nat.and_two_pow_sub_one_eq_mod,Int.natCast_emod,powCast]
end
section
theorem sizeL_more {x:Nat->Int}{n:Nat}(hz:∀ i,n<=i->x i=0):∀ m,n<=m->sizeL x m=sizeL x n
  | 0, h => by have : n = 0 := by omega
               subst this;rfl
  | m+1,h=>by
    by_cases e:n=m+1
    · subst e;rfl
    · rw [show sizeL x (m+1)=sizeL x m by simp [sizeL,hz m (by omega)]]
      exact sizeL_more hz m (by omega)
def dnW (y:Int)(r:Nat):Int:=IntKind.u64.wrap (y*2^(64-r))
theorem shr_or {y:Nat->Int}(hy:Words y){r:Nat}(hr:r<64)(q i:Nat):orW (y (q+i)/2^r) (dnW (y (q+i+1)) r)=shrW y q r i:=by
 unfold shrW dnW
 by_cases h:r=0
 ·subst h
  rw [if_pos rfl,wrap_mod]
  have e:y (q+i+1)*2^(64-0)%18446744073709551616=0:=Int.mul_emod_left _ _
  rw [e,Int.pow_zero,Int.ediv_one,orW_zero _ (hy _)]
 ·rw [if_neg h]
def dnZ (z y:Nat->Int)(r m k j:Nat):Int:=if k<=j/\j<m then shrW y 0 r j else z j
theorem shiftDown_any (g N m c c' r:Nat)(a':Option Addr)(z y:Nat->Int)(w:World)(hm:m<=N)(hN:N<4294967296)(hr:r<64)(h:Own g N z w)(h':Num w a' m c' y)(hA:Apart a' g) :
  Calls Tryz.prog 167 #[.slice (some ⟨g,0,none⟩) m c,.slice a' m c',.int .i64 r] w fun e w'=>e=.returned (.tuple #[])/\Own g N (dnZ z y r m 0) w'/\Upd g w w':=by
 have hy:=h'.2.2.1
 have hri:(r:Int)<64:=by omega
 have e64:((64:Int)-r).toNat=64-r:=by omega
 have hk0:=h'.2.2.2.1 m (Nat.le_refl _)
 go_enter Tryz.func167,Tryz.ntmps167
 go_wp2
 go_loopw [6,7] (fun cv i wr=>∃ (k:Nat),k<=m/\i=.int .i64 ((k:Int)-1)/\cv=.int .u64 (dnW (y k) r)/\Own g N (dnZ z y r m k) wr/\Upd g w wr) (fun _ i _=>(intOf i+1).toNat)
 case atStart=>exact ⟨m,Nat.le_refl _,by go_num,by rw [hk0];unfold dnW;rw [Int.zero_mul,wrap_id 0 (by decide)],h.congr fun i _=>by unfold dnZ;rw [if_neg (by omega)],Upd.refl _ _⟩
 case round =>
  obtain ⟨k,hk,rfl,rfl,hO,hU⟩:=hrel
  have hpb:0<=dnW (y k) r/\dnW (y k) r<=18446744073709551615:=wrap_word _
  by_cases h0:k=0
  ·subst h0
   have HO:Hid (Own g N (dnZ z y r m 0) wr):=hO
   have HU:Hid (Upd g w wr):=hU
   clear hO hU h h' hA hy hk0
   go_wp2
   go_end0
   exact ⟨rfl,HO.out,HU.out⟩
  ·obtain ⟨j,rfl⟩:∃ j,k=j+1:=⟨k-1,by omega⟩
   have ej:((j+1:Nat):Int)-1=j:=by omega
   rw [ej]
   have hjm:(j:Int)<m:=by omega
   obtain ⟨b,off',rfl,hb,hc⟩:=(hU.num' hA h').cells (by omega)
   have hcj:=hc j (by omega)
   have hco:∃ u,wr.cell? ⟨g,j,none⟩=some (.int .u64 u):=⟨_,hO.cell j (by omega)⟩
   obtain ⟨u,hco⟩:=hco
   have hfo:=hO.frozen j
   have b_y:=hy j
   have hbg:b≠g:=hA _ rfl
   have hcj2:∀ v,(wr.setCell ⟨g,j,none⟩ v).cell? ⟨b,off'+j,none⟩=some (.int .u64 (y j)):=fun v=>(World.cell?_of_block (w:=wr) (a:=⟨b,off'+j,none⟩) (Below.heap_setCell wr ⟨g,j,none⟩ v b hbg)).trans hcj
   have HS:Hid (bits BinOp.or IntKind.u64 (y j/2^r) (dnW (y (j+1)) r)=shrW y 0 r j):=by
    show _=_
    have:=shr_or hy hr 0 j
    rw [Nat.zero_add] at this
    exact this
   have HO:Hid (Own g N (dnZ z y r m j) (wr.setCell ⟨g,j,none⟩ (.int .u64 (shrW y 0 r j)))):=(hO.set j _).congr fun i _=>by
    unfold dnZ
    by_cases e:i=j
    ·subst e;rw [if_pos rfl,if_pos (by omega)]
    ·rw [if_neg e]
     by_cases e2:j+1<=i/\i<m
     ·rw [if_pos e2,if_pos (by omega)]
     ·rw [if_neg e2,if_neg (by omega)]
   have HU:Hid (Upd g w (wr.setCell ⟨g,j,none⟩ (.int .u64 (shrW y 0 r j)))):=hU.set j _
   rw [← HS.out] at HO HU
   have HDW:Hid (IntKind.u64.wrap (y j*2^(64-r))=dnW (y j) r):=rfl
   clear hO hU hc h h' hA hy hk0 HS ej
   generalize dnW (y (j+1)) r=pv at *
   go_wp2
   go_roundw
   case rel=>exact ⟨j,by omega,by go_num,by rw [← HDW.out],HO.out,HU.out⟩
   case measure=>simp [intOf]
theorem Num.drop {w:World}{b off n c q:Nat}{x:Nat->Int}(h:Num w (some ⟨b,off,none⟩) n c x)(hq:q<=n):Num w (some ⟨b,off+q,none⟩) (n-q) (c-q) (fun i=>x (q+i)):=by
 obtain ⟨h1,h2,h3,h4,h5⟩:=h
 refine ⟨by omega,by omega,fun i=>h3 (q+i),fun i hi=>h4 (q+i) (by omega),?_⟩
 rcases h5 with ⟨h5,_⟩|⟨b',off',h6,h7,h8⟩
 ·cases h5
 ·cases h6
  exact Or.inr ⟨b,off+q,rfl,h7,fun i hi=>by have:=h8 (q+i) (by omega);rw [Nat.add_assoc];exact this⟩
theorem Num.take {w:World}{b off n c q:Nat}{x:Nat->Int}(h:Num w (some ⟨b,off,none⟩) n c x)(hq:q<=n):Num w (some ⟨b,off,none⟩) q c (segW x 0 q):=by
 obtain ⟨h1,h2,h3,h4,h5⟩:=h
 refine ⟨by omega,by omega,segW_words h3 0 q,fun i hi=>segW_zero x 0 q i hi,?_⟩
 rcases h5 with ⟨h5,_⟩|⟨b',off',h6,h7,h8⟩
 ·cases h5
 ·cases h6
  exact Or.inr ⟨b,off,rfl,h7,fun i hi=>by rw [h8 i (by omega),segW_lt x 0 q i hi,Nat.zero_add]⟩
theorem out_test {y:Int}{r:Nat}(hr:r<64):(IntKind.u64.wrap (y*2^(64-r)) != 0)=decide (y%2^r≠0):=by
 have hp:=p2_pos (64-r)
 have e:y*2^(64-r)%18446744073709551616=y%2^r*2^(64-r):=by
  have h1:=Int.mul_emod_mul_of_pos y (2^r) hp
  have h2:=p2_split (show r<=64 by omega)
  rw [← h2,Int.mul_comm y,h1,Int.mul_comm]
 rw [wrap_mod,e]
 by_cases h:y%2^r=0
 ·simp [h]
 ·have:y%2^r*2^(64-r)≠0:=Int.mul_ne_zero h (by omega)
  simp [h,this]
set_option maxRecDepth 20000 in
theorem nshr_any (a:Option Addr)(n c q r:Nat)(x:Nat->Int)(d:Int)(w:World)(hn:n<4000000000)(h:Num w a n c x)(hd:1<=d)(hq:d/64=q)(hr:d%64=r)(hqs:q<sizeL x n) :
  Calls Tryz.prog 140 #[.slice a n c,.int .i64 d] w fun e w'=>∃ g k cap,e=.returned (.tuple #[.slice (some ⟨g,0,none⟩) k cap,.bool (goneB x q r)])/\k<=n/\Num w' (some ⟨g,0,none⟩) k cap (shrW x q r)/\sizeL (shrW x q r) k=k/\Below w.heap.size w w':=by
 have hb:=bare_any a n c x w (by omega) h
 have hx:=h.2.2.1
 have hle:=sizeL_le x n
 have hN:=h.bare
 generalize sizeL x n=s at *
 clear h
 have hr64:r<64:=by omega
 obtain ⟨b,off,rfl,hbs,hc⟩:=hN.cells (by omega)
 have hcq:=hc q hqs
 have bq:=hx q
 have hcap:=hN.1
 have ht:=out_test (y:=x q) hr64
 have e64:((64:Int)-r).toNat=64-r:=by omega
 have hr64i:(r:Int)<64:=by omega
 have hbt:=bare_any (some ⟨b,off,none⟩) q c (segW x 0 q) w (by omega) (hN.take (by omega))
 have es:sizeL (segW x 0 q) q=sizeL x q:=sizeL_congr q fun i hi=>by rw [segW_lt x 0 q i hi,Nat.zero_add]
 rw [es] at hbt
 have hsq:=sizeL_le x q
 obtain ⟨N,hNs⟩:∃ N,s-q=N:=⟨_,rfl⟩
 have hNi:(s:Int)-q=N:=by omega
 have hmk:=fun w=>make_any ((s:Int)-q) N hNi (by omega) w
 have hA:=apart_of (hN.drop (q:=q) (by omega))
 have hO:=Own.new w (fun _=>0) N
 have hBW:=below1 w (.cells (arrOf (fun _=>0) N) 22)
 have hsd:=shiftDown_any w.heap.size N N N (c-q) r (some ⟨b,off+q,none⟩) (fun _=>0) (fun i=>x (q+i)) _ (Nat.le_refl _) (by omega) hr64 hO (by have:=(hN.drop (q:=q) (by omega)).next hBW;rw [hNs] at this;exact this) hA
 have HZ:Hid (∀ j,N<=j->shrW x q r j=0):=fun j hj=>shrW_zero hN.2.2.2.1 q r j (by omega)
 have HW:Hid (Words (shrW x q r)):=shrW_words hx q r
 have HD:Hid (∀ i,i<N->dnZ (fun _=>0) (fun i=>x (q+i)) r N 0 i=shrW x q r i):=fun i hi=>by
  unfold dnZ;rw [if_pos (by omega)];unfold shrW;simp only [Nat.zero_add,Nat.add_assoc]
 have HB:Hid (Below w.heap.size w (w.alloc (.cells (arrOf (fun _=>0) N) 22))):=hBW
 have HNN:Hid (N<=s):=by show _<=_;omega
 have hqsi:(q:Int)<s:=by omega
 have hqc:(q:Int)<=c:=by omega
 have HG:Hid (goneB x q r=(decide (0<sizeL x q)||decide (x q%2^r≠0))):=rfl
 have fin:∀ w1,Own w.heap.size N (dnZ (fun _=>0) (fun i=>x (q+i)) r N 0) w1->∃ k,k<=N/\Num w1 (some ⟨w.heap.size,0,none⟩) k N (shrW x q r)/\sizeL (shrW x q r) k=k/\CQ 103 #[.slice (some ⟨w.heap.size,0,none⟩) N N] w1 (.slice (some ⟨w.heap.size,0,none⟩) k N):=by
  intro w1 hO1
  have hO2:=hO1.congr HD.out
  have h1:=hO2.num HW.out 0 N N (by omega) (Nat.le_refl _) (by unfold maxLen;omega)
  have e:segW (shrW x q r) 0 N=shrW x q r:=by
   funext i
   by_cases hi:i<N
   ·rw [segW_lt _ 0 N i hi,Nat.zero_add]
   ·rw [segW_zero _ 0 N i (by omega),HZ.out i (by omega)]
  rw [e] at h1
  exact ⟨sizeL (shrW x q r) N,sizeL_le _ _,h1.bare,sizeL_sizeL _ _,bare_any _ N N _ w1 (by omega) h1⟩
 have FIN:Hid (∀ w1,Own w.heap.size N (dnZ (fun _=>0) (fun i=>x (q+i)) r N 0) w1->∃ k,k<=N/\Num w1 (some ⟨w.heap.size,0,none⟩) k N (shrW x q r)/\sizeL (shrW x q r) k=k/\CQ 103 #[.slice (some ⟨w.heap.size,0,none⟩) N N] w1 (.slice (some ⟨w.heap.size,0,none⟩) k N)):=fin
 clear fin hBW hN hA hO hc hx HZ HW HD es hNi
 generalize dnZ (fun _=>0) (fun i=>x (q+i)) r N 0=zz at *
 by_cases hm:x q%2^r=0
 ·have htf:(IntKind.u64.wrap (x q*2^(64-r)) != 0)=false:=by rw [ht];simp [hm]
  have HGv:Hid (goneB x q r=decide (0<sizeL x q)):=by show _=_;rw [HG.out];simp [hm]
  generalize sizeL x q=sq at *
  clear ht HG hm
  by_cases hsq0:sq=0
  ·subst hsq0
   go_enter Tryz.func140,Tryz.ntmps140
   go_wp2_with (first|(go_at_call_of 103 (Value.slice (some ⟨b,off,none⟩) n c);refine hb.mono ?_;rintro e w' ⟨rfl,rfl⟩;clear hb)|(go_at_call_of 103 (Value.slice (some ⟨b,off,none⟩) q c);refine hbt.mono ?_;rintro e w' ⟨rfl,rfl⟩;clear hbt)|(go_at_call 167;refine hsd.mono ?_;rintro e w1 ⟨rfl,hO1,hU1⟩))
   obtain ⟨k,hkN,hNk,hsk,hbr⟩:=FIN.out w1 hO1
   have HB2:Hid (Below w.heap.size w w1):=HB.out.trans (hU1.below (Nat.le_refl _))
   have HNk:Hid (Num w1 (some ⟨w.heap.size,0,none⟩) k N (shrW x q r)):=hNk
   clear hO1 hU1 hNk
   go_wp2_with (go_at_call 103;refine hbr.mono ?_;rintro e w3 ⟨rfl,rfl⟩)
   go_ret2
   exact ⟨_,k,N,by rw [HGv.out];rfl,by have:=HNN.out;omega,HNk.out,hsk,HB2.out⟩
  ·have hsq0':(0:Int)<sq:=by omega
   go_enter Tryz.func140,Tryz.ntmps140
   go_wp2_with (first|(go_at_call_of 103 (Value.slice (some ⟨b,off,none⟩) n c);refine hb.mono ?_;rintro e w' ⟨rfl,rfl⟩;clear hb)|(go_at_call_of 103 (Value.slice (some ⟨b,off,none⟩) q c);refine hbt.mono ?_;rintro e w' ⟨rfl,rfl⟩;clear hbt)|(go_at_call 167;refine hsd.mono ?_;rintro e w1 ⟨rfl,hO1,hU1⟩))
   obtain ⟨k,hkN,hNk,hsk,hbr⟩:=FIN.out w1 hO1
   have HB2:Hid (Below w.heap.size w w1):=HB.out.trans (hU1.below (Nat.le_refl _))
   have HNk:Hid (Num w1 (some ⟨w.heap.size,0,none⟩) k N (shrW x q r)):=hNk
   clear hO1 hU1 hNk
   go_wp2_with (go_at_call 103;refine hbr.mono ?_;rintro e w3 ⟨rfl,rfl⟩)
   go_ret2
   exact ⟨_,k,N,by rw [HGv.out];rfl,by have:=HNN.out;omega,HNk.out,hsk,HB2.out⟩
 ·have htt:(IntKind.u64.wrap (x q*2^(64-r)) != 0)=true:=by rw [ht];simp [hm]
  have HGv:Hid (goneB x q r=true):=by show _=_;rw [HG.out];simp [hm]
  clear ht HG hm
  go_enter Tryz.func140,Tryz.ntmps140
  go_wp2_with (first|(go_at_call_of 103 (Value.slice (some ⟨b,off,none⟩) n c);refine hb.mono ?_;rintro e w' ⟨rfl,rfl⟩;clear hb)|(go_at_call_of 103 (Value.slice (some ⟨b,off,none⟩) q c);refine hbt.mono ?_;rintro e w' ⟨rfl,rfl⟩;clear hbt)|(go_at_call 167;refine hsd.mono ?_;rintro e w1 ⟨rfl,hO1,hU1⟩))
  obtain ⟨k,hkN,hNk,hsk,hbr⟩:=FIN.out w1 hO1
  have HB2:Hid (Below w.heap.size w w1):=HB.out.trans (hU1.below (Nat.le_refl _))
  have HNk:Hid (Num w1 (some ⟨w.heap.size,0,none⟩) k N (shrW x q r)):=hNk
  clear hO1 hU1 hNk
  go_wp2_with (go_at_call 103;refine hbr.mono ?_;rintro e w3 ⟨rfl,rfl⟩)
  go_ret2
  exact ⟨_,k,N,by rw [HGv.out];rfl,by have:=HNN.out;omega,HNk.out,hsk,HB2.out⟩
theorem nshr_small (a:Option Addr)(n c:Nat)(x:Nat->Int)(d:Int)(w:World)(hn:n<4000000000)(h:Num w a n c x)(hd:d<1) :
  Calls Tryz.prog 140 #[.slice a n c,.int .i64 d] w fun e w'=>e=.returned (.tuple #[.slice (some ⟨w.heap.size,0,none⟩) (sizeL x n) (sizeL x n),.bool false])/\w.alloc (.cells (arrOf x (sizeL x n)) 22)=w':=by
 have ht:=ntrim_any a n c x w (by omega) h
 generalize sizeL x n=s at *
 clear h
 go_enter Tryz.func140,Tryz.ntmps140
 go_wp2_with (go_at_call 166;refine ht.mono ?_;rintro e w' ⟨rfl,rfl⟩)
 go_ret2
 exact ⟨rfl,rfl⟩
set_option maxRecDepth 20000 in
theorem nshr_all_out (a:Option Addr)(n c:Nat)(x:Nat->Int)(d:Int)(w:World)(hn:n<4000000000)(h:Num w a n c x)(hd:1<=d)(hd2:d<=9223372036854775807)(hq:(sizeL x n:Int)<=d/64) :
  CQ 140 #[.slice a n c,.int .i64 d] w (.tuple #[.slice none 0 0,.bool (decide (0<sizeL x n))]):=by
 have hb:=bare_any a n c x w (by omega) h
 generalize sizeL x n=s at *
 clear h
 obtain ⟨q,hq2⟩:∃ q:Nat,d/64=q:=⟨(d/64).toNat,by omega⟩
 obtain ⟨r,hr⟩:∃ r:Nat,d%64=r:=⟨(d%64).toNat,by omega⟩
 rw [hq2] at hq
 have hqn:s<=q:=by omega
 have hqm:¬ q<s:=by omega
 have hqb:(q:Int)<=144115188075855871:=by omega
 go_enter Tryz.func140,Tryz.ntmps140
 go_wp2_with (go_at_call 103;refine hb.mono ?_;rintro e w' ⟨rfl,rfl⟩)
 go_ret2
 exact ⟨rfl,rfl⟩
def shrF (x:Nat->Int)(d:Int):Nat->Int:=if d<1 then x else shrW x (d/64).toNat (d%64).toNat
def shrG (x:Nat->Int)(d:Int):Bool:=if d<1 then false else goneB x (d/64).toNat (d%64).toNat
theorem goneB_out {x:Nat->Int}{n q r:Nat}(zx:∀ i,n<=i->x i=0)(h:sizeL x n<=q):goneB x q r=decide (0<sizeL x n):=by
 have z:=sizeL_zero n zx
 unfold goneB
 rw [z q h,← sizeL_sizeL x n,sizeL_more z q h]
 simp
theorem nshr_all (a:Option Addr)(n c:Nat)(x:Nat->Int)(d:Int)(w:World)(hn:n<4000000000)(h:Num w a n c x)(hd2:d<=9223372036854775807) :
  Calls Tryz.prog 140 #[.slice a n c,.int .i64 d] w fun e w'=>∃ o k cap,e=.returned (.tuple #[.slice o k cap,.bool (shrG x d)])/\k<=n/\Num w' o k cap (shrF x d)/\sizeL (shrF x d) k=k/\Below w.heap.size w w':=by
 have hle:=sizeL_le x n
 by_cases hd:d<1
 ·have e1:shrF x d=x:=by unfold shrF;rw [if_pos hd]
  have e2:shrG x d=false:=by unfold shrG;rw [if_pos hd]
  rw [e1,e2]
  refine (nshr_small a n c x d w hn h hd).mono fun e w' hw=>⟨_,sizeL x n,sizeL x n,hw.1,hle,?_,sizeL_sizeL x n,hw.2▸below1 w _⟩
  rw [← hw.2]
  exact num_of_block (by omega) h.2.2.1 h.bare.2.2.2.1 (arrOf_size _ _) (fun j hj=>arrOf_get _ _ _ _)
 ·obtain ⟨q,hq⟩:∃ q:Nat,d/64=q:=⟨(d/64).toNat,by omega⟩
  obtain ⟨r,hr⟩:∃ r:Nat,d%64=r:=⟨(d%64).toNat,by omega⟩
  have e1:shrF x d=shrW x q r:=by unfold shrF;rw [if_neg hd,hq,hr,Int.toNat_natCast,Int.toNat_natCast]
  have e2:shrG x d=goneB x q r:=by unfold shrG;rw [if_neg hd,hq,hr,Int.toNat_natCast,Int.toNat_natCast]
  rw [e1,e2]
  by_cases hqs:q<sizeL x n
  ·exact (nshr_any a n c q r x d w hn h (by omega) hq hr hqs).mono fun e w' ⟨g,k,cap,e1,h2,h3,h4,h5⟩=>⟨_,k,cap,e1,h2,h3,h4,h5⟩
  ·have e3:shrW x q r=fun _=>0:=by funext j;exact shrW_zero h.bare.2.2.2.1 q r j (by omega)
   rw [e3,goneB_out h.2.2.2.1 (by omega)]
   exact (nshr_all_out a n c x d w hn h (by omega) hd2 (by omega)).mono fun e w' hw=>⟨none,0,0,hw.1,Nat.zero_le _,num_none w',rfl,hw.2▸Below.refl _ _⟩
end
section
structure Gs (R D u1 u0 v1 v0 P a b:Int):Prop where
 hR:R=a+(u1*18446744073709551616+u0)*(P*18446744073709551616)
 hD:D=b+(v1*18446744073709551616+v0)*P
 p:0<P
 a0:0<=a
 a1:a<P*18446744073709551616
 b0:0<=b
 b1:b<P
 u1w:0<=u1/\u1<=18446744073709551615
 u0w:0<=u0/\u0<=18446744073709551615
 v1w:9223372036854775808<=v1/\v1<=18446744073709551615
 v0w:0<=v0/\v0<=18446744073709551615
 lt:R<D*18446744073709551616
section
variable {R D u1 u0 v1 v0 P a b:Int}
theorem Gs.lowR (h:Gs R D u1 u0 v1 v0 P a b):(u1*18446744073709551616+u0)*18446744073709551616*P<=R:=by
 have:=h.hR;have:=h.a0
 have e:(u1*18446744073709551616+u0)*18446744073709551616*P=(u1*18446744073709551616+u0)*(P*18446744073709551616):=by grind
 omega
theorem Gs.highR (h:Gs R D u1 u0 v1 v0 P a b):R<((u1*18446744073709551616+u0)+1)*18446744073709551616*P:=by
 have:=h.hR;have:=h.a1
 have e:((u1*18446744073709551616+u0)+1)*18446744073709551616*P=(u1*18446744073709551616+u0)*(P*18446744073709551616)+P*18446744073709551616:=by grind
 omega
theorem Gs.lowD (h:Gs R D u1 u0 v1 v0 P a b):(v1*18446744073709551616+v0)*P<=D:=by have:=h.hD;have:=h.b0;omega
theorem Gs.highD (h:Gs R D u1 u0 v1 v0 P a b):D<=(v1*18446744073709551616+v0+1)*P:=by
 have:=h.hD;have:=h.b1
 have e:(v1*18446744073709551616+v0+1)*P=(v1*18446744073709551616+v0)*P+P:=by grind
 omega
theorem Gs.posD (h:Gs R D u1 u0 v1 v0 P a b):0<D:=by
 have h1:=h.lowD
 have:0<(v1*18446744073709551616+v0)*P:=Int.mul_pos (by have:=h.v1w;have:=h.v0w;omega) h.p
 omega
theorem Gs.times_ge (h:Gs R D u1 u0 v1 v0 P a b){k N:Int}(hk:0<=k)(hN:N<=k*(v1*18446744073709551616+v0)):N*P<=k*D:=by
 have h1:k*((v1*18446744073709551616+v0)*P)<=k*D:=Int.mul_le_mul_of_nonneg_left h.lowD hk
 have h2:N*P<=k*(v1*18446744073709551616+v0)*P:=Int.mul_le_mul_of_nonneg_right hN (Int.le_of_lt h.p)
 rw [Int.mul_assoc] at h2
 omega
theorem Gs.times_le (h:Gs R D u1 u0 v1 v0 P a b){k N:Int}(hk:0<=k)(hN:k*(v1*18446744073709551616+v0+1)<=N):k*D<=N*P:=by
 have h1:k*D<=k*((v1*18446744073709551616+v0+1)*P):=Int.mul_le_mul_of_nonneg_left h.highD hk
 have h2:k*(v1*18446744073709551616+v0+1)*P<=N*P:=Int.mul_le_mul_of_nonneg_right hN (Int.le_of_lt h.p)
 rw [Int.mul_assoc] at h2
 omega
theorem Gs.first (h:Gs R D u1 u0 v1 v0 P a b):R<((u1*18446744073709551616+u0)/v1+1)*D:=by
 have hv:0<v1:=by have:=h.v1w;omega
 have h1:=h.highR
 have hq:=Int.lt_mul_ediv_self_add (x:=u1*18446744073709551616+u0) hv
 have hq0:0<=(u1*18446744073709551616+u0)/v1:=Int.ediv_nonneg (by have:=h.u1w;have:=h.u0w;omega) (Int.le_of_lt hv)
 have:=h.v0w
 generalize (u1*18446744073709551616+u0)/v1=k at *
 have h2:(u1*18446744073709551616+u0+1)*18446744073709551616<=(k+1)*(v1*18446744073709551616+v0):=by
  have e:(k+1)*(v1*18446744073709551616+v0)=(v1*k+v1)*18446744073709551616+(k+1)*v0:=by grind
  have:0<=(k+1)*v0:=Int.mul_nonneg (by omega) (by omega)
  omega
 have h3:=h.times_ge (by omega) h2
 omega
theorem Gs.great (h:Gs R D u1 u0 v1 v0 P a b){k r:Int}(hk:0<=k)(he:k*v1+r=u1*18446744073709551616+u0)(ht:(r+1)*18446744073709551616<=k*v0):R<k*D:=by
 have h1:=h.highR
 have h2:(u1*18446744073709551616+u0+1)*18446744073709551616<=k*(v1*18446744073709551616+v0):=by
  have e:k*(v1*18446744073709551616+v0)=(k*v1)*18446744073709551616+k*v0:=by grind
  omega
 have h3:=h.times_ge hk h2
 omega
theorem Gs.stands (h:Gs R D u1 u0 v1 v0 P a b){k r:Int}(hk:0<=k)(hk2:k<=18446744073709551615)(he:k*v1+r=u1*18446744073709551616+u0)(ht:k*v0<(r+1)*18446744073709551616):(k-1)*D<=R:=by
 have h1:=h.lowR
 by_cases h0:k=0
 ·subst h0
  have:=h.posD
  have:0<=(u1*18446744073709551616+u0)*18446744073709551616*P:=Int.mul_nonneg (Int.mul_nonneg (by have:=h.u1w;have:=h.u0w;omega) (by decide)) (Int.le_of_lt h.p)
  omega
 ·have hv:=h.v1w
  have hv0:=h.v0w
  have h2:(k-1)*(v1*18446744073709551616+v0+1)<=(u1*18446744073709551616+u0)*18446744073709551616:=by
   have e:(k-1)*(v1*18446744073709551616+v0+1)=(k*v1)*18446744073709551616+k*v0+k-v1*18446744073709551616-v0-1:=by grind
   omega
  have h3:=h.times_le (by omega) h2
  omega
theorem Gs.full (h:Gs R D u1 u0 v1 v0 P a b)(he:v1<=u1):(18446744073709551615-1)*D<=R:=by
 have h1:=h.lowR
 have hv:=h.v1w
 have hv0:=h.v0w
 have hu0:=h.u0w
 have h2:(18446744073709551615-1)*(v1*18446744073709551616+v0+1)<=(u1*18446744073709551616+u0)*18446744073709551616:=by omega
 have h3:=h.times_le (by decide) h2
 omega
end
theorem dn_val {y:Nat->Int}(hy:Words y){r:Nat}(hr:r<64):∀ m,val (shrW y 0 r) m*2^r+y 0%2^r=val y m+y m%2^r*18446744073709551616^m
 | 0=>by simp [val]
 | m+1=>by
  have ih:=dn_val hy hr m
  have hp:=p2_pos r
  have e1:shrW y 0 r m=y m/2^r+y (m+1)%2^r*2^(64-r):=by
   have h1:=shr_or hy hr 0 m
   rw [Nat.zero_add] at h1
   rw [← h1]
   unfold dnW
   have hme:y (m+1)*2^(64-r)%18446744073709551616=y (m+1)%2^r*2^(64-r):=by
    have h3:=Int.mul_emod_mul_of_pos (y (m+1)) (2^r) (p2_pos (64-r))
    rw [← p2_split (show r<=64 by omega),Int.mul_comm (y (m+1)),h3,Int.mul_comm]
   have hlt:y m/2^r<2^(64-r):=by
    refine Int.ediv_lt_of_lt_mul hp ?_
    rw [p2_split (show r<=64 by omega)]
    have:=hy m;omega
   by_cases h0:r=0
   ·subst h0
    have:y (m+1)*2^(64-0)%18446744073709551616=0:=Int.mul_emod_left _ _
    rw [wrap_mod,this,orW_zero _ (div_word _ _ (hy m))]
    simp [Int.emod_one]
   ·have h64:64-(64-r)=r:=by omega
    have ho:=or_shl (y:=y (m+1)) (b:=y m/2^r) (r:=64-r) (by omega) (hy (m+1)).1 ⟨(div_word _ _ (hy m)).1,hlt⟩
    rw [ho,hme];omega
  show (val (shrW y 0 r) m+shrW y 0 r m*18446744073709551616^m)*2^r+y 0%2^r=val y m+y m*18446744073709551616^m+y (m+1)%2^r*18446744073709551616^(m+1)
  have e2:=Int.emod_add_mul_ediv (y m) (2^r)
  have e3:=p2_split (show r<=64 by omega)
  rw [e1,Int.pow_succ]
  generalize (18446744073709551616:Int)^m=Q at *
  generalize y m/2^r=A at *
  generalize y m%2^r=A' at *
  generalize y (m+1)%2^r=C at *
  generalize y 0%2^r=Z at *
  generalize (2:Int)^(64-r)=T at *
  generalize (2:Int)^r=S at *
  grind
end
def gsL (v1 v0:Int):Nat->Int->Int->Int
 | 0,d,r=>d
 | f+1,d,r=>if d*v0/18446744073709551616<=r then d else if 18446744073709551616<=r+v1 then d-1 else gsL v1 v0 f (d-1) (r+v1)
def gsF (u1 u0 v1 v0:Int):Int:=if v1<=u1 then 18446744073709551615 else gsL v1 v0 2 ((u1*18446744073709551616+u0)/v1) ((u1*18446744073709551616+u0)%v1)
theorem gs_one {d v0 r:Int}(hd:0<=d)(hr:0<=r)(h:¬ d*v0/18446744073709551616<=r):1<=d:=by
 by_cases e:d=0
 ·subst e;rw [Int.zero_mul] at h;omega
 ·omega
theorem gsL_spec {R D u1 u0 v1 v0 P a b:Int}(G:Gs R D u1 u0 v1 v0 P a b):∀ (f:Nat) (d r:Int),0<=d->d<=18446744073709551615->0<=r->r<=18446744073709551615->d*v1+r=u1*18446744073709551616+u0->R<(d+1)*D->18446744073709551616<=r+f*v1 ->
  0<=gsL v1 v0 f d r/\gsL v1 v0 f d r<=18446744073709551615/\R<(gsL v1 v0 f d r+1)*D/\(gsL v1 v0 f d r-1)*D<=R
 | 0,d,r,h1,h2,h3,h4,he,hR,hf=>by simp at hf;omega
 | f+1,d,r,h1,h2,h3,h4,he,hR,hf=>by
  unfold gsL
  by_cases hh:d*v0/18446744073709551616<=r
  ·rw [if_pos hh]
   exact ⟨h1,h2,hR,G.stands h1 h2 he (by omega)⟩
  ·rw [if_neg hh]
   have h11:=gs_one h1 h3 hh
   have hR2:R<(d-1+1)*D:=by
    have:=G.great h1 he (by omega)
    rw [show d-1+1=d by omega];exact this
   have he2:(d-1)*v1+(r+v1)=u1*18446744073709551616+u0:=by rw [Int.sub_mul];omega
   have hv:=G.v1w
   have hv0:=G.v0w
   by_cases ho:18446744073709551616<=r+v1
   ·rw [if_pos ho]
    refine ⟨by omega,by omega,hR2,G.stands (by omega) (by omega) he2 ?_⟩
    have:(d-1)*v0<=18446744073709551615*18446744073709551615:=Int.mul_le_mul (by omega) hv0.2 hv0.1 (by decide)
    omega
   ·rw [if_neg ho]
    refine gsL_spec G f (d-1) (r+v1) (by omega) (by omega) (by omega) (by omega) he2 hR2 ?_
    have e:((f+1:Nat):Int)*v1=f*v1+v1:=by rw [Int.natCast_add,Int.add_mul];simp
    rw [e] at hf
    omega
theorem gsF_spec {R D u1 u0 v1 v0 P a b:Int}(G:Gs R D u1 u0 v1 v0 P a b):0<=gsF u1 u0 v1 v0/\gsF u1 u0 v1 v0<=18446744073709551615/\R<(gsF u1 u0 v1 v0+1)*D/\(gsF u1 u0 v1 v0-1)*D<=R:=by
 have hv:=G.v1w
 have hu:=G.u1w
 have hu0:=G.u0w
 unfold gsF
 by_cases h:v1<=u1
 ·rw [if_pos h]
  refine ⟨by decide,by decide,?_,G.full h⟩
  have:=G.lt
  rw [Int.mul_comm];exact this
 ·rw [if_neg h]
  have h1:0<=(u1*18446744073709551616+u0)/v1:=Int.ediv_nonneg (by omega) (by omega)
  have h2:(u1*18446744073709551616+u0)/v1<18446744073709551616:=Int.ediv_lt_of_lt_mul (by omega) (by omega)
  have h3:=Int.emod_nonneg (u1*18446744073709551616+u0) (show v1≠0 by omega)
  have h4:=Int.emod_lt_of_pos (u1*18446744073709551616+u0) (show 0<v1 by omega)
  have h5:=Int.emod_add_mul_ediv (u1*18446744073709551616+u0) v1
  refine gsL_spec G 2 _ _ h1 (by omega) h3 (by omega) ?_ G.first (by omega)
  rw [Int.mul_comm];omega
theorem drw_add (w:World)(a b:Nat):(w.drewN a).drewN b=w.drewN (a+b):=by simp [World.drewN,Nat.add_assoc]
theorem guess_any (u1 u0 v1 v0:Int)(w:World)(hu1:0<=u1/\u1<=18446744073709551615)(hu0:0<=u0/\u0<=18446744073709551615)(hv1:9223372036854775808<=v1/\v1<=18446744073709551615)(hv0:0<=v0/\v0<=18446744073709551615) :
    Calls Tryz.prog 183 #[.int .u64 u1,.int .u64 u0,.int .u64 v1,.int .u64 v0] w fun e w'=>e=.returned (.int .u64 (gsF u1 u0 v1 v0))/\∃ m,w'=w.drewN m:=by
  by_cases h:v1<=u1
  · have HG:Hid (gsF u1 u0 v1 v0=18446744073709551615):=by show _=_;unfold gsF;rw [if_pos h]
    go_enter Tryz.func183,Tryz.ntmps183
    go_wp2
    go_ret
    exact ⟨ret_int HG.out.symm,0,rfl⟩
  · have HG:Hid (gsF u1 u0 v1 v0=gsL v1 v0 2 ((u1*18446744073709551616+u0)/v1) ((u1*18446744073709551616+u0)%v1)):=by show _=_;unfold gsF;rw [if_neg h]
    have hd:=div64_all u1 u0 v1 w hu1.1 (by omega) hv1.2 hu0
    have h1:0<=(u1*18446744073709551616+u0)/v1:=Int.ediv_nonneg (by omega) (by omega)
    have h2:(u1*18446744073709551616+u0)/v1<18446744073709551616:=Int.ediv_lt_of_lt_mul (by omega) (by omega)
    have h3:=Int.emod_nonneg (u1*18446744073709551616+u0) (show v1≠0 by omega)
    have h4:=Int.emod_lt_of_pos (u1*18446744073709551616+u0) (show 0<v1 by omega)
    generalize gsF u1 u0 v1 v0=T at *
    generalize (u1*18446744073709551616+u0)/v1=d0 at *
    generalize (u1*18446744073709551616+u0)%v1=r0 at *
    go_enter Tryz.func183,Tryz.ntmps183
    go_wp2_with (go_at_call 117;refine hd.mono ?_;rintro e w' ⟨rfl,m,rfl⟩)
    go_loopw [9,10,11,12,23] (fun dv rv u11 u12 u23 wr=>∃ (f:Nat) (d r:Int),dv=.int .u64 d/\rv=.int .u64 r/\0<=d/\d<=18446744073709551615/\0<=r/\r<=18446744073709551615/\18446744073709551616<=r+f*v1/\Hid (T=gsL v1 v0 f d r)/\wr=w.drewN m) (fun dv _ _ _ _ _=>(intOf dv).toNat)
    case atStart=>exact ⟨2,d0,r0,rfl,rfl,h1,by omega,h3,by omega,by omega,HG.out,rfl⟩
    case round =>
      clear hd h1 h2 h3 h4 HG
      obtain ⟨f,d,r,rfl,rfl,a1,a2,a3,a4,hf,hT,rfl⟩:=hrel
      obtain ⟨f',rfl⟩:∃ f',f=f'+1:=by
        cases f with
        | zero=>simp at hf;omega
        | succ f'=>exact ⟨f',rfl⟩
      have hmul:=mul64 d v0 ⟨a1,a2⟩ hv0 (w.drewN m)
      have hfe:((f'+1:Nat):Int)*v1=f'*v1+v1:=by rw [Int.natCast_add,Int.add_mul];simp
      rw [hfe] at hf
      have HF:Hid (18446744073709551616<=r+(f'*v1+v1)):=hf
      have hh0:0<=d*v0/18446744073709551616:=Int.ediv_nonneg (Int.mul_nonneg a1 hv0.1) (by decide)
      by_cases hh:d*v0/18446744073709551616<=r
      · have HT:Hid (T=d):=by show _=_;rw [hT.out];unfold gsL;rw [if_pos hh]
        clear hT hf hfe HF
        generalize d*v0/18446744073709551616=hi at *
        generalize d*v0%18446744073709551616=lo at *
        go_wp2_with (go_at_call 59;refine hmul.mono ?_;rintro e w' ⟨rfl,rfl⟩)
        go_ret
        exact ⟨ret_int HT.out.symm,m,rfl⟩
      · have h11:=gs_one a1 a3 hh
        by_cases ho:18446744073709551616<=r+v1
        · have HT:Hid (T=d-1):=by show _=_;rw [hT.out];unfold gsL;rw [if_neg hh,if_pos ho]
          have hw:IntKind.u64.wrap (r+v1)=r+v1-18446744073709551616:=by rw [wrap_mod];omega
          have hlt:r+v1-18446744073709551616<v1:=by omega
          clear hT hf hfe HF
          generalize d*v0/18446744073709551616=hi at *
          generalize d*v0%18446744073709551616=lo at *
          go_wp2_with (go_at_call 59;refine hmul.mono ?_;rintro e w' ⟨rfl,rfl⟩)
          go_ret
          exact ⟨ret_int HT.out.symm,m,rfl⟩
        · have HT : Hid (T = gsL v1 v0 f' (d - 1) (r + v1)) := by show _ = _; rw [hT.out]; conv => lhs; unfold gsL
                                                                  rw [if_neg hh,if_neg ho]
          have hlt:¬ r+v1<v1:=by omega
          have hle:r+v1<=18446744073709551615:=by omega
          clear hT hf hfe
          generalize d*v0/18446744073709551616=hi at *
          generalize d*v0%18446744073709551616=lo at *
          go_wp2_with (go_at_call 59;refine hmul.mono ?_;rintro e w' ⟨rfl,rfl⟩)
          go_roundw
          case rel=>exact ⟨f',d-1,r+v1,rfl,rfl,by omega,by omega,by omega,by omega,by have:=HF.out;omega,HT,trivial⟩
          case measure=>simp [intOf];omega
theorem seg_next (z:Nat->Int)(off j:Nat):val (segW z off (j+1)) (j+1)=val (segW z off j) j+z (off+j)*18446744073709551616^j:=by
 show val (segW z off (j+1)) j+segW z off (j+1) j*18446744073709551616^j=_
 rw [segW_lt z off (j+1) j (by omega),val_congr (x:=segW z off (j+1)) (y:=segW z off j) j fun i hi=>by rw [segW_lt _ _ _ i (by omega),segW_lt _ _ _ i hi]]
theorem seg_congr {z z':Nat->Int}(off j:Nat)(h:∀ i,off<=i->i<off+j->z i=z' i):val (segW z off j) j=val (segW z' off j) j :=
 val_congr j fun i hi=>by rw [segW_lt _ _ _ i hi,segW_lt _ _ _ i hi,h (off+i) (by omega) (by omega)]
theorem sub_round {V V0 C n vy yj zj l hi l' bo:Int}{Q:Int}(h:V-C*Q=V0-n*vy)(hl:l+hi*18446744073709551616=yj*n+0+C)(hb:l'-bo*18446744073709551616=zj-l) :
  V+l'*Q-(hi+bo)*(Q*18446744073709551616)=V0+zj*Q-n*(vy+yj*Q):=by grind
theorem sub_nowrap {yj n C l hi zj:Int}(hy:0<=yj/\yj<=18446744073709551615)(hn:0<=n/\n<=18446744073709551615)(hC:0<=C/\C<=18446744073709551615)(hl:l+hi*18446744073709551616=yj*n+0+C)(hlb:0<=l/\l<=18446744073709551615)(hz:0<=zj/\zj<=18446744073709551615):hi+bor zj l 0<=18446744073709551615:=by
 have hp:yj*n<=18446744073709551615*18446744073709551615:=Int.mul_le_mul hy.2 hn.2 hn.1 (by decide)
 have hb:=bor_01 zj l 0
 by_cases e:hi=18446744073709551615
 ·have e2:l=0:=by omega
  have:bor zj l 0=0:=by unfold bor;rw [if_neg (by omega)]
  omega
 ·omega
theorem subProduct_any (g N off m c k c':Nat)(a':Option Addr)(x y:Nat->Int)(n:Int)(w:World)(hm:off+m<=N)(hN:N<4294967296)(hk:k<=m)(hx:Words x)(hn:0<=n/\n<=18446744073709551615)(h:Own g N x w)(h':Num w a' k c' y)(hA:Apart a' g) :
  Calls Tryz.prog 184 #[.slice (some ⟨g,off,none⟩) m c,.slice a' k c',.int .u64 n] w fun e w'=>∃ C z,e=.returned (.int .u64 C)/\(0<=C/\C<=18446744073709551615)/\Own g N z w'/\Words z/\val (segW z off k) k-C*18446744073709551616^k=val (segW x off k) k-n*val y k/\(∀ i,i<off∨off+k<=i->z i=x i)/\Upd g w w':=by
 have hy:=h'.2.2.1
 go_enter Tryz.func184,Tryz.ntmps184
 go_wp2
 go_loopw [7,8,9,10,11,12,15,20,27] (fun cv u8 u9 u10 u11 u12 i u20 u27 wr=>∃ (j:Nat) (C:Int) (z:Nat->Int),j<=k/\i=.int .i64 j/\cv=.int .u64 C/\(0<=C/\C<=18446744073709551615)/\Own g N z wr/\Words z/\Hid (val (segW z off j) j-C*18446744073709551616^j=val (segW x off j) j-n*val y j)/\(∀ i,i<off∨off+j<=i->z i=x i)/\Upd g w wr) (fun _ _ _ _ _ _ i _ _ _=>k-(intOf i).toNat)
 case atStart=>exact ⟨0,0,x,Nat.zero_le _,rfl,rfl,by decide,h,hx,by show _=_;simp [val],fun _ _=>rfl,Upd.refl _ _⟩
 case round =>
  obtain ⟨j,C,z,hj,rfl,rfl,hCb,hO,hzw,hv,hzx,hU⟩:=hrel
  by_cases hlt:j<k
  ·have hji:(j:Int)<k:=by omega
   have hjm:(j:Int)<m:=by omega
   obtain ⟨b,off',rfl,hb,hc⟩:=(hU.num' hA h').cells (by omega)
   have hcj:=hc j hlt
   have hco:=hO.cell (off+j) (by omega)
   have hzj:z (off+j)=x (off+j):=hzx _ (by omega)
   rw [hzj] at hco
   have hfo:=hO.frozen (off+j)
   have hma:=fun w=>mulAdd_any (y j) n 0 C w (hy j) hn (by decide) hCb
   have bx:=hx (off+j)
   have b_y:=hy j
   have HO:Hid (Own g N z wr):=hO
   have HU:Hid (Upd g w wr):=hU
   have HZW:Hid (Words z):=hzw
   have HZX:Hid (∀ i,i<off∨off+j<=i->z i=x i):=hzx
   clear hO hU hc h h' hA hx hy hzw hzx
   go_wp2_with (go_at_call 162;refine (hma _).mono ?_;rintro e w1 ⟨l,hi,rfl,hlh,hlb,hhb,rfl⟩;have hsb:=fun w=>sub64 (x (off+j)) l 0 bx.1 hlb.1 (by omega) (by decide) (by decide) w;have hbo:=bor_01 (x (off+j)) l 0;have hbv:=bor_val bx hlb (b:=0) (by decide);have hw:=sub_nowrap b_y hn hCb hlh hlb bx;rw [Int.sub_zero] at hsb hbv;generalize bor (x (off+j)) l 0=bo at *)
   go_roundw
   case rel =>
    refine ⟨j+1,hi+bo,fun i=>if i=off+j then (x (off+j)-l)%18446744073709551616 else z i,by omega,by go_num,rfl,by omega,HO.out.set (off+j) _,upd_words HZW.out (by omega),?_,?_,HU.out.set (off+j) _⟩
    ·show _=_
     rw [seg_next,seg_next,if_pos rfl,seg_congr (z:=fun i=>if i=off+j then (x (off+j)-l)%18446744073709551616 else z i) (z':=z) off j fun i h1 h2=>if_neg (by omega),Int.pow_succ]
     exact sub_round hv.out hlh (by omega)
    ·intro i hi2
     exact (if_neg (show ¬ i=off+j by omega)).trans (HZX.out i (by omega))
   case measure=>simp [intOf];omega
  ·obtain rfl:j=k:=by omega
   have HO:Hid (Own g N z wr):=hO
   have HU:Hid (Upd g w wr):=hU
   have HZW:Hid (Words z):=hzw
   have HZX:Hid (∀ i,i<off∨off+j<=i->z i=x i):=hzx
   clear hO hU h h' hA hx hy hzw hzx
   go_wp2
   go_ret
   exact ⟨C,z,rfl,hCb,HO.out,HZW.out,hv.out,HZX.out,HU.out⟩
theorem stp_on {R D dg V0 V1 u1 C Q:Int}(h:V1-C*Q=V0-dg*D)(hR:R=V0+u1*Q)(h0:0<=V1)(hV:V1<Q)(hD:0<D)(hDQ:D<Q)(h1:R<(dg+1)*D)(hc:C<=u1):R/D=dg/\R%D=V1:=by
 have e:R-dg*D=V1+(u1-C)*Q:=by rw [Int.sub_mul];omega
 have e1:(dg+1)*D=dg*D+D:=by rw [Int.add_mul,Int.one_mul]
 have hk:u1=C:=by
  rcases Int.lt_or_le C u1 with hlt|hge
  ·have:1*Q<=(u1-C)*Q:=Int.mul_le_mul_of_nonneg_right (by omega) (by omega)
   omega
  ·omega
 rw [hk,Int.sub_self,Int.zero_mul] at e
 have:=(Int.ediv_emod_unique hD (a:=R) (r:=V1) (q:=dg)).2 ⟨by rw [Int.mul_comm];omega,h0,by omega⟩
 exact this
theorem stp_back {R D dg V0 V1 u1 C Q N1 c:Int}(h:V1-C*Q=V0-dg*D)(hR:R=V0+u1*Q)(h0:0<=V1)(hV:V1<Q)(hD:0<D)(hDQ:D<Q)(h2:(dg-1)*D<=R)(hc:u1<C)(hn:N1+c*Q=V1+D)(n0:0<=N1)(n1:N1<Q):R/D=dg-1/\R%D=N1:=by
 have e:R-dg*D=V1+(u1-C)*Q:=by rw [Int.sub_mul];omega
 have e1:(dg-1)*D=dg*D-D:=by rw [Int.sub_mul,Int.one_mul]
 have hneg:(C-u1)*Q ≥ 1*Q:=Int.mul_le_mul_of_nonneg_right (by omega) (by omega)
 have e2:(u1-C)*Q=- ((C-u1)*Q):=by rw [← Int.neg_mul];congr 1;omega
 have e3:N1-(R-(dg-1)*D)=(C-u1-c)*Q:=by rw [Int.sub_mul (C-u1) c Q];omega
 have hk:C-u1-c=0:=by
  rcases Int.lt_trichotomy (C-u1-c) 0 with hl|he|hg
  ·have:(C-u1-c)*Q<=(-1)*Q:=Int.mul_le_mul_of_nonneg_right (by omega) (by omega)
   omega
  ·exact he
  ·have:1*Q<=(C-u1-c)*Q:=Int.mul_le_mul_of_nonneg_right (by omega) (by omega)
   omega
 rw [hk,Int.zero_mul] at e3
 exact (Int.ediv_emod_unique hD (a:=R) (r:=N1) (q:=dg-1)).2 ⟨by rw [Int.mul_comm];omega,n0,by omega⟩
theorem divideStep_any (g N off t c c':Nat)(a':Option Addr)(z y:Nat->Int)(w:World)(ht:2<=t)(hm:off+t+1<=N)(hN:N<4294967296)(hz:Words z)(h:Own g N z w)(h':Num w a' t c' y)(hA:Apart a' g)(hy1:9223372036854775808<=y (t-1))(hlt:val (segW z off (t+1)) (t+1)<val y t*18446744073709551616) :
  Calls Tryz.prog 180 #[.slice (some ⟨g,off,none⟩) (t+1) c,.slice a' t c'] w fun e w'=>e=.returned (.int .u64 (val (segW z off (t+1)) (t+1)/val y t))/\∃ z',Own g N z' w'/\Words z'/\(∀ i,i<off->z' i=z i)/\val (segW z' off t) t=val (segW z off (t+1)) (t+1)%val y t/\Upd g w w':=by
 have hy:=h'.2.2.1
 obtain ⟨p,rfl⟩:∃ p,t=p+2:=⟨t-2,by omega⟩
 have hy1':9223372036854775808<=y (p+1):=hy1
 have G:Gs (val (segW z off (p+2+1)) (p+2+1)) (val y (p+2)) (z (off+(p+2))) (z (off+(p+1))) (y (p+1)) (y p) (18446744073709551616^p) (val (segW z off (p+1)) (p+1)) (val y p):=by
  have ba:=val_bd (segW_words hz off (p+1)) (p+1)
  have bb:=val_bd hy p
  refine ⟨?_,?_,pw_pos p,ba.1,by rw [← Int.pow_succ];exact ba.2,bb.1,bb.2,hz _,hz _,⟨hy1',(hy _).2⟩,hy _,hlt⟩
  ·rw [seg_next,seg_next,Int.pow_succ,Int.pow_succ,Int.pow_succ];grind
  ·show val y p+y p*18446744073709551616^p+y (p+1)*18446744073709551616^(p+1)=_
   rw [Int.pow_succ];grind
 have hsp:=gsF_spec G
 have hg:=fun w=>guess_any (z (off+(p+2))) (z (off+(p+1))) (y (p+1)) (y p) w (hz _) (hz _) ⟨hy1',(hy _).2⟩ (hy _)
 have hposD:=G.posD
 have hRe:val (segW z off (p+2+1)) (p+2+1)=val (segW z off (p+2)) (p+2)+z (off+(p+2))*18446744073709551616^(p+2):=seg_next z off (p+2)
 have hDQ:=(val_bd hy (p+2)).2
 generalize gsF (z (off+(p+2))) (z (off+(p+1))) (y (p+1)) (y p)=dg at *
 generalize hR:val (segW z off (p+2+1)) (p+2+1)=R at *
 obtain ⟨b,off',rfl,hb,hc⟩:=h'.cells (by omega)
 have hv1:=hc (p+1) (by omega)
 have hv0:=hc p (by omega)
 have hu1:=h.cell (off+(p+2)) (by omega)
 have hu0:=h.cell (off+(p+1)) (by omega)
 have bu1:=hz (off+(p+2))
 have hsub:=fun wr hO hN'=>subProduct_any g N off (p+2+1) c (p+2) c' (some ⟨b,off',none⟩) z y dg wr (by omega) hN (by omega) hz ⟨hsp.1,hsp.2.1⟩ hO hN' hA
 have hpi:(0:Int)<=p:=by omega
 go_enter Tryz.func180,Tryz.ntmps180
 go_wp2
 go_quiet ((go_at_call 183;exact (hg _).mono fun _ _ h=>⟨h.1,h.2.elim fun m hm=>⟨_,hm.trans (drw_add _ _ _)⟩⟩))
 go_wp2
 have HRe:Hid (R=val (segW z off (p+2)) (p+2)+z (off+(p+2))*18446744073709551616^(p+2)):=hRe
 have HSP:Hid (R<(dg+1)*val y (p+2)/\(dg-1)*val y (p+2)<=R):=⟨hsp.2.2.1,hsp.2.2.2⟩
 have hdg0:=hsp.1
 have hdg1:=hsp.2.1
 have HWY:Hid (Words y):=hy
 have HWZ:Hid (Words z):=hz
 clear hsp hRe G hg hlt hc hv1 hv0 hu0 hy hz hy1 hy1' hR
 go_region_with (go_at_call 184;refine (hsub (w.drewN nq).drew h h').mono ?_;rintro e w1 ⟨C,z1,rfl,hCb,hO1,hw1,hvv,hzx1,hU1⟩;have hct:=hO1.cell (off+(p+2)) (by omega);rw [hzx1 (off+(p+2)) (by omega)] at hct)
 all_goals
  have hbd:=val_bd (segW_words hw1 off (p+2)) (p+2)
  by_cases hcc:z (off+(p+2))<C
  ·have hd1:1<=dg:=by
    rcases Int.lt_or_le 0 dg with h1|h1
    ·omega
    ·exfalso
     have e0:dg=0:=by omega
     rw [e0,Int.zero_mul,Int.sub_zero] at hvv
     have h5:=(val_bd (segW_words HWZ.out off (p+2)) (p+2)).1
     have h6:1*18446744073709551616^(p+2)<=C*18446744073709551616^(p+2):=Int.mul_le_mul_of_nonneg_right (by omega) (Int.le_of_lt (pw_pos _))
     omega
   have had:=addInto_any g N off (p+2+1) c (p+2) c' (some ⟨b,off',none⟩) z1 y w1 (by omega) hN (by omega) hw1 hO1 (hU1.num' hA h') hA
   have e1:val (segW (addZ z1 y off (p+2)) off (p+2)) (p+2)=val (sumW (fun i=>z1 (off+i)) y) (p+2):=val_congr _ fun i hi=>by
    rw [segW_lt _ _ _ i hi];unfold addZ;rw [if_pos (by omega)];congr 1;omega
   have e2:val (fun i=>z1 (off+i)) (p+2)=val (segW z1 off (p+2)) (p+2):=val_congr _ fun i hi=>by rw [segW_lt _ _ _ i hi]
   have e3:=sum_val (x:=fun i=>z1 (off+i)) (y:=y) (p+2)
   rw [e2,← e1] at e3
   have HAW:Hid (Words (addZ z1 y off (p+2))):=fun i=>by
    unfold addZ;split
    ·exact sumW_words _ _ _
    ·exact hw1 i
   have hnb:=val_bd (segW_words HAW.out off (p+2)) (p+2)
   have HQ:Hid (R/val y (p+2)=dg-1/\R%val y (p+2)=val (segW (addZ z1 y off (p+2)) off (p+2)) (p+2)):=stp_back hvv HRe.out hbd.1 hbd.2 hposD hDQ HSP.out.2 hcc e3 hnb.1 hnb.2
   have HU:Hid (Upd g w w1):=⟨hU1.os,hU1.tape,hU1.output,hU1.size,hU1.block⟩
   have HZX:Hid (∀ i,i<off->addZ z1 y off (p+2) i=z i):=fun i hi=>by
    unfold addZ;rw [if_neg (by omega)];exact hzx1 i (Or.inl hi)
   clear e1 e2 e3 hnb hbd hvv hzx1 hO1 hw1 hU1 hsub h h' hposD hDQ HRe HSP
   go_wp2_with (go_at_call 176;refine had.mono ?_;rintro e w2 ⟨rfl,hO2,hU2⟩)
   go_ret
   exact ⟨ret_int HQ.out.1.symm,_,hO2,HAW.out,HZX.out,HQ.out.2.symm,HU.out.trans hU2⟩
  ·have HQ:Hid (R/val y (p+2)=dg/\R%val y (p+2)=val (segW z1 off (p+2)) (p+2)):=stp_on hvv HRe.out hbd.1 hbd.2 hposD hDQ HSP.out.1 (by omega)
   have HU:Hid (Upd g w w1):=⟨hU1.os,hU1.tape,hU1.output,hU1.size,hU1.block⟩
   have HO:Hid (Own g N z1 w1):=hO1
   have HW1:Hid (Words z1):=hw1
   have HZX:Hid (∀ i,i<off->z1 i=z i):=fun i hi=>hzx1 i (Or.inl hi)
   clear hbd hvv hzx1 hO1 hw1 hU1 hsub h h' hposD hDQ HRe HSP
   go_wp2
   go_ret
   exact ⟨ret_int HQ.out.1.symm,z1,HO.out,HW1.out,HZX.out,HQ.out.2.symm,HU.out⟩
section
theorem val_pos {z:Nat->Int}(hz:Words z):∀ m,0<m->sizeL z m=m->0<val z m
 | 0,h,_=>by omega
 | m+1,_,h=>by
  have hne:z m≠0:=by
   intro e
   have:sizeL z (m+1)=sizeL z m:=by simp [sizeL,e]
   have:=sizeL_le z m
   omega
  have h1:=(val_bd hz m).1
  have h2:=hz m
  have h3:=pw_pos m
  show 0<val z m+z m*18446744073709551616^m
  have:0<z m*18446744073709551616^m:=Int.mul_pos (by omega) h3
  omega
theorem val_split (z:Nat->Int)(j:Nat):∀ m,val z (j+m)=val z j+val (segW z j m) m*18446744073709551616^j
 | 0=>by simp [val]
 | m+1=>by
  rw [seg_next]
  show val z (j+m)+z (j+m)*18446744073709551616^(j+m)=_
  rw [val_split z j m,Int.pow_add];grind
theorem norm_top {y:Int}(h0:0<y)(h:y<=18446744073709551615):∃ r:Nat,r<64/\(64-(Lib.bitLen y.toNat:Int))=r/\9223372036854775808<=y*2^r/\y*2^r<=18446744073709551615:=by
 obtain ⟨n,rfl⟩:=Int.eq_ofNat_of_zero_le (Int.le_of_lt h0)
 have h1:=bitLen_spec n (by omega) (by omega)
 have h2:=norm_bd n (by omega) (by omega)
 rw [Int.toNat_natCast]
 refine ⟨64-Lib.bitLen n,by omega,by omega,?_,?_⟩
 ·rw [← powCast,← Int.natCast_mul];omega
 ·rw [← powCast,← Int.natCast_mul];omega
theorem shW_top {y:Nat->Int}(hy:Words y){r t:Nat}(ht:0<t)(h1:9223372036854775808<=y (t-1)*2^r)(h2:y (t-1)*2^r<=18446744073709551615):9223372036854775808<=shW y r (t-1)/\val (shW y r) t=val y t*2^r:=by
 refine ⟨?_,?_⟩
 ·unfold shW
  have:=(prevW_bd hy r (t-1)).1
  rw [Int.emod_eq_of_lt (by omega) (by omega)];omega
 ·have e:=sh_val y r t
  have e1:prevW y r t=0:=by
   unfold prevW hiW;rw [if_neg (by omega)];exact Int.ediv_eq_zero_of_lt (by omega) (by omega)
  rw [e1] at e;omega
theorem long_round {U VQ D Vj R q rho Vn B:Int}(h:VQ*D+Vn=U)(hs:Vn=Vj+R*B)(hq:D*q+rho=R):(VQ+q*B)*D+(Vj+rho*B)=U:=by grind
theorem long_end {X Y S VQ Vz Vr m:Int}(hS:0<S)(hY:0<Y)(h:VQ*(Y*S)+Vz=X*S)(hlt:Vz<Y*S)(hz:0<=Vz)(hr:Vr*S+m=Vz)(hm:0<=m)(hmS:m<S):VQ=X/Y/\Vr=X%Y:=by
 have e:(X-VQ*Y-Vr)*S=m:=by grind
 have hk:X-VQ*Y-Vr=0:=by
  rcases Int.lt_trichotomy (X-VQ*Y-Vr) 0 with hl|he|hg
  ·have:(X-VQ*Y-Vr)*S<=(-1)*S:=Int.mul_le_mul_of_nonneg_right (by omega) (by omega)
   omega
  ·exact he
  ·have:1*S<=(X-VQ*Y-Vr)*S:=Int.mul_le_mul_of_nonneg_right (by omega) (by omega)
   omega
 rw [hk,Int.zero_mul] at e
 have h1:0<=Vr:=by
  rcases Int.lt_or_le Vr 0 with hl|hge
  ·have:Vr*S<=(-1)*S:=Int.mul_le_mul_of_nonneg_right (by omega) (by omega)
   omega
  ·exact hge
 have h2:Vr<Y:=by
  rcases Int.lt_or_le Vr Y with hl|hge
  ·exact hl
  ·have:Y*S<=Vr*S:=Int.mul_le_mul_of_nonneg_right hge (by omega)
   omega
 have:=(Int.ediv_emod_unique hY (a:=X) (r:=Vr) (q:=VQ)).2 ⟨by rw [Int.mul_comm];omega,h1,h2⟩
 exact ⟨this.1.symm,this.2.symm⟩
theorem upZ_all (y:Nat->Int)(r k i:Nat)(hi:i<k):upZ (fun _=>0) y r 0 k i=shW y r i:=by unfold upZ;rw [if_pos (by omega)];rfl
set_option maxRecDepth 20000 in
theorem divideLong_any (a a':Option Addr)(s c t c':Nat)(x y:Nat->Int)(w:World)(hs:s<=2000)(ht:2<=t)(hts:t<=s)(h:Num w a s c x)(h':Num w a' t c' y)(hy0:sizeL y t=t) :
  Calls Tryz.prog 174 #[.slice a s c,.slice a' t c'] w fun e w'=>∃ gq gr q z,e=.returned (.tuple #[.slice (some ⟨gq,0,none⟩) (s-t+1) (s-t+1),.slice (some ⟨gr,0,none⟩) t t])/\Own gq (s-t+1) q w'/\Words q/\val q (s-t+1)=val x s/val y t/\Own gr t z w'/\Words z/\val z t=val x s%val y t/\Below w.heap.size w w':=by
 have hx:=h.2.2.1
 have hy:=h'.2.2.1
 have hyne:y (t-1)≠0:=by have:=sizeL_top (x:=y) t (by omega);rw [hy0] at this;exact this
 have hyb:=hy (t-1)
 obtain ⟨r,hr64,hr,hn1,hn2⟩:=norm_top (y:=y (t-1)) (by omega) hyb.2
 have htop:=shW_top hy (t:=t) (by omega) hn1 hn2
 have hlz:=fun w=>(Tryz.bits_LeadingZeros64 (y (t-1)) w hyb.1 hyb.2).mono (fun e w' hw=>(⟨hw.1,hw.2.symm⟩:_/\w=w'))
 rw [hr] at hlz
 obtain ⟨b',off',rfl,hb',hc'⟩:=h'.cells (by omega)
 have hct:=hc' (t-1) (by omega)
 have et1:((t:Int)-1).toNat=t-1:=by omega
 have hti:(2:Int)<=t:=by omega
 have hm1:=fun w=>make_any ((t:Int)+1) (t+1) (by omega) (by omega) w
 have hm2:=fun w=>make_any ((s:Int)+1) (s+1) (by omega) (by omega) w
 have hm3:=fun w=>make_any ((s:Int)-t+1) (s-t+1) (by omega) (by omega) w
 have hm4:=fun w=>make_any (t:Int) t rfl (by omega) w
 have hB1:=below1 w (.cells (arrOf (fun _=>0) (t+1)) 22)
 have u1:=shiftUp_any w.heap.size (t+1) 0 (t+1) (t+1) t c' r _ (fun _=>0) y _ (by omega) (by omega) (by omega) hr64 (Own.new w (fun _=>0) (t+1)) (h'.next hB1) (apart_of h')
 go_enter Tryz.func174,Tryz.ntmps174
 go_wp2_with (first|(go_at_call 151;refine (hlz _).mono ?_;rintro e w' ⟨rfl,rfl⟩)|(go_at_call 160;refine u1.mono ?_;rintro e w1 ⟨rfl,hV1,hU1⟩;clear u1))
 have hBw1:Below w.heap.size w w1:=hB1.trans (hU1.below (Nat.le_refl _))
 have HG1:Hid (w1.heap.size=w.heap.size+1):=by show _=_;rw [hU1.size];simp
 have hn1w:=h.next hBw1
 have hB2:=below1 w1 (.cells (arrOf (fun _=>0) (s+1)) 22)
 have u2:=shiftUp_any w1.heap.size (s+1) 0 (s+1) (s+1) s c r a (fun _=>0) x _ (by omega) (by omega) (by omega) hr64 (Own.new w1 (fun _=>0) (s+1)) (hn1w.next hB2) (apart_of hn1w)
 go_wp2_with (go_at_call 160;refine u2.mono ?_;rintro e w2 ⟨rfl,hL2,hU2⟩;clear u2)
 have hg2:w2.heap.size=w1.heap.size+1:=by rw [hU2.size];simp
 have hg1:w1.heap.size=w.heap.size+1:=HG1.out
 clear HG1
 have hB3:=below1 w2 (.cells (arrOf (fun _=>0) (s-t+1)) 22)
 have hBw2:Below w.heap.size w w2:=(hBw1.trans (hB2.mono hBw1.size)).trans (hU2.below (by omega))
 have hBwC:=hBw2.trans (hB3.mono hBw2.size)
 have hV3:Own w.heap.size (t+1) (upZ (fun _=>0) y r 0 (t+1)) (w2.alloc (.cells (arrOf (fun _=>0) (s-t+1)) 22)):=Below.own hB3 (by omega) (hU2.own (by omega) (Below.own hB2 (by omega) hV1))
 have hL3:=Below.own hB3 (by omega) hL2
 have hQ3:=Own.new w2 (fun _=>0) (s-t+1)
 have e1:∀ i,i<t+1->upZ (fun _=>0) y r 0 (t+1) i=shW y r i:=fun i hi=>upZ_all y r _ i hi
 have e2:∀ i,i<s+1->upZ (fun _=>0) x r 0 (s+1) i=shW x r i:=fun i hi=>upZ_all x r _ i hi
 replace hV3:=hV3.congr e1
 replace hL3:=hL3.congr e2
 have hUv:val (shW x r) (s+1)=val x s*2^r:=sh_end h.2.2.2.1 r (s+1) (by omega)
 have HWX:=shW_words hx hr64
 have HWY:=shW_words hy hr64
 have hD0:0<val y t:=val_pos hy t (by omega) hy0
 have hS:=p2_pos r
 have hDpos:0<val y t*2^r:=Int.mul_pos hD0 hS
 have hxb:=val_bd hx s
 have hUlt:val x s*2^r<val y t*2^r*18446744073709551616^(s-t+1):=by
  have hY1:9223372036854775808*18446744073709551616^(t-1)<=val y t*2^r:=by
   rw [← htop.2]
   have e5:val (shW y r) t=val (shW y r) (t-1)+shW y r (t-1)*18446744073709551616^(t-1):=by
    conv=>lhs;rw [show t=t-1+1 by omega]
    rfl
   have h6:=(val_bd HWY (t-1)).1
   have h7:9223372036854775808*18446744073709551616^(t-1)<=shW y r (t-1)*18446744073709551616^(t-1):=Int.mul_le_mul_of_nonneg_right htop.1 (Int.le_of_lt (pw_pos _))
   omega
  have h8:val x s*2^r<18446744073709551616^s*2^r:=Int.mul_lt_mul_of_pos_right hxb.2 hS
  have h9:(18446744073709551616:Int)^s*2^r<=18446744073709551616^s*9223372036854775808:=Int.mul_le_mul_of_nonneg_left (p2_le hr64) (Int.le_of_lt (pw_pos _))
  have h10:9223372036854775808*18446744073709551616^(t-1)*18446744073709551616^(s-t+1)<=val y t*2^r*18446744073709551616^(s-t+1):=Int.mul_le_mul_of_nonneg_right hY1 (Int.le_of_lt (pw_pos _))
  have h11:(18446744073709551616:Int)^(t-1)*18446744073709551616^(s-t+1)=18446744073709551616^s:=by rw [← Int.pow_add];congr 1;omega
  rw [Int.mul_assoc,h11,Int.mul_comm] at h10
  omega
 generalize hgV:w.heap.size=gV at *
 generalize hgL:w1.heap.size=gL at *
 generalize hgQ:w2.heap.size=gQ at *
 generalize hwC:w2.alloc (.cells (arrOf (fun _=>0) (s-t+1)) 22)=wC at *
 obtain ⟨D,hDe⟩:∃ D,val y t*2^r=D:=⟨_,rfl⟩
 obtain ⟨U,hUe⟩:∃ U,val x s*2^r=U:=⟨_,rfl⟩
 rw [hDe] at htop hDpos hUlt
 rw [hUe] at hUv hUlt
 have hVL:gV<gL:=by omega
 have hLQ:gL<gQ:=by omega
 have HGV:Hid (w.heap.size=gV):=hgV
 clear hg1 hg2 hgV
 have HE:Hid (val y t*2^r=D/\val x s*2^r=U/\0<val y t/\(0:Int)<2^r):=⟨hDe,hUe,hD0,hS⟩
 clear hV1 hL2 hU1 hU2 hB1 hB2 hB3 hBw1 hBw2 hn1w e1 e2 hlz hct hc' h h' hm1 hm2 hm3 hDe hUe hD0 hS hxb hn1 hn2 hr hyb hyne hwC hgQ hgL w1 w2
 have hYN:∀ wr,Own gV (t+1) (shW y r) wr->Num wr (some ⟨gV,0,none⟩) t (t+1) (segW (shW y r) 0 t):=fun wr hO=>hO.num HWY 0 t (t+1) (by omega) (by omega) (by unfold maxLen;omega)
 have hYv:val (segW (shW y r) 0 t) t=D:=by
  rw [val_congr (y:=shW y r) t fun i hi=>by rw [segW_lt _ _ _ i hi,Nat.zero_add]];exact htop.2
 have hYt:9223372036854775808<=segW (shW y r) 0 t (t-1):=by rw [segW_lt _ _ _ (t-1) (by omega),Nat.zero_add];exact htop.1
 have HYN:Hid (∀ wr,Own gV (t+1) (shW y r) wr->Num wr (some ⟨gV,0,none⟩) t (t+1) (segW (shW y r) 0 t)):=hYN
 have HYT:Hid (val (segW (shW y r) 0 t) t=D/\9223372036854775808<=segW (shW y r) 0 t (t-1)):=⟨hYv,hYt⟩
 have hAp:Apart (some ⟨gV,0,none⟩) gL:=by intro p hp;cases hp;show gV≠gL;omega
 have HAP:Hid (Apart (some ⟨gV,0,none⟩) gL):=hAp
 clear hYN hYv hYt hAp htop hy hx
 generalize segW (shW y r) 0 t=Y at *
 go_loopw [10] (fun iv wr=>∃ (k:Nat) (z q:Nat->Int),k<=s-t+1/\iv=.int .i64 ((k:Int)-1)/\Own gV (t+1) (shW y r) wr/\Own gL (s+1) z wr/\Words z/\Own gQ (s-t+1) q wr/\Words q/\(∀ i,i<k->q i=0)/\Hid (val q (s-t+1)*D+val z (k+t)=U)/\Hid (val z (k+t)<D*18446744073709551616^k)/\Below gV w wr) (fun iv _=>(intOf iv+1).toNat)
 case atStart=>exact ⟨s-t+1,shW x r,fun _=>0,Nat.le_refl _,by go_num,hV3,hL3,HWX,hQ3,fun _=>(by decide:(0:Int)<=0/\(0:Int)<=18446744073709551615),fun _ _=>rfl,by show _=_;rw [val_zero,Int.zero_mul,Int.zero_add,show s-t+1+t=s+1 by omega,hUv],by show _<_;rw [show s-t+1+t=s+1 by omega,hUv];exact hUlt,hBwC⟩
 case round =>
  clear hV3 hL3 hQ3 hBwC hUv hUlt HWX
  obtain ⟨k,z,q,hk,rfl,hV,hL,hzw,hQ,hqw,hq0,hvU,hlt,hB⟩:=hrel
  by_cases h0:k=0
  ·subst h0
   have hZN:=hL.num hzw 0 t (s+1) (by omega) (by omega) (by unfold maxLen;omega)
   have hB5:=below1 wr (.cells (arrOf (fun _=>0) t) 22)
   have u3:=shiftDown_any wr.heap.size t t t (s+1) r (some ⟨gL,0,none⟩) (fun _=>0) (segW z 0 t) _ (Nat.le_refl _) (by omega) hr64 (Own.new wr (fun _=>0) t) (hZN.next hB5) (apart_of hZN)
   have HFIN:Hid (val q (s-t+1)=val x s/val y t/\val (shrW (segW z 0 t) 0 r) t=val x s%val y t):=by
    have hdn:=dn_val (segW_words hzw 0 t) hr64 t
    have e1:val (segW z 0 t) t=val z (0+t):=by
     rw [Nat.zero_add];exact val_congr t fun i hi=>by rw [segW_lt _ _ _ i hi,Nat.zero_add]
    rw [segW_zero z 0 t t (Nat.le_refl _),Int.zero_emod,Int.zero_mul,Int.add_zero,e1] at hdn
    have hE:=HE.out
    have h1:=hvU.out
    have h2:=hlt.out
    rw [← hE.1,← hE.2.1] at h1
    rw [Int.pow_zero,Int.mul_one,← hE.1] at h2
    exact long_end hE.2.2.2 hE.2.2.1 h1 h2 (val_bd hzw (0+t)).1 hdn (Int.emod_nonneg _ (by have:=hE.2.2.2;omega)) (Int.emod_lt_of_pos _ hE.2.2.2)
   have HRW:Hid (Words (shrW (segW z 0 t) 0 r)):=shrW_words (segW_words hzw 0 t) 0 r
   have HQx:Hid (Own gQ (s-t+1) q (wr.alloc (.cells (arrOf (fun _=>0) t) 22))):=Below.own hB5 hQ.lt hQ
   have hQlt:=hQ.lt
   have HQW:Hid (Words q):=hqw
   have HB6:Hid (Below gV w (wr.alloc (.cells (arrOf (fun _=>0) t) 22))):=hB.trans (hB5.mono (by have:=hB.size;have:=HGV.out;omega))
   have HLE:Hid (gV<=wr.heap.size):=by have h1:=hB.size;have h2:=HGV.out;show _<=_;omega
   clear hZN hB5 hV hL hzw hQ hqw hq0 hvU hlt hB HYN HYT HAP
   go_wp2_with (go_at_call 167;refine u3.mono ?_;rintro e w5 ⟨rfl,hR5,hU5⟩;clear u3)
   go_ret2
   exact ⟨gQ,wr.heap.size,q,shrW (segW z 0 t) 0 r,rfl,hU5.own (by omega) HQx.out,HQW.out,HFIN.out.1,hR5.congr (fun i hi=>by unfold dnZ;rw [if_pos (by omega)]),HRW.out,HFIN.out.2,by rw [HGV.out];exact HB6.out.trans (hU5.below HLE.out)⟩
  ·obtain ⟨j,rfl⟩:∃ j,k=j+1:=⟨k-1,by omega⟩
   have ej:((j+1:Nat):Int)-1=j:=by omega
   rw [ej]
   have ejt:j+t+1-j=t+1:=by omega
   have hsp:=val_split z j (t+1)
   rw [show j+(t+1)=j+1+t by omega] at hsp
   have hRlt:val (segW z j (t+1)) (t+1)<val Y t*18446744073709551616:=by
    rw [HYT.out.1]
    rcases Int.lt_or_le (val (segW z j (t+1)) (t+1)) (D*18446744073709551616) with h1|h1
    ·exact h1
    ·exfalso
     have h2:=hlt.out
     have h3:=(val_bd hzw j).1
     have h4:D*18446744073709551616*18446744073709551616^j<=val (segW z j (t+1)) (t+1)*18446744073709551616^j:=Int.mul_le_mul_of_nonneg_right h1 (Int.le_of_lt (pw_pos j))
     rw [hsp,Int.pow_succ] at h2
     have e:D*18446744073709551616*18446744073709551616^j=D*(18446744073709551616^j*18446744073709551616):=by grind
     omega
   have hst:=divideStep_any gL (s+1) j t (s+1-j) (t+1) (some ⟨gV,0,none⟩) z Y wr ht (by omega) (by omega) hzw hL (HYN.out wr hV) HAP.out HYT.out.2 hRlt
   rw [HYT.out.1] at hst
   have hR0:=(val_bd (segW_words hzw j (t+1)) (t+1)).1
   rw [HYT.out.1] at hRlt
   have HRB:Hid (0<=val (segW z j (t+1)) (t+1)/\val (segW z j (t+1)) (t+1)<D*18446744073709551616):=⟨hR0,hRlt⟩
   have HSP:Hid (val z (j+1+t)=val z j+val (segW z j (t+1)) (t+1)*18446744073709551616^j):=hsp
   generalize val (segW z j (t+1)) (t+1)=R at *
   have HVx:Hid (Own gV (t+1) (shW y r) wr):=hV
   have HQx:Hid (Own gQ (s-t+1) q wr):=hQ
   have HZB:Hid (0<=val z j/\val z j<18446744073709551616^j):=val_bd hzw j
   have hjb:j<s-t+1:=by omega
   have hji:(j:Int)<((s-t+1:Nat):Int):=by omega
   have hjs:(j:Int)+t+1<=((s+1:Nat):Int):=by omega
   have HQ0:Hid (∀ i,i<j+1->q i=0):=hq0
   have HQW:Hid (Words q):=hqw
   clear hsp hRlt hR0 hV hL hzw hQ hqw hq0 ej HYN HYT HAP
   go_wp2_with (go_at_call 180;refine hst.mono ?_;rintro e w1 ⟨rfl,z1,hO1,hw1,hzx1,hv1,hU1⟩;have hQ1:=hU1.own (by omega) HQx.out;have hcq:=hQ1.cell j hjb;have hfq:=hQ1.frozen j)
   go_roundw
   case rel =>
    have hD:=HRB.out
    have hDp:0<D:=hDpos
    have hdq:D*(R/D)+R%D=R:=Int.mul_ediv_add_emod R D
    have hq1:0<=R/D:=Int.ediv_nonneg hD.1 (by omega)
    have hq2:R/D<18446744073709551616:=Int.ediv_lt_of_lt_mul hDp (by rw [Int.mul_comm];exact hD.2)
    have hsp1:=val_split z1 j t
    have hzz:val z1 j=val z j:=val_congr j fun i hi=>hzx1 i hi
    rw [hzz,hv1] at hsp1
    refine ⟨j,z1,fun i=>if i=j then R/D else q i,by omega,by go_num,?_,?_,hw1,hQ1.set j _,upd_words HQW.out (by omega),?_,?_,?_,?_⟩
    ·exact (((Upd.refl gQ w1).set j _)).own (by omega) (hU1.own (by omega) HVx.out)
    ·exact (((Upd.refl gQ w1).set j _)).own (by omega) hO1
    ·intro i hi
     exact (if_neg (show ¬ i=j by omega)).trans (HQ0.out i (by omega))
    ·show _=_
     rw [val_set q j (R/D) (s-t+1) hjb,HQ0.out j (by omega),Int.sub_zero,hsp1]
     exact long_round hvU.out HSP.out hdq
    ·show _<_
     rw [hsp1]
     have h1:=Int.emod_lt_of_pos R hDp
     have h2:=HZB.out
     have h3:R%D*18446744073709551616^j<=(D-1)*18446744073709551616^j:=Int.mul_le_mul_of_nonneg_right (by omega) (Int.le_of_lt (pw_pos j))
     rw [Int.sub_mul,Int.one_mul] at h3
     omega
    ·exact (hB.trans (hU1.below (by omega))).trans (((Upd.refl gQ w1).set j _).below (by omega))
   case measure=>simp [intOf]
end
theorem quo_val {x:Nat->Int}{d:Int}(hx:Words x)(hd:0<d)(m:Nat):val (quoW x d m) m=val x m/d/\remJ x d m m=val x m%d:=by
 have h:=div_val x d m m (Nat.le_refl _)
 simp only [Nat.sub_self,val,Int.pow_zero,Int.mul_one,Int.zero_add,Int.sub_zero] at h
 have hb:=remJ_bd x d m m hd
 have e:=(Int.ediv_emod_unique hd (a:=val x m) (r:=remJ x d m m) (q:=val (quoW x d m) m)).2 ⟨h,hb.1,hb.2⟩
 exact ⟨e.1.symm,e.2.symm⟩
theorem divZ_words {x:Nat->Int}{d:Int}(hx:Words x)(hd:0<d)(m k:Nat):Words (divZ x d m k):=fun i=>by unfold divZ;split;exact quoW_words hx hd m i;exact hx i
theorem val_oneA (c:Int):val (oneW c) 1=c:=by simp [val,oneW]
def DivOut (n n':Nat)(X Y:Int)(w:World)(e:Ending)(w':World):Prop :=
 ∃ o k cap z o' k' cap' z',e=.returned (.tuple #[.slice o k cap,.slice o' k' cap',.int .i64 0])/\k<=2001/\k'<=2001/\Num w' o k cap z/\Num w' o' k' cap' z'/\val z k=X/Y/\val z' k'=X%Y/\sizeL z k=k/\sizeL z' k'=k'/\Below w.heap.size w w'
theorem ndiv_less (a a':Option Addr)(n c n' c':Nat)(x y:Nat->Int)(w:World)(hn:n<4000000000)(hn':n'<4000000000)(h:Num w a n c x)(h':Num w a' n' c' y)(hs:sizeL x n<=2000)(hs':sizeL y n'<=2000)(hlt:sizeL x n<sizeL y n') :
  Calls Tryz.prog 163 #[.slice a n c,.slice a' n' c'] w (DivOut n n' (val x n) (val y n') w):=by
 have hb:=bare_any a n c x w (by omega) h
 have hb':=bare_any a' n' c' y w (by omega) h'
 have hle:=sizeL_le x n
 have hle':=sizeL_le y n'
 have ht:=ntrim_any a (sizeL x n) c x w (by omega) h.bare
 rw [sizeL_sizeL] at ht
 have hv:=val_longer h.2.2.1 h'.2.2.1 hlt (sizeL_sizeL y n')
 rw [val_bare,val_bare] at hv
 have hx0:=(val_bd h.2.2.1 n).1
 have HV:Hid (val x n/val y n'=0/\val x n%val y n'=val x n):=⟨Int.ediv_eq_zero_of_lt hx0 hv,Int.emod_eq_of_lt hx0 hv⟩
 have HN:Hid (Num (w.alloc (.cells (arrOf x (sizeL x n)) 22)) (some ⟨w.heap.size,0,none⟩) (sizeL x n) (sizeL x n) x):=num_of_block (by omega) h.2.2.1 h.bare.2.2.2.1 (arrOf_size _ _) (fun j hj=>arrOf_get _ _ _ _)
 have HVX:Hid (val x (sizeL x n)=val x n):=val_bare n
 have HSS:Hid (sizeL x (sizeL x n)=sizeL x n):=sizeL_sizeL x n
 have hlti:(sizeL x n:Int)<sizeL y n':=by omega
 have hsi:(sizeL x n:Int)<=2000:=by omega
 have hsi':(sizeL y n':Int)<=2000:=by omega
 have hne:((sizeL y n':Int)==0)=false:=by simp;omega
 generalize sizeL x n=s at *
 generalize sizeL y n'=s' at *
 clear h h' hv hx0
 generalize val x n=X at *
 generalize val y n'=Y at *
 go_enter Tryz.func163,Tryz.ntmps163
 go_wp2_with (first|(go_at_call_of 103 (Value.slice a n c);refine hb.mono ?_;rintro e w' ⟨rfl,rfl⟩)|(go_at_call_of 103 (Value.slice a' n' c');refine hb'.mono ?_;rintro e w' ⟨rfl,rfl⟩)|(go_at_call 166;refine ht.mono ?_;rintro e w1 ⟨rfl,rfl⟩))
 go_ret3
 exact ⟨none,0,0,_,_,s,s,x,rfl,by omega,by omega,num_none _,HN.out,by rw [HV.out.1];rfl,by rw [HV.out.2];exact HVX.out,rfl,HSS.out,below1 w _⟩
theorem ndiv_one (a a':Option Addr)(n c n' c':Nat)(x y:Nat->Int)(w:World)(hn:n<4000000000)(hn':n'<4000000000)(h:Num w a n c x)(h':Num w a' n' c' y)(hs:sizeL x n<=2000)(hs':sizeL y n'=1)(hlt:1<=sizeL x n) :
  Calls Tryz.prog 163 #[.slice a n c,.slice a' n' c'] w (DivOut n n' (val x n) (val y n') w):=by
 have hb:=bare_any a n c x w (by omega) h
 have hb':=bare_any a' n' c' y w (by omega) h'
 have hle:=sizeL_le x n
 have hle':=sizeL_le y n'
 have ht:=ntrim_any a (sizeL x n) c x w (by omega) h.bare
 rw [sizeL_sizeL] at ht
 have hy1:val y n'=y 0:=by rw [← val_bare n',hs'];simp [val]
 have hyt:=sizeL_top (x:=y) n' (by omega)
 rw [hs'] at hyt
 have hyb:=h'.2.2.1 0
 have hy0:0<y 0:=by have:y 0≠0:=hyt;omega
 obtain ⟨b',off',rfl,hbs',hc'⟩:=h'.cells (by omega)
 have hcy:=hc' 0 (by omega)
 have hx:=h.2.2.1
 have HVX:Hid (val x (sizeL x n)=val x n):=val_bare n
 rw [hs'] at hb'
 have hd:=divideBy_any w.heap.size (sizeL x n) (sizeL x n) (sizeL x n) x (y 0) _ (Nat.le_refl _) (by omega) hx ⟨hy0,hyb.2⟩ (Own.new w x (sizeL x n))
 have hqv:=quo_val hx hy0 (sizeL x n)
 rw [hy1]
 have hcy2:(w.alloc (.cells (arrOf x (sizeL x n)) 22)).cell? ⟨b',off',none⟩=some (.int .u64 (y 0)):=((below1 w _).cell (p:=⟨b',off',none⟩) hbs').trans hcy
 have HB:=below1 w (.cells (arrOf x (sizeL x n)) 22)
 have hsi:(sizeL x n:Int)<=2000:=by omega
 have hs1i:¬ (sizeL x n:Int)<1:=by omega
 have hs1n:¬ sizeL x n<1:=by omega
 have HDW:Hid (Words (divZ x (y 0) (sizeL x n) 0)):=divZ_words hx hy0 _ 0
 have HDV:Hid (val (divZ x (y 0) (sizeL x n) 0) (sizeL x n)=val x n/y 0):=by
  show _=_
  rw [val_congr (y:=quoW x (y 0) (sizeL x n)) (sizeL x n) fun i hi=>by unfold divZ;rw [if_pos (by omega)],hqv.1,HVX.out]
 have HRV:Hid (remJ x (y 0) (sizeL x n) (sizeL x n)=val x n%y 0):=by show _=_;rw [hqv.2,HVX.out]
 have hrb:=remJ_bd x (y 0) (sizeL x n) (sizeL x n) hy0
 generalize remJ x (y 0) (sizeL x n) (sizeL x n)=rm at *
 generalize divZ x (y 0) (sizeL x n) 0=dz at *
 generalize sizeL x n=s at *
 clear h h' hc' hqv hyt hx HVX hy1
 generalize val x n=X at *
 go_enter Tryz.func163,Tryz.ntmps163
 go_wp2_with (first|(go_at_call_of 103 (Value.slice a n c);refine hb.mono ?_;rintro e w' ⟨rfl,rfl⟩;clear hb)|(go_at_call_of 103 (Value.slice (some ⟨b',off',none⟩) n' c');refine hb'.mono ?_;rintro e w' ⟨rfl,rfl⟩;clear hb')|(go_at_call 166;refine ht.mono ?_;rintro e w1 ⟨rfl,rfl⟩)|(go_at_call 173;refine hd.mono ?_;rintro e w2 ⟨rfl,hO2,hU2⟩))
 obtain ⟨k,z',hkN,hNk,hvk,hsk,hbr⟩:=bare_own hO2 HDW.out (by omega) (Nat.le_refl s) (by unfold maxLen;omega) HDV.out
 go_wp2_with (go_at_call 103;refine hbr.mono ?_;rintro e w3 ⟨rfl,rfl⟩;clear hbr)
 have hN1:=num_one w2 rm (by omega)
 have hB2:=below1 w2 (.cells #[.int .u64 rm] 22)
 have hbr2:=bare_any _ 1 1 (oneW rm) _ (by omega) hN1
 have HN1:Hid (Num (w2.alloc (.cells #[.int .u64 rm] 22)) (some ⟨w2.heap.size,0,none⟩) (sizeL (oneW rm) 1) 1 (oneW rm)):=hN1.bare
 have HNk:Hid (Num (w2.alloc (.cells #[.int .u64 rm] 22)) (some ⟨w.heap.size,0,none⟩) k s z'):=hNk.next hB2
 have HBB:Hid (Below w.heap.size w (w2.alloc (.cells #[.int .u64 rm] 22))):=(HB.trans (hU2.below (Nat.le_refl _))).trans (hB2.mono (by rw [hU2.size];simp))
 have HV1:Hid (val (oneW rm) (sizeL (oneW rm) 1)=X%y 0):=by show _=_;rw [val_bare,val_oneA,HRV.out]
 have HSS:Hid (sizeL (oneW rm) (sizeL (oneW rm) 1)=sizeL (oneW rm) 1):=sizeL_sizeL _ _
 have HLE:Hid (sizeL (oneW rm) 1<=1):=sizeL_le _ _
 generalize sizeL (oneW rm) 1=k1 at *
 clear hN1 hB2 hNk hO2 hU2 HB
 go_wp2_with (go_at_call 103;refine hbr2.mono ?_;rintro e w4 ⟨rfl,rfl⟩;clear hbr2)
 go_ret3
 exact ⟨_,k,s,z',_,k1,1,oneW rm,rfl,by omega,by have:=HLE.out;omega,HNk.out,HN1.out,hvk,HV1.out,hsk,HSS.out,HBB.out⟩
theorem ndiv_long (a a':Option Addr)(n c n' c':Nat)(x y:Nat->Int)(w:World)(hn:n<4000000000)(hn':n'<4000000000)(h:Num w a n c x)(h':Num w a' n' c' y)(hs:sizeL x n<=2000)(hs':2<=sizeL y n')(hlt:sizeL y n'<=sizeL x n) :
  Calls Tryz.prog 163 #[.slice a n c,.slice a' n' c'] w (DivOut n n' (val x n) (val y n') w):=by
 have hb:=bare_any a n c x w (by omega) h
 have hb':=bare_any a' n' c' y w (by omega) h'
 have hle:=sizeL_le x n
 have hle':=sizeL_le y n'
 have hd:=divideLong_any a a' (sizeL x n) c (sizeL y n') c' x y w hs hs' hlt h.bare h'.bare (sizeL_sizeL y n')
 rw [val_bare,val_bare] at hd
 have hlti:¬ (sizeL x n:Int)<sizeL y n':=by omega
 have hltn:¬ sizeL x n<sizeL y n':=by omega
 have hsi:(sizeL x n:Int)<=2000:=by omega
 have hsi':(sizeL y n':Int)<=2000:=by omega
 have hne:((sizeL y n':Int)==0)=false:=by simp;omega
 have hne1:((sizeL y n':Int)==1)=false:=by simp;omega
 generalize sizeL x n=s at *
 generalize sizeL y n'=s' at *
 clear h h'
 generalize val x n=X at *
 generalize val y n'=Y at *
 go_enter Tryz.func163,Tryz.ntmps163
 go_wp2_with (first|(go_at_call_of 103 (Value.slice a n c);refine hb.mono ?_;rintro e w' ⟨rfl,rfl⟩;clear hb)|(go_at_call_of 103 (Value.slice a' n' c');refine hb'.mono ?_;rintro e w' ⟨rfl,rfl⟩;clear hb')|(go_at_call 174;refine hd.mono ?_;rintro e w2 ⟨gq,gr,q,z,rfl,hQ,hqw,hqv,hR,hzw,hzv,hB⟩))
 obtain ⟨k,z',hkN,hNk,hvk,hsk,hbr⟩:=bare_own hQ hqw (by omega) (Nat.le_refl _) (by unfold maxLen;omega) hqv
 obtain ⟨k2,z2,hkN2,hNk2,hvk2,hsk2,hbr2⟩:=bare_own hR hzw (by omega) (Nat.le_refl _) (by unfold maxLen;omega) hzv
 have HNk:Hid (Num w2 (some ⟨gq,0,none⟩) k (s-s'+1) z'):=hNk
 have HNk2:Hid (Num w2 (some ⟨gr,0,none⟩) k2 s' z2):=hNk2
 clear hQ hR hNk hNk2
 go_wp2_with (go_at_call 103;refine hbr.mono ?_;rintro e w3 ⟨rfl,rfl⟩;clear hbr)
 go_wp2_with (go_at_call 103;refine hbr2.mono ?_;rintro e w4 ⟨rfl,rfl⟩;clear hbr2)
 go_ret3
 exact ⟨_,k,_,z',_,k2,_,z2,rfl,by omega,by omega,HNk.out,HNk2.out,hvk,hvk2,hsk,hsk2,hB⟩
theorem ndiv_any (a a':Option Addr)(n c n' c':Nat)(x y:Nat->Int)(w:World)(hn:n<4000000000)(hn':n'<4000000000)(h:Num w a n c x)(h':Num w a' n' c' y)(hs:sizeL x n<=2000)(hs':sizeL y n'<=2000)(hy:0<sizeL y n') :
  Calls Tryz.prog 163 #[.slice a n c,.slice a' n' c'] w (DivOut n n' (val x n) (val y n') w):=by
 by_cases h1:sizeL x n<sizeL y n'
 ·exact ndiv_less a a' n c n' c' x y w hn hn' h h' hs hs' h1
 ·by_cases h2:sizeL y n'=1
  ·exact ndiv_one a a' n c n' c' x y w hn hn' h h' hs h2 (by omega)
  ·exact ndiv_long a a' n c n' c' x y w hn hn' h h' hs (by omega) (by omega)
section
attribute [local go_sem] setCell_drewN alloc_drewN
theorem owns_base {w:World}{base g k cap:Nat}{xs:List Value}(h:w.ownsRow base 22 1 (.slice (some ⟨g,0,none⟩) k cap) k xs):base<=g:=by
 obtain ⟨hl,h⟩:=h
 rcases h with ⟨h,_⟩|⟨g',cap',cur,he,hb,_⟩
 ·cases h
 ·cases he;exact hb
theorem ftrim_some (b off n c:Nat)(x:Nat->Int)(w:World)(hn:n<4294967296)(h:Num w (some ⟨b,off,none⟩) n c x) :
  Calls Tryz.prog 56 #[.slice (some ⟨b,off,none⟩) n c] w fun e w'=>∃ g cap,e=.returned (.slice (some ⟨g,0,none⟩) (sizeL x n) cap)/\Num w' (some ⟨g,0,none⟩) (sizeL x n) cap x/\Below w.heap.size w w'/\w.heap.size<=g:=by
 obtain ⟨h1,h2,h3,h4,h5⟩:=h
 have hc:b<w.heap.size/\∀ i,i<n->w.cell? ⟨b,off+i,none⟩=some (.int .u64 (x i)):=by
  rcases h5 with ⟨h,_⟩|⟨b',off',h,hbs,hc⟩
  ·cases h
  ·cases h;exact ⟨hbs,hc⟩
 obtain ⟨hbs,hc⟩:=hc
 clear h5
 obtain ⟨i0,hi,hz0,hz1,hz2⟩:=info_parts Tryz.info22
 unfold maxLen at h2
 go_enter Tryz.func56,Tryz.ntmps56
 go_wp2
 go_loop [3] (fun t=>∃ k:Nat,k<=n/\sizeL x k=sizeL x n/\(∀ i,k<=i->x i=0)/\t=.int .i64 k) (fun t=>(intOf t).toNat)
 case atStart=>exact ⟨n,Nat.le_refl _,rfl,h4,rfl⟩
 case round =>
  obtain ⟨k,hk,hs,hz,rfl⟩:=hrel
  clear h4
  by_cases h0:k=0
  ·subst h0
   have HS:Hid (sizeL x n=0):=hs.symm
   have HN:Hid (Num (w.alloc (.cells #[] 22)) (some ⟨w.heap.size,0,none⟩) 0 0 x):=⟨Nat.le_refl _,by unfold maxLen;omega,h3,hz,Or.inr ⟨w.heap.size,0,rfl,by simp,fun i hi=>by omega⟩⟩
   clear hs hz hc h3
   go_wp2
   go_ret
   refine ⟨w.heap.size,0,?_,?_,(Below.refl _ _).alloc (Nat.le_refl _) _,Nat.le_refl _⟩
   ·rw [HS.out];rfl
   ·rw [HS.out];exact HN.out
  ·obtain ⟨j,rfl⟩:∃ j,k=j+1:=⟨k-1,by omega⟩
   have hcj:=hc j (by omega)
   by_cases hzj:x j=0
   ·have HS:Hid (sizeL x j=sizeL x n):=by
     have:sizeL x (j+1)=sizeL x j:=by simp [sizeL,hzj]
     exact this.symm.trans hs
    have HZ:Hid (∀ i,j<=i->x i=0):=fun i hji=>by
     by_cases e:i=j
     ·rw [e];exact hzj
     ·exact hz i (by omega)
    clear hs hz hc
    go_wp2
    go_round
    case rel=>exact ⟨j,by omega,HS.out,HZ.out,by go_num⟩
    case measure=>simp [intOf]
   ·have HS:Hid (sizeL x n=j+1):=by
     have:sizeL x (j+1)=j+1:=by simp [sizeL,hzj]
     exact hs.symm.trans this
    have HZ:Hid (∀ i,j+1<=i->x i=0):=hz
    have HC:Hid (∀ i,i<n->w.cell? ⟨b,off+i,none⟩=some (.int .u64 (x i))):=hc
    clear hs hz hc
    have HOWN:(w.alloc (.cells #[] 22)).ownsRow w.heap.size 22 1 (.slice (some ⟨w.heap.size,0,none⟩) 0 0) 0 [] :=
     ⟨rfl,Or.inr ⟨w.heap.size,0,#[],rfl,Nat.le_refl _,(MapKept.heap_alloc w _).1,Nat.le_refl _,by unfold maxLen;omega,rfl,rfl⟩⟩
    have HNEWS:∀ (q:Nat) (u:Value),((List.range (j+1)).map fun i=>Value.int .u64 (x i))[q]?=some u->(w.alloc (.cells #[] 22)).cell? ((⟨b,off,none⟩:Addr).add q)=some u:=by
     intro q u hq
     have hql:q<j+1:=by
      rcases Nat.lt_or_ge q (j+1) with h|h
      ·exact h
      ·rw [List.getElem?_eq_none (by simpa using h)] at hq;cases hq
     have e2:u=.int .u64 (x q):=by simpa [hql] using hq.symm
     rw [e2]
     have ea:(⟨b,off,none⟩:Addr).add q=⟨b,off+q,none⟩:=by simp [Addr.add]
     rw [ea]
     exact (((Below.refl w.heap.size w).alloc (Nat.le_refl _) _).cell (p:=⟨b,off+q,none⟩) hbs).trans (HC.out q (by omega))
    have HONE:∀ u ∈ ((List.range (j+1)).map fun i=>Value.int .u64 (x i)),u.oneCell'=true:=by
     intro u hu
     obtain ⟨q,_,rfl⟩:=List.mem_map.1 hu
     rfl
    go_wp2_with (at_builtin;refine wpList_append_lies _ rfl (.tmp 18) (.tmp 21) 48 rfl w.heap.size 22 i0 (.int .u64 0) 1 8 Tryz.underlying48 hi hz0 hz1 hz2 rfl (by decide) (.slice (some ⟨w.heap.size,0,none⟩) 0 0) 0 [] rfl HOWN ⟨b,off,none⟩ (j+1) c ((List.range (j+1)).map fun i=>Value.int .u64 (x i)) rfl (by simp) HNEWS HONE (by omega) (by unfold maxLen;omega) (by omega) (by simp) (w.heap.size+1) (by simp) ?_;intro g cap w1 hown hgrow hat hlt;clear HOWN HNEWS HONE)
    have hown':w1.ownsRow w.heap.size 22 1 (.slice (some ⟨g,0,none⟩) (j+1) cap) (j+1) ((List.range (j+1)).map fun i=>Value.int .u64 (x i)):=by
     have e0:0+(j+1)=j+1:=by omega
     rw [e0] at hown
     simpa using hown
    have HN:=num_of_owns (w:=w) h3 HZ.out hown' hlt
    have HFG:w.heap.size<=g:=owns_base hown'
    have HB:Below w.heap.size w w1:=((Below.refl _ _).alloc (Nat.le_refl _) _).grown hgrow (by simp) (by intro k hk;cases hk;exact Nat.le_refl _)
    clear hown hown' hgrow
    go_wp2
    go_ret
    refine ⟨g,cap,?_,?_,HB,HFG⟩
    ·rw [HS.out];simp
    ·rw [HS.out];exact HN
theorem ftrim_nil (x:Nat->Int)(w:World)(hx:∀ i,x i=0) :
  Calls Tryz.prog 56 #[.slice none 0 0] w fun e w'=>∃ g cap,e=.returned (.slice (some ⟨g,0,none⟩) 0 cap)/\Num w' (some ⟨g,0,none⟩) 0 cap x/\Below w.heap.size w w'/\w.heap.size<=g:=by
 go_enter Tryz.func56,Tryz.ntmps56
 go_wp2
 go_loop [3] (fun t=>t=.int .i64 0) (fun t=>(intOf t).toNat)
 case atStart=>rfl
 case round =>
  subst hrel
  go_wp2
  go_ret
  refine ⟨w.heap.size,0,rfl,?_,(Below.refl _ _).alloc (Nat.le_refl _) _,Nat.le_refl _⟩
  exact ⟨Nat.le_refl _,by unfold maxLen;omega,fun i=>by rw [hx i];decide,fun i _=>hx i,Or.inr ⟨w.heap.size,0,rfl,by simp,fun i hi=>by omega⟩⟩
theorem ftrim_any (a:Option Addr)(n c:Nat)(x:Nat->Int)(w:World)(hn:n<4294967296)(h:Num w a n c x) :
  Calls Tryz.prog 56 #[.slice a n c] w fun e w'=>∃ g cap,e=.returned (.slice (some ⟨g,0,none⟩) (sizeL x n) cap)/\Num w' (some ⟨g,0,none⟩) (sizeL x n) cap x/\Below w.heap.size w w'/\w.heap.size<=g:=by
 have h':=h
 obtain ⟨h1,h2,h3,h4,h5⟩:=h'
 rcases h5 with ⟨rfl,rfl⟩|⟨b,off,rfl,_,_⟩
 ·obtain rfl:n=0:=by omega
  exact ftrim_nil x w (fun i=>h4 i (Nat.zero_le _))
 ·exact ftrim_some b off n c x w hn h
theorem frless_any (a a':Option Addr)(n c n' c':Nat)(x y:Nat->Int)(w:World)(hn:n<4294967290)(hn':n'<4294967290)(h:Num w a n c x)(h':Num w a' n' c' y) :
  Calls Tryz.prog 50 #[.slice a n c,.slice a' n' c'] w fun e w'=>∃ g k cap,e=.returned (.slice (some ⟨g,0,none⟩) k cap)/\k<=max n n'/\Num w' (some ⟨g,0,none⟩) k cap (difZ x y (max n n'))/\Below w.heap.size w w'/\w.heap.size<=g/\sizeL (difZ x y (max n n')) k=k:=by
 have hx:=h.2.2.1
 have hy:=h'.2.2.1
 have zx:=h.2.2.2.1
 have zy:=h'.2.2.2.1
 obtain ⟨M,hM⟩:∃ M,max n n'=M:=⟨_,rfl⟩
 have hMi:max (n:Int) n'=(M:Int):=by omega
 have hMb:M<4294967292:=by omega
 have hmk:=fun w=>make_any (max (n:Int) n') M hMi (by omega) w
 have hfin:∀ (ss:Array Value),ss.size=M->(∀ j h,ss[j]'h=Value.int .u64 (difW x y j))->Num (w.alloc (.cells ss 22)) (some ⟨w.heap.size,0,none⟩) M M (difZ x y (max n n')):=fun ss h1 h2=>num_of_block (by omega) (difZ_words x y _) (fun i hi=>by unfold difZ;rw [if_neg (by omega)]) h1 (fun j hj=>by rw [h2 j hj];unfold difZ;rw [if_pos (by omega)])
 have hw1:=fun (i:Nat) (ss:Array Value)=>word_any a n c i x (w.alloc (.cells ss 22)) (h.next (below1 w _))
 have hw2:=fun (i:Nat) (ss:Array Value)=>word_any a' n' c' i y (w.alloc (.cells ss 22)) (h'.next (below1 w _))
 have HM:Hid (max n n'=M):=hM
 have HZ:Hid ((arrOf (fun _=>0) M).size=M/\∀ j h,(arrOf (fun _=>0) M)[j]'h=Value.int .u64 0):=⟨arrOf_size _ _,fun j h=>arrOf_get _ _ _ _⟩
 clear h h' zx zy hM hMi
 generalize arrOf (fun _=>0) M=zz at *
 go_enter Tryz.func50,Tryz.ntmps50
 go_wp2
 go_loopw [6,7,16,19] (fun c u7 i u20 wr=>∃ (k:Nat) (ss:Array Value),k<=M/\i=.int .i64 k/\c=.int .u64 (borW x y k)/\ss.size=M/\(∀ j h,ss[j]'h=Value.int .u64 (if j<k then difW x y j else 0))/\wr=w.alloc (.cells ss 22)) (fun _ _ i _ _=>M-(intOf i).toNat)
 case atStart=>exact ⟨0,zz,Nat.zero_le _,rfl,rfl,HZ.out.1,fun j h=>by rw [HZ.out.2 j h];simp,rfl⟩
 case round =>
  obtain ⟨k,ss,hk,rfl,rfl,hsz,hss,rfl⟩:=hrel
  have hcar:=borW_01 x y k
  by_cases h8:k<M
  ·have h8i:(k:Int)<M:=by omega
   have h8s:k<ss.size:=by omega
   have bx:=hx k
   have b_y:=hy k
   have hsk:ss[k]?=some (.int .u64 0):=by rw [Array.getElem?_eq_getElem h8s,hss k h8s,if_neg (by omega)]
   have hadd:=fun w=>sub64 (x k) (y k) (borW x y k) bx.1 b_y.1 (by omega) hcar.1 hcar.2 w
   have hwa:=hw1 k ss
   have hwb:=hw2 k ss
   have HR:Hid (∀ (i:Nat) (h:i<(ss.setIfInBounds k (.int .u64 (difW x y k))).size),(ss.setIfInBounds k (.int .u64 (difW x y k)))[i]'h=Value.int .u64 (if i<k+1 then difW x y i else 0)):=set_next hss
   clear hss hw1 hw2 hfin hmk hx hy
   go_wp2_with (first|(go_at_call_of 55 (Value.slice a n c);refine hwa.mono ?_;rintro e w' ⟨rfl,rfl⟩)|(go_at_call_of 55 (Value.slice a' n' c');refine hwb.mono ?_;rintro e w' ⟨rfl,rfl⟩))
   go_roundw
   case rel=>exact ⟨k+1,ss.setIfInBounds k (.int .u64 (difW x y k)),by omega,by go_num,rfl,by simp [hsz],HR.out,rfl⟩
   case measure=>simp [intOf];omega
  ·obtain rfl:k=M:=by omega
   have hss':∀ j h,ss[j]'h=Value.int .u64 (difW x y j):=by
    intro j h;rw [hss j h,if_pos (by omega)]
   have hT:=ftrim_any _ _ _ _ _ (by omega) (hfin ss hsz hss')
   have hle:=sizeL_le (difZ x y (max n n')) k
   clear hss hss' hw1 hw2 hfin hmk hx hy
   go_wp2_with (go_at_call 56;refine hT.mono ?_;rintro e w1 ⟨g,cap,rfl,hN,hB,hfg⟩)
   go_ret
   exact ⟨g,_,cap,rfl,Nat.le_trans hle (Nat.le_of_eq HM.out.symm),hN,(below1 w _).trans (hB.mono (by simp)),by simp at hfg;omega,sizeL_sizeL _ _⟩
theorem frgt_p (b off n c q r:Nat)(s:Int)(x:Nat->Int)(w:World)(hn:n<4000000000)(hq0:q<100000)(hr0:r<64)(hrp:0<r)(hq:s/64=q)(hr:s%64=r)(hs:0<=s)(hqn:q<n)(h:Num w (some ⟨b,off,none⟩) n c x) :
  Calls Tryz.prog 49 #[.slice (some ⟨b,off,none⟩) n c,.int .i64 s] w fun e w'=>∃ g k cap,e=.returned (.tuple #[.slice (some ⟨g,0,none⟩) k cap,.bool (goneB x q r)])/\k<=n/\Num w' (some ⟨g,0,none⟩) k cap (shrW x q r)/\Below w.heap.size w w'/\w.heap.size<=g:=by
 have hx:=h.2.2.1
 have zx:=h.2.2.2.1
 have hc:b<w.heap.size/\∀ i,i<n->w.cell? ⟨b,off+i,none⟩=some (.int .u64 (x i)):=by
  rcases h.2.2.2.2 with ⟨h,_⟩|⟨b',off',h,hbs,hc⟩
  ·cases h
  ·cases h;exact ⟨hbs,hc⟩
 obtain ⟨hbs,hc⟩:=hc
 have hcap:=h.1
 have hs6:s<6400064:=by omega
 obtain ⟨i0,hi,hz0,hz1,hz2⟩:=info_parts Tryz.info22
 have HX:Hid (Num w (some ⟨b,off,none⟩) n c x):=h
 clear h
 go_enter Tryz.func49,Tryz.ntmps49
 go_wp2
 go_loop [6,7,13] (fun g u7 i=>∃ (k:Nat),k<=n/\i=.int .i64 k/\g=.bool (goneK x q r k)) (fun _ _ i=>n-(intOf i).toNat)
 case atStart=>exact ⟨0,Nat.zero_le _,rfl,by rw [goneK_zero]⟩
 case round =>
  obtain ⟨k,hk,rfl,rfl⟩:=hrel
  by_cases h8:k<n
  ·have h8i:(k:Int)<n:=by omega
   by_cases hkq:k<q
   ·have bx:=hx k
    have hcx:=hc k h8
    clear hc hx zx hi hz0 hz1 hz2
    have hkq':(k:Int)<q:=by omega
    by_cases hz:x k=0
    ·have hz':(x k != 0)=false:=by simp [hz]
     have hne:((k:Int)==q)=false:=by simp;omega
     have HG:Hid (goneK x q r (k+1)=goneK x q r k):=goneK_lt0 hkq hz
     generalize goneK x q r k=z at *
     go_wp2
     go_round
     case rel=>exact ⟨k+1,by omega,by go_num,by rw [HG.out]⟩
     case measure=>simp [intOf];omega
    ·have hz':(x k != 0)=true:=by simp [hz]
     have HG:Hid (goneK x q r (k+1)=true):=goneK_lt1 hkq hz
     generalize goneK x q r k=z at *
     go_wp2
     go_round
     case rel=>exact ⟨k+1,by omega,by go_num,by rw [HG.out]⟩
     case measure=>simp [intOf];omega
   ·have hkq':¬ (k:Int)<q:=by omega
    by_cases hke:k=q
    ·subst hke
     have bx:=hx k
     have hcx:=hc k h8
     have hand:=and_mask bx hr0
     have hpp:=p2_pos r
     have hpl:=p2_le hr0
     have HG:Hid (goneK x k r (k+1)=(goneK x k r k||decide (x k%2^r≠0))):=goneK_eq x k r
     clear hc hx zx hi hz0 hz1 hz2
     by_cases hm:x k%2^r=0
     ·rw [hm] at hand
      generalize goneK x k r k=z at *
      skip
      go_wp2
      go_round
      case rel=>exact ⟨k+1,by omega,by go_num,by rw [HG.out];simp [hm]⟩
      case measure=>simp [intOf];omega
     ·have hm':(x k%2^r != 0)=true:=by simp [hm]
      generalize goneK x k r k=z at *
      skip
      go_wp2
      go_round
      case rel=>exact ⟨k+1,by omega,by go_num,by rw [HG.out];simp [hm]⟩
      case measure=>simp [intOf];omega
    ·have hcx:=hc k h8
     have HG:Hid (goneK x q r (k+1)=goneK x q r k):=goneK_gt (by omega)
     generalize goneK x q r k=z at *
     clear hc hx zx hi hz0 hz1 hz2
     have hne:((k:Int)==q)=false:=by simp;omega
     go_wp2
     go_round
     case rel=>exact ⟨k+1,by omega,by go_num,by rw [HG.out]⟩
     case measure=>simp [intOf];omega
  ·obtain rfl:k=n:=by omega
   have HGB:Hid (goneK x q r k=goneB x q r):=goneK_end hqn
   generalize goneK x q r k=gz at *
   go_wp2
   go_loopw [8,9,10] (fun v i u10 wr=>∃ (j:Nat) (ao:Option Addr) (cp:Nat),j<=k-q/\i=.int .i64 ((q:Int)+j)/\v=.slice ao j cp/\wr.ownsRow w.heap.size 22 1 (.slice ao j cp) j (wl (shrW x q r) j)/\Below w.heap.size w wr) (fun _ i _ _=>k+1-(intOf i).toNat)
   case atStart=>exact ⟨0,none,0,Nat.zero_le _,by go_num,rfl,World.ownsRow_nil _ _ _ _,Below.refl _ _⟩
   case round =>
    obtain ⟨j,ao,cp,hj,rfl,rfl,hown,hB⟩:=hrel
    by_cases hlt:q+j<k
    ·have hlt':(q:Int)+j<k:=by omega
     have bx:=hx (q+j)
     have b_y:=hx (q+j+1)
     have e1:((q:Int)+j).toNat=q+j:=by omega
     have hcx:wr.cell? ⟨b,off+(q+j),none⟩=some (.int .u64 (x (q+j))):=(hB.cell (p:=⟨b,off+(q+j),none⟩) hbs).trans (hc (q+j) hlt)
     have HW:Hid (CQ 55 #[.slice (some ⟨b,off,none⟩) k c,.int .i64 ((q:Int)+j+1)] wr (.int .u64 (x (q+j+1)))):=by
      have:=word_any (some ⟨b,off,none⟩) k c (q+j+1) x wr (HX.out.next hB)
      rw [show ((q+j+1:Nat):Int)=(q:Int)+j+1 by omega] at this
      exact this.mono fun _ _ h=>⟨h.1,h.2.symm⟩
     have hbw:=hB.size
     have HO:Hid (wr.ownsRow w.heap.size 22 1 (.slice ao j cp) j (wl (shrW x q r) j)):=hown
     have HVAL:Hid (shrW x q r j=bits BinOp.or IntKind.u64 (x (q+j)/2^r) (IntKind.u64.wrap (x (q+j+1)*2^(64-r)))):=by show _=_;unfold shrW;rw [if_neg (by omega)];rfl
     have HOWN:(wr.alloc (.cells #[.int .u64 (bits BinOp.or IntKind.u64 (x (q+j)/2^r) (IntKind.u64.wrap (x (q+j+1)*2^(64-r))))] 22)).ownsRow w.heap.size 22 1 (.slice ao j cp) j (wl (shrW x q r) j):=hown.alloc _
     have HNEWS:∀ (p:Nat) (u:Value),[Value.int .u64 (bits BinOp.or IntKind.u64 (x (q+j)/2^r) (IntKind.u64.wrap (x (q+j+1)*2^(64-r))))][p]?=some u->(wr.alloc (.cells #[.int .u64 (bits BinOp.or IntKind.u64 (x (q+j)/2^r) (IntKind.u64.wrap (x (q+j+1)*2^(64-r))))] 22)).cell? ((⟨wr.heap.size,0,none⟩:Addr).add p)=some u:=by
      intro p u hp
      match p,hp with
      | 0,hp=>simp at hp;subst hp;simp [Addr.add]
     have HONE:∀ u ∈ [Value.int .u64 (bits BinOp.or IntKind.u64 (x (q+j)/2^r) (IntKind.u64.wrap (x (q+j+1)*2^(64-r))))],u.oneCell'=true:=by
      intro u hu;simp at hu;subst hu;rfl
     clear hc hx zx hown
     go_wp2_with (first|(at_builtin;refine wpList_append_lies _ rfl (.tmp 77) (.tmp 79) 48 rfl w.heap.size 22 i0 (.int .u64 0) 1 8 Tryz.underlying48 hi hz0 hz1 hz2 rfl (by decide) (.slice ao j cp) j (wl (shrW x q r) j) rfl HOWN ⟨wr.heap.size,0,none⟩ 1 1 [Value.int .u64 (bits BinOp.or IntKind.u64 (x (q+j)/2^r) (IntKind.u64.wrap (x (q+j+1)*2^(64-r))))] rfl rfl HNEWS HONE (by omega) (by unfold maxLen;omega) (by omega) (by simp;omega) (wr.heap.size+1) (by simp) ?_;intro g cap w1 hown1 hgrow hat hlt1;clear HOWN HNEWS HONE)|(go_at_call 55;refine HW.out.mono ?_;rintro e w' ⟨rfl,rfl⟩))
     have hown2:w1.ownsRow w.heap.size 22 1 (.slice (some ⟨g,0,none⟩) (j+1) cap) (j+1) (wl (shrW x q r) (j+1)):=by
      rw [← HVAL.out,wl_succ] at hown1;exact hown1
     have HB2:Below w.heap.size w w1:=(hB.alloc hbw _).grown hgrow (by simp;omega) (by
      intro p hp
      rcases ao with _|⟨bb,oo,sp⟩
      ·cases hp
      ·cases hp
       obtain ⟨_,h1⟩:=HO.out
       rcases h1 with ⟨h1,_⟩|⟨g',_,_,h1,h2,_⟩
       ·cases h1
       ·cases h1;exact h2)
     clear hown1 hgrow
     go_wp2
     go_roundw
     case rel=>exact ⟨j+1,some ⟨g,0,none⟩,cap,by omega,by go_num,rfl,hown2,HB2⟩
     case measure=>simp [intOf];omega
    ·have HZ:∀ i,j<=i->shrW x q r i=0:=fun i hi=>shrW_zero zx q r i (by omega)
     have hT:=ftrim_any ao j cp _ wr (by omega) (num_of_owns' (shrW_words hx q r) HZ hown)
     have hle:=sizeL_le (shrW x q r) j
     have hlt':¬ (q:Int)+j<k:=by omega
     clear hc hx zx hown HZ
     go_wp2_with (go_at_call 56;refine hT.mono ?_;rintro e w1 ⟨g,cap,rfl,hN,hB1,hfg⟩)
     go_ret2
     exact ⟨g,_,cap,by rw [HGB.out];rfl,by omega,hN,hB.trans (hB1.mono hB.size),Nat.le_trans hB.size hfg⟩
theorem fleft_z (b off n c q:Nat)(s:Int)(x:Nat->Int)(w:World)(hn:n<4000000000)(hq0:q<100000)(hq:s/64=q)(hr:s%64=0)(hs:0<=s)(h:Num w (some ⟨b,off,none⟩) n c x) :
  Calls Tryz.prog 22 #[.slice (some ⟨b,off,none⟩) n c,.int .i64 s] w fun e w'=>∃ g k cap,e=.returned (.slice (some ⟨g,0,none⟩) k cap)/\k<=n+q+1/\Num w' (some ⟨g,0,none⟩) k cap (finL x q 0)/\Below w.heap.size w w'/\w.heap.size<=g/\sizeL (finL x q 0) k=k:=by
 have hx:=h.2.2.1
 have zx:=h.2.2.2.1
 have hc:b<w.heap.size/\∀ i,i<n->w.cell? ⟨b,off+i,none⟩=some (.int .u64 (x i)):=by
  rcases h.2.2.2.2 with ⟨h,_⟩|⟨b',off',h,hbs,hc⟩
  ·cases h
  ·cases h;exact ⟨hbs,hc⟩
 obtain ⟨hbs,hc⟩:=hc
 have hcap:=h.1
 have hs6:s<6400064:=by omega
 obtain ⟨M,hM⟩:∃ M,n+q+1=M:=⟨_,rfl⟩
 have hMi:(n:Int)+q+1=(M:Int):=by omega
 have hmk:=fun w=>make_any ((n:Int)+q+1) M hMi (by omega) w
 have hfin:∀ (ss:Array Value) (m:Nat),ss.size=M->(∀ j h,ss[j]'h=Value.int .u64 (stL x q 0 n j))->Num ((w.alloc (.cells ss 22)).drewN m) (some ⟨w.heap.size,0,none⟩) M M (finL x q 0):=fun ss m h1 h2=>(num_of_block (by omega) (finL_words hx q 0) (fun i hi=>finL_zero hx zx q 0 (by omega) i (by omega)) h1 (fun j hj=>by rw [h2 j hj,stL_end hx zx q 0 j (by omega)])).drewN m
 have HM:Hid (n+q+1=M):=hM
 have HZ:Hid ((arrOf (fun _=>0) M).size=M/\∀ j h,(arrOf (fun _=>0) M)[j]'h=Value.int .u64 0):=⟨arrOf_size _ _,fun j h=>arrOf_get _ _ _ _⟩
 have hcw:∀ (ss:Array Value) i,i<n->(w.alloc (.cells ss 22)).cell? ⟨b,off+i,none⟩=some (.int .u64 (x i)):=fun ss i hi=>((below1 w _).cell (p:=⟨b,off+i,none⟩) hbs).trans (hc i hi)
 clear h zx hMi hc
 generalize arrOf (fun _=>0) M=zz at *
 go_enter Tryz.func22,Tryz.ntmps22
 go_wp2
 go_loopw [6,16] (fun u6 i wr=>∃ (k m:Nat) (ss:Array Value),k<=n/\i=.int .i64 k/\ss.size=M/\(∀ j h,ss[j]'h=Value.int .u64 (stL x q 0 k j))/\wr=(w.alloc (.cells ss 22)).drewN m) (fun _ i _=>n-(intOf i).toNat)
 case atStart=>exact ⟨0,0,zz,Nat.zero_le _,rfl,HZ.out.1,fun j h=>by rw [HZ.out.2 j h];unfold stL;(by_cases e:j<q+0);(rw [if_pos e];unfold finL;rw [if_neg (by omega)]);(rw [if_neg e];split;(unfold lowp;rw [if_neg (by omega)]);rfl),rfl⟩
 case round =>
  obtain ⟨k,m,ss,hk,rfl,hsz,hss,rfl⟩:=hrel
  by_cases h8:k<n
  ·have h8i:(k:Int)<n:=by omega
   have h8s:k+q<ss.size:=by omega
   have h8t:(k:Int)+q<M:=by omega
   have h8u:(k:Int)+q+1<M:=by omega
   have bx:=hx k
   have hcx:=hcw ss k h8
   have hsk:ss[k+q]?=some (.int .u64 (lowp x q 0 (q+k))):=by rw [Array.getElem?_eq_getElem h8s,hss _ h8s];unfold stL;rw [if_neg (by omega),if_pos (by omega),Nat.add_comm]
   have hgo:∀ h,ss[k+q]'h=.int .u64 (lowp x q 0 (q+k)):=fun h=>by rw [hss _ h];unfold stL;rw [if_neg (by omega),if_pos (by omega),Nat.add_comm]
   have hlow:=lowp_word hx q 0 (q+k)
   have e1:((k:Int)+q).toNat=k+q:=by omega
   have e2:((k:Int)+q+1).toNat=k+q+1:=by omega
   have HF:Hid (finL x q 0 (q+k)=bits BinOp.or IntKind.u64 (lowp x q 0 (q+k)) (x k)):=by
    show _=_;unfold finL;rw [if_pos (by omega),show q+k-q=k by omega];simp [orW,wrap_id _ bx]
   have HR:Hid (∀ (i:Nat) (h:i<(ss.setIfInBounds (k+q) (.int .u64 (finL x q 0 (q+k)))).size),(ss.setIfInBounds (k+q) (.int .u64 (finL x q 0 (q+k))))[i]'h=Value.int .u64 (stL x q 0 (k+1) i)):=stL_step0 hss
   clear hss hfin hmk hx
   generalize hlo:lowp x q 0 (q+k)=lo at *
   clear hcw
   go_wp2
   go_region
   go_wp2
   go_roundw
   case rel=>refine ⟨k+1,m+1,ss.setIfInBounds (k+q) (.int .u64 (finL x q 0 (q+k))),by omega,by go_num,by simp [hsz],HR.out,?_⟩;rw [HF.out]
   case measure=>simp [intOf];omega
  ·obtain rfl:k=n:=by omega
   have hT:=ftrim_any _ _ _ _ _ (by omega) (hfin ss m hsz hss)
   have hle:=sizeL_le (finL x q 0) M
   clear hss hfin hmk hx hcw
   go_wp2_with (go_at_call 56;refine hT.mono ?_;rintro e w1 ⟨g,cap,rfl,hN,hB,hfg⟩)
   go_ret
   exact ⟨g,_,cap,rfl,Nat.le_trans hle (Nat.le_of_eq HM.out.symm),hN,(below_drewN (below1 w _) m).trans (hB.mono (by simp)),by simp at hfg;omega,sizeL_sizeL _ _⟩
theorem fleft_p (b off n c q r:Nat)(s:Int)(x:Nat->Int)(w:World)(hn:n<4000000000)(hq0:q<100000)(hr0:r<64)(hrp:0<r)(hq:s/64=q)(hr:s%64=r)(hs:0<=s)(h:Num w (some ⟨b,off,none⟩) n c x) :
  Calls Tryz.prog 22 #[.slice (some ⟨b,off,none⟩) n c,.int .i64 s] w fun e w'=>∃ g k cap,e=.returned (.slice (some ⟨g,0,none⟩) k cap)/\k<=n+q+1/\Num w' (some ⟨g,0,none⟩) k cap (finL x q r)/\Below w.heap.size w w'/\w.heap.size<=g/\sizeL (finL x q r) k=k:=by
 have hx:=h.2.2.1
 have zx:=h.2.2.2.1
 have hc:b<w.heap.size/\∀ i,i<n->w.cell? ⟨b,off+i,none⟩=some (.int .u64 (x i)):=by
  rcases h.2.2.2.2 with ⟨h,_⟩|⟨b',off',h,hbs,hc⟩
  ·cases h
  ·cases h;exact ⟨hbs,hc⟩
 obtain ⟨hbs,hc⟩:=hc
 have hcap:=h.1
 have hs6:s<6400064:=by omega
 obtain ⟨M,hM⟩:∃ M,n+q+1=M:=⟨_,rfl⟩
 have hMi:(n:Int)+q+1=(M:Int):=by omega
 have hmk:=fun w=>make_any ((n:Int)+q+1) M hMi (by omega) w
 have hfin:∀ (ss:Array Value) (m:Nat),ss.size=M->(∀ j h,ss[j]'h=Value.int .u64 (stL x q r n j))->Num ((w.alloc (.cells ss 22)).drewN m) (some ⟨w.heap.size,0,none⟩) M M (finL x q r):=fun ss m h1 h2=>(num_of_block (by omega) (finL_words hx q r) (fun i hi=>finL_zero hx zx q r (by omega) i (by omega)) h1 (fun j hj=>by rw [h2 j hj,stL_end hx zx q r j (by omega)])).drewN m
 have HM:Hid (n+q+1=M):=hM
 have HZ:Hid ((arrOf (fun _=>0) M).size=M/\∀ j h,(arrOf (fun _=>0) M)[j]'h=Value.int .u64 0):=⟨arrOf_size _ _,fun j h=>arrOf_get _ _ _ _⟩
 have hcw:∀ (ss:Array Value) i,i<n->(w.alloc (.cells ss 22)).cell? ⟨b,off+i,none⟩=some (.int .u64 (x i)):=fun ss i hi=>((below1 w _).cell (p:=⟨b,off+i,none⟩) hbs).trans (hc i hi)
 clear h zx hMi hc
 generalize arrOf (fun _=>0) M=zz at *
 go_enter Tryz.func22,Tryz.ntmps22
 go_wp2
 go_loopw [6,16] (fun u6 i wr=>∃ (k m:Nat) (ss:Array Value),k<=n/\i=.int .i64 k/\ss.size=M/\(∀ j h,ss[j]'h=Value.int .u64 (stL x q r k j))/\wr=(w.alloc (.cells ss 22)).drewN m) (fun _ i _=>n-(intOf i).toNat)
 case atStart=>exact ⟨0,0,zz,Nat.zero_le _,rfl,HZ.out.1,fun j h=>by rw [HZ.out.2 j h];unfold stL;(by_cases e:j<q+0);(rw [if_pos e];unfold finL;rw [if_neg (by omega)]);(rw [if_neg e];split;(unfold lowp;rw [if_neg (by omega)]);rfl),rfl⟩
 case round =>
  obtain ⟨k,m,ss,hk,rfl,hsz,hss,rfl⟩:=hrel
  by_cases h8:k<n
  ·have h8i:(k:Int)<n:=by omega
   have h8s:k+q<ss.size:=by omega
   have h8t:(k:Int)+q<M:=by omega
   have h8u:(k:Int)+q+1<M:=by omega
   have bx:=hx k
   have hcx:=hcw ss k h8
   have hsk:ss[k+q]?=some (.int .u64 (lowp x q r (q+k))):=by rw [Array.getElem?_eq_getElem h8s,hss _ h8s];unfold stL;rw [if_neg (by omega),if_pos (by omega),Nat.add_comm]
   have hgo:∀ h,ss[k+q]'h=.int .u64 (lowp x q r (q+k)):=fun h=>by rw [hss _ h];unfold stL;rw [if_neg (by omega),if_pos (by omega),Nat.add_comm]
   have h8v:k+q+1<ss.size:=by omega
   have hsl:ss[k+q+1]?=some (.int .u64 0):=by rw [Array.getElem?_eq_getElem h8v,hss _ h8v];unfold stL;rw [if_neg (by omega),if_neg (by omega)]
   have hlow:=lowp_word hx q r (q+k)
   have e1:((k:Int)+q).toNat=k+q:=by omega
   have e2:((k:Int)+q+1).toNat=k+q+1:=by omega
   have HF:Hid (finL x q r (q+k)=bits BinOp.or IntKind.u64 (lowp x q r (q+k)) (IntKind.u64.wrap (x k*2^r))):=by
    show _=_;unfold finL;rw [if_pos (by omega),show q+k-q=k by omega];rfl
   have HR:Hid (∀ (i:Nat) (h:i<((ss.setIfInBounds (k+q) (.int .u64 (finL x q r (q+k)))).setIfInBounds (k+q+1) (.int .u64 (x k/2^(64-r)))).size),((ss.setIfInBounds (k+q) (.int .u64 (finL x q r (q+k)))).setIfInBounds (k+q+1) (.int .u64 (x k/2^(64-r))))[i]'h=Value.int .u64 (stL x q r (k+1) i)):=stL_step1 hrp hss
   clear hss hfin hmk hx
   generalize hlo:lowp x q r (q+k)=lo at *
   have hcx':=hcw (ss.setIfInBounds (k+q) (.int .u64 (bits BinOp.or IntKind.u64 lo (IntKind.u64.wrap (x k*2^r))))) k h8
   clear hcw
   go_wp2
   go_region
   go_wp2
   go_roundw
   case rel=>refine ⟨k+1,m+1,(ss.setIfInBounds (k+q) (.int .u64 (finL x q r (q+k)))).setIfInBounds (k+q+1) (.int .u64 (x k/2^(64-r))),by omega,by go_num,by simp [hsz],HR.out,?_⟩;rw [HF.out]
   case measure=>simp [intOf];omega
  ·obtain rfl:k=n:=by omega
   have hT:=ftrim_any _ _ _ _ _ (by omega) (hfin ss m hsz hss)
   have hle:=sizeL_le (finL x q r) M
   clear hss hfin hmk hx hcw
   go_wp2_with (go_at_call 56;refine hT.mono ?_;rintro e w1 ⟨g,cap,rfl,hN,hB,hfg⟩)
   go_ret
   exact ⟨g,_,cap,rfl,Nat.le_trans hle (Nat.le_of_eq HM.out.symm),hN,(below_drewN (below1 w _) m).trans (hB.mono (by simp)),by simp at hfg;omega,sizeL_sizeL _ _⟩
end
theorem p64' (q r:Nat):(18446744073709551616:Int)^q*2^r=2^(64*q+r):=by rw [Int.mul_comm];exact p64 q r
theorem len_bd {x:Nat->Int}(hx:Words x){n:Nat}(h:0<sizeL x n):∃ L:Nat,lenL x n=(L:Int)+1/\2^L<=val x n/\val x n<2^(L+1):=by
 obtain ⟨j,hj⟩:∃ j,sizeL x n=j+1:=⟨sizeL x n-1,by omega⟩
 have ht:=sizeL_top (x:=x) n h
 rw [hj] at ht
 have hxj:=hx j
 have hne:x j≠0:=ht
 obtain ⟨u,hu⟩:=Int.eq_ofNat_of_zero_le hxj.1
 have hb:=bitLen_spec u (by omega) (by omega)
 have hv:val x n=val x j+x j*18446744073709551616^j:=by rw [← val_bare n,hj];rfl
 have hbd:=val_bd hx j
 have hP:=pw_pos j
 refine ⟨64*j+(Lib.bitLen u-1),?_,?_,?_⟩
 ·unfold lenL;rw [if_neg (by omega),hj]
  show 64*((j+1:Nat):Int)-64+(Lib.bitLen (x j).toNat:Nat)=_
  rw [hu,Int.toNat_natCast];omega
 ·rw [hv,← p64',hu]
  have h1:(2:Int)^(Lib.bitLen u-1)<=u:=by rw [← powCast];omega
  have h2:18446744073709551616^j*2^(Lib.bitLen u-1)<=18446744073709551616^j*(u:Int):=Int.mul_le_mul_of_nonneg_left h1 (Int.le_of_lt hP)
  rw [Int.mul_comm _ (u:Int)] at h2
  omega
 ·rw [hv,show 64*j+(Lib.bitLen u-1)+1=64*j+Lib.bitLen u by omega,← p64',hu]
  have h1:(u:Int)+1<=2^Lib.bitLen u:=by rw [← powCast];omega
  have h2:18446744073709551616^j*((u:Int)+1)<=18446744073709551616^j*2^Lib.bitLen u:=Int.mul_le_mul_of_nonneg_left h1 (Int.le_of_lt hP)
  rw [Int.mul_add,Int.mul_one,Int.mul_comm _ (u:Int)] at h2
  omega
theorem word_mod {q:Nat->Int}(hq:Words q){N m r:Nat}(hm:m<N)(hr:r<=64)(h:val q N%2^(64*m+r)=0):q m%2^r=0:=by
 obtain ⟨k,rfl⟩:∃ k,N=m+(k+1):=⟨N-m-1,by omega⟩
 have hs:=val_split q m (k+1)
 have h1:val (segW q m (k+1)) (k+1)=q m+val (segW q (m+1) k) k*18446744073709551616:=by
  have:=val_split (segW q m (k+1)) 1 k
  rw [Nat.add_comm 1 k] at this
  rw [this]
  have e1:val (segW q m (k+1)) 1=q m:=by simp [val,segW]
  have e2:val (segW (segW q m (k+1)) 1 k) k=val (segW q (m+1) k) k:=val_congr k fun i hi=>by
   rw [segW_lt _ _ _ i hi,segW_lt _ _ _ i hi,segW_lt _ _ _ (1+i) (by omega)];congr 1;omega
  rw [e1,e2];simp
 have hb:=val_bd hq m
 rw [← p64'] at h
 have hd:(18446744073709551616:Int)^m*2^r∣val q (m+(k+1)):=Int.dvd_of_emod_eq_zero h
 obtain ⟨c,hc⟩:=hd
 rw [hs] at hc
 have hm0:val q m=0:=by
  have e:val q m=(2^r*c-val (segW q m (k+1)) (k+1))*18446744073709551616^m:=by grind
  rcases Int.lt_trichotomy (2^r*c-val (segW q m (k+1)) (k+1)) 0 with hl|he|hg
  ·have:(2^r*c-val (segW q m (k+1)) (k+1))*18446744073709551616^m<=(-1)*18446744073709551616^m:=Int.mul_le_mul_of_nonneg_right (by omega) (Int.le_of_lt (pw_pos m))
   have:=pw_pos m
   omega
  ·rw [he,Int.zero_mul] at e;exact e
  ·have:1*18446744073709551616^m<=(2^r*c-val (segW q m (k+1)) (k+1))*18446744073709551616^m:=Int.mul_le_mul_of_nonneg_right (by omega) (Int.le_of_lt (pw_pos m))
   omega
 have h2:val (segW q m (k+1)) (k+1)=2^r*c:=by
  have hp:=pw_pos m
  have e:(val (segW q m (k+1)) (k+1)-2^r*c)*18446744073709551616^m=0:=by grind
  rcases Int.mul_eq_zero.1 e with h3|h3
  ·omega
  ·omega
 rw [h1] at h2
 have e3:=p2_split hr
 have:q m=2^r*(c-val (segW q (m+1) k) k*2^(64-r)):=by
  rw [← e3] at h2;grind
 rw [this];exact Int.mul_emod_right _ _
theorem or_bit {u:Int}{r:Nat}(hu:0<=u/\u<=18446744073709551615)(hr:r<64)(h:u%2^(r+1)=0):orW u (2^r)=u+2^r/\u+2^r<=18446744073709551615:=by
 have hp:=p2_pos r
 have hl:=p2_le hr
 obtain ⟨n,rfl⟩:=Int.eq_ofNat_of_zero_le hu.1
 rw [← powCast,← Int.natCast_emod] at h
 have hn:n%2^(r+1)=0:=by omega
 obtain ⟨k,rfl⟩:=Nat.dvd_of_mod_eq_zero hn
 have hlt:2^r<2^(r+1):=Nat.pow_lt_pow_right (by omega) (by omega)
 have e:=Nat.two_pow_add_eq_or_of_lt hlt k
 have h64:2^(r+1)*k ||| 2^r<2^64:=Nat.or_lt_two_pow (by omega) (Nat.pow_lt_pow_right (by omega) hr)
 have hw:(2:Int)^r<=18446744073709551615:=by omega
 rw [orW_eq _ _ hu ⟨by omega,hw⟩,Int.toNat_natCast,← powCast,Int.toNat_natCast,← e]
 rw [← e] at h64
 constructor
 ·rw [Int.natCast_add]
 ·have:((2^(r+1)*k:Nat):Int)+((2^r:Nat):Int)=((2^(r+1)*k+2^r:Nat):Int):=by rw [Int.natCast_add]
  rw [this];omega
theorem mod_half {Q T:Int}(h:Q%(T*2)=0):Q%T=0:=by
 obtain ⟨c,hc⟩:=Int.dvd_of_emod_eq_zero h
 rw [hc,Int.mul_assoc];exact Int.mul_emod_right _ _
theorem half_any (g k c:Nat)(z:Nat->Int)(w:World)(hk:0<k)(hk2:k<1000000)(h:Num w (some ⟨g,0,none⟩) k c z) :
  Calls Tryz.prog 49 #[.slice (some ⟨g,0,none⟩) k c,.int .i64 1] w fun e w'=>∃ g' k' cap b z',e=.returned (.tuple #[.slice (some ⟨g',0,none⟩) k' cap,.bool b])/\k'<=k/\Num w' (some ⟨g',0,none⟩) k' cap z'/\(∀ V,val z k=V*2->val z' k'=V)/\Below w.heap.size w w'/\w.heap.size<=g':=by
 refine (frgt_p g 0 k c 0 1 1 z w (by omega) (by omega) (by omega) (by omega) (by decide) (by decide) (by decide) hk h).mono fun e w' ⟨g',k',cap,e1,hk',hN,hB,hf⟩=>⟨g',k',cap,_,_,e1,hk',hN,fun V hV=>?_,hB,hf⟩
 have hd:=dn_val h.2.2.1 (r:=1) (by omega) k
 rw [h.2.2.2.1 k (Nat.le_refl _),hV,← val_more hN.2.2.2.1 k hk'] at *
 have e2:(2:Int)^1=2:=rfl
 rw [e2] at hd
 have:=Int.emod_nonneg (z 0) (show (2:Int)≠0 by decide)
 have:=Int.emod_lt_of_pos (z 0) (show (0:Int)<2 by decide)
 simp at hd
 omega
theorem fleft_val (b off n c:Nat)(d:Int)(x:Nat->Int)(w:World)(hn:n<1000000)(hd:0<=d)(hd2:d<=6300000)(h:Num w (some ⟨b,off,none⟩) n c x) :
  Calls Tryz.prog 22 #[.slice (some ⟨b,off,none⟩) n c,.int .i64 d] w fun e w'=>∃ g k cap z,e=.returned (.slice (some ⟨g,0,none⟩) k cap)/\k<=n+d.toNat/64+1/\Num w' (some ⟨g,0,none⟩) k cap z/\val z k=val x n*2^d.toNat/\Below w.heap.size w w'/\w.heap.size<=g/\sizeL z k=k:=by
 obtain ⟨q,hq⟩:∃ q:Nat,d/64=q:=⟨(d/64).toNat,by omega⟩
 obtain ⟨r,hr⟩:∃ r:Nat,d%64=r:=⟨(d%64).toNat,by omega⟩
 have hdn:d.toNat=64*q+r:=by omega
 have hr64:r<64:=by omega
 have hq2:q<99000:=by omega
 have hx:=h.2.2.1
 have hv:=finL_val hx h.2.2.2.1 q hr64
 rw [hdn]
 by_cases hr0:0<r
 ·exact (fleft_p b off n c q r d x w (by omega) (by omega) hr64 hr0 hq hr hd h).mono fun e w' ⟨g,k,cap,e1,hk,hN,hB,hf,htr⟩=>⟨g,k,cap,_,e1,by omega,hN,by rw [← hv,val_more hN.2.2.2.1 _ hk],hB,hf,htr⟩
 ·obtain rfl:r=0:=by omega
  exact (fleft_z b off n c q d x w (by omega) (by omega) hq hr hd h).mono fun e w' ⟨g,k,cap,e1,hk,hN,hB,hf,htr⟩=>⟨g,k,cap,_,e1,by omega,hN,by rw [← hv,val_more hN.2.2.2.1 _ hk],hB,hf,htr⟩
theorem frless_val (a a':Option Addr)(n c n' c':Nat)(x y:Nat->Int)(w:World)(hn:n<4000000000)(hn':n'<4000000000)(h:Num w a n c x)(h':Num w a' n' c' y)(hv:val y n'<=val x n) :
  Calls Tryz.prog 50 #[.slice a n c,.slice a' n' c'] w fun e w'=>∃ g k cap z,e=.returned (.slice (some ⟨g,0,none⟩) k cap)/\k<=max n n'/\Num w' (some ⟨g,0,none⟩) k cap z/\val z k=val x n-val y n'/\Below w.heap.size w w'/\w.heap.size<=g/\sizeL z k=k:=by
 refine (frless_any a a' n c n' c' x y w (by omega) (by omega) h h').mono fun e w' ⟨g,k,cap,e1,hk,hN,hB,hf,htr⟩=>⟨g,k,cap,_,e1,hk,hN,?_,hB,hf,htr⟩
 have ex:=val_more h.2.2.2.1 (max n n') (by omega)
 have ey:=val_more h'.2.2.2.1 (max n n') (by omega)
 have e:=dif_val h.2.2.1 h'.2.2.1 (max n n')
 rw [borW_end h.2.2.1 h'.2.2.1 (by omega),ex,ey] at e
 rw [← val_more hN.2.2.2.1 _ hk,val_congr (y:=difW x y) (max n n') fun i hi=>by unfold difZ;rw [if_pos hi]]
 omega
theorem pos_len {z:Nat->Int}{k:Nat}(h:0<val z k):0<k:=by
 rcases Nat.eq_zero_or_pos k with e|e
 ·subst e;simp [val] at h
 ·exact e
theorem shrW_val {y:Nat->Int}{n q r A:Nat}(hy:Words y)(hz:∀ i,n<=i->y i=0)(hr:r<64)(m:Nat)(hm:n<=m)(hA:val y n=A):val (shrW y q r) m=((A/2^(64*q+r):Nat):Int):=by
 have hw:Words (fun i=>y (q+i)):=fun i=>hy (q+i)
 have e1:shrW y q r=shrW (fun i=>y (q+i)) 0 r:=by
  funext j;unfold shrW;simp only [Nat.zero_add,Nat.add_assoc]
 have h1:=dn_val hw hr m
 have h2:y (q+m)=0:=hz _ (by omega)
 simp only [h2,Int.zero_emod,Int.zero_mul,Int.add_zero,Nat.add_zero] at h1
 have h3:=val_split y q m
 have h4:val (segW y q m) m=val (fun i=>y (q+i)) m:=val_congr m fun i hi=>segW_lt y q m i hi
 rw [h4,val_more hz (q+m) (by omega),hA] at h3
 rw [e1]
 have hb1:=val_bd hy q
 have hb2:=val_bd (shrW_words hw (q:=0) (r:=r)) m
 have hp:(0:Int)<2^r:=p2_pos r
 have hm1:=Int.emod_nonneg (y q) (Int.ne_of_gt hp)
 have hm2:=Int.emod_lt_of_pos (y q) hp
 generalize val (shrW (fun i=>y (q+i)) 0 r) m=S at *
 generalize val (fun i=>y (q+i)) m=Z at *
 have eZ:Z/2^r=S:=by
  rw [← h1,Int.add_comm,Int.add_mul_ediv_right _ _ (Int.ne_of_gt hp),Int.ediv_eq_zero_of_lt hm1 hm2,Int.zero_add]
 have eA:(A:Int)/18446744073709551616^q=Z:=by
  rw [h3,Int.add_mul_ediv_right _ _ (Int.ne_of_gt (pw_pos q)),Int.ediv_eq_zero_of_lt hb1.1 hb1.2,Int.zero_add]
 rw [← eZ,← eA,Int.natCast_ediv,Int.ediv_ediv_of_nonneg (Int.le_of_lt (pw_pos q)),p64']
 simp
theorem bnx {w0 W W':World}(h:Below w0.heap.size w0 W)(hb:Below W.heap.size W W'):Below w0.heap.size w0 W':=h.trans (hb.mono h.size)
def bl (V:Nat):Nat:=if V=0 then 0 else Nat.log2 V+1
theorem bl_le {V k:Nat}:bl V<=k↔V<2^k:=by
 unfold bl
 by_cases h:V=0
 ·subst h;simp;exact Nat.two_pow_pos k
 ·rw [if_neg h]
  have:=Nat.log2_lt h (k:=k)
  omega
theorem bl_ge {V k:Nat}:k<bl V↔2^k<=V:=by
 have:=bl_le (V:=V) (k:=k)
 omega
theorem bl_zero {V:Nat}:bl V=0↔V=0:=by
 unfold bl;by_cases h:V=0<;>simp [h]
theorem bl_eq {V L:Nat}(h1:2^(L-1)<=V)(h2:V<2^L):bl V=L:=by
 have a:=bl_le.2 h2
 by_cases h:L=0
 ·omega
 ·have b:=bl_ge.2 h1
  omega
def Nt (K V:Nat)(v:Value)(w:World):Prop:=∃ a k cap z,v=.slice a k cap/\k<=K/\Num w a k cap z/\val z k=(V:Int)
theorem Nt.next {K V:Nat}{v:Value}{w w':World}(h:Nt K V v w)(hb:Below w.heap.size w w'):Nt K V v w':=by
 obtain ⟨a,k,cap,z,h1,h2,h3,h4⟩:=h
 exact ⟨a,k,cap,z,h1,h2,h3.next hb,h4⟩
theorem Nt.more {K K' V:Nat}{v:Value}{w:World}(h:Nt K V v w)(hk:K<=K'):Nt K' V v w:=by
 obtain ⟨a,k,cap,z,h1,h2,h3,h4⟩:=h
 exact ⟨a,k,cap,z,h1,by omega,h3,h4⟩
def Nz (K V:Nat)(v:Value)(w:World):Prop:=∃ a k cap z,v=.slice a k cap/\k<=K/\Num w a k cap z/\val z k=(V:Int)/\sizeL z k=k
theorem Nz.next {K V:Nat}{v:Value}{w w':World}(h:Nz K V v w)(hb:Below w.heap.size w w'):Nz K V v w':=by
 obtain ⟨a,k,cap,z,h1,h2,h3,h4,h5⟩:=h
 exact ⟨a,k,cap,z,h1,h2,h3.next hb,h4,h5⟩
theorem Nz.nt {K V:Nat}{v:Value}{w:World}(h:Nz K V v w):Nt K V v w:=by
 obtain ⟨a,k,cap,z,h1,h2,h3,h4,h5⟩:=h
 exact ⟨a,k,cap,z,h1,h2,h3,h4⟩
theorem size_zero {z:Nat->Int}{k V:Nat}(hz:Words z)(hv:val z k=(V:Int)):sizeL z k=0↔V=0:=by
 constructor
 ·intro h
  have:=val_bare (x:=z) k
  rw [h] at this
  have h0:val z 0=0:=rfl
  omega
 ·intro h
  subst h
  rcases Nat.eq_zero_or_pos (sizeL z k) with h|h
  ·exact h
  ·exfalso
   have:=val_longer (x:=z) (y:=z) hz hz (n:=0) (m:=sizeL z k) h (sizeL_sizeL z k)
   rw [val_bare] at this
   have h0:val z 0=0:=rfl
   omega
theorem len_bl {z:Nat->Int}{k V:Nat}(hz:Words z)(hv:val z k=(V:Int)):lenL z k=(bl V:Int):=by
 rcases Nat.eq_zero_or_pos (sizeL z k) with h|h
 ·have h0:=(size_zero hz hv).1 h
  unfold lenL;rw [if_pos h,h0];rfl
 ·obtain ⟨L,h1,h2,h3⟩:=len_bd hz h
  rw [hv] at h2 h3
  have e:bl V=L+1:=by
   have e1:((2:Int)^L)=((2^L:Nat):Int):=by simp
   have e2:((2:Int)^(L+1))=((2^(L+1):Nat):Int):=by simp
   rw [e1] at h2
   rw [e2] at h3
   exact bl_eq (by rw [Nat.add_sub_cancel];omega) (by omega)
  rw [e,h1];omega
theorem size_bl {z:Nat->Int}{k V m:Nat}(hz:Words z)(hv:val z k=(V:Int)):sizeL z k<=m↔bl V<=64*m:=by
 have hl:=len_bl hz hv
 unfold lenL at hl
 rcases Nat.eq_zero_or_pos (sizeL z k) with h|h
 ·rw [if_pos h] at hl;omega
 ·rw [if_neg (by omega)] at hl
  have ht:=sizeL_top k h
  have hw:=hz (sizeL z k-1)
  have hb:=bitLen_spec (z (sizeL z k-1)).toNat (by omega) (by omega)
  omega
theorem nlen_v {K V:Nat}{v:Value}{w:World}(hK:K<100000000)(h:Nt K V v w) :
  CQ 71 #[v] w (.int .i64 (bl V:Int)):=by
 obtain ⟨a,k,cap,z,rfl,hk,hN,hv⟩:=h
 refine (nlen_any a k cap z w (by omega) hN).mono fun e w' ⟨h1,h2⟩=>⟨?_,h2⟩
 rw [h1,len_bl hN.2.2.1 hv]
theorem nshl_v {K V:Nat}{v:Value}{w:World}(d:Nat)(hK:K<100000000)(h:Nt K V v w)(hd:bl V+d<=127000) :
  Calls Tryz.prog 131 #[v,.int .i64 (d:Int)] w fun e w'=>∃ r,e=.returned (.tuple #[r,.int .i64 0])/\Nz 2001 (V*2^d) r w'/\Below w.heap.size w w':=by
 obtain ⟨a,k,cap,z,rfl,hk,hN,hv⟩:=h
 have hs:=(size_bl (m:=(bl V+63)/64) hN.2.2.1 hv).2 (by omega)
 refine (nshl_any a k cap z d w (by omega) hN (by omega) (by omega)).mono fun e w' ⟨g,k',cap',z',h1,h2,h3,h4,h5,h6⟩=>⟨_,h1,⟨_,k',cap',z',rfl,h2,h3,?_,h5⟩,h6⟩
 rw [h4,hv];simp
theorem ncmp_v {K K' V V':Nat}{v v':Value}{w:World}(hK:K<100000000)(hK':K'<100000000)(h:Nt K V v w)(h':Nt K' V' v' w) :
  CB 73 #[v,v'] w (.int .i64 (sgn (V:Int) (V':Int))):=by
 obtain ⟨a,k,cap,z,rfl,hk,hN,hv⟩:=h
 obtain ⟨a',k',cap',z',rfl,hk',hN',hv'⟩:=h'
 have:=ncmp_b a a' k cap k' cap' z z' w (by omega) (by omega) hN hN'
 rw [hv,hv'] at this
 exact this
theorem nadd_v {K K' V V':Nat}{v v':Value}{w:World}(hK:K<100000000)(hK':K'<100000000)(h:Nt K V v w)(h':Nt K' V' v' w) :
  CE 165 #[v,v'] w (Nz (K+K'+1) (V+V')):=by
 obtain ⟨a,k,cap,z,rfl,hk,hN,hv⟩:=h
 obtain ⟨a',k',cap',z',rfl,hk',hN',hv'⟩:=h'
 have s1:=sizeL_le z k
 have s2:=sizeL_le z' k'
 refine (nadd_any a a' k cap k' cap' z z' w (by omega) (by omega) hN hN').mono fun e w' ⟨g,k2,cap2,z2,h1,h2,h3,h4,h5,h6⟩=>⟨_,h1,⟨_,k2,cap2,z2,rfl,by omega,h3,?_,h5⟩,h6⟩
 rw [h4,hv,hv'];omega
theorem ndiv_v {K K' V V':Nat}{v v':Value}{w:World}(hK:K<100000000)(hK':K'<100000000)(h:Nt K V v w)(h':Nt K' V' v' w)(hb:bl V<=128000)(hb':bl V'<=128000)(h0:V'≠0) :
  Calls Tryz.prog 163 #[v,v'] w fun e w'=>∃ q r,e=.returned (.tuple #[q,r,.int .i64 0])/\Nz 2001 (V/V') q w'/\Nz 2001 (V%V') r w'/\Below w.heap.size w w':=by
 obtain ⟨a,k,cap,z,rfl,hk,hN,hv⟩:=h
 obtain ⟨a',k',cap',z',rfl,hk',hN',hv'⟩:=h'
 have s1:=(size_bl (m:=2000) hN.2.2.1 hv).2 (by omega)
 have s2:=(size_bl (m:=2000) hN'.2.2.1 hv').2 (by omega)
 have s3:0<sizeL z' k':=Nat.pos_of_ne_zero fun e=>h0 ((size_zero hN'.2.2.1 hv').1 e)
 refine (ndiv_any a a' k cap k' cap' z z' w (by omega) (by omega) hN hN' s1 s2 s3).mono fun e w' ⟨o,k2,cap2,z2,o',k3,cap3,z3,h1,h2,h3,h4,h5,h6,h7,h8,h9,h10⟩=>⟨_,_,h1,⟨_,_,_,_,rfl,h2,h4,?_,h8⟩,⟨_,_,_,_,rfl,h3,h5,?_,h9⟩,h10⟩
 ·rw [h6,hv,hv'];simp
 ·rw [h7,hv,hv'];simp
theorem nshr_v {K V:Nat}{v:Value}{w:World}(hK:K<100000000)(h:Nt K V v w) :
  Calls Tryz.prog 140 #[v,.int .i64 1] w fun e w'=>∃ r b,e=.returned (.tuple #[r,.bool b])/\Nz K (V/2) r w'/\Below w.heap.size w w':=by
 obtain ⟨a,k,cap,z,rfl,hk,hN,hv⟩:=h
 refine (nshr_all a k cap z 1 w (by omega) hN (by decide)).mono fun e w' ⟨o,k2,cap2,h1,h2,h3,h4,h5⟩=>⟨_,_,h1,⟨_,_,_,_,rfl,by omega,h3,?_,h4⟩,h5⟩
 have hz:=h3.2.2.2.1
 have e1:shrF z 1=shrW z 0 1:=by unfold shrF;rw [if_neg (by decide)];rfl
 rw [← val_more hz k h2,e1]
 exact shrW_val hN.2.2.1 hN.2.2.2.1 (by decide) k (Nat.le_refl _) hv
end Go.Proofs.YtgknbdehlmlipaaGreatDoor
