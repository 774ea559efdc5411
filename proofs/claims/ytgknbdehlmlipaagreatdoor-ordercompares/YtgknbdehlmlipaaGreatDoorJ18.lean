/-
  Texts that the proof leans on.
-/
import Derived.Test.YtgknbdehlmlipaaGreatDoorJ2
import Derived.Test.YtgknbdehlmlipaaGreatDoorJ17
import Derived.Test.YtgknbdehlmlipaaGreatDoorJ9
import Derived.Test.YtgknbdehlmlipaaGreatDoorJ16
import Derived.Deep.QuietTactic
import Derived.BigQuiet
import Derived.Lib.RabinKarpLaws
set_option maxHeartbeats 8000000
set_option linter.unusedVariables false
set_option linter.unusedSimpArgs false
set_option linter.unusedSectionVars false
set_option maxRecDepth 20000
namespace Go.Proofs.YtgknbdehlmlipaaGreatDoor
open Go.RowKit
section
def upZ (z y:Nat->Int)(r off k j:Nat):Int:=if off<=j/\j<off+k then shW y r (j-off) else z j
theorem upZ_next (z y:Nat->Int)(r off k j:Nat):(if j=off+k then shW y r k else upZ z y r off k j)=upZ z y r off (k+1) j:=by
 unfold upZ
 by_cases e:j=off+k
 ·subst e
  rw [if_pos rfl,if_pos (by omega)];congr 1;omega
 ·rw [if_neg e]
  by_cases e2:off<=j/\j<off+k
  ·rw [if_pos e2,if_pos (by omega)]
  ·rw [if_neg e2,if_neg (by omega)]
theorem shiftUp_any (g N off m c k c' r:Nat)(a':Option Addr)(z y:Nat->Int)(w:World)(hm:off+m<=N)(hN:N<4294967296)(hk:k<m)(hr:r<64)(h:Own g N z w)(h':Num w a' k c' y)(hA:Apart a' g) :
  Calls Tryz.prog 160 #[.slice (some ⟨g,off,none⟩) m c,.slice a' k c',.int .i64 r] w fun e w'=>e=.returned (.tuple #[])/\Own g N (upZ z y r off (k+1)) w'/\Upd g w w':=by
 have hy:=h'.2.2.1
 have hri:(r:Int)<64:=by omega
 have e64:((64:Int)-r).toNat=64-r:=by omega
 have hk0:=h'.2.2.2.1 k (Nat.le_refl _)
 go_enter Tryz.func160,Tryz.ntmps160
 go_wp2
 go_loopw [6,7,8,11] (fun cv u7 u8 i wr=>∃ (j:Nat),j<=k/\i=.int .i64 j/\cv=.int .u64 (prevW y r j)/\Own g N (upZ z y r off j) wr/\Upd g w wr) (fun _ _ _ i _=>k-(intOf i).toNat)
 case atStart=>exact ⟨0,Nat.zero_le _,rfl,rfl,h.congr fun i _=>by unfold upZ;rw [if_neg (by omega)],Upd.refl _ _⟩
 case round =>
  obtain ⟨j,hj,rfl,rfl,hO,hU⟩:=hrel
  have hpb:=prevW_word hy hr j
  by_cases hlt:j<k
  ·have hji:(j:Int)<k:=by omega
   have hjm:(j:Int)<m:=by omega
   obtain ⟨b,off',rfl,hb,hc⟩:=(hU.num' hA h').cells (by omega)
   have hcj:=hc j hlt
   have hco:∃ u,wr.cell? ⟨g,off+j,none⟩=some (.int .u64 u):=⟨_,hO.cell (off+j) (by omega)⟩
   obtain ⟨u,hco⟩:=hco
   have hfo:=hO.frozen (off+j)
   have b_y:=hy j
   have HP:Hid (prevW y r (j+1)=y j/2^(64-r)):=by show _=_;rw [hiW_eq _ (by omega)];rfl
   have HS:Hid (bits BinOp.or IntKind.u64 (IntKind.u64.wrap (y j*2^r)) (prevW y r j)=shW y r j):=by
    show _=_
    rw [← shW_or hy hr j]
    exact orW_comm _ _ (wrap_word _) hpb
   have HO:Hid (Own g N (upZ z y r off (j+1)) (wr.setCell ⟨g,off+j,none⟩ (.int .u64 (shW y r j)))):=(hO.set (off+j) _).congr fun i _=>upZ_next z y r off j i
   have HU:Hid (Upd g w (wr.setCell ⟨g,off+j,none⟩ (.int .u64 (shW y r j)))):=hU.set (off+j) _
   rw [← HS.out] at HO HU
   clear hO hU hc h h' hA hy hk0 HS
   generalize prevW y r j=pv at *
   go_wp2
   go_roundw
   case rel=>exact ⟨j+1,by omega,by go_num,by rw [HP.out],HO.out,HU.out⟩
   case measure=>simp [intOf];omega
  ·obtain rfl:j=k:=by omega
   have hjm:(j:Int)<m:=by omega
   have hco:∃ u,wr.cell? ⟨g,off+j,none⟩=some (.int .u64 u):=⟨_,hO.cell (off+j) (by omega)⟩
   obtain ⟨u,hco⟩:=hco
   have hfo:=hO.frozen (off+j)
   have e1:shW y r j=prevW y r j:=by unfold shW;rw [hk0];simp
   have HO:Hid (Own g N (upZ z y r off (j+1)) (wr.setCell ⟨g,off+j,none⟩ (.int .u64 (prevW y r j)))):=(hO.set (off+j) _).congr fun i _=>by rw [← e1];exact upZ_next z y r off j i
   have HU:Hid (Upd g w (wr.setCell ⟨g,off+j,none⟩ (.int .u64 (prevW y r j)))):=hU.set (off+j) _
   clear hO hU h h' hA hy hk0 e1
   generalize prevW y r j=pv at *
   go_wp2
   go_end0
   exact ⟨rfl,HO.out,HU.out⟩
theorem bare_own {g N c:Nat}{z:Nat->Int}{w:World}{V:Int}(hO:Own g N z w)(hW:Words z)(hN:N<4000000000)(hc:N<=c)(hc2:c<=maxLen)(hv:val z N=V) :
  ∃ k z',k<=N/\Num w (some ⟨g,0,none⟩) k c z'/\val z' k=V/\sizeL z' k=k/\CQ 103 #[.slice (some ⟨g,0,none⟩) N c] w (.slice (some ⟨g,0,none⟩) k c):=by
 have h:=hO.num hW 0 N c (by omega) hc hc2
 refine ⟨sizeL (segW z 0 N) N,segW z 0 N,sizeL_le _ _,h.bare,?_,sizeL_sizeL _ _,bare_any _ N c _ w (by omega) h⟩
 rw [val_bare,val_congr (x:=segW z 0 N) (y:=z) N fun i hi=>by rw [segW_lt _ 0 N i hi,Nat.zero_add],hv]
set_option maxRecDepth 20000 in
theorem nshl_any (a:Option Addr)(n c:Nat)(x:Nat->Int)(d:Int)(w:World)(hn:n<4000000000)(h:Num w a n c x)(hd:0<=d)(hs:(sizeL x n:Int)+(d+63)/64<=2000) :
  Calls Tryz.prog 131 #[.slice a n c,.int .i64 d] w fun e w'=>∃ g k cap z,e=.returned (.tuple #[.slice (some ⟨g,0,none⟩) k cap,.int .i64 0])/\k<=2001/\Num w' (some ⟨g,0,none⟩) k cap z/\val z k=val x n*2^d.toNat/\sizeL z k=k/\Below w.heap.size w w':=by
 have hb:=bare_any a n c x w (by omega) h
 rw [← val_bare n]
 have hx:=h.2.2.1
 have hle:=sizeL_le x n
 have hN:=h.bare
 generalize sizeL x n=s at *
 clear h
 obtain ⟨q,hq⟩:∃ q:Nat,d/64=q:=⟨(d/64).toNat,by omega⟩
 obtain ⟨r,hr⟩:∃ r:Nat,d%64=r:=⟨(d%64).toNat,by omega⟩
 have hr64:r<64:=by omega
 have hdn:d.toNat=64*q+r:=by omega
 rw [hdn]
 obtain ⟨N,hNs⟩:∃ N,s+q+1=N:=⟨_,rfl⟩
 have hNi:(s:Int)+q+1=N:=by omega
 have hq2:(q:Int)<=2000:=by omega
 have hmk:=fun w=>make_any ((s:Int)+q+1) N hNi (by omega) w
 have hA:=apart_of hN
 have hO:=Own.new w (fun _=>0) N
 have hBW:=below1 w (.cells (arrOf (fun _=>0) N) 22)
 have hsu:=shiftUp_any w.heap.size N q (N-q) (N-q) s c r a (fun _=>0) x _ (by omega) (by omega) (by omega) hr64 hO (hN.next hBW) hA
 have hqN:(q:Int)<=N:=by omega
 have HVL:Hid (val (upZ (fun _=>0) x r q (s+1)) N=val x s*2^(64*q+r)):=by
  show _=_
  rw [← hNs,show s+q+1=q+(s+1) by omega]
  rw [val_congr (y:=upW (shW x r) q) (q+(s+1)) fun i hi=>by
   unfold upZ upW
   by_cases e:q<=i
   ·rw [if_pos (by omega),if_pos e]
   ·rw [if_neg (by omega),if_neg e]]
  rw [val_up,sh_end hN.2.2.2.1 r (s+1) (by omega),Int.mul_assoc,p64]
 have HW:Hid (Words (upZ (fun _=>0) x r q (s+1))):=fun i=>by
  unfold upZ;split
  ·exact shW_words hx hr64 _
  ·exact (by decide:(0:Int)<=0/\(0:Int)<=18446744073709551615)
 generalize hz:upZ (fun _=>0) x r q (s+1)=zz at *
 have HB:Hid (Below w.heap.size w (w.alloc (.cells (arrOf (fun _=>0) N) 22))):=hBW
 have HNS:Hid (N<=2001):=by show _<=_;omega
 have hup:(s:Int)+q<=2000:=by omega
 have hup2:0<r->(s:Int)+(q+1)<=2000:=by omega
 clear hBW hN hA hO hNi hz hs hdn hx
 by_cases hr0:0<r
 ·have hr0':(0:Int)<r:=by omega
  have hu:=hup2 hr0
  clear hup2
  go_enter Tryz.func131,Tryz.ntmps131
  go_wp2_with (first|(go_at_call_of 103 (Value.slice a n c);refine hb.mono ?_;rintro e w' ⟨rfl,rfl⟩)|(go_at_call 160;refine hsu.mono ?_;rintro e w1 ⟨rfl,hO1,hU1⟩))
  obtain ⟨k,z',hkN,hNk,hvk,hsk,hbr⟩:=bare_own hO1 HW.out (by have:=HNS.out;omega) (Nat.le_refl N) (by unfold maxLen;have:=HNS.out;omega) HVL.out
  have HB2:Hid (Below w.heap.size w w1):=HB.out.trans (hU1.below (Nat.le_refl _))
  have HNk:Hid (Num w1 (some ⟨w.heap.size,0,none⟩) k N z'):=hNk
  clear hO1 hU1 hNk
  go_wp2_with (go_at_call 103;refine hbr.mono ?_;rintro e w3 ⟨rfl,rfl⟩)
  go_ret2
  exact ⟨_,k,N,z',rfl,by have:=HNS.out;omega,HNk.out,hvk,hsk,HB2.out⟩
 ·obtain rfl:r=0:=by omega
  clear hup2
  go_enter Tryz.func131,Tryz.ntmps131
  go_wp2_with (first|(go_at_call_of 103 (Value.slice a n c);refine hb.mono ?_;rintro e w' ⟨rfl,rfl⟩)|(go_at_call 160;refine hsu.mono ?_;rintro e w1 ⟨rfl,hO1,hU1⟩))
  obtain ⟨k,z',hkN,hNk,hvk,hsk,hbr⟩:=bare_own hO1 HW.out (by have:=HNS.out;omega) (Nat.le_refl N) (by unfold maxLen;have:=HNS.out;omega) HVL.out
  have HB2:Hid (Below w.heap.size w w1):=HB.out.trans (hU1.below (Nat.le_refl _))
  have HNk:Hid (Num w1 (some ⟨w.heap.size,0,none⟩) k N z'):=hNk
  clear hO1 hU1 hNk
  go_wp2_with (go_at_call 103;refine hbr.mono ?_;rintro e w3 ⟨rfl,rfl⟩)
  go_ret2
  exact ⟨_,k,N,z',rfl,by have:=HNS.out;omega,HNk.out,hvk,hsk,HB2.out⟩
end
section
attribute [local go_sem] setCell_drewN alloc_drewN
def goneB (x:Nat->Int)(q r:Nat):Bool:=decide (0<sizeL x q)||decide (x q%2^r≠0)
def goneK (x:Nat->Int)(q r k:Nat):Bool:=if k<=q then decide (0<sizeL x k) else goneB x q r
theorem goneK_zero (x:Nat->Int)(q r:Nat):goneK x q r 0=false:=by unfold goneK;rw [if_pos (Nat.zero_le _)];rfl
theorem goneK_lt0 {x:Nat->Int}{q r k:Nat}(h:k<q)(hz:x k=0):goneK x q r (k+1)=goneK x q r k:=by
 unfold goneK;rw [if_pos (by omega),if_pos (by omega)];simp [sizeL,hz]
theorem goneK_lt1 {x:Nat->Int}{q r k:Nat}(h:k<q)(hz:¬ x k=0):goneK x q r (k+1)=true:=by
 unfold goneK;rw [if_pos (by omega)];simp [sizeL,hz]
theorem goneK_eq (x:Nat->Int)(k r:Nat):goneK x k r (k+1)=(goneK x k r k||decide (x k%2^r≠0)):=by
 unfold goneK;rw [if_neg (by omega),if_pos (Nat.le_refl _)];rfl
theorem goneK_gt {x:Nat->Int}{q r k:Nat}(h:q<k):goneK x q r (k+1)=goneK x q r k:=by
 unfold goneK;rw [if_neg (by omega),if_neg (by omega)]
theorem goneK_end {x:Nat->Int}{q r n:Nat}(h:q<n):goneK x q r n=goneB x q r:=by
 unfold goneK;rw [if_neg (by omega)]
theorem and_mask {y:Int}{r:Nat}(hy:0<=y/\y<=18446744073709551615)(hr:r<64):bits BinOp.and IntKind.u64 y (2^r-1)=y%2^r:=by
 have h1:=p2_pos r
 have h2:=p2_le hr
 rw [u64_and _ _ hy.1 (by omega) (by omega) (by omega)]
 obtain ⟨n,rfl⟩:=Int.eq_ofNat_of_zero_le hy.1
 have e:((2:Int)^r-1).toNat=2^r-1:=by rw [← powCast];omega
 rw [e,Int.toNat_natCast,Nat.and_two_pow_sub_one_eq_mod,Int.natCast_emod,powCast]
end
def dnW (y:Int)(r:Nat):Int:=IntKind.u64.wrap (y*2^(64-r))
theorem shr_or {y:Nat->Int}(hy:Words y){r:Nat}(hr:r<64)(q i:Nat):orW (y (q+i)/2^r) (dnW (y (q+i+1)) r)=shrW y q r i:=by
 unfold shrW dnW
 by_cases h:r=0
 ·subst h
  rw [if_pos rfl,wrap_mod]
  have e:y (q+i+1)*2^(64-0)%18446744073709551616=0:=Int.mul_emod_left _ _
  rw [e,Int.pow_zero,Int.ediv_one,orW_zero _ (hy _)]
 ·rw [if_neg h]
theorem Num.drop {w:World}{b off n c q:Nat}{x:Nat->Int}(h:Num w (some ⟨b,off,none⟩) n c x)(hq:q<=n):Num w (some ⟨b,off+q,none⟩) (n-q) (c-q) (fun i=>x (q+i)):=by
 obtain ⟨h1,h2,h3,h4,h5⟩:=h
 refine ⟨by omega,by omega,fun i=>h3 (q+i),fun i hi=>h4 (q+i) (by omega),?_⟩
 rcases h5 with ⟨h5,_⟩|⟨b',off',h6,h7,h8⟩
 ·cases h5
 ·cases h6
  exact Or.inr ⟨b,off+q,rfl,h7,fun i hi=>by have:=h8 (q+i) (by omega);rw [Nat.add_assoc];exact this⟩
theorem Num.take {w:World}{b off n c q:Nat}{x:Nat->Int}(h:Num w (some ⟨b,off,none⟩) n c x)(hq:q<=n):Num w (some ⟨b,off,none⟩) q c (segW x 0 q):=by
 obtain ⟨h1,h2,h3,h4,h5⟩:=h
 refine ⟨by omega,by omega,segW_words h3 0 q,fun i hi=>segW_zero x 0 q i hi,?_⟩
 rcases h5 with ⟨h5,_⟩|⟨b',off',h6,h7,h8⟩
 ·cases h5
 ·cases h6
  exact Or.inr ⟨b,off,rfl,h7,fun i hi=>by rw [h8 i (by omega),segW_lt x 0 q i hi,Nat.zero_add]⟩
section
structure Gs (R D u1 u0 v1 v0 P a b:Int):Prop where
 hR:R=a+(u1*18446744073709551616+u0)*(P*18446744073709551616)
 hD:D=b+(v1*18446744073709551616+v0)*P
 p:0<P
 a0:0<=a
 a1:a<P*18446744073709551616
 b0:0<=b
 b1:b<P
 u1w:0<=u1/\u1<=18446744073709551615
 u0w:0<=u0/\u0<=18446744073709551615
 v1w:9223372036854775808<=v1/\v1<=18446744073709551615
 v0w:0<=v0/\v0<=18446744073709551615
 lt:R<D*18446744073709551616
section
variable {R D u1 u0 v1 v0 P a b:Int}
theorem Gs.highR (h:Gs R D u1 u0 v1 v0 P a b):R<((u1*18446744073709551616+u0)+1)*18446744073709551616*P:=by
 have:=h.hR;have:=h.a1
 have e:((u1*18446744073709551616+u0)+1)*18446744073709551616*P=(u1*18446744073709551616+u0)*(P*18446744073709551616)+P*18446744073709551616:=by grind
 omega
theorem Gs.lowD (h:Gs R D u1 u0 v1 v0 P a b):(v1*18446744073709551616+v0)*P<=D:=by have:=h.hD;have:=h.b0;omega
theorem Gs.times_ge (h:Gs R D u1 u0 v1 v0 P a b){k N:Int}(hk:0<=k)(hN:N<=k*(v1*18446744073709551616+v0)):N*P<=k*D:=by
 have h1:k*((v1*18446744073709551616+v0)*P)<=k*D:=Int.mul_le_mul_of_nonneg_left h.lowD hk
 have h2:N*P<=k*(v1*18446744073709551616+v0)*P:=Int.mul_le_mul_of_nonneg_right hN (Int.le_of_lt h.p)
 rw [Int.mul_assoc] at h2
 omega
theorem Gs.first (h:Gs R D u1 u0 v1 v0 P a b):R<((u1*18446744073709551616+u0)/v1+1)*D:=by
 have hv:0<v1:=by have:=h.v1w;omega
 have h1:=h.highR
 have hq:=Int.lt_mul_ediv_self_add (x:=u1*18446744073709551616+u0) hv
 have hq0:0<=(u1*18446744073709551616+u0)/v1:=Int.ediv_nonneg (by have:=h.u1w;have:=h.u0w;omega) (Int.le_of_lt hv)
 have:=h.v0w
 generalize (u1*18446744073709551616+u0)/v1=k at *
 have h2:(u1*18446744073709551616+u0+1)*18446744073709551616<=(k+1)*(v1*18446744073709551616+v0):=by
  have e:(k+1)*(v1*18446744073709551616+v0)=(v1*k+v1)*18446744073709551616+(k+1)*v0:=by grind
  have:0<=(k+1)*v0:=Int.mul_nonneg (by omega) (by omega)
  omega
 have h3:=h.times_ge (by omega) h2
 omega
end
theorem dn_val {y:Nat->Int}(hy:Words y){r:Nat}(hr:r<64):∀ m,val (shrW y 0 r) m*2^r+y 0%2^r=val y m+y m%2^r*18446744073709551616^m
 | 0=>by simp [val]
 | m+1=>by
  have ih:=dn_val hy hr m
  have hp:=p2_pos r
  have e1:shrW y 0 r m=y m/2^r+y (m+1)%2^r*2^(64-r):=by
   have h1:=shr_or hy hr 0 m
   rw [Nat.zero_add] at h1
   rw [← h1]
   unfold dnW
   have hme:y (m+1)*2^(64-r)%18446744073709551616=y (m+1)%2^r*2^(64-r):=by
    have h3:=Int.mul_emod_mul_of_pos (y (m+1)) (2^r) (p2_pos (64-r))
    rw [← p2_split (show r<=64 by omega),Int.mul_comm (y (m+1)),h3,Int.mul_comm]
   have hlt:y m/2^r<2^(64-r):=by
    refine Int.ediv_lt_of_lt_mul hp ?_
    rw [p2_split (show r<=64 by omega)]
    have:=hy m;omega
   by_cases h0:r=0
   ·subst h0
    have:y (m+1)*2^(64-0)%18446744073709551616=0:=Int.mul_emod_left _ _
    rw [wrap_mod,this,orW_zero _ (div_word _ _ (hy m))]
    simp [Int.emod_one]
   ·have h64:64-(64-r)=r:=by omega
    have ho:=or_shl (y:=y (m+1)) (b:=y m/2^r) (r:=64-r) (by omega) (hy (m+1)).1 ⟨(div_word _ _ (hy m)).1,hlt⟩
    rw [ho,hme];omega
  show (val (shrW y 0 r) m+shrW y 0 r m*18446744073709551616^m)*2^r+y 0%2^r=val y m+y m*18446744073709551616^m+y (m+1)%2^r*18446744073709551616^(m+1)
  have e2:=Int.emod_add_mul_ediv (y m) (2^r)
  have e3:=p2_split (show r<=64 by omega)
  rw [e1,Int.pow_succ]
  generalize (18446744073709551616:Int)^m=Q at *
  generalize y m/2^r=A at *
  generalize y m%2^r=A' at *
  generalize y (m+1)%2^r=C at *
  generalize y 0%2^r=Z at *
  generalize (2:Int)^(64-r)=T at *
  generalize (2:Int)^r=S at *
  grind
end
theorem seg_next (z:Nat->Int)(off j:Nat):val (segW z off (j+1)) (j+1)=val (segW z off j) j+z (off+j)*18446744073709551616^j:=by
 show val (segW z off (j+1)) j+segW z off (j+1) j*18446744073709551616^j=_
 rw [segW_lt z off (j+1) j (by omega),val_congr (x:=segW z off (j+1)) (y:=segW z off j) j fun i hi=>by rw [segW_lt _ _ _ i (by omega),segW_lt _ _ _ i hi]]
theorem val_pos {z:Nat->Int}(hz:Words z):∀ m,0<m->sizeL z m=m->0<val z m
 | 0,h,_=>by omega
 | m+1,_,h=>by
  have hne:z m≠0:=by
   intro e
   have:sizeL z (m+1)=sizeL z m:=by simp [sizeL,e]
   have:=sizeL_le z m
   omega
  have h1:=(val_bd hz m).1
  have h2:=hz m
  have h3:=pw_pos m
  show 0<val z m+z m*18446744073709551616^m
  have:0<z m*18446744073709551616^m:=Int.mul_pos (by omega) h3
  omega
theorem val_split (z:Nat->Int)(j:Nat):∀ m,val z (j+m)=val z j+val (segW z j m) m*18446744073709551616^j
 | 0=>by simp [val]
 | m+1=>by
  rw [seg_next]
  show val z (j+m)+z (j+m)*18446744073709551616^(j+m)=_
  rw [val_split z j m,Int.pow_add];grind
theorem quo_val {x:Nat->Int}{d:Int}(hx:Words x)(hd:0<d)(m:Nat):val (quoW x d m) m=val x m/d/\remJ x d m m=val x m%d:=by
 have h:=div_val x d m m (Nat.le_refl _)
 simp only [Nat.sub_self,val,Int.pow_zero,Int.mul_one,Int.zero_add,Int.sub_zero] at h
 have hb:=remJ_bd x d m m hd
 have e:=(Int.ediv_emod_unique hd (a:=val x m) (r:=remJ x d m m) (q:=val (quoW x d m) m)).2 ⟨h,hb.1,hb.2⟩
 exact ⟨e.1.symm,e.2.symm⟩
section
attribute [local go_sem] setCell_drewN alloc_drewN
theorem owns_base {w:World}{base g k cap:Nat}{xs:List Value}(h:w.ownsRow base 22 1 (.slice (some ⟨g,0,none⟩) k cap) k xs):base<=g:=by
 obtain ⟨hl,h⟩:=h
 rcases h with ⟨h,_⟩|⟨g',cap',cur,he,hb,_⟩
 ·cases h
 ·cases he;exact hb
theorem ftrim_some (b off n c:Nat)(x:Nat->Int)(w:World)(hn:n<4294967296)(h:Num w (some ⟨b,off,none⟩) n c x) :
  Calls Tryz.prog 56 #[.slice (some ⟨b,off,none⟩) n c] w fun e w'=>∃ g cap,e=.returned (.slice (some ⟨g,0,none⟩) (sizeL x n) cap)/\Num w' (some ⟨g,0,none⟩) (sizeL x n) cap x/\Below w.heap.size w w'/\w.heap.size<=g:=by
 obtain ⟨h1,h2,h3,h4,h5⟩:=h
 have hc:b<w.heap.size/\∀ i,i<n->w.cell? ⟨b,off+i,none⟩=some (.int .u64 (x i)):=by
  rcases h5 with ⟨h,_⟩|⟨b',off',h,hbs,hc⟩
  ·cases h
  ·cases h;exact ⟨hbs,hc⟩
 obtain ⟨hbs,hc⟩:=hc
 clear h5
 obtain ⟨i0,hi,hz0,hz1,hz2⟩:=info_parts Tryz.info22
 unfold maxLen at h2
 go_enter Tryz.func56,Tryz.ntmps56
 go_wp2
 go_loop [3] (fun t=>∃ k:Nat,k<=n/\sizeL x k=sizeL x n/\(∀ i,k<=i->x i=0)/\t=.int .i64 k) (fun t=>(intOf t).toNat)
 case atStart=>exact ⟨n,Nat.le_refl _,rfl,h4,rfl⟩
 case round =>
  obtain ⟨k,hk,hs,hz,rfl⟩:=hrel
  clear h4
  by_cases h0:k=0
  ·subst h0
   have HS:Hid (sizeL x n=0):=hs.symm
   have HN:Hid (Num (w.alloc (.cells #[] 22)) (some ⟨w.heap.size,0,none⟩) 0 0 x):=⟨Nat.le_refl _,by unfold maxLen;omega,h3,hz,Or.inr ⟨w.heap.size,0,rfl,by simp,fun i hi=>by omega⟩⟩
   clear hs hz hc h3
   go_wp2
   go_ret
   refine ⟨w.heap.size,0,?_,?_,(Below.refl _ _).alloc (Nat.le_refl _) _,Nat.le_refl _⟩
   ·rw [HS.out];rfl
   ·rw [HS.out];exact HN.out
  ·obtain ⟨j,rfl⟩:∃ j,k=j+1:=⟨k-1,by omega⟩
   have hcj:=hc j (by omega)
   by_cases hzj:x j=0
   ·have HS:Hid (sizeL x j=sizeL x n):=by
     have:sizeL x (j+1)=sizeL x j:=by simp [sizeL,hzj]
     exact this.symm.trans hs
    have HZ:Hid (∀ i,j<=i->x i=0):=fun i hji=>by
     by_cases e:i=j
     ·rw [e];exact hzj
     ·exact hz i (by omega)
    clear hs hz hc
    go_wp2
    go_round
    case rel=>exact ⟨j,by omega,HS.out,HZ.out,by go_num⟩
    case measure=>simp [intOf]
   ·have HS:Hid (sizeL x n=j+1):=by
     have:sizeL x (j+1)=j+1:=by simp [sizeL,hzj]
     exact hs.symm.trans this
    have HZ:Hid (∀ i,j+1<=i->x i=0):=hz
    have HC:Hid (∀ i,i<n->w.cell? ⟨b,off+i,none⟩=some (.int .u64 (x i))):=hc
    clear hs hz hc
    have HOWN:(w.alloc (.cells #[] 22)).ownsRow w.heap.size 22 1 (.slice (some ⟨w.heap.size,0,none⟩) 0 0) 0 [] :=
     ⟨rfl,Or.inr ⟨w.heap.size,0,#[],rfl,Nat.le_refl _,(MapKept.heap_alloc w _).1,Nat.le_refl _,by unfold maxLen;omega,rfl,rfl⟩⟩
    have HNEWS:∀ (q:Nat) (u:Value),((List.range (j+1)).map fun i=>Value.int .u64 (x i))[q]?=some u->(w.alloc (.cells #[] 22)).cell? ((⟨b,off,none⟩:Addr).add q)=some u:=by
     intro q u hq
     have hql:q<j+1:=by
      rcases Nat.lt_or_ge q (j+1) with h|h
      ·exact h
      ·rw [List.getElem?_eq_none (by simpa using h)] at hq;cases hq
     have e2:u=.int .u64 (x q):=by simpa [hql] using hq.symm
     rw [e2]
     have ea:(⟨b,off,none⟩:Addr).add q=⟨b,off+q,none⟩:=by simp [Addr.add]
     rw [ea]
     exact (((Below.refl w.heap.size w).alloc (Nat.le_refl _) _).cell (p:=⟨b,off+q,none⟩) hbs).trans (HC.out q (by omega))
    have HONE:∀ u ∈ ((List.range (j+1)).map fun i=>Value.int .u64 (x i)),u.oneCell'=true:=by
     intro u hu
     obtain ⟨q,_,rfl⟩:=List.mem_map.1 hu
     rfl
    go_wp2_with (at_builtin;refine wpList_append_lies _ rfl (.tmp 18) (.tmp 21) 48 rfl w.heap.size 22 i0 (.int .u64 0) 1 8 Tryz.underlying48 hi hz0 hz1 hz2 rfl (by decide) (.slice (some ⟨w.heap.size,0,none⟩) 0 0) 0 [] rfl HOWN ⟨b,off,none⟩ (j+1) c ((List.range (j+1)).map fun i=>Value.int .u64 (x i)) rfl (by simp) HNEWS HONE (by omega) (by unfold maxLen;omega) (by omega) (by simp) (w.heap.size+1) (by simp) ?_;intro g cap w1 hown hgrow hat hlt;clear HOWN HNEWS HONE)
    have hown':w1.ownsRow w.heap.size 22 1 (.slice (some ⟨g,0,none⟩) (j+1) cap) (j+1) ((List.range (j+1)).map fun i=>Value.int .u64 (x i)):=by
     have e0:0+(j+1)=j+1:=by omega
     rw [e0] at hown
     simpa using hown
    have HN:=num_of_owns (w:=w) h3 HZ.out hown' hlt
    have HFG:w.heap.size<=g:=owns_base hown'
    have HB:Below w.heap.size w w1:=((Below.refl _ _).alloc (Nat.le_refl _) _).grown hgrow (by simp) (by intro k hk;cases hk;exact Nat.le_refl _)
    clear hown hown' hgrow
    go_wp2
    go_ret
    refine ⟨g,cap,?_,?_,HB,HFG⟩
    ·rw [HS.out];simp
    ·rw [HS.out];exact HN
theorem ftrim_nil (x:Nat->Int)(w:World)(hx:∀ i,x i=0) :
  Calls Tryz.prog 56 #[.slice none 0 0] w fun e w'=>∃ g cap,e=.returned (.slice (some ⟨g,0,none⟩) 0 cap)/\Num w' (some ⟨g,0,none⟩) 0 cap x/\Below w.heap.size w w'/\w.heap.size<=g:=by
 go_enter Tryz.func56,Tryz.ntmps56
 go_wp2
 go_loop [3] (fun t=>t=.int .i64 0) (fun t=>(intOf t).toNat)
 case atStart=>rfl
 case round =>
  subst hrel
  go_wp2
  go_ret
  refine ⟨w.heap.size,0,rfl,?_,(Below.refl _ _).alloc (Nat.le_refl _) _,Nat.le_refl _⟩
  exact ⟨Nat.le_refl _,by unfold maxLen;omega,fun i=>by rw [hx i];decide,fun i _=>hx i,Or.inr ⟨w.heap.size,0,rfl,by simp,fun i hi=>by omega⟩⟩
theorem ftrim_any (a:Option Addr)(n c:Nat)(x:Nat->Int)(w:World)(hn:n<4294967296)(h:Num w a n c x) :
  Calls Tryz.prog 56 #[.slice a n c] w fun e w'=>∃ g cap,e=.returned (.slice (some ⟨g,0,none⟩) (sizeL x n) cap)/\Num w' (some ⟨g,0,none⟩) (sizeL x n) cap x/\Below w.heap.size w w'/\w.heap.size<=g:=by
 have h':=h
 obtain ⟨h1,h2,h3,h4,h5⟩:=h'
 rcases h5 with ⟨rfl,rfl⟩|⟨b,off,rfl,_,_⟩
 ·obtain rfl:n=0:=by omega
  exact ftrim_nil x w (fun i=>h4 i (Nat.zero_le _))
 ·exact ftrim_some b off n c x w hn h
theorem frless_any (a a':Option Addr)(n c n' c':Nat)(x y:Nat->Int)(w:World)(hn:n<4294967290)(hn':n'<4294967290)(h:Num w a n c x)(h':Num w a' n' c' y) :
  Calls Tryz.prog 50 #[.slice a n c,.slice a' n' c'] w fun e w'=>∃ g k cap,e=.returned (.slice (some ⟨g,0,none⟩) k cap)/\k<=max n n'/\Num w' (some ⟨g,0,none⟩) k cap (difZ x y (max n n'))/\Below w.heap.size w w'/\w.heap.size<=g/\sizeL (difZ x y (max n n')) k=k:=by
 have hx:=h.2.2.1
 have hy:=h'.2.2.1
 have zx:=h.2.2.2.1
 have zy:=h'.2.2.2.1
 obtain ⟨M,hM⟩:∃ M,max n n'=M:=⟨_,rfl⟩
 have hMi:max (n:Int) n'=(M:Int):=by omega
 have hMb:M<4294967292:=by omega
 have hmk:=fun w=>make_any (max (n:Int) n') M hMi (by omega) w
 have hfin:∀ (ss:Array Value),ss.size=M->(∀ j h,ss[j]'h=Value.int .u64 (difW x y j))->Num (w.alloc (.cells ss 22)) (some ⟨w.heap.size,0,none⟩) M M (difZ x y (max n n')):=fun ss h1 h2=>num_of_block (by omega) (difZ_words x y _) (fun i hi=>by unfold difZ;rw [if_neg (by omega)]) h1 (fun j hj=>by rw [h2 j hj];unfold difZ;rw [if_pos (by omega)])
 have hw1:=fun (i:Nat) (ss:Array Value)=>word_any a n c i x (w.alloc (.cells ss 22)) (h.next (below1 w _))
 have hw2:=fun (i:Nat) (ss:Array Value)=>word_any a' n' c' i y (w.alloc (.cells ss 22)) (h'.next (below1 w _))
 have HM:Hid (max n n'=M):=hM
 have HZ:Hid ((arrOf (fun _=>0) M).size=M/\∀ j h,(arrOf (fun _=>0) M)[j]'h=Value.int .u64 0):=⟨arrOf_size _ _,fun j h=>arrOf_get _ _ _ _⟩
 clear h h' zx zy hM hMi
 generalize arrOf (fun _=>0) M=zz at *
 go_enter Tryz.func50,Tryz.ntmps50
 go_wp2
 go_loopw [6,7,16,19] (fun c u7 i u20 wr=>∃ (k:Nat) (ss:Array Value),k<=M/\i=.int .i64 k/\c=.int .u64 (borW x y k)/\ss.size=M/\(∀ j h,ss[j]'h=Value.int .u64 (if j<k then difW x y j else 0))/\wr=w.alloc (.cells ss 22)) (fun _ _ i _ _=>M-(intOf i).toNat)
 case atStart=>exact ⟨0,zz,Nat.zero_le _,rfl,rfl,HZ.out.1,fun j h=>by rw [HZ.out.2 j h];simp,rfl⟩
 case round =>
  obtain ⟨k,ss,hk,rfl,rfl,hsz,hss,rfl⟩:=hrel
  have hcar:=borW_01 x y k
  by_cases h8:k<M
  ·have h8i:(k:Int)<M:=by omega
   have h8s:k<ss.size:=by omega
   have bx:=hx k
   have b_y:=hy k
   have hsk:ss[k]?=some (.int .u64 0):=by rw [Array.getElem?_eq_getElem h8s,hss k h8s,if_neg (by omega)]
   have hadd:=fun w=>sub64 (x k) (y k) (borW x y k) bx.1 b_y.1 (by omega) hcar.1 hcar.2 w
   have hwa:=hw1 k ss
   have hwb:=hw2 k ss
   have HR:Hid (∀ (i:Nat) (h:i<(ss.setIfInBounds k (.int .u64 (difW x y k))).size),(ss.setIfInBounds k (.int .u64 (difW x y k)))[i]'h=Value.int .u64 (if i<k+1 then difW x y i else 0)):=set_next hss
   clear hss hw1 hw2 hfin hmk hx hy
   go_wp2_with (first|(go_at_call_of 55 (Value.slice a n c);refine hwa.mono ?_;rintro e w' ⟨rfl,rfl⟩)|(go_at_call_of 55 (Value.slice a' n' c');refine hwb.mono ?_;rintro e w' ⟨rfl,rfl⟩))
   go_roundw
   case rel=>exact ⟨k+1,ss.setIfInBounds k (.int .u64 (difW x y k)),by omega,by go_num,rfl,by simp [hsz],HR.out,rfl⟩
   case measure=>simp [intOf];omega
  ·obtain rfl:k=M:=by omega
   have hss':∀ j h,ss[j]'h=Value.int .u64 (difW x y j):=by
    intro j h;rw [hss j h,if_pos (by omega)]
   have hT:=ftrim_any _ _ _ _ _ (by omega) (hfin ss hsz hss')
   have hle:=sizeL_le (difZ x y (max n n')) k
   clear hss hss' hw1 hw2 hfin hmk hx hy
   go_wp2_with (go_at_call 56;refine hT.mono ?_;rintro e w1 ⟨g,cap,rfl,hN,hB,hfg⟩)
   go_ret
   exact ⟨g,_,cap,rfl,Nat.le_trans hle (Nat.le_of_eq HM.out.symm),hN,(below1 w _).trans (hB.mono (by simp)),by simp at hfg;omega,sizeL_sizeL _ _⟩
theorem frgt_p (b off n c q r:Nat)(s:Int)(x:Nat->Int)(w:World)(hn:n<4000000000)(hq0:q<100000)(hr0:r<64)(hrp:0<r)(hq:s/64=q)(hr:s%64=r)(hs:0<=s)(hqn:q<n)(h:Num w (some ⟨b,off,none⟩) n c x) :
  Calls Tryz.prog 49 #[.slice (some ⟨b,off,none⟩) n c,.int .i64 s] w fun e w'=>∃ g k cap,e=.returned (.tuple #[.slice (some ⟨g,0,none⟩) k cap,.bool (goneB x q r)])/\k<=n/\Num w' (some ⟨g,0,none⟩) k cap (shrW x q r)/\Below w.heap.size w w'/\w.heap.size<=g:=by
 have hx:=h.2.2.1
 have zx:=h.2.2.2.1
 have hc:b<w.heap.size/\∀ i,i<n->w.cell? ⟨b,off+i,none⟩=some (.int .u64 (x i)):=by
  rcases h.2.2.2.2 with ⟨h,_⟩|⟨b',off',h,hbs,hc⟩
  ·cases h
  ·cases h;exact ⟨hbs,hc⟩
 obtain ⟨hbs,hc⟩:=hc
 have hcap:=h.1
 have hs6:s<6400064:=by omega
 obtain ⟨i0,hi,hz0,hz1,hz2⟩:=info_parts Tryz.info22
 have HX:Hid (Num w (some ⟨b,off,none⟩) n c x):=h
 clear h
 go_enter Tryz.func49,Tryz.ntmps49
 go_wp2
 go_loop [6,7,13] (fun g u7 i=>∃ (k:Nat),k<=n/\i=.int .i64 k/\g=.bool (goneK x q r k)) (fun _ _ i=>n-(intOf i).toNat)
 case atStart=>exact ⟨0,Nat.zero_le _,rfl,by rw [goneK_zero]⟩
 case round =>
  obtain ⟨k,hk,rfl,rfl⟩:=hrel
  by_cases h8:k<n
  ·have h8i:(k:Int)<n:=by omega
   by_cases hkq:k<q
   ·have bx:=hx k
    have hcx:=hc k h8
    clear hc hx zx hi hz0 hz1 hz2
    have hkq':(k:Int)<q:=by omega
    by_cases hz:x k=0
    ·have hz':(x k != 0)=false:=by simp [hz]
     have hne:((k:Int)==q)=false:=by simp;omega
     have HG:Hid (goneK x q r (k+1)=goneK x q r k):=goneK_lt0 hkq hz
     generalize goneK x q r k=z at *
     go_wp2
     go_round
     case rel=>exact ⟨k+1,by omega,by go_num,by rw [HG.out]⟩
     case measure=>simp [intOf];omega
    ·have hz':(x k != 0)=true:=by simp [hz]
     have HG:Hid (goneK x q r (k+1)=true):=goneK_lt1 hkq hz
     generalize goneK x q r k=z at *
     go_wp2
     go_round
     case rel=>exact ⟨k+1,by omega,by go_num,by rw [HG.out]⟩
     case measure=>simp [intOf];omega
   ·have hkq':¬ (k:Int)<q:=by omega
    by_cases hke:k=q
    ·subst hke
     have bx:=hx k
     have hcx:=hc k h8
     have hand:=and_mask bx hr0
     have hpp:=p2_pos r
     have hpl:=p2_le hr0
     have HG:Hid (goneK x k r (k+1)=(goneK x k r k||decide (x k%2^r≠0))):=goneK_eq x k r
     clear hc hx zx hi hz0 hz1 hz2
     by_cases hm:x k%2^r=0
     ·rw [hm] at hand
      generalize goneK x k r k=z at *
      skip
      go_wp2
      go_round
      case rel=>exact ⟨k+1,by omega,by go_num,by rw [HG.out];simp [hm]⟩
      case measure=>simp [intOf];omega
     ·have hm':(x k%2^r != 0)=true:=by simp [hm]
      generalize goneK x k r k=z at *
      skip
      go_wp2
      go_round
      case rel=>exact ⟨k+1,by omega,by go_num,by rw [HG.out];simp [hm]⟩
      case measure=>simp [intOf];omega
    ·have hcx:=hc k h8
     have HG:Hid (goneK x q r (k+1)=goneK x q r k):=goneK_gt (by omega)
     generalize goneK x q r k=z at *
     clear hc hx zx hi hz0 hz1 hz2
     have hne:((k:Int)==q)=false:=by simp;omega
     go_wp2
     go_round
     case rel=>exact ⟨k+1,by omega,by go_num,by rw [HG.out]⟩
     case measure=>simp [intOf];omega
  ·obtain rfl:k=n:=by omega
   have HGB:Hid (goneK x q r k=goneB x q r):=goneK_end hqn
   generalize goneK x q r k=gz at *
   go_wp2
   go_loopw [8,9,10] (fun v i u10 wr=>∃ (j:Nat) (ao:Option Addr) (cp:Nat),j<=k-q/\i=.int .i64 ((q:Int)+j)/\v=.slice ao j cp/\wr.ownsRow w.heap.size 22 1 (.slice ao j cp) j (wl (shrW x q r) j)/\Below w.heap.size w wr) (fun _ i _ _=>k+1-(intOf i).toNat)
   case atStart=>exact ⟨0,none,0,Nat.zero_le _,by go_num,rfl,World.ownsRow_nil _ _ _ _,Below.refl _ _⟩
   case round =>
    obtain ⟨j,ao,cp,hj,rfl,rfl,hown,hB⟩:=hrel
    by_cases hlt:q+j<k
    ·have hlt':(q:Int)+j<k:=by omega
     have bx:=hx (q+j)
     have b_y:=hx (q+j+1)
     have e1:((q:Int)+j).toNat=q+j:=by omega
     have hcx:wr.cell? ⟨b,off+(q+j),none⟩=some (.int .u64 (x (q+j))):=(hB.cell (p:=⟨b,off+(q+j),none⟩) hbs).trans (hc (q+j) hlt)
     have HW:Hid (CQ 55 #[.slice (some ⟨b,off,none⟩) k c,.int .i64 ((q:Int)+j+1)] wr (.int .u64 (x (q+j+1)))):=by
      have:=word_any (some ⟨b,off,none⟩) k c (q+j+1) x wr (HX.out.next hB)
      rw [show ((q+j+1:Nat):Int)=(q:Int)+j+1 by omega] at this
      exact this.mono fun _ _ h=>⟨h.1,h.2.symm⟩
     have hbw:=hB.size
     have HO:Hid (wr.ownsRow w.heap.size 22 1 (.slice ao j cp) j (wl (shrW x q r) j)):=hown
     have HVAL:Hid (shrW x q r j=bits BinOp.or IntKind.u64 (x (q+j)/2^r) (IntKind.u64.wrap (x (q+j+1)*2^(64-r)))):=by show _=_;unfold shrW;rw [if_neg (by omega)];rfl
     have HOWN:(wr.alloc (.cells #[.int .u64 (bits BinOp.or IntKind.u64 (x (q+j)/2^r) (IntKind.u64.wrap (x (q+j+1)*2^(64-r))))] 22)).ownsRow w.heap.size 22 1 (.slice ao j cp) j (wl (shrW x q r) j):=hown.alloc _
     have HNEWS:∀ (p:Nat) (u:Value),[Value.int .u64 (bits BinOp.or IntKind.u64 (x (q+j)/2^r) (IntKind.u64.wrap (x (q+j+1)*2^(64-r))))][p]?=some u->(wr.alloc (.cells #[.int .u64 (bits BinOp.or IntKind.u64 (x (q+j)/2^r) (IntKind.u64.wrap (x (q+j+1)*2^(64-r))))] 22)).cell? ((⟨wr.heap.size,0,none⟩:Addr).add p)=some u:=by
      intro p u hp
      match p,hp with
      | 0,hp=>simp at hp;subst hp;simp [Addr.add]
     have HONE:∀ u ∈ [Value.int .u64 (bits BinOp.or IntKind.u64 (x (q+j)/2^r) (IntKind.u64.wrap (x (q+j+1)*2^(64-r))))],u.oneCell'=true:=by
      intro u hu;simp at hu;subst hu;rfl
     clear hc hx zx hown
     go_wp2_with (first|(at_builtin;refine wpList_append_lies _ rfl (.tmp 77) (.tmp 79) 48 rfl w.heap.size 22 i0 (.int .u64 0) 1 8 Tryz.underlying48 hi hz0 hz1 hz2 rfl (by decide) (.slice ao j cp) j (wl (shrW x q r) j) rfl HOWN ⟨wr.heap.size,0,none⟩ 1 1 [Value.int .u64 (bits BinOp.or IntKind.u64 (x (q+j)/2^r) (IntKind.u64.wrap (x (q+j+1)*2^(64-r))))] rfl rfl HNEWS HONE (by omega) (by unfold maxLen;omega) (by omega) (by simp;omega) (wr.heap.size+1) (by simp) ?_;intro g cap w1 hown1 hgrow hat hlt1;clear HOWN HNEWS HONE)|(go_at_call 55;refine HW.out.mono ?_;rintro e w' ⟨rfl,rfl⟩))
     have hown2:w1.ownsRow w.heap.size 22 1 (.slice (some ⟨g,0,none⟩) (j+1) cap) (j+1) (wl (shrW x q r) (j+1)):=by
      rw [← HVAL.out,wl_succ] at hown1;exact hown1
     have HB2:Below w.heap.size w w1:=(hB.alloc hbw _).grown hgrow (by simp;omega) (by
      intro p hp
      rcases ao with _|⟨bb,oo,sp⟩
      ·cases hp
      ·cases hp
       obtain ⟨_,h1⟩:=HO.out
       rcases h1 with ⟨h1,_⟩|⟨g',_,_,h1,h2,_⟩
       ·cases h1
       ·cases h1;exact h2)
     clear hown1 hgrow
     go_wp2
     go_roundw
     case rel=>exact ⟨j+1,some ⟨g,0,none⟩,cap,by omega,by go_num,rfl,hown2,HB2⟩
     case measure=>simp [intOf];omega
    ·have HZ:∀ i,j<=i->shrW x q r i=0:=fun i hi=>shrW_zero zx q r i (by omega)
     have hT:=ftrim_any ao j cp _ wr (by omega) (num_of_owns' (shrW_words hx q r) HZ hown)
     have hle:=sizeL_le (shrW x q r) j
     have hlt':¬ (q:Int)+j<k:=by omega
     clear hc hx zx hown HZ
     go_wp2_with (go_at_call 56;refine hT.mono ?_;rintro e w1 ⟨g,cap,rfl,hN,hB1,hfg⟩)
     go_ret2
     exact ⟨g,_,cap,by rw [HGB.out];rfl,by omega,hN,hB.trans (hB1.mono hB.size),Nat.le_trans hB.size hfg⟩
theorem fleft_z (b off n c q:Nat)(s:Int)(x:Nat->Int)(w:World)(hn:n<4000000000)(hq0:q<100000)(hq:s/64=q)(hr:s%64=0)(hs:0<=s)(h:Num w (some ⟨b,off,none⟩) n c x) :
  Calls Tryz.prog 22 #[.slice (some ⟨b,off,none⟩) n c,.int .i64 s] w fun e w'=>∃ g k cap,e=.returned (.slice (some ⟨g,0,none⟩) k cap)/\k<=n+q+1/\Num w' (some ⟨g,0,none⟩) k cap (finL x q 0)/\Below w.heap.size w w'/\w.heap.size<=g/\sizeL (finL x q 0) k=k:=by
 have hx:=h.2.2.1
 have zx:=h.2.2.2.1
 have hc:b<w.heap.size/\∀ i,i<n->w.cell? ⟨b,off+i,none⟩=some (.int .u64 (x i)):=by
  rcases h.2.2.2.2 with ⟨h,_⟩|⟨b',off',h,hbs,hc⟩
  ·cases h
  ·cases h;exact ⟨hbs,hc⟩
 obtain ⟨hbs,hc⟩:=hc
 have hcap:=h.1
 have hs6:s<6400064:=by omega
 obtain ⟨M,hM⟩:∃ M,n+q+1=M:=⟨_,rfl⟩
 have hMi:(n:Int)+q+1=(M:Int):=by omega
 have hmk:=fun w=>make_any ((n:Int)+q+1) M hMi (by omega) w
 have hfin:∀ (ss:Array Value) (m:Nat),ss.size=M->(∀ j h,ss[j]'h=Value.int .u64 (stL x q 0 n j))->Num ((w.alloc (.cells ss 22)).drewN m) (some ⟨w.heap.size,0,none⟩) M M (finL x q 0):=fun ss m h1 h2=>(num_of_block (by omega) (finL_words hx q 0) (fun i hi=>finL_zero hx zx q 0 (by omega) i (by omega)) h1 (fun j hj=>by rw [h2 j hj,stL_end hx zx q 0 j (by omega)])).drewN m
 have HM:Hid (n+q+1=M):=hM
 have HZ:Hid ((arrOf (fun _=>0) M).size=M/\∀ j h,(arrOf (fun _=>0) M)[j]'h=Value.int .u64 0):=⟨arrOf_size _ _,fun j h=>arrOf_get _ _ _ _⟩
 have hcw:∀ (ss:Array Value) i,i<n->(w.alloc (.cells ss 22)).cell? ⟨b,off+i,none⟩=some (.int .u64 (x i)):=fun ss i hi=>((below1 w _).cell (p:=⟨b,off+i,none⟩) hbs).trans (hc i hi)
 clear h zx hMi hc
 generalize arrOf (fun _=>0) M=zz at *
 go_enter Tryz.func22,Tryz.ntmps22
 go_wp2
 go_loopw [6,16] (fun u6 i wr=>∃ (k m:Nat) (ss:Array Value),k<=n/\i=.int .i64 k/\ss.size=M/\(∀ j h,ss[j]'h=Value.int .u64 (stL x q 0 k j))/\wr=(w.alloc (.cells ss 22)).drewN m) (fun _ i _=>n-(intOf i).toNat)
 case atStart=>exact ⟨0,0,zz,Nat.zero_le _,rfl,HZ.out.1,fun j h=>by rw [HZ.out.2 j h];unfold stL;(by_cases e:j<q+0);(rw [if_pos e];unfold finL;rw [if_neg (by omega)]);(rw [if_neg e];split;(unfold lowp;rw [if_neg (by omega)]);rfl),rfl⟩
 case round =>
  obtain ⟨k,m,ss,hk,rfl,hsz,hss,rfl⟩:=hrel
  by_cases h8:k<n
  ·have h8i:(k:Int)<n:=by omega
   have h8s:k+q<ss.size:=by omega
   have h8t:(k:Int)+q<M:=by omega
   have h8u:(k:Int)+q+1<M:=by omega
   have bx:=hx k
   have hcx:=hcw ss k h8
   have hsk:ss[k+q]?=some (.int .u64 (lowp x q 0 (q+k))):=by rw [Array.getElem?_eq_getElem h8s,hss _ h8s];unfold stL;rw [if_neg (by omega),if_pos (by omega),Nat.add_comm]
   have hgo:∀ h,ss[k+q]'h=.int .u64 (lowp x q 0 (q+k)):=fun h=>by rw [hss _ h];unfold stL;rw [if_neg (by omega),if_pos (by omega),Nat.add_comm]
   have hlow:=lowp_word hx q 0 (q+k)
   have e1:((k:Int)+q).toNat=k+q:=by omega
   have e2:((k:Int)+q+1).toNat=k+q+1:=by omega
   have HF:Hid (finL x q 0 (q+k)=bits BinOp.or IntKind.u64 (lowp x q 0 (q+k)) (x k)):=by
    show _=_;unfold finL;rw [if_pos (by omega),show q+k-q=k by omega];simp [orW,wrap_id _ bx]
   have HR:Hid (∀ (i:Nat) (h:i<(ss.setIfInBounds (k+q) (.int .u64 (finL x q 0 (q+k)))).size),(ss.setIfInBounds (k+q) (.int .u64 (finL x q 0 (q+k))))[i]'h=Value.int .u64 (stL x q 0 (k+1) i)):=stL_step0 hss
   clear hss hfin hmk hx
   generalize hlo:lowp x q 0 (q+k)=lo at *
   clear hcw
   go_wp2
   go_region
   go_wp2
   go_roundw
   case rel=>refine ⟨k+1,m+1,ss.setIfInBounds (k+q) (.int .u64 (finL x q 0 (q+k))),by omega,by go_num,by simp [hsz],HR.out,?_⟩;rw [HF.out]
   case measure=>simp [intOf];omega
  ·obtain rfl:k=n:=by omega
   have hT:=ftrim_any _ _ _ _ _ (by omega) (hfin ss m hsz hss)
   have hle:=sizeL_le (finL x q 0) M
   clear hss hfin hmk hx hcw
   go_wp2_with (go_at_call 56;refine hT.mono ?_;rintro e w1 ⟨g,cap,rfl,hN,hB,hfg⟩)
   go_ret
   exact ⟨g,_,cap,rfl,Nat.le_trans hle (Nat.le_of_eq HM.out.symm),hN,(below_drewN (below1 w _) m).trans (hB.mono (by simp)),by simp at hfg;omega,sizeL_sizeL _ _⟩
theorem fleft_p (b off n c q r:Nat)(s:Int)(x:Nat->Int)(w:World)(hn:n<4000000000)(hq0:q<100000)(hr0:r<64)(hrp:0<r)(hq:s/64=q)(hr:s%64=r)(hs:0<=s)(h:Num w (some ⟨b,off,none⟩) n c x) :
  Calls Tryz.prog 22 #[.slice (some ⟨b,off,none⟩) n c,.int .i64 s] w fun e w'=>∃ g k cap,e=.returned (.slice (some ⟨g,0,none⟩) k cap)/\k<=n+q+1/\Num w' (some ⟨g,0,none⟩) k cap (finL x q r)/\Below w.heap.size w w'/\w.heap.size<=g/\sizeL (finL x q r) k=k:=by
 have hx:=h.2.2.1
 have zx:=h.2.2.2.1
 have hc:b<w.heap.size/\∀ i,i<n->w.cell? ⟨b,off+i,none⟩=some (.int .u64 (x i)):=by
  rcases h.2.2.2.2 with ⟨h,_⟩|⟨b',off',h,hbs,hc⟩
  ·cases h
  ·cases h;exact ⟨hbs,hc⟩
 obtain ⟨hbs,hc⟩:=hc
 have hcap:=h.1
 have hs6:s<6400064:=by omega
 obtain ⟨M,hM⟩:∃ M,n+q+1=M:=⟨_,rfl⟩
 have hMi:(n:Int)+q+1=(M:Int):=by omega
 have hmk:=fun w=>make_any ((n:Int)+q+1) M hMi (by omega) w
 have hfin:∀ (ss:Array Value) (m:Nat),ss.size=M->(∀ j h,ss[j]'h=Value.int .u64 (stL x q r n j))->Num ((w.alloc (.cells ss 22)).drewN m) (some ⟨w.heap.size,0,none⟩) M M (finL x q r):=fun ss m h1 h2=>(num_of_block (by omega) (finL_words hx q r) (fun i hi=>finL_zero hx zx q r (by omega) i (by omega)) h1 (fun j hj=>by rw [h2 j hj,stL_end hx zx q r j (by omega)])).drewN m
 have HM:Hid (n+q+1=M):=hM
 have HZ:Hid ((arrOf (fun _=>0) M).size=M/\∀ j h,(arrOf (fun _=>0) M)[j]'h=Value.int .u64 0):=⟨arrOf_size _ _,fun j h=>arrOf_get _ _ _ _⟩
 have hcw:∀ (ss:Array Value) i,i<n->(w.alloc (.cells ss 22)).cell? ⟨b,off+i,none⟩=some (.int .u64 (x i)):=fun ss i hi=>((below1 w _).cell (p:=⟨b,off+i,none⟩) hbs).trans (hc i hi)
 clear h zx hMi hc
 generalize arrOf (fun _=>0) M=zz at *
 go_enter Tryz.func22,Tryz.ntmps22
 go_wp2
 go_loopw [6,16] (fun u6 i wr=>∃ (k m:Nat) (ss:Array Value),k<=n/\i=.int .i64 k/\ss.size=M/\(∀ j h,ss[j]'h=Value.int .u64 (stL x q r k j))/\wr=(w.alloc (.cells ss 22)).drewN m) (fun _ i _=>n-(intOf i).toNat)
 case atStart=>exact ⟨0,0,zz,Nat.zero_le _,rfl,HZ.out.1,fun j h=>by rw [HZ.out.2 j h];unfold stL;(by_cases e:j<q+0);(rw [if_pos e];unfold finL;rw [if_neg (by omega)]);(rw [if_neg e];split;(unfold lowp;rw [if_neg (by omega)]);rfl),rfl⟩
 case round =>
  obtain ⟨k,m,ss,hk,rfl,hsz,hss,rfl⟩:=hrel
  by_cases h8:k<n
  ·have h8i:(k:Int)<n:=by omega
   have h8s:k+q<ss.size:=by omega
   have h8t:(k:Int)+q<M:=by omega
   have h8u:(k:Int)+q+1<M:=by omega
   have bx:=hx k
   have hcx:=hcw ss k h8
   have hsk:ss[k+q]?=some (.int .u64 (lowp x q r (q+k))):=by rw [Array.getElem?_eq_getElem h8s,hss _ h8s];unfold stL;rw [if_neg (by omega),if_pos (by omega),Nat.add_comm]
   have hgo:∀ h,ss[k+q]'h=.int .u64 (lowp x q r (q+k)):=fun h=>by rw [hss _ h];unfold stL;rw [if_neg (by omega),if_pos (by omega),Nat.add_comm]
   have h8v:k+q+1<ss.size:=by omega
   have hsl:ss[k+q+1]?=some (.int .u64 0):=by rw [Array.getElem?_eq_getElem h8v,hss _ h8v];unfold stL;rw [if_neg (by omega),if_neg (by omega)]
   have hlow:=lowp_word hx q r (q+k)
   have e1:((k:Int)+q).toNat=k+q:=by omega
   have e2:((k:Int)+q+1).toNat=k+q+1:=by omega
   have HF:Hid (finL x q r (q+k)=bits BinOp.or IntKind.u64 (lowp x q r (q+k)) (IntKind.u64.wrap (x k*2^r))):=by
    show _=_;unfold finL;rw [if_pos (by omega),show q+k-q=k by omega];rfl
   have HR:Hid (∀ (i:Nat) (h:i<((ss.setIfInBounds (k+q) (.int .u64 (finL x q r (q+k)))).setIfInBounds (k+q+1) (.int .u64 (x k/2^(64-r)))).size),((ss.setIfInBounds (k+q) (.int .u64 (finL x q r (q+k)))).setIfInBounds (k+q+1) (.int .u64 (x k/2^(64-r))))[i]'h=Value.int .u64 (stL x q r (k+1) i)):=stL_step1 hrp hss
   clear hss hfin hmk hx
   generalize hlo:lowp x q r (q+k)=lo at *
   have hcx':=hcw (ss.setIfInBounds (k+q) (.int .u64 (bits BinOp.or IntKind.u64 lo (IntKind.u64.wrap (x k*2^r))))) k h8
   clear hcw
   go_wp2
   go_region
   go_wp2
   go_roundw
   case rel=>refine ⟨k+1,m+1,(ss.setIfInBounds (k+q) (.int .u64 (finL x q r (q+k)))).setIfInBounds (k+q+1) (.int .u64 (x k/2^(64-r))),by omega,by go_num,by simp [hsz],HR.out,?_⟩;rw [HF.out]
   case measure=>simp [intOf];omega
  ·obtain rfl:k=n:=by omega
   have hT:=ftrim_any _ _ _ _ _ (by omega) (hfin ss m hsz hss)
   have hle:=sizeL_le (finL x q r) M
   clear hss hfin hmk hx hcw
   go_wp2_with (go_at_call 56;refine hT.mono ?_;rintro e w1 ⟨g,cap,rfl,hN,hB,hfg⟩)
   go_ret
   exact ⟨g,_,cap,rfl,Nat.le_trans hle (Nat.le_of_eq HM.out.symm),hN,(below_drewN (below1 w _) m).trans (hB.mono (by simp)),by simp at hfg;omega,sizeL_sizeL _ _⟩
end
theorem p64' (q r:Nat):(18446744073709551616:Int)^q*2^r=2^(64*q+r):=by rw [Int.mul_comm];exact p64 q r
theorem len_bd {x:Nat->Int}(hx:Words x){n:Nat}(h:0<sizeL x n):∃ L:Nat,lenL x n=(L:Int)+1/\2^L<=val x n/\val x n<2^(L+1):=by
 obtain ⟨j,hj⟩:∃ j,sizeL x n=j+1:=⟨sizeL x n-1,by omega⟩
 have ht:=sizeL_top (x:=x) n h
 rw [hj] at ht
 have hxj:=hx j
 have hne:x j≠0:=ht
 obtain ⟨u,hu⟩:=Int.eq_ofNat_of_zero_le hxj.1
 have hb:=bitLen_spec u (by omega) (by omega)
 have hv:val x n=val x j+x j*18446744073709551616^j:=by rw [← val_bare n,hj];rfl
 have hbd:=val_bd hx j
 have hP:=pw_pos j
 refine ⟨64*j+(Lib.bitLen u-1),?_,?_,?_⟩
 ·unfold lenL;rw [if_neg (by omega),hj]
  show 64*((j+1:Nat):Int)-64+(Lib.bitLen (x j).toNat:Nat)=_
  rw [hu,Int.toNat_natCast];omega
 ·rw [hv,← p64',hu]
  have h1:(2:Int)^(Lib.bitLen u-1)<=u:=by rw [← powCast];omega
  have h2:18446744073709551616^j*2^(Lib.bitLen u-1)<=18446744073709551616^j*(u:Int):=Int.mul_le_mul_of_nonneg_left h1 (Int.le_of_lt hP)
  rw [Int.mul_comm _ (u:Int)] at h2
  omega
 ·rw [hv,show 64*j+(Lib.bitLen u-1)+1=64*j+Lib.bitLen u by omega,← p64',hu]
  have h1:(u:Int)+1<=2^Lib.bitLen u:=by rw [← powCast];omega
  have h2:18446744073709551616^j*((u:Int)+1)<=18446744073709551616^j*2^Lib.bitLen u:=Int.mul_le_mul_of_nonneg_left h1 (Int.le_of_lt hP)
  rw [Int.mul_add,Int.mul_one,Int.mul_comm _ (u:Int)] at h2
  omega
theorem word_mod {q:Nat->Int}(hq:Words q){N m r:Nat}(hm:m<N)(hr:r<=64)(h:val q N%2^(64*m+r)=0):q m%2^r=0:=by
 obtain ⟨k,rfl⟩:∃ k,N=m+(k+1):=⟨N-m-1,by omega⟩
 have hs:=val_split q m (k+1)
 have h1:val (segW q m (k+1)) (k+1)=q m+val (segW q (m+1) k) k*18446744073709551616:=by
  have:=val_split (segW q m (k+1)) 1 k
  rw [Nat.add_comm 1 k] at this
  rw [this]
  have e1:val (segW q m (k+1)) 1=q m:=by simp [val,segW]
  have e2:val (segW (segW q m (k+1)) 1 k) k=val (segW q (m+1) k) k:=val_congr k fun i hi=>by
   rw [segW_lt _ _ _ i hi,segW_lt _ _ _ i hi,segW_lt _ _ _ (1+i) (by omega)];congr 1;omega
  rw [e1,e2];simp
 have hb:=val_bd hq m
 rw [← p64'] at h
 have hd:(18446744073709551616:Int)^m*2^r∣val q (m+(k+1)):=Int.dvd_of_emod_eq_zero h
 obtain ⟨c,hc⟩:=hd
 rw [hs] at hc
 have hm0:val q m=0:=by
  have e:val q m=(2^r*c-val (segW q m (k+1)) (k+1))*18446744073709551616^m:=by grind
  rcases Int.lt_trichotomy (2^r*c-val (segW q m (k+1)) (k+1)) 0 with hl|he|hg
  ·have:(2^r*c-val (segW q m (k+1)) (k+1))*18446744073709551616^m<=(-1)*18446744073709551616^m:=Int.mul_le_mul_of_nonneg_right (by omega) (Int.le_of_lt (pw_pos m))
   have:=pw_pos m
   omega
  ·rw [he,Int.zero_mul] at e;exact e
  ·have:1*18446744073709551616^m<=(2^r*c-val (segW q m (k+1)) (k+1))*18446744073709551616^m:=Int.mul_le_mul_of_nonneg_right (by omega) (Int.le_of_lt (pw_pos m))
   omega
 have h2:val (segW q m (k+1)) (k+1)=2^r*c:=by
  have hp:=pw_pos m
  have e:(val (segW q m (k+1)) (k+1)-2^r*c)*18446744073709551616^m=0:=by grind
  rcases Int.mul_eq_zero.1 e with h3|h3
  ·omega
  ·omega
 rw [h1] at h2
 have e3:=p2_split hr
 have:q m=2^r*(c-val (segW q (m+1) k) k*2^(64-r)):=by
  rw [← e3] at h2;grind
 rw [this];exact Int.mul_emod_right _ _
theorem or_bit {u:Int}{r:Nat}(hu:0<=u/\u<=18446744073709551615)(hr:r<64)(h:u%2^(r+1)=0):orW u (2^r)=u+2^r/\u+2^r<=18446744073709551615:=by
 have hp:=p2_pos r
 have hl:=p2_le hr
 obtain ⟨n,rfl⟩:=Int.eq_ofNat_of_zero_le hu.1
 rw [← powCast,← Int.natCast_emod] at h
 have hn:n%2^(r+1)=0:=by omega
 obtain ⟨k,rfl⟩:=Nat.dvd_of_mod_eq_zero hn
 have hlt:2^r<2^(r+1):=Nat.pow_lt_pow_right (by omega) (by omega)
 have e:=Nat.two_pow_add_eq_or_of_lt hlt k
 have h64:2^(r+1)*k ||| 2^r<2^64:=Nat.or_lt_two_pow (by omega) (Nat.pow_lt_pow_right (by omega) hr)
 have hw:(2:Int)^r<=18446744073709551615:=by omega
 rw [orW_eq _ _ hu ⟨by omega,hw⟩,Int.toNat_natCast,← powCast,Int.toNat_natCast,← e]
 rw [← e] at h64
 constructor
 ·rw [Int.natCast_add]
 ·have:((2^(r+1)*k:Nat):Int)+((2^r:Nat):Int)=((2^(r+1)*k+2^r:Nat):Int):=by rw [Int.natCast_add]
  rw [this];omega
theorem mod_half {Q T:Int}(h:Q%(T*2)=0):Q%T=0:=by
 obtain ⟨c,hc⟩:=Int.dvd_of_emod_eq_zero h
 rw [hc,Int.mul_assoc];exact Int.mul_emod_right _ _
theorem half_any (g k c:Nat)(z:Nat->Int)(w:World)(hk:0<k)(hk2:k<1000000)(h:Num w (some ⟨g,0,none⟩) k c z) :
  Calls Tryz.prog 49 #[.slice (some ⟨g,0,none⟩) k c,.int .i64 1] w fun e w'=>∃ g' k' cap b z',e=.returned (.tuple #[.slice (some ⟨g',0,none⟩) k' cap,.bool b])/\k'<=k/\Num w' (some ⟨g',0,none⟩) k' cap z'/\(∀ V,val z k=V*2->val z' k'=V)/\Below w.heap.size w w'/\w.heap.size<=g':=by
 refine (frgt_p g 0 k c 0 1 1 z w (by omega) (by omega) (by omega) (by omega) (by decide) (by decide) (by decide) hk h).mono fun e w' ⟨g',k',cap,e1,hk',hN,hB,hf⟩=>⟨g',k',cap,_,_,e1,hk',hN,fun V hV=>?_,hB,hf⟩
 have hd:=dn_val h.2.2.1 (r:=1) (by omega) k
 rw [h.2.2.2.1 k (Nat.le_refl _),hV,← val_more hN.2.2.2.1 k hk'] at *
 have e2:(2:Int)^1=2:=rfl
 rw [e2] at hd
 have:=Int.emod_nonneg (z 0) (show (2:Int)≠0 by decide)
 have:=Int.emod_lt_of_pos (z 0) (show (0:Int)<2 by decide)
 simp at hd
 omega
theorem fleft_val (b off n c:Nat)(d:Int)(x:Nat->Int)(w:World)(hn:n<1000000)(hd:0<=d)(hd2:d<=6300000)(h:Num w (some ⟨b,off,none⟩) n c x) :
  Calls Tryz.prog 22 #[.slice (some ⟨b,off,none⟩) n c,.int .i64 d] w fun e w'=>∃ g k cap z,e=.returned (.slice (some ⟨g,0,none⟩) k cap)/\k<=n+d.toNat/64+1/\Num w' (some ⟨g,0,none⟩) k cap z/\val z k=val x n*2^d.toNat/\Below w.heap.size w w'/\w.heap.size<=g/\sizeL z k=k:=by
 obtain ⟨q,hq⟩:∃ q:Nat,d/64=q:=⟨(d/64).toNat,by omega⟩
 obtain ⟨r,hr⟩:∃ r:Nat,d%64=r:=⟨(d%64).toNat,by omega⟩
 have hdn:d.toNat=64*q+r:=by omega
 have hr64:r<64:=by omega
 have hq2:q<99000:=by omega
 have hx:=h.2.2.1
 have hv:=finL_val hx h.2.2.2.1 q hr64
 rw [hdn]
 by_cases hr0:0<r
 ·exact (fleft_p b off n c q r d x w (by omega) (by omega) hr64 hr0 hq hr hd h).mono fun e w' ⟨g,k,cap,e1,hk,hN,hB,hf,htr⟩=>⟨g,k,cap,_,e1,by omega,hN,by rw [← hv,val_more hN.2.2.2.1 _ hk],hB,hf,htr⟩
 ·obtain rfl:r=0:=by omega
  exact (fleft_z b off n c q d x w (by omega) (by omega) hq hr hd h).mono fun e w' ⟨g,k,cap,e1,hk,hN,hB,hf,htr⟩=>⟨g,k,cap,_,e1,by omega,hN,by rw [← hv,val_more hN.2.2.2.1 _ hk],hB,hf,htr⟩
theorem frless_val (a a':Option Addr)(n c n' c':Nat)(x y:Nat->Int)(w:World)(hn:n<4000000000)(hn':n'<4000000000)(h:Num w a n c x)(h':Num w a' n' c' y)(hv:val y n'<=val x n) :
  Calls Tryz.prog 50 #[.slice a n c,.slice a' n' c'] w fun e w'=>∃ g k cap z,e=.returned (.slice (some ⟨g,0,none⟩) k cap)/\k<=max n n'/\Num w' (some ⟨g,0,none⟩) k cap z/\val z k=val x n-val y n'/\Below w.heap.size w w'/\w.heap.size<=g/\sizeL z k=k:=by
 refine (frless_any a a' n c n' c' x y w (by omega) (by omega) h h').mono fun e w' ⟨g,k,cap,e1,hk,hN,hB,hf,htr⟩=>⟨g,k,cap,_,e1,hk,hN,?_,hB,hf,htr⟩
 have ex:=val_more h.2.2.2.1 (max n n') (by omega)
 have ey:=val_more h'.2.2.2.1 (max n n') (by omega)
 have e:=dif_val h.2.2.1 h'.2.2.1 (max n n')
 rw [borW_end h.2.2.1 h'.2.2.1 (by omega),ex,ey] at e
 rw [← val_more hN.2.2.2.1 _ hk,val_congr (y:=difW x y) (max n n') fun i hi=>by unfold difZ;rw [if_pos hi]]
 omega
theorem pos_len {z:Nat->Int}{k:Nat}(h:0<val z k):0<k:=by
 rcases Nat.eq_zero_or_pos k with e|e
 ·subst e;simp [val] at h
 ·exact e
theorem shrW_val {y:Nat->Int}{n q r A:Nat}(hy:Words y)(hz:∀ i,n<=i->y i=0)(hr:r<64)(m:Nat)(hm:n<=m)(hA:val y n=A):val (shrW y q r) m=((A/2^(64*q+r):Nat):Int):=by
 have hw:Words (fun i=>y (q+i)):=fun i=>hy (q+i)
 have e1:shrW y q r=shrW (fun i=>y (q+i)) 0 r:=by
  funext j;unfold shrW;simp only [Nat.zero_add,Nat.add_assoc]
 have h1:=dn_val hw hr m
 have h2:y (q+m)=0:=hz _ (by omega)
 simp only [h2,Int.zero_emod,Int.zero_mul,Int.add_zero,Nat.add_zero] at h1
 have h3:=val_split y q m
 have h4:val (segW y q m) m=val (fun i=>y (q+i)) m:=val_congr m fun i hi=>segW_lt y q m i hi
 rw [h4,val_more hz (q+m) (by omega),hA] at h3
 rw [e1]
 have hb1:=val_bd hy q
 have hb2:=val_bd (shrW_words hw (q:=0) (r:=r)) m
 have hp:(0:Int)<2^r:=p2_pos r
 have hm1:=Int.emod_nonneg (y q) (Int.ne_of_gt hp)
 have hm2:=Int.emod_lt_of_pos (y q) hp
 generalize val (shrW (fun i=>y (q+i)) 0 r) m=S at *
 generalize val (fun i=>y (q+i)) m=Z at *
 have eZ:Z/2^r=S:=by
  rw [← h1,Int.add_comm,Int.add_mul_ediv_right _ _ (Int.ne_of_gt hp),Int.ediv_eq_zero_of_lt hm1 hm2,Int.zero_add]
 have eA:(A:Int)/18446744073709551616^q=Z:=by
  rw [h3,Int.add_mul_ediv_right _ _ (Int.ne_of_gt (pw_pos q)),Int.ediv_eq_zero_of_lt hb1.1 hb1.2,Int.zero_add]
 rw [← eZ,← eA,Int.natCast_ediv,Int.ediv_ediv_of_nonneg (Int.le_of_lt (pw_pos q)),p64']
 simp
theorem val_one1 (c:Int):val (oneW c) 1=c:=by simp [val,oneW]
theorem pow_half (s:Int)(m:Nat):s^m=(if m%2=1 then s else 1)*(s*s)^(m/2):=by
 have e:(s*s)^(m/2)=s^(2*(m/2)):=by rw [Int.pow_mul];congr 1;rw [Int.pow_succ,Int.pow_succ,Int.pow_zero,Int.one_mul]
 rw [e]
 by_cases h:m%2=1
 ·rw [if_pos h,Int.mul_comm,← Int.pow_succ];congr 1;omega
 ·rw [if_neg h,Int.one_mul];congr 1;omega
theorem rpow_any (b:Int)(n:Nat)(w:World)(hb:0<=b/\b<=18446744073709551615)(hn:n<=17000) :
  Calls Tryz.prog 26 #[.int .u64 b,.int .i64 n] w fun e w'=>∃ g k cap z,e=.returned (.slice (some ⟨g,0,none⟩) k cap)/\k<=4*n+2/\Num w' (some ⟨g,0,none⟩) k cap z/\val z k=b^n/\Below w.heap.size w w':=by
 have hN1:=num_one w 1 (by decide)
 have hB1:=below1 w (.cells #[.int .u64 1] 22)
 have hN2:=num_one (w.alloc (.cells #[.int .u64 1] 22)) b hb
 have hB2:=below1 (w.alloc (.cells #[.int .u64 1] 22)) (.cells #[.int .u64 b] 22)
 have hN1':=hN1.next hB2
 have hB:=hB1.trans (hB2.mono hB1.size)
 have hs:(w.alloc (.cells #[.int .u64 1] 22)).heap.size=w.heap.size+1:=by simp
 rw [hs] at hN2
 have HB:Hid (Below w.heap.size w ((w.alloc (.cells #[.int .u64 1] 22)).alloc (.cells #[.int .u64 b] 22))):=hB
 clear hN1 hB1 hB2 hB hs
 go_enter Tryz.func26,Tryz.ntmps26
 go_wp2
 generalize (w.alloc (.cells #[.int .u64 1] 22)).alloc (.cells #[.int .u64 b] 22)=wA at *
 go_loopw [1,5,6] (fun nv ov sv wr=>∃ (m P g1 k1 p1 g2 k2 p2:Nat) (z1 z2:Nat->Int),nv=.int .i64 m/\m<=n/\1<=P/\m*P<=n/\P<=2*n+1/\ov=.slice (some ⟨g1,0,none⟩) k1 p1/\sv=.slice (some ⟨g2,0,none⟩) k2 p2/\k1+1<=2*P/\k2+1<=2*P/\Num wr (some ⟨g1,0,none⟩) k1 p1 z1/\Num wr (some ⟨g2,0,none⟩) k2 p2 z2/\Hid (val z1 k1*val z2 k2^m=b^n)/\Below w.heap.size w wr) (fun nv _ _ _=>(intOf nv).toNat)
 case atStart=>exact ⟨n,1,w.heap.size,1,1,w.heap.size+1,1,1,oneW 1,oneW b,rfl,Nat.le_refl _,Nat.le_refl _,by omega,by omega,rfl,rfl,by omega,by omega,hN1',hN2,by show _=_;rw [val_one1,val_one1,Int.one_mul],HB.out⟩
 case round =>
  clear hN1' hN2 HB
  obtain ⟨m,P,g1,k1,p1,g2,k2,p2,z1,z2,rfl,hmn,hP,hmP,hP2,rfl,rfl,hk1,hk2,hN1,hN2,hv,hB⟩:=hrel
  by_cases h0:m=0
  ·subst h0
   have HV:Hid (val z1 k1=b^n):=by show _=_;have:=hv.out;simpa using this
   have HN1:Hid (Num wr (some ⟨g1,0,none⟩) k1 p1 z1):=hN1
   clear hN1 hN2 hv
   go_wp2
   go_ret
   exact ⟨g1,k1,p1,z1,rfl,by omega,HN1.out,HV.out,hB⟩
  ·have hm0:(0:Int)<m:=by omega
   have hPn:P<=n:=by
    have:1*P<=m*P:=Nat.mul_le_mul_right P (by omega)
    omega
   have hq2:(m:Int)/2=((m/2:Nat):Int):=by omega
   have hr2:(m:Int)%2=((m%2:Nat):Int):=by omega
   have hmP':m/2*(2*P)<=n:=by
    have h1:m/2*2<=m:=Nat.div_mul_le_self m 2
    have h2:m/2*2*P<=m*P:=Nat.mul_le_mul_right P h1
    rw [← Nat.mul_assoc];omega
   have HPH:Hid (val z2 k2^m=(if m%2=1 then val z2 k2 else 1)*(val z2 k2*val z2 k2)^(m/2)):=pow_half _ _
   have tt:=fun wr (hb:Below w.heap.size w wr) h1 h2=>times_val g1 0 k1 p1 g2 0 k2 p2 z1 z2 wr (by omega) (by omega) h1 h2
   have ts:=fun wr (hb:Below w.heap.size w wr) h2=>times_val g2 0 k2 p2 g2 0 k2 p2 z2 z2 wr (by omega) (by omega) h2 h2
   generalize hq:m/2=q at *
   by_cases hodd:m%2=1
   ·rw [hodd] at hr2
    rw [if_pos hodd] at HPH
    have t1:=tt wr hB hN1 hN2
    by_cases hq0:q=0
    ·subst hq0
     have hq00:(m:Int)/2=0:=hq2
     clear hq2
     go_wp2_with (go_at_call 24;refine t1.mono ?_;rintro e w1 ⟨g3,k3,p3,z3,rfl,hk3,hN3,hv3,hb1⟩;clear tt t1)
     have HV3:Hid (val z3 k3*val z2 k2^0=b^n):=by
      show _=_
      rw [hv3,← hv.out,HPH.out];simp
     have HN3:Hid (Num w1 (some ⟨g3,0,none⟩) k3 p3 z3):=hN3
     have HN2:Hid (Num w1 (some ⟨g2,0,none⟩) k2 p2 z2):=hN2.next hb1
     have hB1:=hB.trans (hb1.mono hB.size)
     clear hN1 hN2 hN3 hv hv3 ts
     go_roundw
     case rel=>exact ⟨0,2*P,g3,k3,p3,g2,k2,p2,z3,z2,rfl,by omega,by omega,by omega,by omega,rfl,rfl,by omega,by omega,HN3.out,HN2.out,HV3,hB1⟩
     case measure=>simp [intOf];omega
    ·have hq0':(0:Int)<q:=by omega
     go_wp2_with (go_at_call 24;refine t1.mono ?_;rintro e w1 ⟨g3,k3,p3,z3,rfl,hk3,hN3,hv3,hb1⟩;clear tt t1)
     have hB1:=hB.trans (hb1.mono hB.size)
     have hN21:=hN2.next hb1
     have t2:=ts w1 hB1 hN21
     go_wp2_with (go_at_call 24;refine t2.mono ?_;rintro e w2 ⟨g4,k4,p4,z4,rfl,hk4,hN4,hv4,hb2⟩;clear ts t2)
     have HV3:Hid (val z3 k3*val z4 k4^q=b^n):=by
      show _=_
      rw [hv3,hv4,← hv.out,HPH.out,Int.mul_assoc]
     have HN3:Hid (Num w2 (some ⟨g3,0,none⟩) k3 p3 z3):=hN3.next hb2
     have HN4:Hid (Num w2 (some ⟨g4,0,none⟩) k4 p4 z4):=hN4
     have hB2:=hB1.trans (hb2.mono hB1.size)
     clear hN1 hN2 hN3 hN21 hN4 hv hv3 hv4
     go_roundw
     case rel=>exact ⟨q,2*P,g3,k3,p3,g4,k4,p4,z3,z4,rfl,by omega,by omega,by omega,by omega,rfl,rfl,by omega,by omega,HN3.out,HN4.out,HV3,hB2⟩
     case measure=>simp [intOf];omega
   ·have h20:m%2=0:=by omega
    rw [h20] at hr2
    rw [if_neg hodd,Int.one_mul] at HPH
    have hq0':(0:Int)<q:=by omega
    have t2:=ts wr hB hN2
    go_wp2_with (go_at_call 24;refine t2.mono ?_;rintro e w2 ⟨g4,k4,p4,z4,rfl,hk4,hN4,hv4,hb2⟩;clear ts tt t2)
    have HV3:Hid (val z1 k1*val z4 k4^q=b^n):=by
     show _=_
     rw [hv4,← hv.out,HPH.out]
    have HN3:Hid (Num w2 (some ⟨g1,0,none⟩) k1 p1 z1):=hN1.next hb2
    have HN4:Hid (Num w2 (some ⟨g4,0,none⟩) k4 p4 z4):=hN4
    have hB2:=hB.trans (hb2.mono hB.size)
    clear hN1 hN2 hN4 hv hv4
    go_roundw
    case rel=>exact ⟨q,2*P,g1,k1,p1,g4,k4,p4,z1,z4,rfl,by omega,by omega,by omega,by omega,rfl,rfl,by omega,by omega,HN3.out,HN4.out,HV3,hB2⟩
    case measure=>simp [intOf];omega
def fitsP (n:Int)(x:Nat->Int):Prop:=okN n/\lenL (lowW x 4) 4<=widthN n
instance (n:Int) (x:Nat->Int):Decidable (fitsP n x):=inferInstanceAs (Decidable (_/\_))
theorem box_num {w0 w:World}{ax:Array Value}{t:TypeId}{x:Nat->Int}(hx:Words x)(hax:∀ i,i<4->ax[i]?=some (.int .u64 (x i)))(hb:Below (w0.alloc (.cells ax t)).heap.size (w0.alloc (.cells ax t)) w) :
  Num w (some ⟨w0.heap.size,0,none⟩) 4 4 (lowW x 4) :=
 ((HasN.of_alloc w0 ax t 4 x hax).next hb).num hx (Nat.le_refl _) (Nat.le_refl _) (by unfold maxLen;omega)
theorem below_drewF {B:Nat}{a w:World}{m:Nat}(h:Below B a w):Below B a (w.drewN m):=⟨h.os,h.tape,h.output,h.size,h.block⟩
theorem num_drewN {w:World}{a:Option Addr}{n c:Nat}{x:Nat->Int}(h:Num w a n c x)(m:Nat):Num (w.drewN m) a n c x:=h
theorem fits_any (n:Int)(x:Nat->Int)(hx:Words x)(ax:Array Value)(hax:∀ i,i<4->ax[i]?=some (.int .u64 (x i)))(hs:ax.size=4)(w:World)(hT:Tab w) :
  CB 119 #[.int .i64 n,.agg ax] w (.bool (decide (fitsP n x))):=by
 have c1:=fun w hT=>ofv_any n w hT
 have f1:=fields_bounds n
 by_cases hn:okN n
 ·have hE:infoE n=0:=if_pos hn
  rw [hE] at c1
  have hd:decide (fitsP n x)=decide (lenL (lowW x 4) 4<=widthN n):=by unfold fitsP;simp [hn]
  go_enter Tryz.func119,Tryz.ntmps119
  go_wp2_with (go_at_call 81;refine (c1 _ (hT.alloc _)).mono ?_;rintro e w1 ⟨rfl,hb⟩)
  have hN:=((box_num hx hax hb).next (below1' w1 (.cells #[.int .i64 (numN n),.string (nameN n),.int .i64 (baseN n),.int .i64 (widthN n),.int .i64 (precN n),.int .i64 (expN n),.int .i64 (leastN n),.int .i64 (mostN n),.int .i64 (payN n),.bool (denseN n)] 95)))
  have cl:=fun m=>(nlen_any _ _ _ _ _ (by decide) (num_drewN hN m)).mono (fun e w' h=>(⟨h.1,h.2.symm⟩:e=.returned (.int .i64 (lenL (lowW x 4) 4))/\w'=_))
  clear hN
  go_quiet ((go_at_call 71;exact Calls.quiet_of_same (cl _)))
  all_goals
   go_wp2
   go_ret
   refine ⟨?_,below_drewF (((below1' w _).trans (hb.mono (below1' w _).size)).alloc (Nat.le_trans (below1' w _).size hb.size) _)⟩
   rw [hd]
   rfl
 ·have hE:infoE n=1:=if_neg hn
  rw [hE] at c1
  have hd:decide (fitsP n x)=false:=decide_eq_false fun h=>hn h.1
  rw [hd]
  go_enter Tryz.func119,Tryz.ntmps119
  go_wp2_with (go_at_call 81;refine (c1 _ (hT.alloc _)).mono ?_;rintro e w1 ⟨rfl,hb⟩)
  go_quiet (fail)
  all_goals
   go_wp2
   go_ret
   exact ⟨rfl,below_drewF (((below1' w _).trans (hb.mono (below1' w _).size)).alloc (Nat.le_trans (below1' w _).size hb.size) _)⟩
theorem rfits_any (n:Int)(x:Nat->Int)(hx:Words x)(ax:Array Value)(hax:∀ i,i<4->ax[i]?=some (.int .u64 (x i)))(hs:ax.size=4)(w:World) :
  CB 44 #[.int .i64 n,.agg ax] w (.bool (decide (fitsP n x))):=by
 have c1:=fun w=>rofv_any n w
 have f1:=fields_bounds n
 by_cases hn:okN n
 ·have hE:infoE n=0:=if_pos hn
  rw [hE] at c1
  have hd:decide (fitsP n x)=decide (lenL (lowW x 4) 4<=widthN n):=by unfold fitsP;simp [hn]
  go_enter Tryz.func44,Tryz.ntmps44
  go_wp2_with (go_at_call 20;refine (c1 _).mono ?_;rintro e w1 ⟨rfl,hb⟩)
  have hN:=((box_num hx hax hb).next (below1' w1 (.cells #[.int .i64 (numN n),.string (nameN n),.int .i64 (baseN n),.int .i64 (widthN n),.int .i64 (precN n),.int .i64 (expN n),.int .i64 (leastN n),.int .i64 (mostN n),.int .i64 (payN n),.bool (denseN n)] 45)))
  have cl:=fun m=>(rlen_num _ _ _ _ _ (by decide) (num_drewN hN m)).mono (fun e w' h=>(⟨h.1,h.2.symm⟩:e=.returned (.int .i64 (lenL (lowW x 4) 4))/\w'=_))
  clear hN
  go_quiet ((go_at_call 23;exact Calls.quiet_of_same (cl _)))
  all_goals
   go_wp2
   go_ret
   refine ⟨?_,below_drewF (((below1' w _).trans (hb.mono (below1' w _).size)).alloc (Nat.le_trans (below1' w _).size hb.size) _)⟩
   rw [hd]
   rfl
 ·have hE:infoE n=1:=if_neg hn
  rw [hE] at c1
  have hd:decide (fitsP n x)=false:=decide_eq_false fun h=>hn h.1
  rw [hd]
  go_enter Tryz.func44,Tryz.ntmps44
  go_wp2_with (go_at_call 20;refine (c1 _).mono ?_;rintro e w1 ⟨rfl,hb⟩)
  go_quiet (fail)
  all_goals
   go_wp2
   go_ret
   exact ⟨rfl,below_drewF (((below1' w _).trans (hb.mono (below1' w _).size)).alloc (Nat.le_trans (below1' w _).size hb.size) _)⟩
theorem p10_posN (n:Nat):(0:Int)<10^n:=Int.pow_pos (by decide)
theorem val_ones:∀ t,val (fun _=>18446744073709551615) t=18446744073709551616^t-1
 | 0=>by simp [val]
 | t+1=>by
  show val (fun _=>18446744073709551615) t+18446744073709551615*18446744073709551616^t=18446744073709551616^(t+1)-1
  rw [val_ones t,Int.pow_succ];omega
theorem size_bound {z:Nat->Int}(hz:Words z){k t:Nat}(hs:sizeL z k=k)(hv:val z k<18446744073709551616^t):k<=t:=by
 rcases Nat.lt_or_ge t k with h|h
 ·have:=val_longer (x:=fun _=>18446744073709551615) (fun _=>(by decide:(0:Int)<=18446744073709551615/\(18446744073709551615:Int)<=18446744073709551615)) hz h hs
  rw [val_ones] at this;omega
 ·exact h
theorem p19:∀ t:Nat,(10:Int)^(19*t)<=18446744073709551616^t
 | 0=>by simp
 | t+1=>by
  have ih:=p19 t
  have e:(10:Int)^(19*(t+1))=10^(19*t)*10000000000000000000:=by rw [Nat.mul_add,Int.pow_add];rfl
  rw [e,Int.pow_succ]
  have h0:=pw_pos t
  have h1:=p10_posN (19*t)
  generalize (18446744073709551616:Int)^t=A at *
  generalize (10:Int)^(19*t)=B at *
  omega
theorem pow_le10 {b:Int}(hb:0<=b)(hb2:b<=10):∀ e:Nat,0<=b^e/\b^e<=10^e
 | 0=>by simp
 | e+1=>by
  have ih:=pow_le10 hb hb2 e
  rw [Int.pow_succ,Int.pow_succ]
  exact ⟨Int.mul_nonneg ih.1 hb,Int.mul_le_mul ih.2 hb2 hb (Int.le_of_lt (p10_posN e))⟩
theorem pow_small {b:Int}(hb:0<=b)(hb2:b<=10){e:Nat}(he:e<=12000):b^e<18446744073709551616^632:=by
 have h1:=(pow_le10 hb hb2 e).2
 have h2:=p19 632
 have h3:(10:Int)^e<10^(19*632):=by
  obtain ⟨k,hk⟩:∃ k,19*632=e+1+k:=⟨19*632-(e+1),by omega⟩
  rw [hk,Int.pow_add,Int.pow_succ]
  have:=p10_posN e
  have h4:=p10_posN k
  have h5:(10:Int)^e*10*1<=10^e*10*10^k:=Int.mul_le_mul_of_nonneg_left (by omega) (by omega)
  omega
 exact Int.lt_of_lt_of_le (Int.lt_of_le_of_lt h1 h3) h2
theorem npow_any (b:Int)(n:Nat)(w:World)(hb:b=5∨b=10)(hn:n<=12000) :
  Calls Tryz.prog 96 #[.int .i64 b,.int .i64 n] w fun e w'=>∃ g k cap z,e=.returned (.tuple #[.slice (some ⟨g,0,none⟩) k cap,.int .i64 0])/\k<=2001/\Num w' (some ⟨g,0,none⟩) k cap z/\val z k=b^n/\sizeL z k=k/\Below w.heap.size w w':=by
 have hb0:0<=b/\b<=10:=by omega
 have hbc:b=5∨b=10:=hb
 have hb2:(b==2)=false:=by simp;omega
 have hN1:=num_one w 1 (by decide)
 have hBB:=below1 w (.cells #[.int .u64 1] 22)
 have hn':(n:Int)<=12000:=by omega
 have hlen:=Tryz.bits_Len n (w.alloc (.cells #[.int .u64 1] 22)) (by omega) (by omega)
 rw [Int.toNat_natCast] at hlen
 obtain ⟨L,hL⟩:∃ L,Lib.bitLen n=L:=⟨_,rfl⟩
 have hL64:L<=64:=by rw [← hL];exact bitLen64 n
 have HLn:Hid (n/2^L=0):=by
  show _=_
  by_cases h0:n=0
  ·subst h0;simp
  ·have:=bitLen_spec n (by omega) (by omega)
   rw [hL] at this
   exact Nat.div_eq_of_lt this.2.2.2
 rw [hL] at hlen
 clear hL
 have HS1:Hid (sizeL (oneW 1) 1=1):=by show _=_;simp [sizeL,oneW]
 have hne:(b != 2)=true:=by simp;omega
 have hpick:(b != 5)=true/\(b != 10)=false∨(b != 5)=false:=by rcases hb with rfl|rfl<;>decide
 have hps:∀ e,e<=12000->b^e<18446744073709551616^632:=fun e he=>pow_small hb0.1 hb0.2 he
 have HPS:Hid (∀ e,e<=12000->b^e<18446744073709551616^632):=hps
 clear hps hb
 rcases hpick with ⟨h5,h10⟩|h5
 all_goals
  go_enter Tryz.func96,Tryz.ntmps96
  go_wp2_with (go_at_call 132;refine hlen.mono ?_;rintro e w' ⟨rfl,rfl⟩)
  generalize w.alloc (.cells #[.int .u64 1] 22)=wA at *
  go_loopw [6,7,40,51] (fun pv iv u40 u51 wr=>∃ (k kk g p:Nat) (z:Nat->Int),k<=L/\iv=.int .i64 ((k:Int)-1)/\pv=.slice (some ⟨g,0,none⟩) kk p/\kk<=632/\Num wr (some ⟨g,0,none⟩) kk p z/\sizeL z kk=kk/\Hid (val z kk=b^(n/2^k))/\Below w.heap.size w wr) (fun _ iv _ _ _=>(intOf iv+1).toNat)
  case atStart=>exact ⟨L,1,w.heap.size,1,oneW 1,Nat.le_refl _,by go_num,rfl,by omega,hN1,HS1.out,by show _=_;rw [val_one1,HLn.out,Int.pow_zero],hBB⟩
  case round =>
   clear hN1 hBB hlen
   obtain ⟨k,kk,g,p,z,hk,rfl,rfl,hkk,hN,hs,hv,hB⟩:=hrel
   by_cases h0:k=0
   ·subst h0
    have HV:Hid (val z kk=b^n):=by show _=_;have:=hv.out;simpa using this
    have HN:Hid (Num wr (some ⟨g,0,none⟩) kk p z):=hN
    have HS:Hid (sizeL z kk=kk):=hs
    clear hN hv hs
    go_wp2
    go_ret2
    exact ⟨g,kk,p,z,rfl,by omega,HN.out,HV.out,HS.out,hB⟩
   ·obtain ⟨j,rfl⟩:∃ j,k=j+1:=⟨k-1,by omega⟩
    have ej:((j+1:Nat):Int)-1=j:=by omega
    rw [ej]
    obtain ⟨e,he⟩:∃ e,n/2^j=e:=⟨_,rfl⟩
    have hcast:(n:Int)/2^j=(e:Int):=by rw [← he,Int.natCast_ediv,powCast]
    have hen:e<=n:=by rw [← he];exact Nat.div_le_self _ _
    have hand:=Go.Proofs.and_one e (by omega)
    have hhalf:n/2^(j+1)=e/2:=by rw [Nat.pow_succ,← Nat.div_div_eq_div_mul,he]
    have m1:=nmul_any (some ⟨g,0,none⟩) (some ⟨g,0,none⟩) kk p kk p z z wr (by omega) (by omega) hN hN (by omega)
    have HV1:Hid (val z kk*val z kk=b^(2*(e/2))):=by
     show _=_
     rw [hv.out,hhalf,← Int.pow_add];congr 1;omega
    have HJ:Hid (j<=L):=by show _<=_;omega
    have HE:Hid (n/2^j=e):=he
    clear ej he hhalf hN hs hv
    by_cases hodd:e%2=1
    ·rw [hodd] at hand
     go_wp2_with (go_at_call 97;refine m1.mono ?_;rintro e' w1 ⟨g1,k1,p1,z1,rfl,hk1,hN1,hv1,hs1,hb1⟩;clear m1)
     rw [HV1.out] at hv1
     have hk1b:k1<=632:=size_bound hN1.2.2.1 hs1 (by rw [hv1];exact HPS.out _ (by omega))
     have hB1:=hB.trans (hb1.mono hB.size)
     have hNb:=num_one w1 b (by omega)
     have hbb:=below1 w1 (.cells #[.int .u64 b] 22)
     have hsb:=sizeL_le (oneW b) 1
     have m2:=nmul_any (some ⟨g1,0,none⟩) (some ⟨w1.heap.size,0,none⟩) k1 p1 1 1 z1 (oneW b) (w1.alloc (.cells #[.int .u64 b] 22)) (by omega) (by omega) (hN1.next hbb) hNb (by omega)
     have HBB:Hid (Below w.heap.size w (w1.alloc (.cells #[.int .u64 b] 22))):=hB1.trans (hbb.mono hB1.size)
     clear hN1 hNb hbb
     go_wp2_with (go_at_call 97;refine m2.mono ?_;rintro e' w2 ⟨g2,k2,p2,z2,rfl,hk2,hN2,hv2,hs2,hb2⟩;clear m2)
     have hv3:val z2 k2=b^e:=by
      rw [hv2,hv1,val_one1,← Int.pow_succ];congr 1;omega
     have hk2b:k2<=632:=size_bound hN2.2.2.1 hs2 (by rw [hv3];exact HPS.out _ (by omega))
     have hB2:=HBB.out.trans (hb2.mono HBB.out.size)
     have HN2:Hid (Num w2 (some ⟨g2,0,none⟩) k2 p2 z2):=hN2
     clear hN2
     go_roundw
     case rel=>exact ⟨j,k2,g2,p2,z2,HJ.out,by go_num,rfl,hk2b,HN2.out,hs2,by show _=_;rw [HE.out,hv3],hB2⟩
     case measure=>simp [intOf]
    ·have he0:e%2=0:=by omega
     rw [he0] at hand
     go_wp2_with (go_at_call 97;refine m1.mono ?_;rintro e' w1 ⟨g1,k1,p1,z1,rfl,hk1,hN1,hv1,hs1,hb1⟩;clear m1)
     have hv3:val z1 k1=b^e:=by
      rw [hv1,HV1.out];congr 1;omega
     have hk1b:k1<=632:=size_bound hN1.2.2.1 hs1 (by rw [hv3];exact HPS.out _ (by omega))
     have hB1:=hB.trans (hb1.mono hB.size)
     have HN1:Hid (Num w1 (some ⟨g1,0,none⟩) k1 p1 z1):=hN1
     clear hN1
     go_roundw
     case rel=>exact ⟨j,k1,g1,p1,z1,HJ.out,by go_num,rfl,hk1b,HN1.out,hs1,by show _=_;rw [HE.out,hv3],hB1⟩
     case measure=>simp [intOf]
end Go.Proofs.YtgknbdehlmlipaaGreatDoor
