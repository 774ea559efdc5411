/-
  Texts that the proof leans on.
-/
import Derived.Test.YtahfkpjhlbiamaaGreatDoorR1
import Derived.Test.YtahfkpjhlbiamaaGreatDoorR32
import Derived.Test.YtahfkpjhlbiamaaGreatDoorR24
import Derived.Test.YtahfkpjhlbiamaaGreatDoorR15
import Derived.Test.YtahfkpjhlbiamaaGreatDoorR26
import Derived.Test.YtahfkpjhlbiamaaGreatDoorR12
import Derived.Test.YtahfkpjhlbiamaaGreatDoorR33
import Derived.Test.YtahfkpjhlbiamaaGreatDoorR16
import Derived.Test.YtahfkpjhlbiamaaGreatDoorR18
import Derived.Test.YtahfkpjhlbiamaaGreatDoorR10
set_option linter.unusedVariables false
set_option linter.unusedSectionVars false
set_option linter.unusedSimpArgs false
set_option maxHeartbeats 8000000
set_option maxRecDepth 20000
namespace Go.Proofs.YtahfkpjhlbiamaaGreatDoor
open Go.RowKit
theorem zLq {N D:Nat}(lo:Int)(h:tnG N D lo):∀ k:Nat,¬ tnG N D (lo+k)->∃ E,TnE N D E
 | 0,h'=>absurd (by simpa using h) h'
 | k+1,h'=>by
  by_cases hk:tnG N D (lo+k)
  ·exact ⟨lo+k,hk,by rw [show lo+(k:Int)+1=lo+((k+1:Nat):Int) by omega];exact h'⟩
  ·exact zLq lo h k hk
theorem tnE_ex {N D:Nat}(hN:0<N)(hD:0<D):∃ E,TnE N D E:=by
 refine zLq (-(D:Int)) ?_ (N+D) ?_
 ·unfold tnG
  rw [show (-(D:Int)).toNat=0 by omega,Int.neg_neg,Int.toNat_natCast,Nat.pow_zero,Nat.mul_one]
  have h1:D<10^D:=Nat.lt_pow_self (by decide)
  exact Nat.le_trans (Nat.le_of_lt h1) (Nat.le_mul_of_pos_left _ hN)
 ·rw [show -(D:Int)+((N+D:Nat):Int)=(N:Int) by omega]
  unfold tnG
  rw [show (-(N:Int)).toNat=0 by omega,Int.toNat_natCast,Nat.pow_zero,Nat.mul_one]
  have h1:N<10^N:=Nat.lt_pow_self (by decide)
  have h2:10^N<=D*10^N:=Nat.le_mul_of_pos_left _ hD
  omega
def clT (x:Int):Int:=min (max x (-20000)) 20000
theorem clT_bd (x:Int):-20000<=clT x/\clT x<=20000:=by unfold clT;omega
theorem zK6 {A B:Nat}(h:B<=A):(0:Int)<=sgn (A:Int) (B:Int):=by
 rcases zBc (A:Int) (B:Int) with ⟨a,e⟩|⟨a,e⟩|⟨a,e⟩<;>omega
theorem zJ6 {A B:Nat}(h:¬ B<=A):¬ (0:Int)<=sgn (A:Int) (B:Int):=by
 rcases zBc (A:Int) (B:Int) with ⟨a,e⟩|⟨a,e⟩|⟨a,e⟩<;>omega
theorem zY4 {n:Int}(h:zPd n):(fD n).l+3*2^(fD n).w-1=(fD n).m:=rfl
theorem zXt {f:DF}(h:f.ok):-10000<=f.m/\f.m<=10000/\-10000<=f.l/\f.l<=10000/\f.l<=f.m/\2<=f.j/\f.j<=11:=by
 unfold DF.m
 rcases h with ⟨h1,h2,h3,h4⟩|⟨h1,h2,h3,h4⟩|⟨h1,h2,h3,h4⟩<;>rw [h2,h3,h4]<;>decide
theorem NT.blK {K V:Nat}{v:Value}{w:World}(h:NT K V v w):bl V<=64*K:=by
 obtain ⟨g,k,cap,z,h1,h2,h3,h4,h5⟩:=h
 exact (zZd (m:=K) h3.2.2.1 h4).1 (Nat.le_trans (zCa z k) h2)
theorem NT.fitU {K K' V:Nat}{v:Value}{w:World}(h:NT K V v w)(hb:bl V<=64*K'):NT K' V v w:=by
 obtain ⟨g,k,cap,z,h1,h2,h3,h4,h5⟩:=h
 exact ⟨g,k,cap,z,h1,by have:=(zZd (m:=K') h3.2.2.1 h4).2 hb;omega,h3,h4,h5⟩
theorem zT6 {A:Nat}{v v':Value}{w:World}(h:NT 4000 A v w)(hb:bl A<=6400)(h':NV 1 1 v' w)(hv:1<=A) :
  CE 126 #[v,v'] w (NV 4000 (A-1)) :=
 (zQq (K:=100) (by decide) (by decide) (h.fitU (K':=100) hb).nv h' hv).mono fun r w' ⟨u,e1,e2,e3⟩=>⟨u,e1,e2.nv.more (by decide),e3⟩
theorem zQ0 {n:Int}(h:zPd n){d:Int}(hkn:knB d)(s:Bool){N D:Nat}{vn vd:Value}{w:World}{E:Int}(exp want:Int)(hN0:0<N)(hD0:0<D)(hn:NT 400 N vn w)(hd:NT 400 D vd w)
  (hE:TnE (N*10^(clT exp).toNat) (D*10^(-(clT exp)).toNat) E) :
  CB 67 #[.int .i64 n,.int .i64 d,.bool s,vn,vd,.int .i64 exp,.int .i64 want] w (.tuple #[(dkD (fD n) d s (N*10^(clT exp).toNat) (D*10^(-(clT exp)).toNat) E want).v,.int .i64 (dkF (fD n) d s (N*10^(clT exp).toNat) (D*10^(-(clT exp)).toNat) E)]):=by
 have ho:=zCd n
 obtain ⟨m0,m1,l0,l1,lm,j0,j1⟩:=zXt ho
 have hc:=clT_bd exp
 have bN:bl N<=25600:=NT.blK hn
 have bD:bl D<=25600:=NT.blK hd
 have b1:=zKh N (10^(clT exp).toNat)
 have b2:=zDg (clT exp).toNat
 have b3:=zKh D (10^(-(clT exp)).toNat)
 have b4:=zDg (-(clT exp)).toNat
 have cS1:∀ W,Below w.heap.size w W->Calls Tryz.prog 65 #[vn,vd,.int .u64 10,.int .i64 (clT exp)] W fun r w'=>∃ a b,r=.returned (.tuple #[a,b])/\NT 7000 (N*10^(clT exp).toNat) a w'/\NT 7000 (D*10^(-(clT exp)).toNat) b w'/\Below W.heap.size W w':=fun W hW=>zEp (clT exp) (by omega) ((hn.next hW).more (by decide)) ((hd.next hW).more (by decide)) (by omega) (by omega)
 have hN1:0<N*10^(clT exp).toNat:=Nat.mul_pos hN0 (zWa _)
 have hD1:0<D*10^(-(clT exp)).toNat:=Nat.mul_pos hD0 (zWa _)
 have bN1:bl (N*10^(clT exp).toNat)<=106000:=by omega
 have bD1:bl (D*10^(-(clT exp)).toNat)<=106000:=by omega
 obtain ⟨gv,kv,cv,rfl,hkv,hzv⟩:=hn.zero
 have hkv0:(0:Int)<(kv:Int):=by
  have:kv≠0:=fun e=>by have:=hzv.1 e;omega
  omega
 have hm1:max exp (-20000)=max exp (-20000):=rfl
 have hm2:min (max exp (-20000)) 20000=clT exp:=rfl
 generalize N*10^(clT exp).toNat=N1 at *
 generalize D*10^(-(clT exp)).toNat=D1 at *
 have u:=zVm hD1 hE.1
 have l:=zLu hN1 hE.2
 have cT:∀ W a b,NT 7000 N1 a W->NT 7000 D1 b W->CB 130 #[a,b] W (.int .i64 E):=fun W a b ha hb=>rtensT hN1 hD1 hE (by omega) (by omega) ha hb
 have hq:max (fD n).l (E-(3*((fD n).j:Int)+1)+1)=dkQ (fD n) E:=by unfold dkQ;omega
 have hq0:-40000<=dkQ (fD n) E/\dkQ (fD n) E<=40000:=by unfold dkQ;omega
 have cS2:∀ W a b,NT 7000 N1 a W->NT 7000 D1 b W->Calls Tryz.prog 65 #[a,b,.int .u64 10,.int .i64 (-(dkQ (fD n) E))] W fun r w'=>∃ a' b',r=.returned (.tuple #[a',b'])/\NT 7000 (dkA N1 (dkQ (fD n) E)) a' w'/\NT 7000 (dkZ D1 (dkQ (fD n) E)) b' w'/\Below W.heap.size W w':=fun W a b ha hb=>by
  have:=zEp (-(dkQ (fD n) E)) (by omega) ha hb (by omega) (by omega)
  rw [Int.neg_neg] at this
  exact this
 have cP:∀ W,CE 64 #[.int .u64 10,.int .i64 (3*((fD n).j:Int)+1)] W (NT 4000 (10^(3*(fD n).j+1))):=fun W=>by
  have:=zQ6 (3*(fD n).j+1) W (by omega)
  rw [show ((3*(fD n).j+1:Nat):Int)=3*((fD n).j:Int)+1 by omega] at this
  exact this
 have cP1:∀ W,CE 64 #[.int .u64 10,.int .i64 (3*((fD n).j:Int)+1-1)] W (NT 4000 (10^(3*(fD n).j))):=fun W=>by
  have:=zQ6 (3*(fD n).j) W (by omega)
  rw [show ((3*(fD n).j:Nat):Int)=3*((fD n).j:Int)+1-1 by omega] at this
  exact this
 have hZ0:dkZ D1 (dkQ (fD n) E)≠0:=by have:=zUx hD1 (dkQ (fD n) E);omega
 have hC0:dkC0 (fD n) d s N1 D1 E=whC d s (dkA N1 (dkQ (fD n) E)) (dkZ D1 (dkQ (fD n) E)):=rfl
 have cW:∀ W a b,NT 7000 (dkA N1 (dkQ (fD n) E)) a W->NT 7000 (dkZ D1 (dkQ (fD n) E)) b W->Calls Tryz.prog 131 #[.int .i64 d,.bool s,a,b] W fun r w'=>∃ v,r=.returned (.tuple #[v,.bool (dkX (fD n) N1 D1 E)])/\NV 41002 (dkC0 (fD n) d s N1 D1 E) v w'/\Below W.heap.size W w':=fun W a b ha hb=>zIz d s hkn (by decide) ha hb hZ0
 have cC:∀ W v v',NV 41002 (dkC0 (fD n) d s N1 D1 E) v W->NT 4000 (10^(3*(fD n).j+1)) v' W->CQ 88 #[v,v'] W (.int .i64 (sgn ((dkC0 (fD n) d s N1 D1 E:Nat):Int) ((10^(3*(fD n).j+1):Nat):Int))):=fun W v v' h1 h2=>zQl (by decide) (by decide) h1 h2.nv
 have cO:=fun W=>zAj h W
 rw [zY4 h] at cO
 have hlim:(10:Nat)^(3*(fD n).j+1)<=10^34:=Nat.pow_le_pow_right (by decide) (by omega)
 have hML:∀ W v v',NT 4000 (10^(3*(fD n).j+1)) v W->NV 1 1 v' W->CE 126 #[v,v'] W (NV 4000 (10^(3*(fD n).j+1)-1)):=fun W v v' h1 h2=>zT6 h1 (Nat.le_trans (zDg _) (by omega)) h2 (zWa _)
 have hlow:(fD n).l+(3*((fD n).j:Int)+1)-1=(fD n).l+3*((fD n).j:Int):=by omega
 unfold dkD dkF
 by_cases hcar:10^(3*(fD n).j+1)<=dkC0 (fD n) d s N1 D1 E
 ·have hsv:=zK6 hcar
  have eE:dkE (fD n) d s N1 D1 E=dkQ (fD n) E+1:=if_pos hcar
  have eC:dkC (fD n) d s N1 D1 E=10^(3*(fD n).j):=if_pos hcar
  have hX:dkX (fD n) N1 D1 E=false:=by
   cases hx:dkX (fD n) N1 D1 E
   ·rfl
   ·exfalso
    have h0:dkA N1 (dkQ (fD n) E)%dkZ D1 (dkQ (fD n) E)=0:=of_decide_eq_true hx
    have h1:=dk_lt (f:=fD n) hE
    have h2:dkA N1 (dkQ (fD n) E)/dkZ D1 (dkQ (fD n) E)<10^(3*(fD n).j+1):=by rw [Nat.div_lt_iff_lt_mul (Nat.pos_of_ne_zero hZ0),Nat.mul_comm];exact h1
    rw [hC0] at hcar
    unfold whC faB at hcar
    rw [h0,if_pos rfl] at hcar
    simp only [Bool.false_eq_true,if_false] at hcar
    omega
  rw [eE,eC,hX]
  by_cases hmo:(fD n).m<dkQ (fD n) E+1
  ·rw [if_pos hmo,if_pos hmo]
   have cF:=fun W=>zNv d s W hkn
   cases hin:inB d s
   ·rw [hin] at cF
    exact rnd_cm n _ _ _ _ _ _ _ _ d s gv kv cv vd exp want _ _ E (dkQ (fD n) E) N1 D1 _ _ (dkC0 (fD n) d s N1 D1 E) _ _ w (by omega) (by omega) l0 l1 m0 m1 cO hkv0 hm1 hm2 (by omega) (by omega) hq (by omega) (by omega) cS1 cT cS2 cP cC (dkX (fD n) N1 D1 E) _ _ 0 0 0 cW hsv cP1 hmo cF hML (fun W v hv=>zDc hv)
   ·rw [hin] at cF
    have:=rnd_ci n _ _ _ _ _ _ _ _ d s gv kv cv vd exp want _ _ E (dkQ (fD n) E) N1 D1 _ _ (dkC0 (fD n) d s N1 D1 E) _ _ w (by omega) (by omega) l0 l1 m0 m1 cO hkv0 hm1 hm2 (by omega) (by omega) hq (by omega) (by omega) cS1 cT cS2 cP cC (dkX (fD n) N1 D1 E) _ 0 0 0 0 cW hsv cP1 hmo cF
    simp only [if_true]
    rw [show (Dat.mk 2 s false 0 0).v=.agg #[.int .i64 2,.bool s,.bool false,.int .i64 0,.int .u64 0,.int .u64 0,.int .u64 0,.int .u64 0] by unfold Dat.v DV;simp only [zNa]]
    exact this
  ·rw [if_neg hmo,if_neg hmo]
   simp only [Bool.false_eq_true,if_false]
   rw [hX] at cW
   by_cases hl:E<(fD n).l+3*((fD n).j:Int)
   ·rw [if_pos hl]
    exact rnd_cs n _ _ _ _ _ _ _ _ d s gv kv cv vd exp want _ _ E (dkQ (fD n) E) N1 D1 _ _ (dkC0 (fD n) d s N1 D1 E) _ _ w (by omega) (by omega) l0 l1 m0 m1 cO hkv0 hm1 hm2 (by omega) (by omega) hq (by omega) (by omega) cS1 cT cS2 cP cC false _ 0 0 0 0 cW hsv cP1 hmo (fun W v hv=>zDc hv.nv) (by omega)
   ·rw [if_neg hl]
    exact rnd_cr n _ _ _ _ _ _ _ _ d s gv kv cv vd exp want _ _ E (dkQ (fD n) E) N1 D1 _ _ (dkC0 (fD n) d s N1 D1 E) _ _ w (by omega) (by omega) l0 l1 m0 m1 cO hkv0 hm1 hm2 (by omega) (by omega) hq (by omega) (by omega) cS1 cT cS2 cP cC false _ 0 0 0 0 cW hsv cP1 hmo (fun W v hv=>zDc hv.nv) (by omega)
 ·have hsv:=zJ6 hcar
  have eE:dkE (fD n) d s N1 D1 E=dkQ (fD n) E:=if_neg hcar
  have eC:dkC (fD n) d s N1 D1 E=dkC0 (fD n) d s N1 D1 E:=if_neg hcar
  rw [eE,eC]
  by_cases hmo:(fD n).m<dkQ (fD n) E
  ·rw [if_pos hmo,if_pos hmo]
   have cF:=fun W=>zNv d s W hkn
   cases hin:inB d s
   ·rw [hin] at cF
    exact rnd_nm n _ _ _ _ _ _ _ _ d s gv kv cv vd exp want _ _ E (dkQ (fD n) E) N1 D1 _ _ (dkC0 (fD n) d s N1 D1 E) _ _ w (by omega) (by omega) l0 l1 m0 m1 cO hkv0 hm1 hm2 (by omega) (by omega) hq (by omega) (by omega) cS1 cT cS2 cP cC (dkX (fD n) N1 D1 E) 0 _ 0 0 0 cW hsv hmo cF hML (fun W v hv=>zDc hv)
   ·rw [hin] at cF
    have:=rnd_ni n _ _ _ _ _ _ _ _ d s gv kv cv vd exp want _ _ E (dkQ (fD n) E) N1 D1 _ _ (dkC0 (fD n) d s N1 D1 E) _ _ w (by omega) (by omega) l0 l1 m0 m1 cO hkv0 hm1 hm2 (by omega) (by omega) hq (by omega) (by omega) cS1 cT cS2 cP cC (dkX (fD n) N1 D1 E) 0 0 0 0 0 cW hsv hmo cF
    simp only [if_true]
    rw [show (Dat.mk 2 s false 0 0).v=.agg #[.int .i64 2,.bool s,.bool false,.int .i64 0,.int .u64 0,.int .u64 0,.int .u64 0,.int .u64 0] by unfold Dat.v DV;simp only [zNa]]
    exact this
  ·rw [if_neg hmo,if_neg hmo]
   cases hX:dkX (fD n) N1 D1 E
   ·simp only [Bool.false_eq_true,if_false]
    rw [hX] at cW
    by_cases hl:E<(fD n).l+3*((fD n).j:Int)
    ·rw [if_pos hl]
     exact rnd_ns n _ _ _ _ _ _ _ _ d s gv kv cv vd exp want _ _ E (dkQ (fD n) E) N1 D1 _ _ (dkC0 (fD n) d s N1 D1 E) _ _ w (by omega) (by omega) l0 l1 m0 m1 cO hkv0 hm1 hm2 (by omega) (by omega) hq (by omega) (by omega) cS1 cT cS2 cP cC false 0 0 0 0 0 cW hsv hmo (fun W v hv=>zDc hv) (by omega)
    ·rw [if_neg hl]
     exact rnd_nr n _ _ _ _ _ _ _ _ d s gv kv cv vd exp want _ _ E (dkQ (fD n) E) N1 D1 _ _ (dkC0 (fD n) d s N1 D1 E) _ _ w (by omega) (by omega) l0 l1 m0 m1 cO hkv0 hm1 hm2 (by omega) (by omega) hq (by omega) (by omega) cS1 cT cS2 cP cC false 0 0 0 0 0 cW hsv hmo (fun W v hv=>zDc hv) (by omega)
   ·simp only [if_true]
    have h0:dkA N1 (dkQ (fD n) E)%dkZ D1 (dkQ (fD n) E)=0:=of_decide_eq_true hX
    have eX:dkC0 (fD n) d s N1 D1 E=dkA N1 (dkQ (fD n) E)/dkZ D1 (dkQ (fD n) E):=by
     rw [hC0]
     unfold whC faB
     rw [h0,if_pos rfl]
     simp
    have cWx:∀ W a b,NT 7000 (dkA N1 (dkQ (fD n) E)) a W->NT 7000 (dkZ D1 (dkQ (fD n) E)) b W->Calls Tryz.prog 131 #[.int .i64 d,.bool s,a,b] W fun r w'=>∃ v,r=.returned (.tuple #[v,.bool true])/\NT 41000 (dkC0 (fD n) d s N1 D1 E) v w'/\Below W.heap.size W w':=fun W a b ha hb=>by
     rw [eX]
     exact zPo d s (by decide) ha hb hZ0 h0
    have hbl:bl (dkC0 (fD n) d s N1 D1 E)<=1000:=by
     refine Nat.le_trans (bl_le.2 (Nat.lt_of_lt_of_le (Nat.lt_of_not_le hcar) (Nat.le_trans hlim ?_))) (show 200<=1000 by decide)
     decide
    have hMM:dkM (fD n) d s N1 D1 E want=mbr (fD n).m want ((fD n).m-dkQ (fD n) E).toNat (dkC0 (fD n) d s N1 D1 E) (dkQ (fD n) E):=by unfold dkM;rw [eE,eC]
    rw [hMM]
    exact rnd_nx n _ _ _ _ _ _ _ _ d s gv kv cv vd exp want _ _ E (dkQ (fD n) E) N1 D1 _ _ (dkC0 (fD n) d s N1 D1 E) _ _ w (by omega) (by omega) l0 l1 m0 m1 cO hkv0 hm1 hm2 (by omega) (by omega) hq (by omega) (by omega) cS1 cT cS2 cP cC true 0 0 _ _ 0 cWx hsv hmo (fun W v hv=>zS6 n _ _ _ _ _ _ _ _ _ _ want v W (by omega) (by omega) (by omega) hbl hv) (fun W v hv=>zDc hv.nv)
noncomputable def tnX (N D:Nat):Int:=open Classical in if h:∃ E,TnE N D E then Classical.choose h else 0
theorem zUm {N D:Nat}(hN:0<N)(hD:0<D):TnE N D (tnX N D):=by
 have h:=tnE_ex hN hD
 unfold tnX
 rw [dif_pos h]
 exact Classical.choose_spec h
def rqE (n d:Int)(N D:Nat):Int:=if zPd n/\knB d/\D≠0 then (if 25600<bl N∨25600<bl D then 4 else 0) else 1
noncomputable def rqD (n d:Int)(s:Bool)(N D:Nat)(x y:Int):Dat :=
 if rqE n d N D=0 then (if N=0 then ⟨1,s,false,min (max y (fD n).l) (fD n).m,0⟩ else dkD (fD n) d s (N*10^(clT x).toNat) (D*10^(-(clT x)).toNat) (tnX (N*10^(clT x).toNat) (D*10^(-(clT x)).toNat)) y) else ⟨0,false,false,0,0⟩
noncomputable def rqF (n d:Int)(s:Bool)(N D:Nat)(x:Int):Int :=
 if rqE n d N D=0 then (if N=0 then 0 else dkF (fD n) d s (N*10^(clT x).toNat) (D*10^(-(clT x)).toNat) (tnX (N*10^(clT x).toNat) (D*10^(-(clT x)).toNat))) else 0
theorem zFp {n d:Int}{N D:Nat}(h:rqE n d N D=0):zPd n/\knB d/\D≠0/\bl N<=25600/\bl D<=25600:=by
 unfold rqE at h
 split at h
 ·rename_i h1
  split at h
  ·omega
  ·rename_i h2
   exact ⟨h1.1,h1.2.1,h1.2.2,by omega,by omega⟩
 ·omega
theorem rq_not {n d:Int}{s:Bool}{N D:Nat}{x y:Int}(h:rqE n d N D≠0):(rqD n d s N D x y).v=.agg #[.int .i64 0,.bool false,.bool false,.int .i64 0,.int .u64 0,.int .u64 0,.int .u64 0,.int .u64 0]/\rqF n d s N D x=0:=by
 unfold rqD rqF
 rw [if_neg h,if_neg h]
 refine ⟨?_,rfl⟩
 unfold Dat.v DV
 simp only [zNa]
theorem zJk (N D:Nat){e:Int}{a b:Nat}(h:(a:Int)-b=e):tnG N D e↔D*10^a<=N*10^b:=by
 obtain ⟨k,hk⟩:∃ k:Nat,a=e.toNat+k:=⟨a-e.toNat,by omega⟩
 have hb:b=(-e).toNat+k:=by omega
 unfold tnG
 rw [hk,hb,Nat.pow_add,Nat.pow_add,← Nat.mul_assoc,← Nat.mul_assoc]
 exact (Nat.mul_le_mul_right_iff (zWa k)).symm
theorem zU3 (N D:Nat)(e x:Int):tnG (N*10^x.toNat) (D*10^(-x).toNat) (e+x)↔tnG N D e:=by
 rw [zJk N D (show (((e+x).toNat+(-x).toNat:Nat):Int)-(((-(e+x)).toNat+x.toNat:Nat):Int)=e by omega)]
 unfold tnG
 rw [Nat.pow_add,Nat.pow_add,Nat.mul_assoc,Nat.mul_assoc,Nat.mul_comm (10^(e+x).toNat),Nat.mul_comm (10^(-(e+x)).toNat)]
theorem zBs {N D:Nat}{L:Int}(h:TnE N D L)(x:Int):TnE (N*10^x.toNat) (D*10^(-x).toNat) (L+x):=by
 unfold TnE at *
 rw [show L+x+1=L+1+x by omega,zU3,zU3]
 exact h
theorem tnX_sh {N D:Nat}{L:Int}(hN:0<N)(hD:0<D)(h:TnE N D L)(x:Int):tnX (N*10^x.toNat) (D*10^(-x).toNat)=L+x :=
 (zUm (Nat.mul_pos hN (zWa _)) (Nat.mul_pos hD (zWa _))).only (zBs h x)
theorem dk_at (N D:Nat)(x q:Int):∃ k,0<k/\dkA (N*10^x.toNat) q=N*10^(x-q).toNat*k/\dkZ (D*10^(-x).toNat) q=D*10^(-(x-q)).toNat*k:=by
 refine ⟨10^(x.toNat+(-q).toNat-(x-q).toNat),zWa _,?_,?_⟩
 ·unfold dkA
  rw [Nat.mul_assoc,Nat.mul_assoc,← Nat.pow_add,← Nat.pow_add]
  congr 2
  omega
 ·unfold dkZ
  rw [Nat.mul_assoc,Nat.mul_assoc,← Nat.pow_add,← Nat.pow_add]
  congr 2
  omega
theorem zF9 (f:DF)(d:Int)(s:Bool)(N D:Nat)(x E:Int):dkC0 f d s (N*10^x.toNat) (D*10^(-x).toNat) E=whC d s (N*10^(x-dkQ f E).toNat) (D*10^(-(x-dkQ f E)).toNat):=by
 obtain ⟨k,hk,h1,h2⟩:=dk_at N D x (dkQ f E)
 unfold dkC0
 rw [h1,h2,zM5 _ _ _ _ hk]
theorem dkX_at (f:DF)(N D:Nat)(x E:Int):dkX f (N*10^x.toNat) (D*10^(-x).toNat) E=decide (N*10^(x-dkQ f E).toNat%(D*10^(-(x-dkQ f E)).toNat)=0):=by
 obtain ⟨k,hk,h1,h2⟩:=dk_at N D x (dkQ f E)
 unfold dkX
 rw [h1,h2,Nat.mul_mod_mul_right]
 refine decide_eq_decide.2 ?_
 rw [Nat.mul_eq_zero]
 omega
theorem zN5 (d:Int)(s:Bool){A Z:Nat}(hA:0<A)(h:2*A<Z):whC d s A Z=if d≠0/\d≠1/\inB d s=true then 1 else 0:=by
 unfold whC faB
 rw [Nat.div_eq_of_lt (by omega),Nat.mod_eq_of_lt (by omega),if_neg (show ¬ A=0 by omega)]
 by_cases h0:d=0
 ·rw [if_pos h0,if_neg (by simp;omega),if_neg (by omega)]
 ·rw [if_neg h0]
  by_cases h1:d=1
  ·rw [if_pos h1,if_neg (by simp;omega),if_neg (by omega)]
  ·rw [if_neg h1]
   cases inB d s
   ·simp
   ·simp [h0,h1]
theorem zQ4 {f:DF}(hf:f.ok)(d:Int)(s:Bool){N D:Nat}{E:Int}(y:Int)(hN:0<N)(h:TnE N D E)(hE:E<=f.l-2) :
  dkD f d s N D E y=⟨1,s,false,f.l,if d≠0/\d≠1/\inB d s=true then 1 else 0⟩/\dkF f d s N D E=12:=by
 obtain ⟨m0,m1,l0,l1,lm,j0,j1⟩:=zXt hf
 have hq:dkQ f E=f.l:=by unfold dkQ;omega
 have hn:¬ tnG N D (f.l-1):=fun g=>h.2 (zIk g (by omega))
 rw [zJk N D (show ((f.l.toNat:Nat):Int)-(((-f.l).toNat+1:Nat):Int)=f.l-1 by omega),Nat.pow_succ,← Nat.mul_assoc] at hn
 have hA:0<dkA N f.l:=Nat.mul_pos hN (zWa _)
 have hAZ:dkA N f.l*10<dkZ D f.l:=by unfold dkA dkZ;omega
 have hC:dkC0 f d s N D E=if d≠0/\d≠1/\inB d s=true then 1 else 0:=by
  unfold dkC0
  rw [hq]
  exact zN5 d s hA (by omega)
 have hX:dkX f N D E=false:=by
  unfold dkX
  rw [hq,Nat.mod_eq_of_lt (by omega)]
  exact decide_eq_false (by omega)
 have hlt:¬ (10:Nat)^(3*f.j+1)<=dkC0 f d s N D E:=by
  have:(10:Nat)^1<=10^(3*f.j+1):=Nat.pow_le_pow_right (by decide) (by omega)
  rw [hC]
  split<;>omega
 have hEe:dkE f d s N D E=f.l:=by unfold dkE;rw [if_neg hlt,hq]
 have hCc:dkC f d s N D E=if d≠0/\d≠1/\inB d s=true then 1 else 0:=by unfold dkC;rw [if_neg hlt,hC]
 unfold dkD dkF
 rw [hEe,hX,hCc]
 have hml:¬ f.m<f.l:=by omega
 refine ⟨?_,?_⟩
 ·rw [if_neg hml];rfl
 ·rw [if_neg hml]
  show (if E<f.l+3*f.j then (12:Int) else 8)=12
  exact if_pos (by omega)
theorem zTx {f:DF}(d:Int)(s:Bool){N D:Nat}{E:Int}(y:Int)(hE:f.m+(3*f.j+1)<=E) :
  dkD f d s N D E y=(if inB d s then ⟨2,s,false,0,0⟩ else ⟨1,s,false,f.m,10^(3*f.j+1)-1⟩)/\dkF f d s N D E=10:=by
 have hq:f.m<dkE f d s N D E:=by unfold dkE dkQ;split<;>omega
 unfold dkD dkF
 rw [if_pos hq,if_pos hq]
 exact ⟨rfl,rfl⟩
def pX (f:DF)(L x:Int):Int:=min (max x (f.l-2-L)) (f.m+(3*f.j+1)-L)
theorem zZ2 {f:DF}(hf:f.ok)(d:Int)(s:Bool){N D:Nat}{L:Int}(x y:Int)(hN:0<N)(h:TnE N D L)(hL:-9000<=L/\L<=9000) :
  dkD f d s (N*10^(clT x).toNat) (D*10^(-(clT x)).toNat) (L+clT x) y=dkD f d s (N*10^(pX f L x).toNat) (D*10^(-(pX f L x)).toNat) (L+pX f L x) y
  /\ dkF f d s (N*10^(clT x).toNat) (D*10^(-(clT x)).toNat) (L+clT x)=dkF f d s (N*10^(pX f L x).toNat) (D*10^(-(pX f L x)).toNat) (L+pX f L x):=by
 obtain ⟨m0,m1,l0,l1,lm,j0,j1⟩:=zXt hf
 rcases Int.lt_or_le x (f.l-2-L) with c|c
 ·have e1:L+clT x<=f.l-2:=by unfold clT;omega
  have e2:L+pX f L x<=f.l-2:=by unfold pX;omega
  obtain ⟨a1,a2⟩:=zQ4 hf d s y (Nat.mul_pos hN (zWa _)) (zBs h (clT x)) e1
  obtain ⟨b1,b2⟩:=zQ4 hf d s y (Nat.mul_pos hN (zWa _)) (zBs h (pX f L x)) e2
  exact ⟨a1.trans b1.symm,a2.trans b2.symm⟩
 ·rcases Int.lt_or_le (f.m+(3*f.j+1)-L) x with c'|c'
  ·have e1:f.m+(3*f.j+1)<=L+clT x:=by unfold clT;omega
   have e2:f.m+(3*f.j+1)<=L+pX f L x:=by unfold pX;omega
   obtain ⟨a1,a2⟩:=zTx (f:=f) (N:=N*10^(clT x).toNat) (D:=D*10^(-(clT x)).toNat) d s y e1
   obtain ⟨b1,b2⟩:=zTx (f:=f) (N:=N*10^(pX f L x).toNat) (D:=D*10^(-(pX f L x)).toNat) d s y e2
   exact ⟨a1.trans b1.symm,a2.trans b2.symm⟩
  ·have e:clT x=pX f L x:=by unfold clT pX;omega
   rw [e]
   exact ⟨rfl,rfl⟩
theorem tn_bd {N D:Nat}{L:Int}(hN:0<N)(hD:0<D)(h1:bl N<=25600)(h2:bl D<=25600)(h:TnE N D L):-9000<=L/\L<=9000:=by
 have a:=zVm hD h.1
 have b:=zLu hN h.2
 omega
theorem zR8 {n d:Int}{s:Bool}{N D:Nat}{x y L:Int}(hE:rqE n d N D=0)(hN:N≠0)(h:TnE N D L) :
  rqD n d s N D x y=dkD (fD n) d s (N*10^(pX (fD n) L x).toNat) (D*10^(-(pX (fD n) L x)).toNat) (L+pX (fD n) L x) y
  /\ rqF n d s N D x=dkF (fD n) d s (N*10^(pX (fD n) L x).toNat) (D*10^(-(pX (fD n) L x)).toNat) (L+pX (fD n) L x):=by
 obtain ⟨h1,h2,h3,h4,h5⟩:=zFp hE
 have hN':0<N:=by omega
 have hD':0<D:=by omega
 obtain ⟨a,b⟩:=zZ2 (zCd n) d s x y hN' h (tn_bd hN' hD' h4 h5 h)
 unfold rqD rqF
 rw [if_pos hE,if_pos hE,if_neg hN,if_neg hN,tnX_sh hN' hD' h,a,b]
 exact ⟨rfl,rfl⟩
section
theorem zEw (m:Nat)(w:World)(hm:m<=12000):Calls Tryz.prog 56 #[.int .i64 10,.int .i64 (m:Int)] w fun r w'=>∃ v,r=.returned (.tuple #[v,.int .i64 0])/\NT 2001 (10^m) v w'/\Below w.heap.size w w':=by
 refine (zO1 10 m w (Or.inr rfl) hm).mono fun r w' ⟨g,k,cap,z,e1,hk,hN,hv,hs,hB⟩=>⟨_,e1,⟨g,k,cap,z,rfl,hk,hN,?_,hs⟩,hB⟩
 rw [hv];simp
attribute [local irreducible] W4 Nz Nt NT
theorem zCm (m:Nat)(w:World)(hm:m<=12000):CE 115 #[.int .i64 (m:Int)] w (NT 2001 (10^m)):=by
 have c1:=fun W=>zEw m W hm
 go_enter Tryz.func115,Tryz.ntmps115
 go_wp2_with (go_at_call 56;refine (c1 _).mono ?_;rintro r w1 ⟨v,rfl,hv,hb1⟩)
 go_ret
 exact ⟨v,rfl,hv,hb1⟩
theorem ddig_w {v:Value}{l:List UInt8}{w:World}(hl:l.length<=100000)(c1:∀ W,Below w.heap.size w W->CB 48 #[v] W (.tuple #[.string (B l),.int .i64 0])) :
  CB 175 #[v] w (.int .i64 (l.length:Int)):=by
 have hB:=zGa l
 go_enter Tryz.func175,Tryz.ntmps175
 go_wp2_with (go_at_call 48;refine (c1 _ bgo).mono ?_;rintro r w1 ⟨rfl,hb1⟩)
 go_ret
 exact ⟨by simp [hB],hb1⟩
theorem zA5 {K X:Nat}{v:Value}{w:World}(hK:K<100000)(h0:X≠0)(hb:bl X<=39785)(h:Nt K X v w):CB 175 #[v] w (.int .i64 ((dcW X).length:Int)):=by
 have:=zFm h0 hb
 exact ddig_w (by omega) fun W hW=>zP7 hK (by omega) h0 (h.next hW)
section
variable (m:Nat)(vn vd:Value)(w:World)(A P:Nat)
theorem zOx (n:Int)(hn:n<0)(hm:-n=(m:Int))(hm2:m<=12000)
  (c1:∀ W,CE 115 #[.int .i64 (m:Int)] W (NT 2001 (10^m)))
  (c2:∀ W p,Below w.heap.size w W->NT 2001 (10^m) p W->Calls Tryz.prog 81 #[vd,p] W fun e w'=>∃ u,e=.returned (.tuple #[u,.int .i64 0])/\NT 2001 P u w'/\Below W.heap.size W w') :
  Calls Tryz.prog 114 #[vn,vd,.int .i64 n] w fun r w'=>∃ v,r=.returned (.tuple #[vn,v])/\NT 2001 P v w'/\Below w.heap.size w w':=by
 obtain rfl:n=-(m:Int):=by omega
 clear hm
 have hm1:0<m:=by omega
 go_enter Tryz.func114,Tryz.ntmps114
 go_wp2_with (first
  | (go_at_call 115;refine (c1 _).mono ?_;rintro r w1 ⟨v1,rfl,hv1,hb1⟩)
  | (go_at_call 81;refine (c2 _ _ hb1 hv1).mono ?_;rintro r w2 ⟨v2,rfl,hv2,hb2⟩))
 exact bodyPost_ret (v:=.tuple #[vn,v2]) (by simp only [results,Tryz.results114];go_simp) rfl ⟨_,rfl,hv2,bnx hb1 hb2⟩
theorem zNx (hm2:m<=12000)
  (c1:∀ W,CE 115 #[.int .i64 (m:Int)] W (NT 2001 (10^m)))
  (c2:∀ W p,Below w.heap.size w W->NT 2001 (10^m) p W->Calls Tryz.prog 81 #[vn,p] W fun e w'=>∃ u,e=.returned (.tuple #[u,.int .i64 0])/\NT 2001 P u w'/\Below W.heap.size W w') :
  Calls Tryz.prog 114 #[vn,vd,.int .i64 (m:Int)] w fun r w'=>∃ v,r=.returned (.tuple #[v,vd])/\NT 2001 P v w'/\Below w.heap.size w w':=by
 go_enter Tryz.func114,Tryz.ntmps114
 go_wp2_with (first
  | (go_at_call 115;refine (c1 _).mono ?_;rintro r w1 ⟨v1,rfl,hv1,hb1⟩)
  | (go_at_call 81;refine (c2 _ _ hb1 hv1).mono ?_;rintro r w2 ⟨v2,rfl,hv2,hb2⟩))
 exact bodyPost_ret (v:=.tuple #[v2,vd]) (by simp only [results,Tryz.results114];go_simp) rfl ⟨_,rfl,hv2,bnx hb1 hb2⟩
end
theorem zCo (n:Int){N D:Nat}{vn vd:Value}{w:World}(h:Nt 2001 N vn w)(h':Nt 2001 D vd w)(hn:-12000<=n/\n<=12000)(h1:bl N+4*n.toNat+1<=127000)(h2:bl D+4*(-n).toNat+1<=127000) :
  Calls Tryz.prog 114 #[vn,vd,.int .i64 n] w fun r w'=>∃ va vb,r=.returned (.tuple #[va,vb])/\Nt 2001 (N*10^n.toNat) va w'/\Nt 2001 (D*10^(-n).toNat) vb w'/\Below w.heap.size w w':=by
 have t1:=zDg n.toNat
 have t2:=zDg (-n).toNat
 by_cases hn0:n<0
 ·have e0:n.toNat=0:=by omega
  rw [e0,Nat.pow_zero,Nat.mul_one]
  refine (zOx (-n).toNat vn vd w (D*10^(-n).toNat) n hn0 (by omega) (by omega) (fun W=>zCm _ W (by omega)) (fun W p hW hp=>zC4 (by decide) (by decide) (h'.next hW) hp.nt (by omega))).mono ?_
  rintro r w' ⟨v,e1,e2,e3⟩
  exact ⟨_,_,e1,h.next e3,e2.nt,e3⟩
 ·have e0:(-n).toNat=0:=by omega
  rw [e0,Nat.pow_zero,Nat.mul_one]
  have:=zNx n.toNat vn vd w (N*10^n.toNat) (by omega) (fun W=>zCm _ W (by omega)) (fun W p hW hp=>zC4 (by decide) (by decide) (h.next hW) hp.nt (by omega))
  rw [Int.toNat_of_nonneg (by omega)] at this
  refine this.mono ?_
  rintro r w' ⟨v,e1,e2,e3⟩
  exact ⟨_,_,e1,e2.nt,h'.next e3,e3⟩
section
variable (vn vd:Value)(w:World)(a b:Nat)(c:Int)(ha:a<=12000)(hb:b<=12000)
 (c1:∀ W,Below w.heap.size w W->CB 175 #[vn] W (.int .i64 (a:Int)))
 (c1d:∀ W,Below w.heap.size w W->CB 175 #[vd] W (.int .i64 (b:Int)))
 (c2:∀ W n,n=(b:Int)-a->Below w.heap.size w W->Calls Tryz.prog 114 #[vn,vd,.int .i64 n] W fun r w'=>∃ va vb,r=.returned (.tuple #[va,vb])/\Below W.heap.size W w'/\(∀ W',Below w'.heap.size w' W'->Calls Tryz.prog 57 #[va,vb] W' fun r w''=>r=.returned (.int .i64 c)/\Below W'.heap.size W' w''))
include ha hb c1 c1d c2
theorem zD9 (hc:c<0):CB 112 #[vn,vd] w (.int .i64 ((a:Int)-b-1)):=by
 go_enter Tryz.func112,Tryz.ntmps112
 go_wp2_with (first
  | (have:=hb2;go_at_call 114;refine (c2 _ _ (by omega) (bnx hb1 hb2)).mono ?_;rintro r w3 ⟨va,vb,rfl,hb3,c3⟩)
  | (go_at_call 57;refine (c3 _ (Below.refl _ _)).mono ?_;rintro r w4 ⟨rfl,hb4⟩)
  | (have:=hb1;go_at_call_of 175 vd;refine (c1d _ hb1).mono ?_;rintro r w2 ⟨rfl,hb2⟩)
  | (go_at_call_of 175 vn;refine (c1 _ bgo).mono ?_;rintro r w1 ⟨rfl,hb1⟩))
 go_ret
 exact ⟨rfl,bnx (bnx (bnx hb1 hb2) hb3) hb4⟩
theorem zE9 (hc:¬ c<0):CB 112 #[vn,vd] w (.int .i64 ((a:Int)-b)):=by
 go_enter Tryz.func112,Tryz.ntmps112
 go_wp2_with (first
  | (have:=hb2;go_at_call 114;refine (c2 _ _ (by omega) (bnx hb1 hb2)).mono ?_;rintro r w3 ⟨va,vb,rfl,hb3,c3⟩)
  | (go_at_call 57;refine (c3 _ (Below.refl _ _)).mono ?_;rintro r w4 ⟨rfl,hb4⟩)
  | (have:=hb1;go_at_call_of 175 vd;refine (c1d _ hb1).mono ?_;rintro r w2 ⟨rfl,hb2⟩)
  | (go_at_call_of 175 vn;refine (c1 _ bgo).mono ?_;rintro r w1 ⟨rfl,hb1⟩))
 go_ret
 exact ⟨rfl,bnx (bnx (bnx hb1 hb2) hb3) hb4⟩
end
theorem zQx {N D:Nat}{vn vd:Value}{w:World}(h:Nt 2001 N vn w)(h':Nt 2001 D vd w)(hN:N≠0)(hD:D≠0)(h1:bl N<=25600)(h2:bl D<=25600) :
  ∃ L,TnE N D L/\CB 112 #[vn,vd] w (.int .i64 L):=by
 obtain ⟨n1,n2,n3⟩:=zGy hN
 obtain ⟨d1,d2,d3⟩:=zGy hD
 have nm:=zFm hN (by omega)
 have dm:=zFm hD (by omega)
 have c1:=fun W (hb:Below w.heap.size w W)=>zA5 (by decide) hN (by omega) (h.next hb)
 have c1d:=fun W (hb:Below w.heap.size w W)=>zA5 (by decide) hD (by omega) (h'.next hb)
 generalize ha:(dcW N).length=a at *
 generalize hb:(dcW D).length=b at *
 have hab:3*a<=bl N+3/\3*b<=bl D+3:=by
  constructor
  ·have:=zVm (N:=N) (D:=1) (E:=(a:Int)-1) (by decide) (by rw [zJk N 1 (show (((a-1:Nat)):Int)-((0:Nat):Int)=(a:Int)-1 by omega)];omega)
   omega
  ·have:=zVm (N:=D) (D:=1) (E:=(b:Int)-1) (by decide) (by rw [zJk D 1 (show (((b-1:Nat)):Int)-((0:Nat):Int)=(b:Int)-1 by omega)];omega)
   omega
 have c2:∀ W n,n=(b:Int)-a->Below w.heap.size w W->Calls Tryz.prog 114 #[vn,vd,.int .i64 n] W fun r w'=>∃ va vb,r=.returned (.tuple #[va,vb])/\Below W.heap.size W w'/\(∀ W',Below w'.heap.size w' W'->Calls Tryz.prog 57 #[va,vb] W' fun r w''=>r=.returned (.int .i64 (sgn ((N*10^(-((a:Int)-b)).toNat:Nat):Int) ((D*10^((a:Int)-b).toNat:Nat):Int)))/\Below W'.heap.size W' w''):=by
  intro W n hn hW
  refine (zCo n (h.next hW) (h'.next hW) (by omega) (by omega) (by omega)).mono ?_
  rintro r w' ⟨va,vb,e1,e2,e3,e4⟩
  refine ⟨va,vb,e1,e4,fun W' hW'=>?_⟩
  rw [show n=-((a:Int)-b) by omega] at e2 e3
  rw [Int.neg_neg] at e3
  exact zAr (by decide) (by decide) (e2.next hW') (e3.next hW')
 have up:¬ tnG N D ((a:Int)-b+1):=by
  rw [zJk N D (show ((a:Nat):Int)-((b-1:Nat):Int)=(a:Int)-b+1 by omega)]
  intro hh
  have k1:N*10^(b-1)<10^a*10^(b-1):=Nat.mul_lt_mul_of_pos_right n3 (zWa _)
  have k2:10^a*10^(b-1)<=10^a*D:=Nat.mul_le_mul_left _ d2
  rw [Nat.mul_comm (10^a) D] at k2
  omega
 have lo:tnG N D ((a:Int)-b-1):=by
  rw [zJk N D (show ((a-1:Nat):Int)-((b:Nat):Int)=(a:Int)-b-1 by omega)]
  have k1:D*10^(a-1)<=10^b*10^(a-1):=Nat.mul_le_mul_right _ (Nat.le_of_lt d3)
  have k2:10^b*10^(a-1)<=10^b*N:=Nat.mul_le_mul_left _ n2
  rw [Nat.mul_comm (10^b) N] at k2
  omega
 have hcmp:tnG N D ((a:Int)-b)↔¬ sgn ((N*10^(-((a:Int)-b)).toNat:Nat):Int) ((D*10^((a:Int)-b).toNat:Nat):Int)<0:=by
  unfold tnG
  rcases zBc ((N*10^(-((a:Int)-b)).toNat:Nat):Int) ((D*10^((a:Int)-b).toNat:Nat):Int) with ⟨x,e⟩|⟨x,e⟩|⟨x,e⟩<;>omega
 by_cases hg:tnG N D ((a:Int)-b)
 ·exact ⟨(a:Int)-b,⟨hg,up⟩,zE9 vn vd w a b _ (by omega) (by omega) c1 c1d c2 (hcmp.1 hg)⟩
 ·refine ⟨(a:Int)-b-1,⟨lo,?_⟩,zD9 vn vd w a b _ (by omega) (by omega) c1 c1d c2 (Decidable.not_not.1 (mt hcmp.2 hg))⟩
  rw [show (a:Int)-b-1+1=(a:Int)-b by omega]
  exact hg
theorem zKx (n:Int)(nm:ByteArray)(wd P ex l m pa:Int)(dn:Bool)(lead x:Int)(w:World)(hP:0<=P/\P<=300)(hl:-100000<=l/\l<=100000)(hm:-100000<=m/\m<=100000)(hd:-100000<=lead/\lead<=100000) :
  CB 113 #[zEb n nm wd P ex l m pa dn,.int .i64 lead,.int .i64 x] w (.int .i64 (min (max x (l-2-lead)) (m+P-lead))):=by
 go_enter Tryz.func113,Tryz.ntmps113
 go_wp2
 go_ret
 exact ⟨by first|rfl|simp,bgo⟩
end
section
attribute [local irreducible] W4
section
variable (s:Bool)(x:Int)(z:Nat->Int)(w:World)
theorem zW4 :
  CB 111 #[.bool s,.slice none 0 0,.int .i64 x] w (.agg #[.int .i64 1,.bool s,.bool false,.int .i64 x,.int .u64 0,.int .u64 0,.int .u64 0,.int .u64 0]):=by
 have hsm:=zAa
 have hcp:=copy0
 go_enter Tryz.func111,Tryz.ntmps111
 go_wp2
 exact bodyPost_ret (v:=.agg #[.int .i64 1,.bool s,.bool false,.int .i64 x,.int .u64 0,.int .u64 0,.int .u64 0,.int .u64 0]) (by simp only [results,Tryz.results111];go_simp) rfl ⟨rfl,bgo⟩
theorem dfin_0 (b off cap:Nat)(hb:b<w.heap.size) :
  CB 111 #[.bool s,.slice (some ⟨b,off,none⟩) 0 cap,.int .i64 x] w (.agg #[.int .i64 1,.bool s,.bool false,.int .i64 x,.int .u64 0,.int .u64 0,.int .u64 0,.int .u64 0]):=by
 have hsm:=zAa
 have hcp:=copy0
 go_enter Tryz.func111,Tryz.ntmps111
 go_wp2
 exact bodyPost_ret (v:=.agg #[.int .i64 1,.bool s,.bool false,.int .i64 x,.int .u64 0,.int .u64 0,.int .u64 0,.int .u64 0]) (by simp only [results,Tryz.results111];go_simp) rfl ⟨rfl,bgo⟩
theorem dfin_1 (b off cap:Nat)(hb:b<w.heap.size)(h0:w.cell? ⟨b,off+0,none⟩=some (.int .u64 (z 0))) :
  CB 111 #[.bool s,.slice (some ⟨b,off,none⟩) 1 cap,.int .i64 x] w (.agg #[.int .i64 1,.bool s,.bool false,.int .i64 x,.int .u64 (z 0),.int .u64 0,.int .u64 0,.int .u64 0]):=by
 have hsm:=zAa
 simp only [Nat.add_zero] at h0
 have hcp:=copy1
 have e0:b<=w.heap.size:=by omega
 have e1:b<w.heap.size+1:=by omega
 have e2:b<w.heap.size+1+1:=by omega
 have e3:b<w.heap.size+2:=by omega
 have e4:b<=w.heap.size+1:=by omega
 have n0:¬ b=w.heap.size:=by omega
 have n1:¬ b=w.heap.size+1:=by omega
 have n2:¬ b=w.heap.size+1+1:=by omega
 go_enter Tryz.func111,Tryz.ntmps111
 go_wp2
 exact bodyPost_ret (v:=.agg #[.int .i64 1,.bool s,.bool false,.int .i64 x,.int .u64 (z 0),.int .u64 0,.int .u64 0,.int .u64 0]) (by simp only [results,Tryz.results111];go_simp) rfl ⟨rfl,bgo⟩
theorem dfin_2 (b off cap:Nat)(hb:b<w.heap.size)(h0:w.cell? ⟨b,off+0,none⟩=some (.int .u64 (z 0)))(h1:w.cell? ⟨b,off+1,none⟩=some (.int .u64 (z 1))) :
  CB 111 #[.bool s,.slice (some ⟨b,off,none⟩) 2 cap,.int .i64 x] w (.agg #[.int .i64 1,.bool s,.bool false,.int .i64 x,.int .u64 (z 0),.int .u64 (z 1),.int .u64 0,.int .u64 0]):=by
 have hsm:=zAa
 simp only [Nat.add_zero] at h0
 have hcp:=copy2
 have e0:b<=w.heap.size:=by omega
 have e1:b<w.heap.size+1:=by omega
 have e2:b<w.heap.size+1+1:=by omega
 have e3:b<w.heap.size+2:=by omega
 have e4:b<=w.heap.size+1:=by omega
 have n0:¬ b=w.heap.size:=by omega
 have n1:¬ b=w.heap.size+1:=by omega
 have n2:¬ b=w.heap.size+1+1:=by omega
 go_enter Tryz.func111,Tryz.ntmps111
 go_wp2
 exact bodyPost_ret (v:=.agg #[.int .i64 1,.bool s,.bool false,.int .i64 x,.int .u64 (z 0),.int .u64 (z 1),.int .u64 0,.int .u64 0]) (by simp only [results,Tryz.results111];go_simp) rfl ⟨rfl,bgo⟩
theorem dfin_3 (b off cap:Nat)(hb:b<w.heap.size)(h0:w.cell? ⟨b,off+0,none⟩=some (.int .u64 (z 0)))(h1:w.cell? ⟨b,off+1,none⟩=some (.int .u64 (z 1)))(h2:w.cell? ⟨b,off+2,none⟩=some (.int .u64 (z 2))) :
  CB 111 #[.bool s,.slice (some ⟨b,off,none⟩) 3 cap,.int .i64 x] w (.agg #[.int .i64 1,.bool s,.bool false,.int .i64 x,.int .u64 (z 0),.int .u64 (z 1),.int .u64 (z 2),.int .u64 0]):=by
 have hsm:=zAa
 simp only [Nat.add_zero] at h0
 have hcp:=copy3
 have e0:b<=w.heap.size:=by omega
 have e1:b<w.heap.size+1:=by omega
 have e2:b<w.heap.size+1+1:=by omega
 have e3:b<w.heap.size+2:=by omega
 have e4:b<=w.heap.size+1:=by omega
 have n0:¬ b=w.heap.size:=by omega
 have n1:¬ b=w.heap.size+1:=by omega
 have n2:¬ b=w.heap.size+1+1:=by omega
 go_enter Tryz.func111,Tryz.ntmps111
 go_wp2
 exact bodyPost_ret (v:=.agg #[.int .i64 1,.bool s,.bool false,.int .i64 x,.int .u64 (z 0),.int .u64 (z 1),.int .u64 (z 2),.int .u64 0]) (by simp only [results,Tryz.results111];go_simp) rfl ⟨rfl,bgo⟩
theorem dfin_4 (b off cap:Nat)(hb:b<w.heap.size)(h0:w.cell? ⟨b,off+0,none⟩=some (.int .u64 (z 0)))(h1:w.cell? ⟨b,off+1,none⟩=some (.int .u64 (z 1)))(h2:w.cell? ⟨b,off+2,none⟩=some (.int .u64 (z 2)))(h3:w.cell? ⟨b,off+3,none⟩=some (.int .u64 (z 3))) :
  CB 111 #[.bool s,.slice (some ⟨b,off,none⟩) 4 cap,.int .i64 x] w (.agg #[.int .i64 1,.bool s,.bool false,.int .i64 x,.int .u64 (z 0),.int .u64 (z 1),.int .u64 (z 2),.int .u64 (z 3)]):=by
 have hsm:=zAa
 simp only [Nat.add_zero] at h0
 have hcp:=copy4
 have e0:b<=w.heap.size:=by omega
 have e1:b<w.heap.size+1:=by omega
 have e2:b<w.heap.size+1+1:=by omega
 have e3:b<w.heap.size+2:=by omega
 have e4:b<=w.heap.size+1:=by omega
 have n0:¬ b=w.heap.size:=by omega
 have n1:¬ b=w.heap.size+1:=by omega
 have n2:¬ b=w.heap.size+1+1:=by omega
 go_enter Tryz.func111,Tryz.ntmps111
 go_wp2
 exact bodyPost_ret (v:=.agg #[.int .i64 1,.bool s,.bool false,.int .i64 x,.int .u64 (z 0),.int .u64 (z 1),.int .u64 (z 2),.int .u64 (z 3)]) (by simp only [results,Tryz.results111];go_simp) rfl ⟨rfl,bgo⟩
end
theorem zFo (s:Bool)(x:Int){K C:Nat}{v:Value}{w:World}(h:Nz K C v w)(hC:C<2^256) :
  CB 111 #[.bool s,v,.int .i64 x] w (DV 1 s false x C):=by
 obtain ⟨a,k,cap,z,rfl,hk,hN,hv,hs⟩:=h
 have hk4:k<=4:=by
  have:=(zZd (m:=4) hN.2.2.1 hv).2 (bl_le.2 hC)
  omega
 have hv4:val z 4=(C:Int):=by rw [zLa hN.2.2.2.1 4 hk4,hv]
 have hz:∀ i,i<4->z i=W4 C i:=zRo hN.2.2.1 (zHa C) 4 (by rw [hv4,zOb hC])
 have ed:DV 1 s false x C=.agg #[.int .i64 1,.bool s,.bool false,.int .i64 x,.int .u64 (z 0),.int .u64 (z 1),.int .u64 (z 2),.int .u64 (z 3)]:=by
  unfold DV
  rw [hz 0 (by decide),hz 1 (by decide),hz 2 (by decide),hz 3 (by decide)]
 rw [ed]
 have z0:=hN.2.2.2.1
 obtain ⟨n1,n2,n3,n4,n5⟩:=hN
 rcases n5 with ⟨rfl,rfl⟩|⟨b,off,rfl,hb,hc⟩
 ·obtain rfl:k=0:=by omega
  rw [z0 0 (by omega),z0 1 (by omega),z0 2 (by omega),z0 3 (by omega)]
  exact zW4 s x w
 ·have:k=0∨k=1∨k=2∨k=3∨k=4:=by omega
  rcases this with rfl|rfl|rfl|rfl|rfl
  ·rw [z0 0 (by omega),z0 1 (by omega),z0 2 (by omega),z0 3 (by omega)]
   exact dfin_0 s x w b off cap hb
  ·rw [z0 1 (by omega),z0 2 (by omega),z0 3 (by omega)]
   exact dfin_1 s x z w b off cap hb (hc 0 (by decide))
  ·rw [z0 2 (by omega),z0 3 (by omega)]
   exact dfin_2 s x z w b off cap hb (hc 0 (by decide)) (hc 1 (by decide))
  ·rw [z0 3 (by omega)]
   exact dfin_3 s x z w b off cap hb (hc 0 (by decide)) (hc 1 (by decide)) (hc 2 (by decide))
  ·exact dfin_4 s x z w b off cap hb (hc 0 (by decide)) (hc 1 (by decide)) (hc 2 (by decide)) (hc 3 (by decide))
theorem zM7 {K K' V V':Nat}{v v':Value}{w:World}(hK:K<100000000)(hK':K'<100000000)(h:Nt K V v w)(h':Nt K' V' v' w)(hle:V'<=V) :
  Calls Tryz.prog 177 #[v,v'] w fun e w'=>∃ r,e=.returned (.tuple #[r,.int .i64 0])/\Nz K (V-V') r w'/\Below w.heap.size w w':=by
 obtain ⟨a,k,cap,z,rfl,hk,hN,hv⟩:=h
 obtain ⟨a',k',cap',z',rfl,hk',hN',hv'⟩:=h'
 have s1:=zCa z k
 refine (nsubF a a' k cap k' cap' z z' w (by omega) (by omega) hN hN' (by rw [hv,hv'];omega)).mono fun e w' ⟨g,k2,cap2,z2,h1,h2,h3,h4,h5,h6,_⟩=>⟨_,h1,⟨_,k2,cap2,z2,rfl,by omega,h3,?_,h5⟩,h6⟩
 rw [h4,hv,hv'];omega
attribute [local irreducible] Nz Nt NT
section
variable (n:Int)(nm:ByteArray)(wd P ex l m pa:Int)(dn:Bool)(d:Int)(s:Bool)(w:World)
theorem zY8 (h:inB d s=true) :
  CB 116 #[zEb n nm wd P ex l m pa dn,.int .i64 d,.bool s] w (.agg #[.int .i64 2,.bool s,.bool false,.int .i64 0,.int .u64 0,.int .u64 0,.int .u64 0,.int .u64 0]):=by
 have hsm:=zAa
 have c64:=zNb d s
 rw [h] at c64
 go_enter Tryz.func116,Tryz.ntmps116
 go_wp2_with (go_at_call 176;refine (c64 _).mono ?_;rintro r w0 ⟨rfl,rfl⟩)
 exact bodyPost_ret (v:=.agg #[.int .i64 2,.bool s,.bool false,.int .i64 0,.int .u64 0,.int .u64 0,.int .u64 0,.int .u64 0]) (by simp only [results,Tryz.results116];go_simp) rfl ⟨rfl,bgo⟩
theorem zX8 (h:inB d s=false)(T G:Nat)(vc vx V0 V1 V2 V3:Int)(vs vg:Bool)
  (c25:∀ W,CE 115 #[.int .i64 P] W (NT 2001 T))
  (c49:∀ W v u,Nt 2001 T v W->Nt 1 1 u W->Calls Tryz.prog 177 #[v,u] W fun e w'=>∃ r,e=.returned (.tuple #[r,.int .i64 0])/\Nz 2001 G r w'/\Below W.heap.size W w')
  (c19:∀ W v,Nz 2001 G v W->CB 111 #[.bool s,v,.int .i64 m] W (.agg #[.int .i64 vc,.bool vs,.bool vg,.int .i64 vx,.int .u64 V0,.int .u64 V1,.int .u64 V2,.int .u64 V3])) :
  CB 116 #[zEb n nm wd P ex l m pa dn,.int .i64 d,.bool s] w (.agg #[.int .i64 vc,.bool vs,.bool vg,.int .i64 vx,.int .u64 V0,.int .u64 V1,.int .u64 V2,.int .u64 V3]):=by
 have hsm:=zAa
 have c64:=zNb d s
 rw [h] at c64
 go_enter Tryz.func116,Tryz.ntmps116
 go_wp2_with (first
  | (go_at_call 176;refine (c64 _).mono ?_;rintro r w0 ⟨rfl,rfl⟩)
  | (go_at_call 115;refine (c25 _).mono ?_;rintro r w2 ⟨v2,rfl,hv2,hb2⟩;have hk2:=hb2;obtain ⟨_,_,_,_,hA2,_⟩:=wz w hb2;obtain ⟨_,_⟩:=zf hb2 (w.heap.size+1);clear hb2)
  | (go_at_call 177;refine (c49 _ _ _ (hv2.nt.next (zBa _ _)) (zM1 (by simp) rfl (by decide))).mono ?_;rintro r w3 ⟨v3,rfl,hv3,hb3⟩;obtain ⟨_,_,_,_,hA3,_⟩:=wz w hb3;obtain ⟨_,_⟩:=zf hb3 (w.heap.size+1);clear hb3)
  | (go_at_call 111;refine wk w (c19 _ _ hv3) ?_;intro w4 hb4 _ _ _ _ hA4 _;obtain ⟨_,_⟩:=zf hb4 (w.heap.size+1);clear hb4))
 exact bodyPost_ret (v:=.agg #[.int .i64 vc,.bool vs,.bool vg,.int .i64 vx,.int .u64 V0,.int .u64 V1,.int .u64 V2,.int .u64 V3]) (by simp only [results,Tryz.results116];go_simp) rfl ⟨rfl,bgo⟩
end
section
variable (n d:Int)(nm:ByteArray)(wd P ex l m pa b:Int)(dn:Bool)(N D:Nat)(vn vd:Value)(w:World)(hT:Tab w)
 (c66:∀ W,Below w.heap.size w W->CQ 110 #[vn] W (.int .i64 (bl N:Int)))
 (c66d:∀ W,Below w.heap.size w W->CQ 110 #[vd] W (.int .i64 (bl D:Int)))
include hT c66 c66d
theorem zG3 (i0 E:Int)(hE:(E != 0)=true)
  (c52:∀ W,Tab W->CB 53 #[.int .i64 n] W (.tuple #[.agg #[.int .i64 i0,.string nm,.int .i64 b,.int .i64 wd,.int .i64 P,.int .i64 ex,.int .i64 l,.int .i64 m,.int .i64 pa,.bool dn],.int .i64 E])) :
  CB 109 #[.int .i64 n,.int .i64 d,vn,vd] w (.tuple #[IZ,.int .i64 1]):=by
 have hsm:=zAa
 go_enter Tryz.func109,Tryz.ntmps109
 go_wp2_with (first
  | (go_at_call 53;refine wk w (c52 _ (hT.go bgo)) ?_;intro w1 hb1 _ _ _ _ hA1 _;clear hb1))
 exact bodyPost_ret (v:=.tuple #[IZ,.int .i64 1]) (by simp only [results,Tryz.results109];go_simp) rfl ⟨rfl,bgo⟩
theorem zI3 (i0:Int)(hE:(b != 10)=true)
  (c52:∀ W,Tab W->CB 53 #[.int .i64 n] W (.tuple #[.agg #[.int .i64 i0,.string nm,.int .i64 b,.int .i64 wd,.int .i64 P,.int .i64 ex,.int .i64 l,.int .i64 m,.int .i64 pa,.bool dn],.int .i64 0])) :
  CB 109 #[.int .i64 n,.int .i64 d,vn,vd] w (.tuple #[IZ,.int .i64 1]):=by
 have hsm:=zAa
 go_enter Tryz.func109,Tryz.ntmps109
 go_wp2_with (first
  | (go_at_call 53;refine wk w (c52 _ (hT.go bgo)) ?_;intro w1 hb1 _ _ _ _ hA1 _;clear hb1))
 exact bodyPost_ret (v:=.tuple #[IZ,.int .i64 1]) (by simp only [results,Tryz.results109];go_simp) rfl ⟨rfl,bgo⟩
theorem zH3 (hd:decide (knB d)=false)
  (c52:∀ W,Tab W->CB 53 #[.int .i64 n] W (.tuple #[zEb n nm wd P ex l m pa dn,.int .i64 0])) :
  CB 109 #[.int .i64 n,.int .i64 d,vn,vd] w (.tuple #[IZ,.int .i64 1]):=by
 have hsm:=zAa
 have c53:=zNd d
 rw [hd] at c53
 go_enter Tryz.func109,Tryz.ntmps109
 go_wp2_with (first
  | (go_at_call 53;refine wk w (c52 _ (hT.go bgo)) ?_;intro w1 hb1 _ _ _ _ hA1 _;clear hb1)
  | (go_at_call 44;refine (c53 _).mono ?_;rintro r w2 ⟨rfl,rfl⟩))
 exact bodyPost_ret (v:=.tuple #[IZ,.int .i64 1]) (by simp only [results,Tryz.results109];go_simp) rfl ⟨rfl,bgo⟩
theorem zC3 (hd:decide (knB d)=true)(hD:(((bl D:Nat):Int)==0)=true)
  (c52:∀ W,Tab W->CB 53 #[.int .i64 n] W (.tuple #[zEb n nm wd P ex l m pa dn,.int .i64 0])) :
  CB 109 #[.int .i64 n,.int .i64 d,vn,vd] w (.tuple #[IZ,.int .i64 1]):=by
 have hsm:=zAa
 have c53:=zNd d
 rw [hd] at c53
 go_enter Tryz.func109,Tryz.ntmps109
 go_wp2_with (first
  | (go_at_call 53;refine wk w (c52 _ (hT.go bgo)) ?_;intro w1 hb1 _ _ _ _ hA1 _;clear hb1)
  | (go_at_call 44;refine (c53 _).mono ?_;rintro r w2 ⟨rfl,rfl⟩)
  | (go_at_call_of 110 vd;refine (c66d _ bgo).mono ?_;rintro r w4 ⟨rfl,rfl⟩))
 exact bodyPost_ret (v:=.tuple #[IZ,.int .i64 1]) (by simp only [results,Tryz.results109];go_simp) rfl ⟨rfl,bgo⟩
theorem zD3 (hd:decide (knB d)=true)(hD:(((bl D:Nat):Int)==0)=false)(hN:(25600:Int)<(bl N:Int))
  (c52:∀ W,Tab W->CB 53 #[.int .i64 n] W (.tuple #[zEb n nm wd P ex l m pa dn,.int .i64 0])) :
  CB 109 #[.int .i64 n,.int .i64 d,vn,vd] w (.tuple #[IZ,.int .i64 4]):=by
 have hsm:=zAa
 have c53:=zNd d
 rw [hd] at c53
 go_enter Tryz.func109,Tryz.ntmps109
 go_wp2_with (first
  | (go_at_call 53;refine wk w (c52 _ (hT.go bgo)) ?_;intro w1 hb1 _ _ _ _ hA1 _;clear hb1)
  | (go_at_call 44;refine (c53 _).mono ?_;rintro r w2 ⟨rfl,rfl⟩)
  | (go_at_call_of 110 vn;refine (c66 _ bgo).mono ?_;rintro r w3 ⟨rfl,rfl⟩)
  | (go_at_call_of 110 vd;refine (c66d _ bgo).mono ?_;rintro r w4 ⟨rfl,rfl⟩))
 exact bodyPost_ret (v:=.tuple #[IZ,.int .i64 4]) (by simp only [results,Tryz.results109];go_simp) rfl ⟨rfl,bgo⟩
theorem zE3 (hd:decide (knB d)=true)(hD:(((bl D:Nat):Int)==0)=false)(hN:¬ (25600:Int)<(bl N:Int))(hDl:(25600:Int)<(bl D:Int))
  (c52:∀ W,Tab W->CB 53 #[.int .i64 n] W (.tuple #[zEb n nm wd P ex l m pa dn,.int .i64 0])) :
  CB 109 #[.int .i64 n,.int .i64 d,vn,vd] w (.tuple #[IZ,.int .i64 4]):=by
 have hsm:=zAa
 have c53:=zNd d
 rw [hd] at c53
 go_enter Tryz.func109,Tryz.ntmps109
 go_wp2_with (first
  | (go_at_call 53;refine wk w (c52 _ (hT.go bgo)) ?_;intro w1 hb1 _ _ _ _ hA1 _;clear hb1)
  | (go_at_call 44;refine (c53 _).mono ?_;rintro r w2 ⟨rfl,rfl⟩)
  | (go_at_call_of 110 vn;refine (c66 _ bgo).mono ?_;rintro r w3 ⟨rfl,rfl⟩)
  | (go_at_call_of 110 vd;refine (c66d _ bgo).mono ?_;rintro r w4 ⟨rfl,rfl⟩))
 exact bodyPost_ret (v:=.tuple #[IZ,.int .i64 4]) (by simp only [results,Tryz.results109];go_simp) rfl ⟨rfl,bgo⟩
theorem zF3 (hd:decide (knB d)=true)(hD:(((bl D:Nat):Int)==0)=false)(hN:¬ (25600:Int)<(bl N:Int))(hDl:¬ (25600:Int)<(bl D:Int))
  (c52:∀ W,Tab W->CB 53 #[.int .i64 n] W (.tuple #[zEb n nm wd P ex l m pa dn,.int .i64 0])) :
  CB 109 #[.int .i64 n,.int .i64 d,vn,vd] w (.tuple #[zEb n nm wd P ex l m pa dn,.int .i64 0]):=by
 have hsm:=zAa
 have c53:=zNd d
 rw [hd] at c53
 go_enter Tryz.func109,Tryz.ntmps109
 go_wp2_with (first
  | (go_at_call 53;refine wk w (c52 _ (hT.go bgo)) ?_;intro w1 hb1 _ _ _ _ hA1 _;clear hb1)
  | (go_at_call 44;refine (c53 _).mono ?_;rintro r w2 ⟨rfl,rfl⟩)
  | (go_at_call_of 110 vn;refine (c66 _ bgo).mono ?_;rintro r w3 ⟨rfl,rfl⟩)
  | (go_at_call_of 110 vd;refine (c66d _ bgo).mono ?_;rintro r w4 ⟨rfl,rfl⟩))
 exact bodyPost_ret (v:=.tuple #[zEb n nm wd P ex l m pa dn,.int .i64 0]) (by simp only [results,Tryz.results109];go_simp) rfl ⟨rfl,bgo⟩
end
theorem zEr {mo want:Int}{k c:Nat}{q:Int}(h:¬ (q<want/\q<mo/\c%10=0)):mbr mo want k c q=(c,q):=by
 cases k with
 | zero=>rfl
 | succ k=>show (if _ then _ else _)=_;rw [if_neg h]
theorem zPx (mo want:Int)(c0:Nat)(q0:Int)(v:Value)(w:World)(hq0:-100000<=q0/\q0<=100000)(hmo:-100000<=mo/\mo<=100000)(t:Int)(ht:t=min want mo)(R:Nat×Int)(hR:R=mbr mo want (mo-q0).toNat c0 q0)(hv:Nz 2003 c0 v w)(hc0:c0<2^256)
  (c42:∀ W u t c,c<2^256->Nz 2003 c u W->Nt 1 10 t W->Calls Tryz.prog 164 #[u,t] W fun e w'=>∃ q r,e=.returned (.tuple #[q,r,.int .i64 0])/\Nz 2003 (c/10) q w'/\Nt 2001 (c%10) r w'/\Below W.heap.size W w')
  (c18:∀ W u c,Nt 2001 c u W->CQ 110 #[u] W (.int .i64 (bl c:Int))) :
  Calls Tryz.prog 117 #[v,.int .i64 q0,.int .i64 t] w fun r w'=>∃ u,r=.returned (.tuple #[u,.int .i64 R.2])/\Nz 2003 R.1 u w'/\Below w.heap.size w w':=by
 have HT:Hid (t=min want mo):=ht
 have htb:t<=100000:=by omega
 clear ht
 go_enter Tryz.func117,Tryz.ntmps117
 go_wp2
 go_loopw [0,1,8,9,10,11,12,13,14,15,16,17,18,19,20,21,22,23,24,25,26] (fun u q _ _ _ _ _ _ _ _ _ _ _ _ _ _ _ _ _ _ _ wr=>∃ (c:Nat) (qi:Int),Hid (c<2^256)/\q=.int .i64 qi/\q0<=qi/\qi<=100000/\Nz 2003 c u wr/\R=mbr mo want (mo-qi).toNat c qi/\Below w.heap.size w wr) (fun _ q _ _ _ _ _ _ _ _ _ _ _ _ _ _ _ _ _ _ _ _=>(100001-intOf q).toNat)
 case atStart=>exact ⟨c0,q0,hc0,rfl,Int.le_refl _,hq0.2,hv,hR,Below.refl _ _⟩
 case round =>
  clear hv hR hc0
  obtain ⟨c,qi,Hc,rfl,hqa,hqb,hu,hRR,hB⟩:=hrel
  have hqa':-100000<=qi:=by omega
  have HR:Hid (R=mbr mo want (mo-qi).toNat c qi):=hRR
  clear hRR
  by_cases hlt:qi<t
  ·have hqm:qi<mo/\qi<want:=by have:=HT.out;omega
   by_cases hc:c%10=0
   ·have hb0:((bl (c%10):Nat):Int)=0:=by rw [hc];rfl
    go_wp2_with (first
     | (go_at_call 164;refine (c42 _ _ _ c Hc.out (hu.next (zBa _ _)) (zM1 (by simp) rfl (by decide))).mono ?_;rintro e w5 ⟨v5,r5,rfl,hv5,hr5,hb5⟩;have hB5:=bnx (bnx hB (zBa _ _)) hb5)
     | (go_at_call 110;refine (c18 _ _ _ hr5).mono ?_;rintro e w6 ⟨rfl,rfl⟩;rw [hb0]))
    go_roundw
    case rel =>
     refine ⟨c/10,qi+1,Nat.lt_of_le_of_lt (Nat.div_le_self _ _) Hc.out,by go_num,by omega,by omega,hv5,?_,hB5⟩
     rw [HR.out]
     obtain ⟨k,hk⟩:∃ k,(mo-qi).toNat=k+1:=⟨(mo-qi).toNat-1,by omega⟩
     rw [hk,show (mo-(qi+1)).toNat=k by omega]
     show (if _ then _ else _)=_
     rw [if_pos ⟨hqm.2,hqm.1,hc⟩]
    case measure=>simp [intOf];omega
   ·have hb0:(0:Int)<((bl (c%10):Nat):Int):=by have:=mt bl_zero.1 hc;omega
    have hE:Hid (R=(c,qi)):=HR.out.trans (zEr fun h=>hc h.2.2)
    clear HR HT
    go_wp2_with (first
     | (go_at_call 164;refine (c42 _ _ _ c Hc.out (hu.next (zBa _ _)) (zM1 (by simp) rfl (by decide))).mono ?_;rintro e w5 ⟨v5,r5,rfl,hv5,hr5,hb5⟩;have hBB:=bnx (zBa _ _) hb5;have hB5:=bnx hB hBB)
     | (go_at_call 110;refine (c18 _ _ _ hr5).mono ?_;rintro e w6 ⟨rfl,rfl⟩))
    go_wp2
    refine bodyPost_ret (v:=.tuple #[u0,.int .i64 qi]) (by simp only [results,Tryz.results117];go_simp) rfl ⟨u0,by rw [hE.out],?_,hB5⟩
    rw [hE.out]
    exact hu.next hBB
  ·have hE:Hid (R=(c,qi)):=HR.out.trans (zEr fun h=>by have:=HT.out;omega)
   clear HR HT
   go_wp2
   refine bodyPost_ret (v:=.tuple #[u0,.int .i64 qi]) (by simp only [results,Tryz.results117];go_simp) rfl ⟨u0,by rw [hE.out],?_,hB⟩
   rw [hE.out]
   exact hu
theorem zNp {K K' V:Nat}{v:Value}{w:World}(h:Nz K V v w)(hK:K<=K'):Nz K' V v w:=by
 unfold Nz at *
 obtain ⟨a,k,cap,z,h1,h2,h3⟩:=h
 exact ⟨a,k,cap,z,h1,by omega,h3⟩
theorem zDo (mo want:Int){c0:Nat}{q0:Int}{v:Value}{w:World}(hq0:-100000<=q0/\q0<=100000)(hmo:-100000<=mo/\mo<=100000)(hv:Nz 2003 c0 v w)(hc0:c0<2^256) :
  Calls Tryz.prog 117 #[v,.int .i64 q0,.int .i64 (min want mo)] w fun r w'=>∃ u,r=.returned (.tuple #[u,.int .i64 (mbr mo want (mo-q0).toNat c0 q0).2])/\Nz 2003 (mbr mo want (mo-q0).toNat c0 q0).1 u w'/\Below w.heap.size w w':=by
 refine zPx mo want c0 q0 v w hq0 hmo _ rfl _ rfl hv hc0 ?_ (fun W u c h=>zDi (by decide) h)
 intro W u t c hc hu ht
 have b1:bl c<=256:=bl_le.2 hc
 have b2:bl 10<=4:=bl_le.2 (by decide)
 refine (zD4 (by decide) (by decide) hu.nt ht (by omega) (by omega) (by decide)).mono ?_
 rintro r w' ⟨q,r',e1,e2,e3,e4⟩
 exact ⟨q,r',e1,zNp e2 (by decide),e3.nt,e4⟩
end
section
attribute [local irreducible] W4 Nz Nt NT
section
variable (n d x y:Int)(s:Bool)(vn vd:Value)(w:World)
theorem ddec_e (E:Int)(hE:(E != 0)=true)
  (c17:∀ W,Below w.heap.size w W->CB 109 #[.int .i64 n,.int .i64 d,vn,vd] W (.tuple #[IZ,.int .i64 E])) :
  CB 55 #[.int .i64 n,.int .i64 d,.bool s,vn,vd,.int .i64 x,.int .i64 y] w (.tuple #[.agg #[.int .i64 0,.bool false,.bool false,.int .i64 0,.int .u64 0,.int .u64 0,.int .u64 0,.int .u64 0],.int .i64 0,.int .i64 E]):=by
 have hsm:=zAa
 go_enter Tryz.func55,Tryz.ntmps55
 go_wp2_with (go_at_call 109;refine wk w (c17 _ bgo) ?_;intro w1 hb1 _ _ _ _ hA1 _;clear hb1)
 exact bodyPost_ret (v:=.tuple #[.agg #[.int .i64 0,.bool false,.bool false,.int .i64 0,.int .u64 0,.int .u64 0,.int .u64 0,.int .u64 0],.int .i64 0,.int .i64 E]) (by simp only [results,Tryz.results55];go_simp) rfl ⟨rfl,bgo⟩
variable (nm:ByteArray)(wd P ex l m pa:Int)(dn:Bool)(N:Nat)(vc vx V0 V1 V2 V3:Int)(vs vg:Bool)
 (c17:∀ W,Below w.heap.size w W->CB 109 #[.int .i64 n,.int .i64 d,vn,vd] W (.tuple #[zEb n nm wd P ex l m pa dn,.int .i64 0]))
 (c18:∀ W,Below w.heap.size w W->CQ 110 #[vn] W (.int .i64 (bl N:Int)))
include c17 c18
theorem ddec_z (hN:(((bl N:Nat):Int)==0)=true)(t:Int)(ht:min (max y l) m=t)
  (c19:∀ W,CB 111 #[.bool s,.slice none 0 0,.int .i64 t] W (.agg #[.int .i64 vc,.bool vs,.bool vg,.int .i64 vx,.int .u64 V0,.int .u64 V1,.int .u64 V2,.int .u64 V3])) :
  CB 55 #[.int .i64 n,.int .i64 d,.bool s,vn,vd,.int .i64 x,.int .i64 y] w (.tuple #[.agg #[.int .i64 vc,.bool vs,.bool vg,.int .i64 vx,.int .u64 V0,.int .u64 V1,.int .u64 V2,.int .u64 V3],.int .i64 0,.int .i64 0]):=by
 have hsm:=zAa
 go_enter Tryz.func55,Tryz.ntmps55
 go_wp2_with (first
  | (go_at_call 109;refine wk w (c17 _ bgo) ?_;intro w1 hb1 _ _ _ _ hA1 _;clear hb1)
  | (go_at_call 110;refine (c18 _ bgo).mono ?_;rintro r w2 ⟨rfl,rfl⟩)
  | (go_at_call 111;refine wk w (c19 _) ?_;intro w3 hb3 _ _ _ _ hA3 _;obtain ⟨_,_⟩:=zf hb3 w1.heap.size;clear hb3))
 exact bodyPost_ret (v:=.tuple #[.agg #[.int .i64 vc,.bool vs,.bool vg,.int .i64 vx,.int .u64 V0,.int .u64 V1,.int .u64 V2,.int .u64 V3],.int .i64 0,.int .i64 0]) (by simp only [results,Tryz.results55];go_simp) rfl ⟨rfl,bgo⟩
variable (hP:1<=P/\P<=300)(hl:-100000<=l/\l<=100000)(hm:-100000<=m/\m<=100000)(hN:(((bl N:Nat):Int)==0)=false)
 (L X q0:Int) (hL:-100000<=L/\L<=100000) (hX:-300000<=X/\X<=300000) (hq:max l (L+X-P+1)=q0) (hqb:-500000<=q0/\q0<=500000) (C T:Nat) (cm:Int) (exa:Bool)
 (c20:∀ W,Below w.heap.size w W->CB 112 #[vn,vd] W (.int .i64 L))
 (c21:∀ W,CB 113 #[zEb n nm wd P ex l m pa dn,.int .i64 L,.int .i64 x] W (.int .i64 X))
 (c22:∀ W,Below w.heap.size w W->Calls Tryz.prog 114 #[vn,vd,.int .i64 (X-q0)] W fun r w'=>∃ va vb,r=.returned (.tuple #[va,vb])/\Below W.heap.size W w'/\(Calls Tryz.prog 99 #[.int .i64 d,.bool s,va,vb] w' fun r w''=>∃ v,r=.returned (.tuple #[v,.bool exa])/\Nz 2003 C v w''/\Below w'.heap.size w' w''))
 (c25:∀ W,CE 115 #[.int .i64 P] W (NT 2001 T))
 (c24:∀ W v u,Nz 2003 C v W->NT 2001 T u W->CB 57 #[v,u] W (.int .i64 cm))
include hP hl hm hN hL hX hq hqb c20 c21 c22 c25 c24
theorem zO9 (hcm:(cm==0)=false)(ho:m<q0)
  (c26:∀ W,CB 116 #[zEb n nm wd P ex l m pa dn,.int .i64 d,.bool s] W (.agg #[.int .i64 vc,.bool vs,.bool vg,.int .i64 vx,.int .u64 V0,.int .u64 V1,.int .u64 V2,.int .u64 V3])) :
  CB 55 #[.int .i64 n,.int .i64 d,.bool s,vn,vd,.int .i64 x,.int .i64 y] w (.tuple #[.agg #[.int .i64 vc,.bool vs,.bool vg,.int .i64 vx,.int .u64 V0,.int .u64 V1,.int .u64 V2,.int .u64 V3],.int .i64 10,.int .i64 0]):=by
 have hsm:=zAa
 go_enter Tryz.func55,Tryz.ntmps55
 go_wp2_with (first
  | (go_at_call 109;refine wk w (c17 _ bgo) ?_;intro w1 hb1 _ _ _ _ hA1 _;clear hb1)
  | (go_at_call 110;refine (c18 _ bgo).mono ?_;rintro r w2 ⟨rfl,rfl⟩)
  | (go_at_call 112;refine wk w (c20 _ bgo) ?_;intro w3 hb3 _ _ _ _ hA3 _;obtain ⟨_,_⟩:=zf hb3 w1.heap.size;clear hb3)
  | (go_at_call 113;refine wk w (c21 _) ?_;intro w4 hb4 _ _ _ _ hA4 _;obtain ⟨_,_⟩:=zf hb4 w1.heap.size;clear hb4)
  | (go_at_call 114;refine (c22 _ bgo).mono ?_;rintro r w5 ⟨va,vb,rfl,hb5,c23⟩;obtain ⟨_,_,_,_,hA5,_⟩:=wz w hb5;obtain ⟨_,_⟩:=zf hb5 w1.heap.size;clear hb5)
  | (go_at_call 99;refine c23.mono ?_;rintro r w6 ⟨v6,rfl,hv6,hb6⟩;obtain ⟨_,_,_,_,hA6,_⟩:=wz w hb6;obtain ⟨_,_⟩:=zf hb6 w1.heap.size;clear hb6)
  | (go_at_call 115;refine (c25 _).mono ?_;rintro r w7 ⟨v7,rfl,hv7,hb7⟩;have hq7:=hv6.next hb7;obtain ⟨_,_,_,_,hA7,_⟩:=wz w hb7;obtain ⟨_,_⟩:=zf hb7 w1.heap.size;clear hb7)
  | (go_at_call 57;refine (c24 _ _ _ hq7 hv7).mono ?_;rintro r w8 ⟨rfl,hb8⟩;have hq8:=hq7.next hb8;obtain ⟨_,_,_,_,hA8,_⟩:=wz w hb8;obtain ⟨_,_⟩:=zf hb8 w1.heap.size;clear hb8)
  | (go_at_call 116;refine wk w (c26 _) ?_;intro w10 hb10 _ _ _ _ hA10 _;obtain ⟨_,_⟩:=zf hb10 w1.heap.size;clear hb10))
 exact bodyPost_ret (v:=.tuple #[.agg #[.int .i64 vc,.bool vs,.bool vg,.int .i64 vx,.int .u64 V0,.int .u64 V1,.int .u64 V2,.int .u64 V3],.int .i64 10,.int .i64 0]) (by simp only [results,Tryz.results55];go_simp) rfl ⟨rfl,bgo⟩
theorem zN9 (hcm:(cm==0)=false)(ho:¬ m<q0)(hex:exa=true)(R1:Nat)(R2 t:Int)(ht:min y m=t)
  (c27:∀ W v,Nz 2003 C v W->Calls Tryz.prog 117 #[v,.int .i64 (q0),.int .i64 t] W fun r w'=>∃ u,r=.returned (.tuple #[u,.int .i64 R2])/\Nz 2003 R1 u w'/\Below W.heap.size W w')
  (c19:∀ W v,Nz 2003 R1 v W->CB 111 #[.bool s,v,.int .i64 R2] W (.agg #[.int .i64 vc,.bool vs,.bool vg,.int .i64 vx,.int .u64 V0,.int .u64 V1,.int .u64 V2,.int .u64 V3]))
  (c28:∀ W,CQ 118 #[.bool true,.bool (decide (L+X<P-1+l))] W (.int .i64 0)) :
  CB 55 #[.int .i64 n,.int .i64 d,.bool s,vn,vd,.int .i64 x,.int .i64 y] w (.tuple #[.agg #[.int .i64 vc,.bool vs,.bool vg,.int .i64 vx,.int .u64 V0,.int .u64 V1,.int .u64 V2,.int .u64 V3],.int .i64 0,.int .i64 0]):=by
 have hsm:=zAa
 subst hex
 go_enter Tryz.func55,Tryz.ntmps55
 go_wp2_with (first
  | (go_at_call 109;refine wk w (c17 _ bgo) ?_;intro w1 hb1 _ _ _ _ hA1 _;clear hb1)
  | (go_at_call 110;refine (c18 _ bgo).mono ?_;rintro r w2 ⟨rfl,rfl⟩)
  | (go_at_call 112;refine wk w (c20 _ bgo) ?_;intro w3 hb3 _ _ _ _ hA3 _;obtain ⟨_,_⟩:=zf hb3 w1.heap.size;clear hb3)
  | (go_at_call 113;refine wk w (c21 _) ?_;intro w4 hb4 _ _ _ _ hA4 _;obtain ⟨_,_⟩:=zf hb4 w1.heap.size;clear hb4)
  | (go_at_call 114;refine (c22 _ bgo).mono ?_;rintro r w5 ⟨va,vb,rfl,hb5,c23⟩;obtain ⟨_,_,_,_,hA5,_⟩:=wz w hb5;obtain ⟨_,_⟩:=zf hb5 w1.heap.size;clear hb5)
  | (go_at_call 99;refine c23.mono ?_;rintro r w6 ⟨v6,rfl,hv6,hb6⟩;obtain ⟨_,_,_,_,hA6,_⟩:=wz w hb6;obtain ⟨_,_⟩:=zf hb6 w1.heap.size;clear hb6)
  | (go_at_call 115;refine (c25 _).mono ?_;rintro r w7 ⟨v7,rfl,hv7,hb7⟩;have hq7:=hv6.next hb7;obtain ⟨_,_,_,_,hA7,_⟩:=wz w hb7;obtain ⟨_,_⟩:=zf hb7 w1.heap.size;clear hb7)
  | (go_at_call 57;refine (c24 _ _ _ hq7 hv7).mono ?_;rintro r w8 ⟨rfl,hb8⟩;have hq8:=hq7.next hb8;obtain ⟨_,_,_,_,hA8,_⟩:=wz w hb8;obtain ⟨_,_⟩:=zf hb8 w1.heap.size;clear hb8)
  | (go_at_call 117;refine (c27 _ _ hq8).mono ?_;rintro r w10 ⟨v10,rfl,hv10,hb10⟩;obtain ⟨_,_,_,_,hA10,_⟩:=wz w hb10;obtain ⟨_,_⟩:=zf hb10 w1.heap.size;clear hb10)
  | (go_at_call 111;refine wk w (c19 _ _ hv10) ?_;intro w11 hb11 _ _ _ _ hA11 _;obtain ⟨_,_⟩:=zf hb11 w1.heap.size;clear hb11)
  | (go_at_call 118;refine (c28 _).mono ?_;rintro r w12 ⟨rfl,rfl⟩))
 exact bodyPost_ret (v:=.tuple #[.agg #[.int .i64 vc,.bool vs,.bool vg,.int .i64 vx,.int .u64 V0,.int .u64 V1,.int .u64 V2,.int .u64 V3],.int .i64 0,.int .i64 0]) (by simp only [results,Tryz.results55];go_simp) rfl ⟨rfl,bgo⟩
theorem zP9 (hcm:(cm==0)=false)(ho:¬ m<q0)(hex:exa=false)(fl:Int)
  (c19:∀ W v,Nz 2003 C v W->CB 111 #[.bool s,v,.int .i64 (q0)] W (.agg #[.int .i64 vc,.bool vs,.bool vg,.int .i64 vx,.int .u64 V0,.int .u64 V1,.int .u64 V2,.int .u64 V3]))
  (c28:∀ W,CQ 118 #[.bool false,.bool (decide (L+X<P-1+l))] W (.int .i64 fl)) :
  CB 55 #[.int .i64 n,.int .i64 d,.bool s,vn,vd,.int .i64 x,.int .i64 y] w (.tuple #[.agg #[.int .i64 vc,.bool vs,.bool vg,.int .i64 vx,.int .u64 V0,.int .u64 V1,.int .u64 V2,.int .u64 V3],.int .i64 fl,.int .i64 0]):=by
 have hsm:=zAa
 subst hex
 go_enter Tryz.func55,Tryz.ntmps55
 go_wp2_with (first
  | (go_at_call 109;refine wk w (c17 _ bgo) ?_;intro w1 hb1 _ _ _ _ hA1 _;clear hb1)
  | (go_at_call 110;refine (c18 _ bgo).mono ?_;rintro r w2 ⟨rfl,rfl⟩)
  | (go_at_call 112;refine wk w (c20 _ bgo) ?_;intro w3 hb3 _ _ _ _ hA3 _;obtain ⟨_,_⟩:=zf hb3 w1.heap.size;clear hb3)
  | (go_at_call 113;refine wk w (c21 _) ?_;intro w4 hb4 _ _ _ _ hA4 _;obtain ⟨_,_⟩:=zf hb4 w1.heap.size;clear hb4)
  | (go_at_call 114;refine (c22 _ bgo).mono ?_;rintro r w5 ⟨va,vb,rfl,hb5,c23⟩;obtain ⟨_,_,_,_,hA5,_⟩:=wz w hb5;obtain ⟨_,_⟩:=zf hb5 w1.heap.size;clear hb5)
  | (go_at_call 99;refine c23.mono ?_;rintro r w6 ⟨v6,rfl,hv6,hb6⟩;obtain ⟨_,_,_,_,hA6,_⟩:=wz w hb6;obtain ⟨_,_⟩:=zf hb6 w1.heap.size;clear hb6)
  | (go_at_call 115;refine (c25 _).mono ?_;rintro r w7 ⟨v7,rfl,hv7,hb7⟩;have hq7:=hv6.next hb7;obtain ⟨_,_,_,_,hA7,_⟩:=wz w hb7;obtain ⟨_,_⟩:=zf hb7 w1.heap.size;clear hb7)
  | (go_at_call 57;refine (c24 _ _ _ hq7 hv7).mono ?_;rintro r w8 ⟨rfl,hb8⟩;have hq8:=hq7.next hb8;obtain ⟨_,_,_,_,hA8,_⟩:=wz w hb8;obtain ⟨_,_⟩:=zf hb8 w1.heap.size;clear hb8)
  | (go_at_call 111;refine wk w (c19 _ _ hq8) ?_;intro w11 hb11 _ _ _ _ hA11 _;obtain ⟨_,_⟩:=zf hb11 w1.heap.size;clear hb11)
  | (go_at_call 118;refine (c28 _).mono ?_;rintro r w12 ⟨rfl,rfl⟩))
 exact bodyPost_ret (v:=.tuple #[.agg #[.int .i64 vc,.bool vs,.bool vg,.int .i64 vx,.int .u64 V0,.int .u64 V1,.int .u64 V2,.int .u64 V3],.int .i64 fl,.int .i64 0]) (by simp only [results,Tryz.results55];go_simp) rfl ⟨rfl,bgo⟩
theorem zL9 (hcm:(cm==0)=true)(T1:Nat)
  (c25b:∀ W,CE 115 #[.int .i64 (P-1)] W (NT 2001 T1)) (ho:m<q0+1)
  (c26:∀ W,CB 116 #[zEb n nm wd P ex l m pa dn,.int .i64 d,.bool s] W (.agg #[.int .i64 vc,.bool vs,.bool vg,.int .i64 vx,.int .u64 V0,.int .u64 V1,.int .u64 V2,.int .u64 V3])) :
  CB 55 #[.int .i64 n,.int .i64 d,.bool s,vn,vd,.int .i64 x,.int .i64 y] w (.tuple #[.agg #[.int .i64 vc,.bool vs,.bool vg,.int .i64 vx,.int .u64 V0,.int .u64 V1,.int .u64 V2,.int .u64 V3],.int .i64 10,.int .i64 0]):=by
 have hsm:=zAa
 go_enter Tryz.func55,Tryz.ntmps55
 go_wp2_with (first
  | (go_at_call 109;refine wk w (c17 _ bgo) ?_;intro w1 hb1 _ _ _ _ hA1 _;clear hb1)
  | (go_at_call 110;refine (c18 _ bgo).mono ?_;rintro r w2 ⟨rfl,rfl⟩)
  | (go_at_call 112;refine wk w (c20 _ bgo) ?_;intro w3 hb3 _ _ _ _ hA3 _;obtain ⟨_,_⟩:=zf hb3 w1.heap.size;clear hb3)
  | (go_at_call 113;refine wk w (c21 _) ?_;intro w4 hb4 _ _ _ _ hA4 _;obtain ⟨_,_⟩:=zf hb4 w1.heap.size;clear hb4)
  | (go_at_call 114;refine (c22 _ bgo).mono ?_;rintro r w5 ⟨va,vb,rfl,hb5,c23⟩;obtain ⟨_,_,_,_,hA5,_⟩:=wz w hb5;obtain ⟨_,_⟩:=zf hb5 w1.heap.size;clear hb5)
  | (go_at_call 99;refine c23.mono ?_;rintro r w6 ⟨v6,rfl,hv6,hb6⟩;obtain ⟨_,_,_,_,hA6,_⟩:=wz w hb6;obtain ⟨_,_⟩:=zf hb6 w1.heap.size;clear hb6)
  | (have:=hq7;go_at_call 115;refine (c25b _).mono ?_;rintro r w9 ⟨v9,rfl,hv9,hb9⟩;obtain ⟨_,_,_,_,hA9,_⟩:=wz w hb9;obtain ⟨_,_⟩:=zf hb9 w1.heap.size;clear hb9)
  | (go_at_call 115;refine (c25 _).mono ?_;rintro r w7 ⟨v7,rfl,hv7,hb7⟩;have hq7:=hv6.next hb7;obtain ⟨_,_,_,_,hA7,_⟩:=wz w hb7;obtain ⟨_,_⟩:=zf hb7 w1.heap.size;clear hb7)
  | (go_at_call 57;refine (c24 _ _ _ hq7 hv7).mono ?_;rintro r w8 ⟨rfl,hb8⟩;have hq8:=hq7.next hb8;obtain ⟨_,_,_,_,hA8,_⟩:=wz w hb8;obtain ⟨_,_⟩:=zf hb8 w1.heap.size;clear hb8)
  | (go_at_call 116;refine wk w (c26 _) ?_;intro w10 hb10 _ _ _ _ hA10 _;obtain ⟨_,_⟩:=zf hb10 w1.heap.size;clear hb10))
 exact bodyPost_ret (v:=.tuple #[.agg #[.int .i64 vc,.bool vs,.bool vg,.int .i64 vx,.int .u64 V0,.int .u64 V1,.int .u64 V2,.int .u64 V3],.int .i64 10,.int .i64 0]) (by simp only [results,Tryz.results55];go_simp) rfl ⟨rfl,bgo⟩
theorem zK9 (hcm:(cm==0)=true)(T1:Nat)
  (c25b:∀ W,CE 115 #[.int .i64 (P-1)] W (NT 2001 T1)) (ho:¬ m<q0+1) (hex:exa=true) (R1:Nat) (R2 t:Int) (ht:min y m=t)
  (c27:∀ W v,Nz 2003 T1 v W->Calls Tryz.prog 117 #[v,.int .i64 (q0+1),.int .i64 t] W fun r w'=>∃ u,r=.returned (.tuple #[u,.int .i64 R2])/\Nz 2003 R1 u w'/\Below W.heap.size W w')
  (c19:∀ W v,Nz 2003 R1 v W->CB 111 #[.bool s,v,.int .i64 R2] W (.agg #[.int .i64 vc,.bool vs,.bool vg,.int .i64 vx,.int .u64 V0,.int .u64 V1,.int .u64 V2,.int .u64 V3]))
  (c28:∀ W,CQ 118 #[.bool true,.bool (decide (L+X<P-1+l))] W (.int .i64 0)) :
  CB 55 #[.int .i64 n,.int .i64 d,.bool s,vn,vd,.int .i64 x,.int .i64 y] w (.tuple #[.agg #[.int .i64 vc,.bool vs,.bool vg,.int .i64 vx,.int .u64 V0,.int .u64 V1,.int .u64 V2,.int .u64 V3],.int .i64 0,.int .i64 0]):=by
 have hsm:=zAa
 subst hex
 go_enter Tryz.func55,Tryz.ntmps55
 go_wp2_with (first
  | (go_at_call 109;refine wk w (c17 _ bgo) ?_;intro w1 hb1 _ _ _ _ hA1 _;clear hb1)
  | (go_at_call 110;refine (c18 _ bgo).mono ?_;rintro r w2 ⟨rfl,rfl⟩)
  | (go_at_call 112;refine wk w (c20 _ bgo) ?_;intro w3 hb3 _ _ _ _ hA3 _;obtain ⟨_,_⟩:=zf hb3 w1.heap.size;clear hb3)
  | (go_at_call 113;refine wk w (c21 _) ?_;intro w4 hb4 _ _ _ _ hA4 _;obtain ⟨_,_⟩:=zf hb4 w1.heap.size;clear hb4)
  | (go_at_call 114;refine (c22 _ bgo).mono ?_;rintro r w5 ⟨va,vb,rfl,hb5,c23⟩;obtain ⟨_,_,_,_,hA5,_⟩:=wz w hb5;obtain ⟨_,_⟩:=zf hb5 w1.heap.size;clear hb5)
  | (go_at_call 99;refine c23.mono ?_;rintro r w6 ⟨v6,rfl,hv6,hb6⟩;obtain ⟨_,_,_,_,hA6,_⟩:=wz w hb6;obtain ⟨_,_⟩:=zf hb6 w1.heap.size;clear hb6)
  | (have:=hq7;go_at_call 115;refine (c25b _).mono ?_;rintro r w9 ⟨v9,rfl,hv9,hb9⟩;obtain ⟨_,_,_,_,hA9,_⟩:=wz w hb9;obtain ⟨_,_⟩:=zf hb9 w1.heap.size;clear hb9)
  | (go_at_call 115;refine (c25 _).mono ?_;rintro r w7 ⟨v7,rfl,hv7,hb7⟩;have hq7:=hv6.next hb7;obtain ⟨_,_,_,_,hA7,_⟩:=wz w hb7;obtain ⟨_,_⟩:=zf hb7 w1.heap.size;clear hb7)
  | (go_at_call 57;refine (c24 _ _ _ hq7 hv7).mono ?_;rintro r w8 ⟨rfl,hb8⟩;have hq8:=hq7.next hb8;obtain ⟨_,_,_,_,hA8,_⟩:=wz w hb8;obtain ⟨_,_⟩:=zf hb8 w1.heap.size;clear hb8)
  | (go_at_call 117;refine (c27 _ _ (zNp hv9.nz (by decide))).mono ?_;rintro r w10 ⟨v10,rfl,hv10,hb10⟩;obtain ⟨_,_,_,_,hA10,_⟩:=wz w hb10;obtain ⟨_,_⟩:=zf hb10 w1.heap.size;clear hb10)
  | (go_at_call 111;refine wk w (c19 _ _ hv10) ?_;intro w11 hb11 _ _ _ _ hA11 _;obtain ⟨_,_⟩:=zf hb11 w1.heap.size;clear hb11)
  | (go_at_call 118;refine (c28 _).mono ?_;rintro r w12 ⟨rfl,rfl⟩))
 exact bodyPost_ret (v:=.tuple #[.agg #[.int .i64 vc,.bool vs,.bool vg,.int .i64 vx,.int .u64 V0,.int .u64 V1,.int .u64 V2,.int .u64 V3],.int .i64 0,.int .i64 0]) (by simp only [results,Tryz.results55];go_simp) rfl ⟨rfl,bgo⟩
theorem zM9 (hcm:(cm==0)=true)(T1:Nat)
  (c25b:∀ W,CE 115 #[.int .i64 (P-1)] W (NT 2001 T1)) (ho:¬ m<q0+1) (hex:exa=false) (fl:Int)
  (c19:∀ W v,Nz 2003 T1 v W->CB 111 #[.bool s,v,.int .i64 (q0+1)] W (.agg #[.int .i64 vc,.bool vs,.bool vg,.int .i64 vx,.int .u64 V0,.int .u64 V1,.int .u64 V2,.int .u64 V3]))
  (c28:∀ W,CQ 118 #[.bool false,.bool (decide (L+X<P-1+l))] W (.int .i64 fl)) :
  CB 55 #[.int .i64 n,.int .i64 d,.bool s,vn,vd,.int .i64 x,.int .i64 y] w (.tuple #[.agg #[.int .i64 vc,.bool vs,.bool vg,.int .i64 vx,.int .u64 V0,.int .u64 V1,.int .u64 V2,.int .u64 V3],.int .i64 fl,.int .i64 0]):=by
 have hsm:=zAa
 subst hex
 go_enter Tryz.func55,Tryz.ntmps55
 go_wp2_with (first
  | (go_at_call 109;refine wk w (c17 _ bgo) ?_;intro w1 hb1 _ _ _ _ hA1 _;clear hb1)
  | (go_at_call 110;refine (c18 _ bgo).mono ?_;rintro r w2 ⟨rfl,rfl⟩)
  | (go_at_call 112;refine wk w (c20 _ bgo) ?_;intro w3 hb3 _ _ _ _ hA3 _;obtain ⟨_,_⟩:=zf hb3 w1.heap.size;clear hb3)
  | (go_at_call 113;refine wk w (c21 _) ?_;intro w4 hb4 _ _ _ _ hA4 _;obtain ⟨_,_⟩:=zf hb4 w1.heap.size;clear hb4)
  | (go_at_call 114;refine (c22 _ bgo).mono ?_;rintro r w5 ⟨va,vb,rfl,hb5,c23⟩;obtain ⟨_,_,_,_,hA5,_⟩:=wz w hb5;obtain ⟨_,_⟩:=zf hb5 w1.heap.size;clear hb5)
  | (go_at_call 99;refine c23.mono ?_;rintro r w6 ⟨v6,rfl,hv6,hb6⟩;obtain ⟨_,_,_,_,hA6,_⟩:=wz w hb6;obtain ⟨_,_⟩:=zf hb6 w1.heap.size;clear hb6)
  | (have:=hq7;go_at_call 115;refine (c25b _).mono ?_;rintro r w9 ⟨v9,rfl,hv9,hb9⟩;obtain ⟨_,_,_,_,hA9,_⟩:=wz w hb9;obtain ⟨_,_⟩:=zf hb9 w1.heap.size;clear hb9)
  | (go_at_call 115;refine (c25 _).mono ?_;rintro r w7 ⟨v7,rfl,hv7,hb7⟩;have hq7:=hv6.next hb7;obtain ⟨_,_,_,_,hA7,_⟩:=wz w hb7;obtain ⟨_,_⟩:=zf hb7 w1.heap.size;clear hb7)
  | (go_at_call 57;refine (c24 _ _ _ hq7 hv7).mono ?_;rintro r w8 ⟨rfl,hb8⟩;have hq8:=hq7.next hb8;obtain ⟨_,_,_,_,hA8,_⟩:=wz w hb8;obtain ⟨_,_⟩:=zf hb8 w1.heap.size;clear hb8)
  | (go_at_call 111;refine wk w (c19 _ _ (zNp hv9.nz (by decide))) ?_;intro w11 hb11 _ _ _ _ hA11 _;obtain ⟨_,_⟩:=zf hb11 w1.heap.size;clear hb11)
  | (go_at_call 118;refine (c28 _).mono ?_;rintro r w12 ⟨rfl,rfl⟩))
 exact bodyPost_ret (v:=.tuple #[.agg #[.int .i64 vc,.bool vs,.bool vg,.int .i64 vx,.int .u64 V0,.int .u64 V1,.int .u64 V2,.int .u64 V3],.int .i64 fl,.int .i64 0]) (by simp only [results,Tryz.results55];go_simp) rfl ⟨rfl,bgo⟩
end
end
end Go.Proofs.YtahfkpjhlbiamaaGreatDoor
