/-
  Texts that the proof leans on.
-/
import Derived.Test.YtahfkpjhlbiamaaGreatDoorJ9
import Derived.Test.YtahfkpjhlbiamaaGreatDoorJ6
import Derived.Test.YtahfkpjhlbiamaaGreatDoorJ1
import Derived.Deep.Cut
import Derived.Deep.CutRange
import Derived.Test.YtahfkpjhlbiamaaGreatDoorJ3
import Derived.Test.YtahfkpjhlbiamaaGreatDoorJ7
import Derived.Deep.QuietTactic
import Derived.BigQuiet
import Derived.Test.YtahfkpjhlbiamaaGreatDoorJ4
set_option linter.unusedVariables false
set_option linter.unusedSimpArgs false
set_option linter.unusedSectionVars false
set_option maxHeartbeats 8000000
set_option maxRecDepth 20000
namespace Go.Proofs.YtahfkpjhlbiamaaGreatDoor
open Go.RowKit
theorem p64' (q r:Nat):(18446744073709551616:Int)^q*2^r=2^(64*q+r):=by rw [Int.mul_comm];exact p64 q r
theorem zHl {x:Nat->Int}(hx:zDa x){n:Nat}(h:0<sizeL x n):∃ L:Nat,lenL x n=(L:Int)+1/\2^L<=val x n/\val x n<2^(L+1):=by
 obtain ⟨j,hj⟩:∃ j,sizeL x n=j+1:=⟨sizeL x n-1,by omega⟩
 have ht:=zVc (x:=x) n h
 rw [hj] at ht
 have hxj:=hx j
 have hne:x j≠0:=ht
 obtain ⟨u,hu⟩:=Int.eq_ofNat_of_zero_le hxj.1
 have hb:=zRc u (by omega) (by omega)
 have hv:val x n=val x j+x j*18446744073709551616^j:=by rw [← zMa n,hj];rfl
 have hbd:=zVa hx j
 have hP:=zOb j
 refine ⟨64*j+(Lib.bitLen u-1),?_,?_,?_⟩
 ·unfold lenL;rw [if_neg (by omega),hj]
  show 64*((j+1:Nat):Int)-64+(Lib.bitLen (x j).toNat:Nat)=_
  rw [hu,Int.toNat_natCast];omega
 ·rw [hv,← p64',hu]
  have h1:(2:Int)^(Lib.bitLen u-1)<=u:=by rw [← zCb];omega
  have h2:18446744073709551616^j*2^(Lib.bitLen u-1)<=18446744073709551616^j*(u:Int):=Int.mul_le_mul_of_nonneg_left h1 (Int.le_of_lt hP)
  rw [Int.mul_comm _ (u:Int)] at h2
  omega
 ·rw [hv,show 64*j+(Lib.bitLen u-1)+1=64*j+Lib.bitLen u by omega,← p64',hu]
  have h1:(u:Int)+1<=2^Lib.bitLen u:=by rw [← zCb];omega
  have h2:18446744073709551616^j*((u:Int)+1)<=18446744073709551616^j*2^Lib.bitLen u:=Int.mul_le_mul_of_nonneg_left h1 (Int.le_of_lt hP)
  rw [Int.mul_add,Int.mul_one,Int.mul_comm _ (u:Int)] at h2
  omega
theorem zD1 {q:Nat->Int}(hq:zDa q){N m r:Nat}(hm:m<N)(hr:r<=64)(h:val q N%2^(64*m+r)=0):q m%2^r=0:=by
 obtain ⟨k,rfl⟩:∃ k,N=m+(k+1):=⟨N-m-1,by omega⟩
 have hs:=zVb q m (k+1)
 have h1:val (segW q m (k+1)) (k+1)=q m+val (segW q (m+1) k) k*18446744073709551616:=by
  have:=zVb (segW q m (k+1)) 1 k
  rw [Nat.add_comm 1 k] at this
  rw [this]
  have e1:val (segW q m (k+1)) 1=q m:=by simp [val,segW]
  have e2:val (segW (segW q m (k+1)) 1 k) k=val (segW q (m+1) k) k:=zKa k fun i hi=>by
   rw [zBb _ _ _ i hi,zBb _ _ _ i hi,zBb _ _ _ (1+i) (by omega)];congr 1;omega
  rw [e1,e2];simp
 have hb:=zVa hq m
 rw [← p64'] at h
 have hd:(18446744073709551616:Int)^m*2^r∣val q (m+(k+1)):=Int.dvd_of_emod_eq_zero h
 obtain ⟨c,hc⟩:=hd
 rw [hs] at hc
 have hm0:val q m=0:=by
  have e:val q m=(2^r*c-val (segW q m (k+1)) (k+1))*18446744073709551616^m:=by grind
  rcases Int.lt_trichotomy (2^r*c-val (segW q m (k+1)) (k+1)) 0 with hl|he|hg
  ·have:(2^r*c-val (segW q m (k+1)) (k+1))*18446744073709551616^m<=(-1)*18446744073709551616^m:=Int.mul_le_mul_of_nonneg_right (by omega) (Int.le_of_lt (zOb m))
   have:=zOb m
   omega
  ·rw [he,Int.zero_mul] at e;exact e
  ·have:1*18446744073709551616^m<=(2^r*c-val (segW q m (k+1)) (k+1))*18446744073709551616^m:=Int.mul_le_mul_of_nonneg_right (by omega) (Int.le_of_lt (zOb m))
   omega
 have h2:val (segW q m (k+1)) (k+1)=2^r*c:=by
  have hp:=zOb m
  have e:(val (segW q m (k+1)) (k+1)-2^r*c)*18446744073709551616^m=0:=by grind
  rcases Int.mul_eq_zero.1 e with h3|h3
  ·omega
  ·omega
 rw [h1] at h2
 have e3:=zOe hr
 have:q m=2^r*(c-val (segW q (m+1) k) k*2^(64-r)):=by
  rw [← e3] at h2;grind
 rw [this];exact Int.mul_emod_right _ _
theorem or_bit {u:Int}{r:Nat}(hu:0<=u/\u<=18446744073709551615)(hr:r<64)(h:u%2^(r+1)=0):orW u (2^r)=u+2^r/\u+2^r<=18446744073709551615:=by
 have hp:=zEc r
 have hl:=zAq hr
 obtain ⟨n,rfl⟩:=Int.eq_ofNat_of_zero_le hu.1
 rw [← zCb,← Int.natCast_emod] at h
 have hn:n%2^(r+1)=0:=by omega
 obtain ⟨k,rfl⟩:=Nat.dvd_of_mod_eq_zero hn
 have hlt:2^r<2^(r+1):=Nat.pow_lt_pow_right (by omega) (by omega)
 have e:=Nat.two_pow_add_eq_or_of_lt hlt k
 have h64:2^(r+1)*k ||| 2^r<2^64:=Nat.or_lt_two_pow (by omega) (Nat.pow_lt_pow_right (by omega) hr)
 have hw:(2:Int)^r<=18446744073709551615:=by omega
 rw [zYf _ _ hu ⟨by omega,hw⟩,Int.toNat_natCast,← zCb,Int.toNat_natCast,← e]
 rw [← e] at h64
 constructor
 ·rw [Int.natCast_add]
 ·have:((2^(r+1)*k:Nat):Int)+((2^r:Nat):Int)=((2^(r+1)*k+2^r:Nat):Int):=by rw [Int.natCast_add]
  rw [this];omega
theorem zZr {Q T:Int}(h:Q%(T*2)=0):Q%T=0:=by
 obtain ⟨c,hc⟩:=Int.dvd_of_emod_eq_zero h
 rw [hc,Int.mul_assoc];exact Int.mul_emod_right _ _
theorem zJs (g k c:Nat)(z:Nat->Int)(w:World)(hk:0<k)(hk2:k<1000000)(h:Num w (some ⟨g,0,none⟩) k c z) :
  Calls Tryz.prog 93 #[.slice (some ⟨g,0,none⟩) k c,.int .i64 1] w fun e w'=>∃ g' k' cap b z',e=.returned (.tuple #[.slice (some ⟨g',0,none⟩) k' cap,.bool b])/\k'<=k/\Num w' (some ⟨g',0,none⟩) k' cap z'/\(∀ V,val z k=V*2->val z' k'=V)/\Below w.heap.size w w'/\w.heap.size<=g':=by
 refine (frgt_p g 0 k c 0 1 1 z w (by omega) (by omega) (by omega) (by omega) (by decide) (by decide) (by decide) hk h).mono fun e w' ⟨g',k',cap,e1,hk',hN,hB,hf⟩=>⟨g',k',cap,_,_,e1,hk',hN,fun V hV=>?_,hB,hf⟩
 have hd:=zRs h.2.2.1 (r:=1) (by omega) k
 rw [h.2.2.2.1 k (Nat.le_refl _),hV,← zLa hN.2.2.2.1 k hk'] at *
 have e2:(2:Int)^1=2:=rfl
 rw [e2] at hd
 have:=Int.emod_nonneg (z 0) (show (2:Int)≠0 by decide)
 have:=Int.emod_lt_of_pos (z 0) (show (0:Int)<2 by decide)
 simp at hd
 omega
theorem zPo (b off n c:Nat)(d:Int)(x:Nat->Int)(w:World)(hn:n<1000000)(hd:0<=d)(hd2:d<=6300000)(h:Num w (some ⟨b,off,none⟩) n c x) :
  Calls Tryz.prog 87 #[.slice (some ⟨b,off,none⟩) n c,.int .i64 d] w fun e w'=>∃ g k cap z,e=.returned (.slice (some ⟨g,0,none⟩) k cap)/\k<=n+d.toNat/64+1/\Num w' (some ⟨g,0,none⟩) k cap z/\val z k=val x n*2^d.toNat/\Below w.heap.size w w'/\w.heap.size<=g/\sizeL z k=k:=by
 obtain ⟨q,hq⟩:∃ q:Nat,d/64=q:=⟨(d/64).toNat,by omega⟩
 obtain ⟨r,hr⟩:∃ r:Nat,d%64=r:=⟨(d%64).toNat,by omega⟩
 have hdn:d.toNat=64*q+r:=by omega
 have hr64:r<64:=by omega
 have hq2:q<99000:=by omega
 have hx:=h.2.2.1
 have hv:=zQm hx h.2.2.2.1 q hr64
 rw [hdn]
 by_cases hr0:0<r
 ·exact (yPa b off n c q r d x w (by omega) (by omega) hr64 hr0 hq hr hd h).mono fun e w' ⟨g,k,cap,e1,hk,hN,hB,hf,htr⟩=>⟨g,k,cap,_,e1,by omega,hN,by rw [← hv,zLa hN.2.2.2.1 _ hk],hB,hf,htr⟩
 ·obtain rfl:r=0:=by omega
  exact (yOa b off n c q d x w (by omega) (by omega) hq hr hd h).mono fun e w' ⟨g,k,cap,e1,hk,hN,hB,hf,htr⟩=>⟨g,k,cap,_,e1,by omega,hN,by rw [← hv,zLa hN.2.2.2.1 _ hk],hB,hf,htr⟩
theorem zRu (a a':Option Addr)(n c n' c':Nat)(x y:Nat->Int)(w:World)(hn:n<4000000000)(hn':n'<4000000000)(h:Num w a n c x)(h':Num w a' n' c' y)(hv:val y n'<=val x n) :
  Calls Tryz.prog 126 #[.slice a n c,.slice a' n' c'] w fun e w'=>∃ g k cap z,e=.returned (.slice (some ⟨g,0,none⟩) k cap)/\k<=max n n'/\Num w' (some ⟨g,0,none⟩) k cap z/\val z k=val x n-val y n'/\Below w.heap.size w w'/\w.heap.size<=g/\sizeL z k=k:=by
 refine (zSu a a' n c n' c' x y w (by omega) (by omega) h h').mono fun e w' ⟨g,k,cap,e1,hk,hN,hB,hf,htr⟩=>⟨g,k,cap,_,e1,hk,hN,?_,hB,hf,htr⟩
 have ex:=zLa h.2.2.2.1 (max n n') (by omega)
 have ey:=zLa h'.2.2.2.1 (max n n') (by omega)
 have e:=zAi h.2.2.1 h'.2.2.1 (max n n')
 rw [zZm h.2.2.1 h'.2.2.1 (by omega),ex,ey] at e
 rw [← zLa hN.2.2.2.1 _ hk,zKa (y:=zZc x y) (max n n') fun i hi=>by unfold zFp;rw [if_pos hi]]
 omega
theorem zH9 {z:Nat->Int}{k:Nat}(h:0<val z k):0<k:=by
 rcases Nat.eq_zero_or_pos k with e|e
 ·subst e;simp [val] at h
 ·exact e
theorem zFm {y:Nat->Int}{n q r A:Nat}(hy:zDa y)(hz:∀ i,n<=i->y i=0)(hr:r<64)(m:Nat)(hm:n<=m)(hA:val y n=A):val (zAc y q r) m=((A/2^(64*q+r):Nat):Int):=by
 have hw:zDa (fun i=>y (q+i)):=fun i=>hy (q+i)
 have e1:zAc y q r=zAc (fun i=>y (q+i)) 0 r:=by
  funext j;unfold zAc;simp only [Nat.zero_add,Nat.add_assoc]
 have h1:=zRs hw hr m
 have h2:y (q+m)=0:=hz _ (by omega)
 simp only [h2,Int.zero_emod,Int.zero_mul,Int.add_zero,Nat.add_zero] at h1
 have h3:=zVb y q m
 have h4:val (segW y q m) m=val (fun i=>y (q+i)) m:=zKa m fun i hi=>zBb y q m i hi
 rw [h4,zLa hz (q+m) (by omega),hA] at h3
 rw [e1]
 have hb1:=zVa hy q
 have hb2:=zVa (zLd hw (q:=0) (r:=r)) m
 have hp:(0:Int)<2^r:=zEc r
 have hm1:=Int.emod_nonneg (y q) (Int.ne_of_gt hp)
 have hm2:=Int.emod_lt_of_pos (y q) hp
 generalize val (zAc (fun i=>y (q+i)) 0 r) m=S at *
 generalize val (fun i=>y (q+i)) m=Z at *
 have eZ:Z/2^r=S:=by
  rw [← h1,Int.add_comm,Int.add_mul_ediv_right _ _ (Int.ne_of_gt hp),Int.ediv_eq_zero_of_lt hm1 hm2,Int.zero_add]
 have eA:(A:Int)/18446744073709551616^q=Z:=by
  rw [h3,Int.add_mul_ediv_right _ _ (Int.ne_of_gt (zOb q)),Int.ediv_eq_zero_of_lt hb1.1 hb1.2,Int.zero_add]
 rw [← eZ,← eA,Int.natCast_ediv,Int.ediv_ediv_of_nonneg (Int.le_of_lt (zOb q)),p64']
 simp
theorem bnx {w0 W W':World}(h:Below w0.heap.size w0 W)(hb:Below W.heap.size W W'):Below w0.heap.size w0 W':=h.trans (hb.mono h.size)
def bl (V:Nat):Nat:=if V=0 then 0 else Nat.log2 V+1
theorem bl_le {V k:Nat}:bl V<=k↔V<2^k:=by
 unfold bl
 by_cases h:V=0
 ·subst h;simp;exact Nat.two_pow_pos k
 ·rw [if_neg h]
  have:=Nat.log2_lt h (k:=k)
  omega
theorem bl_ge {V k:Nat}:k<bl V↔2^k<=V:=by
 have:=bl_le (V:=V) (k:=k)
 omega
theorem bl_zero {V:Nat}:bl V=0↔V=0:=by
 unfold bl;by_cases h:V=0<;>simp [h]
theorem yFc {V L:Nat}(h1:2^(L-1)<=V)(h2:V<2^L):bl V=L:=by
 have a:=bl_le.2 h2
 by_cases h:L=0
 ·omega
 ·have b:=bl_ge.2 h1
  omega
def Nt (K V:Nat)(v:Value)(w:World):Prop:=∃ a k cap z,v=.slice a k cap/\k<=K/\Num w a k cap z/\val z k=(V:Int)
theorem Nt.next {K V:Nat}{v:Value}{w w':World}(h:Nt K V v w)(hb:Below w.heap.size w w'):Nt K V v w':=by
 obtain ⟨a,k,cap,z,h1,h2,h3,h4⟩:=h
 exact ⟨a,k,cap,z,h1,h2,h3.next hb,h4⟩
theorem Nt.more {K K' V:Nat}{v:Value}{w:World}(h:Nt K V v w)(hk:K<=K'):Nt K' V v w:=by
 obtain ⟨a,k,cap,z,h1,h2,h3,h4⟩:=h
 exact ⟨a,k,cap,z,h1,by omega,h3,h4⟩
def Nz (K V:Nat)(v:Value)(w:World):Prop:=∃ a k cap z,v=.slice a k cap/\k<=K/\Num w a k cap z/\val z k=(V:Int)/\sizeL z k=k
theorem Nz.next {K V:Nat}{v:Value}{w w':World}(h:Nz K V v w)(hb:Below w.heap.size w w'):Nz K V v w':=by
 obtain ⟨a,k,cap,z,h1,h2,h3,h4,h5⟩:=h
 exact ⟨a,k,cap,z,h1,h2,h3.next hb,h4,h5⟩
theorem Nz.nt {K V:Nat}{v:Value}{w:World}(h:Nz K V v w):Nt K V v w:=by
 obtain ⟨a,k,cap,z,h1,h2,h3,h4,h5⟩:=h
 exact ⟨a,k,cap,z,h1,h2,h3,h4⟩
theorem zRn {z:Nat->Int}{k V:Nat}(hz:zDa z)(hv:val z k=(V:Int)):sizeL z k=0↔V=0:=by
 constructor
 ·intro h
  have:=zMa (x:=z) k
  rw [h] at this
  have h0:val z 0=0:=rfl
  omega
 ·intro h
  subst h
  rcases Nat.eq_zero_or_pos (sizeL z k) with h|h
  ·exact h
  ·exfalso
   have:=zJd (x:=z) (y:=z) hz hz (n:=0) (m:=sizeL z k) h (zGa z k)
   rw [zMa] at this
   have h0:val z 0=0:=rfl
   omega
theorem zEy {z:Nat->Int}{k V:Nat}(hz:zDa z)(hv:val z k=(V:Int)):lenL z k=(bl V:Int):=by
 rcases Nat.eq_zero_or_pos (sizeL z k) with h|h
 ·have h0:=(zRn hz hv).1 h
  unfold lenL;rw [if_pos h,h0];rfl
 ·obtain ⟨L,h1,h2,h3⟩:=zHl hz h
  rw [hv] at h2 h3
  have e:bl V=L+1:=by
   have e1:((2:Int)^L)=((2^L:Nat):Int):=by simp
   have e2:((2:Int)^(L+1))=((2^(L+1):Nat):Int):=by simp
   rw [e1] at h2
   rw [e2] at h3
   exact yFc (by rw [Nat.add_sub_cancel];omega) (by omega)
  rw [e,h1];omega
theorem zDg {z:Nat->Int}{k V m:Nat}(hz:zDa z)(hv:val z k=(V:Int)):sizeL z k<=m↔bl V<=64*m:=by
 have hl:=zEy hz hv
 unfold lenL at hl
 rcases Nat.eq_zero_or_pos (sizeL z k) with h|h
 ·rw [if_pos h] at hl;omega
 ·rw [if_neg (by omega)] at hl
  have ht:=zVc k h
  have hw:=hz (sizeL z k-1)
  have hb:=zRc (z (sizeL z k-1)).toNat (by omega) (by omega)
  omega
theorem zTi {K V:Nat}{v:Value}{w:World}(hK:K<100000000)(h:Nt K V v w) :
  CQ 110 #[v] w (.int .i64 (bl V:Int)):=by
 obtain ⟨a,k,cap,z,rfl,hk,hN,hv⟩:=h
 refine (zVr a k cap z w (by omega) hN).mono fun e w' ⟨h1,h2⟩=>⟨?_,h2⟩
 rw [h1,zEy hN.2.2.1 hv]
theorem zWr {K K' V V':Nat}{v v':Value}{w:World}(hK:K<100000000)(hK':K'<100000000)(h:Nt K V v w)(h':Nt K' V' v' w) :
  CB 57 #[v,v'] w (.int .i64 (sgn (V:Int) (V':Int))):=by
 obtain ⟨a,k,cap,z,rfl,hk,hN,hv⟩:=h
 obtain ⟨a',k',cap',z',rfl,hk',hN',hv'⟩:=h'
 have:=ncmp_b a a' k cap k' cap' z z' w (by omega) (by omega) hN hN'
 rw [hv,hv'] at this
 exact this
theorem zF6 {K K' V V':Nat}{v v':Value}{w:World}(hK:K<100000000)(hK':K'<100000000)(h:Nt K V v w)(h':Nt K' V' v' w) :
  CE 166 #[v,v'] w (Nz (K+K'+1) (V+V')):=by
 obtain ⟨a,k,cap,z,rfl,hk,hN,hv⟩:=h
 obtain ⟨a',k',cap',z',rfl,hk',hN',hv'⟩:=h'
 have s1:=zCa z k
 have s2:=zCa z' k'
 refine (zM3 a a' k cap k' cap' z z' w (by omega) (by omega) hN hN').mono fun e w' ⟨g,k2,cap2,z2,h1,h2,h3,h4,h5,h6⟩=>⟨_,h1,⟨_,k2,cap2,z2,rfl,by omega,h3,?_,h5⟩,h6⟩
 rw [h4,hv,hv'];omega
theorem zD6 {K K' V V':Nat}{v v':Value}{w:World}(hK:K<100000000)(hK':K'<100000000)(h:Nt K V v w)(h':Nt K' V' v' w)(hb:bl V<=128000)(hb':bl V'<=128000)(h0:V'≠0) :
  Calls Tryz.prog 164 #[v,v'] w fun e w'=>∃ q r,e=.returned (.tuple #[q,r,.int .i64 0])/\Nz 2001 (V/V') q w'/\Nz 2001 (V%V') r w'/\Below w.heap.size w w':=by
 obtain ⟨a,k,cap,z,rfl,hk,hN,hv⟩:=h
 obtain ⟨a',k',cap',z',rfl,hk',hN',hv'⟩:=h'
 have s1:=(zDg (m:=2000) hN.2.2.1 hv).2 (by omega)
 have s2:=(zDg (m:=2000) hN'.2.2.1 hv').2 (by omega)
 have s3:0<sizeL z' k':=Nat.pos_of_ne_zero fun e=>h0 ((zRn hN'.2.2.1 hv').1 e)
 refine (zK3 a a' k cap k' cap' z z' w (by omega) (by omega) hN hN' s1 s2 s3).mono fun e w' ⟨o,k2,cap2,z2,o',k3,cap3,z3,h1,h2,h3,h4,h5,h6,h7,h8,h9,h10⟩=>⟨_,_,h1,⟨_,_,_,_,rfl,h2,h4,?_,h8⟩,⟨_,_,_,_,rfl,h3,h5,?_,h9⟩,h10⟩
 ·rw [h6,hv,hv'];simp
 ·rw [h7,hv,hv'];simp
section
def knB (d:Int):Prop:=0<=d/\d<=4
instance (d:Int):Decidable (knB d):=inferInstanceAs (Decidable (_/\_))
theorem zPd (d:Int)(w:World):CQ 44 #[.int .i64 d] w (.bool (decide (knB d))):=by
 by_cases h1:0<=d
 ·by_cases h2:d<=4
  ·rw [decide_eq_true (show knB d from ⟨h1,h2⟩)]
   go_enter Tryz.func44,Tryz.ntmps44
   go_wp2
   go_ret
   exact ⟨rfl,rfl⟩
  ·rw [decide_eq_false (show ¬ knB d from fun h=>h2 h.2)]
   go_enter Tryz.func44,Tryz.ntmps44
   go_wp2
   go_ret
   exact ⟨rfl,rfl⟩
 ·rw [decide_eq_false (show ¬ knB d from fun h=>h1 h.1)]
  go_enter Tryz.func44,Tryz.ntmps44
  go_wp2
  go_ret
  exact ⟨rfl,rfl⟩
def inB (d:Int)(s:Bool):Bool:=if d=0∨d=1 then true else if d=3 then !s else if d=4 then s else false
theorem zMb (d:Int)(s:Bool)(w:World):CQ 176 #[.int .i64 d,.bool s] w (.bool (inB d s)):=by
 by_cases h0:d=0
 ·subst h0
  go_enter Tryz.func176,Tryz.ntmps176
  go_wp2
  go_ret
  exact ⟨rfl,rfl⟩
 ·by_cases h1:d=1
  ·subst h1
   go_enter Tryz.func176,Tryz.ntmps176
   go_wp2
   go_ret
   exact ⟨rfl,rfl⟩
  ·by_cases h3:d=3
   ·subst h3
    go_enter Tryz.func176,Tryz.ntmps176
    go_wp2
    go_ret
    exact ⟨rfl,rfl⟩
   ·by_cases h4:d=4
    ·subst h4
     go_enter Tryz.func176,Tryz.ntmps176
     go_wp2
     go_ret
     exact ⟨rfl,rfl⟩
    ·have e:inB d s=false:=by unfold inB;simp [h0,h1,h3,h4]
     have b0:(d==0)=false:=by simpa using h0
     have b1:(d==1)=false:=by simpa using h1
     have b3:(d==3)=false:=by simpa using h3
     have b4:(d==4)=false:=by simpa using h4
     rw [e]
     go_enter Tryz.func176,Tryz.ntmps176
     go_wp2
     go_ret
     exact ⟨rfl,rfl⟩
def faB (d:Int)(s odd:Bool)(R D:Nat):Bool:=if R=0 then false else if d=0 then decide (D<R+R)||(decide (R+R=D)&&odd) else if d=1 then decide (D<=R+R) else inB d s
theorem zFd (a b:Int):(a<b/\sgn a b=-1)∨(a=b/\sgn a b=0)∨(b<a/\sgn a b=1):=by
 unfold sgn
 by_cases h:a<b
 ·exact Or.inl ⟨h,if_pos h⟩
 ·by_cases h':b<a
  ·exact Or.inr (Or.inr ⟨h',by rw [if_neg h,if_pos h']⟩)
  ·exact Or.inr (Or.inl ⟨by omega,by rw [if_neg h,if_neg h']⟩)
section
variable (d:Int)(s odd:Bool)(R D:Nat)(vr vd:Value)(w:World)
 (c26:∀ W,Below w.heap.size w W->CQ 110 #[vr] W (.int .i64 (bl R:Int)))
include c26
theorem zN4 (h:R=0):CB 165 #[.int .i64 d,.bool s,.bool odd,vr,vd] w (.bool false):=by
 have hb:(((bl R:Nat):Int)==0)=true:=by rw [h];decide
 go_enter Tryz.func165,Tryz.ntmps165
 go_wp2_with (go_at_call 110;refine (c26 _ bgo).mono ?_;rintro e w1 ⟨rfl,rfl⟩)
 go_ret
 exact ⟨rfl,bgo⟩
variable (hv:Int)(hR:(((bl R:Nat):Int)==0)=false)
 (c61:∀ W,Below w.heap.size w W->Calls Tryz.prog 166 #[vr,vr] W fun e w'=>∃ r,e=.returned r/\(∀ W',Below w'.heap.size w' W'->Calls Tryz.prog 57 #[r,vd] W' fun e w''=>e=.returned (.int .i64 hv)/\Below W'.heap.size W' w'')/\Below W.heap.size W w')
include hR c61
theorem far_0g (h:0<hv):CB 165 #[.int .i64 0,.bool s,.bool odd,vr,vd] w (.bool true):=by
 go_enter Tryz.func165,Tryz.ntmps165
 go_wp2_with (first
  | (go_at_call 110;refine (c26 _ bgo).mono ?_;rintro e w1 ⟨rfl,rfl⟩)
  | (go_at_call 166;refine (c61 _ bgo).mono ?_;rintro e w2 ⟨v2,rfl,c58,hb2⟩;have hA2:=bnx (w0:=w) bgo hb2)
  | (go_at_call 57;refine (c58 _ (Below.refl _ _)).mono ?_;rintro e w3 ⟨rfl,hb3⟩;have hA3:=bnx (w0:=w) hA2 hb3)
  | (go_at_call 176;refine (zMb _ _ _).mono ?_;rintro e w4 ⟨rfl,rfl⟩))
 go_ret
 exact ⟨by first|rfl|(simp;omega),bgo⟩
theorem far_0e (h:hv=0):CB 165 #[.int .i64 0,.bool s,.bool odd,vr,vd] w (.bool odd):=by
 subst h
 go_enter Tryz.func165,Tryz.ntmps165
 go_wp2_with (first
  | (go_at_call 110;refine (c26 _ bgo).mono ?_;rintro e w1 ⟨rfl,rfl⟩)
  | (go_at_call 166;refine (c61 _ bgo).mono ?_;rintro e w2 ⟨v2,rfl,c58,hb2⟩;have hA2:=bnx (w0:=w) bgo hb2)
  | (go_at_call 57;refine (c58 _ (Below.refl _ _)).mono ?_;rintro e w3 ⟨rfl,hb3⟩;have hA3:=bnx (w0:=w) hA2 hb3)
  | (go_at_call 176;refine (zMb _ _ _).mono ?_;rintro e w4 ⟨rfl,rfl⟩))
 go_ret
 exact ⟨by first|rfl|(simp;omega),bgo⟩
theorem far_0l (h:¬ 0<hv)(h1:(hv==0)=false):CB 165 #[.int .i64 0,.bool s,.bool odd,vr,vd] w (.bool false):=by
 go_enter Tryz.func165,Tryz.ntmps165
 go_wp2_with (first
  | (go_at_call 110;refine (c26 _ bgo).mono ?_;rintro e w1 ⟨rfl,rfl⟩)
  | (go_at_call 166;refine (c61 _ bgo).mono ?_;rintro e w2 ⟨v2,rfl,c58,hb2⟩;have hA2:=bnx (w0:=w) bgo hb2)
  | (go_at_call 57;refine (c58 _ (Below.refl _ _)).mono ?_;rintro e w3 ⟨rfl,hb3⟩;have hA3:=bnx (w0:=w) hA2 hb3)
  | (go_at_call 176;refine (zMb _ _ _).mono ?_;rintro e w4 ⟨rfl,rfl⟩))
 go_ret
 exact ⟨by first|rfl|(simp;omega),bgo⟩
theorem zK6 (h:0<=hv):CB 165 #[.int .i64 1,.bool s,.bool odd,vr,vd] w (.bool true):=by
 go_enter Tryz.func165,Tryz.ntmps165
 go_wp2_with (first
  | (go_at_call 110;refine (c26 _ bgo).mono ?_;rintro e w1 ⟨rfl,rfl⟩)
  | (go_at_call 166;refine (c61 _ bgo).mono ?_;rintro e w2 ⟨v2,rfl,c58,hb2⟩;have hA2:=bnx (w0:=w) bgo hb2)
  | (go_at_call 57;refine (c58 _ (Below.refl _ _)).mono ?_;rintro e w3 ⟨rfl,hb3⟩;have hA3:=bnx (w0:=w) hA2 hb3)
  | (go_at_call 176;refine (zMb _ _ _).mono ?_;rintro e w4 ⟨rfl,rfl⟩))
 go_ret
 exact ⟨by first|rfl|(simp;omega),bgo⟩
theorem far_1l (h:¬ 0<=hv):CB 165 #[.int .i64 1,.bool s,.bool odd,vr,vd] w (.bool false):=by
 go_enter Tryz.func165,Tryz.ntmps165
 go_wp2_with (first
  | (go_at_call 110;refine (c26 _ bgo).mono ?_;rintro e w1 ⟨rfl,rfl⟩)
  | (go_at_call 166;refine (c61 _ bgo).mono ?_;rintro e w2 ⟨v2,rfl,c58,hb2⟩;have hA2:=bnx (w0:=w) bgo hb2)
  | (go_at_call 57;refine (c58 _ (Below.refl _ _)).mono ?_;rintro e w3 ⟨rfl,hb3⟩;have hA3:=bnx (w0:=w) hA2 hb3)
  | (go_at_call 176;refine (zMb _ _ _).mono ?_;rintro e w4 ⟨rfl,rfl⟩))
 go_ret
 exact ⟨by first|rfl|(simp;omega),bgo⟩
theorem far_d (h0:(d==0)=false)(h1:(d==1)=false):CB 165 #[.int .i64 d,.bool s,.bool odd,vr,vd] w (.bool (inB d s)):=by
 go_enter Tryz.func165,Tryz.ntmps165
 go_wp2_with (first
  | (go_at_call 110;refine (c26 _ bgo).mono ?_;rintro e w1 ⟨rfl,rfl⟩)
  | (go_at_call 166;refine (c61 _ bgo).mono ?_;rintro e w2 ⟨v2,rfl,c58,hb2⟩;have hA2:=bnx (w0:=w) bgo hb2)
  | (go_at_call 57;refine (c58 _ (Below.refl _ _)).mono ?_;rintro e w3 ⟨rfl,hb3⟩;have hA3:=bnx (w0:=w) hA2 hb3)
  | (go_at_call 176;refine (zMb _ _ _).mono ?_;rintro e w4 ⟨rfl,rfl⟩))
 go_ret
 exact ⟨by first|rfl|(simp;omega),bgo⟩
end
theorem zUy (d:Int)(s odd:Bool){K K' R D:Nat}{vr vd:Value}{w:World}(hK:K<1000000)(hK':K'<1000000)(h:Nt K R vr w)(h':Nt K' D vd w) :
  CB 165 #[.int .i64 d,.bool s,.bool odd,vr,vd] w (.bool (faB d s odd R D)):=by
 have c26:=fun W (hb:Below w.heap.size w W)=>zTi (by omega) (h.next hb)
 unfold faB
 by_cases hz:R=0
 ·rw [if_pos hz];exact zN4 d s odd R vr vd w c26 hz
 ·rw [if_neg hz]
  have hR:(((bl R:Nat):Int)==0)=false:=by
   have:bl R≠0:=fun e=>hz (bl_zero.1 e)
   rw [beq_eq_false_iff_ne];omega
  have c61:∀ W,Below w.heap.size w W->Calls Tryz.prog 166 #[vr,vr] W fun e w'=>∃ r,e=.returned r/\(∀ W',Below w'.heap.size w' W'->Calls Tryz.prog 57 #[r,vd] W' fun e w''=>e=.returned (.int .i64 (sgn ((R+R:Nat):Int) (D:Int)))/\Below W'.heap.size W' w'')/\Below W.heap.size W w':=fun W hb =>
   (zF6 (by omega) (by omega) (h.next hb) (h.next hb)).mono fun e w' ⟨r,h1,h2,h3⟩=>⟨r,h1,fun W' hb'=>zWr (by omega) (by omega) (h2.nt.next hb') (h'.next (bnx (bnx hb h3) hb')),h3⟩
  by_cases h0:d=0
  ·subst h0
   rw [if_pos rfl]
   rcases zFd ((R+R:Nat):Int) (D:Int) with ⟨a,e⟩|⟨a,e⟩|⟨a,e⟩
   ·rw [e] at c61
    rw [decide_eq_false (show ¬ D<R+R by omega),decide_eq_false (show ¬ R+R=D by omega)]
    exact far_0l s odd R vr vd w c26 (-1) hR c61 (by decide) (by decide)
   ·rw [e] at c61
    rw [decide_eq_false (show ¬ D<R+R by omega),decide_eq_true (show R+R=D by omega),Bool.false_or,Bool.true_and]
    exact far_0e s odd R vr vd w c26 0 hR c61 rfl
   ·rw [e] at c61
    rw [decide_eq_true (show D<R+R by omega),Bool.true_or]
    exact far_0g s odd R vr vd w c26 1 hR c61 (by decide)
  ·rw [if_neg h0]
   by_cases h1:d=1
   ·subst h1
    rw [if_pos rfl]
    rcases zFd ((R+R:Nat):Int) (D:Int) with ⟨a,e⟩|⟨a,e⟩|⟨a,e⟩
    ·rw [e] at c61
     rw [decide_eq_false (show ¬ D<=R+R by omega)]
     exact far_1l s odd R vr vd w c26 (-1) hR c61 (by decide)
    ·rw [e] at c61
     rw [decide_eq_true (show D<=R+R by omega)]
     exact zK6 s odd R vr vd w c26 0 hR c61 (by decide)
    ·rw [e] at c61
     rw [decide_eq_true (show D<=R+R by omega)]
     exact zK6 s odd R vr vd w c26 1 hR c61 (by decide)
   ·rw [if_neg h1]
    exact far_d d s odd R vr vd w c26 _ hR c61 (by simpa using h0) (by simpa using h1)
theorem zAu (x s:Bool)(w:World):CQ 118 #[.bool x,.bool s] w (.int .i64 (if x then 0 else if s then 12 else 8)):=by
 cases x<;>cases s
 all_goals (
  go_enter Tryz.func118,Tryz.ntmps118
  go_wp2
  go_ret
  exact ⟨rfl,rfl⟩)
end
section
theorem zC3 {K V:Nat}{v:Value}{w w':World}(h:Nz K V v w)(hb:Below w.heap.size w w'):Nz (K+2) V v w':=by
 obtain ⟨a,k,cap,z,rfl,hk,hN,hv,hs⟩:=h
 exact ⟨a,k,cap,z,rfl,by omega,hN.next hb,hv,hs⟩
theorem zE3 {W:World}{g V:Nat}{vi:Int}(hg:g=W.heap.size)(hv:vi=(V:Int))(hb:V<18446744073709551616):Nt 1 V (.slice (some ⟨g,0,none⟩) 1 1) (W.alloc (.cells #[.int .u64 vi] 22)):=by
 subst hg hv
 exact ⟨_,1,1,zEd V,rfl,Nat.le_refl _,zOd W V (by omega),zKf V⟩
section
variable (d:Int)(s odd far:Bool)(vn vd:Value)(Q R D:Nat)(w:World)(hvb:Nt 2001 D vd w)
 (c59:Calls Tryz.prog 164 #[vn,vd] w fun e w'=>∃ q r,e=.returned (.tuple #[q,r,.int .i64 0])/\Nz 2001 Q q w'/\Nz 2001 R r w'/\Below w.heap.size w w')
 (c60:∀ W vr vb,Nt 2001 R vr W->Nt 2001 D vb W->CB 165 #[.int .i64 d,.bool s,.bool odd,vr,vb] W (.bool far))
 (c26:∀ W vr,Nt 2001 R vr W->CQ 110 #[vr] W (.int .i64 (bl R:Int)))
 (c61:∀ W q v,Nt 2001 Q q W->Nt 1 1 v W->CE 166 #[q,v] W (Nz 2003 (Q+1)))
 (hodd:∀ k z,zDa z->val z k=(Q:Int)->0<k->(bits BinOp.and IntKind.u64 (z 0) 1==1)=odd)
 (hodd0:Q=0->odd=false)
include hvb c59 c60 c26 c61 hodd hodd0
theorem zE1:Calls Tryz.prog 99 #[.int .i64 d,.bool s,vn,vd] w fun e w'=>∃ v,e=.returned (.tuple #[v,.bool (((bl R:Nat):Int)==0)])/\Nz 2003 (if far then Q+1 else Q) v w'/\Below w.heap.size w w':=by
 go_enter Tryz.func99,Tryz.ntmps99
 go_upto_region 2 with (go_at_call 164;refine c59.mono ?_;rintro e w2 ⟨q,r,rfl,hq,hr,hb2⟩)
 replace hvb:=hvb.next hb2
 have hq':=hq
 obtain ⟨aq,kq,cq,zq,rfl,hkq,hNq,hvq,hsq⟩:=hq
 go_cut [12] from 13 (fun o wc=>o=.bool odd/\wc=w2)
 case first =>
  rcases Nat.eq_zero_or_pos kq with hk0|hk0
  ·have h0:Q=0:=by
    subst hk0
    have:val zq 0=0:=rfl
    omega
   have ho:=hodd0 h0
   subst ho hk0
   clear hodd hodd0 c59 c60 c61 c26
   go_wp2
   go_meet
   exact ⟨rfl,rfl⟩
  ·have ho:=hodd kq zq hNq.2.2.1 hvq hk0
   have hki:(0:Int)<kq:=by omega
   have hz0:=hNq.2.2.1 0
   obtain ⟨n1,n2,n3,n4,n5⟩:=hNq
   rcases n5 with ⟨_,n6⟩|⟨b,off,rfl,n7,n8⟩
   ·omega
   ·have hc0:=n8 0 hk0
    rw [Nat.add_zero] at hc0
    subst ho
    clear hodd hodd0 c59 c60 c61 c26
    go_wp2
    go_meet
    exact ⟨rfl,rfl⟩
 case rest =>
  obtain ⟨rfl,rfl⟩:=hcut
  clear hNq hvq hsq hodd hodd0 c59
  cases far with
  | false =>
   go_wp2_with (first
    | (go_at_call 165;refine (c60 _ _ _ hr.nt hvb).mono ?_;rintro e w3 ⟨rfl,hb3⟩)
    | (go_at_call 110;refine (c26 _ _ (hr.nt.next hb3)).mono ?_;rintro e w4 ⟨rfl,rfl⟩))
   exact bodyPost_ret (v:=.tuple #[_,_]) (by simp only [results,Tryz.results99];go_simp) rfl ⟨_,rfl,zC3 hq' hb3,bnx hb2 hb3⟩
  | true =>
   go_wp2_with (first
    | (go_at_call 165;refine (c60 _ _ _ hr.nt hvb).mono ?_;rintro e w3 ⟨rfl,hb3⟩)
    | (go_at_call 166;refine (c61 _ _ _ (hq'.nt.next (bnx hb3 bgo)) (zE3 (by simp) rfl (by decide))).mono ?_;rintro e w4 ⟨v4,rfl,h4,hb4⟩;have hA4:Below wc.heap.size wc w4:=bnx (bnx hb3 bgo) hb4)
    | (go_at_call 110;refine (c26 _ _ (hr.nt.next hA4)).mono ?_;rintro e w5 ⟨rfl,rfl⟩))
   exact bodyPost_ret (v:=.tuple #[v4,_]) (by simp only [results,Tryz.results99];go_simp) rfl ⟨_,rfl,h4,bnx hb2 hA4⟩
end
theorem zN9 {k Q:Nat}{z:Nat->Int}(hz:zDa z)(hv:val z k=(Q:Int))(hk:0<k):(bits BinOp.and IntKind.u64 (z 0) 1==1)=decide (Q%2=1):=by
 have hb:=hz 0
 rw [show (1:Int)=2^1-1 by decide,zUf hb (by decide)]
 obtain ⟨k',rfl⟩:∃ k',k=1+k':=⟨k-1,by omega⟩
 have hs:=zVb z 1 k'
 rw [hv] at hs
 have h10:val z 1=z 0:=by show val z 0+z 0*18446744073709551616^0=z 0;simp [val]
 rw [h10,Int.pow_one] at hs
 rcases Nat.mod_two_eq_zero_or_one Q with e|e
 ·rw [decide_eq_false (by omega)]
  rw [beq_eq_false_iff_ne];omega
 ·rw [decide_eq_true e]
  rw [beq_iff_eq];omega
theorem zFh (R:Nat):(((bl R:Nat):Int)==0)=decide (R=0):=by
 by_cases hz:R=0
 ·rw [hz];rfl
 ·rw [decide_eq_false hz,beq_eq_false_iff_ne]
  have:=mt bl_zero.1 hz
  omega
theorem zF1 (d:Int)(s:Bool){N D:Nat}{vn vd:Value}{w:World}(h:Nt 2001 N vn w)(h':Nt 2001 D vd w)(hD:D≠0)(h1:bl N<=128000)(h2:bl D<=128000) :
  Calls Tryz.prog 99 #[.int .i64 d,.bool s,vn,vd] w fun e w'=>∃ v,e=.returned (.tuple #[v,.bool (decide (N%D=0))])/\Nz 2003 (if faB d s (decide (N/D%2=1)) (N%D) D then N/D+1 else N/D) v w'/\Below w.heap.size w w':=by
 refine (zE1 d s (decide (N/D%2=1)) (faB d s (decide (N/D%2=1)) (N%D) D) vn vd (N/D) (N%D) D w h' (zD6 (by decide) (by decide) h h' h1 h2 hD) (fun W vr vb a b=>zUy d s _ (by decide) (by decide) a b) (fun W vr a=>zTi (by decide) a) (fun W q v a b=>zF6 (by decide) (by decide) a b) (fun k z hz hv hk=>zN9 hz hv hk) ?_).mono ?_
 ·intro h0
  rw [h0];rfl
 ·rintro e w' ⟨v,e1,e2,e3⟩
  rw [zFh] at e1
  exact ⟨v,e1,e2,e3⟩
end
section
def ld (N D:Nat):Int:=let p:=(bl N:Int)-bl D;if N*2^(-p).toNat<D*2^p.toNat then p-1 else p
section
variable (vn vd:Value)(LN LD s:Int)(w:World)(hLN:0<=LN/\LN<=60000)(hLD:0<=LD/\LD<=60000)
 (c26:∀ W,Below w.heap.size w W->CQ 110 #[vn] W (.int .i64 LN))
 (c26d:∀ W,Below w.heap.size w W->CQ 110 #[vd] W (.int .i64 LD))
 (c57:∀ n:Int,n=-(LN-LD)->Calls Tryz.prog 149 #[vn,vd,.int .i64 n] w fun e w'=>∃ va vb,e=.returned (.tuple #[va,vb])/\(∀ W,Below w'.heap.size w' W->Calls Tryz.prog 57 #[va,vb] W fun e w''=>e=.returned (.int .i64 s)/\Below W.heap.size W w'')/\Below w.heap.size w w')
include hLN hLD c26 c26d c57
end
end
def W4 (A:Nat)(i:Nat):Int:=((A/2^(64*i)%18446744073709551616:Nat):Int)
abbrev A4 (A:Nat):Value:=.agg #[.int .u64 (W4 A 0),.int .u64 (W4 A 1),.int .u64 (W4 A 2),.int .u64 (W4 A 3)]
theorem zJa (A:Nat):zDa (W4 A):=fun i=>by
 unfold W4
 have:=Nat.mod_lt (A/2^(64*i)) (show 0<18446744073709551616 by decide)
 omega
theorem p64n (n:Nat):(18446744073709551616:Int)^n=((2^(64*n):Nat):Int):=by
 rw [Nat.pow_mul]
 simp
theorem zCt (A:Nat):∀ n,val (W4 A) n=((A%2^(64*n):Nat):Int)
 | 0=>by simp [val,Nat.mod_one]
 | n+1=>by
  show val (W4 A) n+W4 A n*18446744073709551616^n=_
  have e:A%2^(64*(n+1))=A%2^(64*n)+2^(64*n)*(A/2^(64*n)%18446744073709551616):=by
   rw [show 64*(n+1)=64*n+64 by omega,Nat.pow_add]
   exact Nat.mod_mul
  rw [zCt A n,p64n,e]
  unfold W4
  rw [Int.natCast_add,Int.natCast_mul,Int.mul_comm]
theorem zRb {A:Nat}(h:A<2^256):val (W4 A) 4=A:=by
 rw [zCt,Nat.mod_eq_of_lt h]
theorem arr_eq {x y:Nat->Int}(hx:zDa x)(hy:zDa y)(h:val x 4=val y 4):arrOf x 4=arrOf y 4 :=
 zPg (zLp hx hy 4 h)
theorem zJh {x:Nat->Int}(hx:zDa x){A:Nat}(h:val x 4=((A%2^256:Nat):Int)):Value.agg (arrOf x 4)=A4 A:=by
 have e:arrOf x 4=arrOf (W4 A) 4:=arr_eq hx (zJa A) (by rw [h,zCt])
 rw [e];rfl
theorem zWl (A:Nat):A4 (A%2^256)=A4 A:=by
 have:=zJh (zJa (A%2^256)) (A:=A) (by rw [zCt,Nat.mod_mod])
 exact this
theorem zDp {A B:Nat}(hA:A<2^256)(hB:B<2^256)(h:∀ i,i<4->W4 A i=W4 B i):A=B:=by
 have:=zKa (x:=W4 A) (y:=W4 B) 4 h
 rw [zRb hA,zRb hB] at this
 omega
theorem zC1 {x:Nat->Int}(hx:zDa x):∃ A,A<2^256/\Value.agg (arrOf x 4)=A4 A/\val x 4=A:=by
 have hb:=zVa hx 4
 have e:(18446744073709551616:Int)^4=((2^256:Nat):Int):=by decide
 rw [e] at hb
 obtain ⟨A,hA⟩:=Int.eq_ofNat_of_zero_le hb.1
 have hlt:A<2^256:=by rw [hA] at hb;exact Int.ofNat_lt.1 hb.2
 exact ⟨A,hlt,zJh hx (by rw [Nat.mod_eq_of_lt hlt];exact hA),hA⟩
theorem zE7 (A B:Nat)(w:World)(hA:A<2^256)(hB:B<2^256) :
  CB 37 #[A4 A,A4 B] w (.tuple #[A4 (A+B),.int .u64 (((A+B)/2^256:Nat):Int)]):=by
 refine (yIa (W4 A) (W4 B) w (zJa A) (zJa B)).mono ?_
 rintro e w' ⟨rfl,hb⟩
 refine ⟨?_,hb⟩
 have hs:=zPh (x:=W4 A) (y:=W4 B) 4
 have hc:=zXc (zJa A) (zJa B) 4
 have hv:=zVa (zKd (W4 A) (W4 B)) 4
 rw [zRb hA,zRb hB] at hs
 have e4:(18446744073709551616:Int)^4=115792089237316195423570985008687907853269984665640564039457584007913129639936:=by decide
 have e4n:(2:Nat)^256=115792089237316195423570985008687907853269984665640564039457584007913129639936:=by decide
 rw [e4] at hs hv
 rw [e4n] at hA hB ⊢
 rw [zJh (zKd _ _) (A:=A+B) (by rw [e4n];omega)]
 have:carryW (W4 A) (W4 B) 4=(((A+B)/115792089237316195423570985008687907853269984665640564039457584007913129639936:Nat):Int):=by omega
 rw [this]
theorem sub4 (A B:Nat)(w:World)(hA:A<2^256)(hB:B<2^256) :
  CB 73 #[A4 A,A4 B] w (.tuple #[A4 (A+2^256-B),.int .u64 (if A<B then 1 else 0)]):=by
 refine (yAa (W4 A) (W4 B) w (zJa A) (zJa B)).mono ?_
 rintro e w' ⟨rfl,hb⟩
 refine ⟨?_,hb⟩
 have hs:=zAi (x:=W4 A) (y:=W4 B) (zJa A) (zJa B) 4
 have hc:=zIf (W4 A) (W4 B) 4
 have hv:=zVa (zIe (W4 A) (W4 B)) 4
 rw [zRb hA,zRb hB] at hs
 have e4:(18446744073709551616:Int)^4=115792089237316195423570985008687907853269984665640564039457584007913129639936:=by decide
 have e4n:(2:Nat)^256=115792089237316195423570985008687907853269984665640564039457584007913129639936:=by decide
 rw [e4] at hs hv
 rw [e4n] at hA hB ⊢
 rw [zJh (zIe _ _) (A:=A+115792089237316195423570985008687907853269984665640564039457584007913129639936-B) (by rw [e4n];omega)]
 have:zXe (W4 A) (W4 B) 4=if A<B then 1 else 0:=by split<;>omega
 rw [this]
theorem zFt {A B:Nat}(h:B<=A):A4 (A+2^256-B)=A4 (A-B):=by
 rw [← zWl (A-B),← zWl (A+2^256-B),show A+2^256-B=A-B+2^256 by omega,Nat.add_mod_right]
theorem zS8 (A n:Nat)(w:World)(hA:A<2^256)(hn:n<=100000) :
  CB 74 #[A4 A,.int .i64 n] w (A4 (A*2^n)):=by
 refine (shlA4 (W4 A) n w (zJa A) (by omega)).mono ?_
 rintro e w' ⟨rfl,hb⟩
 refine ⟨?_,hb⟩
 congr 1
 by_cases h1:n=0
 ·subst h1
  have e:zHw (W4 A) ((0:Nat):Int)=W4 A:=by funext j;unfold zHw;rw [if_pos (by omega)]
  rw [e,Nat.pow_zero,Nat.mul_one];rfl
 refine zJh (zSt (zJa A) _) ?_
 have hlow:=zH2 (zJa A) (N:=4) (((n:Int)/64).toNat) (((n:Int)%64).toNat)
 have es:zHw (W4 A) (n:Int)=zOk (W4 A) ((n:Int)/64).toNat ((n:Int)%64).toNat:=by funext j;unfold zHw;rw [if_neg (by omega)]
 rw [es]
 obtain ⟨q,hq⟩:∃ q:Nat,((n:Int)/64).toNat=q:=⟨_,rfl⟩
 obtain ⟨r,hr⟩:∃ r:Nat,((n:Int)%64).toNat=r:=⟨_,rfl⟩
 rw [hq,hr] at hlow ⊢
 have hn:n=64*q+r:=by omega
 have hr6:r<64:=by omega
 have h4:val (zOk (W4 A) q r) 4=val (zMc (zVe (W4 A) 4) q r) 4:=by
  refine zKa 4 fun i hi=>?_
  have:=congrFun hlow i
  rw [zLb hi,zLb hi] at this
  exact this
 have hlw:zDa (zVe (W4 A) 4):=zNf (zJa A) 4
 have hz:∀ i,4<=i->zVe (W4 A) 4 i=0:=fun i hi=>zSe hi
 have hF:=zQm hlw hz q hr6
 have hvl:val (zVe (W4 A) 4) 4=A:=by
  rw [zKa (x:=zVe (W4 A) 4) (y:=W4 A) 4 (fun i hi=>zLb hi),zRb hA]
 rw [hvl,← hn] at hF
 have hsp:=zVb (zMc (zVe (W4 A) 4) q r) 4 (q+1)
 rw [show 4+(q+1)=4+q+1 by omega,hF] at hsp
 have hbd:=zVa (zHe hlw (q:=q) (r:=r)) 4
 have e4:(18446744073709551616:Int)^4=((2^256:Nat):Int):=by decide
 rw [e4] at hbd hsp
 rw [h4]
 have:(A:Int)*2^n=((A*2^n:Nat):Int):=by simp
 rw [this] at hsp
 have h5:=congrArg (·%((2^256:Nat):Int)) hsp
 simp only [Int.add_mul_emod_self_right,Int.emod_eq_of_lt hbd.1 hbd.2] at h5
 rw [← h5]
 rfl
theorem shr4 (A n:Nat)(w:World)(hA:A<2^256)(hn:n<=100000) :
  CB 72 #[A4 A,.int .i64 n] w (A4 (A/2^n)):=by
 refine (shrA4 (W4 A) n w (zJa A) (by omega)).mono ?_
 rintro e w' ⟨rfl,hb⟩
 refine ⟨?_,hb⟩
 congr 1
 by_cases h1:n=0
 ·subst h1
  have e:zGw (W4 A) ((0:Nat):Int) 4=W4 A:=by funext j;unfold zGw;rw [if_pos (by omega)]
  rw [e,Nat.pow_zero,Nat.div_one];rfl
 refine zJh (zRt (zJa A) _ _) ?_
 have hlow:=zG2 (zJa A) (N:=4) (((n:Int)/64).toNat) (((n:Int)%64).toNat)
 have es:zGw (W4 A) (n:Int) 4=zAj (W4 A) ((n:Int)/64).toNat ((n:Int)%64).toNat 4:=by funext j;unfold zGw;rw [if_neg (by omega)]
 rw [es]
 obtain ⟨q,hq⟩:∃ q:Nat,((n:Int)/64).toNat=q:=⟨_,rfl⟩
 obtain ⟨r,hr⟩:∃ r:Nat,((n:Int)%64).toNat=r:=⟨_,rfl⟩
 rw [hq,hr] at hlow ⊢
 have hn:n=64*q+r:=by omega
 have hr6:r<64:=by omega
 have h4:val (zAj (W4 A) q r 4) 4=val (zAc (zVe (W4 A) 4) q r) 4:=by
  refine zKa 4 fun i hi=>?_
  have:=congrFun hlow i
  rw [zLb hi] at this
  exact this
 rw [h4]
 exact (zFm (zNf (zJa A) 4) (fun i hi=>zSe hi) hr6 4 (Nat.le_refl _) (by
  rw [zKa (x:=zVe (W4 A) 4) (y:=W4 A) 4 (fun i hi=>zLb hi),zRb hA])).trans (by rw [← hn,Nat.mod_eq_of_lt (Nat.lt_of_le_of_lt (Nat.div_le_self _ _) hA)])
theorem zJg {A k:Nat}(hA:A<2^256):lenL (W4 A) 4<=(k:Int)↔A<2^k:=by
  have hv:=zRb hA
  by_cases h0:0<sizeL (W4 A) 4
  · obtain ⟨L,h1,h2,h3⟩:=zHl (zJa A) h0
    rw [hv] at h2 h3
    rw [h1]
    have h2' : 2 ^ L ≤ A := by have : ((2 ^ L : Nat) : Int) ≤ A := by simpa using h2
                               omega
    have h3' : A < 2 ^ (L + 1) := by have : (A : Int) < ((2 ^ (L + 1) : Nat) : Int) := by simpa using h3
                                     omega
    constructor
    · intro h
      exact Nat.lt_of_lt_of_le h3' (Nat.pow_le_pow_right (by decide) (by omega))
    · intro h
      have:2^L<2^k:=Nat.lt_of_le_of_lt h2' h
      have:=(Nat.pow_lt_pow_iff_right (a:=2) (by decide)).1 this
      omega
  · have hz:sizeL (W4 A) 4=0:=by omega
    have hl:lenL (W4 A) 4=0:=by unfold lenL;rw [if_pos hz]
    have hA0:(A:Int)=0:=by
      rw [← hv,← zMa 4,hz];rfl
    rw [hl]
    have:A=0:=by omega
    subst this
    exact ⟨fun _=>Nat.two_pow_pos k,fun _=>by omega⟩
theorem zFf {A:Nat}(hA:A<2^256):lenL (W4 A) 4=0↔A=0:=by
 have h:=zJg (k:=0) hA
 have h2:0<=lenL (W4 A) 4:=by
  by_cases h0:0<sizeL (W4 A) 4
  ·obtain ⟨L,h1,_⟩:=zHl (zJa A) h0
   omega
  ·unfold lenL;rw [if_pos (by omega)];exact Int.le_refl _
 constructor
 ·intro h3;have:=h.1 (by omega);omega
 ·intro h3;have:=h.2 (by omega);omega
theorem zEs (A:Nat):lenL (zVe (W4 A) 4) 4=lenL (W4 A) 4:=by
 unfold lenL
 rw [zMe (x:=zVe (W4 A) 4) (y:=W4 A) 4 (fun i hi=>zLb hi)]
 by_cases h:sizeL (W4 A) 4=0
 ·rw [if_pos h,if_pos h]
 ·have:=zCa (W4 A) 4
  rw [if_neg h,if_neg h,zLb (by omega)]
theorem zEq (A:Nat)(w:World):CB 75 #[A4 A] w (.int .i64 (lenL (W4 A) 4)):=len4 (W4 A) w (zJa A)
theorem bit4 (A n:Nat)(w:World)(hA:A<2^256)(hn:n<256) :
  CB 71 #[A4 A,.int .i64 n] w (.int .u64 ((A/2^n%2:Nat):Int)):=by
 refine (yHa (W4 A) n w (zJa A) (by omega) (by omega)).mono ?_
 rintro e w' ⟨rfl,hb⟩
 refine ⟨?_,hb⟩
 have hb:=zJa A ((n:Int)/64).toNat
 have h1:bitV (W4 A ((n:Int)/64).toNat) n=((A/2^n%2:Nat):Int):=by
  unfold bitV
  have h2:=zUf (y:=W4 A ((n:Int)/64).toNat/2^((n:Int)%64).toNat) (r:=1) (zTc _ _ hb) (by decide)
  rw [show (1:Int)=2^1-1 by decide,h2]
  unfold W4
  obtain ⟨q,hq⟩:∃ q:Nat,((n:Int)/64).toNat=q:=⟨_,rfl⟩
  obtain ⟨r,hr⟩:∃ r:Nat,((n:Int)%64).toNat=r:=⟨_,rfl⟩
  rw [hq,hr]
  have hn:n=64*q+r:=by omega
  have hr6:r<64:=by omega
  have e1:((2:Int)^r)=((2^r:Nat):Int):=by simp
  rw [e1,← Int.natCast_ediv]
  have e2:A/2^n=A/2^(64*q)/2^r:=by rw [hn,Nat.pow_add,Nat.div_div_eq_div_mul]
  rw [e2]
  generalize A/2^(64*q)=B
  have e3:B%18446744073709551616/2^r%2=B/2^r%2:=by
   rw [show (18446744073709551616:Nat)=2^r*(2*2^(63-r)) by rw [← Nat.pow_succ',← Nat.pow_add,show r+(63-r+1)=64 by omega]]
   rw [Nat.mod_mul_right_div_self,Nat.mod_mul_right_mod]
  have e4:((2:Int)^1)=((2:Nat):Int):=by decide
  rw [e4,← Int.natCast_emod,e3]
 rw [h1]
theorem of4 (u:Nat)(w:World)(hu:u<18446744073709551616) :
  CB 78 #[.int .u64 u] w (A4 u):=by
 have e0:W4 u 0=u:=by unfold W4;rw [Nat.mul_zero,Nat.pow_zero,Nat.div_one,Nat.mod_eq_of_lt hu]
 have e1:∀ i,0<i->W4 u i=0:=fun i hi=>by
  unfold W4
  have:u<2^(64*i):=Nat.lt_of_lt_of_le hu (by rw [show (18446744073709551616:Nat)=2^64 by decide];exact Nat.pow_le_pow_right (by decide) (by omega))
  rw [Nat.div_eq_of_lt this];rfl
 unfold A4
 rw [e0,e1 1 (by decide),e1 2 (by decide),e1 3 (by decide)]
 go_enter Tryz.func78,Tryz.ntmps78
 go_wp2
 exact bodyPost_ret (v:=.agg #[.int .u64 u,.int .u64 0,.int .u64 0,.int .u64 0]) (by simp [results,Tryz.results78,go_sem]) rfl ⟨rfl,((Below.refl _ _).alloc (Nat.le_refl _) _).alloc (by simp) _⟩
structure Fm (f e:Nat) (l m:Int):Prop where
 f2:2<=f
 f240:f<=240
 e2:2<=e
 e15:e<=15
 fe:f+e<=255
 l1:-1000000<=l
 l0:l<=0
 m:m=l+2^e-3
abbrev LV (f e:Nat)(l m:Int):Value:=.agg #[.int .i64 f,.int .i64 e,.int .i64 l,.int .i64 m]
theorem zBu {e:Nat}(h2:2<=e)(h15:e<=15):(4:Int)<=2^e/\(2:Int)^e<=32768:=by
 have a:(2:Nat)^2<=2^e:=Nat.pow_le_pow_right (by decide) h2
 have b:(2:Nat)^e<=2^15:=Nat.pow_le_pow_right (by decide) h15
 have c:((2:Int)^e)=((2^e:Nat):Int):=by simp
 rw [c];omega
theorem zNd (f e:Nat)(l m:Int)(w:World)(h:Fm f e l m) :
  CB 35 #[LV f e l m] w (.int .u64 ((2^e-1:Nat):Int)):=by
 have h2:=h.e2
 have h15:=h.e15
 have hp:=zBu h2 h15
 have hc:((2^e-1:Nat):Int)=2^e-1:=by
  have c:((2:Int)^e)=((2^e:Nat):Int):=by simp
  have:1<=2^e:=Nat.one_le_two_pow
  rw [c];omega
 rw [hc]
 clear hc h
 go_enter Tryz.func35,Tryz.ntmps35
 go_wp2
 go_ret
 exact ⟨rfl,(Below.refl _ _).alloc (Nat.le_refl _) _⟩
theorem lt_below {n g:Nat}{W W':World}(hb:Below n W W')(h:g<W.heap.size):g<W'.heap.size:=Nat.lt_of_lt_of_le h hb.size
theorem zYc {w0 W W':World}(h:Below w0.heap.size w0 W)(hb:Below W.heap.size W W'):Below w0.heap.size w0 W':=h.trans (hb.mono h.size)
theorem zSj (n:Nat)(w:World)(hn:n<=100000) :
  CB 38 #[.int .i64 n] w (A4 (2^n)):=by
 have c1:=fun w=>of4 1 w (by decide)
 have c2:=fun w=>zS8 1 n w (by decide) hn
 rw [Nat.one_mul] at c2
 go_enter Tryz.func38,Tryz.ntmps38
 go_wp2_with (first
  | (go_at_call 78;refine (c1 _).mono ?_;rintro x w1 ⟨rfl,hb1⟩;obtain ⟨hc1,hf1⟩:=yIc hb1;have hz1:=zBy hb1;have hA1:=zYc (w0:=w) bgo hb1;clear hb1)
  | (go_at_call 74;refine (c2 _).mono ?_;rintro x w2 ⟨rfl,hb2⟩;obtain ⟨hc2,hf2⟩:=yIc hb2;have hz2:=Nat.lt_of_lt_of_le hz1 hb2.size;have hA2:=zYc (w0:=w) bgo hb2;clear hb2))
 exact bodyPost_ret (v:=A4 (2^n)) (by simp [results,Tryz.results38,go_sem, *]) rfl ⟨rfl,bgo⟩
theorem zVn (f e:Nat)(l m:Int)(w:World)(h:Fm f e l m) :
  CB 76 #[LV f e l m] w (A4 (2^(f-1))):=by
 have h2:=h.f2
 have h240:=h.f240
 have c1:=fun w=>zSj (f-1) w (by omega)
 rw [show ((f-1:Nat):Int)=(f:Int)-1 by omega] at c1
 clear h
 go_enter Tryz.func76,Tryz.ntmps76
 go_wp2_with (go_at_call 38;refine (c1 _).mono ?_;rintro x w1 ⟨rfl,hb1⟩;obtain ⟨hc1,hf1⟩:=yIc hb1)
 have hA1:=zYc (w0:=w) bgo hb1
 exact bodyPost_ret (v:=A4 (2^(f-1))) (by simp [results,Tryz.results76,go_sem,hc1,hf1]) rfl ⟨rfl,bgo⟩
theorem zW9 {f e B:Nat}(he:e<=15):bits BinOp.and IntKind.u64 (W4 (B/2^f) 0) ((2^e-1:Nat):Int)=((B/2^f%2^e:Nat):Int):=by
 have hc:((2^e-1:Nat):Int)=2^e-1:=by
  have c:((2:Int)^e)=((2^e:Nat):Int):=by simp
  have:1<=2^e:=Nat.one_le_two_pow
  rw [c];omega
 rw [hc,zUf (zJa _ 0) (by omega)]
 unfold W4
 rw [Nat.mul_zero,Nat.pow_zero,Nat.div_one]
 have e2:((2:Int)^e)=((2^e:Nat):Int):=by simp
 rw [e2,← Int.natCast_emod]
 congr 1
 rw [show (18446744073709551616:Nat)=2^e*2^(64-e) by rw [← Nat.pow_add,show e+(64-e)=64 by omega]]
 exact Nat.mod_mul_right_mod _ _ _
theorem zLj {W:World}{p:Addr}{u:Value}(h:W.cell? p=some u)(v:Value):(W.setCell p v).cell? p=some v:=by simp [go_sem,h]
theorem zQc {W:World}{g i j:Nat}(hij:i≠j)(v:Value):(W.setCell ⟨g,i,none⟩ v).cell? ⟨g,j,none⟩=W.cell? ⟨g,j,none⟩:=by simp [go_sem,hij]
theorem put4 {W:World}{g:Nat}{u0 u1 u2 u3:Value}(h0:W.cell? ⟨g,0,none⟩=some u0)(h1:W.cell? ⟨g,1,none⟩=some u1)(h2:W.cell? ⟨g,2,none⟩=some u2)(h3:W.cell? ⟨g,3,none⟩=some u3)(v0 v1 v2 v3:Value) :
  (W.setCell ⟨g,0,none⟩ v0).cell? ⟨g,0,none⟩=some v0/\((W.setCell ⟨g,0,none⟩ v0).setCell ⟨g,1,none⟩ v1).cell? ⟨g,1,none⟩=some v1/\(((W.setCell ⟨g,0,none⟩ v0).setCell ⟨g,1,none⟩ v1).setCell ⟨g,2,none⟩ v2).cell? ⟨g,2,none⟩=some v2/\((((W.setCell ⟨g,0,none⟩ v0).setCell ⟨g,1,none⟩ v1).setCell ⟨g,2,none⟩ v2).setCell ⟨g,3,none⟩ v3).cell? ⟨g,3,none⟩=some v3 :=
 ⟨zLj h0 _,zLj ((zQc (by decide) _).trans h1) _,zLj ((zQc (by decide) _).trans ((zQc (by decide) _).trans h2)) _,zLj ((zQc (by decide) _).trans ((zQc (by decide) _).trans ((zQc (by decide) _).trans h3))) _⟩
def sgB (f e B:Nat):Bool:=(((B/2^(f+e)%2:Nat):Int)==1)
theorem zDw (f e:Nat)(l m:Int)(B:Nat)(w:World)(h:Fm f e l m)(hB:B<2^256) :
  CB 34 #[LV f e l m,A4 B] w (.tuple #[.bool (sgB f e B),.int .u64 ((B/2^f%2^e:Nat):Int),A4 (B%2^f)]):=by
 have hf2:=h.f2
 have hf240:=h.f240
 have he15:=h.e15
 have hfe:=h.fe
 have c43:=fun w=>bit4 B (f+e) w hB (by omega)
 have c44:=fun w=>shr4 B f w hB (by omega)
 have c20:=fun w=>zNd f e l m w h
 have hd:B/2^f<2^256:=Nat.lt_of_le_of_lt (Nat.div_le_self _ _) hB
 have c45:=fun w=>zS8 (B/2^f) f w hd (by omega)
 have hle:B/2^f*2^f<=B:=Nat.div_mul_le_self _ _
 have c39:=fun w=>sub4 B (B/2^f*2^f) w hB (Nat.lt_of_le_of_lt hle hB)
 rw [zFt hle,show B-B/2^f*2^f=B%2^f by have:=Nat.div_add_mod' B (2^f);omega,if_neg (show ¬ B<B/2^f*2^f by omega)] at c39
 have hand:=zW9 (f:=f) (B:=B) he15
 unfold sgB
 rw [Int.natCast_add] at c43
 clear h hd hle hB
 generalize ((B/2^(f+e)%2:Nat):Int)=S at *
 generalize ((B/2^f%2^e:Nat):Int)=E at *
 generalize ((2^e-1:Nat):Int)=sp at *
 generalize B%2^f=Fr at *
 generalize B/2^f*2^f=Sh at *
 generalize B/2^f=Ab at *
 go_enter Tryz.func34,Tryz.ntmps34
 go_wp2_with (first
  | (go_at_call 71;refine (c43 _).mono ?_;rintro x w1 ⟨rfl,hb1⟩;obtain ⟨hc1,hf1,_,_,hA1,_⟩:=wz w hb1;obtain ⟨_,_,_,_⟩:=zg hb1 (w.heap.size+1) (w.heap.size+1+1);clear hb1)
  | (go_at_call 72;refine (c44 _).mono ?_;rintro x w2 ⟨rfl,hb2⟩;obtain ⟨hc2,hf2,_,_,hA2,_⟩:=wz w hb2;obtain ⟨_,_,_,_⟩:=zg hb2 (w.heap.size+1) (w.heap.size+1+1);clear hb2))
 refine zJf (by kernel_rfl) (by kernel_rfl) fun hne hcell=>?_
 repeat go_big_quiet_step (fail)
 go_big_quiet_step ((go_at_call 35;exact zBa _ zHa (c20 _)))
 repeat go_big_quiet_step (fail)
 refine wpQuiet_nil fun w3 hb3=>?_
 obtain ⟨_,_,_,_,hA3,_⟩:=wz w hb3;obtain ⟨_,_,_,_,_,_⟩:=zh hb3 (w.heap.size+1) (w.heap.size+1+1) w2.heap.size;clear hb3
 go_wp2
 refine zZa 6 (by kernel_rfl) (by kernel_rfl) (by kernel_rfl) (fun _ _ d _ _ h=>by cases d<;>exact h) fun hne hcell=>?_
 simp only [List.take_succ_cons,List.take_zero,List.drop_succ_cons,List.drop_zero]
 repeat go_big_quiet_step (fail)
 go_big_quiet_step ((go_at_call 74;exact zBa _ zHa (c45 _)))
 repeat go_big_quiet_step (fail)
 go_big_quiet_step ((go_at_call 73;exact zBa _ zHa (c39 _)))
 repeat go_big_quiet_step (fail)
 refine wpQuiet_nil fun w4 hb4=>?_
 obtain ⟨_,_,_,_,hA4,_⟩:=wz w hb4;obtain ⟨_,_,_,_,_,_⟩:=zh hb4 (w.heap.size+1) (w.heap.size+1+1) w2.heap.size;clear hb4
 have k4_wheapsize11_0:w4.cell? ⟨w.heap.size+1+1,0,none⟩=some (.int .u64 0):=(by go_simp);have k4_wheapsize11_1:w4.cell? ⟨w.heap.size+1+1,1,none⟩=some (.int .u64 0):=(by go_simp);have k4_wheapsize11_2:w4.cell? ⟨w.heap.size+1+1,2,none⟩=some (.int .u64 0):=(by go_simp);have k4_wheapsize11_3:w4.cell? ⟨w.heap.size+1+1,3,none⟩=some (.int .u64 0):=(by go_simp)
 go_wp2
 refine zZa 5 (by kernel_rfl) (by kernel_rfl) (by kernel_rfl) (fun _ _ d _ _ h=>by cases d<;>exact h) fun hne hcell=>?_
 simp only [List.take_succ_cons,List.take_zero,List.drop_succ_cons,List.drop_zero]
 repeat go_big_quiet_step (fail)
 refine wpQuiet_nil fun w5 hb5=>?_
 obtain ⟨_,_,_,_,hA5,_⟩:=wz w hb5;obtain ⟨_,_,_,_,_,_⟩:=zh hb5 (w.heap.size+1) (w.heap.size+1+1) w2.heap.size;clear hb5
 have k5_wheapsize11_0:w5.cell? ⟨w.heap.size+1+1,0,none⟩=some (.int .u64 (W4 Fr 0)):=(by go_simp);have k5_wheapsize11_1:w5.cell? ⟨w.heap.size+1+1,1,none⟩=some (.int .u64 (W4 Fr 1)):=(by go_simp);have k5_wheapsize11_2:w5.cell? ⟨w.heap.size+1+1,2,none⟩=some (.int .u64 (W4 Fr 2)):=(by go_simp);have k5_wheapsize11_3:w5.cell? ⟨w.heap.size+1+1,3,none⟩=some (.int .u64 (W4 Fr 3)):=(by go_simp)
 obtain ⟨p5_0,p5_1,p5_2,p5_3⟩:=put4 k5_wheapsize11_0 k5_wheapsize11_1 k5_wheapsize11_2 k5_wheapsize11_3 (.int .u64 (W4 Fr 0)) (.int .u64 (W4 Fr 1)) (.int .u64 (W4 Fr 2)) (.int .u64 (W4 Fr 3))
 go_wp2
 exact bodyPost_ret (v:=.tuple #[.bool (S==1),.int .u64 E,A4 Fr]) (by simp only [results,Tryz.results34];go_simp) rfl ⟨rfl,bgo⟩
def zZ0 (n:Int):Int:=if okN n then n else 0
def zId:Int->Int
 | 1=>2
 | 2=>2
 | 3=>2
 | 4=>2
 | 5=>2
 | 6=>2
 | 7=>10
 | 8=>10
 | 9=>10
 | 10=>10
 | 11=>10
 | 12=>10
 | _=>0
def zUa:Int->Int
 | 1=>16
 | 2=>16
 | 3=>32
 | 4=>64
 | 5=>128
 | 6=>256
 | 7=>32
 | 8=>64
 | 9=>128
 | 10=>32
 | 11=>64
 | 12=>128
 | _=>0
def zNe:Int->Int
 | 1=>11
 | 2=>8
 | 3=>24
 | 4=>53
 | 5=>113
 | 6=>241
 | 7=>7
 | 8=>16
 | 9=>34
 | 10=>7
 | 11=>16
 | 12=>34
 | _=>0
def zYh:Int->Int
 | 1=>5
 | 2=>8
 | 3=>8
 | 4=>11
 | 5=>15
 | 6=>15
 | 7=>96
 | 8=>384
 | 9=>6144
 | 10=>96
 | 11=>384
 | 12=>6144
 | _=>0
def zNa:Int->Int
 | 1=>-24
 | 2=>-133
 | 3=>-149
 | 4=>-1074
 | 5=>-16494
 | 6=>-16622
 | 7=>-101
 | 8=>-398
 | 9=>-6176
 | 10=>-101
 | 11=>-398
 | 12=>-6176
 | _=>0
def zIb:Int->Int
 | 1=>5
 | 2=>120
 | 3=>104
 | 4=>971
 | 5=>16271
 | 6=>16143
 | 7=>90
 | 8=>369
 | 9=>6111
 | 10=>90
 | 11=>369
 | 12=>6111
 | _=>0
def zEl:Int->Int
 | 1=>9
 | 2=>6
 | 3=>22
 | 4=>51
 | 5=>111
 | 6=>239
 | 7=>6
 | 8=>15
 | 9=>33
 | 10=>6
 | 11=>15
 | 12=>33
 | _=>0
def zFc (n:Int):Bool:=decide (10<=n/\n<=12)
def zBd:Int->ByteArray
 | 1=>⟨#[72,97,108,102]⟩
 | 2=>⟨#[66,114,97,105,110]⟩
 | 3=>⟨#[83,105,110,103,108,101]⟩
 | 4=>⟨#[68,111,117,98,108,101]⟩
 | 5=>⟨#[81,117,97,100]⟩
 | 6=>⟨#[79,99,116,111]⟩
 | 7=>⟨#[80,108,97,105,110,51,50]⟩
 | 8=>⟨#[80,108,97,105,110,54,52]⟩
 | 9=>⟨#[80,108,97,105,110,49,50,56]⟩
 | 10=>⟨#[68,101,110,115,101,51,50]⟩
 | 11=>⟨#[68,101,110,115,101,54,52]⟩
 | 12=>⟨#[68,101,110,115,101,49,50,56]⟩
 | _=>⟨#[]⟩
theorem zCk {n:Int}(h:¬ okN n):zZ0 n=0/\zBd n=⟨#[]⟩/\zId n=0/\zUa n=0/\zNe n=0/\zYh n=0/\zNa n=0/\zIb n=0/\zEl n=0/\zFc n=false:=by
 refine ⟨if_neg h,?_,?_,?_,?_,?_,?_,?_,?_,?_⟩
 ·unfold zBd okN at *;split<;>first|rfl|omega
 ·unfold zId okN at *;split<;>first|rfl|omega
 ·unfold zUa okN at *;split<;>first|rfl|omega
 ·unfold zNe okN at *;split<;>first|rfl|omega
 ·unfold zYh okN at *;split<;>first|rfl|omega
 ·unfold zNa okN at *;split<;>first|rfl|omega
 ·unfold zIb okN at *;split<;>first|rfl|omega
 ·unfold zEl okN at *;split<;>first|rfl|omega
 ·unfold zFc okN at *;simp only [decide_eq_false_iff_not];omega
theorem zHs (n:Int):zDc n=#[.int .i64 (zZ0 n),.string (zBd n),.int .i64 (zId n),.int .i64 (zUa n),.int .i64 (zNe n),.int .i64 (zYh n),.int .i64 (zNa n),.int .i64 (zIb n),.int .i64 (zEl n),.bool (zFc n)]:=by
 by_cases h:okN n
 ·rcases zEe h with rfl|rfl|rfl|rfl|rfl|rfl|rfl|rfl|rfl|rfl|rfl|rfl<;>rfl
 ·obtain ⟨h0,h1,h2,h3,h4,h5,h6,h7,h8,h9⟩:=zCk h
  rw [zWh h,h0,h1,h2,h3,h4,h5,h6,h7,h8,h9]
theorem zHd (n:Int):(0<=zId n/\zId n<=10)/\(0<=zUa n/\zUa n<=256)/\(0<=zNe n/\zNe n<=241)/\(-17000<=zNa n/\zNa n<=0)/\(0<=zIb n/\zIb n<=17000):=by
 by_cases h:okN n
 ·rcases zEe h with rfl|rfl|rfl|rfl|rfl|rfl|rfl|rfl|rfl|rfl|rfl|rfl<;>decide
 ·obtain ⟨h0,h1,h2,h3,h4,h5,h6,h7,h8,h9⟩:=zCk h
  rw [h2,h3,h4,h6,h7];decide
theorem zAe (n:Int)(w:World)(hT:Tab w) :
  CB 53 #[.int .i64 n] w (.tuple #[.agg #[.int .i64 (zZ0 n),.string (zBd n),.int .i64 (zId n),.int .i64 (zUa n),.int .i64 (zNe n),.int .i64 (zYh n),.int .i64 (zNa n),.int .i64 (zIb n),.int .i64 (zEl n),.bool (zFc n)],.int .i64 (zQd n)]) :=
 zHs n▸yCb n w hT
theorem zMr (n:Int)(w:World) :
  CB 20 #[.int .i64 n] w (.tuple #[.agg #[.int .i64 (zZ0 n),.string (zBd n),.int .i64 (zId n),.int .i64 (zUa n),.int .i64 (zNe n),.int .i64 (zYh n),.int .i64 (zNa n),.int .i64 (zIb n),.int .i64 (zEl n),.bool (zFc n)],.int .i64 (zQd n)]) :=
 zHs n▸zZ8 n w
def holdsP (f g:Int):Prop:=okN f/\okN g/\zId f=zId g/\zNe f<=zNe g/\zNa g<=zNa f/\zIb f+zNe f<=zIb g+zNe g
instance (f g:Int):Decidable (holdsP f g):=inferInstanceAs (Decidable (_/\_))
def zXh (n:Int)(x:Nat->Int):Prop:=okN n/\lenL (zVe x 4) 4<=zUa n
instance (n:Int) (x:Nat->Int):Decidable (zXh n x):=inferInstanceAs (Decidable (_/\_))
theorem zRq {w0 w:World}{ax:Array Value}{t:TypeId}{x:Nat->Int}(hx:zDa x)(hax:∀ i,i<4->ax[i]?=some (.int .u64 (x i)))(hb:Below (w0.alloc (.cells ax t)).heap.size (w0.alloc (.cells ax t)) w) :
  Num w (some ⟨w0.heap.size,0,none⟩) 4 4 (zVe x 4) :=
 ((HasN.of_alloc w0 ax t 4 x hax).next hb).num hx (Nat.le_refl _) (Nat.le_refl _) (by unfold maxLen;omega)
theorem zTe {B:Nat}{a w:World}{m:Nat}(h:Below B a w):Below B a (w.drewN m):=⟨h.os,h.tape,h.output,h.size,h.block⟩
theorem zDo {w:World}{a:Option Addr}{n c:Nat}{x:Nat->Int}(h:Num w a n c x)(m:Nat):Num (w.drewN m) a n c x:=h
theorem zC4 (n:Int)(x:Nat->Int)(hx:zDa x)(ax:Array Value)(hax:∀ i,i<4->ax[i]?=some (.int .u64 (x i)))(hs:ax.size=4)(w:World)(hT:Tab w) :
  CB 70 #[.int .i64 n,.agg ax] w (.bool (decide (zXh n x))):=by
 have c1:=fun w hT=>zAe n w hT
 have f1:=zHd n
 by_cases hn:okN n
 ·have hE:zQd n=0:=if_pos hn
  rw [hE] at c1
  have hd:decide (zXh n x)=decide (lenL (zVe x 4) 4<=zUa n):=by unfold zXh;simp [hn]
  go_enter Tryz.func70,Tryz.ntmps70
  go_wp2_with (go_at_call 53;refine (c1 _ (hT.alloc _)).mono ?_;rintro e w1 ⟨rfl,hb⟩)
  have hN:=((zRq hx hax hb).next (zZb w1 (.cells #[.int .i64 (zZ0 n),.string (zBd n),.int .i64 (zId n),.int .i64 (zUa n),.int .i64 (zNe n),.int .i64 (zYh n),.int .i64 (zNa n),.int .i64 (zIb n),.int .i64 (zEl n),.bool (zFc n)] 55)))
  have cl:=fun m=>(zVr _ _ _ _ _ (by decide) (zDo hN m)).mono (fun e w' h=>(⟨h.1,h.2.symm⟩:e=.returned (.int .i64 (lenL (zVe x 4) 4))/\w'=_))
  clear hN
  go_quiet ((go_at_call 110;exact Calls.quiet_of_same (cl _)))
  all_goals
   go_wp2
   go_ret
   refine ⟨?_,zTe (((zZb w _).trans (hb.mono (zZb w _).size)).alloc (Nat.le_trans (zZb w _).size hb.size) _)⟩
   rw [hd]
   rfl
 ·have hE:zQd n=1:=if_neg hn
  rw [hE] at c1
  have hd:decide (zXh n x)=false:=decide_eq_false fun h=>hn h.1
  rw [hd]
  go_enter Tryz.func70,Tryz.ntmps70
  go_wp2_with (go_at_call 53;refine (c1 _ (hT.alloc _)).mono ?_;rintro e w1 ⟨rfl,hb⟩)
  go_quiet (fail)
  all_goals
   go_wp2
   go_ret
   exact ⟨rfl,zTe (((zZb w _).trans (hb.mono (zZb w _).size)).alloc (Nat.le_trans (zZb w _).size hb.size) _)⟩
theorem zRw (n:Int)(x:Nat->Int)(hx:zDa x)(ax:Array Value)(hax:∀ i,i<4->ax[i]?=some (.int .u64 (x i)))(hs:ax.size=4)(w:World) :
  CB 32 #[.int .i64 n,.agg ax] w (.bool (decide (zXh n x))):=by
 have c1:=fun w=>zMr n w
 have f1:=zHd n
 by_cases hn:okN n
 ·have hE:zQd n=0:=if_pos hn
  rw [hE] at c1
  have hd:decide (zXh n x)=decide (lenL (zVe x 4) 4<=zUa n):=by unfold zXh;simp [hn]
  go_enter Tryz.func32,Tryz.ntmps32
  go_wp2_with (go_at_call 20;refine (c1 _).mono ?_;rintro e w1 ⟨rfl,hb⟩)
  have hN:=((zRq hx hax hb).next (zZb w1 (.cells #[.int .i64 (zZ0 n),.string (zBd n),.int .i64 (zId n),.int .i64 (zUa n),.int .i64 (zNe n),.int .i64 (zYh n),.int .i64 (zNa n),.int .i64 (zIb n),.int .i64 (zEl n),.bool (zFc n)] 44)))
  have cl:=fun m=>(zGj _ _ _ _ _ (by decide) (zDo hN m)).mono (fun e w' h=>(⟨h.1,h.2.symm⟩:e=.returned (.int .i64 (lenL (zVe x 4) 4))/\w'=_))
  clear hN
  go_quiet ((go_at_call 69;exact Calls.quiet_of_same (cl _)))
  all_goals
   go_wp2
   go_ret
   refine ⟨?_,zTe (((zZb w _).trans (hb.mono (zZb w _).size)).alloc (Nat.le_trans (zZb w _).size hb.size) _)⟩
   rw [hd]
   rfl
 ·have hE:zQd n=1:=if_neg hn
  rw [hE] at c1
  have hd:decide (zXh n x)=false:=decide_eq_false fun h=>hn h.1
  rw [hd]
  go_enter Tryz.func32,Tryz.ntmps32
  go_wp2_with (go_at_call 20;refine (c1 _).mono ?_;rintro e w1 ⟨rfl,hb⟩)
  go_quiet (fail)
  all_goals
   go_wp2
   go_ret
   exact ⟨rfl,zTe (((zZb w _).trans (hb.mono (zZb w _).size)).alloc (Nat.le_trans (zZb w _).size hb.size) _)⟩
theorem zAa (W:World)(b i:Nat)(v:Value):(W.setCell ⟨b,i,none⟩ v).cell? ⟨b,i,none⟩=(W.cell? ⟨b,i,none⟩).map fun _=>v:=by
 unfold World.cell? World.setCell
 simp only [Array.getElem?_modify,if_true]
 cases h:W.heap[b]? with
 | none=>simp
 | some o =>
  cases o with
  | cells c e fr =>
   simp only [Option.map_some,Option.isSome_none,Bool.false_eq_true,if_false]
   by_cases hi:i<c.size
   ·simp [hi]
   ·simp [hi]
  | _=>simp
structure Dat where
 c:Int
 s:Bool
 g:Bool
 x:Int
 k:Nat
abbrev DV (c:Int)(s g:Bool)(x:Int)(k:Nat):Value:=.agg #[.int .i64 c,.bool s,.bool g,.int .i64 x,.int .u64 (W4 k 0),.int .u64 (W4 k 1),.int .u64 (W4 k 2),.int .u64 (W4 k 3)]
abbrev Dat.v (d:Dat):Value:=DV d.c d.s d.g d.x d.k
theorem zOa (i:Nat):W4 0 i=0:=by unfold W4;simp
def spc (f:Nat)(s:Bool)(F:Nat):Dat:=if F=0 then ⟨2,s,false,0,0⟩ else if F<2^(f-1) then ⟨3,s,true,0,F⟩ else ⟨3,s,false,0,F-2^(f-1)⟩
theorem zQn (f e:Nat)(l m:Int)(s:Bool)(w:World) :
  CB 36 #[LV f e l m,.bool s,A4 0] w (DV 2 s false 0 0):=by
 have c46:=fun w=>zEq 0 w
 rw [(zFf (A:=0) (by decide)).2 rfl] at c46
 unfold DV
 simp only [A4,zOa] at c46 ⊢
 go_enter Tryz.func36,Tryz.ntmps36
 go_wp2_with (go_at_call 75;refine wk w (c46 _) ?_;intro w1 hb1 _ _ _ _ hA1 _;obtain ⟨_,_,_,_⟩:=zg hb1 (w.heap.size+1) (w.heap.size+1+1);clear hb1)
 have hsm:=zAa
 exact bodyPost_ret (v:=.agg #[.int .i64 2,.bool s,.bool false,.int .i64 0,.int .u64 0,.int .u64 0,.int .u64 0,.int .u64 0]) (by simp only [results,Tryz.results36];go_simp) rfl ⟨rfl,bgo⟩
theorem zQp (f e:Nat)(l m:Int)(s:Bool)(F:Nat)(w:World)(h:Fm f e l m)(hF:F<2^256)(h0:F≠0) :
  CB 36 #[LV f e l m,.bool s,A4 F] w (if F<2^(f-1) then DV 3 s true 0 F else DV 3 s false 0 (F-2^(f-1))):=by
 have hf2:=h.f2
 have hf240:=h.f240
 have c46:=fun w=>zEq F w
 have hL:lenL (W4 F) 4≠0:=fun h1=>h0 ((zFf hF).1 h1)
 generalize lenL (W4 F) 4=L at *
 have hLb:(L==0)=false:=by simpa using hL
 have c47:=fun w=>zVn f e l m w h
 have c39:=fun w=>sub4 F (2^(f-1)) w hF (Nat.pow_lt_pow_right (by decide) (by omega))
 clear h hF h0 hL hf2 hf240
 by_cases hlt:F<2^(f-1)
 ·rw [if_pos hlt]
  rw [if_pos hlt] at c39
  clear hlt
  generalize F+2^256-2^(f-1)=Pl at *
  generalize 2^(f-1)=Qt at *
  go_enter Tryz.func36,Tryz.ntmps36
  go_wp2_with (go_at_call 75;refine wk w (c46 _) ?_;intro w1 hb1 _ _ _ _ hA1 _;obtain ⟨_,_,_,_⟩:=zg hb1 (w.heap.size+1) (w.heap.size+1+1);clear hb1)
  refine zBg 4 7 7 #[.int .u64 0,.int .u64 0,.int .u64 0,.int .u64 0] (by kernel_rfl) (by kernel_rfl) (by kernel_rfl) rfl (fun oa hoa a w=>?_) (by kernel_rfl) (by kernel_rfl) rfl rfl (fun _ _ d _ _ h=>by cases d<;>exact h) ?_
  ·cases hoa;exact ⟨23,by simp [go_sem]⟩
  apply Exists.intro
  refine ⟨fun al hne hcell=>?_,fun w2 hb2=>?_,fun g w2 hb2 hg0 hg1 hg2 hg3=>?_⟩
  ·simp only [List.take_succ_cons,List.take_zero]
   repeat go_big_quiet_step (fail)
   go_big_quiet_step ((go_at_call 76;exact zBa _ zQb (c47 _)))
   repeat go_big_quiet_step (fail)
   go_big_quiet_step ((go_at_call 73;exact zBa _ zQb (c39 _)))
   exact wpQuiet_nil rfl
  ·simp only [List.drop_succ_cons,List.drop_zero]
   obtain ⟨_,hf2,_,_,hA2,_⟩:=wz w hb2;obtain ⟨_,_,_,_⟩:=zg hb2 (w.heap.size+1) (w.heap.size+1+1);clear hb2
   go_wp2
   have hsm:=zAa
   exact bodyPost_ret (v:=DV 3 s true 0 F) (by simp only [results,Tryz.results36];go_simp) rfl ⟨rfl,bgo⟩
  ·simp only [List.drop_succ_cons,List.drop_zero,Nat.reduceSub,List.eraseIdx_cons_succ,List.eraseIdx_cons_zero]
   have hgw:=hA1.size
   have hz0:g≠w.heap.size:=by omega
   have hz1:g≠w.heap.size+1:=by omega
   have hz2:g≠w.heap.size+1+1:=by omega
   obtain ⟨_,hf2,_,_,hA2,_⟩:=wz w hb2;obtain ⟨_,_,_,_⟩:=zg hb2 (w.heap.size+1) (w.heap.size+1+1);clear hb2
   have hsm:=zAa
   go_wp2
   exact bodyPost_ret (v:=DV 3 s true 0 F) (by simp only [results,Tryz.results36];go_simp) rfl ⟨rfl,bgo⟩
 ·rw [if_neg hlt]
  rw [if_neg hlt,zFt (by omega)] at c39
  clear hlt
  generalize F-2^(f-1)=Pl at *
  generalize 2^(f-1)=Qt at *
  go_enter Tryz.func36,Tryz.ntmps36
  go_wp2_with (go_at_call 75;refine wk w (c46 _) ?_;intro w1 hb1 _ _ _ _ hA1 _;obtain ⟨_,_,_,_⟩:=zg hb1 (w.heap.size+1) (w.heap.size+1+1);clear hb1)
  refine zBg 4 7 7 #[.int .u64 0,.int .u64 0,.int .u64 0,.int .u64 0] (by kernel_rfl) (by kernel_rfl) (by kernel_rfl) rfl (fun oa hoa a w=>?_) (by kernel_rfl) (by kernel_rfl) rfl rfl (fun _ _ d _ _ h=>by cases d<;>exact h) ?_
  ·cases hoa;exact ⟨23,by simp [go_sem]⟩
  apply Exists.intro
  refine ⟨fun al hne hcell=>?_,fun w2 hb2=>?_,fun g w2 hb2 hg0 hg1 hg2 hg3=>?_⟩
  ·simp only [List.take_succ_cons,List.take_zero]
   repeat go_big_quiet_step (fail)
   go_big_quiet_step ((go_at_call 76;exact zBa _ zQb (c47 _)))
   repeat go_big_quiet_step (fail)
   go_big_quiet_step ((go_at_call 73;exact zBa _ zQb (c39 _)))
   exact wpQuiet_nil rfl
  ·simp only [List.drop_succ_cons,List.drop_zero]
   obtain ⟨_,hf2,_,_,hA2,_⟩:=wz w hb2;obtain ⟨_,_,_,_⟩:=zg hb2 (w.heap.size+1) (w.heap.size+1+1);clear hb2
   go_wp2
   have hsm:=zAa
   exact bodyPost_ret (v:=DV 3 s false 0 Pl) (by simp only [results,Tryz.results36];go_simp) rfl ⟨rfl,bgo⟩
  ·simp only [List.drop_succ_cons,List.drop_zero,Nat.reduceSub,List.eraseIdx_cons_succ,List.eraseIdx_cons_zero]
   have hgw:=hA1.size
   have hz0:g≠w.heap.size:=by omega
   have hz1:g≠w.heap.size+1:=by omega
   have hz2:g≠w.heap.size+1+1:=by omega
   obtain ⟨_,hf2,_,_,hA2,_⟩:=wz w hb2;obtain ⟨_,_,_,_⟩:=zg hb2 (w.heap.size+1) (w.heap.size+1+1);clear hb2
   have hsm:=zAa
   go_wp2
   exact bodyPost_ret (v:=DV 3 s false 0 Pl) (by simp only [results,Tryz.results36];go_simp) rfl ⟨rfl,bgo⟩
theorem zPp (f e:Nat)(l m:Int)(s:Bool)(F:Nat)(w:World)(h:Fm f e l m)(hF:F<2^256) :
  Calls Tryz.prog 36 #[LV f e l m,.bool s,A4 F] w fun x w'=>x=.returned (spc f s F).v/\Below w.heap.size w w':=by
 unfold spc
 by_cases h0:F=0
 ·subst h0
  rw [if_pos rfl]
  exact zQn f e l m s w
 ·rw [if_neg h0]
  refine (zQp f e l m s F w h hF h0).mono ?_
  rintro x w' ⟨rfl,hb⟩
  refine ⟨?_,hb⟩
  split<;>rfl
def zHh (n:Int):Prop:=1<=n/\n<=6
instance (n:Int):Decidable (zHh n):=inferInstanceAs (Decidable (_/\_))
def fN (n:Int):Nat:=(zNe n-1).toNat
def eN (n:Int):Nat:=(zYh n).toNat
theorem zGh {n:Int}(h:zHh n):n=1∨n=2∨n=3∨n=4∨n=5∨n=6:=by unfold zHh at h;omega
theorem zTl {n:Int}(h:zHh n):Fm (fN n) (eN n) (zNa n) (zIb n):=by
 rcases zGh h with rfl|rfl|rfl|rfl|rfl|rfl<;>exact ⟨by decide,by decide,by decide,by decide,by decide,by decide,by decide,by decide⟩
theorem zTf {n:Int}(h:zHh n):okN n/\zId n=2/\zNe n=(fN n:Int)+1/\zYh n=(eN n:Int)/\zUa n=((fN n+eN n+1:Nat):Int)/\zEl n=(fN n:Int)-1:=by
 rcases zGh h with rfl|rfl|rfl|rfl|rfl|rfl<;>exact ⟨by decide,by decide,by decide,by decide,by decide,by decide⟩
theorem zR9 {n:Int}(h:¬ zHh n):(okN n/\zId n=10)∨¬ okN n:=by
 by_cases hk:okN n
 ·left
  refine ⟨hk,?_⟩
  rcases zEe hk with rfl|rfl|rfl|rfl|rfl|rfl|rfl|rfl|rfl|rfl|rfl|rfl<;>first|rfl|exact absurd (by decide) h
 ·exact Or.inr hk
abbrev LZ:Value:=.agg #[.int .i64 0,.int .i64 0,.int .i64 0,.int .i64 0]
theorem zYj (n:Int)(w:World)(hT:Tab w)(h:zHh n) :
  CB 49 #[.int .i64 n] w (.tuple #[LV (fN n) (eN n) (zNa n) (zIb n),.int .i64 0]):=by
 have c1:=fun w hT=>zAe n w hT
 obtain ⟨hk,hb,hp,he,hw,hy⟩:=zTf h
 have hE:zQd n=0:=if_pos hk
 have hF:=zTl h
 have hf1:=hF.f240
 simp only [hE,hb,hp,he] at c1
 clear hE hb hp he hw hy hk hF
 go_enter Tryz.func49,Tryz.ntmps49
 go_wp2_with (go_at_call 53;refine (c1 _ (hT.alloc _)).mono ?_;rintro x w1 ⟨rfl,hb1⟩;obtain ⟨_,hf1,_,_,hA1,_⟩:=wz w hb1;clear hb1)
 have hsm:=zAa
 exact bodyPost_ret (v:=.tuple #[LV (fN n) (eN n) (zNa n) (zIb n),.int .i64 0]) (by simp only [results,Tryz.results49];go_simp) rfl ⟨rfl,bgo⟩
theorem zUi (n:Int)(w:World)(hT:Tab w)(h:¬ zHh n) :
  CB 49 #[.int .i64 n] w (.tuple #[LZ,.int .i64 1]):=by
 have c1:=fun w hT=>zAe n w hT
 rcases zR9 h with ⟨hk,hb⟩|hk
 ·have hE:zQd n=0:=if_pos hk
  simp only [hE,hb] at c1
  clear hE hb hk h
  go_enter Tryz.func49,Tryz.ntmps49
  go_wp2_with (go_at_call 53;refine (c1 _ (hT.alloc _)).mono ?_;rintro x w1 ⟨rfl,hb1⟩;obtain ⟨_,hf1,_,_,hA1,_⟩:=wz w hb1;clear hb1)
  have hsm:=zAa
  exact bodyPost_ret (v:=.tuple #[LZ,.int .i64 1]) (by simp only [results,Tryz.results49];go_simp) rfl ⟨rfl,bgo⟩
 ·have hE:zQd n=1:=if_neg hk
  simp only [hE] at c1
  clear hE hk h
  go_enter Tryz.func49,Tryz.ntmps49
  go_wp2_with (go_at_call 53;refine (c1 _ (hT.alloc _)).mono ?_;rintro x w1 ⟨rfl,hb1⟩;obtain ⟨_,hf1,_,_,hA1,_⟩:=wz w hb1;clear hb1)
  have hsm:=zAa
  exact bodyPost_ret (v:=.tuple #[LZ,.int .i64 1]) (by simp only [results,Tryz.results49];go_simp) rfl ⟨rfl,bgo⟩
def zRd (n:Int)(B:Nat):Prop:=zHh n/\B<2^(fN n+eN n+1)
instance (n:Int) (B:Nat):Decidable (zRd n B):=inferInstanceAs (Decidable (_/\_))
theorem zY0 (B:Nat):∀ i,i<4->(#[Value.int .u64 (W4 B 0),.int .u64 (W4 B 1),.int .u64 (W4 B 2),.int .u64 (W4 B 3)]:Array Value)[i]?=some (.int .u64 (W4 B i)):=fun i hi=>by
 have:i=0∨i=1∨i=2∨i=3:=by omega
 rcases this with rfl|rfl|rfl|rfl<;>rfl
theorem zD4 (n:Int)(B:Nat)(hB:B<2^256)(w:World)(hT:Tab w) :
  CB 70 #[.int .i64 n,A4 B] w (.bool (decide (okN n/\B<2^(zUa n).toNat))):=by
 refine (zC4 n (W4 B) (zJa B) _ (zY0 B) rfl w hT).mono ?_
 rintro x w' ⟨rfl,hb⟩
 refine ⟨?_,hb⟩
 have hwd:=(zHd n).2.1
 have e:(zXh n (W4 B))↔(okN n/\B<2^(zUa n).toNat):=by
  unfold zXh
  rw [zEs]
  have:=zJg (k:=(zUa n).toNat) hB
  rw [show (((zUa n).toNat:Nat):Int)=zUa n by omega] at this
  rw [this]
 rw [decide_eq_decide.2 e]
theorem zGo (n:Int)(B:Nat)(w:World)(hT:Tab w)(hB:B<2^256)(h:zRd n B) :
  CB 33 #[.int .i64 n,A4 B] w (.tuple #[LV (fN n) (eN n) (zNa n) (zIb n),.int .i64 0]):=by
 have hF:=zTf h.1
 have c42:=fun w hT=>zD4 n B hB w hT
 rw [decide_eq_true (show okN n/\B<2^(zUa n).toNat from ⟨hF.1,by rw [hF.2.2.2.2.1,Int.toNat_natCast];exact h.2⟩)] at c42
 have c31:=fun w hT=>zYj n w hT h.1
 clear hF h hB
 go_enter Tryz.func33,Tryz.ntmps33
 go_wp2_with (first
  | (go_at_call 70;refine (c42 _ ((hT.alloc _).alloc _)).mono ?_;rintro x w1 ⟨rfl,hb1⟩;obtain ⟨_,hf1,_,_,hA1,_⟩:=wz w hb1;obtain ⟨_,_⟩:=zf hb1 (w.heap.size+1);clear hb1)
  | (go_at_call 49;refine wk w (c31 _ (hT.go hA1)) ?_;intro w2 hb2 _ _ _ _ hA2 _;obtain ⟨_,_⟩:=zf hb2 (w.heap.size+1);clear hb2))
 have hsm:=zAa
 exact bodyPost_ret (v:=.tuple #[LV (fN n) (eN n) (zNa n) (zIb n),.int .i64 0]) (by simp only [results,Tryz.results33];go_simp) rfl ⟨rfl,bgo⟩
theorem zOm (n:Int)(B:Nat)(w:World)(hT:Tab w)(hB:B<2^256)(h:¬ zRd n B) :
  CB 33 #[.int .i64 n,A4 B] w (.tuple #[LZ,.int .i64 1]):=by
 have c42:=fun w hT=>zD4 n B hB w hT
 by_cases hf:okN n/\B<2^(zUa n).toNat
 ·rw [decide_eq_true hf] at c42
  have hnb:¬ zHh n:=fun hb=>h ⟨hb,by have:=zTf hb;rw [this.2.2.2.2.1,Int.toNat_natCast] at hf;exact hf.2⟩
  have c31:=fun w hT=>zUi n w hT hnb
  clear h hB hf hnb
  go_enter Tryz.func33,Tryz.ntmps33
  go_wp2_with (first
   | (go_at_call 70;refine (c42 _ ((hT.alloc _).alloc _)).mono ?_;rintro x w1 ⟨rfl,hb1⟩;obtain ⟨_,hf1,_,_,hA1,_⟩:=wz w hb1;obtain ⟨_,_⟩:=zf hb1 (w.heap.size+1);clear hb1)
   | (go_at_call 49;refine wk w (c31 _ (hT.go hA1)) ?_;intro w2 hb2 _ _ _ _ hA2 _;obtain ⟨_,_⟩:=zf hb2 (w.heap.size+1);clear hb2))
  have hsm:=zAa
  exact bodyPost_ret (v:=.tuple #[LZ,.int .i64 1]) (by simp only [results,Tryz.results33];go_simp) rfl ⟨rfl,bgo⟩
 ·rw [decide_eq_false hf] at c42
  clear h hB hf
  go_enter Tryz.func33,Tryz.ntmps33
  go_wp2_with (go_at_call 70;refine (c42 _ ((hT.alloc _).alloc _)).mono ?_;rintro x w1 ⟨rfl,hb1⟩;obtain ⟨_,hf1,_,_,hA1,_⟩:=wz w hb1;obtain ⟨_,_⟩:=zf hb1 (w.heap.size+1);clear hb1)
  have hsm:=zAa
  exact bodyPost_ret (v:=.tuple #[LZ,.int .i64 1]) (by simp only [results,Tryz.results33];go_simp) rfl ⟨rfl,bgo⟩
section
def unp (f e:Nat)(l:Int)(B:Nat):Dat :=
 if B/2^f%2^e=2^e-1 then spc f (sgB f e B) (B%2^f)
 else if B/2^f%2^e=0 then ⟨1,sgB f e B,false,l,B%2^f⟩
 else ⟨1,sgB f e B,false,l+((B/2^f%2^e:Nat)-1:Int),B%2^f+2^f⟩
theorem zJt (n:Int)(B:Nat)(w:World)(hT:Tab w)(hB:B<2^256)(h:¬ zRd n B) :
  CB 13 #[.int .i64 n,A4 B] w (.tuple #[DV 0 false false 0 0,.int .i64 1]):=by
 have c18:=fun w hT=>zOm n B w hT hB h
 unfold DV
 simp only [zOa]
 clear h hB
 go_enter Tryz.func13,Tryz.ntmps13
 go_wp2_with (go_at_call 33;refine wk w (c18 _ ((hT.alloc _).alloc _)) ?_;intro w1 hb1 _ _ _ _ hA1 _;obtain ⟨_,_⟩:=zf hb1 (w.heap.size+1);clear hb1)
 have hsm:=zAa
 exact bodyPost_ret (v:=.tuple #[.agg #[.int .i64 0,.bool false,.bool false,.int .i64 0,.int .u64 0,.int .u64 0,.int .u64 0,.int .u64 0],.int .i64 1]) (by simp only [results,Tryz.results13];go_simp) rfl ⟨rfl,bgo⟩
section
variable (n:Int)(B:Nat)(f e:Nat)(l m:Int)(w:World)(hT:Tab w)(S:Bool)(E sp:Int)(Fr:Nat)
 (c18:∀ w,Tab w->CB 33 #[.int .i64 n,A4 B] w (.tuple #[LV f e l m,.int .i64 0]))
 (c19:∀ w,CB 34 #[LV f e l m,A4 B] w (.tuple #[.bool S,.int .u64 E,A4 Fr]))
 (c20:∀ w,CB 35 #[LV f e l m] w (.int .u64 sp))
include hT c18 c19 c20
theorem zOv (D:Dat)(c21:∀ w,CB 36 #[LV f e l m,.bool S,A4 Fr] w D.v)(hE:(E==sp)=true) :
  CB 13 #[.int .i64 n,A4 B] w (.tuple #[D.v,.int .i64 0]):=by
 obtain ⟨dc,ds,dg,dx,dk⟩:=D
 unfold Dat.v at *
 dsimp only at *
 go_enter Tryz.func13,Tryz.ntmps13
 go_wp2_with (first
  | (go_at_call 33;refine wk w (c18 _ ((hT.alloc _).alloc _)) ?_;intro w1 hb1 _ _ _ _ hA1 _;obtain ⟨_,_⟩:=zf hb1 (w.heap.size+1);clear hb1)
  | (go_at_call 34;refine wk w (c19 _) ?_;intro w2 hb2 _ _ _ _ hA2 _;obtain ⟨_,_,_,_⟩:=zg hb2 (w.heap.size+1) w1.heap.size;clear hb2)
  | (go_at_call 35;refine wk w (c20 _) ?_;intro w3 hb3 _ _ _ _ hA3 _;obtain ⟨_,_,_,_,_,_⟩:=zh hb3 (w.heap.size+1) w1.heap.size w2.heap.size;clear hb3)
  | (go_at_call 36;refine wk w (c21 _) ?_;intro w4 hb4 _ _ _ _ hA4 _;obtain ⟨_,_,_,_,_,_⟩:=zh hb4 (w.heap.size+1) w1.heap.size w2.heap.size;clear hb4))
 have hsm:=zAa
 exact bodyPost_ret (v:=.tuple #[DV dc ds dg dx dk,.int .i64 0]) (by simp only [results,Tryz.results13];go_simp) rfl ⟨rfl,bgo⟩
theorem zIt (hE:(E==sp)=false)(hE0:E=0) :
  CB 13 #[.int .i64 n,A4 B] w (.tuple #[DV 1 S false l Fr,.int .i64 0]):=by
 subst hE0
 go_enter Tryz.func13,Tryz.ntmps13
 go_wp2_with (first
  | (go_at_call 33;refine wk w (c18 _ ((hT.alloc _).alloc _)) ?_;intro w1 hb1 _ _ _ _ hA1 _;obtain ⟨_,_⟩:=zf hb1 (w.heap.size+1);clear hb1)
  | (go_at_call 34;refine wk w (c19 _) ?_;intro w2 hb2 _ _ _ _ hA2 _;obtain ⟨_,_,_,_⟩:=zg hb2 (w.heap.size+1) w1.heap.size;clear hb2)
  | (go_at_call 35;refine wk w (c20 _) ?_;intro w3 hb3 _ _ _ _ hA3 _;obtain ⟨_,_,_,_,_,_⟩:=zh hb3 (w.heap.size+1) w1.heap.size w2.heap.size;clear hb3))
 have hsm:=zAa
 exact bodyPost_ret (v:=.tuple #[DV 1 S false l Fr,.int .i64 0]) (by simp only [results,Tryz.results13];go_simp) rfl ⟨rfl,bgo⟩
theorem zMp (Pw Co:Nat)(cr:Int)(hl:-1000000<=l/\l<=0)(hE:(E==sp)=false)(hE0:0<E)(hE1:E<=32768)
  (c23:∀ w,CB 38 #[.int .i64 f] w (A4 Pw))
  (c22:∀ w,CB 37 #[A4 Fr,A4 Pw] w (.tuple #[A4 Co,.int .u64 cr])) :
  CB 13 #[.int .i64 n,A4 B] w (.tuple #[DV 1 S false (l+(E-1)) Co,.int .i64 0]):=by
 go_enter Tryz.func13,Tryz.ntmps13
 go_wp2_with (first
  | (go_at_call 33;refine wk w (c18 _ ((hT.alloc _).alloc _)) ?_;intro w1 hb1 _ _ _ _ hA1 _;obtain ⟨_,_⟩:=zf hb1 (w.heap.size+1);clear hb1)
  | (go_at_call 34;refine wk w (c19 _) ?_;intro w2 hb2 _ _ _ _ hA2 _;obtain ⟨_,_,_,_⟩:=zg hb2 (w.heap.size+1) w1.heap.size;clear hb2)
  | (go_at_call 35;refine wk w (c20 _) ?_;intro w3 hb3 _ _ _ _ hA3 _;obtain ⟨_,_,_,_,_,_⟩:=zh hb3 (w.heap.size+1) w1.heap.size w2.heap.size;clear hb3))
 have hn1:w1.heap.size≠w.heap.size:=by omega
 have hn2:w1.heap.size≠w.heap.size+1:=by omega
 have hn3:w2.heap.size≠w1.heap.size:=by omega
 refine zBg 5 8 12 #[.int .u64 0,.int .u64 0,.int .u64 0,.int .u64 0] (by kernel_rfl) (by kernel_rfl) (by kernel_rfl) rfl (fun oa hoa a w=>?_) (by kernel_rfl) (by kernel_rfl) rfl rfl (fun _ _ d _ _ h=>by cases d<;>exact h) ?_
 ·cases hoa;exact ⟨23,by simp [go_sem]⟩
 apply Exists.intro
 refine ⟨fun al hne hcell=>?_,fun w4 hb4=>?_,fun g w4 hb4 hg0 hg1 hg2 hg3=>?_⟩
 ·simp only [List.take_succ_cons,List.take_zero]
  repeat go_big_quiet_step (fail)
  go_big_quiet_step ((go_at_call 38;exact zBa _ zQb (c23 _)))
  repeat go_big_quiet_step (fail)
  go_big_quiet_step ((go_at_call 37;exact zBa _ zQb (c22 _)))
  exact wpQuiet_nil rfl
 ·simp only [List.drop_succ_cons,List.drop_zero]
  obtain ⟨_,_,_,_,hA4,_⟩:=wz w hb4;obtain ⟨_,_,_,_,_,_⟩:=zh hb4 (w.heap.size+1) w1.heap.size w2.heap.size;obtain ⟨_,_⟩:=zf hb4 w3.heap.size;clear hb4
  have hsm:=zAa
  go_wp2
  exact bodyPost_ret (v:=.tuple #[DV 1 S false (l+(E-1)) Co,.int .i64 0]) (by simp only [results,Tryz.results13];go_simp) rfl ⟨rfl,bgo⟩
 ·simp only [List.drop_succ_cons,List.drop_zero,Nat.reduceSub,List.eraseIdx_cons_succ,List.eraseIdx_cons_zero]
  simp only [World.size_alloc] at hg0
  have hgw:=hA3.size
  have hz0:g≠w.heap.size:=by omega
  have hz1:g≠w.heap.size+1:=by omega
  have hz2:g≠w1.heap.size:=by omega
  have hz3:g≠w2.heap.size:=by omega
  have hz4:g≠w3.heap.size:=by omega
  obtain ⟨_,_,_,_,hA4,_⟩:=wz w hb4;obtain ⟨_,_,_,_,_,_⟩:=zh hb4 (w.heap.size+1) w1.heap.size w2.heap.size;obtain ⟨_,_⟩:=zf hb4 w3.heap.size;clear hb4
  have hsm:=zAa
  go_wp2
  exact bodyPost_ret (v:=.tuple #[DV 1 S false (l+(E-1)) Co,.int .i64 0]) (by simp only [results,Tryz.results13];go_simp) rfl ⟨rfl,bgo⟩
end
theorem zPv (n:Int)(B:Nat)(w:World)(hT:Tab w)(hB:B<2^256)(h:zRd n B) :
  CB 13 #[.int .i64 n,A4 B] w (.tuple #[(unp (fN n) (eN n) (zNa n) B).v,.int .i64 0]):=by
 have hF:=zTl h.1
 have c18:=fun w hT=>zGo n B w hT hB h
 have c19:=fun w=>zDw (fN n) (eN n) (zNa n) (zIb n) B w hF hB
 have c20:=fun w=>zNd (fN n) (eN n) (zNa n) (zIb n) w hF
 have hf240:=hF.f240
 have hp:=zBu hF.e2 hF.e15
 have hpc:((2:Int)^eN n)=((2^eN n:Nat):Int):=by simp
 have hmod:B/2^fN n%2^eN n<2^eN n:=Nat.mod_lt _ (Nat.two_pow_pos _)
 have hfr:B%2^fN n<2^fN n:=Nat.mod_lt _ (Nat.two_pow_pos _)
 have hf256:2^fN n<2^256:=Nat.pow_lt_pow_right (by decide) (by omega)
 unfold unp
 by_cases h1:B/2^fN n%2^eN n=2^eN n-1
 ·rw [if_pos h1]
  exact zOv n B _ _ _ _ w hT _ _ _ _ c18 c19 c20 _ (fun w=>zPp (fN n) (eN n) (zNa n) (zIb n) (sgB (fN n) (eN n) B) (B%2^fN n) w hF (by omega)) (by rw [h1];simp)
 ·rw [if_neg h1]
  have hE:(((B/2^fN n%2^eN n:Nat):Int)==((2^eN n-1:Nat):Int))=false:=by
   rw [beq_eq_false_iff_ne];omega
  by_cases h2:B/2^fN n%2^eN n=0
  ·rw [if_pos h2]
   exact zIt n B _ _ _ _ w hT _ _ _ _ c18 c19 c20 hE (by omega)
  ·rw [if_neg h2]
   have h256:(2:Nat)^256=115792089237316195423570985008687907853269984665640564039457584007913129639936:=by decide
   exact zMp n B _ _ _ _ w hT _ _ _ _ c18 c19 c20 (2^fN n) (B%2^fN n+2^fN n) _ ⟨hF.l1,hF.l0⟩ hE (by omega) (by rw [hpc] at hp;omega) (fun w=>zSj (fN n) w (by omega)) (fun w=>zE7 (B%2^fN n) (2^fN n) w (by omega) hf256)
end
end Go.Proofs.YtahfkpjhlbiamaaGreatDoor

namespace Go.Proofs.YtahfkpjhlbiamaaGreatDoor
theorem yGc {V:Nat}(h:V≠0):2^(bl V-1)<=V/\V<2^bl V/\1<=bl V:=by
 have h0:bl V≠0:=fun e=>h (bl_zero.1 e)
 exact ⟨bl_ge.1 (by omega),bl_le.1 (Nat.le_refl _),by omega⟩
end Go.Proofs.YtahfkpjhlbiamaaGreatDoor

namespace Go.Proofs.YtahfkpjhlbiamaaGreatDoor
open Go.RowKit
theorem zP2 (a a':Option Addr)(n c n' c':Nat)(x y:Nat->Int)(w:World)(hn:n<4294967290)(hn':n'<4294967290)(h:Num w a n c x)(h':Num w a' n' c' y) :
  Calls Tryz.prog 126 #[.slice a n c,.slice a' n' c'] w fun e w'=>∃ g k cap,e=.returned (.slice (some ⟨g,0,none⟩) k cap)/\k<=max n n'/\Num w' (some ⟨g,0,none⟩) k cap (zFp x y (max n n'))/\sizeL (zFp x y (max n n')) k=k/\Below w.heap.size w w':=by
 have hx:=h.2.2.1
 have hy:=h'.2.2.1
 have zx:=h.2.2.2.1
 have zy:=h'.2.2.2.1
 obtain ⟨M,hM⟩:∃ M,max n n'=M:=⟨_,rfl⟩
 have hMi:max (n:Int) n'=(M:Int):=by omega
 have hMb:M<4294967292:=by omega
 have hmk:=fun w=>zAb (max (n:Int) n') M hMi (by omega) w
 have hfin:∀ (ss:Array Value),ss.size=M->(∀ j h,ss[j]'h=Value.int .u64 (zZc x y j))->Num (w.alloc (.cells ss 22)) (some ⟨w.heap.size,0,none⟩) M M (zFp x y (max n n')):=fun ss h1 h2=>zQa (by omega) (zOl x y _) (fun i hi=>by unfold zFp;rw [if_neg (by omega)]) h1 (fun j hj=>by rw [h2 j hj];unfold zFp;rw [if_pos (by omega)])
 have hw1:=fun (i:Nat) (ss:Array Value)=>zJb a n c i x (w.alloc (.cells ss 22)) (h.next (zEa w _))
 have hw2:=fun (i:Nat) (ss:Array Value)=>zJb a' n' c' i y (w.alloc (.cells ss 22)) (h'.next (zEa w _))
 have HM:Hid (max n n'=M):=hM
 have HZ:Hid ((arrOf (fun _=>0) M).size=M/\∀ j h,(arrOf (fun _=>0) M)[j]'h=Value.int .u64 0):=⟨arrOf_size _ _,fun j h=>zIa _ _ _ _⟩
 clear h h' zx zy hM hMi
 generalize arrOf (fun _=>0) M=zz at *
 go_enter Tryz.func126,Tryz.ntmps126
 go_wp2
 go_loopw [6,7,16,19] (fun c u7 i u20 wr=>∃ (k:Nat) (ss:Array Value),k<=M/\i=.int .i64 k/\c=.int .u64 (zXe x y k)/\ss.size=M/\(∀ j h,ss[j]'h=Value.int .u64 (if j<k then zZc x y j else 0))/\wr=w.alloc (.cells ss 22)) (fun _ _ i _ _=>M-(intOf i).toNat)
 case atStart=>exact ⟨0,zz,Nat.zero_le _,rfl,rfl,HZ.out.1,fun j h=>by rw [HZ.out.2 j h];simp,rfl⟩
 case round =>
  obtain ⟨k,ss,hk,rfl,rfl,hsz,hss,rfl⟩:=hrel
  have hcar:=zIf x y k
  by_cases h8:k<M
  ·have h8i:(k:Int)<M:=by omega
   have h8s:k<ss.size:=by omega
   have bx:=hx k
   have b_y:=hy k
   have hsk:ss[k]?=some (.int .u64 0):=by rw [Array.getElem?_eq_getElem h8s,hss k h8s,if_neg (by omega)]
   have hadd:=fun w=>zQt (x k) (y k) (zXe x y k) bx.1 b_y.1 (by omega) hcar.1 hcar.2 w
   have hwa:=hw1 k ss
   have hwb:=hw2 k ss
   have HR:Hid (∀ (i:Nat) (h:i<(ss.setIfInBounds k (.int .u64 (zZc x y k))).size),(ss.setIfInBounds k (.int .u64 (zZc x y k)))[i]'h=Value.int .u64 (if i<k+1 then zZc x y i else 0)):=zIc hss
   clear hss hw1 hw2 hfin hmk hx hy
   go_wp2_with (first|(go_at_call_of 127 (Value.slice a n c);refine hwa.mono ?_;rintro e w' ⟨rfl,rfl⟩)|(go_at_call_of 127 (Value.slice a' n' c');refine hwb.mono ?_;rintro e w' ⟨rfl,rfl⟩))
   go_roundw
   case rel=>exact ⟨k+1,ss.setIfInBounds k (.int .u64 (zZc x y k)),by omega,by go_num,rfl,by simp [hsz],HR.out,rfl⟩
   case measure=>simp [intOf];omega
  ·obtain rfl:k=M:=by omega
   have hss':∀ j h,ss[j]'h=Value.int .u64 (zZc x y j):=by
    intro j h;rw [hss j h,if_pos (by omega)]
   have hT:=zHc _ _ _ _ _ (by omega) (hfin ss hsz hss')
   have hle:=zCa (zFp x y (max n n')) k
   clear hss hss' hw1 hw2 hfin hmk hx hy
   go_wp2_with (go_at_call 128;refine hT.mono ?_;rintro e w1 ⟨g,cap,rfl,hN,hB⟩)
   go_ret
   exact ⟨g,_,cap,rfl,Nat.le_trans hle (Nat.le_of_eq HM.out.symm),hN,zGa _ _,(zEa w _).trans (hB.mono (by simp))⟩
def NV (K V:Nat)(v:Value)(w:World):Prop:=∃ g k cap z,v=.slice (some ⟨g,0,none⟩) k cap/\k<=K/\Num w (some ⟨g,0,none⟩) k cap z/\val z k=(V:Int)
theorem NV.next {K V:Nat}{v:Value}{w w':World}(h:NV K V v w)(hb:Below w.heap.size w w'):NV K V v w':=by
 obtain ⟨g,k,cap,z,h1,h2,h3,h4⟩:=h
 exact ⟨g,k,cap,z,h1,h2,h3.next hb,h4⟩
theorem NV.more {K K' V:Nat}{v:Value}{w:World}(h:NV K V v w)(hk:K<=K'):NV K' V v w:=by
 obtain ⟨g,k,cap,z,h1,h2,h3,h4⟩:=h
 exact ⟨g,k,cap,z,h1,by omega,h3,h4⟩
theorem zTn {K A:Nat}{v:Value}{w:World}(s:Nat)(hK:K<1000)(hs:s<=600)(h:NV K A v w) :
  Calls Tryz.prog 93 #[v,.int .i64 s] w fun e w'=>∃ v' b,e=.returned (.tuple #[v',.bool b])/\NV K (A/2^s) v' w'/\Below w.heap.size w w':=by
 obtain ⟨g,k,cap,z,rfl,hk,hN,hv⟩:=h
 obtain ⟨q,hq⟩:∃ q:Nat,(s:Int)/64=q:=⟨((s:Int)/64).toNat,by omega⟩
 obtain ⟨r,hr⟩:∃ r:Nat,(s:Int)%64=r:=⟨((s:Int)%64).toNat,by omega⟩
 have hsn:s=64*q+r:=by omega
 have hr6:r<64:=by omega
 have key:∀ (w':World) (g' k' cap':Nat),k'<=k->Num w' (some ⟨g',0,none⟩) k' cap' (zAc z q r)->NV K (A/2^s) (.slice (some ⟨g',0,none⟩) k' cap') w':=fun w' g' k' cap' hk' hN'=>by
  refine ⟨g',k',cap',_,rfl,by omega,hN',?_⟩
  rw [← zLa hN'.2.2.2.1 k hk',hsn]
  exact zFm hN.2.2.1 hN.2.2.2.1 hr6 k (Nat.le_refl _) hv
 by_cases h0:r=0
 ·subst h0
  refine (zB9 g 0 k cap q s z w (by omega) (by omega) hq (by omega) (by omega) hN).mono ?_
  rintro e w' ⟨g',k',cap',b,rfl,hk',hN',hb⟩
  exact ⟨_,b,rfl,key w' g' k' cap' hk' hN',hb⟩
 ·refine (zC9 g 0 k cap q r s z w (by omega) (by omega) hr6 (by omega) hq hr (by omega) hN).mono ?_
  rintro e w' ⟨g',k',cap',b,rfl,hk',hN',hb⟩
  exact ⟨_,b,rfl,key w' g' k' cap' hk' hN',hb⟩
theorem zNr {K A:Nat}{v:Value}{w:World}(s:Nat)(hK:K<1000)(hs:s<=600)(h:NV K A v w) :
  Calls Tryz.prog 87 #[v,.int .i64 s] w fun e w'=>∃ v',e=.returned v'/\NV (K+11) (A*2^s) v' w'/\Below w.heap.size w w':=by
 obtain ⟨g,k,cap,z,rfl,hk,hN,hv⟩:=h
 obtain ⟨q,hq⟩:∃ q:Nat,(s:Int)/64=q:=⟨((s:Int)/64).toNat,by omega⟩
 obtain ⟨r,hr⟩:∃ r:Nat,(s:Int)%64=r:=⟨((s:Int)%64).toNat,by omega⟩
 have hsn:s=64*q+r:=by omega
 have hr6:r<64:=by omega
 have key:∀ (w':World) (g' k' cap':Nat),k'<=k+q+1->Num w' (some ⟨g',0,none⟩) k' cap' (zMc z q r)->NV (K+11) (A*2^s) (.slice (some ⟨g',0,none⟩) k' cap') w':=fun w' g' k' cap' hk' hN'=>by
  refine ⟨g',k',cap',_,rfl,by omega,hN',?_⟩
  rw [← zLa hN'.2.2.2.1 (k+q+1) hk',zQm hN.2.2.1 hN.2.2.2.1 q hr6,hv,hsn]
  simp
 by_cases h0:r=0
 ·subst h0
  refine (left_z g 0 k cap q s z w (by omega) (by omega) hq (by omega) (by omega) hN).mono ?_
  rintro e w' ⟨g',k',cap',rfl,hk',hN',hb⟩
  exact ⟨_,rfl,key w' g' k' cap' hk' hN',hb⟩
 ·refine (left_p g 0 k cap q r s z w (by omega) (by omega) hr6 (by omega) hq hr (by omega) hN).mono ?_
  rintro e w' ⟨g',k',cap',rfl,hk',hN',hb⟩
  exact ⟨_,rfl,key w' g' k' cap' hk' hN',hb⟩
def NT (K V:Nat)(v:Value)(w:World):Prop:=∃ g k cap z,v=.slice (some ⟨g,0,none⟩) k cap/\k<=K/\Num w (some ⟨g,0,none⟩) k cap z/\val z k=(V:Int)/\sizeL z k=k
theorem NT.nv {K V:Nat}{v:Value}{w:World}(h:NT K V v w):NV K V v w:=by
 obtain ⟨g,k,cap,z,h1,h2,h3,h4,_⟩:=h
 exact ⟨g,k,cap,z,h1,h2,h3,h4⟩
theorem NT.next {K V:Nat}{v:Value}{w w':World}(h:NT K V v w)(hb:Below w.heap.size w w'):NT K V v w':=by
 obtain ⟨g,k,cap,z,h1,h2,h3,h4,h5⟩:=h
 exact ⟨g,k,cap,z,h1,h2,h3.next hb,h4,h5⟩
theorem zQ2 {K K' A B:Nat}{v v':Value}{w:World}(hK:K<1000)(hK':K'<1000)(h:NV K A v w)(h':NV K' B v' w)(hv:B<=A) :
  CE 126 #[v,v'] w (NT (K+K') (A-B)):=by
 obtain ⟨g,k,c,z,rfl,hk,hN,hz⟩:=h
 obtain ⟨g2,k2,c2,z2,rfl,hk2,hN2,hz2⟩:=h'
 refine (zP2 _ _ k c k2 c2 z z2 w (by omega) (by omega) hN hN2).mono fun e w' ⟨g3,k3,cap3,e1,hk3,hN3,ht,hB⟩=>⟨_,e1,⟨g3,k3,cap3,_,rfl,by omega,hN3,?_,ht⟩,hB⟩
 have ex:=zLa hN.2.2.2.1 (max k k2) (by omega)
 have ey:=zLa hN2.2.2.2.1 (max k k2) (by omega)
 have e:=zAi hN.2.2.1 hN2.2.2.1 (max k k2)
 rw [zZm hN.2.2.1 hN2.2.2.1 (by omega),ex,ey] at e
 rw [← zLa hN3.2.2.2.1 _ hk3,zKa (y:=zZc z z2) (max k k2) fun i hi=>by unfold zFp;rw [if_pos hi]]
 omega
theorem zHg {K K' A B:Nat}{v v':Value}{w:World}(hK:K<1000000)(hK':K'<1000000)(h:NV K A v w)(h':NV K' B v' w) :
  CE 63 #[v,v'] w (NV (K+K'+1) (A+B)):=by
 obtain ⟨g,k,c,z,rfl,hk,hN,hz⟩:=h
 obtain ⟨g2,k2,c2,z2,rfl,hk2,hN2,hz2⟩:=h'
 refine (zU2 _ _ k c k2 c2 z z2 w (by omega) (by omega) hN hN2).mono fun e w' ⟨g3,k3,cap3,z3,e1,hk3,hN3,hv3,hB⟩=>⟨_,e1,⟨g3,k3,cap3,z3,rfl,by omega,hN3,?_⟩,hB⟩
 rw [hv3,hz,hz2];omega
theorem NT.zero {K V:Nat}{v:Value}{w:World}(h:NT K V v w):∃ g k cap,v=.slice (some ⟨g,0,none⟩) k cap/\k<=K/\(k=0↔V=0):=by
 obtain ⟨g,k,cap,z,h1,h2,h3,h4,h5⟩:=h
 refine ⟨g,k,cap,h1,h2,?_⟩
 constructor
 ·intro hk;subst hk
  have:val z 0=0:=rfl
  omega
 ·intro hV
  rcases Nat.eq_zero_or_pos k with hk|hk
  ·exact hk
  ·exfalso
   have ht:=zVc (x:=z) k (by omega)
   rw [h5] at ht
   obtain ⟨j,rfl⟩:∃ j,k=j+1:=⟨k-1,by omega⟩
   have hs:val z (j+1)=val z j+z j*18446744073709551616^j:=rfl
   have hb:=zVa h3.2.2.1 j
   have hp:=zOb j
   have hj:=h3.2.2.1 j
   have hz:z j≠0:=ht
   have:1*18446744073709551616^j<=z j*18446744073709551616^j:=Int.mul_le_mul_of_nonneg_right (by omega) (Int.le_of_lt hp)
   omega
structure DF where
 t:Nat
 w:Nat
 j:Nat
 l:Int
 dn:Bool
def DF.ok (f:DF):Prop:=(f.t=20/\f.w=6/\f.j=2/\f.l=-101)∨(f.t=50/\f.w=8/\f.j=5/\f.l=-398)∨(f.t=110/\f.w=12/\f.j=11/\f.l=-6176)
def vR (f:DF)(B:Nat):Nat:=B%2^f.t
def vG (f:DF)(B:Nat):Nat:=B/2^f.t%2^(f.w+5)
def vS (f:DF)(B:Nat):Bool:=decide (B/2^(f.t+(f.w+5))%2=1)
def vV (w G:Nat):Nat:=G/2^w
def vF (dn:Bool)(w G:Nat):Nat :=
 if dn then (if vV w G<24 then vV w G/8*2^w+G%2^w else vV w G/2%4*2^w+G%2^w)
 else (if vV w G<24 then G/8 else G/2%2^(w+2))
def vL (dn:Bool)(w G:Nat):Nat :=
 if dn then (if vV w G<24 then vV w G%8 else 8+vV w G%2) else (if vV w G<24 then G%8 else 8+G%2)
def vT (f:DF)(R:Nat):Nat:=if f.dn then dlU f.j R else R
def vQ (f:DF):Nat:=if f.dn then 10^(3*f.j) else 2^f.t
def vD (f:DF)(s:Bool)(G R:Nat):Dat :=
 if vV f.w G=30 then ⟨2,s,false,0,0⟩
 else if vV f.w G=31 then ⟨3,s,decide (G/2^(f.w-1)%2=1),0,if vT f R<10^(3*f.j) then vT f R else 0⟩
 else ⟨1,s,false,(vF f.dn f.w G:Int)+f.l,if vL f.dn f.w G*vQ f+vT f R<10^(3*f.j+1) then vL f.dn f.w G*vQ f+vT f R else 0⟩
def vM (f:DF)(B:Nat):Dat:=vD f (vS f B) (vG f B) (vR f B)
def vI (f:DF)(d:Dat):Prop :=
 (d.c=1/\d.g=false/\d.k<10^(3*f.j+1)/\f.l<=d.x/\d.x<=f.l+3*2^f.w-1)∨(d.c=2/\d.g=false/\d.k=0/\d.x=0)∨(d.c=3/\d.x=0/\d.k<10^(3*f.j))
def vN (dn:Bool)(w E a:Nat):Nat :=
 if dn then (if 8<=a then 24+E/2^w*2+a%2 else E/2^w*8+a)*2^w+E%2^w
 else (if 8<=a then 3*2^(w+3)+E*2+a%2 else E*8+a)
def vPG (f:DF)(d:Dat):Nat :=
 if d.c=2 then 30*2^f.w else if d.c=3 then 31*2^f.w+(if d.g then 2^(f.w-1) else 0)
 else vN f.dn f.w (d.x-f.l).toNat (d.k/vQ f)
def vPR (f:DF)(d:Dat):Nat :=
 if d.c=2 then 0 else if d.c=3 then (if f.dn then dlP f.j d.k else d.k)
 else if f.dn then dlP f.j (d.k%10^(3*f.j)) else d.k%2^f.t
def vP (f:DF)(d:Dat):Nat:=(if d.s then 2^(f.t+(f.w+5)) else 0)+vPG f d*2^f.t+vPR f d
theorem zC2 (j:Nat):(10:Nat)^(3*j)=1000^j:=by rw [Nat.pow_mul]
theorem DF.ok.t10 {f:DF}(h:f.ok):f.t=10*f.j:=by
 rcases h with ⟨h1,h2,h3,h4⟩|⟨h1,h2,h3,h4⟩|⟨h1,h2,h3,h4⟩<;>omega
theorem DF.ok.pt {f:DF}(h:f.ok):2^f.t=1024^f.j:=by rw [h.t10,Nat.pow_mul]
theorem zW7 (f:DF)(s:Bool){G R:Nat}(hG:G<2^(f.w+5))(hR:R<2^f.t) :
  vR f ((if s then 2^(f.t+(f.w+5)) else 0)+G*2^f.t+R)=R/\vG f ((if s then 2^(f.t+(f.w+5)) else 0)+G*2^f.t+R)=G/\vS f ((if s then 2^(f.t+(f.w+5)) else 0)+G*2^f.t+R)=s:=by
 have e:(if s then 2^(f.t+(f.w+5)) else 0)+G*2^f.t+R=((if s then 1 else 0)*2^(f.w+5)+G)*2^f.t+R:=by
  cases s
  ·simp
  ·simp only [if_true,Nat.one_mul,Nat.add_mul]
   rw [← Nat.pow_add,Nat.add_comm (f.w+5) f.t]
 rw [e]
 have hT:0<2^f.t:=Nat.two_pow_pos _
 have hH:0<2^(f.w+5):=Nat.two_pow_pos _
 have h1:(((if s then 1 else 0)*2^(f.w+5)+G)*2^f.t+R)%2^f.t=R:=by rw [Nat.mul_comm,Nat.mul_add_mod,Nat.mod_eq_of_lt hR]
 have h2:(((if s then 1 else 0)*2^(f.w+5)+G)*2^f.t+R)/2^f.t=(if s then 1 else 0)*2^(f.w+5)+G:=by rw [Nat.mul_comm,Nat.mul_add_div hT,Nat.div_eq_of_lt hR,Nat.add_zero]
 have h3:((if s then 1 else 0)*2^(f.w+5)+G)%2^(f.w+5)=G:=by rw [Nat.mul_comm,Nat.mul_add_mod,Nat.mod_eq_of_lt hG]
 have h4:((if s then 1 else 0)*2^(f.w+5)+G)/2^(f.w+5)=(if s then 1 else 0):=by rw [Nat.mul_comm,Nat.mul_add_div hH,Nat.div_eq_of_lt hG,Nat.add_zero]
 refine ⟨h1,?_,?_⟩
 ·unfold vG;rw [h2,h3]
 ·unfold vS;rw [Nat.pow_add 2 f.t (f.w+5),← Nat.div_div_eq_div_mul,h2,h4];cases s<;>rfl
theorem zMv (f:DF)(B:Nat):vG f B<2^(f.w+5):=Nat.mod_lt _ (Nat.two_pow_pos _)
theorem zHt (f:DF)(B:Nat):vR f B<2^f.t:=Nat.mod_lt _ (Nat.two_pow_pos _)
theorem vT_lt {f:DF}(h:f.ok)(hd:f.dn=true)(R:Nat):vT f R<10^(3*f.j):=by
 unfold vT
 rw [hd,if_pos rfl,zC2]
 exact zLl _ _
theorem vD_is {f:DF}(h:f.ok)(s:Bool){G R:Nat}(hG:G<2^(f.w+5))(hR:R<2^f.t):vI f (vD f s G R):=by
 have hp:0<(10:Nat)^(3*f.j):=Nat.pow_pos (by decide)
 have hp':0<(10:Nat)^(3*f.j+1):=Nat.pow_pos (by decide)
 unfold vD
 by_cases h30:vV f.w G=30
 ·rw [if_pos h30];exact Or.inr (Or.inl ⟨rfl,rfl,rfl,rfl⟩)
 ·rw [if_neg h30]
  by_cases h31:vV f.w G=31
  ·rw [if_pos h31]
   refine Or.inr (Or.inr ⟨rfl,rfl,?_⟩)
   show (if vT f R<10^(3*f.j) then vT f R else 0)<10^(3*f.j)
   split<;>omega
  ·rw [if_neg h31]
   refine Or.inl ⟨rfl,rfl,?_,?_,?_⟩
   ·show (if vL f.dn f.w G*vQ f+vT f R<10^(3*f.j+1) then vL f.dn f.w G*vQ f+vT f R else 0)<10^(3*f.j+1)
    split<;>omega
   ·show f.l<=(vF f.dn f.w G:Int)+f.l
    omega
   ·show (vF f.dn f.w G:Int)+f.l<=f.l+3*2^f.w-1
    have:vF f.dn f.w G<3*2^f.w:=by
     unfold vF
     unfold vV at *
     rcases h with ⟨h1,h2,h3,h4⟩|⟨h1,h2,h3,h4⟩|⟨h1,h2,h3,h4⟩<;>rw [h2] at hG h30 h31 ⊢<;>cases f.dn<;>simp only [Bool.false_eq_true,if_false,if_true]<;>simp only [Nat.reducePow,Nat.reduceAdd] at*<;> split<;>omega
    have e:((3*2^f.w:Nat):Int)=3*2^f.w:=by simp
    omega
theorem zHn {f:DF}(h:f.ok)(B:Nat):vI f (vM f B):=vD_is h _ (zMv f B) (zHt f B)
theorem zXk {f:DF}(h:f.ok){d:Dat}(hd:vI f d):vPG f d<2^(f.w+5):=by
 have hq:d.c=1->d.k/vQ f<=9:=fun h1=>by
  rcases hd with ⟨_,_,hk,_,_⟩|⟨h2,_⟩|⟨h2,_⟩
  ·unfold vQ
   rcases h with ⟨h1,h2,h3,h4⟩|⟨h1,h2,h3,h4⟩|⟨h1,h2,h3,h4⟩<;>rw [h3] at hk ⊢<;>rw [h1]<;>cases f.dn<;>simp only [Bool.false_eq_true,if_false,if_true]<;>simp only [Nat.reducePow,Nat.reduceAdd,Nat.reduceMul] at*<;> omega
  ·omega
  ·omega
 unfold vPG
 rcases hd with ⟨c1,g1,hk,hx,hx'⟩|⟨c1,g1,hk,hx⟩|⟨c1,hx,hk⟩
 ·have h9:=hq c1
  rw [if_neg (by omega),if_neg (by omega)]
  generalize d.k/vQ f=a at *
  have hE:(d.x-f.l).toNat<3*2^f.w:=by
   have e:((3*2^f.w:Nat):Int)=3*2^f.w:=by simp
   omega
  generalize (d.x-f.l).toNat=E at *
  unfold vN
  rcases h with ⟨h1,h2,h3,h4⟩|⟨h1,h2,h3,h4⟩|⟨h1,h2,h3,h4⟩<;>rw [h2] at hE ⊢<;>cases f.dn<;>simp only [Bool.false_eq_true,if_false,if_true]<;>simp only [Nat.reducePow,Nat.reduceAdd,Nat.reduceMul] at*<;> split<;>omega
 ·rw [if_pos c1]
  rcases h with ⟨h1,h2,h3,h4⟩|⟨h1,h2,h3,h4⟩|⟨h1,h2,h3,h4⟩<;>rw [h2]<;>decide
 ·rw [if_neg (by omega),if_pos c1]
  rcases h with ⟨h1,h2,h3,h4⟩|⟨h1,h2,h3,h4⟩|⟨h1,h2,h3,h4⟩<;>rw [h2]<;>cases d.g<;>decide
theorem zAr {f:DF}(h:f.ok){d:Dat}(hd:vI f d):vPR f d<2^f.t:=by
 unfold vPR
 rcases hd with ⟨c1,g1,hk,hx,hx'⟩|⟨c1,g1,hk,hx⟩|⟨c1,hx,hk⟩
 ·rw [if_neg (by omega),if_neg (by omega)]
  split
  ·rw [h.pt];exact zMl _ _
  ·exact Nat.mod_lt _ (Nat.two_pow_pos _)
 ·rw [if_pos c1];exact Nat.two_pow_pos _
 ·rw [if_neg (by omega),if_pos c1]
  split
  ·rw [h.pt];exact zMl _ _
  ·refine Nat.lt_of_lt_of_le hk ?_
   rcases h with ⟨h1,h2,h3,h4⟩|⟨h1,h2,h3,h4⟩|⟨h1,h2,h3,h4⟩<;>rw [h1,h3]<;>decide
theorem vP_lt {f:DF}(h:f.ok){d:Dat}(hd:vI f d):vP f d<2^(f.t+(f.w+6)):=by
 have h1:=zXk h hd
 have h2:=zAr h hd
 unfold vP
 have e5:2^(f.t+(f.w+5))=2^(f.w+5)*2^f.t:=by rw [← Nat.pow_add,Nat.add_comm]
 have e6:2^(f.t+(f.w+6))=2*(2^(f.w+5)*2^f.t):=by rw [← Nat.pow_add,← Nat.pow_succ'];congr 1;omega
 have h3:(if d.s then 2^(f.t+(f.w+5)) else 0)<=2^(f.w+5)*2^f.t:=by split<;>omega
 have h4:(vPG f d+1)*2^f.t<=2^(f.w+5)*2^f.t:=Nat.mul_le_mul_right _ h1
 rw [Nat.add_mul,Nat.one_mul] at h4
 rw [e6]
 omega
theorem zKv {f:DF}(h:f.ok){d:Dat}(hd:vI f d):vP f d<2^256:=by
 refine Nat.lt_of_lt_of_le (vP_lt h hd) (Nat.pow_le_pow_right (by decide) ?_)
 rcases h with ⟨h1,h2,h3,h4⟩|⟨h1,h2,h3,h4⟩|⟨h1,h2,h3,h4⟩<;>omega
theorem zLv {f:DF}(h:f.ok)(B:Nat):(vM f B).k<2^256:=by
 have hi:=zHn h B
 have e:(10:Nat)^(3*f.j+1)<=10^34:=Nat.pow_le_pow_right (by decide) (by rcases h with ⟨h1,h2,h3,h4⟩|⟨h1,h2,h3,h4⟩|⟨h1,h2,h3,h4⟩<;>omega)
 have e':(10:Nat)^(3*f.j)<=10^34:=Nat.pow_le_pow_right (by decide) (by rcases h with ⟨h1,h2,h3,h4⟩|⟨h1,h2,h3,h4⟩|⟨h1,h2,h3,h4⟩<;>omega)
 have e2:(10:Nat)^34<2^256:=by decide
 rcases hi with ⟨_,_,hk,_⟩|⟨_,_,hk,_⟩|⟨_,_,hk⟩<;>omega
theorem zY7 {f:DF}(h:f.ok){E a:Nat}(hE:E<3*2^f.w)(ha:a<=9):vF f.dn f.w (vN f.dn f.w E a)=E/\vL f.dn f.w (vN f.dn f.w E a)=a/\vV f.w (vN f.dn f.w E a)≠30/\vV f.w (vN f.dn f.w E a)≠31:=by
 unfold vF vL vN vV
 rcases h with ⟨h1,h2,h3,h4⟩|⟨h1,h2,h3,h4⟩|⟨h1,h2,h3,h4⟩<;>rw [h2] at hE ⊢<;>cases f.dn<;>simp only [Bool.false_eq_true,if_false,if_true]<;>simp only [Nat.reducePow,Nat.reduceAdd,Nat.reduceMul] at*<;> by_cases h8:8<=a
 all_goals simp only [h8,if_true,if_false]
 all_goals refine ⟨?_,?_,?_,?_⟩
 all_goals (try split)<;>omega
theorem vM_vP {f:DF}(h:f.ok){d:Dat}(hd:vI f d):vM f (vP f d)=d:=by
 obtain ⟨e1,e2,e3⟩:=zW7 f d.s (zXk h hd) (zAr h hd)
 unfold vM
 unfold vP
 rw [e1,e2,e3]
 obtain ⟨c,s,g,x,k⟩:=d
 unfold vD vPG vPR
 rcases hd with ⟨c1,g1,hk,hx,hx'⟩|⟨c1,g1,hk,hx⟩|⟨c1,hx,hk⟩
 ·simp only at c1 g1 hk hx hx'
  subst c1 g1
  simp only [show ¬ (1:Int)=2 by decide,show ¬ (1:Int)=3 by decide,if_false]
  have hE:(x-f.l).toNat<3*2^f.w:=by
   have e:((3*2^f.w:Nat):Int)=3*2^f.w:=by simp
   omega
  have ha:k/vQ f<=9:=by
   unfold vQ
   rcases h with ⟨h1,h2,h3,h4⟩|⟨h1,h2,h3,h4⟩|⟨h1,h2,h3,h4⟩<;>rw [h3] at hk ⊢<;>rw [h1]<;>cases f.dn<;>simp only [Bool.false_eq_true,if_false,if_true]<;>simp only [Nat.reducePow,Nat.reduceAdd,Nat.reduceMul] at*<;> omega
  obtain ⟨b1,b2,b3,b4⟩:=zY7 h hE ha
  rw [if_neg b3,if_neg b4,b1,b2]
  have ht:k/vQ f*vQ f+vT f (if f.dn then dlP f.j (k%10^(3*f.j)) else k%2^f.t)=k:=by
   unfold vT vQ
   cases f.dn
   ·simp only [Bool.false_eq_true,if_false]
    rw [Nat.mul_comm];exact Nat.div_add_mod k _
   ·simp only [if_true]
    rw [zTm _ _ (by rw [← zC2];exact Nat.mod_lt _ (Nat.pow_pos (by decide))),Nat.mul_comm]
    exact Nat.div_add_mod k _
  rw [ht,if_pos hk]
  congr 1
  omega
 ·simp only at c1 g1 hk hx
  subst c1 g1 hk hx
  simp only [if_true]
  have:vV f.w (30*2^f.w)=30:=by unfold vV;exact Nat.mul_div_cancel _ (Nat.two_pow_pos _)
  rw [if_pos this]
 ·simp only at c1 hx hk
  subst c1 hx
  simp only [show ¬ (3:Int)=2 by decide,if_false,if_true]
  have hw:2^f.w=2*2^(f.w-1):=by rw [← Nat.pow_succ'];congr 1;rcases h with ⟨h1,h2,h3,h4⟩|⟨h1,h2,h3,h4⟩|⟨h1,h2,h3,h4⟩<;>omega
  have hp:=Nat.two_pow_pos (f.w-1)
  have h31:vV f.w (31*2^f.w+if g then 2^(f.w-1) else 0)=31:=by
   unfold vV
   rw [Nat.mul_comm,Nat.mul_add_div (Nat.two_pow_pos _),Nat.div_eq_of_lt (by split<;>omega)]
  have hg:decide ((31*2^f.w+if g then 2^(f.w-1) else 0)/2^(f.w-1)%2=1)=g:=by
   rw [hw,show 31*(2*2^(f.w-1))=2^(f.w-1)*62 by omega,Nat.mul_add_div hp]
   cases g
   ·simp
   ·simp only [if_true];rw [Nat.div_self hp];decide
  rw [if_neg (by rw [h31];decide),if_pos h31,hg]
  have ht:vT f (if f.dn then dlP f.j k else k)=k:=by
   unfold vT
   cases f.dn
   ·simp
   ·simp only [if_true]
    exact zTm _ _ (by rw [← zC2];exact hk)
  rw [ht,if_pos hk]
theorem zZ2 {w:World}{base g k cap n:Nat}{e:TypeId}{xs:List Value}(h:w.ownsRow base e 1 (.slice (some ⟨g,0,none⟩) k cap) n xs):base<=g:=by
 rcases h.2 with ⟨h,_⟩|⟨g',cap',cur,he,hb,_⟩
 ·cases h
 ·cases he;exact hb
theorem zLt (b off n c:Nat)(x:Nat->Int)(w:World)(hn:n<4294967296)(h:Num w (some ⟨b,off,none⟩) n c x) :
  Calls Tryz.prog 128 #[.slice (some ⟨b,off,none⟩) n c] w fun e w'=>∃ g cap,e=.returned (.slice (some ⟨g,0,none⟩) (sizeL x n) cap)/\Num w' (some ⟨g,0,none⟩) (sizeL x n) cap x/\Below w.heap.size w w'/\w.heap.size<=g:=by
 obtain ⟨h1,h2,h3,h4,h5⟩:=h
 have hc:b<w.heap.size/\∀ i,i<n->w.cell? ⟨b,off+i,none⟩=some (.int .u64 (x i)):=by
  rcases h5 with ⟨h,_⟩|⟨b',off',h,hbs,hc⟩
  ·cases h
  ·cases h;exact ⟨hbs,hc⟩
 obtain ⟨hbs,hc⟩:=hc
 clear h5
 obtain ⟨i0,hi,hz0,hz1,hz2⟩:=info_parts Tryz.info22
 unfold maxLen at h2
 go_enter Tryz.func128,Tryz.ntmps128
 go_wp2
 go_loop [3] (fun t=>∃ k:Nat,k<=n/\sizeL x k=sizeL x n/\(∀ i,k<=i->x i=0)/\t=.int .i64 k) (fun t=>(intOf t).toNat)
 case atStart=>exact ⟨n,Nat.le_refl _,rfl,h4,rfl⟩
 case round =>
  obtain ⟨k,hk,hs,hz,rfl⟩:=hrel
  clear h4
  by_cases h0:k=0
  ·subst h0
   have HS:Hid (sizeL x n=0):=hs.symm
   have HN:Hid (Num (w.alloc (.cells #[] 22)) (some ⟨w.heap.size,0,none⟩) 0 0 x):=⟨Nat.le_refl _,by unfold maxLen;omega,h3,hz,Or.inr ⟨w.heap.size,0,rfl,by simp,fun i hi=>by omega⟩⟩
   clear hs hz hc h3
   go_wp2
   go_ret
   refine ⟨w.heap.size,0,?_,?_,(Below.refl _ _).alloc (Nat.le_refl _) _,Nat.le_refl _⟩
   ·rw [HS.out];rfl
   ·rw [HS.out];exact HN.out
  ·obtain ⟨j,rfl⟩:∃ j,k=j+1:=⟨k-1,by omega⟩
   have hcj:=hc j (by omega)
   by_cases hzj:x j=0
   ·have HS:Hid (sizeL x j=sizeL x n):=by
     have:sizeL x (j+1)=sizeL x j:=by simp [sizeL,hzj]
     exact this.symm.trans hs
    have HZ:Hid (∀ i,j<=i->x i=0):=fun i hji=>by
     by_cases e:i=j
     ·rw [e];exact hzj
     ·exact hz i (by omega)
    clear hs hz hc
    go_wp2
    go_round
    case rel=>exact ⟨j,by omega,HS.out,HZ.out,by go_num⟩
    case measure=>simp [intOf]
   ·have HS:Hid (sizeL x n=j+1):=by
     have:sizeL x (j+1)=j+1:=by simp [sizeL,hzj]
     exact hs.symm.trans this
    have HZ:Hid (∀ i,j+1<=i->x i=0):=hz
    have HC:Hid (∀ i,i<n->w.cell? ⟨b,off+i,none⟩=some (.int .u64 (x i))):=hc
    clear hs hz hc
    have HOWN:(w.alloc (.cells #[] 22)).ownsRow w.heap.size 22 1 (.slice (some ⟨w.heap.size,0,none⟩) 0 0) 0 [] :=
     ⟨rfl,Or.inr ⟨w.heap.size,0,#[],rfl,Nat.le_refl _,(MapKept.heap_alloc w _).1,Nat.le_refl _,by unfold maxLen;omega,rfl,rfl⟩⟩
    have HNEWS:∀ (q:Nat) (u:Value),((List.range (j+1)).map fun i=>Value.int .u64 (x i))[q]?=some u->(w.alloc (.cells #[] 22)).cell? ((⟨b,off,none⟩:Addr).add q)=some u:=by
     intro q u hq
     have hql:q<j+1:=by
      rcases Nat.lt_or_ge q (j+1) with h|h
      ·exact h
      ·rw [List.getElem?_eq_none (by simpa using h)] at hq;cases hq
     have e2:u=.int .u64 (x q):=by simpa [hql] using hq.symm
     rw [e2]
     have ea:(⟨b,off,none⟩:Addr).add q=⟨b,off+q,none⟩:=by simp [Addr.add]
     rw [ea]
     exact (((Below.refl w.heap.size w).alloc (Nat.le_refl _) _).cell (p:=⟨b,off+q,none⟩) hbs).trans (HC.out q (by omega))
    have HONE:∀ u ∈ ((List.range (j+1)).map fun i=>Value.int .u64 (x i)),u.oneCell'=true:=by
     intro u hu
     obtain ⟨q,_,rfl⟩:=List.mem_map.1 hu
     rfl
    go_wp2_with (at_builtin;refine wpList_append_lies _ rfl (.tmp 18) (.tmp 21) 61 rfl w.heap.size 22 i0 (.int .u64 0) 1 8 Tryz.underlying61 hi hz0 hz1 hz2 rfl (by decide) (.slice (some ⟨w.heap.size,0,none⟩) 0 0) 0 [] rfl HOWN ⟨b,off,none⟩ (j+1) c ((List.range (j+1)).map fun i=>Value.int .u64 (x i)) rfl (by simp) HNEWS HONE (by omega) (by unfold maxLen;omega) (by omega) (by simp) (w.heap.size+1) (by simp) ?_;intro g cap w1 hown hgrow hat hlt;clear HOWN HNEWS HONE)
    have hown':w1.ownsRow w.heap.size 22 1 (.slice (some ⟨g,0,none⟩) (j+1) cap) (j+1) ((List.range (j+1)).map fun i=>Value.int .u64 (x i)):=by
     have e0:0+(j+1)=j+1:=by omega
     rw [e0] at hown
     simpa using hown
    have HG:=zZ2 hown'
    have HN:=zRe (w:=w) h3 HZ.out hown' hlt
    have HB:Below w.heap.size w w1:=((Below.refl _ _).alloc (Nat.le_refl _) _).grown hgrow (by simp) (by intro k hk;cases hk;exact Nat.le_refl _)
    clear hown hown' hgrow
    go_wp2
    go_ret
    refine ⟨g,cap,?_,?_,HB,HG⟩
    ·rw [HS.out];simp
    ·rw [HS.out];exact HN
theorem zUv (x:Nat->Int)(w:World)(hx:∀ i,x i=0) :
  Calls Tryz.prog 128 #[.slice none 0 0] w fun e w'=>∃ g cap,e=.returned (.slice (some ⟨g,0,none⟩) 0 cap)/\Num w' (some ⟨g,0,none⟩) 0 cap x/\Below w.heap.size w w'/\w.heap.size<=g:=by
 go_enter Tryz.func128,Tryz.ntmps128
 go_wp2
 go_loop [3] (fun t=>t=.int .i64 0) (fun t=>(intOf t).toNat)
 case atStart=>rfl
 case round =>
  subst hrel
  go_wp2
  go_ret
  refine ⟨w.heap.size,0,rfl,?_,(Below.refl _ _).alloc (Nat.le_refl _) _,Nat.le_refl _⟩
  exact ⟨Nat.le_refl _,by unfold maxLen;omega,fun i=>by rw [hx i];decide,fun i _=>hx i,Or.inr ⟨w.heap.size,0,rfl,by simp,fun i hi=>by omega⟩⟩
theorem zAf (a:Option Addr)(n c:Nat)(x:Nat->Int)(w:World)(hn:n<4294967296)(h:Num w a n c x) :
  Calls Tryz.prog 128 #[.slice a n c] w fun e w'=>∃ g cap,e=.returned (.slice (some ⟨g,0,none⟩) (sizeL x n) cap)/\Num w' (some ⟨g,0,none⟩) (sizeL x n) cap x/\Below w.heap.size w w'/\w.heap.size<=g:=by
 have h':=h
 obtain ⟨h1,h2,h3,h4,h5⟩:=h'
 rcases h5 with ⟨rfl,rfl⟩|⟨b,off,rfl,_,_⟩
 ·obtain rfl:n=0:=by omega
  exact zUv x w (fun i=>h4 i (Nat.zero_le _))
 ·exact zLt b off n c x w hn h
theorem zL9 (c:Int)(w:World)(hc:0<=c/\c<=18446744073709551615) :
  Calls Tryz.prog 193 #[.int .u64 c] w fun e w'=>∃ g k cap z,e=.returned (.slice (some ⟨g,0,none⟩) k cap)/\k<=1/\Num w' (some ⟨g,0,none⟩) k cap z/\val z k=c/\Below w.heap.size w w'/\sizeL z k=k:=by
 have hN:=zOd w c hc
 have hT:=zHc _ 1 1 (zEd c) _ (by omega) hN
 have hle:=zCa (zEd c) 1
 have HV:Hid (val (zEd c) (sizeL (zEd c) 1)=c):=by show _=_;rw [zMa,zIv _ 1 (by omega)]
 have HB:=zEa w (.cells #[.int .u64 c] 22)
 have HST:Hid (sizeL (zEd c) (sizeL (zEd c) 1)=sizeL (zEd c) 1):=zGa _ _
 generalize sizeL (zEd c) 1=s at *
 clear hN
 go_enter Tryz.func193,Tryz.ntmps193
 go_wp2_with (go_at_call 128;refine hT.mono ?_;rintro e w1 ⟨g,cap,rfl,hN,hB⟩)
 go_ret
 exact ⟨g,s,cap,_,rfl,hle,hN,HV.out,HB.trans (hB.mono HB.size),HST.out⟩
def zUg (x:Nat->Int)(d:Int)(s k i:Nat):Int:=if k<=i/\i<s then quoW x d s i else 0
theorem zQ8 (a:Option Addr)(s c:Nat)(x:Nat->Int)(d:Int)(w:World)(hs:s<100000)(h:Num w a s c x)(hd:0<d/\d<=18446744073709551615) :
  Calls Tryz.prog 156 #[.slice a s c,.int .u64 d] w fun e w'=>∃ g k cap z g' k' cap' z',e=.returned (.tuple #[.slice (some ⟨g,0,none⟩) k cap,.slice (some ⟨g',0,none⟩) k' cap'])/\k<=s/\k'<=1/\Num w' (some ⟨g,0,none⟩) k cap z/\Num w' (some ⟨g',0,none⟩) k' cap' z'/\val z k=val x s/d/\sizeL z k=k/\val z' k'=val x s%d/\sizeL z' k'=k'/\Below w.heap.size w w'/\w.heap.size<=g:=by
 have hx:=h.2.2.1
 have H:=fun j hj w=>zWj x d s hx hd j hj w
 have hd0:(d==0)=false:=by simp;omega
 have hmk:=fun w=>zAb (s:Int) s rfl (by omega) w
 have hA:=zUe h
 have hBW:=zEa w (.cells (arrOf (fun _=>0) s) 22)
 have hnx:=h.next hBW
 have hO:=Own.new w (fun _=>0) s
 have hqv:=zWp hx hd.1 s
 have HQW:Hid (zDa (quoW x d s)):=zSh hx hd.1 s
 have hrb:=zFg x d s s hd.1
 have HB:Hid (Below w.heap.size w (w.alloc (.cells (arrOf (fun _=>0) s) 22))):=hBW
 clear hBW h hx
 go_enter Tryz.func156,Tryz.ntmps156
 go_wp2
 generalize w.alloc (.cells (arrOf (fun _=>0) s) 22)=wA at *
 go_loopw [7,8,19] (fun c i u19 wr=>∃ (k:Nat),k<=s/\i=.int .i64 ((k:Int)-1)/\c=.int .u64 (remJ x d s (s-k))/\Own w.heap.size s (zUg x d s k) wr/\Upd w.heap.size wA wr) (fun _ i _ _=>(intOf i+1).toNat)
 case atStart=>exact ⟨s,Nat.le_refl _,by go_num,by rw [Nat.sub_self];rfl,hO.congr fun i _=>by unfold zUg;rw [if_neg (by omega)],Upd.refl _ _⟩
 case round =>
  clear hO
  obtain ⟨k,hk,rfl,rfl,hO,hU⟩:=hrel
  by_cases h0:k=0
  ·subst h0
   have hN:=hO.num (x:=zUg x d s 0) (fun i=>by unfold zUg;split;exact HQW.out i;decide) 0 s s (by omega) (Nat.le_refl _) (by unfold maxLen;omega)
   have hT:=zAf _ s s _ _ (by omega) hN
   have hle:=zCa (segW (zUg x d s 0) 0 s) s
   have HV:Hid (val (segW (zUg x d s 0) 0 s) (sizeL (segW (zUg x d s 0) 0 s) s)=val x s/d):=by
    show _=_
    rw [zMa,zKa (y:=quoW x d s) s fun i hi=>by rw [zBb _ _ _ i hi,Nat.zero_add];unfold zUg;rw [if_pos (by omega)],hqv.1]
   have HR:Hid (remJ x d s s=val x s%d):=hqv.2
   have HBr:Hid (Below w.heap.size w wr):=HB.out.trans (hU.below (Nat.le_refl _))
   have HST:Hid (sizeL (segW (zUg x d s 0) 0 s) (sizeL (segW (zUg x d s 0) 0 s) s)=sizeL (segW (zUg x d s 0) 0 s) s):=zGa _ _
   generalize segW (zUg x d s 0) 0 s=qz at *
   generalize sizeL qz s=k1 at *
   have hof:=fun wr=>zL9 (remJ x d s s) wr (by omega)
   rw [Nat.sub_zero]
   generalize remJ x d s s=rm at *
   clear hN hO hU H hqv
   go_wp2_with (go_at_call 128;refine hT.mono ?_;rintro e w1 ⟨g,cap,rfl,hN1,hB1,hG1⟩;clear hT)
   go_wp2_with (go_at_call 193;refine (hof _).mono ?_;rintro e w2 ⟨g2,k2,p2,z2,rfl,hk2,hN2,hv2,hB2,hS2⟩;clear hof)
   go_ret2
   exact ⟨g,k1,cap,qz,g2,k2,p2,z2,rfl,hle,hk2,hN1.next hB2,hN2,HV.out,HST.out,by rw [hv2,HR.out],hS2,(HBr.out.trans (hB1.mono HBr.out.size)).trans (hB2.mono (Nat.le_trans HBr.out.size hB1.size)),Nat.le_trans HBr.out.size hG1⟩
  ·obtain ⟨j,rfl⟩:∃ j,k=j+1:=⟨k-1,by omega⟩
   have hjm:(j:Int)<s:=by omega
   have ej:((j+1:Nat):Int)-1=j:=by omega
   have ej2:s-(j+1)=s-1-j:=by omega
   rw [ej,ej2]
   obtain ⟨b,off,rfl,hbs,hc⟩:=(hU.num' hA hnx).cells (by omega)
   have hcx:=hc j (by omega)
   have hcj:∃ u,wr.cell? ⟨w.heap.size,j,none⟩=some (.int .u64 u):=⟨_,hO.cell j (by omega)⟩
   obtain ⟨u,hcj⟩:=hcj
   have hfj:=hO.frozen j
   have HJ:=H j (by omega)
   have HO:Hid (Own w.heap.size s (zUg x d s j) (wr.setCell ⟨w.heap.size,j,none⟩ (.int .u64 (quoW x d s j)))):=(hO.set j (quoW x d s j)).congr fun i hi=>by
    unfold zUg
    by_cases e:i=j
    ·subst e;rw [if_pos rfl,if_pos (by omega)]
    ·rw [if_neg e]
     by_cases e2:j+1<=i/\i<s
     ·rw [if_pos e2,if_pos (by omega)]
     ·rw [if_neg e2,if_neg (by omega)]
   have HU:Hid (Upd w.heap.size wA (wr.setCell ⟨w.heap.size,j,none⟩ (.int .u64 (quoW x d s j)))):=hU.set j _
   clear hO hU H ej ej2 hc hqv hA hnx
   go_wp2_with (go_at_call 170;refine (HJ _).mono ?_;rintro e w' ⟨rfl,m',rfl⟩)
   go_roundw
   case rel=>exact ⟨j,by omega,by go_num,rfl,HO.out,HU.out.drewN m'⟩
   case measure=>simp [intOf]
theorem zZn (ga gb s c c':Nat)(x y:Nat->Int)(w:World)(hs:s<20001)(h:Num w (some ⟨ga,0,none⟩) s c x)(h':Num w (some ⟨gb,0,none⟩) 1 c' y)(hys:sizeL y 1=1) :
  Calls Tryz.prog 92 #[.slice (some ⟨ga,0,none⟩) s c,.slice (some ⟨gb,0,none⟩) 1 c'] w fun e w'=>∃ g k cap z g' k' cap' z',e=.returned (.tuple #[.slice (some ⟨g,0,none⟩) k cap,.slice (some ⟨g',0,none⟩) k' cap'])/\k<=s/\k'<=1/\Num w' (some ⟨g,0,none⟩) k cap z/\Num w' (some ⟨g',0,none⟩) k' cap' z'/\val z k=val x s/val y 1/\sizeL z k=k/\val z' k'=val x s%val y 1/\sizeL z' k'=k'/\Below w.heap.size w w'/\w.heap.size<=g:=by
 have hy:=h'.2.2.1
 have c31:=zHr _ 1 c' y w (by omega) h'
 rw [hys] at c31
 have hy0:y 0≠0:=by have:=zVc (x:=y) 1 (by omega);rw [hys] at this;exact this
 have hyb:=hy 0
 have ev:val y 1=y 0:=by simp [val]
 have c107:=zQ8 (some ⟨ga,0,none⟩) s c x (y 0) w (by omega) h (by omega)
 have hc:gb<w.heap.size/\w.cell? ⟨gb,0,none⟩=some (.int .u64 (y 0)):=by
  rcases h'.2.2.2.2 with ⟨h,_⟩|⟨b',off',h,hbs,hc⟩
  ·cases h
  ·cases h;exact ⟨hbs,hc 0 (by omega)⟩
 obtain ⟨hgb,hcc⟩:=hc
 rw [ev]
 clear h h'
 go_enter Tryz.func92,Tryz.ntmps92
 go_wp2_with (first|(go_at_call 134;refine c31.mono ?_;rintro e w' ⟨rfl,rfl⟩)|(go_at_call 156;refine c107.mono ?_;rintro e w1 ⟨g,k,cap,z,g',k',cap',z',rfl,hk,hk',hN,hN',hv,hs1,hv',hs2,hB,hG⟩))
 go_ret2
 exact ⟨g,k,cap,z,g',k',cap',z',rfl,hk,hk',hN,hN',hv,hs1,hv',hs2,hB,hG⟩
theorem zA3 {K N D:Nat}{vn vd:Value}{w:World}(hK:K<=20000)(h:NT K N vn w)(h':NT 1 D vd w)(hD:D≠0) :
  Calls Tryz.prog 92 #[vn,vd] w fun e w'=>∃ g k cap r,e=.returned (.tuple #[.slice (some ⟨g,0,none⟩) k cap,r])/\w.heap.size<=g/\NT K (N/D) (.slice (some ⟨g,0,none⟩) k cap) w'/\NT 1 (N%D) r w'/\Below w.heap.size w w':=by
 obtain ⟨ga,s,c,x,rfl,hs,hN,hx,hxs⟩:=h
 obtain ⟨gb,t,c',y,rfl,ht,hN',hy,hys⟩:=h'
 have ht1:t=1:=by
  rcases Nat.eq_zero_or_pos t with e|e
  ·subst e
   have:val y 0=0:=rfl
   omega
  ·omega
 subst ht1
 refine (zZn ga gb s c c' x y w (by omega) hN hN' hys).mono ?_
 rintro e w' ⟨g,k,cap,z,g',k',cap',z',e1,hk,hk',hA,hB,hv,hs1,hv',hs2,hb,hg⟩
 refine ⟨g,k,cap,_,e1,hg,⟨g,k,cap,z,rfl,by omega,hA,?_,hs1⟩,⟨g',k',cap',z',rfl,hk',hB,?_,hs2⟩,hb⟩
 ·rw [hv,hx,hy];rfl
 ·rw [hv',hx,hy];rfl
def OvNew (X Y:Int)(w:World)(e:Ending)(w':World):Prop :=
 ∃ g k cap z g' k' cap' z',e=.returned (.tuple #[.slice (some ⟨g,0,none⟩) k cap,.slice (some ⟨g',0,none⟩) k' cap'])/\k<=41000/\k'<=41000/\Num w' (some ⟨g,0,none⟩) k cap z/\Num w' (some ⟨g',0,none⟩) k' cap' z'/\val z k=X/Y/\val z' k'=X%Y/\Below w.heap.size w w'/\sizeL z' k'=k'/\w.heap.size<=g
theorem zJx (ga gb s c t c':Nat)(x y:Nat->Int)(w:World)(hs:s<=20000)(ht2:t<=20000)(ht:2<=t)(h:Num w (some ⟨ga,0,none⟩) s c x)(h':Num w (some ⟨gb,0,none⟩) t c' y)(hxs:sizeL x s=s)(hys:sizeL y t=t) :
  Calls Tryz.prog 92 #[.slice (some ⟨ga,0,none⟩) s c,.slice (some ⟨gb,0,none⟩) t c'] w (OvNew (val x s) (val y t) w):=by
 have hx:=h.2.2.1
 have hy:=h'.2.2.1
 have HXS:Hid (sizeL x s=s):=hxs
 have c31:=zHr _ t c' y w (by omega) h'
 rw [hys] at c31
 have c20:=zGj _ s c x w (by omega) h
 have c20':=zGj _ t c' y w (by omega) h'
 have c45:=zHc _ s c x w (by omega) h
 rw [hxs] at c45
 have hlx:0<=lenL x s/\lenL x s<=64*s:=by
  unfold lenL;rw [hxs]
  split
  ·omega
  ·have:=zSf (x (s-1)).toNat;omega
 have hY0:0<val y t:=zKp hy t (by omega) hys
 have hX0:=(zVa hx s).1
 obtain ⟨Ly,hLy,hy1,hy2⟩:=zHl hy (n:=t) (by omega)
 have hne:((t:Int)==1)=false:=by simp;omega
 -- the number below the divisor times 2^(far + 1)
 have key:∀ F:Int,lenL x s-lenL y t=F->(F<0->val x s<val y t)/\(0<=F->val x s<val y t*2^(F.toNat+1)):=by
  intro F hF
  rcases Nat.eq_zero_or_pos s with h0|h0
  ·subst h0
   have e0:val x 0=0:=rfl
   refine ⟨fun _=>by rw [e0];exact hY0,fun _=>by rw [e0];exact Int.mul_pos hY0 (zEc _)⟩
  ·obtain ⟨Lx,hLx,hx1,hx2⟩:=zHl hx (n:=s) (by omega)
   have mono:∀ a b:Nat,a<=b->(2:Int)^a<=2^b:=fun a b hab=>by
    obtain ⟨k,rfl⟩:∃ k,b=a+k:=⟨b-a,by omega⟩
    rw [Int.pow_add]
    have:=zEc a
    have h3:=zEc k
    have:(2:Int)^a*1<=2^a*2^k:=Int.mul_le_mul_of_nonneg_left (by omega) (by omega)
    omega
   refine ⟨fun hneg=>?_,fun hpos=>?_⟩
   ·have:=mono (Lx+1) Ly (by omega);omega
   ·have e1:Lx+1=Ly+(F.toNat+1):=by omega
    have h5:2^Ly*2^(F.toNat+1)<=val y t*2^(F.toNat+1):=Int.mul_le_mul_of_nonneg_right hy1 (Int.le_of_lt (zEc _))
    rw [← Int.pow_add,← e1] at h5
    omega
 have hlyb:0<=lenL y t/\lenL y t<=64*t:=by
  unfold lenL;rw [hys]
  split
  ·omega
  ·have:=zSf (y (t-1)).toNat;omega
 obtain ⟨F,hF⟩:∃ F,lenL x s-lenL y t=F:=⟨_,rfl⟩
 have hk:=key F hF
 have hFb:F<=1280000:=by omega
 generalize lenL x s=LX at *
 generalize lenL y t=LY at *
 have HXN:Hid (Num w (some ⟨ga,0,none⟩) s c x):=h
 have HYN:Hid (Num w (some ⟨gb,0,none⟩) t c' y):=h'
 clear key h h' hy1 hy2 hLy hx hy
 obtain ⟨X,hX⟩:∃ X,val x s=X:=⟨_,rfl⟩
 obtain ⟨Y,hY⟩:∃ Y,val y t=Y:=⟨_,rfl⟩
 rw [hX,hY] at hk
 rw [hX] at hX0
 rw [hY] at hY0
 rw [hX,hY]
 have HX:Hid (val x s=X):=hX
 have HY:Hid (val y t=Y):=hY
 clear hX hY
 by_cases hneg:F<0
 ·have hXY:=hk.1 hneg
  have HV:Hid (X/Y=0/\X%Y=X):=⟨Int.ediv_eq_zero_of_lt hX0 hXY,Int.emod_eq_of_lt hX0 hXY⟩
  have HF:Hid (LX-LY=F):=hF
  have hFn:LX-LY<0:=by omega
  clear hk hF
  go_enter Tryz.func92,Tryz.ntmps92
  go_wp2_with (first|(go_at_call 134;refine c31.mono ?_;rintro e w' ⟨rfl,rfl⟩)|(go_at_call_of 69 (Value.slice (some ⟨ga,0,none⟩) s c);refine c20.mono ?_;rintro e w' ⟨rfl,rfl⟩;clear c20)|(go_at_call_of 69 (Value.slice (some ⟨gb,0,none⟩) t c');refine c20'.mono ?_;rintro e w' ⟨rfl,rfl⟩)|(go_at_call 128;refine c45.mono ?_;rintro e w1 ⟨g1,p1,rfl,hN1,hB1⟩))
  go_ret2
  have hb:=zEa w1 (.cells #[] 22)
  exact ⟨w1.heap.size,0,0,fun _=>0,g1,s,p1,x,rfl,by omega,by omega,⟨Nat.le_refl _,by unfold maxLen;omega,fun _=>(by decide:(0:Int)<=0/\(0:Int)<=18446744073709551615),fun _ _=>rfl,Or.inr ⟨w1.heap.size,0,rfl,by simp,fun i hi=>by omega⟩⟩,hN1.next hb,by rw [HV.out.1];rfl,by rw [HV.out.2];exact HX.out,hB1.trans (hb.mono hB1.size),HXS.out,hB1.size⟩
 ·obtain ⟨N,rfl⟩:=Int.eq_ofNat_of_zero_le (show 0<=F by omega)
  have hXb:=hk.2 (by omega)
  rw [Int.toNat_natCast] at hXb
  obtain ⟨m0,hm0⟩:∃ m0:Nat,(N:Int)/64=m0:=⟨N/64,by omega⟩
  have hmk:=fun w=>zAb ((m0:Int)+1) (m0+1) (by omega) (by omega) w
  have hm0b:m0<=20000:=by omega
  have hm0n:m0=N/64:=by omega
  have HM0:Hid (m0=N/64):=hm0n
  clear hk hm0n
  go_enter Tryz.func92,Tryz.ntmps92
  go_wp2_with (first|(go_at_call 134;refine c31.mono ?_;rintro e w' ⟨rfl,rfl⟩)|(go_at_call_of 69 (Value.slice (some ⟨ga,0,none⟩) s c);refine c20.mono ?_;rintro e w' ⟨rfl,rfl⟩;clear c20)|(go_at_call_of 69 (Value.slice (some ⟨gb,0,none⟩) t c');refine c20'.mono ?_;rintro e w' ⟨rfl,rfl⟩)|(go_at_call 128;refine c45.mono ?_;rintro e w1 ⟨g1,p1,rfl,hN1,hB1⟩))
  have hb1:=zEa w1 (.cells (arrOf (fun _=>0) (m0+1)) 22)
  have hBq:=hB1.trans (hb1.mono hB1.size)
  have c49:=zPo gb 0 t c' N y _ (by omega) (by omega) (by omega) (HYN.out.next hBq)
  rw [Int.toNat_natCast,HY.out] at c49
  have hO0:=Own.new w1 (fun _=>0) (m0+1)
  have hg1lt:g1<w1.heap.size:=by
   rcases hN1.2.2.2.2 with ⟨h,_⟩|⟨b,off,h,hb,_⟩
   ·cases h
   ·cases h;exact hb
  have hsz:(w1.alloc (.cells (arrOf (fun _=>0) (m0+1)) 22)).heap.size=w1.heap.size+1:=by simp
  go_wp2_with (go_at_call 87;refine c49.mono ?_;rintro e w2 ⟨g2,k2,p2,z2,rfl,hk2,hN2,hv2,hb2,hf2,htr2⟩;clear c49 htr2)
  rw [hsz] at hf2 hb2
  have hB2:=hBq.trans (hb2.mono (by have:=hB1.size;omega))
  have hNr:=(hN1.next hb1).next (by rw [hsz];exact hb2)
  have hO2:=Below.own hb2 (by omega) hO0
  generalize hgq:w1.heap.size=gq at *
  have hBsz:=hB1.size
  have HGq:Hid (w.heap.size<=gq):=by show _<=_;omega
  have hgq2:gq<w2.heap.size:=by have:=hb2.size;omega
  clear hN1 hB1 hb1 hBq hO0 hb2 hsz hBsz hgq
  go_loopw [7,9,10,65] (fun rv dv iv u65 wr=>∃ (k g1 k1 p1 g2 k2 p2:Nat) (z1 z2 q:Nat->Int),k<=N+1/\iv=.int .i64 ((k:Int)-1)/\rv=.slice (some ⟨g1,0,none⟩) k1 p1/\dv=.slice (some ⟨g2,0,none⟩) k2 p2/\k1<=40002/\k2<=40002/\g1≠gq/\g2≠gq/\gq<wr.heap.size/\Num wr (some ⟨g1,0,none⟩) k1 p1 z1/\Num wr (some ⟨g2,0,none⟩) k2 p2 z2/\Own gq (m0+1) q wr/\zDa q/\Hid (val q (m0+1)*Y+val z1 k1=X)/\Hid (val z1 k1<Y*2^k)/\Hid (0<k->val z2 k2=Y*2^(k-1))/\Hid (val q (m0+1)%2^k=0)/\Hid (sizeL z1 k1=k1)/\Below w.heap.size w wr) (fun _ _ iv _ _=>(intOf iv+1).toNat)
  case atStart=>exact ⟨N+1,g1,s,p1,g2,k2,p2,x,z2,fun _=>0,Nat.le_refl _,by go_num,rfl,rfl,by omega,by omega,by omega,by omega,hgq2,hNr,hN2,hO2,fun _=>(by decide:(0:Int)<=0/\(0:Int)<=18446744073709551615),by show _=_;rw [zDj,Int.zero_mul,Int.zero_add,HX.out],by show _<_;rw [HX.out];exact hXb,fun _=>hv2,by show _=_;rw [zDj];exact Int.zero_emod _,HXS,hB2⟩
  case round =>
   clear hNr hN2 hO2 hB2 hv2 hk2 hf2 hg1lt hgq2 hXb c31 c20' c45
   obtain ⟨k,g1,k1,p1,g2,k2,p2,z1,z2,q,hk,rfl,rfl,rfl,hk1,hk2,hg1,hg2,hgq,hN1,hN2,hO,hqw,hv,hlt,hd,hmod,htr,hB⟩:=hrel
   by_cases h0:k=0
   ·subst h0
    have hQN:=hO.num hqw 0 (m0+1) (m0+1) (by omega) (Nat.le_refl _) (by unfold maxLen;omega)
    have c45:=zAf _ (m0+1) (m0+1) _ _ (by omega) hQN
    have hle:=zCa (segW q 0 (m0+1)) (m0+1)
    have e1:val (segW q 0 (m0+1)) (sizeL (segW q 0 (m0+1)) (m0+1))=val q (m0+1):=by
     rw [zMa];exact zKa _ fun i hi=>by rw [zBb _ _ _ i hi,Nat.zero_add]
    have HFIN:Hid (val (segW q 0 (m0+1)) (sizeL (segW q 0 (m0+1)) (m0+1))=X/Y/\val z1 k1=X%Y):=by
     have h1:=hv.out
     have h2:=hlt.out
     rw [Int.pow_zero,Int.mul_one] at h2
     have:=(Int.ediv_emod_unique hY0 (a:=X) (r:=val z1 k1) (q:=val q (m0+1))).2 ⟨by rw [Int.mul_comm];omega,(zVa hN1.2.2.1 k1).1,h2⟩
     exact ⟨by rw [e1];exact this.1.symm,this.2.symm⟩
    have HN1:Hid (Num wr (some ⟨g1,0,none⟩) k1 p1 z1):=hN1
    generalize segW q 0 (m0+1)=qz at *
    generalize sizeL qz (m0+1)=kq at *
    clear hQN hO hqw hv hlt hd hmod hN1 hN2 e1
    go_wp2_with (go_at_call 128;refine c45.mono ?_;rintro e w3 ⟨g3,p3,rfl,hN3,hB3,hG3⟩)
    go_ret2
    exact ⟨g3,kq,p3,qz,g1,k1,p1,z1,rfl,by omega,by omega,hN3,HN1.out.next hB3,HFIN.out.1,HFIN.out.2,hB.trans (hB3.mono hB.size),htr.out,Nat.le_trans hB.size hG3⟩
   ·obtain ⟨j,rfl⟩:∃ j,k=j+1:=⟨k-1,by omega⟩
    have ej:((j+1:Nat):Int)-1=j:=by omega
    rw [ej]
    have hdv:val z2 k2=Y*2^j:=hd.out (by omega)
    have hT:=zEc j
    have hdp:0<val z2 k2:=by rw [hdv];exact Int.mul_pos hY0 hT
    have hk2p:=zH9 hdp
    have c16:=zOr _ _ k1 p1 k2 p2 z1 z2 wr (by omega) (by omega) hN1 hN2
    have HLT:Hid (val z1 k1<Y*2^j*2):=by show _<_;have:=hlt.out;rw [Int.pow_succ,← Int.mul_assoc] at this;exact this
    have HMOD:Hid (val q (m0+1)%(2^j*2)=0):=by show _=_;have:=hmod.out;rw [Int.pow_succ] at this;exact this
    have HMODF:Hid (val q (m0+1)%2^(j+1)=0):=hmod
    have HN':Hid (∀ (z':Nat->Int) (k':Nat),(∀ V,val z2 k2=V*2->val z' k'=V)->0<j->val z' k'=Y*2^(j-1)):=fun z' k' hh hj=>hh _ (by rw [hdv,Int.mul_assoc,← Int.pow_succ];congr 2;omega)
    have HJ:Hid (j<=N):=by show _<=_;omega
    clear ej hd hlt hmod
    by_cases hge:Y*2^j<=val z1 k1
    ·have hsg:0<=sgn (val z1 k1) (val z2 k2):=by unfold sgn;rw [if_neg (by omega)];split<;>omega
     have c37:=zRu _ _ k1 p1 k2 p2 z1 z2 wr (by omega) (by omega) hN1 hN2 (by rw [hdv];exact hge)
     generalize sgn (val z1 k1) (val z2 k2)=sg at *
     obtain ⟨m,hmj⟩:∃ m:Nat,(j:Int)/64=m:=⟨j/64,by omega⟩
     obtain ⟨r,hrj⟩:∃ r:Nat,(j:Int)%64=r:=⟨j%64,by omega⟩
     have hr64:r<64:=by omega
     have hjm:j=64*m+r:=by omega
     have hmm:m<m0+1:=by have:=HJ.out;have:=HM0.out;omega
     have hmi:(m:Int)<((m0+1:Nat):Int):=by omega
     have hob:=or_bit (hqw m) hr64 (zD1 hqw hmm (show r+1<=64 by omega) (by have:=HMODF.out;rw [hjm] at this;exact this))
     have HOR:Hid (bits BinOp.or IntKind.u64 (q m) (2^r)=q m+2^r):=hob.1
     have hpr:=zEc r
     have hpl:=zAq hr64
     have HQ2:Hid (val (fun i=>if i=m then q m+2^r else q i) (m0+1)=val q (m0+1)+2^j):=by
      show _=_
      rw [zKe q m (q m+2^r) (m0+1) hmm]
      have e9:(2:Int)^j=2^r*18446744073709551616^m:=by rw [p64,← hjm]
      rw [e9];congr 1;congr 1;omega
     have HQW2:Hid (zDa (fun i=>if i=m then q m+2^r else q i)):=zGc hqw ⟨by have:=hqw m;omega,hob.2⟩
     have bq:=hqw m
     have HO:Hid (Own gq (m0+1) q wr):=hO
     have HN2:Hid (Num wr (some ⟨g2,0,none⟩) k2 p2 z2):=hN2
     have hob2:=hob.2
     have HD:Hid (val z2 k2=Y*2^j):=hdv
     clear hN1 hN2 hO hqw hob hjm HMODF
     go_wp2_with (first|(go_at_call 88;refine c16.mono ?_;rintro e w' ⟨rfl,rfl⟩)|(go_at_call 126;refine c37.mono ?_;rintro e w3 ⟨g3,k3,p3,z3,rfl,hk3,hN3,hv3,hb3,hf3,htr3⟩;have HT3:Hid (sizeL z3 k3=k3):=htr3;clear htr3;have hO3:=Below.own hb3 hgq HO.out;have hcq:=hO3.cell m hmm;have hfq:=hO3.frozen m))
     have hU3:Upd gq w3 (w3.setCell ⟨gq,m,none⟩ (.int .u64 (bits BinOp.or IntKind.u64 (q m) (2^r)))):=(Upd.refl gq w3).set m _
     have hO4:=hO3.set m (q m+2^r)
     rw [← HOR.out] at hO4
     have hN24:=hU3.num hg2 (HN2.out.next hb3)
     have hN34:=hU3.num (by omega) hN3
     have hB3:=(hB.trans (hb3.mono hB.size)).trans (hU3.below HGq.out)
     have hsz3:w3.heap.size<=(w3.setCell ⟨gq,m,none⟩ (.int .u64 (bits BinOp.or IntKind.u64 (q m) (2^r)))).heap.size:=Nat.le_of_eq hU3.size.symm
     have hgq3:=hb3.size
     have c51:=zJs g2 k2 p2 z2 _ hk2p (by omega) hN24
     clear hO3 hN3 hN24 hU3 hb3
     generalize w3.setCell ⟨gq,m,none⟩ (.int .u64 (bits BinOp.or IntKind.u64 (q m) (2^r)))=wS at *
     go_wp2_with (go_at_call 93;refine c51.mono ?_;rintro e w4 ⟨g4,k4,p4,bb,z4,rfl,hk4,hN4,hhf,hb4,hf4⟩)
     have hgS:gq<wS.heap.size:=by omega
     go_roundw
     case rel =>
      refine ⟨j,g3,k3,p3,g4,k4,p4,z3,z4,fun i=>if i=m then q m+2^r else q i,by have:=HJ.out;omega,by go_num,rfl,rfl,by omega,by omega,by omega,by omega,by have:=hb4.size;omega,hN34.next hb4,hN4,?_,HQW2.out,?_,?_,fun hj=>HN'.out z4 k4 hhf hj,?_,HT3,hB3.trans (hb4.mono hB3.size)⟩
      ·have:=Below.own hb4 hgS hO4
       rw [HOR.out] at this
       exact this
      ·show _=_
       rw [HQ2.out,hv3,HD.out,Int.add_mul,Int.mul_comm (2^j) Y]
       have:=hv.out
       omega
      ·show _<_
       rw [hv3,HD.out]
       have:=HLT.out
       omega
      ·show _=_
       rw [HQ2.out,Int.add_emod_right]
       exact zZr HMOD.out
     case measure=>simp [intOf]
    ·have hs1:sgn (val z1 k1) (val z2 k2)=-1:=by unfold sgn;rw [if_pos (by omega)]
     rw [hs1] at c16
     have c51:=zJs g2 k2 p2 z2 wr hk2p (by omega) hN2
     have HN1:Hid (Num wr (some ⟨g1,0,none⟩) k1 p1 z1):=hN1
     have HO:Hid (Own gq (m0+1) q wr):=hO
     have HQW:Hid (zDa q):=hqw
     clear hN1 hN2 hO hqw hs1
     go_wp2_with (first|(go_at_call 88;refine c16.mono ?_;rintro e w' ⟨rfl,rfl⟩)|(go_at_call 93;refine c51.mono ?_;rintro e w4 ⟨g4,k4,p4,bb,z4,rfl,hk4,hN4,hhf,hb4,hf4⟩))
     go_roundw
     case rel=>exact ⟨j,g1,k1,p1,g4,k4,p4,z1,z4,q,by have:=HJ.out;omega,by go_num,rfl,rfl,hk1,by omega,hg1,by omega,by have:=hb4.size;omega,HN1.out.next hb4,hN4,Below.own hb4 hgq HO.out,HQW.out,hv,by show _<_;omega,fun hj=>HN'.out z4 k4 hhf hj,zZr HMOD.out,htr,hB.trans (hb4.mono hB.size)⟩
     case measure=>simp [intOf]
theorem zS2 (b off n c q r:Nat)(s:Int)(x:Nat->Int)(w:World)(hn:n<4000000000)(hq0:q<100000)(hr0:r<64)(hrp:0<r)(hq:s/64=q)(hr:s%64=r)(hs:0<=s)(h:Num w (some ⟨b,off,none⟩) n c x) :
  Calls Tryz.prog 93 #[.slice (some ⟨b,off,none⟩) n c,.int .i64 s] w fun e w'=>∃ g k cap z,e=.returned (.tuple #[.slice (some ⟨g,0,none⟩) k cap,.bool z])/\k<=n/\Num w' (some ⟨g,0,none⟩) k cap (zAc x q r)/\Below w.heap.size w w'/\w.heap.size<=g:=by
 have hx:=h.2.2.1
 have zx:=h.2.2.2.1
 have hc:b<w.heap.size/\∀ i,i<n->w.cell? ⟨b,off+i,none⟩=some (.int .u64 (x i)):=by
  rcases h.2.2.2.2 with ⟨h,_⟩|⟨b',off',h,hbs,hc⟩
  ·cases h
  ·cases h;exact ⟨hbs,hc⟩
 obtain ⟨hbs,hc⟩:=hc
 have hcap:=h.1
 have hs6:s<6400064:=by omega
 obtain ⟨i0,hi,hz0,hz1,hz2⟩:=info_parts Tryz.info22
 have HX:Hid (Num w (some ⟨b,off,none⟩) n c x):=h
 clear h
 go_enter Tryz.func93,Tryz.ntmps93
 go_wp2
 go_loop [6,7,13] (fun g u7 i=>∃ (k:Nat) (z:Bool),k<=n/\i=.int .i64 k/\g=.bool z) (fun _ _ i=>n-(intOf i).toNat)
 case atStart=>exact ⟨0,false,Nat.zero_le _,rfl,rfl⟩
 case round =>
  obtain ⟨k,z,hk,rfl,rfl⟩:=hrel
  by_cases h8:k<n
  ·have h8i:(k:Int)<n:=by omega
   by_cases hkq:k<q
   ·have bx:=hx k
    have hcx:=hc k h8
    clear hc hx zx hi hz0 hz1 hz2
    have hkq':(k:Int)<q:=by omega
    by_cases hz:x k=0
    ·have hz':(x k != 0)=false:=by simp [hz]
     have hne:((k:Int)==q)=false:=by simp;omega
     go_wp2
     go_round
     case rel=>exact ⟨k+1,z,by omega,by go_num,rfl⟩
     case measure=>simp [intOf];omega
    ·have hz':(x k != 0)=true:=by simp [hz]
     go_wp2
     go_round
     case rel=>exact ⟨k+1,true,by omega,by go_num,rfl⟩
     case measure=>simp [intOf];omega
   ·have hkq':¬ (k:Int)<q:=by omega
    by_cases hke:k=q
    ·subst hke
     have bx:=hx k
     have hcx:=hc k h8
     clear hc hx zx hi hz0 hz1 hz2
     go_wp2
     all_goals
      go_round
      case rel=>first|exact ⟨k+1,true,by omega,by go_num,rfl⟩|exact ⟨k+1,z,by omega,by go_num,rfl⟩
      case measure=>simp [intOf];omega
    ·have hcx:=hc k h8
     clear hc hx zx hi hz0 hz1 hz2
     have hne:((k:Int)==q)=false:=by simp;omega
     go_wp2
     go_round
     case rel=>exact ⟨k+1,z,by omega,by go_num,rfl⟩
     case measure=>simp [intOf];omega
  ·obtain rfl:k=n:=by omega
   go_wp2
   go_loopw [8,9,10] (fun v i u10 wr=>∃ (j:Nat) (ao:Option Addr) (cp:Nat),j<=k-q/\i=.int .i64 ((q:Int)+j)/\v=.slice ao j cp/\wr.ownsRow w.heap.size 22 1 (.slice ao j cp) j (wl (zAc x q r) j)/\Below w.heap.size w wr) (fun _ i _ _=>k+1-(intOf i).toNat)
   case atStart=>exact ⟨0,none,0,Nat.zero_le _,by go_num,rfl,World.ownsRow_nil _ _ _ _,Below.refl _ _⟩
   case round =>
    obtain ⟨j,ao,cp,hj,rfl,rfl,hown,hB⟩:=hrel
    by_cases hlt:q+j<k
    ·have hlt':(q:Int)+j<k:=by omega
     have bx:=hx (q+j)
     have b_y:=hx (q+j+1)
     have e1:((q:Int)+j).toNat=q+j:=by omega
     have hcx:wr.cell? ⟨b,off+(q+j),none⟩=some (.int .u64 (x (q+j))):=(hB.cell (p:=⟨b,off+(q+j),none⟩) hbs).trans (hc (q+j) hlt)
     have HW:Hid (CQ 127 #[.slice (some ⟨b,off,none⟩) k c,.int .i64 ((q:Int)+j+1)] wr (.int .u64 (x (q+j+1)))):=by
      have:=zJb (some ⟨b,off,none⟩) k c (q+j+1) x wr (HX.out.next hB)
      rw [show ((q+j+1:Nat):Int)=(q:Int)+j+1 by omega] at this
      exact this.mono fun _ _ h=>⟨h.1,h.2.symm⟩
     have hbw:=hB.size
     have HO:Hid (wr.ownsRow w.heap.size 22 1 (.slice ao j cp) j (wl (zAc x q r) j)):=hown
     have HVAL:Hid (zAc x q r j=bits BinOp.or IntKind.u64 (x (q+j)/2^r) (IntKind.u64.wrap (x (q+j+1)*2^(64-r)))):=by show _=_;unfold zAc;rw [if_neg (by omega)];rfl
     have HOWN:(wr.alloc (.cells #[.int .u64 (bits BinOp.or IntKind.u64 (x (q+j)/2^r) (IntKind.u64.wrap (x (q+j+1)*2^(64-r))))] 22)).ownsRow w.heap.size 22 1 (.slice ao j cp) j (wl (zAc x q r) j):=hown.alloc _
     have HNEWS:∀ (p:Nat) (u:Value),[Value.int .u64 (bits BinOp.or IntKind.u64 (x (q+j)/2^r) (IntKind.u64.wrap (x (q+j+1)*2^(64-r))))][p]?=some u->(wr.alloc (.cells #[.int .u64 (bits BinOp.or IntKind.u64 (x (q+j)/2^r) (IntKind.u64.wrap (x (q+j+1)*2^(64-r))))] 22)).cell? ((⟨wr.heap.size,0,none⟩:Addr).add p)=some u:=by
      intro p u hp
      match p,hp with
      | 0,hp=>simp at hp;subst hp;simp [Addr.add]
     have HONE:∀ u ∈ [Value.int .u64 (bits BinOp.or IntKind.u64 (x (q+j)/2^r) (IntKind.u64.wrap (x (q+j+1)*2^(64-r))))],u.oneCell'=true:=by
      intro u hu;simp at hu;subst hu;rfl
     clear hc hx zx hown
     go_wp2_with (first|(at_builtin;refine wpList_append_lies _ rfl (.tmp 77) (.tmp 79) 61 rfl w.heap.size 22 i0 (.int .u64 0) 1 8 Tryz.underlying61 hi hz0 hz1 hz2 rfl (by decide) (.slice ao j cp) j (wl (zAc x q r) j) rfl HOWN ⟨wr.heap.size,0,none⟩ 1 1 [Value.int .u64 (bits BinOp.or IntKind.u64 (x (q+j)/2^r) (IntKind.u64.wrap (x (q+j+1)*2^(64-r))))] rfl rfl HNEWS HONE (by omega) (by unfold maxLen;omega) (by omega) (by simp;omega) (wr.heap.size+1) (by simp) ?_;intro g cap w1 hown1 hgrow hat hlt1;clear HOWN HNEWS HONE)|(go_at_call 127;refine HW.out.mono ?_;rintro e w' ⟨rfl,rfl⟩))
     have hown2:w1.ownsRow w.heap.size 22 1 (.slice (some ⟨g,0,none⟩) (j+1) cap) (j+1) (wl (zAc x q r) (j+1)):=by
      rw [← HVAL.out,zYl] at hown1;exact hown1
     have HB2:Below w.heap.size w w1:=(hB.alloc hbw _).grown hgrow (by simp;omega) (by
      intro p hp
      rcases ao with _|⟨bb,oo,sp⟩
      ·cases hp
      ·cases hp
       obtain ⟨_,h1⟩:=HO.out
       rcases h1 with ⟨h1,_⟩|⟨g',_,_,h1,h2,_⟩
       ·cases h1
       ·cases h1;exact h2)
     clear hown1 hgrow
     go_wp2
     go_roundw
     case rel=>exact ⟨j+1,some ⟨g,0,none⟩,cap,by omega,by go_num,rfl,hown2,HB2⟩
     case measure=>simp [intOf];omega
    ·have HZ:∀ i,j<=i->zAc x q r i=0:=fun i hi=>zDe zx q r i (by omega)
     have hT:=zAf ao j cp _ wr (by omega) (zVd (zLd hx q r) HZ hown)
     have hle:=zCa (zAc x q r) j
     have hlt':¬ (q:Int)+j<k:=by omega
     clear hc hx zx hown HZ
     go_wp2_with (go_at_call 128;refine hT.mono ?_;rintro e w1 ⟨g,cap,rfl,hN,hB1,hG1⟩)
     go_ret2
     exact ⟨g,_,cap,_,rfl,by omega,hN,hB.trans (hB1.mono hB.size),Nat.le_trans hB.size hG1⟩
theorem zQw {K N D:Nat}{vn vd:Value}{w:World}(hK:K<=20000)(h:NT K N vn w)(h':NT K D vd w)(hD:D≠0) :
  Calls Tryz.prog 92 #[vn,vd] w fun e w'=>∃ g k cap r,e=.returned (.tuple #[.slice (some ⟨g,0,none⟩) k cap,r])/\w.heap.size<=g/\NV 41000 (N/D) (.slice (some ⟨g,0,none⟩) k cap) w'/\NT 41000 (N%D) r w'/\Below w.heap.size w w':=by
 obtain ⟨ga,s,c,x,rfl,hs,hN,hx,hxs⟩:=h
 obtain ⟨gb,t,c',y,rfl,ht,hN',hy,hys⟩:=h'
 have ht0:t≠0:=by
  intro e;subst e
  have:val y 0=0:=rfl
  omega
 by_cases ht1:t=1
 ·subst ht1
  refine (zZn ga gb s c c' x y w (by omega) hN hN' hys).mono ?_
  rintro e w' ⟨g,k,cap,z,g',k',cap',z',e1,hk,hk',hA,hB,hv,hs1,hv',hs2,hb,hg⟩
  refine ⟨g,k,cap,_,e1,hg,⟨g,k,cap,z,rfl,by omega,hA,?_⟩,⟨g',k',cap',z',rfl,by omega,hB,?_,hs2⟩,hb⟩
  ·rw [hv,hx,hy];rfl
  ·rw [hv',hx,hy];rfl
 ·refine (zJx ga gb s c t c' x y w (by omega) (by omega) (by omega) hN hN' hxs hys).mono ?_
  rintro e w' ⟨g,k,cap,z,g',k',cap',z',e1,hk,hk',hA,hB,hv,hv',hb,htr,hg⟩
  refine ⟨g,k,cap,_,e1,hg,⟨g,k,cap,z,rfl,hk,hA,?_⟩,⟨g',k',cap',z',rfl,hk',hB,?_,htr⟩,hb⟩
  ·rw [hv,hx,hy];rfl
  ·rw [hv',hx,hy];rfl
theorem NV.updV {K V g b k c:Nat}{w w':World}(h:NV K V (.slice (some ⟨b,0,none⟩) k c) w)(hne:b≠g)(hU:Upd g w w'):NV K V (.slice (some ⟨b,0,none⟩) k c) w':=by
 obtain ⟨g',k',c',z,e,hk,hN,hv⟩:=h
 cases e
 exact ⟨b,k,c,z,rfl,hk,hU.num hne hN,hv⟩
theorem zXt {K A:Nat}{v:Value}{w:World}(s:Nat)(hK:K<1000)(hs:s<=600)(hs6:s%64≠0)(h:NV K A v w) :
  Calls Tryz.prog 93 #[v,.int .i64 (s:Int)] w fun e w'=>∃ g k cap b,e=.returned (.tuple #[.slice (some ⟨g,0,none⟩) k cap,.bool b])/\w.heap.size<=g/\NV K (A/2^s) (.slice (some ⟨g,0,none⟩) k cap) w'/\Below w.heap.size w w':=by
 obtain ⟨g,k,cap,z,rfl,hk,hN,hv⟩:=h
 obtain ⟨q,hq⟩:∃ q:Nat,(s:Int)/64=q:=⟨((s:Int)/64).toNat,by omega⟩
 obtain ⟨r,hr⟩:∃ r:Nat,(s:Int)%64=r:=⟨((s:Int)%64).toNat,by omega⟩
 have hsn:s=64*q+r:=by omega
 have hr6:r<64:=by omega
 refine (zS2 g 0 k cap q r s z w (by omega) (by omega) hr6 (by omega) hq hr (by omega) hN).mono ?_
 rintro e w' ⟨g',k',cap',b,rfl,hk',hN',hb,hg⟩
 refine ⟨g',k',cap',b,rfl,hg,⟨g',k',cap',_,rfl,by omega,hN',?_⟩,hb⟩
 rw [← zLa hN'.2.2.2.1 k hk',hsn]
 exact zFm hN.2.2.1 hN.2.2.2.1 hr6 k (Nat.le_refl _) hv
section
attribute [local go_sem] zPa zDb
theorem yDa (x:Nat->Int)(n:Int)(w:World)(hx:zDa x)(hn:0<=n/\n<=18446744073709551615) :
  CB 143 #[.agg (arrOf x 4),.int .u64 n] w (.tuple #[.agg (arrOf (mulP x n) 4),.int .u64 (mulC x n 4)]):=by
 have sx:(arrOf x 4).size=4:=arrOf_size x 4
 have gx:=fun i h=>zIa x 4 i h
 generalize arrOf x 4=ax at *
 go_enter Tryz.func143,Tryz.ntmps143
 go_wp2
 go_loopw [7,15] (fun c i wr=>∃ (k:Nat) (ss:Array Value),k<=4/\i=.int .i64 k/\c=.int .u64 (mulC x n k)/\ss.size=4/\(∀ j h,ss[j]'h=Value.int .u64 (if j<k then mulP x n j else 0))/\wr=((w.alloc (.cells ax 23)).alloc (.cells #[.int .u64 0,.int .u64 0,.int .u64 0,.int .u64 0] 23)).alloc (.cells ss 23)) (fun _ i _=>4-(intOf i).toNat)
 case atStart=>exact ⟨0,_,Nat.zero_le _,rfl,rfl,rfl,by intro j h;have h':j<4:=h;match j,h' with|0,_=>rfl|1,_=>rfl|2,_=>rfl|3,_=>rfl,rfl⟩
 case round =>
  obtain ⟨k,ss,hk,rfl,rfl,hsz,hss,rfl⟩:=hrel
  by_cases h8:k<4
  ·have h8i:(k:Int)<4:=by omega
   have h8s:k<ss.size:=by omega
   have bx:=hx k
   have bc:=zXg hx hn k
   have bc':=zXg hx hn (k+1)
   have hcx:∀ h,ax[k]'h=.int .u64 (x k):=fun h=>gx k h
   have hsk:ss[k]?=some (.int .u64 0):=by rw [Array.getElem?_eq_getElem h8s,hss k h8s,if_neg (by omega)]
   have HR:Hid (∀ (i:Nat) (h:i<(ss.setIfInBounds k (.int .u64 (mulP x n k))).size),(ss.setIfInBounds k (.int .u64 (mulP x n k)))[i]'h=Value.int .u64 (if i<k+1 then mulP x n i else 0)):=zIc hss
   have hmul:=zYx (x k) n bx hn
   have e1:mulC x n (k+1)=x k*n/18446744073709551616+(x k*n%18446744073709551616+mulC x n k)/18446744073709551616:=rfl
   have e2:mulP x n k=(x k*n%18446744073709551616+mulC x n k)%18446744073709551616:=rfl
   rw [e1] at bc'
   have HE1:Hid (mulC x n (k+1)=x k*n/18446744073709551616+(x k*n%18446744073709551616+mulC x n k)/18446744073709551616):=e1
   have HE2:Hid (mulP x n k=(x k*n%18446744073709551616+mulC x n k)%18446744073709551616):=e2
   have hP:0<=x k*n:=Int.mul_nonneg bx.1 hn.1
   clear hss gx e1 e2 hx
   generalize x k*n=P at *
   have hL:0<=P%18446744073709551616:=by omega
   have hH:0<=P/18446744073709551616:=by omega
   generalize P/18446744073709551616=hi at *
   generalize P%18446744073709551616=lo at *
   generalize hCC:mulC x n k=c at *
   have hadd:=fun w=>zJk lo c hL bc.1 w
   go_wp2_with (go_at_call 154;refine (hmul _).mono ?_;rintro e w' ⟨rfl,rfl⟩)
   go_roundw
   case rel=>refine ⟨k+1,ss.setIfInBounds k (.int .u64 (mulP x n k)),by omega,by go_num,by rw [HE1.out],by simp [hsz],HR.out,by rw [HE2.out]⟩
   case measure=>simp [intOf];omega
  ·obtain rfl:k=4:=by omega
   have hss':∀ j h,ss[j]'h=Value.int .u64 (mulP x n j):=by
    intro j h;rw [hss j h,if_pos (by omega)]
   clear hss
   go_wp2
   exact bodyPost_ret (v:=.tuple #[.agg (arrOf (mulP x n) 4),.int .u64 (mulC x n 4)]) (by simp [results,Tryz.results143,go_sem];rfl) rfl ⟨rfl,zYd _ _ _ _ 0⟩
theorem yFa (x:Nat->Int)(d:Int)(w:World)(hd:0<d/\d<=18446744073709551615)
  (H:∀ j,j<4->∀ w,Calls Tryz.prog 170 #[.int .u64 (remJ x d 4 (4-1-j)),.int .u64 (x j),.int .u64 d] w fun e w'=>e=.returned (.tuple #[.int .u64 (quoW x d 4 j),.int .u64 (remJ x d 4 (4-j))])/\∃ m,w'=w.drewN m) :
  CB 230 #[.agg (arrOf x 4),.int .u64 d] w (.tuple #[.agg (arrOf (quoW x d 4) 4),.int .u64 (remJ x d 4 4)]):=by
 have sx:(arrOf x 4).size=4:=arrOf_size x 4
 have gx:=fun i h=>zIa x 4 i h
 have hd0:(d==0)=false:=by simp;omega
 generalize arrOf x 4=ax at *
 go_enter Tryz.func230,Tryz.ntmps230
 go_wp2
 go_loopw [7,8,19] (fun c i u19 wr=>∃ (k m:Nat) (ss:Array Value),k<=4/\i=.int .i64 ((k:Int)-1)/\c=.int .u64 (remJ x d 4 (4-k))/\ss.size=4/\(∀ j h,ss[j]'h=Value.int .u64 (if k<=j then quoW x d 4 j else 0))/\wr=((((w.alloc (.cells ax 23)).alloc (.cells #[.int .u64 0,.int .u64 0,.int .u64 0,.int .u64 0] 23)).alloc (.cells ss 23)).drewN m)) (fun _ i _ _=>(intOf i+1).toNat)
 case atStart=>exact ⟨4,0,_,Nat.le_refl _,rfl,rfl,rfl,by intro j h;have h':j<4:=h;match j,h' with|0,_=>rfl|1,_=>rfl|2,_=>rfl|3,_=>rfl,rfl⟩
 case round =>
  obtain ⟨k,m,ss,hk,rfl,rfl,hsz,hss,rfl⟩:=hrel
  by_cases h0:k=0
  ·subst h0
   have hss':∀ j h,ss[j]'h=Value.int .u64 (quoW x d 4 j):=by
    intro j h;rw [hss j h,if_pos (by omega)]
   clear hss H
   go_wp2
   exact bodyPost_ret (v:=.tuple #[.agg (arrOf (quoW x d 4) 4),.int .u64 (remJ x d 4 4)]) (by simp [results,Tryz.results230,go_sem];rfl) rfl ⟨rfl,zYd _ _ _ _ _⟩
  ·obtain ⟨j,rfl⟩:∃ j,k=j+1:=⟨k-1,by omega⟩
   have hj8:(j:Int)<4:=by omega
   have ej:((j+1:Nat):Int)-1=j:=by omega
   have ej2:4-(j+1)=4-1-j:=by omega
   rw [ej,ej2]
   have hjs:j<ss.size:=by omega
   have hcx:ax[j]?=some (.int .u64 (x j)):=by rw [Array.getElem?_eq_getElem (by omega),gx j (by omega)]
   have HJ:=H j (by omega)
   have hsj:ss[j]?=some (.int .u64 0):=by rw [Array.getElem?_eq_getElem hjs,hss j hjs,if_neg (by omega)]
   have hrel1:=zI2 (k:=j) (f:=quoW x d 4) hss
   have HR:Hid (∀ (i:Nat) (h:i<(ss.setIfInBounds j (.int .u64 (quoW x d 4 j))).size),(ss.setIfInBounds j (.int .u64 (quoW x d 4 j)))[i]'h=Value.int .u64 (if j<=i then quoW x d 4 i else 0)):=hrel1
   clear hss H hrel1 ej ej2
   go_wp2_with (go_at_call 170;refine (HJ _).mono ?_;rintro e w' ⟨rfl,m',rfl⟩)
   go_roundw
   case rel=>exact ⟨j,m+m',ss.setIfInBounds j (.int .u64 (quoW x d 4 j)),by omega,by go_num,rfl,by simp [hsz],HR.out,rfl⟩
   case measure=>simp [intOf]
theorem mul4 (A n:Nat)(w:World)(hA:A<2^256)(hn:n<18446744073709551616) :
  CB 143 #[A4 A,.int .u64 (n:Int)] w (.tuple #[A4 (A*n),.int .u64 ((A*n/2^256:Nat):Int)]):=by
 refine (yDa (W4 A) n w (zJa A) (by omega)).mono ?_
 rintro e w' ⟨rfl,hb⟩
 refine ⟨?_,hb⟩
 have hs:=zXx (W4 A) (n:Int) 4
 have hv:=zVa (zFl (W4 A) (n:Int)) 4
 have hc:=zXg (zJa A) (n:=(n:Int)) (by omega) 4
 rw [zRb hA] at hs
 have e4:(18446744073709551616:Int)^4=115792089237316195423570985008687907853269984665640564039457584007913129639936:=by decide
 have e4n:(2:Nat)^256=115792089237316195423570985008687907853269984665640564039457584007913129639936:=by decide
 have hcast:(A:Int)*(n:Int)=((A*n:Nat):Int):=by simp
 rw [e4,hcast] at hs
 rw [e4] at hv
 rw [e4n]
 generalize A*n=P at *
 rw [zJh (zFl _ _) (A:=P) (by rw [e4n];omega)]
 have:mulC (W4 A) (n:Int) 4=((P/115792089237316195423570985008687907853269984665640564039457584007913129639936:Nat):Int):=by omega
 rw [this]
theorem div4 (A d:Nat)(w:World)(hA:A<2^256)(hd:0<d)(hd':d<18446744073709551616) :
  CB 230 #[A4 A,.int .u64 (d:Int)] w (.tuple #[A4 (A/d),.int .u64 ((A%d:Nat):Int)]):=by
 have hdi:0<(d:Int)/\(d:Int)<=18446744073709551615:=by omega
 refine (yFa (W4 A) d w hdi (fun j hj w=>zWj (W4 A) d 4 (zJa A) hdi j hj w)).mono ?_
 rintro e w' ⟨rfl,hb⟩
 refine ⟨?_,hb⟩
 have hs:=zMq (W4 A) (d:Int) 4 4 (Nat.le_refl _)
 have hr:=zFg (W4 A) (d:Int) 4 4 hdi.1
 obtain ⟨Q,hQ⟩:∃ Q,val (quoW (W4 A) (d:Int) 4) 4=Q:=⟨_,rfl⟩
 rw [zRb hA,hQ] at hs
 simp only [Nat.sub_self,val,Int.zero_add,Int.pow_zero,Int.mul_one,Int.sub_zero] at hs
 generalize hq:remJ (W4 A) (d:Int) 4 4=r at *
 have h1:(A:Int)%(d:Int)=r:=by
  rw [← hs,Int.add_mul_emod_self_left,Int.emod_eq_of_lt hr.1 hr.2]
 have h2:val (quoW (W4 A) (d:Int) 4) 4=(A:Int)/(d:Int):=by
  rw [hQ]
  have:(A:Int)/(d:Int)=r/(d:Int)+Q:=by
   rw [← Int.add_mul_ediv_left r _ (show (d:Int)≠0 by omega)]
   exact congrArg (·/(d:Int)) hs.symm
  rw [this,Int.ediv_eq_zero_of_lt hr.1 hr.2,Int.zero_add]
 have hlt:A/d<2^256:=Nat.lt_of_le_of_lt (Nat.div_le_self _ _) hA
 rw [zJh (zSh (zJa A) hdi.1 4) (A:=A/d) (by rw [h2,Nat.mod_eq_of_lt hlt];simp),← h1]
 simp
end
section
section
attribute [local go_sem] zPa zDb
theorem zIk (w:World)(o1 o2:Obj)(m:Nat):Below w.heap.size w ((((w.alloc o1).alloc o2).drewN m)):=by
 have h:=((Below.refl w.heap.size w).alloc (Nat.le_refl _) o1).alloc (by simp) o2
 exact ⟨h.os,h.tape,h.output,h.size,h.block⟩
theorem zAn {b:Nat}{w w':World}(h:Below b w w')(m:Nat):Below b w (w'.drewN m):=⟨h.os,h.tape,h.output,h.size,h.block⟩
theorem yGa (x y:Nat->Int)(w:World)(hx:zDa x)(hy:zDa y) :
  CB 181 #[.agg (arrOf x 4),.agg (arrOf y 4)] w (.int .i64 (zMg x y 4)):=by
 have sx:(arrOf x 4).size=4:=arrOf_size x 4
 have sy:(arrOf y 4).size=4:=arrOf_size y 4
 have gx:=fun i h=>zIa? x 4 i h
 have gy:=fun i h=>zIa? y 4 i h
 have hx0:=zIa x 4
 have hy0:=zIa y 4
 generalize arrOf x 4=ax at *
 generalize arrOf y 4=ay at *
 go_enter Tryz.func181,Tryz.ntmps181
 go_wp2
 go_loopw [5] (fun t wr=>∃ k m:Nat,k<=4/\zMg x y k=zMg x y 4/\t=.int .i64 ((k:Int)-1)/\wr=(((w.alloc (.cells ax 23)).alloc (.cells ay 23)).drewN m)) (fun t _=>(intOf t+1).toNat)
 case atStart=>exact ⟨4,0,Nat.le_refl _,rfl,rfl,rfl⟩
 case round =>
  obtain ⟨k,m,hk,hs,rfl,rfl⟩:=hrel
  by_cases h0:k=0
  ·subst h0
   have HS:Hid (zMg x y 4=0):=hs.symm
   clear hs
   go_wp2
   go_ret
   exact ⟨zWa HS.out.symm,zIk _ _ _ _⟩
  ·obtain ⟨j,rfl⟩:∃ j,k=j+1:=⟨k-1,by omega⟩
   have ej:((j+1:Nat):Int)-1=j:=by omega
   have hj8:(j:Int)<4:=by omega
   rw [ej]
   have hcx:=gx j (by omega)
   have hcy:=gy j (by omega)
   have hgx:=hx0 j
   have hgy:=hy0 j
   have HS:Hid ((if x j<y j then -1 else if y j<x j then 1 else zMg x y j)=zMg x y 4):=hs
   have hkm:j<=4:=by omega
   clear hs ej hk gx gy hx0 hy0 hx hy
   by_cases hlt:x j<y j
   ·have HR:Hid (zMg x y 4=-1):=by rw [← HS.out,if_pos hlt];rfl
    clear HS
    go_wp2
    go_quiet (fail)
    go_wp2
    go_ret
    exact ⟨zWa HR.out.symm,zAn (zIk _ _ _ _) _⟩
   ·by_cases hgt:y j<x j
    ·have HR:Hid (zMg x y 4=1):=by rw [← HS.out,if_neg hlt,if_pos hgt];rfl
     clear HS
     go_wp2
     go_quiet (fail)
     go_wp2
     go_quiet (fail)
     go_wp2
     go_ret
     exact ⟨zWa HR.out.symm,zAn (zAn (zIk _ _ _ _) _) _⟩
    ·have HR:Hid (zMg x y j=zMg x y 4):=by rw [← HS.out,if_neg hlt,if_neg hgt];rfl
     clear HS
     go_wp2
     go_quiet (fail)
     go_wp2
     go_quiet (fail)
     go_wp2
     go_roundw
     case rel=>exact ⟨j,_,hkm,HR.out,by go_num,rfl⟩
     case measure=>simp [intOf]
end
theorem cmp4 (A B:Nat)(w:World)(hA:A<2^256)(hB:B<2^256) :
  CB 181 #[A4 A,A4 B] w (.int .i64 (sgn (A:Int) (B:Int))):=by
 have h:=yGa (W4 A) (W4 B) w (zJa A) (zJa B)
 rw [zKj (zJa A) (zJa B),zRb hA,zRb hB] at h
 exact h
theorem zSs (x:Int)(c:Nat)(hx:0<=x/\x<=18446744073709551615)(hc:c<=62)(w:World) :
  CQ 187 #[.int .u64 x,.int .i64 (c:Int)] w (.int .u64 (x%2^c)):=by
 have hm:=zUf (y:=x) (r:=c) hx (by omega)
 have hp:(1:Int)<=2^c/\(2:Int)^c<=4611686018427387904:=by
  have a:(2:Nat)^0<=2^c:=Nat.pow_le_pow_right (by decide) (by omega)
  have b:(2:Nat)^c<=2^62:=Nat.pow_le_pow_right (by decide) hc
  have e:((2:Int)^c)=((2^c:Nat):Int):=by simp
  rw [e];omega
 go_enter Tryz.func187,Tryz.ntmps187
 go_wp2
 go_ret
 exact ⟨rfl,rfl⟩
abbrev LD (dn:Bool)(g t bl:Int)(wo co pa:Nat)(le mo:Int):Value:=.agg #[.bool dn,.int .i64 g,.int .i64 t,.int .i64 bl,.int .u64 (W4 wo 0),.int .u64 (W4 wo 1),.int .u64 (W4 wo 2),.int .u64 (W4 wo 3),.int .u64 (W4 co 0),.int .u64 (W4 co 1),.int .u64 (W4 co 2),.int .u64 (W4 co 3),.int .u64 (W4 pa 0),.int .u64 (W4 pa 1),.int .u64 (W4 pa 2),.int .u64 (W4 pa 3),.int .i64 le,.int .i64 mo]
attribute [local irreducible] W4
section
variable (dn:Bool)(g t bl:Int)(wo co pa:Nat)(le mo:Int)(w:World)
theorem kind_v (x V:Int)(n:Nat)(hx:0<=x/\x<=18446744073709551615)(hg:g-5=(n:Int))(hg0:5<=g)(hg1:g<=60)(hV:x/2^n=V) :
  CB 138 #[LD dn g t bl wo co pa le mo,.int .u64 x] w (.int .u64 V):=by
 go_enter Tryz.func138,Tryz.ntmps138
 go_wp2
 go_ret
 exact ⟨rfl,bgo⟩
theorem zFw (x V:Int)(n:Nat)(hx:0<=x/\x<=18446744073709551615)(hg:g-5-1=(n:Int))(hg0:6<=g)(hg1:g<=60)(hV:bits .and .u64 (x/2^n) 1=V) :
  CB 139 #[LD dn g t bl wo co pa le mo,.int .u64 x] w (.bool (V==1)):=by
 go_enter Tryz.func139,Tryz.ntmps139
 go_wp2
 go_ret
 exact ⟨rfl,bgo⟩
theorem zEw (k R:Int)(s:Bool)(n:Nat)(hk0:0<=k)(hk1:k<=31)(hg:g-5-1=(n:Int))(hg0:6<=g)(hg1:g<=30)(H:Int)(hH:(2:Int)^n=H)(hH0:1<=H)(hH1:H<=16777216)(ho:bits .or .u64 (k*2) 1=k*2+1)(hR:(k*2+if s then 1 else 0)*H=R)(hR1:R<=4611686018427387904) :
  CB 185 #[LD dn g t bl wo co pa le mo,.int .u64 k,.bool s] w (.int .u64 R):=by
 cases s
 ·simp only [Bool.false_eq_true,if_false,Int.add_zero] at hR
  have hR0:0<=R:=by rw [← hR];exact Int.mul_nonneg (by omega) (by omega)
  go_enter Tryz.func185,Tryz.ntmps185
  go_wp2
  go_ret
  exact ⟨rfl,bgo⟩
 ·simp only [if_true] at hR
  have hR0:0<=R:=by rw [← hR];exact Int.mul_nonneg (by omega) (by omega)
  go_enter Tryz.func185,Tryz.ntmps185
  go_wp2
  go_ret
  exact ⟨rfl,bgo⟩
end
end
end Go.Proofs.YtahfkpjhlbiamaaGreatDoor
