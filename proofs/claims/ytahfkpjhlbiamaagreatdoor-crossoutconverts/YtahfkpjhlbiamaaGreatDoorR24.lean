/-
  Texts that the proof leans on.
-/
import Derived.Test.YtahfkpjhlbiamaaGreatDoorR1
import Derived.Test.YtahfkpjhlbiamaaGreatDoorR23
import Derived.Deep.Cut
import Derived.Deep.CutRange
import Derived.Test.YtahfkpjhlbiamaaGreatDoorR12
import Derived.Test.YtahfkpjhlbiamaaGreatDoorR10
import Derived.Test.YtahfkpjhlbiamaaGreatDoorR4
import Derived.Test.YtahfkpjhlbiamaaGreatDoorR7
import Derived.Test.YtahfkpjhlbiamaaGreatDoorR11
import Derived.Deep.RegionWith
import Derived.Test.YtahfkpjhlbiamaaGreatDoorR14
import Derived.Test.YtahfkpjhlbiamaaGreatDoorR16
import Derived.Test.YtahfkpjhlbiamaaGreatDoorR18
import Derived.Test.YtahfkpjhlbiamaaGreatDoorR20
import Derived.Test.YtahfkpjhlbiamaaGreatDoorR22
import Derived.Test.YtahfkpjhlbiamaaGreatDoorR15
import Derived.Test.YtahfkpjhlbiamaaGreatDoorR6
import Derived.Test.YtahfkpjhlbiamaaGreatDoorR19
import Derived.Test.YtahfkpjhlbiamaaGreatDoorR8
set_option maxHeartbeats 8000000
set_option linter.unusedVariables false
set_option linter.unusedSectionVars false
set_option linter.unusedSimpArgs false
set_option maxRecDepth 20000
namespace Go.Proofs.YtahfkpjhlbiamaaGreatDoor
open Go.RowKit
section
theorem zA1 (d:Int)(w:World):CQ 16 #[.int .i64 d] w (.bool (decide (knB d))):=by
 by_cases h0:0<=d
 ·by_cases h4:d<=4
  ·have e:decide (knB d)=true:=by unfold knB;simp [h0,h4]
   rw [e]
   go_enter Tryz.func16,Tryz.ntmps16
   go_wp2
   go_ret
   exact ⟨by simp [h0,h4],rfl⟩
  ·have e:decide (knB d)=false:=by unfold knB;simp [h0,h4]
   rw [e]
   go_enter Tryz.func16,Tryz.ntmps16
   go_wp2
   go_ret
   exact ⟨by simp [h0,h4],rfl⟩
 ·have e:decide (knB d)=false:=by unfold knB;simp [h0]
  rw [e]
  go_enter Tryz.func16,Tryz.ntmps16
  go_wp2
  go_ret
  exact ⟨by simp [h0],rfl⟩
theorem zNv (d:Int)(s:Bool)(w:World)(hk:knB d):CQ 132 #[.int .i64 d,.bool s] w (.bool (inB d s)):=by
 have hd:d=0∨d=1∨d=2∨d=3∨d=4:=by unfold knB at hk;omega
 rcases hd with rfl|rfl|rfl|rfl|rfl <;>
 ·go_enter Tryz.func132,Tryz.ntmps132
  go_wp2
  go_ret
  exact ⟨by simp [inB],rfl⟩
theorem zCf {W:World}{g V:Nat}{vi:Int}(hg:g=W.heap.size)(hv:vi=(V:Int))(hb:V<18446744073709551616):NV 1 V (.slice (some ⟨g,0,none⟩) 1 1) (W.alloc (.cells #[.int .u64 vi] 22)):=by
 subst hg hv
 exact ⟨_,1,1,zGc V,rfl,Nat.le_refl _,zMc W V (by omega),zQe V⟩
theorem zEn (n:Nat)(hn:n<=200000)(w:World):CE 129 #[.int .u64 2,.int .i64 (n:Int)] w (NT 3128 (2^n)):=by
 have c84:=zSq (w:=w.alloc (.cells #[.int .u64 1] 22)) n (K:=1) (A:=1) (by decide) (by omega) (zCf rfl rfl (by decide))
 rw [Nat.one_mul] at c84
 have hb0:=zBa w (.cells #[.int .u64 1] 22)
 go_enter Tryz.func129,Tryz.ntmps129
 go_wp2_with (go_at_call 87;refine c84.mono ?_;rintro e w1 ⟨r,rfl,hr,hb1⟩)
 go_ret
 exact ⟨r,rfl,hr.more (by omega),hb0.trans (hb1.mono hb0.size)⟩
section
variable (x:Int)(vn vd:Value)(A B KK:Nat)(w:World)
theorem zVs (h:0<=min (max x (-200000)) 200000)
  (c98:Calls Tryz.prog 129 #[.int .u64 2,.int .i64 (min (max x (-200000)) 200000)] w fun e w'=>∃ p,e=.returned p/\Below w.heap.size w w'/\Calls Tryz.prog 86 #[vn,p] w' fun e w''=>∃ r,e=.returned r/\NT KK A r w''/\Below w'.heap.size w' w'') :
  Calls Tryz.prog 65 #[vn,vd,.int .u64 2,.int .i64 x] w fun e w'=>∃ r,e=.returned (.tuple #[r,vd])/\NT KK A r w'/\Below w.heap.size w w':=by
 have hb1:min (max x (-200000)) 200000<=200000:=by omega
 go_enter Tryz.func65,Tryz.ntmps65
 go_wp2_with (first
  | (go_at_call 129;refine c98.mono ?_;rintro e w1 ⟨p,rfl,hb1,c17⟩)
  | (go_at_call 86;refine c17.mono ?_;rintro e w2 ⟨r,rfl,hr,hb2⟩))
 exact bodyPost_ret (v:=.tuple #[r,vd]) (by simp only [results,Tryz.results65];go_simp) rfl ⟨_,rfl,hr,hb1.trans (hb2.mono hb1.size)⟩
theorem zWs (m:Int)(hm:m=-(min (max x (-200000)) 200000))(h:¬ 0<=min (max x (-200000)) 200000)
  (c98:Calls Tryz.prog 129 #[.int .u64 2,.int .i64 m] w fun e w'=>∃ p,e=.returned p/\Below w.heap.size w w'/\Calls Tryz.prog 86 #[vd,p] w' fun e w''=>∃ r,e=.returned r/\NT KK A r w''/\Below w'.heap.size w' w'') :
  Calls Tryz.prog 65 #[vn,vd,.int .u64 2,.int .i64 x] w fun e w'=>∃ r,e=.returned (.tuple #[vn,r])/\NT KK A r w'/\Below w.heap.size w w':=by
 have hb1:-200000<=min (max x (-200000)) 200000:=by omega
 subst hm
 go_enter Tryz.func65,Tryz.ntmps65
 go_wp2_with (first
  | (go_at_call 129;refine c98.mono ?_;rintro e w1 ⟨p,rfl,hb1,c17⟩)
  | (go_at_call 86;refine c17.mono ?_;rintro e w2 ⟨r,rfl,hr,hb2⟩))
 exact bodyPost_ret (v:=.tuple #[vn,r]) (by simp only [results,Tryz.results65];go_simp) rfl ⟨_,rfl,hr,hb1.trans (hb2.mono hb1.size)⟩
end
theorem zIv {K N D:Nat}{vn vd:Value}{w:World}(x:Int)(hK:K<=12000)(h:NT K N vn w)(h':NT K D vd w) :
  Calls Tryz.prog 65 #[vn,vd,.int .u64 2,.int .i64 x] w fun e w'=>∃ a b,e=.returned (.tuple #[a,b])/\NT (K+3130) (sN N x) a w'/\NT (K+3130) (sD D x) b w'/\Below w.heap.size w w':=by
 have hc:clZ x=min (max x (-200000)) 200000:=rfl
 by_cases hp:0<=min (max x (-200000)) 200000
 ·have c98:=zEn (clZ x).toNat (by omega) w
  rw [show ((clZ x).toNat:Int)=min (max x (-200000)) 200000 by omega] at c98
  have e0:sD D x=D:=by unfold sD;rw [show (-(clZ x)).toNat=0 by omega,Nat.pow_zero,Nat.mul_one]
  rw [e0]
  refine (zVs x vn vd (sN N x) (K+3130) w hp (c98.mono fun e w' ⟨p,e1,e2,e3⟩=>⟨p,e1,e3,(zYb (by omega) (by decide) (h.next e3).nv e2.nv).mono fun e w'' ⟨r,f1,f2,f3⟩=>⟨r,f1,f2.more (by omega),f3⟩⟩)).mono fun e w' ⟨r,e1,e2,e3⟩=>⟨_,_,e1,e2,(h'.next e3).more (by omega),e3⟩
 ·have c98:=zEn (-(clZ x)).toNat (by omega) w
  rw [show ((-(clZ x)).toNat:Int)=-(clZ x) by omega] at c98
  have e0:sN N x=N:=by unfold sN;rw [show (clZ x).toNat=0 by omega,Nat.pow_zero,Nat.mul_one]
  rw [e0]
  refine (zWs x vn vd (sD D x) (K+3130) w (-(clZ x)) (by omega) hp (c98.mono fun e w' ⟨p,e1,e2,e3⟩=>⟨p,e1,e3,(zYb (by omega) (by decide) (h'.next e3).nv e2.nv).mono fun e w'' ⟨r,f1,f2,f3⟩=>⟨r,f1,f2.more (by omega),f3⟩⟩)).mono fun e w' ⟨r,e1,e2,e3⟩=>⟨_,_,e1,(h.next e3).more (by omega),e2,e3⟩
theorem zH1 (ga gb s c c':Nat)(x y:Nat->Int)(w:World)(hs:s<20001)(h:Num w (some ⟨ga,0,none⟩) s c x)(h':Num w (some ⟨gb,0,none⟩) 1 c' y)(hys:sizeL y 1=1) :
  Calls Tryz.prog 92 #[.slice (some ⟨ga,0,none⟩) s c,.slice (some ⟨gb,0,none⟩) 1 c'] w (yGa (val x s) (val y 1) w):=by
 have hy:=h'.2.2.1
 have c31:=zSg _ 1 c' y w (by omega) h'
 rw [hys] at c31
 have hy0:y 0≠0:=by have:=zFc (x:=y) 1 (by omega);rw [hys] at this;exact this
 have hyb:=hy 0
 have ev:val y 1=y 0:=by simp [val]
 have c107:=zVu (some ⟨ga,0,none⟩) s c x (y 0) w (by omega) h (by omega)
 have hc:gb<w.heap.size/\w.cell? ⟨gb,0,none⟩=some (.int .u64 (y 0)):=by
  rcases h'.2.2.2.2 with ⟨h,_⟩|⟨b',off',h,hbs,hc⟩
  ·cases h
  ·cases h;exact ⟨hbs,hc 0 (by omega)⟩
 obtain ⟨hgb,hcc⟩:=hc
 rw [ev]
 clear h h'
 go_enter Tryz.func92,Tryz.ntmps92
 go_wp2_with (first|(go_at_call 134;refine c31.mono ?_;rintro e w' ⟨rfl,rfl⟩)|(go_at_call 156;refine c107.mono ?_;rintro e w1 ⟨g,k,cap,z,g',k',cap',z',rfl,hk,hk',hN,hN',hv,hv',hB,ht⟩))
 go_ret2
 exact ⟨g,k,cap,z,g',k',cap',z',rfl,by omega,by omega,hN,hN',hv,hv',hB,ht⟩
theorem zU0 {K N D:Nat}{vn vd:Value}{w:World}(hK:K<=20000)(h:NT K N vn w)(h':NT K D vd w)(hD:D≠0) :
  Calls Tryz.prog 92 #[vn,vd] w fun e w'=>∃ q r,e=.returned (.tuple #[q,r])/\NV 41000 (N/D) q w'/\NT 41000 (N%D) r w'/\Below w.heap.size w w':=by
 have hk0:=h'.zero
 obtain ⟨ga,s,c,x,rfl,hs,hN,hx,hxs⟩:=h
 obtain ⟨gb,t,c',y,rfl,ht,hN',hy,hys⟩:=h'
 have fin:∀ e w',yGa (val x s) (val y t) w e w'->∃ q r,e=.returned (.tuple #[q,r])/\NV 41000 (N/D) q w'/\NT 41000 (N%D) r w'/\Below w.heap.size w w':=by
  rintro e w' ⟨g,k,cap,z,g',k',cap',z',e1,hk,hk',hA,hB,hv,hv',hb,htr⟩
  refine ⟨_,_,e1,⟨g,k,cap,z,rfl,hk,hA,?_⟩,⟨g',k',cap',z',rfl,hk',hB,?_,htr⟩,hb⟩
  ·rw [hv,hx,hy];rfl
  ·rw [hv',hx,hy];rfl
 have ht0:t≠0:=by
  intro e;subst e
  have:val y 0=0:=rfl
  omega
 by_cases ht1:t=1
 ·subst ht1
  exact (zH1 ga gb s c c' x y w (by omega) hN hN' hys).mono fin
 ·exact (zJ1 ga gb s c t c' x y w (by omega) (by omega) (by omega) hN hN' hxs hys).mono fin
end
section
attribute [local irreducible] W4 Nz Nt
def dV (l:List UInt8):Nat:=(numV (B l) (B l).size).toNat
theorem zRs (l:List UInt8)(i:Nat):sb (B l) i=by_ l i:=by
 unfold sb by_
 by_cases h:i<l.length
 ·rw [dif_pos (show i<(B l).size from h),dif_pos h,B_get]
 ·rw [dif_neg (show ¬ i<(B l).size from h),dif_neg h]
theorem dig_B {l:List UInt8}(h:l.all dg=true):zT4 (B l) (B l).size=true:=by
 refine zXx _ fun k hk=>?_
 rw [zRs]
 have hk':k<l.length:=hk
 have h1:=List.all_eq_true.1 h (l[k]'hk') (List.getElem_mem hk')
 unfold dg at h1
 unfold by_
 rw [dif_pos hk']
 have:=of_decide_eq_true h1
 omega
theorem zR9 {l:List UInt8}(h:l.all dg=true):dV l<10^l.length/\(dV l:Int)=numV (B l) (B l).size:=by
 obtain ⟨a,b⟩:=zOp _ (dig_B h)
 unfold dV
 generalize numV (B l) (B l).size=V at *
 rw [zGa] at b
 have:((10:Int)^l.length)=((10^l.length:Nat):Int):=by simp
 rw [this] at b
 exact ⟨by omega,by omega⟩
end
section
theorem zKh (a b:Nat):bl (a*b)<=bl a+bl b:=by
 refine bl_le.2 ?_
 rw [Nat.pow_add]
 have h1:=bl_le.1 (Nat.le_refl (bl a))
 have h2:=bl_le.1 (Nat.le_refl (bl b))
 exact Nat.mul_lt_mul'' h1 h2
attribute [local irreducible] W4 Nz Nt
end
section
theorem NT.nz {K V:Nat}{v:Value}{w:World}(h:NT K V v w):Nz K V v w:=by
 obtain ⟨g,k,cap,z,h1,h2,h3,h4,h5⟩:=h
 exact ⟨_,k,cap,z,h1,h2,h3,h4,h5⟩
theorem NT.nt {K V:Nat}{v:Value}{w:World}(h:NT K V v w):Nt K V v w:=h.nz.nt
theorem zC4 {K K' A P:Nat}{v v':Value}{w:World}(hK:K<100000000)(hK':K'<100000000)(h:Nt K A v w)(h':Nt K' P v' w)(hb:bl A+bl P<=127000) :
  Calls Tryz.prog 81 #[v,v'] w fun r w'=>∃ q,r=.returned (.tuple #[q,.int .i64 0])/\NT 2001 (A*P) q w'/\Below w.heap.size w w':=by
 obtain ⟨a,k,cap,z,rfl,hk,hN,hv⟩:=h
 obtain ⟨a',k',cap',z',rfl,hk',hN',hv'⟩:=h'
 have s1:=(zZd (m:=(bl A+63)/64) hN.2.2.1 hv).2 (by omega)
 have s2:=(zZd (m:=(bl P+63)/64) hN'.2.2.1 hv').2 (by omega)
 refine (zUl a a' k cap k' cap' z z' w (by omega) (by omega) hN hN' (by omega)).mono fun r w' ⟨g,q,cp,y,e1,hq,hNq,hvq,hsq,hB⟩=>⟨_,e1,⟨g,q,cp,y,rfl,by omega,hNq,?_,hsq⟩,hB⟩
 rw [hvq,hv,hv'];simp
theorem zB4 {K V:Nat}{v:Value}{w:World}(d:Nat)(hK:K<100000000)(h:Nt K V v w)(hd:bl V+d<=127000) :
  Calls Tryz.prog 54 #[v,.int .i64 (d:Int)] w fun e w'=>∃ r,e=.returned (.tuple #[r,.int .i64 0])/\NT 2001 (V*2^d) r w'/\Below w.heap.size w w':=by
 obtain ⟨a,k,cap,z,rfl,hk,hN,hv⟩:=h
 have hs:=(zZd (m:=(bl V+63)/64) hN.2.2.1 hv).2 (by omega)
 refine (zN1 a k cap z d w (by omega) hN (by omega) (by omega)).mono fun e w' ⟨g,k',cap',z',h1,h2,h3,h4,h5,h6⟩=>⟨_,h1,⟨g,k',cap',z',rfl,h2,h3,?_,h5⟩,h6⟩
 rw [h4,hv];simp
theorem zA4 {W:World}{g V:Nat}{vi:Int}(hg:g=W.heap.size)(hv:vi=(V:Int))(hb:V<18446744073709551616)(h0:V≠0):NT 1 V (.slice (some ⟨g,0,none⟩) 1 1) (W.alloc (.cells #[.int .u64 vi] 22)):=by
 subst hg hv
 refine ⟨_,1,1,zGc V,rfl,Nat.le_refl _,zMc W V (by omega),zQe V,?_⟩
 have:zGc (V:Int) 0≠0:=by simp [zGc];omega
 simp [sizeL,this]
attribute [local irreducible] W4 Nz Nt NT
theorem zL7 {W:World}{g k:Nat}(hk:k<2^256)(hg:g<W.heap.size)(h0:W.cell? ⟨g,4,none⟩=some (.int .u64 (W4 k 0)))(h1:W.cell? ⟨g,5,none⟩=some (.int .u64 (W4 k 1)))(h2:W.cell? ⟨g,6,none⟩=some (.int .u64 (W4 k 2)))(h3:W.cell? ⟨g,7,none⟩=some (.int .u64 (W4 k 3))) :
  Nt 4 k (.slice (some ⟨g,4,none⟩) 4 4) W:=by
 unfold Nt
 refine ⟨some ⟨g,4,none⟩,4,4,fun i=>if i<4 then W4 k i else 0,rfl,Nat.le_refl _,⟨Nat.le_refl _,by unfold maxLen;omega,fun i=>?_,fun i hi=>if_neg (by omega),Or.inr ⟨g,4,rfl,hg,fun i hi=>?_⟩⟩,?_⟩
 ·dsimp only
  split
  ·exact zHa k i
  ·exact ⟨Int.le_refl _,by decide⟩
 ·have:i=0∨i=1∨i=2∨i=3:=by omega
  rcases this with rfl|rfl|rfl|rfl
  ·exact h0
  ·exact h1
  ·exact h2
  ·exact h3
 ·have e:=zOb hk
  rw [← e]
  simp [val]
theorem gs_bd (y:Int)(h:-200000<=y/\y<=200000):-100000<=(y*30103).tdiv 100000/\(y*30103).tdiv 100000<=100000:=by
 by_cases h0:0<=y
 ·rw [Int.tdiv_eq_ediv_of_nonneg (by omega)];omega
 ·rw [show y*30103=-(-y*30103) by omega,Int.neg_tdiv,Int.tdiv_eq_ediv_of_nonneg (by omega)];omega
def gsP (k:Nat)(x:Int):Int:=(((bl k:Int)-1+x)*30103).tdiv 100000-1
end
section
def zPd (n:Int):Prop:=7<=n/\n<=12
instance (n:Int):Decidable (zPd n):=inferInstanceAs (Decidable (_/\_))
def fD (n:Int):DF:=if n=7∨n=10 then ⟨20,6,2,-101,zZb n⟩ else if n=8∨n=11 then ⟨50,8,5,-398,zZb n⟩ else ⟨110,12,11,-6176,zZb n⟩
theorem zDy {n:Int}(h:zPd n):n=7∨n=8∨n=9∨n=10∨n=11∨n=12:=by unfold zPd at h;omega
theorem zCd (n:Int):(fD n).ok:=by
 unfold fD
 split
 ·exact Or.inl ⟨rfl,rfl,rfl,rfl⟩
 ·split
  ·exact Or.inr (Or.inl ⟨rfl,rfl,rfl,rfl⟩)
  ·exact Or.inr (Or.inr ⟨rfl,rfl,rfl,rfl⟩)
theorem zId {n:Int}(h:zPd n):okN n/\zCw n=n/\zDd n=10/\zVa n=(((fD n).t+((fD n).w+6):Nat):Int)/\zUe n=3*((fD n).j:Int)+1/\zZa n=(fD n).l/\zNc n=(fD n).l+3*2^(fD n).w-1/\zNk n=3*((fD n).j:Int)/\zZb n=(fD n).dn:=by
 rcases zDy h with rfl|rfl|rfl|rfl|rfl|rfl<;>decide
def zWh (n:Int)(B:Nat):Prop:=zPd n/\B<2^((fD n).t+((fD n).w+6))
instance (n:Int) (B:Nat):Decidable (zWh n B):=inferInstanceAs (Decidable (_/\_))
theorem zUd (n:Int)(w:World):CQ 15 #[.int .i64 n] w (.bool (decide (zPd n))):=by
 by_cases h1:7<=n
 ·by_cases h2:n<=12
  ·rw [decide_eq_true (show zPd n from ⟨h1,h2⟩)]
   go_enter Tryz.func15,Tryz.ntmps15
   go_wp2
   go_ret
   exact ⟨rfl,rfl⟩
  ·rw [decide_eq_false (show ¬ zPd n from fun h=>h2 h.2)]
   go_enter Tryz.func15,Tryz.ntmps15
   go_wp2
   go_ret
   exact ⟨rfl,rfl⟩
 ·rw [decide_eq_false (show ¬ zPd n from fun h=>h1 h.1)]
  go_enter Tryz.func15,Tryz.ntmps15
  go_wp2
  go_ret
  exact ⟨rfl,rfl⟩
attribute [local irreducible] W4 NT NV
theorem zR0 (n:Nat)(w:World)(hn:n<=12000):CE 64 #[.int .u64 10,.int .i64 (n:Int)] w (NV 50000 (10^n)):=by
 refine (zOq 10 n w (by decide) (by omega)).mono ?_
 rintro r w' ⟨g,k,cap,z,rfl,hk,hN,hv,hb⟩
 refine ⟨_,rfl,?_,hb⟩
 unfold NV
 exact ⟨g,k,cap,z,rfl,by omega,hN,by rw [hv];simp⟩
theorem rpow4t (p:Nat)(w:World)(hp:p<=12000):CE 153 #[.int .i64 10,.int .i64 p] w (NV 50000 (10^p)):=by
 have c:=fun W=>zR0 p W hp
 go_enter Tryz.func153,Tryz.ntmps153
 go_wp2_with (go_at_call 64;refine (c _).mono ?_;rintro r w1 ⟨v,rfl,hv,hb1⟩)
 go_ret
 exact ⟨v,rfl,hv,hb1⟩
theorem zH6 (A B:Nat):decide (sgn (A:Int) (B:Int)<0)=decide (A<B):=by
 rcases zBc (A:Int) (B:Int) with ⟨a,e⟩|⟨a,e⟩|⟨a,e⟩
 ·rw [e,decide_eq_true (show A<B by omega)];rfl
 ·rw [e,decide_eq_false (show ¬ A<B by omega)];rfl
 ·rw [e,decide_eq_false (show ¬ A<B by omega)];rfl
theorem zIp (k p:Nat)(w:World)(hk:k<2^256)(hp:p<=12000):CB 85 #[A4 k,.int .i64 10,.int .i64 p] w (.bool (decide (k<10^p))):=by
 have c1:=fun W=>rpow4t p W hp
 have hs:=zH6 k (10^p)
 go_enter Tryz.func85,Tryz.ntmps85
 go_wp2
 go_region_with (first
  | (go_at_call 153;refine (c1 _).mono ?_;rintro e w1 ⟨v1,rfl,hl,hb1⟩;have hbx:=zXr (w0:=w) (B:=k) (t:=24) hk (zMe bgo hb1))
  | (go_at_call 88;refine (zQl (by decide) (by decide) hbx hl).mono ?_;rintro e w2 ⟨rfl,rfl⟩))
 go_wp2
 go_ret
 exact ⟨congrArg (fun b=>Ending.returned (.bool b)) hs,zMe bgo hb1⟩
abbrev zEb (n:Int)(nm:ByteArray)(wd pr ex le mo pa:Int)(dn:Bool):Value:=.agg #[.int .i64 n,.string nm,.int .i64 10,.int .i64 wd,.int .i64 pr,.int .i64 ex,.int .i64 le,.int .i64 mo,.int .i64 pa,.bool dn]
theorem zAj {n:Int}(h:zPd n)(w:World):CB 20 #[.int .i64 n] w (.tuple #[zEb n (zMd n) (((fD n).t+((fD n).w+6):Nat):Int) (3*((fD n).j:Int)+1) (zKi n) (fD n).l ((fD n).l+3*2^(fD n).w-1) (3*((fD n).j:Int)) (fD n).dn,.int .i64 0]):=by
 obtain ⟨hok,h1,h2,h3,h4,h5,h6,h7,h8⟩:=zId h
 have c25:=zPl n w
 rw [show zZc n=0 from if_pos hok,h1,h2,h3,h4,h5,h6,h7,h8] at c25
 exact c25
theorem zDq {b:Nat}{w w':World}(h:Below b w w')(m:Nat):Below b w (w'.drewN m):=⟨h.os,h.tape,h.output,h.size,h.block⟩
theorem rshape (n:Int)(nm:ByteArray)(wd pr ex le mo pa:Int)(dn:Bool)(G T J:Int)(w:World)(h0:0<=wd)(h1:wd<=256)(h2:1<=pr)(h3:pr<=100)(hG:wd/16+9=G)(hG0:0<=G)(hG1:G<=100)(hT:wd-1-G=T)(hJ:(pr-1)/3=J) :
  CB 83 #[zEb n nm wd pr ex le mo pa dn] w (.tuple #[.int .i64 G,.int .i64 T,.int .i64 J]):=by
 go_enter Tryz.func83,Tryz.ntmps83
 go_wp2
 go_quiet (fail)
 go_wp2
 exact bodyPost_ret (by simp only [results,Tryz.results83];go_simp) rfl ⟨rfl,zDq (zBa w _) _⟩
theorem zBy {n:Int}(h:zPd n)(nm:ByteArray)(ex le mo pa:Int)(dn:Bool)(w:World) :
  CB 83 #[zEb n nm (((fD n).t+((fD n).w+6):Nat):Int) (3*((fD n).j:Int)+1) ex le mo pa dn] w (.tuple #[.int .i64 (((fD n).w:Int)+5),.int .i64 ((fD n).t:Int),.int .i64 ((fD n).j:Int)]):=by
 rcases zCd n with ⟨h1,h2,h3,h4⟩|⟨h1,h2,h3,h4⟩|⟨h1,h2,h3,h4⟩<;>rw [h1,h2,h3]<;>exact rshape n nm _ _ ex le mo pa dn _ _ _ w (by decide) (by decide) (by decide) (by decide) rfl (by decide) (by decide) rfl rfl
end
section
theorem zKo {k:Nat}(hk:k<2^256):decide (W4 k 0=0/\W4 k 1=0/\W4 k 2=0/\W4 k 3=0)=decide (k=0):=by
 by_cases h:k=0
 ·subst h
  rw [decide_eq_true (by simp [zNa]),decide_eq_true rfl]
 ·rw [decide_eq_false h,decide_eq_false]
  rintro ⟨h0,h1,h2,h3⟩
  refine h (zEs hk (by decide) fun i hi=>?_)
  have:i=0∨i=1∨i=2∨i=3:=by omega
  rcases this with rfl|rfl|rfl|rfl
  ·rw [h0,zNa]
  ·rw [h1,zNa]
  ·rw [h2,zNa]
  ·rw [h3,zNa]
attribute [local irreducible] W4
section
variable (n:Int)(nm:ByteArray)(wd pr ex le mo pa:Int)(dn:Bool)(c x:Int)(s g:Bool)(k:Nat)(w:World)
theorem vis1_g:CB 89 #[zEb n nm wd pr ex le mo pa dn,DV 1 s true x k] w (.bool false):=by
 go_enter Tryz.func89,Tryz.ntmps89
 go_wp2
 go_ret
 exact ⟨rfl,bgo⟩
theorem vis1_b (cb:∀ W,CB 85 #[A4 k,.int .i64 10,.int .i64 pr] W (.bool false)) :
  CB 89 #[zEb n nm wd pr ex le mo pa dn,DV 1 s false x k] w (.bool false):=by
 unfold A4 at cb
 go_enter Tryz.func89,Tryz.ntmps89
 go_wp2_with (go_at_call 85;refine wk w (cb _) ?_;intro w1 hb1 _ _ _ _ hA1 _;obtain ⟨_,_⟩:=zf hb1 (w.heap.size+1);clear hb1)
 go_ret
 exact ⟨rfl,bgo⟩
theorem vis1_l (hx:¬ le<=x)(cb:∀ W,CB 85 #[A4 k,.int .i64 10,.int .i64 pr] W (.bool true)) :
  CB 89 #[zEb n nm wd pr ex le mo pa dn,DV 1 s false x k] w (.bool false):=by
 unfold A4 at cb
 go_enter Tryz.func89,Tryz.ntmps89
 go_wp2_with (go_at_call 85;refine wk w (cb _) ?_;intro w1 hb1 _ _ _ _ hA1 _;obtain ⟨_,_⟩:=zf hb1 (w.heap.size+1);clear hb1)
 go_ret
 exact ⟨rfl,bgo⟩
theorem vis1_m (hx:le<=x)(cb:∀ W,CB 85 #[A4 k,.int .i64 10,.int .i64 pr] W (.bool true)) :
  CB 89 #[zEb n nm wd pr ex le mo pa dn,DV 1 s false x k] w (.bool (decide (x<=mo))):=by
 unfold A4 at cb
 go_enter Tryz.func89,Tryz.ntmps89
 go_wp2_with (go_at_call 85;refine wk w (cb _) ?_;intro w1 hb1 _ _ _ _ hA1 _;obtain ⟨_,_⟩:=zf hb1 (w.heap.size+1);clear hb1)
 go_ret
 exact ⟨rfl,bgo⟩
theorem vis2_g:CB 89 #[zEb n nm wd pr ex le mo pa dn,DV 2 s true x k] w (.bool false):=by
 go_enter Tryz.func89,Tryz.ntmps89
 go_wp2
 go_ret
 exact ⟨rfl,bgo⟩
theorem vis2_k (hk:k<2^256)(h0:k≠0):CB 89 #[zEb n nm wd pr ex le mo pa dn,DV 2 s false x k] w (.bool false):=by
 have h24:=zO4 (W4 k 0) (W4 k 1) (W4 k 2) (W4 k 3) 0 0 0 0
 rw [zKo hk,decide_eq_false h0] at h24
 clear h0
 unfold DV at *
 go_enter Tryz.func89,Tryz.ntmps89
 go_wp2
 go_ret
 exact ⟨rfl,bgo⟩
theorem vis2_x (h0:k=0):CB 89 #[zEb n nm wd pr ex le mo pa dn,DV 2 s false x k] w (.bool (x==0)):=by
 have h24:=zO4 (W4 k 0) (W4 k 1) (W4 k 2) (W4 k 3) 0 0 0 0
 rw [zKo (by rw [h0];decide),decide_eq_true h0] at h24
 clear h0
 unfold DV at *
 go_enter Tryz.func89,Tryz.ntmps89
 go_wp2
 go_ret
 exact ⟨rfl,bgo⟩
theorem vis3_x (hx:(x==0)=false):CB 89 #[zEb n nm wd pr ex le mo pa dn,DV 3 s g x k] w (.bool false):=by
 go_enter Tryz.func89,Tryz.ntmps89
 go_wp2
 go_ret
 exact ⟨rfl,bgo⟩
theorem vis3_b (R:Bool)(cb:∀ W,CB 85 #[A4 k,.int .i64 10,.int .i64 pa] W (.bool R)) :
  CB 89 #[zEb n nm wd pr ex le mo pa dn,DV 3 s g 0 k] w (.bool R):=by
 unfold A4 at cb
 go_enter Tryz.func89,Tryz.ntmps89
 go_wp2_with (go_at_call 85;refine wk w (cb _) ?_;intro w1 hb1 _ _ _ _ hA1 _;obtain ⟨_,_⟩:=zf hb1 (w.heap.size+1);clear hb1)
 go_ret
 exact ⟨rfl,bgo⟩
theorem vis_o (h1:(c==1)=false)(h2:(c==2)=false)(h3:(c==3)=false):CB 89 #[zEb n nm wd pr ex le mo pa dn,DV c s g x k] w (.bool false):=by
 go_enter Tryz.func89,Tryz.ntmps89
 go_wp2
 go_ret
 exact ⟨rfl,bgo⟩
end
instance (f:DF) (d:Dat):Decidable (vI f d):=inferInstanceAs (Decidable (_∨_))
theorem ris14 (f:DF)(hf:f.ok)(n:Int)(nm:ByteArray)(wd ex:Int)(dn:Bool)(d:Dat)(w:World)(hk:d.k<2^256) :
  CB 89 #[zEb n nm wd (3*(f.j:Int)+1) ex f.l (f.l+3*2^f.w-1) (3*(f.j:Int)) dn,d.v] w (.bool (decide (vI f d))):=by
 obtain ⟨c,s,g,x,k⟩:=d
 simp only at hk
 have hj:f.j<=11:=by rcases hf with ⟨h1,h2,h3,h4⟩|⟨h1,h2,h3,h4⟩|⟨h1,h2,h3,h4⟩<;>omega
 have cb1:=fun W=>zIp k (3*f.j+1) W hk (by omega)
 rw [show ((3*f.j+1:Nat):Int)=3*(f.j:Int)+1 by omega] at cb1
 have cb3:=fun W=>zIp k (3*f.j) W hk (by omega)
 rw [show ((3*f.j:Nat):Int)=3*(f.j:Int) by omega] at cb3
 by_cases h1:c=1
 ·subst h1
  have e:vI f ⟨1,s,g,x,k⟩↔(g=false/\k<10^(3*f.j+1)/\f.l<=x/\x<=f.l+3*2^f.w-1):=by
   unfold vI
   simp
  rw [decide_eq_decide.2 e]
  cases g
  ·by_cases hb:k<10^(3*f.j+1)
   ·rw [decide_eq_true hb] at cb1
    by_cases hx:f.l<=x
    ·have:=vis1_m n nm wd _ ex f.l (f.l+3*2^f.w-1) (3*(f.j:Int)) dn x s k w hx cb1
     have e2:decide (x<=f.l+3*2^f.w-1)=decide ((false:Bool)=false/\k<10^(3*f.j+1)/\f.l<=x/\x<=f.l+3*2^f.w-1):=decide_eq_decide.2 ⟨fun h=>⟨rfl,hb,hx,h⟩,fun h=>h.2.2.2⟩
     rw [e2] at this
     exact this
    ·rw [decide_eq_false (fun h=>hx h.2.2.1)]
     exact vis1_l n nm wd _ ex f.l _ _ dn x s k w hx cb1
   ·rw [decide_eq_false hb] at cb1
    rw [decide_eq_false (fun h=>hb h.2.1)]
    exact vis1_b n nm wd _ ex f.l _ _ dn x s k w cb1
  ·rw [decide_eq_false (fun h=>by cases h.1)]
   exact vis1_g n nm wd _ ex f.l _ _ dn x s k w
 by_cases h2:c=2
 ·subst h2
  have e:vI f ⟨2,s,g,x,k⟩↔(g=false/\k=0/\x=0):=by
   unfold vI
   simp
  rw [decide_eq_decide.2 e]
  cases g
  ·by_cases hz:k=0
   ·have:=vis2_x n nm wd (3*(f.j:Int)+1) ex f.l (f.l+3*2^f.w-1) (3*(f.j:Int)) dn x s k w hz
    rw [show (x==0)=decide (false=false/\k=0/\x=0) by rw [Bool.eq_iff_iff];simp [hz]] at this
    exact this
   ·rw [decide_eq_false (fun h=>hz h.2.1)]
    exact vis2_k n nm wd _ ex f.l _ _ dn x s k w hk hz
  ·rw [decide_eq_false (fun h=>by cases h.1)]
   exact vis2_g n nm wd _ ex f.l _ _ dn x s k w
 by_cases h3:c=3
 ·subst h3
  have e:vI f ⟨3,s,g,x,k⟩↔(x=0/\k<10^(3*f.j)):=by
   unfold vI
   simp
  rw [decide_eq_decide.2 e]
  by_cases hx:x=0
  ·subst hx
   have:=vis3_b n nm wd (3*(f.j:Int)+1) ex f.l (f.l+3*2^f.w-1) (3*(f.j:Int)) dn s g k w _ cb3
   rw [decide_eq_decide.2 (show (k<10^(3*f.j))↔((0:Int)=0/\k<10^(3*f.j)) from ⟨fun h=>⟨rfl,h⟩,fun h=>h.2⟩)] at this
   exact this
  ·rw [decide_eq_false (fun h=>hx h.1)]
   exact vis3_x n nm wd _ ex f.l _ _ dn x s g k w (by simp [hx])
 ·rw [decide_eq_false (show ¬ vI f ⟨c,s,g,x,k⟩ by unfold vI;simp [h1,h2,h3])]
  exact vis_o n nm wd _ ex f.l _ _ dn c x s g k w (by simp [h1]) (by simp [h2]) (by simp [h3])
end
section
theorem zEj {W:World}{g V:Nat}{vi:Int}(hg:g=W.heap.size)(hv:vi=(V:Int))(hb:V<18446744073709551616)(h0:V≠0):NT 1 V (.slice (some ⟨g,0,none⟩) 1 1) (W.alloc (.cells #[.int .u64 vi] 22)):=by
 subst hg hv
 have h1:¬ ((V:Int)=0):=by omega
 exact ⟨_,1,1,zGc V,rfl,Nat.le_refl _,zMc W V (by omega),by simp [val,zGc],by simp [sizeL,zGc,h0]⟩
theorem zCr (s m:Nat):s^m=(if m%2=1 then s else 1)*(s*s)^(m/2):=by
 have e:(s*s)^(m/2)=s^(2*(m/2)):=by rw [Nat.pow_mul];congr 1;rw [Nat.pow_succ,Nat.pow_succ,Nat.pow_zero,Nat.one_mul]
 rw [e]
 by_cases h:m%2=1
 ·rw [if_pos h,Nat.mul_comm,← Nat.pow_succ];congr 1;omega
 ·rw [if_neg h,Nat.one_mul];congr 1;omega
attribute [local irreducible] NT NV
theorem zP6 (b n:Nat)(w:World)(hb0:b≠0)(hb:b<18446744073709551616)(hn:n<=12000) :
  CE 64 #[.int .u64 (b:Int),.int .i64 (n:Int)] w (NT (4*n+2) (b^n)):=by
 have hN1:=(zEj (W:=w) (g:=w.heap.size) (V:=1) (vi:=1) rfl rfl (by decide) (by decide)).next (zBa _ (.cells #[.int .u64 (b:Int)] 22))
 have hN2:=zEj (W:=w.alloc (.cells #[.int .u64 1] 22)) (g:=w.heap.size+1) (V:=b) (vi:=(b:Int)) (by simp) rfl hb hb0
 have HB:Hid (Below w.heap.size w ((w.alloc (.cells #[.int .u64 1] 22)).alloc (.cells #[.int .u64 (b:Int)] 22))):=((Below.refl _ _).alloc (Nat.le_refl _) _).alloc (by simp) _
 go_enter Tryz.func64,Tryz.ntmps64
 go_wp2
 generalize (w.alloc (.cells #[.int .u64 1] 22)).alloc (.cells #[.int .u64 (b:Int)] 22)=wA at *
 go_loopw [1,5,6] (fun nv ov sv wr=>∃ (m P X Y:Nat),nv=.int .i64 (m:Int)/\m<=n/\1<=P/\m*P<=n/\P<=2*n+1/\NT (2*P-1) X ov wr/\NT (2*P-1) Y sv wr/\Hid (X*Y^m=b^n)/\Below w.heap.size w wr) (fun nv _ _ _=>(intOf nv).toNat)
 case atStart=>exact ⟨n,1,1,b,rfl,Nat.le_refl _,Nat.le_refl _,by omega,by omega,hN1,hN2,by show _=_;rw [Nat.one_mul],HB.out⟩
 case round =>
  clear hN1 hN2 HB
  obtain ⟨m,P,X,Y,rfl,hmn,hP,hmP,hP2,hN1,hN2,hv,hB⟩:=hrel
  by_cases h0:m=0
  ·subst h0
   have HV:Hid (X=b^n):=by show _=_;have:=hv.out;rw [Nat.pow_zero,Nat.mul_one] at this;exact this
   clear hN2 hv
   go_wp2
   go_ret
   exact ⟨_,rfl,by rw [← HV.out];exact hN1.more (by omega),hB⟩
  ·have hm0:(0:Int)<m:=by omega
   have hPn:P<=n:=by
    have:1*P<=m*P:=Nat.mul_le_mul_right P (by omega)
    omega
   have hq2:(m:Int)/2=((m/2:Nat):Int):=by omega
   have hr2:(m:Int)%2=((m%2:Nat):Int):=by omega
   have hmP':m/2*(2*P)<=n:=by
    have h1:m/2*2<=m:=Nat.div_mul_le_self m 2
    have h2:m/2*2*P<=m*P:=Nat.mul_le_mul_right P h1
    rw [← Nat.mul_assoc];omega
   have HPH:Hid (Y^m=(if m%2=1 then Y else 1)*(Y*Y)^(m/2)):=zCr _ _
   generalize hq:m/2=q at *
   by_cases hodd:m%2=1
   ·rw [hodd] at hr2
    rw [if_pos hodd] at HPH
    have t1:=zYb (by omega) (by omega) hN1.nv hN2.nv
    by_cases hq0:q=0
    ·subst hq0
     have hq00:(m:Int)/2=0:=hq2
     clear hq2
     go_wp2_with (go_at_call 86;refine t1.mono ?_;rintro e w1 ⟨r1,rfl,hr1,hb1⟩;clear t1)
     have HV3:Hid (X*Y*Y^0=b^n):=by
      show _=_
      rw [← hv.out,HPH.out];simp
     have hN2':=hN2.next hb1
     have hB1:=hB.trans (hb1.mono hB.size)
     clear hN1 hN2 hv
     go_roundw
     case rel=>exact ⟨0,2*P,X*Y,Y,rfl,by omega,by omega,by omega,by omega,hr1.more (by omega),hN2'.more (by omega),HV3,hB1⟩
     case measure=>simp [intOf];omega
    ·have hq0':(0:Int)<q:=by omega
     go_wp2_with (go_at_call 86;refine t1.mono ?_;rintro e w1 ⟨r1,rfl,hr1,hb1⟩;clear t1)
     have hB1:=hB.trans (hb1.mono hB.size)
     have hN21:=hN2.next hb1
     have t2:=zYb (by omega) (by omega) hN21.nv hN21.nv
     go_wp2_with (go_at_call 86;refine t2.mono ?_;rintro e w2 ⟨r2,rfl,hr2',hb2⟩;clear t2)
     have HV3:Hid (X*Y*(Y*Y)^q=b^n):=by
      show _=_
      rw [← hv.out,HPH.out,Nat.mul_assoc]
     have hr1':=hr1.next hb2
     have hB2:=hB1.trans (hb2.mono hB1.size)
     clear hN1 hN2 hN21 hr1 hv
     go_roundw
     case rel=>exact ⟨q,2*P,X*Y,Y*Y,rfl,by omega,by omega,by omega,by omega,hr1'.more (by omega),hr2'.more (by omega),HV3,hB2⟩
     case measure=>simp [intOf];omega
   ·have h20:m%2=0:=by omega
    rw [h20] at hr2
    rw [if_neg hodd,Nat.one_mul] at HPH
    have hq0':(0:Int)<q:=by omega
    have t2:=zYb (by omega) (by omega) hN2.nv hN2.nv
    go_wp2_with (go_at_call 86;refine t2.mono ?_;rintro e w2 ⟨r2,rfl,hr2',hb2⟩;clear t2)
    have HV3:Hid (X*(Y*Y)^q=b^n):=by
     show _=_
     rw [← hv.out,HPH.out]
    have hN1':=hN1.next hb2
    have hB2:=hB.trans (hb2.mono hB.size)
    clear hN1 hN2 hv
    go_roundw
    case rel=>exact ⟨q,2*P,X,Y*Y,rfl,by omega,by omega,by omega,by omega,hN1'.more (by omega),hr2'.more (by omega),HV3,hB2⟩
    case measure=>simp [intOf];omega
end
section
theorem zDu {z:Nat->Int}{k V:Nat}(hk:0<k)(hv:val z k=(V:Int)):(V:Int)%2=z 0%2:=by
 have key:∀ j,val z (j+1)%2=z 0%2:=by
  intro j
  induction j with
  | zero=>simp [val]
  | succ j ih =>
   have:val z (j+1+1)=val z (j+1)+z (j+1)*18446744073709551616^(j+1):=rfl
   rw [this,Int.pow_succ,show z (j+1)*(18446744073709551616^j*18446744073709551616)=2*(z (j+1)*18446744073709551616^j*9223372036854775808) by grind,Int.add_mul_emod_self_left]
   exact ih
 obtain ⟨j,rfl⟩:∃ j,k=j+1:=⟨k-1,by omega⟩
 rw [← hv];exact key j
theorem q2_nv {K V:Nat}{v:Value}{w:World}(hK:K<1000000)(h:NV K V v w) :
  CQ 186 #[v] w (.bool (decide (V%2=1))):=by
 obtain ⟨g,k,cap,z,rfl,hk,hN,hv⟩:=h
 by_cases hk0:k=0
 ·subst hk0
  obtain rfl:V=0:=by have:val z 0=0:=rfl;omega
  go_enter Tryz.func186,Tryz.ntmps186
  go_wp2
  go_ret
  exact ⟨by simp,rfl⟩
 ·have ho:=zDu (by omega) hv
  have hc:g<w.heap.size/\w.cell? ⟨g,0,none⟩=some (.int .u64 (z 0)):=by
   rcases hN.2.2.2.2 with ⟨h,_⟩|⟨b',off',h,hbs,hc⟩
   ·cases h
   ·cases h;exact ⟨hbs,hc 0 (by omega)⟩
  obtain ⟨hgb,hcc⟩:=hc
  have hz:=hN.2.2.1 0
  have hki:(0:Int)<k:=by omega
  have hcap:=hN.1
  have HO:Hid (decide (V%2=1)=(z 0%2==1)):=by
   show _=_
   by_cases h:z 0%2=1
   ·rw [h];simp;omega
   ·rw [decide_eq_false (by omega)];simp [h]
  clear hN ho hv
  go_enter Tryz.func186,Tryz.ntmps186
  go_wp2
  go_ret
  exact ⟨by rw [HO.out];simp,rfl⟩
attribute [local irreducible] NV NT
section
variable (d hv:Int)(s odd:Bool)(va vb:Value)(Q:Nat)(w:World)
 (c99:Calls Tryz.prog 92 #[va,vb] w fun e w1=>∃ q g k cap,e=.returned (.tuple #[q,.slice (some ⟨g,0,none⟩) k cap])/\k≠0/\NV 41000 Q q w1/\Below w.heap.size w w1/\Calls Tryz.prog 87 #[.slice (some ⟨g,0,none⟩) k cap,.int .i64 1] w1 fun e w2=>∃ r2,e=.returned r2/\Below w1.heap.size w1 w2/\Calls Tryz.prog 88 #[r2,vb] w2 fun e w3=>e=.returned (.int .i64 hv)/\w2=w3)
 (c100:∀ W q,NV 41000 Q q W->CQ 186 #[q] W (.bool odd))
 (c24:∀ W q v,NV 41000 Q q W->NV 1 1 v W->CE 63 #[q,v] W (NV 41002 (Q+1)))
include c99 c100 c24
theorem wh_0g (h:0<hv):Calls Tryz.prog 131 #[.int .i64 0,.bool s,va,vb] w fun e w'=>∃ q,e=.returned (.tuple #[q,.bool false])/\NV 41002 (Q+1) q w'/\Below w.heap.size w w':=by
 go_enter Tryz.func131,Tryz.ntmps131
 go_wp2_with (first
  | (go_at_call 92;refine c99.mono ?_;rintro e w1 ⟨q,g,k,cap,rfl,hk,hq,hb1,c84⟩;have hki:((k:Int)==0)=false:=by simp;omega)
  | (go_at_call 87;refine c84.mono ?_;rintro e w2 ⟨r2,rfl,hb2,c21⟩;have hq2:=hq.next hb2;have hB2:=hb1.trans (hb2.mono hb1.size))
  | (go_at_call 88;refine c21.mono ?_;rintro e w3 ⟨rfl,rfl⟩)
  | (go_at_call 186;refine (c100 _ _ hq2).mono ?_;rintro e w4 ⟨rfl,rfl⟩)
  | (go_at_call 63;refine (c24 _ _ _ (hq2.next (zBa _ _)) (zCf rfl rfl (by decide))).mono ?_;rintro e w5 ⟨r5,rfl,hr5,hb5⟩))
 have hB3:=hB2.trans ((zBa w2 (.cells #[.int .u64 1] 22)).mono hB2.size)
 exact bodyPost_ret (v:=.tuple #[r5,.bool false]) (by simp only [results,Tryz.results131];go_simp) rfl ⟨_,rfl,hr5,hB3.trans (hb5.mono hB3.size)⟩
theorem wh_0eo (h:hv=0)(h1:odd=true):Calls Tryz.prog 131 #[.int .i64 0,.bool s,va,vb] w fun e w'=>∃ q,e=.returned (.tuple #[q,.bool false])/\NV 41002 (Q+1) q w'/\Below w.heap.size w w':=by
 subst h h1
 go_enter Tryz.func131,Tryz.ntmps131
 go_wp2_with (first
  | (go_at_call 92;refine c99.mono ?_;rintro e w1 ⟨q,g,k,cap,rfl,hk,hq,hb1,c84⟩;have hki:((k:Int)==0)=false:=by simp;omega)
  | (go_at_call 87;refine c84.mono ?_;rintro e w2 ⟨r2,rfl,hb2,c21⟩;have hq2:=hq.next hb2;have hB2:=hb1.trans (hb2.mono hb1.size))
  | (go_at_call 88;refine c21.mono ?_;rintro e w3 ⟨rfl,rfl⟩)
  | (go_at_call 186;refine (c100 _ _ hq2).mono ?_;rintro e w4 ⟨rfl,rfl⟩)
  | (go_at_call 63;refine (c24 _ _ _ (hq2.next (zBa _ _)) (zCf rfl rfl (by decide))).mono ?_;rintro e w5 ⟨r5,rfl,hr5,hb5⟩))
 have hB3:=hB2.trans ((zBa w2 (.cells #[.int .u64 1] 22)).mono hB2.size)
 exact bodyPost_ret (v:=.tuple #[r5,.bool false]) (by simp only [results,Tryz.results131];go_simp) rfl ⟨_,rfl,hr5,hB3.trans (hb5.mono hB3.size)⟩
theorem wh_0en (h:hv=0)(h1:odd=false):Calls Tryz.prog 131 #[.int .i64 0,.bool s,va,vb] w fun e w'=>∃ q,e=.returned (.tuple #[q,.bool false])/\NV 41002 (Q) q w'/\Below w.heap.size w w':=by
 subst h h1
 go_enter Tryz.func131,Tryz.ntmps131
 go_wp2_with (first
  | (go_at_call 92;refine c99.mono ?_;rintro e w1 ⟨q,g,k,cap,rfl,hk,hq,hb1,c84⟩;have hki:((k:Int)==0)=false:=by simp;omega)
  | (go_at_call 87;refine c84.mono ?_;rintro e w2 ⟨r2,rfl,hb2,c21⟩;have hq2:=hq.next hb2;have hB2:=hb1.trans (hb2.mono hb1.size))
  | (go_at_call 88;refine c21.mono ?_;rintro e w3 ⟨rfl,rfl⟩)
  | (go_at_call 186;refine (c100 _ _ hq2).mono ?_;rintro e w4 ⟨rfl,rfl⟩)
  | (go_at_call 63;refine (c24 _ _ _ (hq2.next (zBa _ _)) (zCf rfl rfl (by decide))).mono ?_;rintro e w5 ⟨r5,rfl,hr5,hb5⟩))
 exact bodyPost_ret (v:=.tuple #[q,.bool false]) (by simp only [results,Tryz.results131];go_simp) rfl ⟨_,rfl,hq2.more (by decide),hB2⟩
theorem wh_0l (h:¬ 0<hv)(h1:(hv==0)=false):Calls Tryz.prog 131 #[.int .i64 0,.bool s,va,vb] w fun e w'=>∃ q,e=.returned (.tuple #[q,.bool false])/\NV 41002 (Q) q w'/\Below w.heap.size w w':=by
 go_enter Tryz.func131,Tryz.ntmps131
 go_wp2_with (first
  | (go_at_call 92;refine c99.mono ?_;rintro e w1 ⟨q,g,k,cap,rfl,hk,hq,hb1,c84⟩;have hki:((k:Int)==0)=false:=by simp;omega)
  | (go_at_call 87;refine c84.mono ?_;rintro e w2 ⟨r2,rfl,hb2,c21⟩;have hq2:=hq.next hb2;have hB2:=hb1.trans (hb2.mono hb1.size))
  | (go_at_call 88;refine c21.mono ?_;rintro e w3 ⟨rfl,rfl⟩)
  | (go_at_call 186;refine (c100 _ _ hq2).mono ?_;rintro e w4 ⟨rfl,rfl⟩)
  | (go_at_call 63;refine (c24 _ _ _ (hq2.next (zBa _ _)) (zCf rfl rfl (by decide))).mono ?_;rintro e w5 ⟨r5,rfl,hr5,hb5⟩))
 exact bodyPost_ret (v:=.tuple #[q,.bool false]) (by simp only [results,Tryz.results131];go_simp) rfl ⟨_,rfl,hq2.more (by decide),hB2⟩
theorem wh_1g (h:0<=hv):Calls Tryz.prog 131 #[.int .i64 1,.bool s,va,vb] w fun e w'=>∃ q,e=.returned (.tuple #[q,.bool false])/\NV 41002 (Q+1) q w'/\Below w.heap.size w w':=by
 go_enter Tryz.func131,Tryz.ntmps131
 go_wp2_with (first
  | (go_at_call 92;refine c99.mono ?_;rintro e w1 ⟨q,g,k,cap,rfl,hk,hq,hb1,c84⟩;have hki:((k:Int)==0)=false:=by simp;omega)
  | (go_at_call 87;refine c84.mono ?_;rintro e w2 ⟨r2,rfl,hb2,c21⟩;have hq2:=hq.next hb2;have hB2:=hb1.trans (hb2.mono hb1.size))
  | (go_at_call 88;refine c21.mono ?_;rintro e w3 ⟨rfl,rfl⟩)
  | (go_at_call 186;refine (c100 _ _ hq2).mono ?_;rintro e w4 ⟨rfl,rfl⟩)
  | (go_at_call 63;refine (c24 _ _ _ (hq2.next (zBa _ _)) (zCf rfl rfl (by decide))).mono ?_;rintro e w5 ⟨r5,rfl,hr5,hb5⟩))
 have hB3:=hB2.trans ((zBa w2 (.cells #[.int .u64 1] 22)).mono hB2.size)
 exact bodyPost_ret (v:=.tuple #[r5,.bool false]) (by simp only [results,Tryz.results131];go_simp) rfl ⟨_,rfl,hr5,hB3.trans (hb5.mono hB3.size)⟩
theorem wh_1l (h:¬ 0<=hv):Calls Tryz.prog 131 #[.int .i64 1,.bool s,va,vb] w fun e w'=>∃ q,e=.returned (.tuple #[q,.bool false])/\NV 41002 (Q) q w'/\Below w.heap.size w w':=by
 go_enter Tryz.func131,Tryz.ntmps131
 go_wp2_with (first
  | (go_at_call 92;refine c99.mono ?_;rintro e w1 ⟨q,g,k,cap,rfl,hk,hq,hb1,c84⟩;have hki:((k:Int)==0)=false:=by simp;omega)
  | (go_at_call 87;refine c84.mono ?_;rintro e w2 ⟨r2,rfl,hb2,c21⟩;have hq2:=hq.next hb2;have hB2:=hb1.trans (hb2.mono hb1.size))
  | (go_at_call 88;refine c21.mono ?_;rintro e w3 ⟨rfl,rfl⟩)
  | (go_at_call 186;refine (c100 _ _ hq2).mono ?_;rintro e w4 ⟨rfl,rfl⟩)
  | (go_at_call 63;refine (c24 _ _ _ (hq2.next (zBa _ _)) (zCf rfl rfl (by decide))).mono ?_;rintro e w5 ⟨r5,rfl,hr5,hb5⟩))
 exact bodyPost_ret (v:=.tuple #[q,.bool false]) (by simp only [results,Tryz.results131];go_simp) rfl ⟨_,rfl,hq2.more (by decide),hB2⟩
theorem wh_2:Calls Tryz.prog 131 #[.int .i64 2,.bool s,va,vb] w fun e w'=>∃ q,e=.returned (.tuple #[q,.bool false])/\NV 41002 (Q) q w'/\Below w.heap.size w w':=by
 go_enter Tryz.func131,Tryz.ntmps131
 go_wp2_with (first
  | (go_at_call 92;refine c99.mono ?_;rintro e w1 ⟨q,g,k,cap,rfl,hk,hq,hb1,c84⟩;have hki:((k:Int)==0)=false:=by simp;omega)
  | (go_at_call 87;refine c84.mono ?_;rintro e w2 ⟨r2,rfl,hb2,c21⟩;have hq2:=hq.next hb2;have hB2:=hb1.trans (hb2.mono hb1.size))
  | (go_at_call 88;refine c21.mono ?_;rintro e w3 ⟨rfl,rfl⟩)
  | (go_at_call 186;refine (c100 _ _ hq2).mono ?_;rintro e w4 ⟨rfl,rfl⟩)
  | (go_at_call 63;refine (c24 _ _ _ (hq2.next (zBa _ _)) (zCf rfl rfl (by decide))).mono ?_;rintro e w5 ⟨r5,rfl,hr5,hb5⟩))
 exact bodyPost_ret (v:=.tuple #[q,.bool false]) (by simp only [results,Tryz.results131];go_simp) rfl ⟨_,rfl,hq2.more (by decide),hB2⟩
theorem wh_3f:Calls Tryz.prog 131 #[.int .i64 3,.bool false,va,vb] w fun e w'=>∃ q,e=.returned (.tuple #[q,.bool false])/\NV 41002 (Q+1) q w'/\Below w.heap.size w w':=by
 go_enter Tryz.func131,Tryz.ntmps131
 go_wp2_with (first
  | (go_at_call 92;refine c99.mono ?_;rintro e w1 ⟨q,g,k,cap,rfl,hk,hq,hb1,c84⟩;have hki:((k:Int)==0)=false:=by simp;omega)
  | (go_at_call 87;refine c84.mono ?_;rintro e w2 ⟨r2,rfl,hb2,c21⟩;have hq2:=hq.next hb2;have hB2:=hb1.trans (hb2.mono hb1.size))
  | (go_at_call 88;refine c21.mono ?_;rintro e w3 ⟨rfl,rfl⟩)
  | (go_at_call 186;refine (c100 _ _ hq2).mono ?_;rintro e w4 ⟨rfl,rfl⟩)
  | (go_at_call 63;refine (c24 _ _ _ (hq2.next (zBa _ _)) (zCf rfl rfl (by decide))).mono ?_;rintro e w5 ⟨r5,rfl,hr5,hb5⟩))
 have hB3:=hB2.trans ((zBa w2 (.cells #[.int .u64 1] 22)).mono hB2.size)
 exact bodyPost_ret (v:=.tuple #[r5,.bool false]) (by simp only [results,Tryz.results131];go_simp) rfl ⟨_,rfl,hr5,hB3.trans (hb5.mono hB3.size)⟩
theorem wh_3t:Calls Tryz.prog 131 #[.int .i64 3,.bool true,va,vb] w fun e w'=>∃ q,e=.returned (.tuple #[q,.bool false])/\NV 41002 (Q) q w'/\Below w.heap.size w w':=by
 go_enter Tryz.func131,Tryz.ntmps131
 go_wp2_with (first
  | (go_at_call 92;refine c99.mono ?_;rintro e w1 ⟨q,g,k,cap,rfl,hk,hq,hb1,c84⟩;have hki:((k:Int)==0)=false:=by simp;omega)
  | (go_at_call 87;refine c84.mono ?_;rintro e w2 ⟨r2,rfl,hb2,c21⟩;have hq2:=hq.next hb2;have hB2:=hb1.trans (hb2.mono hb1.size))
  | (go_at_call 88;refine c21.mono ?_;rintro e w3 ⟨rfl,rfl⟩)
  | (go_at_call 186;refine (c100 _ _ hq2).mono ?_;rintro e w4 ⟨rfl,rfl⟩)
  | (go_at_call 63;refine (c24 _ _ _ (hq2.next (zBa _ _)) (zCf rfl rfl (by decide))).mono ?_;rintro e w5 ⟨r5,rfl,hr5,hb5⟩))
 exact bodyPost_ret (v:=.tuple #[q,.bool false]) (by simp only [results,Tryz.results131];go_simp) rfl ⟨_,rfl,hq2.more (by decide),hB2⟩
theorem wh_4t:Calls Tryz.prog 131 #[.int .i64 4,.bool true,va,vb] w fun e w'=>∃ q,e=.returned (.tuple #[q,.bool false])/\NV 41002 (Q+1) q w'/\Below w.heap.size w w':=by
 go_enter Tryz.func131,Tryz.ntmps131
 go_wp2_with (first
  | (go_at_call 92;refine c99.mono ?_;rintro e w1 ⟨q,g,k,cap,rfl,hk,hq,hb1,c84⟩;have hki:((k:Int)==0)=false:=by simp;omega)
  | (go_at_call 87;refine c84.mono ?_;rintro e w2 ⟨r2,rfl,hb2,c21⟩;have hq2:=hq.next hb2;have hB2:=hb1.trans (hb2.mono hb1.size))
  | (go_at_call 88;refine c21.mono ?_;rintro e w3 ⟨rfl,rfl⟩)
  | (go_at_call 186;refine (c100 _ _ hq2).mono ?_;rintro e w4 ⟨rfl,rfl⟩)
  | (go_at_call 63;refine (c24 _ _ _ (hq2.next (zBa _ _)) (zCf rfl rfl (by decide))).mono ?_;rintro e w5 ⟨r5,rfl,hr5,hb5⟩))
 have hB3:=hB2.trans ((zBa w2 (.cells #[.int .u64 1] 22)).mono hB2.size)
 exact bodyPost_ret (v:=.tuple #[r5,.bool false]) (by simp only [results,Tryz.results131];go_simp) rfl ⟨_,rfl,hr5,hB3.trans (hb5.mono hB3.size)⟩
theorem wh_4f:Calls Tryz.prog 131 #[.int .i64 4,.bool false,va,vb] w fun e w'=>∃ q,e=.returned (.tuple #[q,.bool false])/\NV 41002 (Q) q w'/\Below w.heap.size w w':=by
 go_enter Tryz.func131,Tryz.ntmps131
 go_wp2_with (first
  | (go_at_call 92;refine c99.mono ?_;rintro e w1 ⟨q,g,k,cap,rfl,hk,hq,hb1,c84⟩;have hki:((k:Int)==0)=false:=by simp;omega)
  | (go_at_call 87;refine c84.mono ?_;rintro e w2 ⟨r2,rfl,hb2,c21⟩;have hq2:=hq.next hb2;have hB2:=hb1.trans (hb2.mono hb1.size))
  | (go_at_call 88;refine c21.mono ?_;rintro e w3 ⟨rfl,rfl⟩)
  | (go_at_call 186;refine (c100 _ _ hq2).mono ?_;rintro e w4 ⟨rfl,rfl⟩)
  | (go_at_call 63;refine (c24 _ _ _ (hq2.next (zBa _ _)) (zCf rfl rfl (by decide))).mono ?_;rintro e w5 ⟨r5,rfl,hr5,hb5⟩))
 exact bodyPost_ret (v:=.tuple #[q,.bool false]) (by simp only [results,Tryz.results131];go_simp) rfl ⟨_,rfl,hq2.more (by decide),hB2⟩
end
theorem wh_z (d:Int)(s:Bool)(va vb:Value)(Q:Nat)(w:World)
  (c99:Calls Tryz.prog 92 #[va,vb] w fun e w1=>∃ q g cap,e=.returned (.tuple #[q,.slice (some ⟨g,0,none⟩) 0 cap])/\NV 41000 Q q w1/\Below w.heap.size w w1) :
  Calls Tryz.prog 131 #[.int .i64 d,.bool s,va,vb] w fun e w'=>∃ q,e=.returned (.tuple #[q,.bool true])/\NV 41002 Q q w'/\Below w.heap.size w w':=by
 go_enter Tryz.func131,Tryz.ntmps131
 go_wp2_with (go_at_call 92;refine c99.mono ?_;rintro e w1 ⟨q,g,cap,rfl,hq,hb1⟩)
 exact bodyPost_ret (v:=.tuple #[q,.bool true]) (by simp only [results,Tryz.results131];go_simp) rfl ⟨_,rfl,hq.more (by decide),hb1⟩
theorem zIz {K A B:Nat}{va vb:Value}{w:World}(d:Int)(s:Bool)(hkn:knB d)(hK:K<=20000)(h:NT K A va w)(h':NT K B vb w)(hB:B≠0) :
  Calls Tryz.prog 131 #[.int .i64 d,.bool s,va,vb] w fun e w'=>∃ q,e=.returned (.tuple #[q,.bool (decide (A%B=0))])/\NV 41002 (whC d s A B) q w'/\Below w.heap.size w w':=by
 have c99:=zU0 hK h h' hB
 unfold whC
 by_cases hR:A%B=0
 ·rw [decide_eq_true hR,hR,show faB d s (decide (A/B%2=1)) 0 B=false from if_pos rfl]
  rw [hR] at c99
  refine wh_z d s va vb _ w (c99.mono fun e w1 ⟨q,r,e1,e2,e3,e4⟩=>?_)
  obtain ⟨g,k,cap,rfl,_,hz⟩:=e3.zero
  obtain rfl:=hz.2 rfl
  exact ⟨q,g,cap,e1,e2,e4⟩
 ·rw [decide_eq_false hR]
  have c99':Calls Tryz.prog 92 #[va,vb] w fun e w1=>∃ q g k cap,e=.returned (.tuple #[q,.slice (some ⟨g,0,none⟩) k cap])/\k≠0/\NV 41000 (A/B) q w1/\Below w.heap.size w w1/\Calls Tryz.prog 87 #[.slice (some ⟨g,0,none⟩) k cap,.int .i64 1] w1 fun e w2=>∃ r2,e=.returned r2/\Below w1.heap.size w1 w2/\Calls Tryz.prog 88 #[r2,vb] w2 fun e w3=>e=.returned (.int .i64 (sgn ((A%B+A%B:Nat):Int) (B:Int)))/\w2=w3:=by
   refine c99.mono fun e w1 ⟨q,r,e1,e2,e3,e4⟩=>?_
   have c84:=zSq 1 (by decide) (by decide) e3.nv
   obtain ⟨g,k,cap,rfl,_,hz⟩:=e3.zero
   refine ⟨q,g,k,cap,e1,fun hk=>hR (hz.1 hk),e2,e4,c84.mono fun e w2 ⟨r2,f1,f2,f3⟩=>⟨r2,f1,f3,?_⟩⟩
   have:=zQl (by decide) (by omega) f2.nv ((h'.next e4).next f3).nv
   rw [Nat.pow_one,Nat.mul_two] at this
   exact this
  have c100:=fun W q (hq:NV 41000 (A/B) q W)=>q2_nv (by decide) hq
  have c24:=fun W q v (hq:NV 41000 (A/B) q W) (h1:NV 1 1 v W)=>zJp (by decide) (by decide) hq h1
  have hd:d=0∨d=1∨d=2∨d=3∨d=4:=by unfold knB at hkn;omega
  have sw:=zBc ((A%B+A%B:Nat):Int) (B:Int)
  unfold faB
  rw [if_neg hR]
  rcases hd with rfl|rfl|rfl|rfl|rfl
  ·rw [if_pos rfl]
   rcases sw with ⟨a,e⟩|⟨a,e⟩|⟨a,e⟩
   ·rw [decide_eq_false (show ¬ B<A%B+A%B by omega),decide_eq_false (show ¬ A%B+A%B=B by omega)]
    exact wh_0l _ s _ va vb _ w c99' c100 c24 (by omega) (by rw [e];rfl)
   ·rw [decide_eq_false (show ¬ B<A%B+A%B by omega),decide_eq_true (show A%B+A%B=B by omega)]
    cases ho:decide (A/B%2=1)
    ·exact wh_0en _ s _ va vb _ w c99' c100 c24 e ho
    ·exact wh_0eo _ s _ va vb _ w c99' c100 c24 e ho
   ·rw [decide_eq_true (show B<A%B+A%B by omega)]
    exact wh_0g _ s _ va vb _ w c99' c100 c24 (by omega)
  ·rw [if_neg (show ¬ (1:Int)=0 by decide),if_pos (show (1:Int)=1 from rfl)]
   rcases sw with ⟨a,e⟩|⟨a,e⟩|⟨a,e⟩
   ·rw [decide_eq_false (show ¬ B<=A%B+A%B by omega)]
    exact wh_1l _ s _ va vb _ w c99' c100 c24 (by omega)
   ·rw [decide_eq_true (show B<=A%B+A%B by omega)]
    exact wh_1g _ s _ va vb _ w c99' c100 c24 (by omega)
   ·rw [decide_eq_true (show B<=A%B+A%B by omega)]
    exact wh_1g _ s _ va vb _ w c99' c100 c24 (by omega)
  ·exact wh_2 _ s _ va vb _ w c99' c100 c24
  ·cases s
   ·exact wh_3f _ _ va vb _ w c99' c100 c24
   ·exact wh_3t _ _ va vb _ w c99' c100 c24
  ·cases s
   ·exact wh_4f _ _ va vb _ w c99' c100 c24
   ·exact wh_4t _ _ va vb _ w c99' c100 c24
end
section
theorem NT.tight {K K' V:Nat}{v:Value}{w:World}(h:NT K V v w)(hb:bl V<=64*K'):NT K' V v w:=by
 obtain ⟨g,k,cap,z,h1,h2,h3,h4,h5⟩:=h
 exact ⟨g,k,cap,z,h1,by have:=(zZd (m:=K') h3.2.2.1 h4).2 hb;omega,h3,h4,h5⟩
section
variable (x:Int)(vn vd:Value)(A KK:Nat)(w:World)(hx:-12000<=x/\x<=12000)
include hx
end
theorem zDg (k:Nat):bl (10^k)<=4*k+1:=by
 refine bl_le.2 ?_
 have h1:10^k<=16^k:=Nat.pow_le_pow_left (by decide) k
 have h2:(16:Nat)^k=2^(4*k):=by rw [Nat.pow_mul]
 have h3:(2:Nat)^(4*k)<2^(4*k+1):=Nat.pow_lt_pow_right (by decide) (by omega)
 omega
attribute [local irreducible] W4 NT NV
end
section
theorem zVd {g X:Nat}{W:World}(hX:X<2^256)(hg:g<W.heap.size)(h0:W.cell? ⟨g,0,none⟩=some (.int .u64 (W4 X 0)))(h1:W.cell? ⟨g,1,none⟩=some (.int .u64 (W4 X 1)))(h2:W.cell? ⟨g,2,none⟩=some (.int .u64 (W4 X 2)))(h3:W.cell? ⟨g,3,none⟩=some (.int .u64 (W4 X 3))):NV 4 X (.slice (some ⟨g,0,none⟩) 4 4) W:=by
 refine ⟨g,4,4,zDf (W4 X) 4,rfl,Nat.le_refl _,⟨Nat.le_refl _,by unfold maxLen;omega,zSf (zHa X) 4,fun i hi=>zYe hi,Or.inr ⟨g,0,rfl,hg,fun i hi=>?_⟩⟩,?_⟩
 ·rw [zMb hi]
  have:i=0∨i=1∨i=2∨i=3:=by omega
  rcases this with rfl|rfl|rfl|rfl
  ·exact h0
  ·exact h1
  ·exact h2
  ·exact h3
 ·rw [zIa (x:=zDf (W4 X) 4) (y:=W4 X) 4 (fun i hi=>zMb hi),zOb hX]
theorem zDj {K V:Nat}{v:Value}{w:World}(h:NV K V v w)(hK:K<100000)(hV:V<9223372036854775808) :
    Calls Tryz.prog 61 #[v] w fun e w'=>e=.returned (.int .i64 V)/\w'=w:=by
  obtain ⟨g,k,cap,z,rfl,hk,hN,hv⟩:=h
  obtain ⟨h1,h2,h3,h4,h5⟩:=hN
  rcases h5 with ⟨h5,_⟩|⟨b,off,e,hb,hc⟩
  · cases h5
  · cases e
    rcases Nat.eq_zero_or_pos k with hk0|hk0
    · subst hk0
      have : V = 0 := by have : val z 0 = 0 := rfl
                         omega
      subst this
      go_enter Tryz.func61,Tryz.ntmps61
      go_wp2
      go_ret
      exact ⟨rfl,rfl⟩
    · have hc0:=hc 0 hk0
      have hz0:=h3 0
      have e0:z 0=(V:Int):=by
        have hl:=zBw h3 h4 hv
        obtain ⟨j,rfl⟩:∃ j,k=1+j:=⟨k-1,by omega⟩
        have hs:=zSb z 1 j
        have hb2:=zOa (zLb h3 1 j) j
        have h10:val z 1=z 0:=by show val z 0+z 0*18446744073709551616^0=z 0;simp [val]
        rw [hv,h10] at hs
        simp only [Int.pow_one] at hs
        have hm:0<=val (segW z 1 j) j:=hb2.1
        by_cases hp:0<val (segW z 1 j) j
        · exfalso;omega
        · have:val (segW z 1 j) j=0:=by omega
          rw [this] at hs;omega
      have hk1:¬ ((k:Int)=0):=by omega
      rw [e0] at hc0
      simp only [Nat.add_zero] at hc0
      have hkb:(k==0)=false:=by simp;omega
      have hki:(0:Int)<k:=by omega
      clear hc h3 h4 hv e0 hz0
      go_enter Tryz.func61,Tryz.ntmps61
      go_wp2
      go_ret
      exact ⟨rfl,rfl⟩
attribute [local irreducible] W4 NT NV
section
variable (n:Int)(nm:ByteArray)(wd pr ex le mo pa:Int)(G T J:Int)(x:Int)(k S:Nat)(w:World)
 (cD:∀ W,CQ 15 #[.int .i64 n] W (.bool true))
 (hG0:11<=G) (hG1:G<=100) (hT0:0<=T) (hT1:T<=200) (hJ0:0<=J) (hJ1:J<=11)
 (cN:∀ W,Calls Tryz.prog 66 #[A4 k] W fun r w'=>∃ g n cap,r=.returned (.slice (some ⟨g,0,none⟩) n cap)/\W.heap.size<g/\NT 4 k (.slice (some ⟨g,0,none⟩) n cap) w'/\Below W.heap.size W w')
include cD hG0 hG1 hT0 hT1 hJ0 hJ1 cN
theorem vpk2_t (R:Nat)(g dn:Bool)
  (cO:∀ W,CB 20 #[.int .i64 n] W (.tuple #[zEb n nm wd pr ex le mo pa dn,.int .i64 0]))
  (cI:∀ W,CB 89 #[zEb n nm wd pr ex le mo pa dn,DV 2 true g x k] W (.bool true))
  (cS:∀ W,CB 83 #[zEb n nm wd pr ex le mo pa dn] W (.tuple #[.int .i64 G,.int .i64 T,.int .i64 J]))
  (cL1:∀ W v,NV 1 1 v W->CB 90 #[Z4,v,.int .i64 (T+G)] W (A4 S))
  (cL2:∀ W v,NV 1 30 v W->CB 90 #[A4 S,v,.int .i64 (T+G-5)] W (A4 R)) :
  CB 43 #[.int .i64 n,DV 2 true g x k] w (.tuple #[A4 R,.int .i64 0]):=by
 have hsm:=zAa
 unfold DV A4 Z4 at *
 go_enter Tryz.func43,Tryz.ntmps43
 go_wp2_with (first
  | (go_at_call 15;refine (cD _).mono ?_;rintro r w0 ⟨rfl,rfl⟩)
  | (go_at_call 20;refine wk w (cO _) ?_;intro w1 hb1 _ _ _ _ hA1 _;obtain ⟨_,_⟩:=zf hb1 (w.heap.size+1);clear hb1)
  | (go_at_call 89;refine wk w (cI _) ?_;intro w2 hb2 _ _ _ _ hA2 _;obtain ⟨_,_,_,_⟩:=zg hb2 (w.heap.size+1) w1.heap.size;clear hb2)
  | (go_at_call 83;refine wk w (cS _) ?_;intro w3 hb3 _ _ _ _ hA3 _;obtain ⟨_,_,_,_⟩:=zg hb3 (w.heap.size+1) w1.heap.size;clear hb3;have q0:w.heap.size<w3.heap.size+1+1:=(by omega);have q1:w.heap.size+1<w3.heap.size+1+1:=(by omega);have q2:w1.heap.size<w3.heap.size+1+1:=(by omega);have q3:w3.heap.size<w3.heap.size+1+1:=(by omega))
  | (go_at_call 90;refine (cL1 _ _ (zYa (by simp) (by rfl) (by decide))).mono ?_;rintro r w4 ⟨rfl,hb4⟩;clear cL1;obtain ⟨_,_,_,_,hA4,_⟩:=wz w hb4;obtain ⟨_,_,_,_,_,_⟩:=zh hb4 (w.heap.size+1) w1.heap.size w3.heap.size;clear hb4)
  | (go_at_call 66;refine (cN _).mono ?_;rintro r w5 ⟨gn,nn,cn,rfl,hg5,hn5,hb5⟩;have hgn:gn≠w3.heap.size:=(by first|omega|(simp at hg5;omega));clear hg5;obtain ⟨_,_,_,_,hA5,_⟩:=wz w hb5;obtain ⟨_,_,_,_,_,_⟩:=zh hb5 (w.heap.size+1) w1.heap.size w3.heap.size;clear hb5)
  | (go_at_call 90;refine wk w (cL2 _ _ (zYa (by simp) (by rfl) (by decide))) ?_;intro w6 hb6 _ _ _ _ hA6 _;obtain ⟨_,_,_,_,_,_⟩:=zh hb6 (w.heap.size+1) w1.heap.size w3.heap.size;clear hb6))
 exact bodyPost_ret (v:=.tuple #[A4 R,.int .i64 0]) (by simp only [results,Tryz.results43];go_simp) rfl ⟨rfl,bgo⟩
theorem zLz (R:Nat)(R1 R2 p:Nat)
  (cO:∀ W,CB 20 #[.int .i64 n] W (.tuple #[zEb n nm wd pr ex le mo pa true,.int .i64 0]))
  (cI:∀ W,CB 89 #[zEb n nm wd pr ex le mo pa true,DV 3 true true x k] W (.bool true))
  (cS:∀ W,CB 83 #[zEb n nm wd pr ex le mo pa true] W (.tuple #[.int .i64 G,.int .i64 T,.int .i64 J]))
  (cL1:∀ W v,NV 1 1 v W->CB 90 #[Z4,v,.int .i64 (T+G)] W (A4 S))
  (cL3:∀ W v,NV 1 31 v W->CB 90 #[A4 S,v,.int .i64 (T+G-5)] W (A4 R1))
  (cL4:∀ W v,NV 1 1 v W->CB 90 #[A4 R1,v,.int .i64 (T+G-6)] W (A4 R2))
  (hp:p<2^256) (cP:∀ W,CB 91 #[A4 k,.int .i64 J] W (.tuple #[A4 p,.int .i64 0]))
  (cL5:∀ W v,NV 4 p v W->CB 90 #[A4 R2,v,.int .i64 0] W (A4 R)) :
  CB 43 #[.int .i64 n,DV 3 true true x k] w (.tuple #[A4 R,.int .i64 0]):=by
 have hsm:=zAa
 unfold DV A4 Z4 at *
 go_enter Tryz.func43,Tryz.ntmps43
 go_wp2_with (first
  | (go_at_call 15;refine (cD _).mono ?_;rintro r w0 ⟨rfl,rfl⟩)
  | (go_at_call 20;refine wk w (cO _) ?_;intro w1 hb1 _ _ _ _ hA1 _;obtain ⟨_,_⟩:=zf hb1 (w.heap.size+1);clear hb1)
  | (go_at_call 89;refine wk w (cI _) ?_;intro w2 hb2 _ _ _ _ hA2 _;obtain ⟨_,_,_,_⟩:=zg hb2 (w.heap.size+1) w1.heap.size;clear hb2)
  | (go_at_call 83;refine wk w (cS _) ?_;intro w3 hb3 _ _ _ _ hA3 _;obtain ⟨_,_,_,_⟩:=zg hb3 (w.heap.size+1) w1.heap.size;clear hb3;have q0:w.heap.size<w3.heap.size+1+1:=(by omega);have q1:w.heap.size+1<w3.heap.size+1+1:=(by omega);have q2:w1.heap.size<w3.heap.size+1+1:=(by omega);have q3:w3.heap.size<w3.heap.size+1+1:=(by omega))
  | (go_at_call 90;refine (cL1 _ _ (zYa (by simp) (by rfl) (by decide))).mono ?_;rintro r w4 ⟨rfl,hb4⟩;clear cL1;obtain ⟨_,_,_,_,hA4,_⟩:=wz w hb4;obtain ⟨_,_,_,_,_,_⟩:=zh hb4 (w.heap.size+1) w1.heap.size w3.heap.size;clear hb4)
  | (go_at_call 66;refine (cN _).mono ?_;rintro r w5 ⟨gn,nn,cn,rfl,hg5,hn5,hb5⟩;have hgn:gn≠w3.heap.size:=(by first|omega|(simp at hg5;omega));clear hg5;obtain ⟨_,_,_,_,hA5,_⟩:=wz w hb5;obtain ⟨_,_,_,_,_,_⟩:=zh hb5 (w.heap.size+1) w1.heap.size w3.heap.size;clear hb5)
  | (go_at_call 90;refine (cL3 _ _ (zYa (by simp) (by rfl) (by decide))).mono ?_;rintro r w6 ⟨rfl,hb6⟩;clear cL3;obtain ⟨_,_,_,_,hA6,_⟩:=wz w hb6;obtain ⟨_,_,_,_,_,_⟩:=zh hb6 (w.heap.size+1) w1.heap.size w3.heap.size;clear hb6)
  | (go_at_call 90;refine (cL4 _ _ (zYa (by simp) (by rfl) (by decide))).mono ?_;rintro r w7 ⟨rfl,hb7⟩;clear cL4;obtain ⟨_,_,_,_,hA7,_⟩:=wz w hb7;obtain ⟨_,_,_,_,_,_⟩:=zh hb7 (w.heap.size+1) w1.heap.size w3.heap.size;clear hb7)
  | (go_at_call 91;refine wk w (cP _) ?_;intro w8 hb8 _ _ _ _ hA8 _;obtain ⟨_,_,_,_,_,_⟩:=zh hb8 (w.heap.size+1) w1.heap.size w3.heap.size;clear hb8)
  | (go_at_call 90;refine wk w (cL5 _ _ (zVd hp (by simp) (by go_simp) (by go_simp) (by go_simp) (by go_simp))) ?_;intro w9 hb9 _ _ _ _ hA9 _;obtain ⟨_,_,_,_,_,_⟩:=zh hb9 (w.heap.size+1) w1.heap.size w3.heap.size;clear hb9))
 exact bodyPost_ret (v:=.tuple #[A4 R,.int .i64 0]) (by simp only [results,Tryz.results43];go_simp) rfl ⟨rfl,bgo⟩
theorem zMz (R:Nat)(R1 R2:Nat)
  (cO:∀ W,CB 20 #[.int .i64 n] W (.tuple #[zEb n nm wd pr ex le mo pa false,.int .i64 0]))
  (cI:∀ W,CB 89 #[zEb n nm wd pr ex le mo pa false,DV 3 true true x k] W (.bool true))
  (cS:∀ W,CB 83 #[zEb n nm wd pr ex le mo pa false] W (.tuple #[.int .i64 G,.int .i64 T,.int .i64 J]))
  (cL1:∀ W v,NV 1 1 v W->CB 90 #[Z4,v,.int .i64 (T+G)] W (A4 S))
  (cL3:∀ W v,NV 1 31 v W->CB 90 #[A4 S,v,.int .i64 (T+G-5)] W (A4 R1))
  (cL4:∀ W v,NV 1 1 v W->CB 90 #[A4 R1,v,.int .i64 (T+G-6)] W (A4 R2))
  (cL5:∀ W v,NV 4 k v W->CB 90 #[A4 R2,v,.int .i64 0] W (A4 R)) :
  CB 43 #[.int .i64 n,DV 3 true true x k] w (.tuple #[A4 R,.int .i64 0]):=by
 have hsm:=zAa
 unfold DV A4 Z4 at *
 go_enter Tryz.func43,Tryz.ntmps43
 go_wp2_with (first
  | (go_at_call 15;refine (cD _).mono ?_;rintro r w0 ⟨rfl,rfl⟩)
  | (go_at_call 20;refine wk w (cO _) ?_;intro w1 hb1 _ _ _ _ hA1 _;obtain ⟨_,_⟩:=zf hb1 (w.heap.size+1);clear hb1)
  | (go_at_call 89;refine wk w (cI _) ?_;intro w2 hb2 _ _ _ _ hA2 _;obtain ⟨_,_,_,_⟩:=zg hb2 (w.heap.size+1) w1.heap.size;clear hb2)
  | (go_at_call 83;refine wk w (cS _) ?_;intro w3 hb3 _ _ _ _ hA3 _;obtain ⟨_,_,_,_⟩:=zg hb3 (w.heap.size+1) w1.heap.size;clear hb3;have q0:w.heap.size<w3.heap.size+1+1:=(by omega);have q1:w.heap.size+1<w3.heap.size+1+1:=(by omega);have q2:w1.heap.size<w3.heap.size+1+1:=(by omega);have q3:w3.heap.size<w3.heap.size+1+1:=(by omega))
  | (go_at_call 90;refine (cL1 _ _ (zYa (by simp) (by rfl) (by decide))).mono ?_;rintro r w4 ⟨rfl,hb4⟩;clear cL1;obtain ⟨_,_,_,_,hA4,_⟩:=wz w hb4;obtain ⟨_,_,_,_,_,_⟩:=zh hb4 (w.heap.size+1) w1.heap.size w3.heap.size;clear hb4)
  | (go_at_call 66;refine (cN _).mono ?_;rintro r w5 ⟨gn,nn,cn,rfl,hg5,hn5,hb5⟩;have hgn:gn≠w3.heap.size:=(by first|omega|(simp at hg5;omega));clear hg5;obtain ⟨_,_,_,_,hA5,_⟩:=wz w hb5;obtain ⟨_,_,_,_,_,_⟩:=zh hb5 (w.heap.size+1) w1.heap.size w3.heap.size;clear hb5)
  | (go_at_call 90;refine (cL3 _ _ (zYa (by simp) (by rfl) (by decide))).mono ?_;rintro r w6 ⟨rfl,hb6⟩;clear cL3;have hn6:=((hn5.next (zBa _ _)).next hb6).upd hgn (zBb _ _ R1);obtain ⟨_,_,_,_,hA6,_⟩:=wz w hb6;obtain ⟨_,_,_,_,_,_⟩:=zh hb6 (w.heap.size+1) w1.heap.size w3.heap.size;clear hb6)
  | (go_at_call 90;refine (cL4 _ _ (zYa (by simp) (by rfl) (by decide))).mono ?_;rintro r w7 ⟨rfl,hb7⟩;clear cL4;have hn7:=((hn6.next (zBa _ _)).next hb7).upd hgn (zBb _ _ R2);obtain ⟨_,_,_,_,hA7,_⟩:=wz w hb7;obtain ⟨_,_,_,_,_,_⟩:=zh hb7 (w.heap.size+1) w1.heap.size w3.heap.size;clear hb7)
  | (go_at_call 90;refine wk w (cL5 _ _ hn7.nv) ?_;intro w9 hb9 _ _ _ _ hA9 _;obtain ⟨_,_,_,_,_,_⟩:=zh hb9 (w.heap.size+1) w1.heap.size w3.heap.size;clear hb9))
 exact bodyPost_ret (v:=.tuple #[A4 R,.int .i64 0]) (by simp only [results,Tryz.results43];go_simp) rfl ⟨rfl,bgo⟩
theorem zNz (R:Nat)(R1 p:Nat)
  (cO:∀ W,CB 20 #[.int .i64 n] W (.tuple #[zEb n nm wd pr ex le mo pa true,.int .i64 0]))
  (cI:∀ W,CB 89 #[zEb n nm wd pr ex le mo pa true,DV 3 true false x k] W (.bool true))
  (cS:∀ W,CB 83 #[zEb n nm wd pr ex le mo pa true] W (.tuple #[.int .i64 G,.int .i64 T,.int .i64 J]))
  (cL1:∀ W v,NV 1 1 v W->CB 90 #[Z4,v,.int .i64 (T+G)] W (A4 S))
  (cL3:∀ W v,NV 1 31 v W->CB 90 #[A4 S,v,.int .i64 (T+G-5)] W (A4 R1))
  (hp:p<2^256) (cP:∀ W,CB 91 #[A4 k,.int .i64 J] W (.tuple #[A4 p,.int .i64 0]))
  (cL5:∀ W v,NV 4 p v W->CB 90 #[A4 R1,v,.int .i64 0] W (A4 R)) :
  CB 43 #[.int .i64 n,DV 3 true false x k] w (.tuple #[A4 R,.int .i64 0]):=by
 have hsm:=zAa
 unfold DV A4 Z4 at *
 go_enter Tryz.func43,Tryz.ntmps43
 go_wp2_with (first
  | (go_at_call 15;refine (cD _).mono ?_;rintro r w0 ⟨rfl,rfl⟩)
  | (go_at_call 20;refine wk w (cO _) ?_;intro w1 hb1 _ _ _ _ hA1 _;obtain ⟨_,_⟩:=zf hb1 (w.heap.size+1);clear hb1)
  | (go_at_call 89;refine wk w (cI _) ?_;intro w2 hb2 _ _ _ _ hA2 _;obtain ⟨_,_,_,_⟩:=zg hb2 (w.heap.size+1) w1.heap.size;clear hb2)
  | (go_at_call 83;refine wk w (cS _) ?_;intro w3 hb3 _ _ _ _ hA3 _;obtain ⟨_,_,_,_⟩:=zg hb3 (w.heap.size+1) w1.heap.size;clear hb3;have q0:w.heap.size<w3.heap.size+1+1:=(by omega);have q1:w.heap.size+1<w3.heap.size+1+1:=(by omega);have q2:w1.heap.size<w3.heap.size+1+1:=(by omega);have q3:w3.heap.size<w3.heap.size+1+1:=(by omega))
  | (go_at_call 90;refine (cL1 _ _ (zYa (by simp) (by rfl) (by decide))).mono ?_;rintro r w4 ⟨rfl,hb4⟩;clear cL1;obtain ⟨_,_,_,_,hA4,_⟩:=wz w hb4;obtain ⟨_,_,_,_,_,_⟩:=zh hb4 (w.heap.size+1) w1.heap.size w3.heap.size;clear hb4)
  | (go_at_call 66;refine (cN _).mono ?_;rintro r w5 ⟨gn,nn,cn,rfl,hg5,hn5,hb5⟩;have hgn:gn≠w3.heap.size:=(by first|omega|(simp at hg5;omega));clear hg5;obtain ⟨_,_,_,_,hA5,_⟩:=wz w hb5;obtain ⟨_,_,_,_,_,_⟩:=zh hb5 (w.heap.size+1) w1.heap.size w3.heap.size;clear hb5)
  | (go_at_call 90;refine (cL3 _ _ (zYa (by simp) (by rfl) (by decide))).mono ?_;rintro r w6 ⟨rfl,hb6⟩;clear cL3;obtain ⟨_,_,_,_,hA6,_⟩:=wz w hb6;obtain ⟨_,_,_,_,_,_⟩:=zh hb6 (w.heap.size+1) w1.heap.size w3.heap.size;clear hb6)
  | (go_at_call 91;refine wk w (cP _) ?_;intro w8 hb8 _ _ _ _ hA8 _;obtain ⟨_,_,_,_,_,_⟩:=zh hb8 (w.heap.size+1) w1.heap.size w3.heap.size;clear hb8)
  | (go_at_call 90;refine wk w (cL5 _ _ (zVd hp (by simp) (by go_simp) (by go_simp) (by go_simp) (by go_simp))) ?_;intro w9 hb9 _ _ _ _ hA9 _;obtain ⟨_,_,_,_,_,_⟩:=zh hb9 (w.heap.size+1) w1.heap.size w3.heap.size;clear hb9))
 exact bodyPost_ret (v:=.tuple #[A4 R,.int .i64 0]) (by simp only [results,Tryz.results43];go_simp) rfl ⟨rfl,bgo⟩
theorem zOz (R:Nat)(R1:Nat)
  (cO:∀ W,CB 20 #[.int .i64 n] W (.tuple #[zEb n nm wd pr ex le mo pa false,.int .i64 0]))
  (cI:∀ W,CB 89 #[zEb n nm wd pr ex le mo pa false,DV 3 true false x k] W (.bool true))
  (cS:∀ W,CB 83 #[zEb n nm wd pr ex le mo pa false] W (.tuple #[.int .i64 G,.int .i64 T,.int .i64 J]))
  (cL1:∀ W v,NV 1 1 v W->CB 90 #[Z4,v,.int .i64 (T+G)] W (A4 S))
  (cL3:∀ W v,NV 1 31 v W->CB 90 #[A4 S,v,.int .i64 (T+G-5)] W (A4 R1))
  (cL5:∀ W v,NV 4 k v W->CB 90 #[A4 R1,v,.int .i64 0] W (A4 R)) :
  CB 43 #[.int .i64 n,DV 3 true false x k] w (.tuple #[A4 R,.int .i64 0]):=by
 have hsm:=zAa
 unfold DV A4 Z4 at *
 go_enter Tryz.func43,Tryz.ntmps43
 go_wp2_with (first
  | (go_at_call 15;refine (cD _).mono ?_;rintro r w0 ⟨rfl,rfl⟩)
  | (go_at_call 20;refine wk w (cO _) ?_;intro w1 hb1 _ _ _ _ hA1 _;obtain ⟨_,_⟩:=zf hb1 (w.heap.size+1);clear hb1)
  | (go_at_call 89;refine wk w (cI _) ?_;intro w2 hb2 _ _ _ _ hA2 _;obtain ⟨_,_,_,_⟩:=zg hb2 (w.heap.size+1) w1.heap.size;clear hb2)
  | (go_at_call 83;refine wk w (cS _) ?_;intro w3 hb3 _ _ _ _ hA3 _;obtain ⟨_,_,_,_⟩:=zg hb3 (w.heap.size+1) w1.heap.size;clear hb3;have q0:w.heap.size<w3.heap.size+1+1:=(by omega);have q1:w.heap.size+1<w3.heap.size+1+1:=(by omega);have q2:w1.heap.size<w3.heap.size+1+1:=(by omega);have q3:w3.heap.size<w3.heap.size+1+1:=(by omega))
  | (go_at_call 90;refine (cL1 _ _ (zYa (by simp) (by rfl) (by decide))).mono ?_;rintro r w4 ⟨rfl,hb4⟩;clear cL1;obtain ⟨_,_,_,_,hA4,_⟩:=wz w hb4;obtain ⟨_,_,_,_,_,_⟩:=zh hb4 (w.heap.size+1) w1.heap.size w3.heap.size;clear hb4)
  | (go_at_call 66;refine (cN _).mono ?_;rintro r w5 ⟨gn,nn,cn,rfl,hg5,hn5,hb5⟩;have hgn:gn≠w3.heap.size:=(by first|omega|(simp at hg5;omega));clear hg5;obtain ⟨_,_,_,_,hA5,_⟩:=wz w hb5;obtain ⟨_,_,_,_,_,_⟩:=zh hb5 (w.heap.size+1) w1.heap.size w3.heap.size;clear hb5)
  | (go_at_call 90;refine (cL3 _ _ (zYa (by simp) (by rfl) (by decide))).mono ?_;rintro r w6 ⟨rfl,hb6⟩;clear cL3;have hn6:=((hn5.next (zBa _ _)).next hb6).upd hgn (zBb _ _ R1);obtain ⟨_,_,_,_,hA6,_⟩:=wz w hb6;obtain ⟨_,_,_,_,_,_⟩:=zh hb6 (w.heap.size+1) w1.heap.size w3.heap.size;clear hb6)
  | (go_at_call 90;refine wk w (cL5 _ _ hn6.nv) ?_;intro w9 hb9 _ _ _ _ hA9 _;obtain ⟨_,_,_,_,_,_⟩:=zh hb9 (w.heap.size+1) w1.heap.size w3.heap.size;clear hb9))
 exact bodyPost_ret (v:=.tuple #[A4 R,.int .i64 0]) (by simp only [results,Tryz.results43];go_simp) rfl ⟨rfl,bgo⟩
theorem vpk2_f (R:Nat)(g dn:Bool)
  (cO:∀ W,CB 20 #[.int .i64 n] W (.tuple #[zEb n nm wd pr ex le mo pa dn,.int .i64 0]))
  (cI:∀ W,CB 89 #[zEb n nm wd pr ex le mo pa dn,DV 2 false g x k] W (.bool true))
  (cS:∀ W,CB 83 #[zEb n nm wd pr ex le mo pa dn] W (.tuple #[.int .i64 G,.int .i64 T,.int .i64 J]))
  (cL2:∀ W v,NV 1 30 v W->CB 90 #[Z4,v,.int .i64 (T+G-5)] W (A4 R)) :
  CB 43 #[.int .i64 n,DV 2 false g x k] w (.tuple #[A4 R,.int .i64 0]):=by
 have hsm:=zAa
 unfold DV A4 Z4 at *
 go_enter Tryz.func43,Tryz.ntmps43
 go_wp2_with (first
  | (go_at_call 15;refine (cD _).mono ?_;rintro r w0 ⟨rfl,rfl⟩)
  | (go_at_call 20;refine wk w (cO _) ?_;intro w1 hb1 _ _ _ _ hA1 _;obtain ⟨_,_⟩:=zf hb1 (w.heap.size+1);clear hb1)
  | (go_at_call 89;refine wk w (cI _) ?_;intro w2 hb2 _ _ _ _ hA2 _;obtain ⟨_,_,_,_⟩:=zg hb2 (w.heap.size+1) w1.heap.size;clear hb2)
  | (go_at_call 83;refine wk w (cS _) ?_;intro w3 hb3 _ _ _ _ hA3 _;obtain ⟨_,_,_,_⟩:=zg hb3 (w.heap.size+1) w1.heap.size;clear hb3;have q0:w.heap.size<w3.heap.size+1+1:=(by omega);have q1:w.heap.size+1<w3.heap.size+1+1:=(by omega);have q2:w1.heap.size<w3.heap.size+1+1:=(by omega);have q3:w3.heap.size<w3.heap.size+1+1:=(by omega))
  | (go_at_call 66;refine (cN _).mono ?_;rintro r w5 ⟨gn,nn,cn,rfl,hg5,hn5,hb5⟩;have hgn:gn≠w3.heap.size:=(by first|omega|(simp at hg5;omega));clear hg5;obtain ⟨_,_,_,_,hA5,_⟩:=wz w hb5;obtain ⟨_,_,_,_,_,_⟩:=zh hb5 (w.heap.size+1) w1.heap.size w3.heap.size;clear hb5)
  | (go_at_call 90;refine wk w (cL2 _ _ (zYa (by simp) (by rfl) (by decide))) ?_;intro w6 hb6 _ _ _ _ hA6 _;obtain ⟨_,_,_,_,_,_⟩:=zh hb6 (w.heap.size+1) w1.heap.size w3.heap.size;clear hb6))
 exact bodyPost_ret (v:=.tuple #[A4 R,.int .i64 0]) (by simp only [results,Tryz.results43];go_simp) rfl ⟨rfl,bgo⟩
theorem zPz (R:Nat)(R1 R2 p:Nat)
  (cO:∀ W,CB 20 #[.int .i64 n] W (.tuple #[zEb n nm wd pr ex le mo pa true,.int .i64 0]))
  (cI:∀ W,CB 89 #[zEb n nm wd pr ex le mo pa true,DV 3 false true x k] W (.bool true))
  (cS:∀ W,CB 83 #[zEb n nm wd pr ex le mo pa true] W (.tuple #[.int .i64 G,.int .i64 T,.int .i64 J]))
  (cL3:∀ W v,NV 1 31 v W->CB 90 #[Z4,v,.int .i64 (T+G-5)] W (A4 R1))
  (cL4:∀ W v,NV 1 1 v W->CB 90 #[A4 R1,v,.int .i64 (T+G-6)] W (A4 R2))
  (hp:p<2^256) (cP:∀ W,CB 91 #[A4 k,.int .i64 J] W (.tuple #[A4 p,.int .i64 0]))
  (cL5:∀ W v,NV 4 p v W->CB 90 #[A4 R2,v,.int .i64 0] W (A4 R)) :
  CB 43 #[.int .i64 n,DV 3 false true x k] w (.tuple #[A4 R,.int .i64 0]):=by
 have hsm:=zAa
 unfold DV A4 Z4 at *
 go_enter Tryz.func43,Tryz.ntmps43
 go_wp2_with (first
  | (go_at_call 15;refine (cD _).mono ?_;rintro r w0 ⟨rfl,rfl⟩)
  | (go_at_call 20;refine wk w (cO _) ?_;intro w1 hb1 _ _ _ _ hA1 _;obtain ⟨_,_⟩:=zf hb1 (w.heap.size+1);clear hb1)
  | (go_at_call 89;refine wk w (cI _) ?_;intro w2 hb2 _ _ _ _ hA2 _;obtain ⟨_,_,_,_⟩:=zg hb2 (w.heap.size+1) w1.heap.size;clear hb2)
  | (go_at_call 83;refine wk w (cS _) ?_;intro w3 hb3 _ _ _ _ hA3 _;obtain ⟨_,_,_,_⟩:=zg hb3 (w.heap.size+1) w1.heap.size;clear hb3;have q0:w.heap.size<w3.heap.size+1+1:=(by omega);have q1:w.heap.size+1<w3.heap.size+1+1:=(by omega);have q2:w1.heap.size<w3.heap.size+1+1:=(by omega);have q3:w3.heap.size<w3.heap.size+1+1:=(by omega))
  | (go_at_call 66;refine (cN _).mono ?_;rintro r w5 ⟨gn,nn,cn,rfl,hg5,hn5,hb5⟩;have hgn:gn≠w3.heap.size:=(by first|omega|(simp at hg5;omega));clear hg5;obtain ⟨_,_,_,_,hA5,_⟩:=wz w hb5;obtain ⟨_,_,_,_,_,_⟩:=zh hb5 (w.heap.size+1) w1.heap.size w3.heap.size;clear hb5)
  | (go_at_call 90;refine (cL3 _ _ (zYa (by simp) (by rfl) (by decide))).mono ?_;rintro r w6 ⟨rfl,hb6⟩;clear cL3;obtain ⟨_,_,_,_,hA6,_⟩:=wz w hb6;obtain ⟨_,_,_,_,_,_⟩:=zh hb6 (w.heap.size+1) w1.heap.size w3.heap.size;clear hb6)
  | (go_at_call 90;refine (cL4 _ _ (zYa (by simp) (by rfl) (by decide))).mono ?_;rintro r w7 ⟨rfl,hb7⟩;clear cL4;obtain ⟨_,_,_,_,hA7,_⟩:=wz w hb7;obtain ⟨_,_,_,_,_,_⟩:=zh hb7 (w.heap.size+1) w1.heap.size w3.heap.size;clear hb7)
  | (go_at_call 91;refine wk w (cP _) ?_;intro w8 hb8 _ _ _ _ hA8 _;obtain ⟨_,_,_,_,_,_⟩:=zh hb8 (w.heap.size+1) w1.heap.size w3.heap.size;clear hb8)
  | (go_at_call 90;refine wk w (cL5 _ _ (zVd hp (by simp) (by go_simp) (by go_simp) (by go_simp) (by go_simp))) ?_;intro w9 hb9 _ _ _ _ hA9 _;obtain ⟨_,_,_,_,_,_⟩:=zh hb9 (w.heap.size+1) w1.heap.size w3.heap.size;clear hb9))
 exact bodyPost_ret (v:=.tuple #[A4 R,.int .i64 0]) (by simp only [results,Tryz.results43];go_simp) rfl ⟨rfl,bgo⟩
theorem zQz (R:Nat)(R1 R2:Nat)
  (cO:∀ W,CB 20 #[.int .i64 n] W (.tuple #[zEb n nm wd pr ex le mo pa false,.int .i64 0]))
  (cI:∀ W,CB 89 #[zEb n nm wd pr ex le mo pa false,DV 3 false true x k] W (.bool true))
  (cS:∀ W,CB 83 #[zEb n nm wd pr ex le mo pa false] W (.tuple #[.int .i64 G,.int .i64 T,.int .i64 J]))
  (cL3:∀ W v,NV 1 31 v W->CB 90 #[Z4,v,.int .i64 (T+G-5)] W (A4 R1))
  (cL4:∀ W v,NV 1 1 v W->CB 90 #[A4 R1,v,.int .i64 (T+G-6)] W (A4 R2))
  (cL5:∀ W v,NV 4 k v W->CB 90 #[A4 R2,v,.int .i64 0] W (A4 R)) :
  CB 43 #[.int .i64 n,DV 3 false true x k] w (.tuple #[A4 R,.int .i64 0]):=by
 have hsm:=zAa
 unfold DV A4 Z4 at *
 go_enter Tryz.func43,Tryz.ntmps43
 go_wp2_with (first
  | (go_at_call 15;refine (cD _).mono ?_;rintro r w0 ⟨rfl,rfl⟩)
  | (go_at_call 20;refine wk w (cO _) ?_;intro w1 hb1 _ _ _ _ hA1 _;obtain ⟨_,_⟩:=zf hb1 (w.heap.size+1);clear hb1)
  | (go_at_call 89;refine wk w (cI _) ?_;intro w2 hb2 _ _ _ _ hA2 _;obtain ⟨_,_,_,_⟩:=zg hb2 (w.heap.size+1) w1.heap.size;clear hb2)
  | (go_at_call 83;refine wk w (cS _) ?_;intro w3 hb3 _ _ _ _ hA3 _;obtain ⟨_,_,_,_⟩:=zg hb3 (w.heap.size+1) w1.heap.size;clear hb3;have q0:w.heap.size<w3.heap.size+1+1:=(by omega);have q1:w.heap.size+1<w3.heap.size+1+1:=(by omega);have q2:w1.heap.size<w3.heap.size+1+1:=(by omega);have q3:w3.heap.size<w3.heap.size+1+1:=(by omega))
  | (go_at_call 66;refine (cN _).mono ?_;rintro r w5 ⟨gn,nn,cn,rfl,hg5,hn5,hb5⟩;have hgn:gn≠w3.heap.size:=(by first|omega|(simp at hg5;omega));clear hg5;obtain ⟨_,_,_,_,hA5,_⟩:=wz w hb5;obtain ⟨_,_,_,_,_,_⟩:=zh hb5 (w.heap.size+1) w1.heap.size w3.heap.size;clear hb5)
  | (go_at_call 90;refine (cL3 _ _ (zYa (by simp) (by rfl) (by decide))).mono ?_;rintro r w6 ⟨rfl,hb6⟩;clear cL3;have hn6:=((hn5.next (zBa _ _)).next hb6).upd hgn (zBb _ _ R1);obtain ⟨_,_,_,_,hA6,_⟩:=wz w hb6;obtain ⟨_,_,_,_,_,_⟩:=zh hb6 (w.heap.size+1) w1.heap.size w3.heap.size;clear hb6)
  | (go_at_call 90;refine (cL4 _ _ (zYa (by simp) (by rfl) (by decide))).mono ?_;rintro r w7 ⟨rfl,hb7⟩;clear cL4;have hn7:=((hn6.next (zBa _ _)).next hb7).upd hgn (zBb _ _ R2);obtain ⟨_,_,_,_,hA7,_⟩:=wz w hb7;obtain ⟨_,_,_,_,_,_⟩:=zh hb7 (w.heap.size+1) w1.heap.size w3.heap.size;clear hb7)
  | (go_at_call 90;refine wk w (cL5 _ _ hn7.nv) ?_;intro w9 hb9 _ _ _ _ hA9 _;obtain ⟨_,_,_,_,_,_⟩:=zh hb9 (w.heap.size+1) w1.heap.size w3.heap.size;clear hb9))
 exact bodyPost_ret (v:=.tuple #[A4 R,.int .i64 0]) (by simp only [results,Tryz.results43];go_simp) rfl ⟨rfl,bgo⟩
theorem zRz (R:Nat)(R1 p:Nat)
  (cO:∀ W,CB 20 #[.int .i64 n] W (.tuple #[zEb n nm wd pr ex le mo pa true,.int .i64 0]))
  (cI:∀ W,CB 89 #[zEb n nm wd pr ex le mo pa true,DV 3 false false x k] W (.bool true))
  (cS:∀ W,CB 83 #[zEb n nm wd pr ex le mo pa true] W (.tuple #[.int .i64 G,.int .i64 T,.int .i64 J]))
  (cL3:∀ W v,NV 1 31 v W->CB 90 #[Z4,v,.int .i64 (T+G-5)] W (A4 R1))
  (hp:p<2^256) (cP:∀ W,CB 91 #[A4 k,.int .i64 J] W (.tuple #[A4 p,.int .i64 0]))
  (cL5:∀ W v,NV 4 p v W->CB 90 #[A4 R1,v,.int .i64 0] W (A4 R)) :
  CB 43 #[.int .i64 n,DV 3 false false x k] w (.tuple #[A4 R,.int .i64 0]):=by
 have hsm:=zAa
 unfold DV A4 Z4 at *
 go_enter Tryz.func43,Tryz.ntmps43
 go_wp2_with (first
  | (go_at_call 15;refine (cD _).mono ?_;rintro r w0 ⟨rfl,rfl⟩)
  | (go_at_call 20;refine wk w (cO _) ?_;intro w1 hb1 _ _ _ _ hA1 _;obtain ⟨_,_⟩:=zf hb1 (w.heap.size+1);clear hb1)
  | (go_at_call 89;refine wk w (cI _) ?_;intro w2 hb2 _ _ _ _ hA2 _;obtain ⟨_,_,_,_⟩:=zg hb2 (w.heap.size+1) w1.heap.size;clear hb2)
  | (go_at_call 83;refine wk w (cS _) ?_;intro w3 hb3 _ _ _ _ hA3 _;obtain ⟨_,_,_,_⟩:=zg hb3 (w.heap.size+1) w1.heap.size;clear hb3;have q0:w.heap.size<w3.heap.size+1+1:=(by omega);have q1:w.heap.size+1<w3.heap.size+1+1:=(by omega);have q2:w1.heap.size<w3.heap.size+1+1:=(by omega);have q3:w3.heap.size<w3.heap.size+1+1:=(by omega))
  | (go_at_call 66;refine (cN _).mono ?_;rintro r w5 ⟨gn,nn,cn,rfl,hg5,hn5,hb5⟩;have hgn:gn≠w3.heap.size:=(by first|omega|(simp at hg5;omega));clear hg5;obtain ⟨_,_,_,_,hA5,_⟩:=wz w hb5;obtain ⟨_,_,_,_,_,_⟩:=zh hb5 (w.heap.size+1) w1.heap.size w3.heap.size;clear hb5)
  | (go_at_call 90;refine (cL3 _ _ (zYa (by simp) (by rfl) (by decide))).mono ?_;rintro r w6 ⟨rfl,hb6⟩;clear cL3;obtain ⟨_,_,_,_,hA6,_⟩:=wz w hb6;obtain ⟨_,_,_,_,_,_⟩:=zh hb6 (w.heap.size+1) w1.heap.size w3.heap.size;clear hb6)
  | (go_at_call 91;refine wk w (cP _) ?_;intro w8 hb8 _ _ _ _ hA8 _;obtain ⟨_,_,_,_,_,_⟩:=zh hb8 (w.heap.size+1) w1.heap.size w3.heap.size;clear hb8)
  | (go_at_call 90;refine wk w (cL5 _ _ (zVd hp (by simp) (by go_simp) (by go_simp) (by go_simp) (by go_simp))) ?_;intro w9 hb9 _ _ _ _ hA9 _;obtain ⟨_,_,_,_,_,_⟩:=zh hb9 (w.heap.size+1) w1.heap.size w3.heap.size;clear hb9))
 exact bodyPost_ret (v:=.tuple #[A4 R,.int .i64 0]) (by simp only [results,Tryz.results43];go_simp) rfl ⟨rfl,bgo⟩
theorem zSz (R:Nat)(R1:Nat)
  (cO:∀ W,CB 20 #[.int .i64 n] W (.tuple #[zEb n nm wd pr ex le mo pa false,.int .i64 0]))
  (cI:∀ W,CB 89 #[zEb n nm wd pr ex le mo pa false,DV 3 false false x k] W (.bool true))
  (cS:∀ W,CB 83 #[zEb n nm wd pr ex le mo pa false] W (.tuple #[.int .i64 G,.int .i64 T,.int .i64 J]))
  (cL3:∀ W v,NV 1 31 v W->CB 90 #[Z4,v,.int .i64 (T+G-5)] W (A4 R1))
  (cL5:∀ W v,NV 4 k v W->CB 90 #[A4 R1,v,.int .i64 0] W (A4 R)) :
  CB 43 #[.int .i64 n,DV 3 false false x k] w (.tuple #[A4 R,.int .i64 0]):=by
 have hsm:=zAa
 unfold DV A4 Z4 at *
 go_enter Tryz.func43,Tryz.ntmps43
 go_wp2_with (first
  | (go_at_call 15;refine (cD _).mono ?_;rintro r w0 ⟨rfl,rfl⟩)
  | (go_at_call 20;refine wk w (cO _) ?_;intro w1 hb1 _ _ _ _ hA1 _;obtain ⟨_,_⟩:=zf hb1 (w.heap.size+1);clear hb1)
  | (go_at_call 89;refine wk w (cI _) ?_;intro w2 hb2 _ _ _ _ hA2 _;obtain ⟨_,_,_,_⟩:=zg hb2 (w.heap.size+1) w1.heap.size;clear hb2)
  | (go_at_call 83;refine wk w (cS _) ?_;intro w3 hb3 _ _ _ _ hA3 _;obtain ⟨_,_,_,_⟩:=zg hb3 (w.heap.size+1) w1.heap.size;clear hb3;have q0:w.heap.size<w3.heap.size+1+1:=(by omega);have q1:w.heap.size+1<w3.heap.size+1+1:=(by omega);have q2:w1.heap.size<w3.heap.size+1+1:=(by omega);have q3:w3.heap.size<w3.heap.size+1+1:=(by omega))
  | (go_at_call 66;refine (cN _).mono ?_;rintro r w5 ⟨gn,nn,cn,rfl,hg5,hn5,hb5⟩;have hgn:gn≠w3.heap.size:=(by first|omega|(simp at hg5;omega));clear hg5;obtain ⟨_,_,_,_,hA5,_⟩:=wz w hb5;obtain ⟨_,_,_,_,_,_⟩:=zh hb5 (w.heap.size+1) w1.heap.size w3.heap.size;clear hb5)
  | (go_at_call 90;refine (cL3 _ _ (zYa (by simp) (by rfl) (by decide))).mono ?_;rintro r w6 ⟨rfl,hb6⟩;clear cL3;have hn6:=((hn5.next (zBa _ _)).next hb6).upd hgn (zBb _ _ R1);obtain ⟨_,_,_,_,hA6,_⟩:=wz w hb6;obtain ⟨_,_,_,_,_,_⟩:=zh hb6 (w.heap.size+1) w1.heap.size w3.heap.size;clear hb6)
  | (go_at_call 90;refine wk w (cL5 _ _ hn6.nv) ?_;intro w9 hb9 _ _ _ _ hA9 _;obtain ⟨_,_,_,_,_,_⟩:=zh hb9 (w.heap.size+1) w1.heap.size w3.heap.size;clear hb9))
 exact bodyPost_ret (v:=.tuple #[A4 R,.int .i64 0]) (by simp only [results,Tryz.results43];go_simp) rfl ⟨rfl,bgo⟩
end
end
section
attribute [local irreducible] W4 Nz Nt NT
def nbB (n x:Int)(k:Nat):Bool:=decide (zZa n<x)&&decide (k=2^fN n)
end
section
structure Mut (g:Nat) (w w':World):Prop where
 os:w'.os=w.os
 tape:w'.tape=w.tape
 output:w'.output=w.output
 size:w.heap.size<=w'.heap.size
 block:∀ k,k<w.heap.size->k≠g->w'.heap[k]?=w.heap[k]?
theorem Mut.refl (g:Nat)(w:World):Mut g w w:=⟨rfl,rfl,rfl,Nat.le_refl _,fun _ _ _=>rfl⟩
theorem Mut.trans {g:Nat}{a b c:World}(h:Mut g a b)(k:Mut g b c):Mut g a c :=
 ⟨k.os.trans h.os,k.tape.trans h.tape,k.output.trans h.output,Nat.le_trans h.size k.size,fun i hi hg=>(k.block i (Nat.lt_of_lt_of_le hi h.size) hg).trans (h.block i hi hg)⟩
theorem Mut.below {g:Nat}{a b:World}(h:Below a.heap.size a b):Mut g a b:=⟨h.os,h.tape,h.output,h.size,fun k hk _=>h.block k hk⟩
theorem Mut.set {g:Nat}{a b:World}(h:Mut g a b)(i:Nat)(v:Value):Mut g a (b.setCell ⟨g,i,none⟩ v) :=
 h.trans ⟨rfl,rfl,rfl,by simp [World.setCell],fun k _ hk=>Below.heap_setCell _ _ _ _ hk⟩
theorem Mut.out {g B:Nat}{w0 w w':World}(h:Mut g w w')(h0:Below B w0 w)(hB:B<=g)(hs:B<=w0.heap.size):Below B w0 w' :=
 h0.trans ⟨h.os,h.tape,h.output,h.size,fun k hk=>h.block k (by have:=h0.size;omega) (by omega)⟩
attribute [local irreducible] W4 Nz Nt NT
end
section
abbrev isW (v:Value):Value->World->Prop:=fun x _=>x=v
attribute [local irreducible] W4 Nz Nt NT
section
variable {a:Act}{w:World}{K:Act->World->Prop}{Q:Exit->Act->World->Prop}{d p q:Nat}{ty:TypeId}{pos:String}{after:Array Edge}{gd:Option (Nat×Bool)}
end
section
variable {a:Act}{w:World}{K:Act->World->Prop}{Q:Exit->Act->World->Prop}{d p q:Nat}{ty:TypeId}{pos:String}{after:Array Edge}{gd:Option (Nat×Bool)}
theorem zXv {v:Value}(h1:slot a p=v)(hK:K (a.put (some d) v) w):Oper.wp Tryz.prog { dst:=some d,op:=Op.assign (Operand.tmp p),type:=ty,pos:=pos,after:=after,guard:=gd } a w K Q:=by
 unfold slot at h1
 simp [go_sem,h1]
 exact hK
end
section
variable {a:Act}{w:World}{K:Act->World->Prop}{Q:Exit->Act->World->Prop}{d p q:Nat}{ty:TypeId}{pos:String}{after:Array Edge}{gd:Option (Nat×Bool)}
end
section
variable {a:Act}{w:World}{K:Act->World->Prop}{Q:Exit->Act->World->Prop}{d p q:Nat}{ty:TypeId}{pos:String}{after:Array Edge}{gd:Option (Nat×Bool)}
end
end
section
theorem tn_ex {k:Nat}{x:Int}:∀ (d:Nat) (g0:Int),tnP k x g0->¬ tnP k x (g0+d)->∃ E,g0<=E/\E<g0+d/\tnP k x E/\¬ tnP k x (E+1)
 | 0,g0,h0,h1=>absurd h0 (by simpa using h1)
 | d+1,g0,h0,h1=>by
  by_cases h:tnP k x (g0+1)
  ·obtain ⟨E,e1,e2,e3,e4⟩:=tn_ex d (g0+1) h (by rw [show g0+1+(d:Int)=g0+((d+1:Nat):Int) by omega];exact h1)
   exact ⟨E,by omega,by omega,e3,e4⟩
  ·exact ⟨g0,Int.le_refl _,by omega,h0,h⟩
theorem tn_top {k:Nat}{x:Int}(hk:k<2^256)(hx:x<=17000):¬ tnP k x 6000:=by
 unfold tnP zE oE
 rw [show ((-6000:Int)).toNat=0 by decide,Nat.pow_zero,Nat.mul_one,show ((6000:Int)).toNat=6000 by decide]
 have h1:(2:Nat)^18000<=10^6000:=by decide +kernel
 obtain ⟨m',hm'⟩:∃ m':Nat,m'=18000:=⟨_,rfl⟩
 rw [← hm'] at h1
 generalize (10:Nat)^6000=T at *
 obtain ⟨m,hm⟩:∃ m:Nat,m=17000:=⟨_,rfl⟩
 have h2:k*2^x.toNat<2^256*2^m:=by
  have a1:k*2^x.toNat<2^256*2^x.toNat:=Nat.mul_lt_mul_of_pos_right hk (Nat.two_pow_pos _)
  have a2:2^256*2^x.toNat<=2^256*2^m:=Nat.mul_le_mul_left _ (Nat.pow_le_pow_right (by decide) (by omega))
  exact Nat.lt_of_lt_of_le a1 a2
 rw [← Nat.pow_add] at h2
 have h3:(2:Nat)^(256+m)<=2^m':=Nat.pow_le_pow_right (by decide) (by omega)
 have h4:1*T<=2^(-x).toNat*T:=Nat.mul_le_mul_right _ (Nat.two_pow_pos _)
 generalize (2:Nat)^(256+m)=Y at *
 generalize (2:Nat)^m'=Y' at *
 rw [Nat.mul_assoc 4,Nat.mul_assoc 4]
 generalize 2^(-x).toNat*T=Z1 at *
 generalize k*2^x.toNat=Z2 at *
 omega
theorem zT3 (m:Nat):bl (2^m)=m+1:=zK3 (by rw [Nat.add_sub_cancel];exact Nat.le_refl _) (Nat.pow_lt_pow_right (by decide) (by omega))
attribute [local irreducible] W4 Nz Nt NT
end
section
theorem NT.grown {K V Bs:Nat}{v tv:Value}{l:List UInt8}{w w':World}(h:NT K V v w)(ho:w.ownsRow Bs 5 1 tv l.length (Lib.byteCells l))(hl:tv=.slice none 0 0∨0<l.length)(hg:w.grownBy w' tv.ownBlock):NT K V v w':=by
 obtain ⟨b,k,cap,z,h1,h2,⟨n1,n2,n3,n4,n5⟩,h4,h5⟩:=h
 refine ⟨b,k,cap,z,h1,h2,⟨n1,n2,n3,n4,?_⟩,h4,h5⟩
 rcases n5 with n5|⟨b',off,e,hb,hc⟩
 ·exact Or.inl n5
 ·cases e
  refine Or.inr ⟨b,0,rfl,Nat.lt_of_lt_of_le hb hg.size,fun i hi=>?_⟩
  have hne:some b≠tv.ownBlock:=by
   rcases hl with rfl|hl
   ·intro h;cases h
   ·obtain ⟨g',cap',rfl,_,_⟩:=ho.form hl
    intro h
    have:b=g':=Option.some.inj h
    subst this
    have h6:=hc 0 (by omega)
    rw [Nat.add_zero,ho.cellAt 0 (by omega)] at h6
    simp [Lib.byteCells,hl] at h6
  exact (World.cell?_of_block (w:=w) (a:=⟨b,0+i,none⟩) (hg.block b hb hne)).trans (hc i hi)
attribute [local irreducible] W4 Nz Nt NT
end
def lwN (n x:Int)(k:Nat):Nat:=if nbB n x k then 1 else 2
def evK (k:Nat):Bool:=decide (k%2=0)
structure Shd (n x:Int) (k:Nat) (E:Int) (K:Nat):Prop where
 t0:tnP k x E
 t1:¬ tnP k x (E+1)
 st:stK (evK k) (4*k*oE x E) (lwN n x k*oE x E) (2*oE x E) (zE x E) K=true
 mn:∀ j,j<K->stK (evK k) (4*k*oE x E) (lwN n x k*oE x E) (2*oE x E) (zE x E) j=false
theorem gs_in {k:Nat}{x:Int}(hk:k<2^256)(hk0:k≠0)(hx:-16990<=x/\x<=16990):tnP k x (gsP k x)/\-6000<=gsP k x/\gsP k x<6000:=by
 have hb:bl k<=256:=bl_le.2 hk
 obtain ⟨b1,b2,b3⟩:=zZ9 hk0
 have e:((bl k-1:Nat):Int)=(bl k:Int)-1:=by omega
 have:=zB2 (c:=k) (L:=bl k-1) (x:=x) b1 (by omega)
 rw [e] at this
 refine ⟨this,?_⟩
 unfold gsP
 by_cases h0:0<=(bl k:Int)-1+x
 ·rw [Int.tdiv_eq_ediv_of_nonneg (by omega)];omega
 ·rw [show ((bl k:Int)-1+x)*30103=-(-((bl k:Int)-1+x)*30103) by omega,Int.neg_tdiv,Int.tdiv_eq_ediv_of_nonneg (by omega)];omega
theorem Shd.ex {n x:Int}{k:Nat}(hk:k<2^256)(hk0:k≠0)(hx:-16990<=x/\x<=16990):∃ E K,Shd n x k E K:=by
 obtain ⟨g1,g2,g3⟩:=gs_in hk hk0 hx
 obtain ⟨E,e1,e2,e3,e4⟩:=tn_ex (6000-gsP k x).toNat (gsP k x) g1 (by rw [show gsP k x+((6000-gsP k x).toNat:Int)=6000 by omega];exact tn_top hk (by omega))
 have hl:0<lwN n x k*oE x E:=Nat.mul_pos (by unfold lwN;split<;>decide) (oE_pos _ _)
 obtain ⟨K,h1,h2⟩:=st_ex (c:=evK k) (R:=4*k*oE x E) (u:=2*oE x E) (zE_pos x E) hl
 exact ⟨E,K,e3,e4,h1,h2⟩
section
theorem yFa {k:Nat}(hk:k<2^256):decide (W4 k 0=0/\W4 k 1=0/\W4 k 2=0/\W4 k 3=0)=decide (k=0):=by
 by_cases h:k=0
 ·subst h
  rw [decide_eq_true (by simp [zNa]),decide_eq_true rfl]
 ·rw [decide_eq_false h,decide_eq_false]
  rintro ⟨h0,h1,h2,h3⟩
  refine h (zEs hk (by decide) fun i hi=>?_)
  have:i=0∨i=1∨i=2∨i=3:=by omega
  rcases this with rfl|rfl|rfl|rfl
  ·rw [h0,zNa]
  ·rw [h1,zNa]
  ·rw [h2,zNa]
  ·rw [h3,zNa]
attribute [local irreducible] W4
end
section
theorem zIt {e:Int}(he:-100000<=e/\e<=100000):(Lib.itoa e).length<=21:=by
 have:=Lib.itoa_length_le e (by omega) (by omega)
 omega
def unT (D:List UInt8)(e:Int):List UInt8:=((D.take 1++if 1<D.length then [46]++D.drop 1 else [])++[101])++Lib.itoa e
theorem zHf {D:List UInt8}{e:Int}(he:-100000<=e/\e<=100000):(unT D e).length<=D.length+25:=by
 have:=zIt he
 unfold unT
 rw [List.length_append,List.length_append,List.length_append,List.length_take]
 split
 ·simp;omega
 ·simp;omega
theorem zQk {e:Int}(he:-100000<=e/\e<=100000):(Lib.itoa e).length<=100:=by
 have:=Lib.itoa_length_le e (by omega) (by omega)
 omega
attribute [local irreducible] W4
end
end Go.Proofs.YtahfkpjhlbiamaaGreatDoor
