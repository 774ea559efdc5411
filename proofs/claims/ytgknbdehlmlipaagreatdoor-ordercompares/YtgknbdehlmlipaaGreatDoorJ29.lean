/-
  Texts that the proof leans on.
-/
import Derived.Test.YtgknbdehlmlipaaGreatDoorJ2
import Derived.Test.YtgknbdehlmlipaaGreatDoorJ24
import Derived.Deep.Cut
import Derived.Deep.CutRange
import Derived.Test.YtgknbdehlmlipaaGreatDoorJ20
import Derived.Test.YtgknbdehlmlipaaGreatDoorJ21
import Derived.Test.YtgknbdehlmlipaaGreatDoorJ18
import Derived.Test.YtgknbdehlmlipaaGreatDoorJ17
import Derived.Test.YtgknbdehlmlipaaGreatDoorJ12
import Derived.Deep.RegionWith
import Derived.Test.YtgknbdehlmlipaaGreatDoorJ10
set_option maxHeartbeats 8000000
set_option linter.unusedVariables false
set_option linter.unusedSectionVars false
set_option linter.unusedSimpArgs false
set_option maxRecDepth 20000
namespace Go.Proofs.YtgknbdehlmlipaaGreatDoor
open Go.RowKit
section
theorem nv_uno {W:World}{g V:Nat}{vi:Int}(hg:g=W.heap.size)(hv:vi=(V:Int))(hb:V<18446744073709551616):NV 1 V (.slice (some ⟨g,0,none⟩) 1 1) (W.alloc (.cells #[.int .u64 vi] 22)):=by
 subst hg hv
 exact ⟨_,1,1,oneW V,rfl,Nat.le_refl _,num_one W V (by omega),val_one1 V⟩
theorem rpower_nt (n:Nat)(hn:n<=200000)(w:World):CE 108 #[.int .u64 2,.int .i64 (n:Int)] w (NT 3128 (2^n)):=by
 have c84:=rleft_nt (w:=w.alloc (.cells #[.int .u64 1] 22)) n (K:=1) (A:=1) (by decide) (by omega) (nv_uno rfl rfl (by decide))
 rw [Nat.one_mul] at c84
 have hb0:=below1 w (.cells #[.int .u64 1] 22)
 go_enter Tryz.func108,Tryz.ntmps108
 go_wp2_with (go_at_call 22;refine c84.mono ?_;rintro e w1 ⟨r,rfl,hr,hb1⟩)
 go_ret
 exact ⟨r,rfl,hr.more (by omega),hb0.trans (hb1.mono hb0.size)⟩
section
variable (x:Int)(vn vd:Value)(A B KK:Nat)(w:World)
theorem rscale_pos (h:0<=min (max x (-200000)) 200000)
  (c98:Calls Tryz.prog 108 #[.int .u64 2,.int .i64 (min (max x (-200000)) 200000)] w fun e w'=>∃ p,e=.returned p/\Below w.heap.size w w'/\Calls Tryz.prog 24 #[vn,p] w' fun e w''=>∃ r,e=.returned r/\NT KK A r w''/\Below w'.heap.size w' w'') :
  Calls Tryz.prog 77 #[vn,vd,.int .u64 2,.int .i64 x] w fun e w'=>∃ r,e=.returned (.tuple #[r,vd])/\NT KK A r w'/\Below w.heap.size w w':=by
 have hb1:min (max x (-200000)) 200000<=200000:=by omega
 go_enter Tryz.func77,Tryz.ntmps77
 go_wp2_with (first
  | (go_at_call 108;refine c98.mono ?_;rintro e w1 ⟨p,rfl,hb1,c17⟩)
  | (go_at_call 24;refine c17.mono ?_;rintro e w2 ⟨r,rfl,hr,hb2⟩))
 exact bodyPost_ret (v:=.tuple #[r,vd]) (by simp only [results,Tryz.results77];go_simp) rfl ⟨_,rfl,hr,hb1.trans (hb2.mono hb1.size)⟩
theorem rscale_neg (m:Int)(hm:m=-(min (max x (-200000)) 200000))(h:¬ 0<=min (max x (-200000)) 200000)
  (c98:Calls Tryz.prog 108 #[.int .u64 2,.int .i64 m] w fun e w'=>∃ p,e=.returned p/\Below w.heap.size w w'/\Calls Tryz.prog 24 #[vd,p] w' fun e w''=>∃ r,e=.returned r/\NT KK A r w''/\Below w'.heap.size w' w'') :
  Calls Tryz.prog 77 #[vn,vd,.int .u64 2,.int .i64 x] w fun e w'=>∃ r,e=.returned (.tuple #[vn,r])/\NT KK A r w'/\Below w.heap.size w w':=by
 have hb1:-200000<=min (max x (-200000)) 200000:=by omega
 subst hm
 go_enter Tryz.func77,Tryz.ntmps77
 go_wp2_with (first
  | (go_at_call 108;refine c98.mono ?_;rintro e w1 ⟨p,rfl,hb1,c17⟩)
  | (go_at_call 24;refine c17.mono ?_;rintro e w2 ⟨r,rfl,hr,hb2⟩))
 exact bodyPost_ret (v:=.tuple #[vn,r]) (by simp only [results,Tryz.results77];go_simp) rfl ⟨_,rfl,hr,hb1.trans (hb2.mono hb1.size)⟩
end
theorem rscale_nt {K N D:Nat}{vn vd:Value}{w:World}(x:Int)(hK:K<=12000)(h:NT K N vn w)(h':NT K D vd w) :
  Calls Tryz.prog 77 #[vn,vd,.int .u64 2,.int .i64 x] w fun e w'=>∃ a b,e=.returned (.tuple #[a,b])/\NT (K+3130) (sN N x) a w'/\NT (K+3130) (sD D x) b w'/\Below w.heap.size w w':=by
 have hc:clZ x=min (max x (-200000)) 200000:=rfl
 by_cases hp:0<=min (max x (-200000)) 200000
 ·have c98:=rpower_nt (clZ x).toNat (by omega) w
  rw [show ((clZ x).toNat:Int)=min (max x (-200000)) 200000 by omega] at c98
  have e0:sD D x=D:=by unfold sD;rw [show (-(clZ x)).toNat=0 by omega,Nat.pow_zero,Nat.mul_one]
  rw [e0]
  refine (rscale_pos x vn vd (sN N x) (K+3130) w hp (c98.mono fun e w' ⟨p,e1,e2,e3⟩=>⟨p,e1,e3,(rtimes_nt (by omega) (by decide) (h.next e3).nv e2.nv).mono fun e w'' ⟨r,f1,f2,f3⟩=>⟨r,f1,f2.more (by omega),f3⟩⟩)).mono fun e w' ⟨r,e1,e2,e3⟩=>⟨_,_,e1,e2,(h'.next e3).more (by omega),e3⟩
 ·have c98:=rpower_nt (-(clZ x)).toNat (by omega) w
  rw [show ((-(clZ x)).toNat:Int)=-(clZ x) by omega] at c98
  have e0:sN N x=N:=by unfold sN;rw [show (clZ x).toNat=0 by omega,Nat.pow_zero,Nat.mul_one]
  rw [e0]
  refine (rscale_neg x vn vd (sD D x) (K+3130) w (-(clZ x)) (by omega) hp (c98.mono fun e w' ⟨p,e1,e2,e3⟩=>⟨p,e1,e3,(rtimes_nt (by omega) (by decide) (h'.next e3).nv e2.nv).mono fun e w'' ⟨r,f1,f2,f3⟩=>⟨r,f1,f2.more (by omega),f3⟩⟩)).mono fun e w' ⟨r,e1,e2,e3⟩=>⟨_,_,e1,(h.next e3).more (by omega),e2,e3⟩
end
section
theorem five_bl (k:Nat):bl (5^k)<=3*k+1:=by
 refine bl_le.2 ?_
 have h1:5^k<=8^k:=Nat.pow_le_pow_left (by decide) k
 have h2:(8:Nat)^k=2^(3*k):=by rw [Nat.pow_mul]
 have h3:(2:Nat)^(3*k)<2^(3*k+1):=Nat.pow_lt_pow_right (by decide) (by omega)
 omega
theorem bl_mul (a b:Nat):bl (a*b)<=bl a+bl b:=by
 refine bl_le.2 ?_
 rw [Nat.pow_add]
 have h1:=bl_le.1 (Nat.le_refl (bl a))
 have h2:=bl_le.1 (Nat.le_refl (bl b))
 exact Nat.mul_lt_mul'' h1 h2
attribute [local irreducible] W4 Nz Nt
end
section
theorem NT.nz {K V:Nat}{v:Value}{w:World}(h:NT K V v w):Nz K V v w:=by
 obtain ⟨g,k,cap,z,h1,h2,h3,h4,h5⟩:=h
 exact ⟨_,k,cap,z,h1,h2,h3,h4,h5⟩
theorem NT.nt {K V:Nat}{v:Value}{w:World}(h:NT K V v w):Nt K V v w:=h.nz.nt
theorem nmul_w {K K' A P:Nat}{v v':Value}{w:World}(hK:K<100000000)(hK':K'<100000000)(h:Nt K A v w)(h':Nt K' P v' w)(hb:bl A+bl P<=127000) :
  Calls Tryz.prog 97 #[v,v'] w fun r w'=>∃ q,r=.returned (.tuple #[q,.int .i64 0])/\NT 2001 (A*P) q w'/\Below w.heap.size w w':=by
 obtain ⟨a,k,cap,z,rfl,hk,hN,hv⟩:=h
 obtain ⟨a',k',cap',z',rfl,hk',hN',hv'⟩:=h'
 have s1:=(size_bl (m:=(bl A+63)/64) hN.2.2.1 hv).2 (by omega)
 have s2:=(size_bl (m:=(bl P+63)/64) hN'.2.2.1 hv').2 (by omega)
 refine (nmul_any a a' k cap k' cap' z z' w (by omega) (by omega) hN hN' (by omega)).mono fun r w' ⟨g,q,cp,y,e1,hq,hNq,hvq,hsq,hB⟩=>⟨_,e1,⟨g,q,cp,y,rfl,by omega,hNq,?_,hsq⟩,hB⟩
 rw [hvq,hv,hv'];simp
theorem nshl_w {K V:Nat}{v:Value}{w:World}(d:Nat)(hK:K<100000000)(h:Nt K V v w)(hd:bl V+d<=127000) :
  Calls Tryz.prog 131 #[v,.int .i64 (d:Int)] w fun e w'=>∃ r,e=.returned (.tuple #[r,.int .i64 0])/\NT 2001 (V*2^d) r w'/\Below w.heap.size w w':=by
 obtain ⟨a,k,cap,z,rfl,hk,hN,hv⟩:=h
 have hs:=(size_bl (m:=(bl V+63)/64) hN.2.2.1 hv).2 (by omega)
 refine (nshl_any a k cap z d w (by omega) hN (by omega) (by omega)).mono fun e w' ⟨g,k',cap',z',h1,h2,h3,h4,h5,h6⟩=>⟨_,h1,⟨g,k',cap',z',rfl,h2,h3,?_,h5⟩,h6⟩
 rw [h4,hv];simp
theorem npow5z (m:Nat)(w:World)(hm:m<=12000):Calls Tryz.prog 96 #[.int .i64 5,.int .i64 (m:Int)] w fun r w'=>∃ v,r=.returned (.tuple #[v,.int .i64 0])/\NT 2001 (5^m) v w'/\Below w.heap.size w w':=by
 refine (npow_any 5 m w (Or.inl rfl) hm).mono fun r w' ⟨g,k,cap,z,e1,hk,hN,hv,hs,hB⟩=>⟨_,e1,⟨g,k,cap,z,rfl,hk,hN,?_,hs⟩,hB⟩
 rw [hv];simp
theorem nt_un1 {W:World}{g V:Nat}{vi:Int}(hg:g=W.heap.size)(hv:vi=(V:Int))(hb:V<18446744073709551616)(h0:V≠0):NT 1 V (.slice (some ⟨g,0,none⟩) 1 1) (W.alloc (.cells #[.int .u64 vi] 22)):=by
 subst hg hv
 refine ⟨_,1,1,oneW V,rfl,Nat.le_refl _,num_one W V (by omega),val_one1 V,?_⟩
 have:oneW (V:Int) 0≠0:=by simp [oneW];omega
 simp [sizeL,this]
attribute [local irreducible] W4 Nz Nt NT
theorem nt_at {W:World}{g k:Nat}(hk:k<2^256)(hg:g<W.heap.size)(h0:W.cell? ⟨g,4,none⟩=some (.int .u64 (W4 k 0)))(h1:W.cell? ⟨g,5,none⟩=some (.int .u64 (W4 k 1)))(h2:W.cell? ⟨g,6,none⟩=some (.int .u64 (W4 k 2)))(h3:W.cell? ⟨g,7,none⟩=some (.int .u64 (W4 k 3))) :
  Nt 4 k (.slice (some ⟨g,4,none⟩) 4 4) W:=by
 unfold Nt
 refine ⟨some ⟨g,4,none⟩,4,4,fun i=>if i<4 then W4 k i else 0,rfl,Nat.le_refl _,⟨Nat.le_refl _,by unfold maxLen;omega,fun i=>?_,fun i hi=>if_neg (by omega),Or.inr ⟨g,4,rfl,hg,fun i hi=>?_⟩⟩,?_⟩
 ·dsimp only
  split
  ·exact W4_words k i
  ·exact ⟨Int.le_refl _,by decide⟩
 ·have:i=0∨i=1∨i=2∨i=3:=by omega
  rcases this with rfl|rfl|rfl|rfl
  ·exact h0
  ·exact h1
  ·exact h2
  ·exact h3
 ·have e:=W4_val4 hk
  rw [← e]
  simp [val]
def gsP (k:Nat)(x:Int):Int:=(((bl k:Int)-1+x)*30103).tdiv 100000-1
end
section
theorem val_odd {z:Nat->Int}{k V:Nat}(hk:0<k)(hv:val z k=(V:Int)):(V:Int)%2=z 0%2:=by
 have key:∀ j,val z (j+1)%2=z 0%2:=by
  intro j
  induction j with
  | zero=>simp [val]
  | succ j ih =>
   have:val z (j+1+1)=val z (j+1)+z (j+1)*18446744073709551616^(j+1):=rfl
   rw [this,Int.pow_succ,show z (j+1)*(18446744073709551616^j*18446744073709551616)=2*(z (j+1)*18446744073709551616^j*9223372036854775808) by grind,Int.add_mul_emod_self_left]
   exact ih
 obtain ⟨j,rfl⟩:∃ j,k=j+1:=⟨k-1,by omega⟩
 rw [← hv];exact key j
attribute [local irreducible] NV NT
end
end Go.Proofs.YtgknbdehlmlipaaGreatDoor
