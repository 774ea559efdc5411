/-
  Texts that the proof leans on.
-/
import Derived.Test.YtahfkpjhlbiamaaGreatDoorL29
import Derived.Test.YtahfkpjhlbiamaaGreatDoorL19
import Derived.Test.YtahfkpjhlbiamaaGreatDoorL21
import Derived.Test.YtahfkpjhlbiamaaGreatDoorL32
import Derived.Test.YtahfkpjhlbiamaaGreatDoorL15
import Derived.Test.YtahfkpjhlbiamaaGreatDoorL4
import Derived.Test.YtahfkpjhlbiamaaGreatDoorL10
import Derived.Test.YtahfkpjhlbiamaaGreatDoorL14
import Derived.Deep.Cut
import Derived.Deep.CutRange
import Derived.Deep.RegionWith
import Derived.Test.YtahfkpjhlbiamaaGreatDoorL18
import Derived.Test.YtahfkpjhlbiamaaGreatDoorL24
import Derived.Test.YtahfkpjhlbiamaaGreatDoorL1
import Derived.Test.YtahfkpjhlbiamaaGreatDoorL22
import Derived.Test.YtahfkpjhlbiamaaGreatDoorL6
import Derived.Test.YtahfkpjhlbiamaaGreatDoorL17
set_option linter.unusedVariables false
set_option linter.unusedSectionVars false
set_option linter.unusedSimpArgs false
set_option maxRecDepth 20000
namespace Go.Proofs.YtahfkpjhlbiamaaGreatDoor
open Go.RowKit
section
attribute [local irreducible] W4 Nz Nt
def dV (l:List UInt8):Nat:=(numV (B l) (B l).size).toNat
theorem sb_by (l:List UInt8)(i:Nat):sb (B l) i=by_ l i:=by
 unfold sb by_
 by_cases h:i<l.length
 ·rw [dif_pos (show i<(B l).size from h),dif_pos h,B_get]
 ·rw [dif_neg (show ¬ i<(B l).size from h),dif_neg h]
theorem dig_B {l:List UInt8}(h:l.all dg=true):digB (B l) (B l).size=true:=by
 refine digB_of _ fun k hk=>?_
 rw [sb_by]
 have hk':k<l.length:=hk
 have h1:=List.all_eq_true.1 h (l[k]'hk') (List.getElem_mem hk')
 unfold dg at h1
 unfold by_
 rw [dif_pos hk']
 have:=of_decide_eq_true h1
 omega
theorem dV_lt {l:List UInt8}(h:l.all dg=true):dV l<10^l.length/\(dV l:Int)=numV (B l) (B l).size:=by
 obtain ⟨a,b⟩:=numV_bd _ (dig_B h)
 unfold dV
 generalize numV (B l) (B l).size=V at *
 rw [B_size] at b
 have:((10:Int)^l.length)=((10^l.length:Nat):Int):=by simp
 rw [this] at b
 exact ⟨by omega,by omega⟩
end
section
theorem five_bl (k:Nat):bl (5^k)<=3*k+1:=by
 refine bl_le.2 ?_
 have h1:5^k<=8^k:=Nat.pow_le_pow_left (by decide) k
 have h2:(8:Nat)^k=2^(3*k):=by rw [Nat.pow_mul]
 have h3:(2:Nat)^(3*k)<2^(3*k+1):=Nat.pow_lt_pow_right (by decide) (by omega)
 omega
theorem bl_mul (a b:Nat):bl (a*b)<=bl a+bl b:=by
 refine bl_le.2 ?_
 rw [Nat.pow_add]
 have h1:=bl_le.1 (Nat.le_refl (bl a))
 have h2:=bl_le.1 (Nat.le_refl (bl b))
 exact Nat.mul_lt_mul'' h1 h2
theorem npow5 (m:Nat)(w:World)(hm:m<=12000):Calls Tryz.prog 56 #[.int .i64 5,.int .i64 (m:Int)] w fun r w'=>∃ v,r=.returned (.tuple #[v,.int .i64 0])/\Nt 2001 (5^m) v w'/\Below w.heap.size w w':=by
 refine (npow_any 5 m w (Or.inl rfl) hm).mono fun r w' ⟨g,k,cap,z,e1,hk,hN,hv,hs,hB⟩=>⟨_,e1,⟨_,k,cap,z,rfl,hk,hN,?_⟩,hB⟩
 rw [hv];simp
attribute [local irreducible] W4 Nz Nt
end
section
theorem NT.nz {K V:Nat}{v:Value}{w:World}(h:NT K V v w):Nz K V v w:=by
 obtain ⟨g,k,cap,z,h1,h2,h3,h4,h5⟩:=h
 exact ⟨_,k,cap,z,h1,h2,h3,h4,h5⟩
theorem NT.nt {K V:Nat}{v:Value}{w:World}(h:NT K V v w):Nt K V v w:=h.nz.nt
theorem nmul_w {K K' A P:Nat}{v v':Value}{w:World}(hK:K<100000000)(hK':K'<100000000)(h:Nt K A v w)(h':Nt K' P v' w)(hb:bl A+bl P<=127000) :
  Calls Tryz.prog 81 #[v,v'] w fun r w'=>∃ q,r=.returned (.tuple #[q,.int .i64 0])/\NT 2001 (A*P) q w'/\Below w.heap.size w w':=by
 obtain ⟨a,k,cap,z,rfl,hk,hN,hv⟩:=h
 obtain ⟨a',k',cap',z',rfl,hk',hN',hv'⟩:=h'
 have s1:=(size_bl (m:=(bl A+63)/64) hN.2.2.1 hv).2 (by omega)
 have s2:=(size_bl (m:=(bl P+63)/64) hN'.2.2.1 hv').2 (by omega)
 refine (nmul_any a a' k cap k' cap' z z' w (by omega) (by omega) hN hN' (by omega)).mono fun r w' ⟨g,q,cp,y,e1,hq,hNq,hvq,hsq,hB⟩=>⟨_,e1,⟨g,q,cp,y,rfl,by omega,hNq,?_,hsq⟩,hB⟩
 rw [hvq,hv,hv'];simp
theorem nshl_w {K V:Nat}{v:Value}{w:World}(d:Nat)(hK:K<100000000)(h:Nt K V v w)(hd:bl V+d<=127000) :
  Calls Tryz.prog 54 #[v,.int .i64 (d:Int)] w fun e w'=>∃ r,e=.returned (.tuple #[r,.int .i64 0])/\NT 2001 (V*2^d) r w'/\Below w.heap.size w w':=by
 obtain ⟨a,k,cap,z,rfl,hk,hN,hv⟩:=h
 have hs:=(size_bl (m:=(bl V+63)/64) hN.2.2.1 hv).2 (by omega)
 refine (nshl_any a k cap z d w (by omega) hN (by omega) (by omega)).mono fun e w' ⟨g,k',cap',z',h1,h2,h3,h4,h5,h6⟩=>⟨_,h1,⟨g,k',cap',z',rfl,h2,h3,?_,h5⟩,h6⟩
 rw [h4,hv];simp
theorem npow5z (m:Nat)(w:World)(hm:m<=12000):Calls Tryz.prog 56 #[.int .i64 5,.int .i64 (m:Int)] w fun r w'=>∃ v,r=.returned (.tuple #[v,.int .i64 0])/\NT 2001 (5^m) v w'/\Below w.heap.size w w':=by
 refine (npow_any 5 m w (Or.inl rfl) hm).mono fun r w' ⟨g,k,cap,z,e1,hk,hN,hv,hs,hB⟩=>⟨_,e1,⟨g,k,cap,z,rfl,hk,hN,?_,hs⟩,hB⟩
 rw [hv];simp
theorem nt_un1 {W:World}{g V:Nat}{vi:Int}(hg:g=W.heap.size)(hv:vi=(V:Int))(hb:V<18446744073709551616)(h0:V≠0):NT 1 V (.slice (some ⟨g,0,none⟩) 1 1) (W.alloc (.cells #[.int .u64 vi] 22)):=by
 subst hg hv
 refine ⟨_,1,1,oneW V,rfl,Nat.le_refl _,num_one W V (by omega),val_one1 V,?_⟩
 have:oneW (V:Int) 0≠0:=by simp [oneW];omega
 simp [sizeL,this]
theorem npow2z (m:Nat)(w:World)(hm:m<=12000):Calls Tryz.prog 56 #[.int .i64 2,.int .i64 (m:Int)] w fun r w'=>∃ v,r=.returned (.tuple #[v,.int .i64 0])/\Nt 2001 (2^m) v w'/\Below w.heap.size w w':=by
 refine (npow_two m w hm).mono fun r w' ⟨g,k,cap,z,e1,hk,hN,hv,hs,hB⟩=>⟨_,e1,⟨_,k,cap,z,rfl,hk,hN,?_⟩,hB⟩
 rw [hv];simp
theorem bl_small {m:Nat}(hm:m<=10):bl m<=4:=bl_le.2 (by omega)
attribute [local irreducible] W4 Nz Nt NT
theorem nt_at {W:World}{g k:Nat}(hk:k<2^256)(hg:g<W.heap.size)(h0:W.cell? ⟨g,4,none⟩=some (.int .u64 (W4 k 0)))(h1:W.cell? ⟨g,5,none⟩=some (.int .u64 (W4 k 1)))(h2:W.cell? ⟨g,6,none⟩=some (.int .u64 (W4 k 2)))(h3:W.cell? ⟨g,7,none⟩=some (.int .u64 (W4 k 3))) :
  Nt 4 k (.slice (some ⟨g,4,none⟩) 4 4) W:=by
 unfold Nt
 refine ⟨some ⟨g,4,none⟩,4,4,fun i=>if i<4 then W4 k i else 0,rfl,Nat.le_refl _,⟨Nat.le_refl _,by unfold maxLen;omega,fun i=>?_,fun i hi=>if_neg (by omega),Or.inr ⟨g,4,rfl,hg,fun i hi=>?_⟩⟩,?_⟩
 ·dsimp only
  split
  ·exact W4_words k i
  ·exact ⟨Int.le_refl _,by decide⟩
 ·have:i=0∨i=1∨i=2∨i=3:=by omega
  rcases this with rfl|rfl|rfl|rfl
  ·exact h0
  ·exact h1
  ·exact h2
  ·exact h3
 ·have e:=W4_val4 hk
  rw [← e]
  simp [val]
def gsP (k:Nat)(x:Int):Int:=(((bl k:Int)-1+x)*30103).tdiv 100000-1
end
theorem und_is {m:Int}{B:Nat}(h:goodN m B):isD (fN m) (leastN m) (mostN m) (unD m B):=by
 obtain ⟨S,E,F,hS,hE,hFr,hBe⟩:=fields_in h.2
 have hu:unD m B=mean (fN m) (eN m) (leastN m) S E F:=by
  unfold unD;rw [if_pos h,hBe,unp_mean _ hS hE hFr]
 rw [hu]
 exact (mean_isD (bin_fm h.1) hS hE hFr).1
theorem fN_two {n:Int}(hb:binN n):2<=fN n:=by
 rcases bin_cases hb with rfl|rfl|rfl|rfl|rfl|rfl<;>decide
/-! the sign -/
/-! the order -/
/-! what Convert answers -/
def cnG (m t d:Int)(B:Nat):Prop:=goodN m B/\binN t/\knB d
instance (m t d:Int) (B:Nat):Decidable (cnG m t d B):=by unfold cnG;infer_instance
section
attribute [local irreducible] W4 Nz Nt NT
def nbB (n x:Int)(k:Nat):Bool:=decide (leastN n<x)&&decide (k=2^fN n)
end
section
structure Mut (g:Nat) (w w':World):Prop where
 os:w'.os=w.os
 tape:w'.tape=w.tape
 output:w'.output=w.output
 size:w.heap.size<=w'.heap.size
 block:∀ k,k<w.heap.size->k≠g->w'.heap[k]?=w.heap[k]?
theorem Mut.refl (g:Nat)(w:World):Mut g w w:=⟨rfl,rfl,rfl,Nat.le_refl _,fun _ _ _=>rfl⟩
theorem Mut.trans {g:Nat}{a b c:World}(h:Mut g a b)(k:Mut g b c):Mut g a c :=
 ⟨k.os.trans h.os,k.tape.trans h.tape,k.output.trans h.output,Nat.le_trans h.size k.size,fun i hi hg=>(k.block i (Nat.lt_of_lt_of_le hi h.size) hg).trans (h.block i hi hg)⟩
theorem Mut.below {g:Nat}{a b:World}(h:Below a.heap.size a b):Mut g a b:=⟨h.os,h.tape,h.output,h.size,fun k hk _=>h.block k hk⟩
theorem Mut.set {g:Nat}{a b:World}(h:Mut g a b)(i:Nat)(v:Value):Mut g a (b.setCell ⟨g,i,none⟩ v) :=
 h.trans ⟨rfl,rfl,rfl,by simp [World.setCell],fun k _ hk=>Below.heap_setCell _ _ _ _ hk⟩
theorem Mut.out {g B:Nat}{w0 w w':World}(h:Mut g w w')(h0:Below B w0 w)(hB:B<=g)(hs:B<=w0.heap.size):Below B w0 w' :=
 h0.trans ⟨h.os,h.tape,h.output,h.size,fun k hk=>h.block k (by have:=h0.size;omega) (by omega)⟩
attribute [local irreducible] W4 Nz Nt NT
end
section
theorem tn_ex {k:Nat}{x:Int}:∀ (d:Nat) (g0:Int),tnP k x g0->¬ tnP k x (g0+d)->∃ E,g0<=E/\E<g0+d/\tnP k x E/\¬ tnP k x (E+1)
 | 0,g0,h0,h1=>absurd h0 (by simpa using h1)
 | d+1,g0,h0,h1=>by
  by_cases h:tnP k x (g0+1)
  ·obtain ⟨E,e1,e2,e3,e4⟩:=tn_ex d (g0+1) h (by rw [show g0+1+(d:Int)=g0+((d+1:Nat):Int) by omega];exact h1)
   exact ⟨E,by omega,by omega,e3,e4⟩
  ·exact ⟨g0,Int.le_refl _,by omega,h0,h⟩
theorem tn_top {k:Nat}{x:Int}(hk:k<2^256)(hx:x<=17000):¬ tnP k x 6000:=by
 unfold tnP zE oE
 rw [show ((-6000:Int)).toNat=0 by decide,Nat.pow_zero,Nat.mul_one,show ((6000:Int)).toNat=6000 by decide]
 have h1:(2:Nat)^18000<=10^6000:=by decide +kernel
 obtain ⟨m',hm'⟩:∃ m':Nat,m'=18000:=⟨_,rfl⟩
 rw [← hm'] at h1
 generalize (10:Nat)^6000=T at *
 obtain ⟨m,hm⟩:∃ m:Nat,m=17000:=⟨_,rfl⟩
 have h2:k*2^x.toNat<2^256*2^m:=by
  have a1:k*2^x.toNat<2^256*2^x.toNat:=Nat.mul_lt_mul_of_pos_right hk (Nat.two_pow_pos _)
  have a2:2^256*2^x.toNat<=2^256*2^m:=Nat.mul_le_mul_left _ (Nat.pow_le_pow_right (by decide) (by omega))
  exact Nat.lt_of_lt_of_le a1 a2
 rw [← Nat.pow_add] at h2
 have h3:(2:Nat)^(256+m)<=2^m':=Nat.pow_le_pow_right (by decide) (by omega)
 have h4:1*T<=2^(-x).toNat*T:=Nat.mul_le_mul_right _ (Nat.two_pow_pos _)
 generalize (2:Nat)^(256+m)=Y at *
 generalize (2:Nat)^m'=Y' at *
 rw [Nat.mul_assoc 4,Nat.mul_assoc 4]
 generalize 2^(-x).toNat*T=Z1 at *
 generalize k*2^x.toNat=Z2 at *
 omega
theorem two_bl (m:Nat):bl (2^m)=m+1:=bl_eq (by rw [Nat.add_sub_cancel];exact Nat.le_refl _) (Nat.pow_lt_pow_right (by decide) (by omega))
attribute [local irreducible] W4 Nz Nt NT
end
section
theorem NT.grown {K V Bs:Nat}{v tv:Value}{l:List UInt8}{w w':World}(h:NT K V v w)(ho:w.ownsRow Bs 5 1 tv l.length (Lib.byteCells l))(hl:tv=.slice none 0 0∨0<l.length)(hg:w.grownBy w' tv.ownBlock):NT K V v w':=by
 obtain ⟨b,k,cap,z,h1,h2,⟨n1,n2,n3,n4,n5⟩,h4,h5⟩:=h
 refine ⟨b,k,cap,z,h1,h2,⟨n1,n2,n3,n4,?_⟩,h4,h5⟩
 rcases n5 with n5|⟨b',off,e,hb,hc⟩
 ·exact Or.inl n5
 ·cases e
  refine Or.inr ⟨b,0,rfl,Nat.lt_of_lt_of_le hb hg.size,fun i hi=>?_⟩
  have hne:some b≠tv.ownBlock:=by
   rcases hl with rfl|hl
   ·intro h;cases h
   ·obtain ⟨g',cap',rfl,_,_⟩:=ho.form hl
    intro h
    have:b=g':=Option.some.inj h
    subst this
    have h6:=hc 0 (by omega)
    rw [Nat.add_zero,ho.cellAt 0 (by omega)] at h6
    simp [Lib.byteCells,hl] at h6
  exact (World.cell?_of_block (w:=w) (a:=⟨b,0+i,none⟩) (hg.block b hb hne)).trans (hc i hi)
attribute [local irreducible] W4 Nz Nt NT
end
section
attribute [local irreducible] W4 NT NV
theorem nt_oneB {W:World}{g:Nat}(hg:g=W.heap.size):NT 900 1 (.slice (some ⟨g,0,none⟩) 1 1) (W.alloc (.cells #[.int .u64 1] 22)):=by
 have h:=nt_un1 (W:=W) (V:=1) (vi:=1) hg rfl (by decide) (by decide)
 unfold NT at h ⊢
 obtain ⟨g',k',c',z,h1,h2,h3⟩:=h
 exact ⟨g',k',c',z,h1,Nat.le_trans h2 (by decide),h3⟩
end
theorem ld_sc {N D c:Nat}(hN:N≠0)(hD:D≠0)(hc:0<c):ld (N*c) (D*c)=ld N D:=by
 have hNc:N*c≠0:=Nat.mul_ne_zero hN (by omega)
 have hDc:D*c≠0:=Nat.mul_ne_zero hD (by omega)
 obtain ⟨K,hK⟩:∃ K:Nat,K=bl D+bl N+bl (D*c)+bl (N*c)+2:=⟨_,rfl⟩
 obtain ⟨h1,h2⟩:=ld_bd hN hD K (by omega)
 obtain ⟨g1,g2⟩:=ld_bd hNc hDc K (by omega)
 have l1:(bl N:Int)-bl D-1<=ld N D/\ld N D<=(bl N:Int)-bl D:=by unfold ld;dsimp only;split<;>omega
 have l2:(bl (N*c):Int)-bl (D*c)-1<=ld (N*c) (D*c)/\ld (N*c) (D*c)<=(bl (N*c):Int)-bl (D*c):=by unfold ld;dsimp only;split<;>omega
 rw [Nat.mul_right_comm D,Nat.mul_right_comm N] at g1 g2
 have g1':=Nat.le_of_mul_le_mul_right g1 hc
 have g2':=Nat.lt_of_mul_lt_mul_right g2
 have a1:=Nat.lt_of_mul_lt_mul_left (Nat.lt_of_le_of_lt h1 g2')
 have a2:=Nat.lt_of_mul_lt_mul_left (Nat.lt_of_le_of_lt g1' h2)
 have b1:=(Nat.pow_lt_pow_iff_right (by decide:1<2)).1 a1
 have b2:=(Nat.pow_lt_pow_iff_right (by decide:1<2)).1 a2
 omega
theorem nr_sc (d:Int)(s:Bool)(N D:Nat){c:Nat}(hc:0<c)(k:Int):nrC d s (N*c) (D*c) k=nrC d s N D k/\(nrR (N*c) (D*c) k=0↔nrR N D k=0):=by
 have eq:nrQ (N*c) (D*c) k=nrQ N D k:=by
  unfold nrQ
  rw [Nat.mul_right_comm N,Nat.mul_right_comm D,Nat.mul_div_mul_right _ _ hc]
 have er:nrR (N*c) (D*c) k=nrR N D k*c:=by
  unfold nrR
  rw [Nat.mul_right_comm N,Nat.mul_right_comm D,Nat.mul_mod_mul_right]
 have ef:nrF d s (N*c) (D*c) k=nrF d s N D k:=by
  unfold nrF
  rw [eq,er,Nat.mul_right_comm D,fa_sc d s _ _ _ c hc]
 refine ⟨?_,?_⟩
 ·unfold nrC
  rw [ef,eq]
 ·rw [er]
  refine ⟨fun h=>?_,fun h=>by rw [h,Nat.zero_mul]⟩
  rcases Nat.mul_eq_zero.1 h with h|h
  ·exact h
  ·omega
theorem rd_sc (n d:Int)(s:Bool)(N:Nat){D c:Nat}(hD:D≠0)(hc:0<c)(x:Int):rdV n d s (N*c) (D*c) x=rdV n d s N D x/\rdF n d s (N*c) (D*c) x=rdF n d s N D x:=by
 by_cases hN:N=0
 ·subst hN
  rw [Nat.zero_mul]
  exact ⟨by unfold rdV;rw [if_pos rfl,if_pos rfl],by unfold rdF;rw [if_pos rfl,if_pos rfl]⟩
 have hNc:N*c≠0:=Nat.mul_ne_zero hN (by omega)
 have el:=ld_sc hN hD hc
 have eX:rX n (N*c) (D*c) x=rX n N D x:=by unfold rX;rw [el]
 have eQ:rQ n (N*c) (D*c) x=rQ n N D x:=by unfold rQ;rw [el,eX]
 have eC:rC n d s (N*c) (D*c) x=rC n d s N D x:=by unfold rC;rw [eX,eQ];exact (nr_sc d s N D hc _).1
 have eR:=(nr_sc d s N D hc (rX n N D x-rQ n N D x)).2
 have eC':rC' n d s (N*c) (D*c) x=rC' n d s N D x:=by unfold rC';rw [eC]
 have eQ':rQ' n d s (N*c) (D*c) x=rQ' n d s N D x:=by unfold rQ';rw [eC,eQ]
 refine ⟨?_,?_⟩
 ·unfold rdV
  rw [if_neg hN,if_neg hNc,eC',eQ']
 ·unfold rdF
  rw [if_neg hN,if_neg hNc,eQ',eX,eQ,el]
  simp only [eR]
theorem tn_zeros (n d:Int)(s:Bool)(A z:Nat)(P:Int):rdV n d s (tN (A*10^z) (P-z)) (tD (P-z)) (P-z)=rdV n d s (tN A P) (tD P) P/\rdF n d s (tN (A*10^z) (P-z)) (tD (P-z)) (P-z)=rdF n d s (tN A P) (tD P) P:=by
 obtain ⟨a1,a2⟩:=ten_shift n d s (A*10^z) (P-z)
 obtain ⟨b1,b2⟩:=ten_shift n d s A P
 rw [← a1,← a2,← b1,← b2]
 have e1:A*10^z*10^(P-z).toNat=A*10^P.toNat*10^(z+(P-z).toNat-P.toNat):=by
  rw [Nat.mul_assoc,Nat.mul_assoc,← Nat.pow_add,← Nat.pow_add]
  congr 2
  omega
 have e2:10^(-(P-z)).toNat=10^(-P).toNat*10^(z+(P-z).toNat-P.toNat):=by
  rw [← Nat.pow_add]
  congr 1
  omega
 rw [e1,e2]
 exact rd_sc n d s _ (Nat.ne_of_gt (Nat.pow_pos (by decide))) (Nat.pow_pos (by decide)) 0
def fxA (k:Nat)(x a:Int):Nat:=k*2^x.toNat*10^(-a).toNat
def fxB (x a:Int):Nat:=2^(-x).toNat*10^a.toNat
theorem fxB_pos (x a:Int):0<fxB x a:=Nat.mul_pos (Nat.two_pow_pos _) (Nat.pow_pos (by decide))
theorem fx_tn {k:Nat}{x e:Int}:tnP k x e↔fxB x e<=fxA k x e:=by
 unfold tnP zE oE fxA fxB
 have e1:4*2^(-x).toNat*10^e.toNat=4*(2^(-x).toNat*10^e.toNat):=by rw [Nat.mul_assoc]
 have e2:4*k*(2^x.toNat*10^(-e).toNat)=4*(k*2^x.toNat*10^(-e).toNat):=by rw [Nat.mul_assoc 4,Nat.mul_assoc k]
 rw [e1,e2]
 omega
theorem fx_shift (k:Nat)(x e:Int)(m:Nat):fxA k x (e-m)*fxB x e=10^m*fxA k x e*fxB x (e-m):=by
 unfold fxA fxB
 have h:(10:Nat)^(-(e-m)).toNat*10^e.toNat=10^m*(10^(-e).toNat*10^(e-m).toNat):=by
  rw [← Nat.pow_add,← Nat.pow_add,← Nat.pow_add]
  congr 1
  omega
 generalize (10:Nat)^(-(e-m)).toNat=p1 at *
 generalize (10:Nat)^e.toNat=p2 at *
 generalize (10:Nat)^m=p3 at *
 generalize (10:Nat)^(-e).toNat=p4 at *
 generalize (10:Nat)^(e-m).toNat=p5 at *
 generalize (2:Nat)^(-x).toNat=q at *
 generalize k*2^x.toNat=r at *
 calc r*p1*(q*p2)=r*q*(p1*p2):=by grind
  _=r*q*(p3*(p4*p5)):=by rw [h]
  _=p3*(r*p4)*(q*p5):=by grind
theorem fx_bounds {k:Nat}{x E:Int}{n:Nat}(h0:tnP k x E)(h1:¬ tnP k x (E+1))(hn:1<=n){a:Int}(ha:a=E-n+1) :
  10^(n-1)*fxB x a<=fxA k x a/\fxA k x a<10^n*fxB x a:=by
 rw [fx_tn] at h0 h1
 have s0:=fx_shift k x E (n-1)
 have s1:=fx_shift k x (E+1) n
 rw [show E-((n-1:Nat):Int)=a by omega] at s0
 rw [show E+1-(n:Int)=a by omega] at s1
 have b0:=fxB_pos x E
 have b1:=fxB_pos x (E+1)
 have ba:=fxB_pos x a
 constructor
 ·refine Nat.le_of_mul_le_mul_right ?_ b0
  rw [s0]
  calc 10^(n-1)*fxB x a*fxB x E=10^(n-1)*fxB x E*fxB x a:=by grind
   _<=10^(n-1)*fxA k x E*fxB x a:=Nat.mul_le_mul_right _ (Nat.mul_le_mul_left _ h0)
 ·refine Nat.lt_of_mul_lt_mul_right (a:=fxB x (E+1)) ?_
  rw [s1]
  have hp:0<10^n:=Nat.pow_pos (by decide)
  calc 10^n*fxA k x (E+1)*fxB x a<10^n*fxB x (E+1)*fxB x a:=Nat.mul_lt_mul_of_pos_right (Nat.mul_lt_mul_of_pos_left (by omega) hp) ba
   _=10^n*fxB x a*fxB x (E+1):=by grind
theorem wh_near (d:Int)(s:Bool)(A B:Nat):A/B<=whC d s A B/\whC d s A B<=A/B+1:=by
 unfold whC
 split<;>omega
theorem fx_digits {k:Nat}{x E:Int}{n:Nat}(d:Int)(s:Bool)(h0:tnP k x E)(h1:¬ tnP k x (E+1))(hn:1<=n){a:Int}(ha:a=E-n+1) :
  10^(n-1)<=whC d s (fxA k x a) (fxB x a)/\whC d s (fxA k x a) (fxB x a)<=10^n:=by
 obtain ⟨b1,b2⟩:=fx_bounds h0 h1 hn ha
 obtain ⟨w1,w2⟩:=wh_near d s (fxA k x a) (fxB x a)
 have hB:=fxB_pos x a
 have c1:10^(n-1)<=fxA k x a/fxB x a:=(Nat.le_div_iff_mul_le hB).2 b1
 have c2:fxA k x a/fxB x a<10^n:=(Nat.div_lt_iff_lt_mul hB).2 b2
 omega
end Go.Proofs.YtahfkpjhlbiamaaGreatDoor
