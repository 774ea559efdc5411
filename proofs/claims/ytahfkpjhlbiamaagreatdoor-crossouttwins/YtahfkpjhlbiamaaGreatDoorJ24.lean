/-
  Texts that the proof leans on.
-/
import Derived.Test.YtahfkpjhlbiamaaGreatDoorJ18
import Derived.Test.YtahfkpjhlbiamaaGreatDoorJ11
import Derived.Test.YtahfkpjhlbiamaaGreatDoorJ16
import Derived.Test.YtahfkpjhlbiamaaGreatDoorJ13
import Derived.Test.YtahfkpjhlbiamaaGreatDoorJ21
import Derived.Test.YtahfkpjhlbiamaaGreatDoorJ9
import Derived.Test.YtahfkpjhlbiamaaGreatDoorJ8
import Derived.Deep.Cut
import Derived.Deep.CutRange
import Derived.Deep.RegionWith
import Derived.Test.YtahfkpjhlbiamaaGreatDoorJ2
import Derived.Test.YtahfkpjhlbiamaaGreatDoorJ3
import Derived.Test.YtahfkpjhlbiamaaGreatDoorJ12
import Derived.Test.YtahfkpjhlbiamaaGreatDoorJ1
set_option linter.unusedVariables false
set_option linter.unusedSectionVars false
set_option linter.unusedSimpArgs false
set_option maxRecDepth 20000
namespace Go.Proofs.YtahfkpjhlbiamaaGreatDoor
open Go.RowKit
section
attribute [local irreducible] W4 Nz Nt
def dV (l:List UInt8):Nat:=(numV (B l) (B l).size).toNat
theorem zUt (l:List UInt8)(i:Nat):sb (B l) i=by_ l i:=by
 unfold sb by_
 by_cases h:i<l.length
 ·rw [dif_pos (show i<(B l).size from h),dif_pos h,B_get]
 ·rw [dif_neg (show ¬ i<(B l).size from h),dif_neg h]
theorem dig_B {l:List UInt8}(h:l.all dg=true):zR6 (B l) (B l).size=true:=by
 refine zQz _ fun k hk=>?_
 rw [zUt]
 have hk':k<l.length:=hk
 have h1:=List.all_eq_true.1 h (l[k]'hk') (List.getElem_mem hk')
 unfold dg at h1
 unfold by_
 rw [dif_pos hk']
 have:=of_decide_eq_true h1
 omega
theorem yYb {l:List UInt8}(h:l.all dg=true):dV l<10^l.length/\(dV l:Int)=numV (B l) (B l).size:=by
 obtain ⟨a,b⟩:=zDq _ (dig_B h)
 unfold dV
 generalize numV (B l) (B l).size=V at *
 rw [zFa] at b
 have:((10:Int)^l.length)=((10^l.length:Nat):Int):=by simp
 rw [this] at b
 exact ⟨by omega,by omega⟩
end
section
theorem zG0 (a b:Nat):bl (a*b)<=bl a+bl b:=by
 refine bl_le.2 ?_
 rw [Nat.pow_add]
 have h1:=bl_le.1 (Nat.le_refl (bl a))
 have h2:=bl_le.1 (Nat.le_refl (bl b))
 exact Nat.mul_lt_mul'' h1 h2
attribute [local irreducible] W4 Nz Nt
end
section
theorem NT.nz {K V:Nat}{v:Value}{w:World}(h:NT K V v w):Nz K V v w:=by
 obtain ⟨g,k,cap,z,h1,h2,h3,h4,h5⟩:=h
 exact ⟨_,k,cap,z,h1,h2,h3,h4,h5⟩
theorem NT.nt {K V:Nat}{v:Value}{w:World}(h:NT K V v w):Nt K V v w:=h.nz.nt
theorem zC6 {K K' A P:Nat}{v v':Value}{w:World}(hK:K<100000000)(hK':K'<100000000)(h:Nt K A v w)(h':Nt K' P v' w)(hb:bl A+bl P<=127000) :
  Calls Tryz.prog 81 #[v,v'] w fun r w'=>∃ q,r=.returned (.tuple #[q,.int .i64 0])/\NT 2001 (A*P) q w'/\Below w.heap.size w w':=by
 obtain ⟨a,k,cap,z,rfl,hk,hN,hv⟩:=h
 obtain ⟨a',k',cap',z',rfl,hk',hN',hv'⟩:=h'
 have s1:=(zDg (m:=(bl A+63)/64) hN.2.2.1 hv).2 (by omega)
 have s2:=(zDg (m:=(bl P+63)/64) hN'.2.2.1 hv').2 (by omega)
 refine (zLm a a' k cap k' cap' z z' w (by omega) (by omega) hN hN' (by omega)).mono fun r w' ⟨g,q,cp,y,e1,hq,hNq,hvq,hsq,hB⟩=>⟨_,e1,⟨g,q,cp,y,rfl,by omega,hNq,?_,hsq⟩,hB⟩
 rw [hvq,hv,hv'];simp
theorem zB6 {K V:Nat}{v:Value}{w:World}(d:Nat)(hK:K<100000000)(h:Nt K V v w)(hd:bl V+d<=127000) :
  Calls Tryz.prog 54 #[v,.int .i64 (d:Int)] w fun e w'=>∃ r,e=.returned (.tuple #[r,.int .i64 0])/\NT 2001 (V*2^d) r w'/\Below w.heap.size w w':=by
 obtain ⟨a,k,cap,z,rfl,hk,hN,hv⟩:=h
 have hs:=(zDg (m:=(bl V+63)/64) hN.2.2.1 hv).2 (by omega)
 refine (zF3 a k cap z d w (by omega) hN (by omega) (by omega)).mono fun e w' ⟨g,k',cap',z',h1,h2,h3,h4,h5,h6⟩=>⟨_,h1,⟨g,k',cap',z',rfl,h2,h3,?_,h5⟩,h6⟩
 rw [h4,hv];simp
theorem nt_un1 {W:World}{g V:Nat}{vi:Int}(hg:g=W.heap.size)(hv:vi=(V:Int))(hb:V<18446744073709551616)(h0:V≠0):NT 1 V (.slice (some ⟨g,0,none⟩) 1 1) (W.alloc (.cells #[.int .u64 vi] 22)):=by
 subst hg hv
 refine ⟨_,1,1,zEd V,rfl,Nat.le_refl _,zOd W V (by omega),zKf V,?_⟩
 have:zEd (V:Int) 0≠0:=by simp [zEd];omega
 simp [sizeL,this]
attribute [local irreducible] W4 Nz Nt NT
theorem zP9 {W:World}{g k:Nat}(hk:k<2^256)(hg:g<W.heap.size)(h0:W.cell? ⟨g,4,none⟩=some (.int .u64 (W4 k 0)))(h1:W.cell? ⟨g,5,none⟩=some (.int .u64 (W4 k 1)))(h2:W.cell? ⟨g,6,none⟩=some (.int .u64 (W4 k 2)))(h3:W.cell? ⟨g,7,none⟩=some (.int .u64 (W4 k 3))) :
  Nt 4 k (.slice (some ⟨g,4,none⟩) 4 4) W:=by
 unfold Nt
 refine ⟨some ⟨g,4,none⟩,4,4,fun i=>if i<4 then W4 k i else 0,rfl,Nat.le_refl _,⟨Nat.le_refl _,by unfold maxLen;omega,fun i=>?_,fun i hi=>if_neg (by omega),Or.inr ⟨g,4,rfl,hg,fun i hi=>?_⟩⟩,?_⟩
 ·dsimp only
  split
  ·exact zJa k i
  ·exact ⟨Int.le_refl _,by decide⟩
 ·have:i=0∨i=1∨i=2∨i=3:=by omega
  rcases this with rfl|rfl|rfl|rfl
  ·exact h0
  ·exact h1
  ·exact h2
  ·exact h3
 ·have e:=zRb hk
  rw [← e]
  simp [val]
def gsP (k:Nat)(x:Int):Int:=(((bl k:Int)-1+x)*30103).tdiv 100000-1
end
section
attribute [local irreducible] W4 Nz Nt NT
def nbB (n x:Int)(k:Nat):Bool:=decide (zNa n<x)&&decide (k=2^fN n)
end
section
structure Mut (g:Nat) (w w':World):Prop where
 os:w'.os=w.os
 tape:w'.tape=w.tape
 output:w'.output=w.output
 size:w.heap.size<=w'.heap.size
 block:∀ k,k<w.heap.size->k≠g->w'.heap[k]?=w.heap[k]?
theorem Mut.refl (g:Nat)(w:World):Mut g w w:=⟨rfl,rfl,rfl,Nat.le_refl _,fun _ _ _=>rfl⟩
theorem Mut.trans {g:Nat}{a b c:World}(h:Mut g a b)(k:Mut g b c):Mut g a c :=
 ⟨k.os.trans h.os,k.tape.trans h.tape,k.output.trans h.output,Nat.le_trans h.size k.size,fun i hi hg=>(k.block i (Nat.lt_of_lt_of_le hi h.size) hg).trans (h.block i hi hg)⟩
theorem Mut.below {g:Nat}{a b:World}(h:Below a.heap.size a b):Mut g a b:=⟨h.os,h.tape,h.output,h.size,fun k hk _=>h.block k hk⟩
theorem Mut.set {g:Nat}{a b:World}(h:Mut g a b)(i:Nat)(v:Value):Mut g a (b.setCell ⟨g,i,none⟩ v) :=
 h.trans ⟨rfl,rfl,rfl,by simp [World.setCell],fun k _ hk=>Below.heap_setCell _ _ _ _ hk⟩
theorem Mut.out {g B:Nat}{w0 w w':World}(h:Mut g w w')(h0:Below B w0 w)(hB:B<=g)(hs:B<=w0.heap.size):Below B w0 w' :=
 h0.trans ⟨h.os,h.tape,h.output,h.size,fun k hk=>h.block k (by have:=h0.size;omega) (by omega)⟩
attribute [local irreducible] W4 Nz Nt NT
end
section
theorem tn_ex {k:Nat}{x:Int}:∀ (d:Nat) (g0:Int),tnP k x g0->¬ tnP k x (g0+d)->∃ E,g0<=E/\E<g0+d/\tnP k x E/\¬ tnP k x (E+1)
 | 0,g0,h0,h1=>absurd h0 (by simpa using h1)
 | d+1,g0,h0,h1=>by
  by_cases h:tnP k x (g0+1)
  ·obtain ⟨E,e1,e2,e3,e4⟩:=tn_ex d (g0+1) h (by rw [show g0+1+(d:Int)=g0+((d+1:Nat):Int) by omega];exact h1)
   exact ⟨E,by omega,by omega,e3,e4⟩
  ·exact ⟨g0,Int.le_refl _,by omega,h0,h⟩
theorem tn_top {k:Nat}{x:Int}(hk:k<2^256)(hx:x<=17000):¬ tnP k x 6000:=by
 unfold tnP zE oE
 rw [show ((-6000:Int)).toNat=0 by decide,Nat.pow_zero,Nat.mul_one,show ((6000:Int)).toNat=6000 by decide]
 have h1:(2:Nat)^18000<=10^6000:=by decide +kernel
 obtain ⟨m',hm'⟩:∃ m':Nat,m'=18000:=⟨_,rfl⟩
 rw [← hm'] at h1
 generalize (10:Nat)^6000=T at *
 obtain ⟨m,hm⟩:∃ m:Nat,m=17000:=⟨_,rfl⟩
 have h2:k*2^x.toNat<2^256*2^m:=by
  have a1:k*2^x.toNat<2^256*2^x.toNat:=Nat.mul_lt_mul_of_pos_right hk (Nat.two_pow_pos _)
  have a2:2^256*2^x.toNat<=2^256*2^m:=Nat.mul_le_mul_left _ (Nat.pow_le_pow_right (by decide) (by omega))
  exact Nat.lt_of_lt_of_le a1 a2
 rw [← Nat.pow_add] at h2
 have h3:(2:Nat)^(256+m)<=2^m':=Nat.pow_le_pow_right (by decide) (by omega)
 have h4:1*T<=2^(-x).toNat*T:=Nat.mul_le_mul_right _ (Nat.two_pow_pos _)
 generalize (2:Nat)^(256+m)=Y at *
 generalize (2:Nat)^m'=Y' at *
 rw [Nat.mul_assoc 4,Nat.mul_assoc 4]
 generalize 2^(-x).toNat*T=Z1 at *
 generalize k*2^x.toNat=Z2 at *
 omega
attribute [local irreducible] W4 Nz Nt NT
end
section
theorem NT.grown {K V Bs:Nat}{v tv:Value}{l:List UInt8}{w w':World}(h:NT K V v w)(ho:w.ownsRow Bs 5 1 tv l.length (Lib.byteCells l))(hl:tv=.slice none 0 0∨0<l.length)(hg:w.grownBy w' tv.ownBlock):NT K V v w':=by
 obtain ⟨b,k,cap,z,h1,h2,⟨n1,n2,n3,n4,n5⟩,h4,h5⟩:=h
 refine ⟨b,k,cap,z,h1,h2,⟨n1,n2,n3,n4,?_⟩,h4,h5⟩
 rcases n5 with n5|⟨b',off,e,hb,hc⟩
 ·exact Or.inl n5
 ·cases e
  refine Or.inr ⟨b,0,rfl,Nat.lt_of_lt_of_le hb hg.size,fun i hi=>?_⟩
  have hne:some b≠tv.ownBlock:=by
   rcases hl with rfl|hl
   ·intro h;cases h
   ·obtain ⟨g',cap',rfl,_,_⟩:=ho.form hl
    intro h
    have:b=g':=Option.some.inj h
    subst this
    have h6:=hc 0 (by omega)
    rw [Nat.add_zero,ho.cellAt 0 (by omega)] at h6
    simp [Lib.byteCells,hl] at h6
  exact (World.cell?_of_block (w:=w) (a:=⟨b,0+i,none⟩) (hg.block b hb hne)).trans (hc i hi)
attribute [local irreducible] W4 Nz Nt NT
end
def lwN (n x:Int)(k:Nat):Nat:=if nbB n x k then 1 else 2
def evK (k:Nat):Bool:=decide (k%2=0)
structure Shd (n x:Int) (k:Nat) (E:Int) (K:Nat):Prop where
 t0:tnP k x E
 t1:¬ tnP k x (E+1)
 st:stK (evK k) (4*k*oE x E) (lwN n x k*oE x E) (2*oE x E) (zE x E) K=true
 mn:∀ j,j<K->stK (evK k) (4*k*oE x E) (lwN n x k*oE x E) (2*oE x E) (zE x E) j=false
theorem gs_in {k:Nat}{x:Int}(hk:k<2^256)(hk0:k≠0)(hx:-16990<=x/\x<=16990):tnP k x (gsP k x)/\-6000<=gsP k x/\gsP k x<6000:=by
 have hb:bl k<=256:=bl_le.2 hk
 obtain ⟨b1,b2,b3⟩:=yGc hk0
 have e:((bl k-1:Nat):Int)=(bl k:Int)-1:=by omega
 have:=zU3 (c:=k) (L:=bl k-1) (x:=x) b1 (by omega)
 rw [e] at this
 refine ⟨this,?_⟩
 unfold gsP
 by_cases h0:0<=(bl k:Int)-1+x
 ·rw [Int.tdiv_eq_ediv_of_nonneg (by omega)];omega
 ·rw [show ((bl k:Int)-1+x)*30103=-(-((bl k:Int)-1+x)*30103) by omega,Int.neg_tdiv,Int.tdiv_eq_ediv_of_nonneg (by omega)];omega
theorem Shd.ex {n x:Int}{k:Nat}(hk:k<2^256)(hk0:k≠0)(hx:-16990<=x/\x<=16990):∃ E K,Shd n x k E K:=by
 obtain ⟨g1,g2,g3⟩:=gs_in hk hk0 hx
 obtain ⟨E,e1,e2,e3,e4⟩:=tn_ex (6000-gsP k x).toNat (gsP k x) g1 (by rw [show gsP k x+((6000-gsP k x).toNat:Int)=6000 by omega];exact tn_top hk (by omega))
 have hl:0<lwN n x k*oE x E:=Nat.mul_pos (by unfold lwN;split<;>decide) (oE_pos _ _)
 obtain ⟨K,h1,h2⟩:=st_ex (c:=evK k) (R:=4*k*oE x E) (u:=2*oE x E) (zE_pos x E) hl
 exact ⟨E,K,e3,e4,h1,h2⟩
section
theorem yLc {k:Nat}(hk:k<2^256):decide (W4 k 0=0/\W4 k 1=0/\W4 k 2=0/\W4 k 3=0)=decide (k=0):=by
 by_cases h:k=0
 ·subst h
  rw [decide_eq_true (by simp [zOa]),decide_eq_true rfl]
 ·rw [decide_eq_false h,decide_eq_false]
  rintro ⟨h0,h1,h2,h3⟩
  refine h (zDp hk (by decide) fun i hi=>?_)
  have:i=0∨i=1∨i=2∨i=3:=by omega
  rcases this with rfl|rfl|rfl|rfl
  ·rw [h0,zOa]
  ·rw [h1,zOa]
  ·rw [h2,zOa]
  ·rw [h3,zOa]
attribute [local irreducible] W4
end
section
theorem zMu {e:Int}(he:-100000<=e/\e<=100000):(Lib.itoa e).length<=21:=by
 have:=Lib.itoa_length_le e (by omega) (by omega)
 omega
def unT (D:List UInt8)(e:Int):List UInt8:=((D.take 1++if 1<D.length then [46]++D.drop 1 else [])++[101])++Lib.itoa e
theorem zZe {D:List UInt8}{e:Int}(he:-100000<=e/\e<=100000):(unT D e).length<=D.length+25:=by
 have:=zMu he
 unfold unT
 rw [List.length_append,List.length_append,List.length_append,List.length_take]
 split
 ·simp;omega
 ·simp;omega
theorem zIl {e:Int}(he:-100000<=e/\e<=100000):(Lib.itoa e).length<=100:=by
 have:=Lib.itoa_length_le e (by omega) (by omega)
 omega
attribute [local irreducible] W4
end
section
attribute [local irreducible] W4 NT NV
theorem zPx {W:World}{g:Nat}(hg:g=W.heap.size):NT 900 1 (.slice (some ⟨g,0,none⟩) 1 1) (W.alloc (.cells #[.int .u64 1] 22)):=by
 have h:=nt_un1 (W:=W) (V:=1) (vi:=1) hg rfl (by decide) (by decide)
 unfold NT at h ⊢
 obtain ⟨g',k',c',z,h1,h2,h3⟩:=h
 exact ⟨g',k',c',z,h1,Nat.le_trans h2 (by decide),h3⟩
end
end Go.Proofs.YtahfkpjhlbiamaaGreatDoor
