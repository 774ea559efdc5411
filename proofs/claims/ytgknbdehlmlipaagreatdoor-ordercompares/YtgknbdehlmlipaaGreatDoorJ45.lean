/-
  Texts that the proof leans on.
-/
import Derived.Test.YtgknbdehlmlipaaGreatDoorJ39
import Derived.Test.YtgknbdehlmlipaaGreatDoorJ12
import Derived.RegionTactic
import Derived.ChangeAlike
import Derived.BigRegion
import Derived.Laws.Strings2
import Derived.Lib.AppendStr
import Derived.Lib.Builder
import Derived.Deep.AppendLies
import Derived.Test.YtgknbdehlmlipaaGreatDoorJ18
import Derived.Laws.BytesArg
import Derived.Test.YtgknbdehlmlipaaGreatDoorJ21
import Derived.Test.YtgknbdehlmlipaaGreatDoorJ35
import Derived.Test.YtgknbdehlmlipaaGreatDoorJ25
set_option linter.unusedVariables false
set_option linter.unusedSectionVars false
set_option linter.unusedSimpArgs false
set_option maxRecDepth 20000
namespace Go.Proofs.YtgknbdehlmlipaaGreatDoor
open Go.RowKit
section
theorem NT.grown {K V Bs:Nat}{v tv:Value}{l:List UInt8}{w w':World}(h:NT K V v w)(ho:w.ownsRow Bs 5 1 tv l.length (Lib.byteCells l))(hl:tv=.slice none 0 0∨0<l.length)(hg:w.grownBy w' tv.ownBlock):NT K V v w':=by
 obtain ⟨b,k,cap,z,h1,h2,⟨n1,n2,n3,n4,n5⟩,h4,h5⟩:=h
 refine ⟨b,k,cap,z,h1,h2,⟨n1,n2,n3,n4,?_⟩,h4,h5⟩
 rcases n5 with n5|⟨b',off,e,hb,hc⟩
 ·exact Or.inl n5
 ·cases e
  refine Or.inr ⟨b,0,rfl,Nat.lt_of_lt_of_le hb hg.size,fun i hi=>?_⟩
  have hne:some b≠tv.ownBlock:=by
   rcases hl with rfl|hl
   ·intro h;cases h
   ·obtain ⟨g',cap',rfl,_,_⟩:=ho.form hl
    intro h
    have:b=g':=Option.some.inj h
    subst this
    have h6:=hc 0 (by omega)
    rw [Nat.add_zero,ho.cellAt 0 (by omega)] at h6
    simp [Lib.byteCells,hl] at h6
  exact (World.cell?_of_block (w:=w) (a:=⟨b,0+i,none⟩) (hg.block b hb hne)).trans (hc i hi)
attribute [local irreducible] W4 Nz Nt NT
end
def lwN (n x:Int)(k:Nat):Nat:=if nbB n x k then 1 else 2
def evK (k:Nat):Bool:=decide (k%2=0)
structure Shd (n x:Int) (k:Nat) (E:Int) (K:Nat):Prop where
 t0:tnP k x E
 t1:¬ tnP k x (E+1)
 st:stK (evK k) (4*k*oE x E) (lwN n x k*oE x E) (2*oE x E) (zE x E) K=true
 mn:∀ j,j<K->stK (evK k) (4*k*oE x E) (lwN n x k*oE x E) (2*oE x E) (zE x E) j=false
theorem gs_in {k:Nat}{x:Int}(hk:k<2^256)(hk0:k≠0)(hx:-16990<=x/\x<=16990):tnP k x (gsP k x)/\-6000<=gsP k x/\gsP k x<6000:=by
 have hb:bl k<=256:=bl_le.2 hk
 obtain ⟨b1,b2,b3⟩:=bl_bd hk0
 have e:((bl k-1:Nat):Int)=(bl k:Int)-1:=by omega
 have:=guess_ok (c:=k) (L:=bl k-1) (x:=x) b1 (by omega)
 rw [e] at this
 refine ⟨this,?_⟩
 unfold gsP
 by_cases h0:0<=(bl k:Int)-1+x
 ·rw [Int.tdiv_eq_ediv_of_nonneg (by omega)];omega
 ·rw [show ((bl k:Int)-1+x)*30103=-(-((bl k:Int)-1+x)*30103) by omega,Int.neg_tdiv,Int.tdiv_eq_ediv_of_nonneg (by omega)];omega
theorem Shd.ex {n x:Int}{k:Nat}(hk:k<2^256)(hk0:k≠0)(hx:-16990<=x/\x<=16990):∃ E K,Shd n x k E K:=by
 obtain ⟨g1,g2,g3⟩:=gs_in hk hk0 hx
 obtain ⟨E,e1,e2,e3,e4⟩:=tn_ex (6000-gsP k x).toNat (gsP k x) g1 (by rw [show gsP k x+((6000-gsP k x).toNat:Int)=6000 by omega];exact tn_top hk (by omega))
 have hl:0<lwN n x k*oE x E:=Nat.mul_pos (by unfold lwN;split<;>decide) (oE_pos _ _)
 obtain ⟨K,h1,h2⟩:=st_ex (c:=evK k) (R:=4*k*oE x E) (u:=2*oE x E) (zE_pos x E) hl
 exact ⟨E,K,e3,e4,h1,h2⟩
section
theorem W4_none {k:Nat}(hk:k<2^256):decide (W4 k 0=0/\W4 k 1=0/\W4 k 2=0/\W4 k 3=0)=decide (k=0):=by
 by_cases h:k=0
 ·subst h
  rw [decide_eq_true (by simp [W4_zero]),decide_eq_true rfl]
 ·rw [decide_eq_false h,decide_eq_false]
  rintro ⟨h0,h1,h2,h3⟩
  refine h (A4_inj hk (by decide) fun i hi=>?_)
  have:i=0∨i=1∨i=2∨i=3:=by omega
  rcases this with rfl|rfl|rfl|rfl
  ·rw [h0,W4_zero]
  ·rw [h1,W4_zero]
  ·rw [h2,W4_zero]
  ·rw [h3,W4_zero]
attribute [local irreducible] W4
end
section
theorem rscale2 {N D:Nat}{vn vd:Value}{w:World}(x:Int)(hx:-17000<=x/\x<=17000)(h:NT 900 N vn w)(h':NT 900 D vd w)(hN:bl N<=300)(hD:bl D<=300) :
  Calls Tryz.prog 77 #[vn,vd,.int .u64 2,.int .i64 x] w fun e w'=>∃ a b,e=.returned (.tuple #[a,b])/\NT 900 (N*2^x.toNat) a w'/\NT 900 (D*2^(-x).toNat) b w'/\Below w.heap.size w w':=by
 have hc:clZ x=x:=by unfold clZ;omega
 have e1:sN N x=N*2^x.toNat:=by unfold sN;rw [hc]
 have e2:sD D x=D*2^(-x).toNat:=by unfold sD;rw [hc]
 have a1:=bl_mul N (2^x.toNat)
 have a2:=bl_mul D (2^(-x).toNat)
 have b1:=two_bl x.toNat
 have b2:=two_bl (-x).toNat
 refine (rscale_nt x (by decide) h h').mono fun e w' ⟨a,b,h1,h2,h3,h4⟩=>⟨a,b,h1,?_,?_,h4⟩
 ·rw [e1] at h2;exact h2.tight (by omega)
 ·rw [e2] at h3;exact h3.tight (by omega)
attribute [local irreducible] W4 Nz Nt NT NV
section
variable {a:Act}{w:World}{K:Act->World->Prop}{Q:Exit->Act->World->Prop}{d p q:Nat}{ty:TypeId}{pos:String}{after:Array Edge}{gd:Option (Nat×Bool)}
end
section
variable {a:Act}{w:World}{K:Act->World->Prop}{Q:Exit->Act->World->Prop}{d p q p2 p3 p4:Nat}{ty:TypeId}{pos:String}{after:Array Edge}{gd:Option (Nat×Bool)}
end
end
end Go.Proofs.YtgknbdehlmlipaaGreatDoor
