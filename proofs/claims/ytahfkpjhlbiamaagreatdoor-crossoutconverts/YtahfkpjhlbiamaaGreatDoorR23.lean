/-
  Texts that the proof leans on.
-/
import Derived.Test.YtahfkpjhlbiamaaGreatDoorR18
import Derived.Test.YtahfkpjhlbiamaaGreatDoorR15
import Derived.Test.YtahfkpjhlbiamaaGreatDoorR16
import Derived.Test.YtahfkpjhlbiamaaGreatDoorR13
import Derived.Test.YtahfkpjhlbiamaaGreatDoorR1
import Derived.Test.YtahfkpjhlbiamaaGreatDoorR12
import Derived.Test.YtahfkpjhlbiamaaGreatDoorR7
import Derived.Test.YtahfkpjhlbiamaaGreatDoorR6
import Derived.Test.YtahfkpjhlbiamaaGreatDoorR19
set_option linter.unusedVariables false
set_option linter.unusedSectionVars false
set_option linter.unusedSimpArgs false
set_option maxRecDepth 20000
namespace Go.Proofs.YtahfkpjhlbiamaaGreatDoor
open Go.RowKit
theorem yHa:A4 0=Z4:=by
 unfold A4
 simp only [zNa]
theorem NT.more {K K' V:Nat}{v:Value}{w:World}(h:NT K V v w)(hk:K<=K'):NT K' V v w:=by
 obtain ⟨g,k,cap,z,h1,h2,h3,h4,h5⟩:=h
 exact ⟨g,k,cap,z,h1,by omega,h3,h4,h5⟩
theorem zYb {K K' A B:Nat}{v v':Value}{w:World}(hK:K<1000000)(hK':K'<1000000)(h:NV K A v w)(h':NV K' B v' w) :
  CE 86 #[v,v'] w (NT (K+K'+1) (A*B)):=by
 obtain ⟨g,k,c,z,rfl,hk,hN,hz⟩:=h
 obtain ⟨g2,k2,c2,z2,rfl,hk2,hN2,hz2⟩:=h'
 refine (zE0 g 0 k c g2 0 k2 c2 z z2 w (by omega) (by omega) hN hN2).mono fun e w' ⟨g3,k3,cap3,z3,e1,hk3,hN3,hv3,hB,ht⟩=>⟨_,e1,⟨g3,k3,cap3,z3,rfl,by omega,hN3,?_,ht⟩,hB⟩
 rw [← zLa hN3.2.2.2.1 _ hk3,hv3,hz,hz2];simp
theorem zSq {K A:Nat}{v:Value}{w:World}(s:Nat)(hK:K<1000000)(hs:s<=6300000)(h:NV K A v w) :
  CE 87 #[v,.int .i64 s] w (NT (K+s/64+1) (A*2^s)):=by
 obtain ⟨g,k,c,z,rfl,hk,hN,hz⟩:=h
 refine (zDh g 0 k c s z w (by omega) (by omega) (by omega) hN).mono fun e w' ⟨g3,k3,cap3,z3,e1,hk3,hN3,hv3,hB,hf,ht⟩=>⟨_,e1,⟨g3,k3,cap3,z3,rfl,by rw [Int.toNat_natCast] at hk3;omega,hN3,?_,ht⟩,hB⟩
 rw [hv3,hz,Int.toNat_natCast];simp
theorem zQl {K K' A B:Nat}{v v':Value}{w:World}(hK:K<1000000)(hK':K'<1000000)(h:NV K A v w)(h':NV K' B v' w) :
  CQ 88 #[v,v'] w (.int .i64 (sgn (A:Int) B)):=by
 obtain ⟨g,k,c,z,rfl,hk,hN,hz⟩:=h
 obtain ⟨g2,k2,c2,z2,rfl,hk2,hN2,hz2⟩:=h'
 have:=zMi _ _ k c k2 c2 z z2 w (by omega) (by omega) hN hN2
 rw [hz,hz2] at this
 exact this
theorem zLv {K V:Nat}{v:Value}{w:World}(hK:K<1000000)(h:NV K V v w) :
  CQ 69 #[v] w (.int .i64 (bl V:Int)):=by
 obtain ⟨g,k,c,z,rfl,hk,hN,hz⟩:=h
 have:=zTd _ k c z w (by omega) hN
 rw [zRw hN.2.2.1 hz] at this
 exact this
theorem zP0 {K V:Nat}{v:Value}{w:World}(hK:K<1000000)(h:Nt K V v w) :
  CE 128 #[v] w (NT K V):=by
 obtain ⟨a,k,c,z,rfl,hk,hN,hz⟩:=h
 refine (zHb a k c z w (by omega) hN).mono fun e w' ⟨g,cap,e1,hN',hB⟩=>⟨_,e1,⟨g,_,cap,z,rfl,Nat.le_trans (zCa z k) hk,hN',?_,zFa _ _⟩,hB⟩
 rw [zKa,hz]
def clZ (x:Int):Int:=min (max x (-200000)) 200000
def sN (N:Nat)(x:Int):Nat:=N*2^(clZ x).toNat
def sD (D:Nat)(x:Int):Nat:=D*2^(-(clZ x)).toNat
def whC (d:Int)(s:Bool)(A B:Nat):Nat:=if faB d s (decide (A/B%2=1)) (A%B) B then A/B+1 else A/B
theorem fa_sc (d:Int)(s o:Bool)(R D k:Nat)(hk:0<k):faB d s o (R*k) (D*k)=faB d s o R D:=by
 have e1:R*k=0↔R=0:=by rw [Nat.mul_eq_zero];omega
 have e2:D*k<R*k+R*k↔D<R+R:=by rw [← Nat.add_mul];exact Nat.mul_lt_mul_right hk
 have e3:R*k+R*k=D*k↔R+R=D:=by rw [← Nat.add_mul];exact Nat.mul_right_cancel_iff hk
 have e4:D*k<=R*k+R*k↔D<=R+R:=by rw [← Nat.add_mul];exact Nat.mul_le_mul_right_iff hk
 unfold faB
 simp only [e1,e2,e3,e4]
section
def zWp (n:Nat):Code->Option (List Oper)
 | .region i o _=>if i=n then some o.toList else none
 | .seq a b=>match zWp n a with|some l=>some l|none=>zWp n b
 | .cond _ a b=>match zWp n a with|some l=>some l|none=>zWp n b
 | .block _ c=>zWp n c
 | .loop c=>zWp n c
 | _=>none
section
variable {P:Program}{a:Act}{w:World}{K:Act->World->Prop}{Q:Exit->Act->World->Prop}{d p q:Nat}{ty:TypeId}{pos:String}{after:Array Edge}{gd:Option (Nat×Bool)}
theorem og_mv {v:Value}(h1:slot a p=v)(hK:K (a.put (some d) v) w):Oper.wp P { dst:=some d,op:=Op.move (Operand.tmp p),type:=ty,pos:=pos,after:=after,guard:=gd } a w K Q:=by
 unfold slot at h1
 simp [go_sem,h1]
 exact hK
theorem zMn {g i:Nat}{v:Value}(h1:slot a p=.pointer (some ⟨g,i,none⟩))(h2:w.cell? ⟨g,i,none⟩=some v)(hK:K (a.put (some d) v) w):Oper.wp Tryz.prog { dst:=some d,op:=Op.load 3 (Operand.tmp p),type:=ty,pos:=pos,after:=after,guard:=gd } a w K Q:=by
 unfold slot at h1
 simp [go_sem,h1,h2]
 exact hK
end
end
section
section
variable {a:Act}{w:World}{K:Act->World->Prop}{Q:Exit->Act->World->Prop}{d p:Nat}{ty:TypeId}{pos:String}{after:Array Edge}{gd:Option (Nat×Bool)}
theorem og_c1 {F:Nat}{p0:Nat}{u0:Value}{ts:Array TypeId}(hr:Sem.run Tryz.prog (callFunc F #[u0]) w=.ok (.enter F #[u0]) w)(h0:slot a p0=u0)(hc:Calls Tryz.prog F #[u0] w fun e w'=>∃ v,e=.returned v/\K (a.put (some d) v) w'):Oper.wp Tryz.prog { dst:=some d,op:=Op.call { callee:=Callee.value (Operand.func F),args:=#[Operand.tmp p0],argTypes:=ts },type:=ty,pos:=pos,after:=after,guard:=gd } a w K Q:=by
 unfold slot at h0
 simp [go_sem,h0,hr]
 refine hc.mono ?_
 rintro e w' ⟨v,rfl,hK⟩
 exact hK
end
end
end Go.Proofs.YtahfkpjhlbiamaaGreatDoor
