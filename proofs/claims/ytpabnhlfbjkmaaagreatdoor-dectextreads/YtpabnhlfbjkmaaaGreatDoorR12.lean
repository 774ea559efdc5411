/-
  Texts that the proof leans on.
-/
import Derived.Test.YtpabnhlfbjkmaaaGreatDoorR1
import Derived.Test.YtpabnhlfbjkmaaaGreatDoorR10
set_option maxHeartbeats 8000000
set_option linter.unusedVariables false
set_option linter.unusedSimpArgs false
set_option linter.unusedSectionVars false
set_option maxRecDepth 20000
namespace Go.Proofs.YtpabnhlfbjkmaaaGreatDoor
open Go.RowKit
def upZ (z y:Nat->Int)(r off k j:Nat):Int:=if off<=j/\j<off+k then shW y r (j-off) else z j
theorem zZq (z y:Nat->Int)(r off k j:Nat):(if j=off+k then shW y r k else upZ z y r off k j)=upZ z y r off (k+1) j:=by
 unfold upZ
 by_cases e:j=off+k
 ·subst e
  rw [if_pos rfl,if_pos (by omega)];congr 1;omega
 ·rw [if_neg e]
  by_cases e2:off<=j/\j<off+k
  ·rw [if_pos e2,if_pos (by omega)]
  ·rw [if_neg e2,if_neg (by omega)]
theorem zSj (g N off m c k c' r:Nat)(a':Option Addr)(z y:Nat->Int)(w:World)(hm:off+m<=N)(hN:N<4294967296)(hk:k<m)(hr:r<64)(h:Own g N z w)(h':Num w a' k c' y)(hA:zTi a' g) :
  Calls Tryz.prog 225 #[.slice (some ⟨g,off,none⟩) m c,.slice a' k c',.int .i64 r] w fun e w'=>e=.returned (.tuple #[])/\Own g N (upZ z y r off (k+1)) w'/\Upd g w w':=by
 have hy:=h'.2.2.1
 have hri:(r:Int)<64:=by omega
 have e64:((64:Int)-r).toNat=64-r:=by omega
 have hk0:=h'.2.2.2.1 k (Nat.le_refl _)
 go_enter Tryz.func225,Tryz.ntmps225
 go_wp2
 go_loopw [6,7,8,11] (fun cv u7 u8 i wr=>∃ (j:Nat),j<=k/\i=.int .i64 j/\cv=.int .u64 (prevW y r j)/\Own g N (upZ z y r off j) wr/\Upd g w wr) (fun _ _ _ i _=>k-(intOf i).toNat)
 case atStart=>exact ⟨0,Nat.zero_le _,rfl,rfl,h.congr fun i _=>by unfold upZ;rw [if_neg (by omega)],Upd.refl _ _⟩
 case round =>
  obtain ⟨j,hj,rfl,rfl,hO,hU⟩:=hrel
  have hpb:=zJl hy hr j
  by_cases hlt:j<k
  ·have hji:(j:Int)<k:=by omega
   have hjm:(j:Int)<m:=by omega
   obtain ⟨b,off',rfl,hb,hc⟩:=(hU.num' hA h').cells (by omega)
   have hcj:=hc j hlt
   have hco:∃ u,wr.cell? ⟨g,off+j,none⟩=some (.int .u64 u):=⟨_,hO.cell (off+j) (by omega)⟩
   obtain ⟨u,hco⟩:=hco
   have hfo:=hO.frozen (off+j)
   have b_y:=hy j
   have HP:Hid (prevW y r (j+1)=y j/2^(64-r)):=by show _=_;rw [zD7 _ (by omega)];rfl
   have HS:Hid (bits BinOp.or IntKind.u64 (IntKind.u64.wrap (y j*2^r)) (prevW y r j)=shW y r j):=by
    show _=_
    rw [← zNv hy hr j]
    exact zOr _ _ (zAc _) hpb
   have HO:Hid (Own g N (upZ z y r off (j+1)) (wr.setCell ⟨g,off+j,none⟩ (.int .u64 (shW y r j)))):=(hO.set (off+j) _).congr fun i _=>zZq z y r off j i
   have HU:Hid (Upd g w (wr.setCell ⟨g,off+j,none⟩ (.int .u64 (shW y r j)))):=hU.set (off+j) _
   rw [← HS.out] at HO HU
   clear hO hU hc h h' hA hy hk0 HS
   generalize prevW y r j=pv at *
   go_wp2
   go_roundw
   case rel=>exact ⟨j+1,by omega,by go_num,by rw [HP.out],HO.out,HU.out⟩
   case measure=>simp [intOf];omega
  ·obtain rfl:j=k:=by omega
   have hjm:(j:Int)<m:=by omega
   have hco:∃ u,wr.cell? ⟨g,off+j,none⟩=some (.int .u64 u):=⟨_,hO.cell (off+j) (by omega)⟩
   obtain ⟨u,hco⟩:=hco
   have hfo:=hO.frozen (off+j)
   have e1:shW y r j=prevW y r j:=by unfold shW;rw [hk0];simp
   have HO:Hid (Own g N (upZ z y r off (j+1)) (wr.setCell ⟨g,off+j,none⟩ (.int .u64 (prevW y r j)))):=(hO.set (off+j) _).congr fun i _=>by rw [← e1];exact zZq z y r off j i
   have HU:Hid (Upd g w (wr.setCell ⟨g,off+j,none⟩ (.int .u64 (prevW y r j)))):=hU.set (off+j) _
   clear hO hU h h' hA hy hk0 e1
   generalize prevW y r j=pv at *
   go_wp2
   go_end0
   exact ⟨rfl,HO.out,HU.out⟩
theorem zKn {g N c:Nat}{z:Nat->Int}{w:World}{V:Int}(hO:Own g N z w)(hW:zFa z)(hN:N<4000000000)(hc:N<=c)(hc2:c<=maxLen)(hv:val z N=V) :
  ∃ k z',k<=N/\Num w (some ⟨g,0,none⟩) k c z'/\val z' k=V/\sizeL z' k=k/\CQ 63 #[.slice (some ⟨g,0,none⟩) N c] w (.slice (some ⟨g,0,none⟩) k c):=by
 have h:=hO.num hW 0 N c (by omega) hc hc2
 refine ⟨sizeL (segW z 0 N) N,segW z 0 N,zGa _ _,h.bare,?_,zHa _ _,zYa _ N c _ w (by omega) h⟩
 rw [zOa,zIa (x:=segW z 0 N) (y:=z) N fun i hi=>by rw [zUa _ 0 N i hi,Nat.zero_add],hv]
section
attribute [local go_sem] zSa zEb
def zM4 (x:Nat->Int)(q r:Nat):Bool:=decide (0<sizeL x q)||decide (x q%2^r≠0)
def goneK (x:Nat->Int)(q r k:Nat):Bool:=if k<=q then decide (0<sizeL x k) else zM4 x q r
theorem zAu (x:Nat->Int)(q r:Nat):goneK x q r 0=false:=by unfold goneK;rw [if_pos (Nat.zero_le _)];rfl
theorem zBz {x:Nat->Int}{q r k:Nat}(h:k<q)(hz:x k=0):goneK x q r (k+1)=goneK x q r k:=by
 unfold goneK;rw [if_pos (by omega),if_pos (by omega)];simp [sizeL,hz]
theorem zAz {x:Nat->Int}{q r k:Nat}(h:k<q)(hz:¬ x k=0):goneK x q r (k+1)=true:=by
 unfold goneK;rw [if_pos (by omega)];simp [sizeL,hz]
theorem zL4 (x:Nat->Int)(k r:Nat):goneK x k r (k+1)=(goneK x k r k||decide (x k%2^r≠0)):=by
 unfold goneK;rw [if_neg (by omega),if_pos (Nat.le_refl _)];rfl
theorem zK4 {x:Nat->Int}{q r k:Nat}(h:q<k):goneK x q r (k+1)=goneK x q r k:=by
 unfold goneK;rw [if_neg (by omega),if_neg (by omega)]
theorem zCz {x:Nat->Int}{q r n:Nat}(h:q<n):goneK x q r n=zM4 x q r:=by
 unfold goneK;rw [if_neg (by omega)]
theorem zUh {y:Int}{r:Nat}(hy:0<=y/\y<=18446744073709551615)(hr:r<64):bits BinOp.and IntKind.u64 y (2^r-1)=y%2^r:=by
 have h1:=zHb r
 have h2:=zKm hr
 rw [u64_and _ _ hy.1 (by omega) (by omega) (by omega)]
 obtain ⟨n,rfl⟩:=Int.eq_ofNat_of_zero_le hy.1
 have e:((2:Int)^r-1).toNat=2^r-1:=by rw [← zPb];omega
 rw [e,Int.toNat_natCast,Nat.and_two_pow_sub_one_eq_mod,Int.natCast_emod,zPb]
end
end Go.Proofs.YtpabnhlfbjkmaaaGreatDoor
