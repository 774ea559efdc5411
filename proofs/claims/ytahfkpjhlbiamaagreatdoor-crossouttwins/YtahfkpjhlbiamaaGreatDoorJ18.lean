/-
  Texts that the proof leans on.
-/
import Derived.Test.YtahfkpjhlbiamaaGreatDoorJ1
import Derived.Test.YtahfkpjhlbiamaaGreatDoorJ16
import Derived.Deep.Cut
import Derived.Deep.CutRange
import Derived.Deep.RegionWith
import Derived.Test.YtahfkpjhlbiamaaGreatDoorJ11
import Derived.Test.YtahfkpjhlbiamaaGreatDoorJ6
import Derived.Test.YtahfkpjhlbiamaaGreatDoorJ13
set_option linter.unusedVariables false
set_option linter.unusedSectionVars false
set_option linter.unusedSimpArgs false
set_option maxHeartbeats 8000000
set_option maxRecDepth 20000
namespace Go.Proofs.YtahfkpjhlbiamaaGreatDoor
open Go.RowKit
section
structure Ib (w:World) (g:Nat) (n:Int) (nm:ByteArray) (wd:Int) (f e:Nat) (l m:Int):Prop where
 c0:w.cell? ⟨g,0,none⟩=some (.int .i64 n)
 c1:w.cell? ⟨g,1,none⟩=some (.string nm)
 c2:w.cell? ⟨g,2,none⟩=some (.int .i64 2)
 c3:w.cell? ⟨g,3,none⟩=some (.int .i64 wd)
 c4:w.cell? ⟨g,4,none⟩=some (.int .i64 ((f:Int)+1))
 c5:w.cell? ⟨g,5,none⟩=some (.int .i64 e)
 c6:w.cell? ⟨g,6,none⟩=some (.int .i64 l)
 c7:w.cell? ⟨g,7,none⟩=some (.int .i64 m)
 c8:w.cell? ⟨g,8,none⟩=some (.int .i64 ((f:Int)-1))
 c9:w.cell? ⟨g,9,none⟩=some (.bool false)
theorem Ib.next {w w':World}{g:Nat}{n:Int}{nm:ByteArray}{wd:Int}{f e:Nat}{l m:Int}(h:Ib w g n nm wd f e l m)(hg:g<w.heap.size)(hb:Below w.heap.size w w'):Ib w' g n nm wd f e l m :=
 ⟨by rw [hb.cell (p:=⟨g,0,none⟩) hg,h.c0],by rw [hb.cell (p:=⟨g,1,none⟩) hg,h.c1],by rw [hb.cell (p:=⟨g,2,none⟩) hg,h.c2],by rw [hb.cell (p:=⟨g,3,none⟩) hg,h.c3],by rw [hb.cell (p:=⟨g,4,none⟩) hg,h.c4],by rw [hb.cell (p:=⟨g,5,none⟩) hg,h.c5],by rw [hb.cell (p:=⟨g,6,none⟩) hg,h.c6],by rw [hb.cell (p:=⟨g,7,none⟩) hg,h.c7],by rw [hb.cell (p:=⟨g,8,none⟩) hg,h.c8],by rw [hb.cell (p:=⟨g,9,none⟩) hg,h.c9]⟩
attribute [local irreducible] W4 Nz Nt
section
variable (n d x:Int)(s:Bool)(vn vd:Value)(w:World)(hT:Tab w)
variable (nm:ByteArray)(wd:Int)(f e:Nat)(l m:Int)(N C:Nat)(R:Nat)(E fl lead x1 q0:Int)(ex:Bool)
 (c25:∀ W,Below w.heap.size w W->CB 145 #[.int .i64 n,.int .i64 d,vn,vd] W (.tuple #[DI n nm wd f e l m,.int .i64 0]))
 (c26:∀ W,Below w.heap.size w W->CQ 110 #[vn] W (.int .i64 (bl N:Int)))
include hT c25 c26
variable (hf:f<=300)(hl:-100000<=l/\l<=100000)(hm:-100000<=m/\m<=100000)(hld:-100000<=lead/\lead<=100000)(hx1:-300000<=x1/\x1<=300000)(hq0:q0=max l (lead+x1-((f:Int)+1)+1))
 (hN:(((bl N:Nat):Int)==0)=false)
 (c28:∀ W,Below w.heap.size w W->CB 147 #[vn,vd] W (.int .i64 lead))
 (c29:∀ W,CB 148 #[DI n nm wd f e l m,.int .i64 lead,.int .i64 x] W (.int .i64 x1))
 (c30:∀ W k,k=x1-q0->Below w.heap.size w W->Calls Tryz.prog 149 #[vn,vd,.int .i64 k] W fun r w'=>∃ va vb,r=.returned (.tuple #[va,vb])/\Below W.heap.size W w'/\(Calls Tryz.prog 99 #[.int .i64 d,.bool s,va,vb] w' fun r w''=>∃ v,r=.returned (.tuple #[v,.bool ex])/\Nz 2003 C v w''/\Below w'.heap.size w' w''))
 (c26c:∀ W v,Nz 2003 C v W->CQ 110 #[v] W (.int .i64 (bl C:Int)))
 (c31:∀ W v,Nz 2003 C v W->Calls Tryz.prog 150 #[v,.int .i64 1] W fun r w'=>∃ v' b,r=.returned (.tuple #[v',.bool b])/\Nz 2003 (C/2) v' w'/\Below W.heap.size W w')
include hf hl hm hld hx1 hq0 hN c28 c29 c30 c26c c31
end
end
theorem NT.more {K K' V:Nat}{v:Value}{w:World}(h:NT K V v w)(hk:K<=K'):NT K' V v w:=by
 obtain ⟨g,k,cap,z,h1,h2,h3,h4,h5⟩:=h
 exact ⟨g,k,cap,z,h1,by omega,h3,h4,h5⟩
theorem zCf {K K' A B:Nat}{v v':Value}{w:World}(hK:K<1000000)(hK':K'<1000000)(h:NV K A v w)(h':NV K' B v' w) :
  CE 86 #[v,v'] w (NT (K+K'+1) (A*B)):=by
 obtain ⟨g,k,c,z,rfl,hk,hN,hz⟩:=h
 obtain ⟨g2,k2,c2,z2,rfl,hk2,hN2,hz2⟩:=h'
 refine (zFr g 0 k c g2 0 k2 c2 z z2 w (by omega) (by omega) hN hN2).mono fun e w' ⟨g3,k3,cap3,z3,e1,hk3,hN3,hv3,hB,ht⟩=>⟨_,e1,⟨g3,k3,cap3,z3,rfl,by omega,hN3,?_,ht⟩,hB⟩
 rw [← zLa hN3.2.2.2.1 _ hk3,hv3,hz,hz2];simp
theorem zHj {K A:Nat}{v:Value}{w:World}(s:Nat)(hK:K<1000000)(hs:s<=6300000)(h:NV K A v w) :
  CE 87 #[v,.int .i64 s] w (NT (K+s/64+1) (A*2^s)):=by
 obtain ⟨g,k,c,z,rfl,hk,hN,hz⟩:=h
 refine (zPo g 0 k c s z w (by omega) (by omega) (by omega) hN).mono fun e w' ⟨g3,k3,cap3,z3,e1,hk3,hN3,hv3,hB,hf,ht⟩=>⟨_,e1,⟨g3,k3,cap3,z3,rfl,by rw [Int.toNat_natCast] at hk3;omega,hN3,?_,ht⟩,hB⟩
 rw [hv3,hz,Int.toNat_natCast];simp
theorem zGg {K K' A B:Nat}{v v':Value}{w:World}(hK:K<1000000)(hK':K'<1000000)(h:NV K A v w)(h':NV K' B v' w) :
  CQ 88 #[v,v'] w (.int .i64 (sgn (A:Int) B)):=by
 obtain ⟨g,k,c,z,rfl,hk,hN,hz⟩:=h
 obtain ⟨g2,k2,c2,z2,rfl,hk2,hN2,hz2⟩:=h'
 have:=zOr _ _ k c k2 c2 z z2 w (by omega) (by omega) hN hN2
 rw [hz,hz2] at this
 exact this
/-! the other sign -/
def othD (d:Int):Int:=if d=3∨d=4 then 7-d else d
theorem yKa (d:Int):knB (othD d)↔knB d:=by unfold knB othD;split<;>omega
/-! a number of the format -/
section
def zYb (n:Int):Prop:=7<=n/\n<=12
instance (n:Int):Decidable (zYb n):=inferInstanceAs (Decidable (_/\_))
def fD (n:Int):DF:=if n=7∨n=10 then ⟨20,6,2,-101,zFc n⟩ else if n=8∨n=11 then ⟨50,8,5,-398,zFc n⟩ else ⟨110,12,11,-6176,zFc n⟩
theorem zFk {n:Int}(h:zYb n):n=7∨n=8∨n=9∨n=10∨n=11∨n=12:=by unfold zYb at h;omega
theorem zTb (n:Int):(fD n).ok:=by
 unfold fD
 split
 ·exact Or.inl ⟨rfl,rfl,rfl,rfl⟩
 ·split
  ·exact Or.inr (Or.inl ⟨rfl,rfl,rfl,rfl⟩)
  ·exact Or.inr (Or.inr ⟨rfl,rfl,rfl,rfl⟩)
theorem zPc {n:Int}(h:zYb n):okN n/\zZ0 n=n/\zId n=10/\zUa n=(((fD n).t+((fD n).w+6):Nat):Int)/\zNe n=3*((fD n).j:Int)+1/\zNa n=(fD n).l/\zIb n=(fD n).l+3*2^(fD n).w-1/\zEl n=3*((fD n).j:Int)/\zFc n=(fD n).dn:=by
 rcases zFk h with rfl|rfl|rfl|rfl|rfl|rfl<;>decide
def zSd (n:Int)(B:Nat):Prop:=zYb n/\B<2^((fD n).t+((fD n).w+6))
instance (n:Int) (B:Nat):Decidable (zSd n B):=inferInstanceAs (Decidable (_/\_))
theorem zWb (n:Int)(w:World):CQ 15 #[.int .i64 n] w (.bool (decide (zYb n))):=by
 by_cases h1:7<=n
 ·by_cases h2:n<=12
  ·rw [decide_eq_true (show zYb n from ⟨h1,h2⟩)]
   go_enter Tryz.func15,Tryz.ntmps15
   go_wp2
   go_ret
   exact ⟨rfl,rfl⟩
  ·rw [decide_eq_false (show ¬ zYb n from fun h=>h2 h.2)]
   go_enter Tryz.func15,Tryz.ntmps15
   go_wp2
   go_ret
   exact ⟨rfl,rfl⟩
 ·rw [decide_eq_false (show ¬ zYb n from fun h=>h1 h.1)]
  go_enter Tryz.func15,Tryz.ntmps15
  go_wp2
  go_ret
  exact ⟨rfl,rfl⟩
theorem zD9 (n:Int)(B:Nat)(hB:B<2^256)(w:World) :
  CB 41 #[.int .i64 n,A4 B] w (.bool (decide (zSd n B))):=by
 have c35:=fun w=>zWb n w
 have c50:=fun w=>zY5 n B hB w
 by_cases hb:zYb n
 ·have hF:=zPc hb
  rw [decide_eq_true hb] at c35
  have e:(okN n/\B<2^(zUa n).toNat)↔zSd n B:=by
   rw [hF.2.2.2.1,Int.toNat_natCast]
   exact ⟨fun h=>⟨hb,h.2⟩,fun h=>⟨hF.1,h.2⟩⟩
  rw [decide_eq_decide.2 e] at c50
  generalize decide (zSd n B)=D at *
  clear hF e hb hB
  go_enter Tryz.func41,Tryz.ntmps41
  go_wp2_with (first
   | (go_at_call 15;refine (c35 _).mono ?_;rintro e w1 ⟨rfl,rfl⟩)
   | (go_at_call 32;refine (c50 _).mono ?_;rintro e w2 ⟨rfl,hb2⟩))
  go_ret
  exact ⟨rfl,zYc bgo hb2⟩
 ·rw [decide_eq_false hb] at c35
  rw [decide_eq_false (show ¬ zSd n B from fun h=>hb h.1)]
  clear hb hB c50
  go_enter Tryz.func41,Tryz.ntmps41
  go_wp2_with (go_at_call 15;refine (c35 _).mono ?_;rintro e w1 ⟨rfl,rfl⟩)
  go_ret
  exact ⟨rfl,bgo⟩
attribute [local irreducible] W4 NT NV
theorem zFj (n:Nat)(w:World)(hn:n<=12000):CE 64 #[.int .u64 10,.int .i64 (n:Int)] w (NV 50000 (10^n)):=by
 refine (zM2 10 n w (by decide) (by omega)).mono ?_
 rintro r w' ⟨g,k,cap,z,rfl,hk,hN,hv,hb⟩
 refine ⟨_,rfl,?_,hb⟩
 unfold NV
 exact ⟨g,k,cap,z,rfl,by omega,hN,by rw [hv];simp⟩
theorem rpow4t (p:Nat)(w:World)(hp:p<=12000):CE 153 #[.int .i64 10,.int .i64 p] w (NV 50000 (10^p)):=by
 have c:=fun W=>zFj p W hp
 go_enter Tryz.func153,Tryz.ntmps153
 go_wp2_with (go_at_call 64;refine (c _).mono ?_;rintro r w1 ⟨v,rfl,hv,hb1⟩)
 go_ret
 exact ⟨v,rfl,hv,hb1⟩
theorem zU8 (A B:Nat):decide (sgn (A:Int) (B:Int)<0)=decide (A<B):=by
 rcases zFd (A:Int) (B:Int) with ⟨a,e⟩|⟨a,e⟩|⟨a,e⟩
 ·rw [e,decide_eq_true (show A<B by omega)];rfl
 ·rw [e,decide_eq_false (show ¬ A<B by omega)];rfl
 ·rw [e,decide_eq_false (show ¬ A<B by omega)];rfl
theorem zIm (k p:Nat)(w:World)(hk:k<2^256)(hp:p<=12000):CB 85 #[A4 k,.int .i64 10,.int .i64 p] w (.bool (decide (k<10^p))):=by
 have c1:=fun W=>rpow4t p W hp
 have hs:=zU8 k (10^p)
 go_enter Tryz.func85,Tryz.ntmps85
 go_wp2
 go_region_with (first
  | (go_at_call 153;refine (c1 _).mono ?_;rintro e w1 ⟨v1,rfl,hl,hb1⟩;have hbx:=zSl (w0:=w) (B:=k) (t:=24) hk (zYc bgo hb1))
  | (go_at_call 88;refine (zGg (by decide) (by decide) hbx hl).mono ?_;rintro e w2 ⟨rfl,rfl⟩))
 go_wp2
 go_ret
 exact ⟨congrArg (fun b=>Ending.returned (.bool b)) hs,zYc bgo hb1⟩
abbrev zYa (n:Int)(nm:ByteArray)(wd pr ex le mo pa:Int)(dn:Bool):Value:=.agg #[.int .i64 n,.string nm,.int .i64 10,.int .i64 wd,.int .i64 pr,.int .i64 ex,.int .i64 le,.int .i64 mo,.int .i64 pa,.bool dn]
theorem zTp {n:Int}(h:zYb n)(w:World):CB 20 #[.int .i64 n] w (.tuple #[zYa n (zBd n) (((fD n).t+((fD n).w+6):Nat):Int) (3*((fD n).j:Int)+1) (zYh n) (fD n).l ((fD n).l+3*2^(fD n).w-1) (3*((fD n).j:Int)) (fD n).dn,.int .i64 0]):=by
 obtain ⟨hok,h1,h2,h3,h4,h5,h6,h7,h8⟩:=zPc h
 have c25:=zMr n w
 rw [show zQd n=0 from if_pos hok,h1,h2,h3,h4,h5,h6,h7,h8] at c25
 exact c25
theorem zSq {b:Nat}{w w':World}(h:Below b w w')(m:Nat):Below b w (w'.drewN m):=⟨h.os,h.tape,h.output,h.size,h.block⟩
theorem rshape (n:Int)(nm:ByteArray)(wd pr ex le mo pa:Int)(dn:Bool)(G T J:Int)(w:World)(h0:0<=wd)(h1:wd<=256)(h2:1<=pr)(h3:pr<=100)(hG:wd/16+9=G)(hG0:0<=G)(hG1:G<=100)(hT:wd-1-G=T)(hJ:(pr-1)/3=J) :
  CB 83 #[zYa n nm wd pr ex le mo pa dn] w (.tuple #[.int .i64 G,.int .i64 T,.int .i64 J]):=by
 go_enter Tryz.func83,Tryz.ntmps83
 go_wp2
 go_quiet (fail)
 go_wp2
 exact bodyPost_ret (by simp only [results,Tryz.results83];go_simp) rfl ⟨rfl,zSq (zEa w _) _⟩
theorem zXo {n:Int}(h:zYb n)(nm:ByteArray)(ex le mo pa:Int)(dn:Bool)(w:World) :
  CB 83 #[zYa n nm (((fD n).t+((fD n).w+6):Nat):Int) (3*((fD n).j:Int)+1) ex le mo pa dn] w (.tuple #[.int .i64 (((fD n).w:Int)+5),.int .i64 ((fD n).t:Int),.int .i64 ((fD n).j:Int)]):=by
 rcases zTb n with ⟨h1,h2,h3,h4⟩|⟨h1,h2,h3,h4⟩|⟨h1,h2,h3,h4⟩<;>rw [h1,h2,h3]<;>exact rshape n nm _ _ ex le mo pa dn _ _ _ w (by decide) (by decide) (by decide) (by decide) rfl (by decide) (by decide) rfl rfl
end
end Go.Proofs.YtahfkpjhlbiamaaGreatDoor
