/-
  Texts that the proof leans on.
-/
import Derived.Test.YtahfkpjhlbiamaaGreatDoorJ38
import Derived.Test.YtahfkpjhlbiamaaGreatDoorJ24
import Derived.Test.YtahfkpjhlbiamaaGreatDoorJ21
import Derived.Test.YtahfkpjhlbiamaaGreatDoorJ25
import Derived.Test.YtahfkpjhlbiamaaGreatDoorJ18
import Derived.Test.YtahfkpjhlbiamaaGreatDoorJ16
import Derived.Test.YtahfkpjhlbiamaaGreatDoorJ1
import Derived.Deep.Cut
import Derived.Deep.CutRange
import Derived.Deep.RegionWith
import Derived.Test.YtahfkpjhlbiamaaGreatDoorJ11
import Derived.Test.YtahfkpjhlbiamaaGreatDoorJ13
import Derived.Test.YtahfkpjhlbiamaaGreatDoorJ26
import Derived.Test.YtahfkpjhlbiamaaGreatDoorJ8
import Derived.RegionTactic
import Derived.ChangeAlike
import Derived.BigRegion
import Derived.Laws.Strings2
import Derived.Test.YtahfkpjhlbiamaaGreatDoorJ23
import Derived.Shelf.Strings.Repeat
import Derived.Shelf.Strings.Trim
import Derived.Test.YtahfkpjhlbiamaaGreatDoorProg
set_option linter.unusedVariables false
set_option linter.unusedSectionVars false
set_option linter.unusedSimpArgs false
set_option maxHeartbeats 8000000
set_option maxRecDepth 20000
namespace Go.Proofs.YtahfkpjhlbiamaaGreatDoor
open Go.RowKit
section
attribute [local irreducible] W4 NT NV
def xiG (m t d:Int)(B:Nat):Prop:=zSd m B/\zHh t/\knB d
instance (m t d:Int) (B:Nat):Decidable (xiG m t d B):=inferInstanceAs (Decidable (_/\_))
end
noncomputable def coD (t d:Int)(D:Dat):Dat :=
 if D.c=2 then ⟨2,D.s,false,0,0⟩ else if D.c=3 then ⟨3,D.s,false,0,if D.k<10^(3*(fD t).j) then D.k else 0⟩
 else rqD t d D.s (D.k*2^D.x.toNat) (1*2^(-D.x).toNat) 0 0
noncomputable def coF (t d:Int)(D:Dat):Int :=
 if D.c=2 then 0 else if D.c=3 then (if D.g then 1 else 0) else rqF t d D.s (D.k*2^D.x.toNat) (1*2^(-D.x).toNat) 0
theorem zV5:clT 0=0:=by decide
section
attribute [local irreducible] W4 NT NV
section
variable (t:Int)(nm:ByteArray)(wd pr ex le mo pa:Int)(dn:Bool)(c x:Int)(s g:Bool)(k:Nat)(w:World)
 (c18:∀ W,CB 20 #[.int .i64 t] W (.tuple #[zYa t nm wd pr ex le mo pa dn,.int .i64 0]))
include c18
end
section
variable (t d:Int)(c x:Int)(s g:Bool)(k:Nat)(vn vd:Value)(y:Int)(w:World)(R:Nat)(F E:Int)
variable (c' x':Int)(s' g':Bool)(k':Nat)(c23:∀ W,CB 43 #[.int .i64 t,DV c' s' g' x' k'] W (.tuple #[A4 R,.int .i64 E]))
include c23
end
theorem zH5 {t d:Int}(ht:zYb t)(hd:knB d){n:Int}(hb:zHh n){D:Dat}(h:isD (fN n) (zNa n) (zIb n) D):vI (fD t) (coD t d D)/\bl (D.k*2^D.x.toNat)<=25600/\bl (2^(-D.x).toNat)<=25600/\D.k<2^256/\(-16990<=D.x/\D.x<=16990):=by
 have hl:-16990<=zNa n/\zIb n<=16990/\fN n<=250:=by rcases zGh hb with rfl|rfl|rfl|rfl|rfl|rfl<;>decide
 have hxk:D.k<2^251/\(-16990<=D.x/\D.x<=16990):=by
  rcases h with ⟨h1,h2,h3,h4,h5,h6⟩|⟨h1,h2,h3,h4⟩|⟨h1,h2,h3,h4⟩
  ·exact ⟨Nat.lt_of_lt_of_le h3 (Nat.pow_le_pow_right (by decide) (by omega)),by omega⟩
  ·rw [h3,h4];exact ⟨Nat.two_pow_pos _,by omega⟩
  ·refine ⟨Nat.lt_of_lt_of_le h3 (Nat.pow_le_pow_right (by decide) (by omega)),by omega⟩
 obtain ⟨hk,hx⟩:=hxk
 have a:=zG0 D.k (2^D.x.toNat)
 have b:bl D.k<=251:=bl_le.2 hk
 have c1:bl (2^D.x.toNat)<=D.x.toNat+1:=bl_le.2 (Nat.pow_lt_pow_right (by decide) (by omega))
 have c2:bl (2^(-D.x).toNat)<=(-D.x).toNat+1:=bl_le.2 (Nat.pow_lt_pow_right (by decide) (by omega))
 have hk2:D.k<2^256:=Nat.lt_of_lt_of_le hk (Nat.pow_le_pow_right (by decide) (by decide))
 refine ⟨?_,by omega,by omega,hk2,hx⟩
 unfold coD
 by_cases q2:D.c=2
 ·rw [if_pos q2]
  exact Or.inr (Or.inl ⟨rfl,rfl,rfl,rfl⟩)
 ·rw [if_neg q2]
  by_cases q3:D.c=3
  ·rw [if_pos q3]
   refine Or.inr (Or.inr ⟨rfl,rfl,?_⟩)
   show (if D.k<10^(3*(fD t).j) then D.k else 0)<10^(3*(fD t).j)
   split
   ·assumption
   ·exact zTa _
  ·rw [if_neg q3]
   have hE:rqE t d (D.k*2^D.x.toNat) (1*2^(-D.x).toNat)=0:=by
    unfold rqE
    rw [if_pos ⟨ht,hd,by rw [Nat.one_mul];exact Nat.pos_iff_ne_zero.1 (Nat.two_pow_pos _)⟩,Nat.one_mul,if_neg (by omega)]
   obtain ⟨m0,m1,l0,l1,lm,j0,j1⟩:=zKx (zTb t)
   unfold rqD
   rw [if_pos hE]
   by_cases h0:D.k*2^D.x.toNat=0
   ·rw [if_pos h0]
    exact Or.inl ⟨rfl,rfl,zTa _,by show (fD t).l<=min (max 0 (fD t).l) (fD t).m;omega,by show min (max 0 (fD t).l) (fD t).m<=(fD t).m;omega⟩
   ·rw [if_neg h0]
    have hp:0<1*2^(-D.x).toNat*10^(-(clT 0)).toNat:=Nat.mul_pos (by rw [Nat.one_mul];exact Nat.two_pow_pos _) (zTa _)
    exact dkD_is (zTb t) hp (zJn (Nat.mul_pos (by omega) (zTa _)) hp)
def xoG (m t d:Int)(B:Nat):Prop:=zRd m B/\zYb t/\knB d
instance (m t d:Int) (B:Nat):Decidable (xoG m t d B):=inferInstanceAs (Decidable (_/\_))
noncomputable def xoV (m t d:Int)(B:Nat):Nat:=if xoG m t d B then vP (fD t) (coD t d (unD m B)) else 0
noncomputable def xoF (m t d:Int)(B:Nat):Int:=if xoG m t d B then coF t d (unD m B) else 0
def xoE (m t d:Int)(B:Nat):Int:=if xoG m t d B then 0 else 1
end
section
structure TrcC (TT:World->Prop):Prop where
 next:∀ w w',TT w->Below w.heap.size w w'->TT w'
 tw:∀ n W,TT W->CB 17 #[.int .i64 n] W (.tuple #[.int .i64 (twV n),.int .i64 (twE n)])
 cd:∀ n Bp W,Bp<2^256->TT W->CB 18 #[.int .i64 n,A4 Bp] W (.tuple #[A4 (tcV n Bp),.int .i64 (vUE n Bp)])
attribute [local irreducible] W4
theorem tw_ne {n:Int}(h:zYb n):(twN n==n)=false:=by
 rcases zFk h with rfl|rfl|rfl|rfl|rfl|rfl<;>rfl
end
section
attribute [local irreducible] W4 NT NV
section
variable (m t d:Int)(Bp:Nat)(w:World)
end
theorem zO5 {m t d:Int}{Bp:Nat}(h:¬ xoG m t d Bp):(decide (zRd m Bp)&&decide (zYb t)&&decide (knB d))=false:=by
 by_cases a1:zRd m Bp
 ·by_cases a2:zYb t
  ·have a3:¬ knB d:=fun a3=>h ⟨a1,a2,a3⟩
   rw [decide_eq_false (p:=knB d) a3,Bool.and_false]
  ·rw [decide_eq_false (p:=zYb t) a2,Bool.and_false,Bool.false_and]
 ·rw [decide_eq_false (p:=zRd m Bp) a1,Bool.false_and,Bool.false_and]
structure CroC (TT:World->Prop):Prop where
 next:∀ w w',TT w->Below w.heap.size w w'->TT w'
 cv:∀ m t d Bp W,Bp<2^256->TT W->CB 10 #[.int .i64 m,.int .i64 t,.int .i64 d,A4 Bp] W (.tuple #[A4 (xoV m t d Bp),.int .i64 (xoF m t d Bp),.int .i64 (xoE m t d Bp)])
end
section
attribute [local irreducible] W4 Nz Nt NT
section
variable (t d c x:Int)(s g:Bool)(k:Nat)(hk:k<2^256)(V:Nat)(c' x':Int)(s' g':Bool)(k':Nat)(F E:Int)(w:World)(hT:Tab w)(hxb:-20000<=x/\x<=20000)
include hk hT hxb
theorem cro_n (hx:x<0)
  (c62:∀ W v e,e=-x->Nt 900 1 v W->Calls Tryz.prog 54 #[v,.int .i64 e] W fun r w'=>∃ q,r=.returned (.tuple #[q,.int .i64 0])/\NT 2001 V q w'/\Below W.heap.size W w')
  (c63:∀ W v v',Tab W->Nt 4 k v W->Nt 2001 V v' W->CB 55 #[.int .i64 t,.int .i64 d,.bool s,v,v',.int .i64 0,.int .i64 0] W (.tuple #[DV c' s' g' x' k',.int .i64 F,.int .i64 E])) :
  CB 25 #[.int .i64 t,.int .i64 d,DV c s g x k] w (.tuple #[DV c' s' g' x' k',.int .i64 F]):=by
 have hbx:=fun W hW=>zWm (w0:=w) (w:=W) (c:=c) (s:=s) (g:=g) (x:=x) (t:=32) hk hW
 have hsm:=zAa
 unfold DV at c63 ⊢
 go_enter Tryz.func25,Tryz.ntmps25
 go_wp2_with (first
  | (go_at_call 54;refine (c62 _ _ _ (by omega) (NT.nt (zPx (by simp)))).mono ?_;rintro r w1 ⟨v1,rfl,hv1,hb1⟩;have hv0:=hbx _ (bnx (bnx (zEa _ _) (zEa _ _)) hb1);obtain ⟨_,_,_,_,hA1,_⟩:=wz w hb1;obtain ⟨_,_,_,_⟩:=zg hb1 (w.heap.size+1) (w.heap.size+1+1);clear hb1)
  | (go_at_call 55;refine wk w (c63 _ _ _ (hT.go bgo) hv0 hv1.nt) ?_;intro w2 hb2 _ _ _ _ hA2 _;obtain ⟨_,_,_,_⟩:=zg hb2 (w.heap.size+1) (w.heap.size+1+1);clear hb2))
 exact bodyPost_ret (by simp only [results,Tryz.results25];go_simp) rfl ⟨rfl,bgo⟩
theorem cro_p (hx:¬ x<0)
  (c62:∀ W v,Nt 4 k v W->Calls Tryz.prog 54 #[v,.int .i64 x] W fun r w'=>∃ q,r=.returned (.tuple #[q,.int .i64 0])/\NT 2001 V q w'/\Below W.heap.size W w')
  (c63:∀ W v v',Tab W->Nt 2001 V v W->Nt 900 1 v' W->CB 55 #[.int .i64 t,.int .i64 d,.bool s,v,v',.int .i64 0,.int .i64 0] W (.tuple #[DV c' s' g' x' k',.int .i64 F,.int .i64 E])) :
  CB 25 #[.int .i64 t,.int .i64 d,DV c s g x k] w (.tuple #[DV c' s' g' x' k',.int .i64 F]):=by
 have hbx:=fun W hW=>zWm (w0:=w) (w:=W) (c:=c) (s:=s) (g:=g) (x:=x) (t:=32) hk hW
 have hx0:0<=x:=by omega
 have hsm:=zAa
 unfold DV at c63 ⊢
 go_enter Tryz.func25,Tryz.ntmps25
 go_wp2_with (first
  | (go_at_call 54;refine (c62 _ _ (hbx _ (bnx (zEa _ _) (zEa _ _)))).mono ?_;rintro r w1 ⟨v1,rfl,hv1,hb1⟩;have hone:=NT.next (zPx rfl) hb1;obtain ⟨_,_,_,_,hA1,_⟩:=wz w hb1;obtain ⟨_,_,_,_⟩:=zg hb1 (w.heap.size+1) (w.heap.size+1+1);clear hb1)
  | (go_at_call 55;refine wk w (c63 _ _ _ (hT.go bgo) hv1.nt (by simpa using hone.nt)) ?_;intro w2 hb2 _ _ _ _ hA2 _;obtain ⟨_,_,_,_⟩:=zg hb2 (w.heap.size+1) (w.heap.size+1+1);clear hb2))
 exact bodyPost_ret (by simp only [results,Tryz.results25];go_simp) rfl ⟨rfl,bgo⟩
end
theorem cro_v {t d x:Int}(s g:Bool){k:Nat}(hk:k<2^251)(w:World)(hT:Tab w)(hx:-16990<=x/\x<=16990) :
  CB 25 #[.int .i64 t,.int .i64 d,DV 1 s g x k] w (.tuple #[(coD t d ⟨1,s,g,x,k⟩).v,.int .i64 (coF t d ⟨1,s,g,x,k⟩)]):=by
 have hA:bl k<=251:=bl_le.2 hk
 have hk2:k<2^256:=Nat.lt_of_lt_of_le hk (Nat.pow_le_pow_right (by decide) (by decide))
 have e1:coD t d ⟨1,s,g,x,k⟩=rqD t d s (k*2^x.toNat) (1*2^(-x).toNat) 0 0:=rfl
 have e2:coF t d ⟨1,s,g,x,k⟩=rqF t d s (k*2^x.toNat) (1*2^(-x).toNat) 0:=rfl
 rw [e1,e2]
 by_cases he:x<0
 ·rw [show x.toNat=0 by omega,Nat.pow_zero,Nat.mul_one]
  refine cro_n t d 1 x s g k hk2 (1*2^(-x).toNat) _ _ _ _ _ _ (rqE t d k (1*2^(-x).toNat)) w hT (by omega) he (fun W v e h hv=>?_) (fun W v v' hT' hv hv'=>?_)
  ·have:=zB6 (w:=W) (-x).toNat (by decide) hv (by have:bl 1=1:=rfl;omega)
   rw [show (((-x).toNat:Nat):Int)=e by omega] at this
   exact this
  ·exact drd_v hT' (hv.more (by decide)) hv'
 ·rw [show (-x).toNat=0 by omega,Nat.pow_zero,Nat.mul_one]
  refine cro_p t d 1 x s g k hk2 (k*2^x.toNat) _ _ _ _ _ _ (rqE t d (k*2^x.toNat) 1) w hT (by omega) he (fun W v hv=>?_) (fun W v v' hT' hv hv'=>?_)
  ·have:=zB6 (w:=W) x.toNat (by decide) hv (by omega)
   rw [show ((x.toNat:Nat):Int)=x by omega] at this
   exact this
  ·exact drd_v hT' hv (hv'.more (by decide))
section
variable (m t d c x:Int)(s g:Bool)(k B:Nat)(I:Value)(w:World)(hT:Tab w)
include hT
theorem cvo_e1
  (c1:∀ W,Tab W->CB 13 #[.int .i64 m,A4 B] W (.tuple #[DV c s g x k,.int .i64 1])) :
  CB 10 #[.int .i64 m,.int .i64 t,.int .i64 d,A4 B] w (.tuple #[A4 0,.int .i64 0,.int .i64 1]):=by
 rw [zBc]
 have hsm:=zAa
 go_enter Tryz.func10,Tryz.ntmps10
 go_wp2_with (first
  | (go_at_call 13;refine wk w (c1 _ (hT.go bgo)) ?_;intro w1 hb1 _ _ _ _ hA1 _;obtain ⟨_,_⟩:=zf hb1 (w.heap.size+1);clear hb1))
 exact bodyPost_ret (by simp only [results,Tryz.results10];go_simp) rfl ⟨rfl,bgo⟩
variable (c1:∀ W,Tab W->CB 13 #[.int .i64 m,A4 B] W (.tuple #[DV c s g x k,.int .i64 0]))
include c1
theorem cvo_e2
  (c2:∀ W,Tab W->CB 24 #[.int .i64 t,.int .i64 10,.int .i64 d] W (.tuple #[IZ,.int .i64 1])) :
  CB 10 #[.int .i64 m,.int .i64 t,.int .i64 d,A4 B] w (.tuple #[A4 0,.int .i64 0,.int .i64 1]):=by
 rw [zBc]
 have hsm:=zAa
 go_enter Tryz.func10,Tryz.ntmps10
 go_wp2_with (first
  | (go_at_call 13;refine wk w (c1 _ (hT.go bgo)) ?_;intro w1 hb1 _ _ _ _ hA1 _;obtain ⟨_,_⟩:=zf hb1 (w.heap.size+1);clear hb1)
  | (go_at_call 24;refine wk w (c2 _ (hT.go bgo)) ?_;intro w2 hb2 _ _ _ _ hA2 _;obtain ⟨_,_,_,_⟩:=zg hb2 (w.heap.size+1) w1.heap.size;clear hb2))
 exact bodyPost_ret (by simp only [results,Tryz.results10];go_simp) rfl ⟨rfl,bgo⟩
variable (c2:∀ W,Tab W->CB 24 #[.int .i64 t,.int .i64 10,.int .i64 d] W (.tuple #[InfV t,.int .i64 0]))
 (c' x':Int) (s' g':Bool) (k' R:Nat) (F:Int)
 (cP:∀ W,Tab W->CB 27 #[.int .i64 t,DV c' s' g' x' k'] W (.tuple #[A4 R,.int .i64 0]))
include c2 cP
theorem cvo_1 (hc:c=1)
  (cR:∀ W,Tab W->CB 25 #[.int .i64 t,.int .i64 d,DV 1 s g x k] W (.tuple #[DV c' s' g' x' k',.int .i64 F])) :
  CB 10 #[.int .i64 m,.int .i64 t,.int .i64 d,A4 B] w (.tuple #[A4 R,.int .i64 F,.int .i64 0]):=by
 subst hc
 have hsm:=zAa
 go_enter Tryz.func10,Tryz.ntmps10
 go_wp2_with (first
  | (go_at_call 13;refine wk w (c1 _ (hT.go bgo)) ?_;intro w1 hb1 _ _ _ _ hA1 _;obtain ⟨_,_⟩:=zf hb1 (w.heap.size+1);clear hb1)
  | (go_at_call 24;refine wk w (c2 _ (hT.go bgo)) ?_;intro w2 hb2 _ _ _ _ hA2 _;obtain ⟨_,_,_,_⟩:=zg hb2 (w.heap.size+1) w1.heap.size;clear hb2)
  | (go_at_call 25;refine wk w (cR _ (hT.go bgo)) ?_;intro w3 hb3 _ _ _ _ hA3 _;obtain ⟨_,_,_,_,_,_⟩:=zh hb3 (w.heap.size+1) w1.heap.size w2.heap.size;clear hb3)
  | (go_at_call 27;refine wk w (cP _ (hT.go bgo)) ?_;intro w4 hb4 _ _ _ _ hA4 _;obtain ⟨_,_,_,_,_,_⟩:=zh hb4 (w.heap.size+1) w1.heap.size w2.heap.size;clear hb4))
 exact bodyPost_ret (by simp only [results,Tryz.results10];go_simp) rfl ⟨rfl,bgo⟩
theorem cvo_3 (hc:c=2∨c=3)
  (cC:∀ W,CB 26 #[InfV t,DV c s g x k] W (.tuple #[DV c' s' g' x' k',.int .i64 F])) :
  CB 10 #[.int .i64 m,.int .i64 t,.int .i64 d,A4 B] w (.tuple #[A4 R,.int .i64 F,.int .i64 0]):=by
 have hsm:=zAa
 rcases hc with rfl|rfl
 all_goals (
  go_enter Tryz.func10,Tryz.ntmps10
  go_wp2_with (first
   | (go_at_call 13;refine wk w (c1 _ (hT.go bgo)) ?_;intro w1 hb1 _ _ _ _ hA1 _;obtain ⟨_,_⟩:=zf hb1 (w.heap.size+1);clear hb1)
   | (go_at_call 24;refine wk w (c2 _ (hT.go bgo)) ?_;intro w2 hb2 _ _ _ _ hA2 _;obtain ⟨_,_,_,_⟩:=zg hb2 (w.heap.size+1) w1.heap.size;clear hb2)
   | (go_at_call 26;refine wk w (cC _) ?_;intro w3 hb3 _ _ _ _ hA3 _;obtain ⟨_,_,_,_,_,_⟩:=zh hb3 (w.heap.size+1) w1.heap.size w2.heap.size;clear hb3)
   | (go_at_call 27;refine wk w (cP _ (hT.go bgo)) ?_;intro w4 hb4 _ _ _ _ hA4 _;obtain ⟨_,_,_,_,_,_⟩:=zh hb4 (w.heap.size+1) w1.heap.size w2.heap.size;clear hb4))
  exact bodyPost_ret (by simp only [results,Tryz.results10];go_simp) rfl ⟨rfl,bgo⟩)
end
theorem zVz {t:Int}(hb:zYb t)(W:World):Calls Tryz.prog 56 #[.int .i64 (zId t),.int .i64 (zEl t)] W fun r w'=>∃ v,r=.returned (.tuple #[v,.int .i64 0])/\Nt 2001 (10^(3*(fD t).j)) v w'/\Below W.heap.size W w':=by
 obtain ⟨hok,h1,h2,h3,h4,h5,h6,h7,h8⟩:=zPc hb
 obtain ⟨m0,m1,l0,l1,lm,j0,j1⟩:=zKx (zTb t)
 rw [h2,h7,show 3*((fD t).j:Int)=((3*(fD t).j:Nat):Int) by omega]
 exact (zQx (3*(fD t).j) W (by omega)).mono fun r w' ⟨v,e,hv,hB⟩=>⟨v,e,hv.nt,hB⟩
theorem yBc (m t d:Int)(B:Nat)(w:World)(hT:Tab w)(hB:B<2^256) :
  CB 10 #[.int .i64 m,.int .i64 t,.int .i64 d,A4 B] w (.tuple #[A4 (xoV m t d B),.int .i64 (xoF m t d B),.int .i64 (xoE m t d B)]):=by
 have c1:∀ W,Tab W->CB 13 #[.int .i64 m,A4 B] W (.tuple #[DV (unD m B).c (unD m B).s (unD m B).g (unD m B).x (unD m B).k,.int .i64 (unE m B)]):=fun W h=>zYk m B W h hB
 unfold xoV xoF xoE
 by_cases h1:zRd m B
 ·rw [show unE m B=0 from if_pos h1] at c1
  by_cases h2:zYb t/\knB d
  ·obtain ⟨hb,hd⟩:=h2
   obtain ⟨f1,f0,f2,f3,f4,f5,f6,f7,f8⟩:=zPc hb
   have c2:=fun W h=>zN8 W h f1 f2 hd
   have hc:xoG m t d B:=⟨h1,hb,hd⟩
   rw [if_pos hc,if_pos hc,if_pos hc]
   have hi:=zQv h1
   obtain ⟨i1,i2,i3,i4,i5⟩:=zH5 hb hd h1.1 hi
   have hk':=vI_k (zTb t) i1
   have cP:=fun W h=>zCz t (coD t d (unD m B)) hk' W h
   rw [show vPV t (coD t d (unD m B))=vP (fD t) (coD t d (unD m B)) from if_pos ⟨hb,i1⟩,show vPE t (coD t d (unD m B))=0 from (if_pos hb).trans (if_pos i1)] at cP
   have hl:fN m<=250:=by rcases zGh h1.1 with e|e|e|e|e|e<;>rw [e]<;>decide
   generalize unD m B=D at *
   obtain ⟨c,s,g,x,k⟩:=D
   dsimp only at c1 i4 i5
   have cC:=fun c W=>zW8 t _ (zVz hb) c x s g i4 W
   rcases hi with ⟨q1,q2,q3,q4,q5,q6⟩|⟨q1,q2,q3,q4⟩|⟨q1,q2,q3,q4⟩
   ·dsimp only at q1 q3
    subst q1
    have hk3:k<2^251:=Nat.lt_of_lt_of_le q3 (Nat.pow_le_pow_right (by decide) (by omega))
    exact cvo_1 m t d 1 x s g k B w hT c1 c2 _ _ _ _ _ _ _ cP rfl (fun W h=>cro_v s g hk3 W h i5)
   ·dsimp only at q1 q2 q3 q4
    subst q1 q2 q3 q4
    refine cvo_3 m t d 2 0 s false 0 B w hT c1 c2 _ _ _ _ _ _ _ cP (Or.inl rfl) ?_
    intro W
    have h:=cC 2 W
    rw [ite_self] at h
    exact h
   ·dsimp only at q1 q2
    subst q1 q2
    exact cvo_3 m t d 3 0 s g k B w hT c1 c2 _ _ _ _ _ _ _ cP (Or.inr rfl) (cC 3)
  ·have hc:¬ xoG m t d B:=fun q=>h2 q.2
   rw [if_neg hc,if_neg hc,if_neg hc]
   refine cvo_e2 m t d _ _ _ _ _ B w hT c1 (fun W h=>zO8 W h ?_)
   rintro ⟨a1,a2,a3⟩
   refine h2 ⟨?_,a3⟩
   apply Classical.byContradiction
   intro hn
   rcases zRx hn with ⟨q1,q2⟩|q1
   ·rw [a2] at q2;exact absurd q2 (by decide)
   ·exact q1 a1
 ·rw [show unE m B=1 from if_neg h1] at c1
  have hc:¬ xoG m t d B:=fun q=>h1 q.1
  rw [if_neg hc,if_neg hc,if_neg hc]
  exact cvo_e1 m t d _ _ _ _ _ B w hT c1
end
section
attribute [local irreducible] W4 Nz Nt
section
variable (n:Int)(Bp:Nat)(c:Int)(s g ok:Bool)(x:Int)(k:Nat)(w:World)(hT:Tab w)
include hT
theorem dwx_e (E:Int)(hE:(E != 0)=true)(c21:∀ W,Tab W->CB 39 #[.int .i64 n,A4 Bp] W (.tuple #[DV c s g x k,.bool ok,.int .i64 E])) :
  CB 22 #[.int .i64 n,A4 Bp] w (.tuple #[.string (B []),.int .i64 E]):=by
 have hsm:=zAa
 unfold DV A4 at *
 go_enter Tryz.func22,Tryz.ntmps22
 go_wp2_with (go_at_call 39;refine wk w (c21 _ (hT.go bgo)) ?_;intro w1 hb1 _ _ _ _ hA1 _;clear hb1)
 exact bodyPost_ret (v:=.tuple #[.string (B []),.int .i64 E]) (by simp only [results,Tryz.results22];go_simp;rfl) rfl ⟨rfl,bgo⟩
variable (hT10:Tb10 w)(c21:∀ W,Tab W->CB 39 #[.int .i64 n,A4 Bp] W (.tuple #[DV c s g x k,.bool ok,.int .i64 0]))
include hT10 c21
theorem dwx_o (hc:(c != 1)=true)(T:List UInt8)(c28:∀ W,Tb10 W->CB 47 #[DV c s g x k] W (.string (B T))) :
  CB 22 #[.int .i64 n,A4 Bp] w (.tuple #[.string (B T),.int .i64 0]):=by
 have hsm:=zAa
 unfold DV A4 at *
 go_enter Tryz.func22,Tryz.ntmps22
 go_wp2_with (first
  | (go_at_call 39;refine wk w (c21 _ (hT.go bgo)) ?_;intro w1 hb1 _ _ _ _ hA1 _;clear hb1)
  | (go_at_call 47;refine wk w (c28 _ (hT10.next bgo)) ?_;intro w2 hb2 _ _ _ _ hA2 _;obtain ⟨_,_⟩:=zf hb2 w1.heap.size;clear hb2))
 exact bodyPost_ret (v:=.tuple #[.string (B T),.int .i64 0]) (by simp only [results,Tryz.results22];go_simp) rfl ⟨rfl,bgo⟩
variable (hc:c=1)(hk:k<2^256)(hx:-10000<=x/\x<=10000)(D:List UInt8)(hD:D.length<=660)(T:List UInt8)(hTl:T.length<=4000)
 (c20:∀ W v,Nt 4 k v W->CB 48 #[v] W (.tuple #[.string (B D),.int .i64 0]))
 (c29:∀ W,Tb10 W->CB 46 #[.string (B D),.int .i64 (x+((B D).size:Int)-1)] W (.string (B T)))
include hc hk hx hD hTl c20 c29
theorem dwx_f (hs:s=false) :
  CB 22 #[.int .i64 n,A4 Bp] w (.tuple #[.string (B T),.int .i64 0]):=by
 subst hc hs
 have hsz:((B D).size:Int)<=660:=by rw [zFa];omega
 clear hD
 have hsm:=zAa
 unfold DV A4 at *
 go_enter Tryz.func22,Tryz.ntmps22
 go_wp2_with (first
  | (go_at_call 39;refine wk w (c21 _ (hT.go bgo)) ?_;intro w1 hb1 _ _ _ _ hA1 _;clear hb1)
  | (go_at_call 48;refine wk w (c20 _ _ (zP9 hk (by first|(simp;done)|(simp;omega)) (by go_simp) (by go_simp) (by go_simp) (by go_simp))) ?_;intro w2 hb2 _ _ _ _ hA2 _;obtain ⟨_,_⟩:=zf hb2 w1.heap.size;clear hb2)
  | (go_at_call 46;refine wk w (c29 _ (hT10.next bgo)) ?_;intro w3 hb3 _ _ _ _ hA3 _;obtain ⟨_,_⟩:=zf hb3 w1.heap.size;clear hb3))
 exact bodyPost_ret (v:=.tuple #[.string (B T),.int .i64 0]) (by simp only [results,Tryz.results22];go_simp) rfl ⟨rfl,bgo⟩
theorem dwx_t (hs:s=true) :
  CB 22 #[.int .i64 n,A4 Bp] w (.tuple #[.string (B (45::T)),.int .i64 0]):=by
 subst hc hs
 have hsz:((B D).size:Int)<=660:=by rw [zFa];omega
 have hst:((B T).size:Int)<=4000:=by rw [zFa];omega
 have eB:(⟨#[45]⟩:ByteArray)++B T=B (45::T):=zCn [45] T
 rw [← eB]
 clear hD hTl eB
 have hsm:=zAa
 unfold DV A4 at *
 go_enter Tryz.func22,Tryz.ntmps22
 go_wp2_with (first
  | (go_at_call 39;refine wk w (c21 _ (hT.go bgo)) ?_;intro w1 hb1 _ _ _ _ hA1 _;clear hb1)
  | (go_at_call 48;refine wk w (c20 _ _ (zP9 hk (by first|(simp;done)|(simp;omega)) (by go_simp) (by go_simp) (by go_simp) (by go_simp))) ?_;intro w2 hb2 _ _ _ _ hA2 _;obtain ⟨_,_⟩:=zf hb2 w1.heap.size;clear hb2)
  | (go_at_call 46;refine wk w (c29 _ (hT10.next bgo)) ?_;intro w3 hb3 _ _ _ _ hA3 _;obtain ⟨_,_⟩:=zf hb3 w1.heap.size;clear hb3))
 exact bodyPost_ret (v:=.tuple #[.string ((⟨#[45]⟩:ByteArray)++B T),.int .i64 0]) (by simp only [results,Tryz.results22];go_simp) rfl ⟨rfl,bgo⟩
end
end
theorem ndig_z {K:Nat}{v:Value}{w:World}(hK:K<=1000)(h:Nt K 0 v w):CB 48 #[v] w (.tuple #[.string (B [48]),.int .i64 0]):=by
 obtain ⟨a,n,c,z,rfl,hn,hN,hz⟩:=h
 have hle:=zCa z n
 refine (zIg a n c z w (by omega) hN (by omega)).mono fun r w' ⟨L,hL,he,hB⟩=>⟨?_,hB⟩
 rw [he,hz] at *
 rw [zGk (L':=0) (by decide) hL (by decide)]
 rfl
theorem zS9 {K k:Nat}{v:Value}{w:World}(hK:K<=1000)(hk:k<2^256)(h:Nt K k v w):CB 48 #[v] w (.tuple #[.string (B (wtD k)),.int .i64 0]):=by
 unfold wtD
 by_cases h0:k=0
 ·rw [if_pos h0]
  subst h0
  exact ndig_z hK h
 ·rw [if_neg h0]
  exact zE6 hK hk h0 h
theorem yMa {f:DF}(hf:f.ok){v:Dat}(h:vI f v)(hc:¬ v.c=1):jnP ⟨v.c,v.s,v.g,dcL v.k,0⟩:=by
 obtain ⟨h1,h2⟩:=xt_cut hf h
 obtain ⟨f1,f2,f3⟩:=zCh (vI_k hf h)
 unfold xtT xtP at h1
 rw [if_neg hc,if_neg hc] at h1
 exact ⟨by show (dcL v.k).length<=4000;omega,h1⟩
theorem dword {f:DF}(hf:f.ok){v:Dat}(h:vI f v)(hc:¬ v.c=1)(w:World)(hT10:Tb10 w) :
  CB 47 #[v.v] w (.string (B (xtT v))):=by
 have hk:=vI_k hf h
 have hj:=yMa hf h hc
 have c31:=fun W (hb:Below w.heap.size w W)=>join_y ⟨v.c,v.s,v.g,dcL v.k,0⟩ W (hT10.next hb) ⟨by show (-9223372036854775808:Int)<=0;decide,by show (0:Int)<=9223372036854775807;decide⟩ hj
 have e:xtT v=zOh v.c v.s v.g (dcL v.k) 0:=if_neg hc
 rw [e]
 obtain ⟨c,s,g,x,k⟩:=v
 dsimp only at *
 by_cases h0:k=0
 ·have ed:dcL k=[]:=by rw [h0];kernel_rfl
  rw [ed] at c31 ⊢
  exact dwd_0 c s g x k w _ h0 c31
 ·exact dwd_k c s g x k w _ (dcL k) hk h0 (fun W v hv=>zE6 (by decide) hk h0 hv) c31
theorem dwr16 (n:Int)(Bp:Nat)(w:World)(hB:Bp<2^256)(hT:Tab w)(hT10:Tb10 w) :
  CB 22 #[.int .i64 n,A4 Bp] w (.tuple #[.string (B (dwT n Bp)),.int .i64 (vUE n Bp)]):=by
 have c21:=fun W hW=>zXy n Bp hB W hW
 have hk:=zJv n Bp
 unfold dwT
 by_cases hg:zSd n Bp
 ·have e1:vUE n Bp=0:=if_pos hg
  have e2:vUD n Bp=vM (fD n) Bp:=if_pos hg
  rw [if_pos hg,e1]
  rw [e1] at c21
  have hi:=zHn (zTb n) Bp
  rw [← e2] at hi ⊢
  obtain ⟨m0,m1,l0,l1,lm,j0,j1⟩:=zKx (zTb n)
  generalize vUD n Bp=v at *
  by_cases hc:v.c=1
  ·have hx:-10000<=v.x/\v.x<=10000:=by
    rcases hi with ⟨_,_,_,a,b⟩|⟨a,_⟩|⟨a,_⟩
    ·unfold DF.m at *
     omega
    ·rw [hc] at a;exact absurd a (by decide)
    ·rw [hc] at a;exact absurd a (by decide)
   have eT:xtT v=sgL v.s++unT (wtD v.k) (v.x+(wtD v.k).length-1):=if_pos hc
   rw [eT]
   have hl:1<=(wtD v.k).length/\(wtD v.k).length<=660:=by
    unfold wtD
    by_cases h0:v.k=0
    ·rw [if_pos h0];decide
    ·rw [if_neg h0]
     exact ⟨List.length_pos_iff.2 (zY6 h0 hk),(zCh hk).2.2⟩
   have hu:=zZe (D:=wtD v.k) (e:=v.x+(wtD v.k).length-1) (by omega)
   have c20:=fun W u (h:Nt 4 v.k u W)=>zS9 (by decide) hk h
   have c29:=fun W hW=>zX9 (wtD v.k) (v.x+(wtD v.k).length-1) W hW (by omega) hl.1 (by omega)
   rw [show ((wtD v.k).length:Int)=((B (wtD v.k)).size:Int) by rw [zFa]] at c29 hu ⊢
   obtain ⟨c,s,g,x,k⟩:=v
   dsimp only at *
   cases s
   ·exact dwx_f n Bp c false g _ x k w hT hT10 c21 hc hk hx (wtD k) hl.2 (unT (wtD k) (x+((B (wtD k)).size:Int)-1)) (by omega) c20 c29 rfl
   ·exact dwx_t n Bp c true g _ x k w hT hT10 c21 hc hk hx (wtD k) hl.2 (unT (wtD k) (x+((B (wtD k)).size:Int)-1)) (by omega) c20 c29 rfl
  ·have c28:=fun W hW=>dword (zTb n) hi hc W hW
   obtain ⟨c,s,g,x,k⟩:=v
   exact dwx_o n Bp c s g _ x k w hT hT10 c21 (by simpa using hc) _ c28
 ·have e1:vUE n Bp=1:=if_neg hg
  rw [if_neg hg,e1]
  rw [e1] at c21
  exact dwx_e n Bp _ _ _ _ _ _ w hT 1 (by decide) c21
def TTb (w:World):Prop:=Tab w/\Tb10 w
theorem dtxC:DtxC TTb where
 next:=fun w w' hT hb=>⟨hT.1.go hb,hT.2.next hb⟩
 t10:=fun w hT=>hT.2
 wr:=fun n Bp W hB hT=>dwr16 n Bp W hB hT.1 hT.2
section
attribute [local irreducible] W4
theorem zB8 (n t:Int)(w:World)(h:(n=7/\t=10)∨(n=8/\t=11)∨(n=9/\t=12)∨(n=10/\t=7)∨(n=11/\t=8)∨(n=12/\t=9)) :
  CB 17 #[.int .i64 n] w (.tuple #[.int .i64 t,.int .i64 0]):=by
 rcases h with ⟨rfl,rfl⟩|⟨rfl,rfl⟩|⟨rfl,rfl⟩|⟨rfl,rfl⟩|⟨rfl,rfl⟩|⟨rfl,rfl⟩
 all_goals
  go_enter Tryz.func17,Tryz.ntmps17
  go_wp2
  exact bodyPost_ret (by simp only [results,Tryz.results17];go_simp) rfl ⟨rfl,bgo⟩
theorem zC8 (n:Int)(w:World)(h7:(n==7)=false)(h8:(n==8)=false)(h9:(n==9)=false)(h10:(n==10)=false)(h11:(n==11)=false)(h12:(n==12)=false) :
  CB 17 #[.int .i64 n] w (.tuple #[.int .i64 0,.int .i64 1]):=by
 go_enter Tryz.func17,Tryz.ntmps17
 go_wp2
 exact bodyPost_ret (by simp only [results,Tryz.results17];go_simp) rfl ⟨rfl,bgo⟩
theorem zTv (n:Int)(w:World):CB 17 #[.int .i64 n] w (.tuple #[.int .i64 (twV n),.int .i64 (twE n)]):=by
 unfold twV twE
 by_cases h:zYb n
 ·rw [if_pos h,if_pos h]
  have h1:7<=n/\n<=12:=h
  refine zB8 n _ w ?_
  unfold twN
  by_cases h9:n<=9
  ·rw [if_pos h9];omega
  ·rw [if_neg h9];omega
 ·rw [if_neg h,if_neg h]
  have h1:¬ (7<=n/\n<=12):=h
  exact zC8 n w (beq_false_of_ne (by omega)) (beq_false_of_ne (by omega)) (beq_false_of_ne (by omega)) (beq_false_of_ne (by omega)) (beq_false_of_ne (by omega)) (beq_false_of_ne (by omega))
section
variable (n:Int)(Bp:Nat)(c:Int)(s g ok:Bool)(x:Int)(k:Nat)(w:World)(hT:Tab w)
include hT
theorem tcd_t (t E:Int)(hE:(E != 0)=true)(c22:∀ W,CB 17 #[.int .i64 n] W (.tuple #[.int .i64 t,.int .i64 E])) :
  CB 18 #[.int .i64 n,A4 Bp] w (.tuple #[Z4,.int .i64 E]):=by
 have hsm:=zAa
 unfold A4 at *
 go_enter Tryz.func18,Tryz.ntmps18
 go_wp2_with (go_at_call 17;refine wk w (c22 _) ?_;intro w1 hb1 _ _ _ _ hA1 _;obtain ⟨_,_⟩:=zf hb1 (w.heap.size+1);clear hb1)
 exact bodyPost_ret (v:=.tuple #[Z4,.int .i64 E]) (by simp only [results,Tryz.results18];go_simp) rfl ⟨rfl,bgo⟩
theorem tcd_e (t E:Int)(hE:(E != 0)=true)(c22:∀ W,CB 17 #[.int .i64 n] W (.tuple #[.int .i64 t,.int .i64 0]))
  (c21:∀ W,Tab W->CB 39 #[.int .i64 n,A4 Bp] W (.tuple #[DV c s g x k,.bool ok,.int .i64 E])) :
  CB 18 #[.int .i64 n,A4 Bp] w (.tuple #[Z4,.int .i64 E]):=by
 have hsm:=zAa
 unfold DV A4 at *
 go_enter Tryz.func18,Tryz.ntmps18
 go_wp2_with (first
  | (go_at_call 17;refine wk w (c22 _) ?_;intro w1 hb1 _ _ _ _ hA1 _;obtain ⟨_,_⟩:=zf hb1 (w.heap.size+1);clear hb1)
  | (go_at_call 39;refine wk w (c21 _ (hT.go bgo)) ?_;intro w2 hb2 _ _ _ _ hA2 _;obtain ⟨_,_⟩:=zf hb2 (w.heap.size+1);clear hb2))
 exact bodyPost_ret (v:=.tuple #[Z4,.int .i64 E]) (by simp only [results,Tryz.results18];go_simp) rfl ⟨rfl,bgo⟩
theorem tcd_k (t:Int)(R:Nat)(E:Int)(c22:∀ W,CB 17 #[.int .i64 n] W (.tuple #[.int .i64 t,.int .i64 0]))
  (c21:∀ W,Tab W->CB 39 #[.int .i64 n,A4 Bp] W (.tuple #[DV c s g x k,.bool ok,.int .i64 0]))
  (c23:∀ W,Tab W->CB 27 #[.int .i64 t,DV c s g x k] W (.tuple #[A4 R,.int .i64 E])) :
  CB 18 #[.int .i64 n,A4 Bp] w (.tuple #[A4 R,.int .i64 E]):=by
 have hsm:=zAa
 unfold DV A4 at *
 go_enter Tryz.func18,Tryz.ntmps18
 go_wp2_with (first
  | (go_at_call 17;refine wk w (c22 _) ?_;intro w1 hb1 _ _ _ _ hA1 _;obtain ⟨_,_⟩:=zf hb1 (w.heap.size+1);clear hb1)
  | (go_at_call 39;refine wk w (c21 _ (hT.go bgo)) ?_;intro w2 hb2 _ _ _ _ hA2 _;obtain ⟨_,_⟩:=zf hb2 (w.heap.size+1);clear hb2)
  | (go_at_call 27;refine wk w (c23 _ (hT.go bgo)) ?_;intro w3 hb3 _ _ _ _ hA3 _;obtain ⟨_,_⟩:=zf hb3 (w.heap.size+1);clear hb3))
 exact bodyPost_ret (v:=.tuple #[A4 R,.int .i64 E]) (by unfold A4;simp only [results,Tryz.results18];go_simp) rfl ⟨rfl,bgo⟩
end
theorem zL8 (n:Int)(Bp:Nat)(w:World)(hB:Bp<2^256)(hT:Tab w) :
  CB 18 #[.int .i64 n,A4 Bp] w (.tuple #[A4 (tcV n Bp),.int .i64 (vUE n Bp)]):=by
 have c21:=fun W hW=>zXy n Bp hB W hW
 have c22:=fun W=>zTv n W
 by_cases hg:zSd n Bp
 ·have e1:vUE n Bp=0:=if_pos hg
  have e2:vUD n Bp=vM (fD n) Bp:=if_pos hg
  rw [show twV n=twN n from if_pos hg.1,show twE n=0 from if_pos hg.1] at c22
  have c23:=fun W hW=>zCz (twN n) (vM (fD n) Bp) (by rw [← e2];exact zJv n Bp) W hW
  obtain ⟨p1,p2⟩:=zM8 hg
  rw [p1,p2] at c23
  rw [e1,e2] at c21
  rw [e1]
  exact tcd_k n Bp _ _ _ _ _ _ w hT (twN n) _ _ c22 c21 c23
 ·have e1:vUE n Bp=1:=if_neg hg
  have hZ:A4 0=Z4:=by unfold A4;simp only [zOa]
  rw [show tcV n Bp=0 from if_neg hg,e1,hZ]
  rw [e1] at c21
  by_cases hd:zYb n
  ·rw [show twV n=twN n from if_pos hd,show twE n=0 from if_pos hd] at c22
   exact tcd_e n Bp _ _ _ _ _ _ w hT _ 1 (by decide) c22 c21
  ·rw [show twE n=1 from if_neg hd] at c22
   exact tcd_t n Bp w hT _ 1 (by decide) c22
end
theorem trcB:TrcC TTb where
 next:=dtxC.next
 tw:=fun n W _=>zTv n W
 cd:=fun n Bp W hB hT=>zL8 n Bp W hB hT.1
theorem croB:CroC TTb:=⟨dtxC.next,fun m t d Bp W hB hT=>yBc m t d Bp W hT.1 hB⟩
theorem co_tw {t:Int}(h:zYb t)(d:Int)(D:Dat):coD (twN t) d D=coD t d D/\coF (twN t) d D=coF t d D:=by
 obtain ⟨_,_,ej⟩:=tw_w h
 unfold coD coF
 rw [rqD_tw h,rqF_tw h,ej]
 exact ⟨rfl,rfl⟩
theorem zG6:tnX (13107200*10^(clT 0).toNat) (131072*10^(-(clT 0)).toNat)=2:=by
 have h:=zJn (N:=13107200*10^(clT 0).toNat) (D:=131072*10^(-(clT 0)).toNat) (by decide) (by decide)
 exact h.only ⟨by unfold tnG;decide,by unfold tnG;decide⟩
theorem hund_D:coD 10 0 (unD 3 1120403456)=⟨1,false,false,0,100⟩/\coF 10 0 (unD 3 1120403456)=0:=by
 have hu:unD 3 1120403456=⟨1,false,false,-17,13107200⟩:=by kernel_rfl
 rw [hu]
 have e0:rqE 10 0 13107200 131072=0:=by
  have a:bl 13107200=24:=yFc (by decide) (by decide)
  have b:bl 131072=18:=yFc (by decide) (by decide)
  unfold rqE
  rw [if_pos ⟨by decide,by decide,by decide⟩,a,b]
  decide
 constructor
 ·show rqD 10 0 false (13107200*2^(-17:Int).toNat) (1*2^(-(-17):Int).toNat) 0 0=_
  rw [show 13107200*2^(-17:Int).toNat=13107200 by decide,show 1*2^(-(-17):Int).toNat=131072 by decide]
  unfold rqD
  rw [if_pos e0,if_neg (by decide),zG6]
  kernel_rfl
 ·show rqF 10 0 false (13107200*2^(-17:Int).toNat) (1*2^(-(-17):Int).toNat) 0=_
  rw [show 13107200*2^(-17:Int).toNat=13107200 by decide,show 1*2^(-(-17):Int).toNat=131072 by decide]
  unfold rqF
  rw [if_pos e0,if_neg (by decide),zG6]
  kernel_rfl
theorem yKc:xoV 3 10 0 1120403456=575668352/\xoF 3 10 0 1120403456=0/\xoE 3 10 0 1120403456=0/\B (dwT 10 575668352)=⟨#[49,46,48,48,101,50]⟩/\vUE 10 575668352=0:=by
 have hg:xoG 3 10 0 1120403456:=⟨by decide,by decide,by decide⟩
 unfold xoV xoF xoE
 rw [if_pos hg,if_pos hg,if_pos hg,hund_D.1,hund_D.2]
 exact ⟨by kernel_rfl,rfl,rfl,by kernel_rfl,by kernel_rfl⟩
section
theorem yJc:(W4 1120403456 0=1120403456/\W4 1120403456 1=0/\W4 1120403456 2=0/\W4 1120403456 3=0)/\(W4 575668352 0=575668352/\W4 575668352 1=0/\W4 575668352 2=0/\W4 575668352 3=0):=⟨⟨by decide,by decide,by decide,by decide⟩,⟨by decide,by decide,by decide,by decide⟩⟩
attribute [local irreducible] W4
theorem zUq {TT:World->Prop}(h:CroC TT)(hD:DtxC TT)(w:World)(hT:TT w):CB 9 #[] w (.bool true):=by
 have c9:=fun W hW=>h.cv 3 10 0 1120403456 W (by decide) hW
 have c10:=fun W hW=>hD.wr 10 575668352 W (by decide) hW
 obtain ⟨e1,e2,e4,e5,e6⟩:=yKc
 obtain ⟨⟨w0,w1,w2,w3⟩,u0,u1,u2,u3⟩:=yJc
 rw [e1,e2,e4] at c9
 rw [e5,e6] at c10
 unfold A4 at c9 c10
 rw [w0,w1,w2,w3,u0,u1,u2,u3] at c9
 rw [u0,u1,u2,u3] at c10
 clear w0 w1 w2 w3 u0 u1 u2 u3 e1 e2 e4 e5 e6
 have hsm:=zAa
 go_enter Tryz.func9,Tryz.ntmps9
 go_wp2_with (first
  | (go_at_call 10;refine (c9 _ (h.next _ _ hT bgo)).mono ?_;rintro r w1 ⟨rfl,hb1⟩;obtain ⟨_,_,hA1,_⟩:=wf w hb1;clear hb1)
  | (go_at_call 22;refine (c10 _ (h.next _ _ hT bgo)).mono ?_;rintro r w2 ⟨rfl,hb2⟩;obtain ⟨_,_,_,_,hA2,_⟩:=wz w hb2 w1.heap.size;clear hb2))
 go_ret
 exact ⟨by first|rfl|simp,bgo⟩
section
variable (TT:World->Prop)(hTT:∀ w w',TT w->Below w.heap.size w w'->TT w')(w:World)(hT:TT w)
 (c8:∀ W,TT W->CB 9 #[] W (.bool true))
variable (m t d:Int)(Bp:Nat)
include hTT hT c8
theorem tw19_n (b1 b2 b3:Bool)(hn:(b1&&b2&&b3)=false)
  (c15:∀ W,CB 12 #[.int .i64 m,A4 Bp] W (.bool b1))
  (c14:∀ W,CQ 15 #[.int .i64 t] W (.bool b2))
  (c10:∀ W,CQ 16 #[.int .i64 d] W (.bool b3)) :
  CB 5 #[.int .i64 m,.int .i64 t,.int .i64 d,A4 Bp] w (.bool true):=by
 have hsm:=zAa
 unfold A4 at *
 cases b1<;>cases b2<;>cases b3<;>simp only [Bool.and_self,Bool.and_true,Bool.and_false,Bool.true_and,Bool.false_and,Bool.true_eq_false] at hn
 all_goals (
  clear hn
  go_enter Tryz.func5,Tryz.ntmps5
  go_wp2_with (first
   | (have:=hA2;go_at_call 9;refine wk w (c8 _ (hTT _ _ hT bgo)) ?_;intro w4 hb4 _ _ _ _ hA4 _;clear hb4)
   | (go_at_call 9;refine wk w (c8 _ (hTT _ _ hT bgo)) ?_;intro w1 hb1 _ _ _ _ hA1 _;clear hb1)
   | (go_at_call 12;refine wk w (c15 _) ?_;intro w2 hb2 _ _ _ _ hA2 _;clear hb2)
   | (go_at_call 15;refine (c14 _).mono ?_;rintro r w3 ⟨rfl,rfl⟩)
   | (go_at_call 16;refine (c10 _).mono ?_;rintro r w3 ⟨rfl,rfl⟩))
  go_ret
  exact ⟨by first|rfl|simp,bgo⟩)
theorem tn19_n (b1 b2 b3:Bool)(hn:(b1&&b2&&b3)=false)
  (c15:∀ W,CB 12 #[.int .i64 m,A4 Bp] W (.bool b1))
  (c14:∀ W,CQ 15 #[.int .i64 t] W (.bool b2))
  (c10:∀ W,CQ 16 #[.int .i64 d] W (.bool b3)) :
  CB 8 #[.int .i64 m,.int .i64 t,.int .i64 d,A4 Bp] w (.bool true):=by
 have hsm:=zAa
 unfold A4 at *
 cases b1<;>cases b2<;>cases b3<;>simp only [Bool.and_self,Bool.and_true,Bool.and_false,Bool.true_and,Bool.false_and,Bool.true_eq_false] at hn
 all_goals (
  clear hn
  go_enter Tryz.func8,Tryz.ntmps8
  go_wp2_with (first
   | (have:=hA2;go_at_call 9;refine wk w (c8 _ (hTT _ _ hT bgo)) ?_;intro w4 hb4 _ _ _ _ hA4 _;clear hb4)
   | (go_at_call 9;refine wk w (c8 _ (hTT _ _ hT bgo)) ?_;intro w1 hb1 _ _ _ _ hA1 _;clear hb1)
   | (go_at_call 12;refine wk w (c15 _) ?_;intro w2 hb2 _ _ _ _ hA2 _;clear hb2)
   | (go_at_call 15;refine (c14 _).mono ?_;rintro r w3 ⟨rfl,rfl⟩)
   | (go_at_call 16;refine (c10 _).mono ?_;rintro r w3 ⟨rfl,rfl⟩))
  go_ret
  exact ⟨by first|rfl|simp,bgo⟩)
variable (c15:∀ W,CB 12 #[.int .i64 m,A4 Bp] W (.bool true))
 (c14:∀ W,CQ 15 #[.int .i64 t] W (.bool true))
 (c10:∀ W,CQ 16 #[.int .i64 d] W (.bool true))
include c15 c14 c10
theorem tw19_y (o c x:Int)(s g:Bool)(k C V:Nat)(F:Int)(hot:(o==t)=false)
  (c9:∀ W,TT W->CB 17 #[.int .i64 t] W (.tuple #[.int .i64 o,.int .i64 0]))
  (c12:∀ W,TT W->CB 10 #[.int .i64 m,.int .i64 t,.int .i64 d,A4 Bp] W (.tuple #[A4 C,.int .i64 F,.int .i64 0]))
  (c13:∀ W,TT W->CB 10 #[.int .i64 m,.int .i64 o,.int .i64 d,A4 Bp] W (.tuple #[A4 V,.int .i64 F,.int .i64 0]))
  (c11:∀ W,TT W->CB 18 #[.int .i64 t,A4 C] W (.tuple #[A4 V,.int .i64 0]))
  (c21:∀ W,CB 19 #[.int .i64 t,A4 C] W (.tuple #[DV c s g x k,.bool true,.int .i64 0])) :
  CB 5 #[.int .i64 m,.int .i64 t,.int .i64 d,A4 Bp] w (.bool true):=by
 have hsm:=zAa
 have e1:=zPs (W4 V 0) (W4 V 1) (W4 V 2) (W4 V 3) (W4 V 0) (W4 V 1) (W4 V 2) (W4 V 3)
 rw [decide_eq_true ⟨rfl,rfl,rfl,rfl⟩] at e1
 unfold DV A4 at *
 go_enter Tryz.func5,Tryz.ntmps5
 go_wp2_with (first
  | (go_at_call 9;refine wk w (c8 _ (hTT _ _ hT bgo)) ?_;intro w1 hb1 _ _ _ _ hA1 _;clear hb1)
  | (go_at_call 12;refine wk w (c15 _) ?_;intro w2 hb2 _ _ _ _ hA2 _;clear hb2)
  | (go_at_call 15;refine (c14 _).mono ?_;rintro r w3 ⟨rfl,rfl⟩)
  | (go_at_call 16;refine (c10 _).mono ?_;rintro r w3 ⟨rfl,rfl⟩)
  | (go_at_call 17;refine wk w (c9 _ (hTT _ _ hT bgo)) ?_;intro w4 hb4 _ _ _ _ hA4 _;clear hb4)
  | (have:=hA5;go_at_call 10;refine wk w (c13 _ (hTT _ _ hT bgo)) ?_;intro w6 hb6 _ _ _ _ hA6 _;obtain ⟨_,_⟩:=zf hb6 w5.heap.size;clear hb6)
  | (go_at_call 10;refine wk w (c12 _ (hTT _ _ hT bgo)) ?_;intro w5 hb5 _ _ _ _ hA5 _;clear hb5)
  | (go_at_call 18;refine wk w (c11 _ (hTT _ _ hT bgo)) ?_;intro w7 hb7 _ _ _ _ hA7 _;obtain ⟨_,_,_,_⟩:=zg hb7 w5.heap.size w6.heap.size;clear hb7)
  | (go_at_call 19;refine wk w (c21 _) ?_;intro w8 hb8 _ _ _ _ hA8 _;obtain ⟨_,_,_,_,_,_⟩:=zh hb8 w5.heap.size w6.heap.size w7.heap.size;clear hb8))
 go_ret
 exact ⟨by first|rfl|simp,bgo⟩
theorem tn19_3 (o c x c1 x1:Int)(s g s1 s2 g1:Bool)(k P V1 V2 k1:Nat)(F E1:Int)(hs:s1=!s2)(hd3:d=3)(ho4:o=4)
  (c40:∀ W,TT W->CB 13 #[.int .i64 m,A4 Bp] W (.tuple #[DV c s g x k,.int .i64 0]))
  (c41:∀ W,TT W->CB 23 #[.int .i64 m,DV c (!s) g x k] W (.tuple #[A4 P,.int .i64 E1]))
  (c12:∀ W,TT W->CB 10 #[.int .i64 m,.int .i64 t,.int .i64 d,A4 Bp] W (.tuple #[A4 V1,.int .i64 F,.int .i64 0]))
  (c13:∀ W,TT W->CB 10 #[.int .i64 m,.int .i64 t,.int .i64 o,A4 P] W (.tuple #[A4 V2,.int .i64 F,.int .i64 0]))
  (c21:∀ W,CB 19 #[.int .i64 t,A4 V1] W (.tuple #[DV c1 s1 g1 x1 k1,.bool true,.int .i64 0]))
  (c22:∀ W,CB 19 #[.int .i64 t,A4 V2] W (.tuple #[DV c1 s2 g1 x1 k1,.bool true,.int .i64 0])) :
  CB 8 #[.int .i64 m,.int .i64 t,.int .i64 d,A4 Bp] w (.bool true):=by
 have hsm:=zAa
 have e1:=eq27 c1 c1 s1 (!s2) g1 g1 x1 x1 (W4 k1 0) (W4 k1 1) (W4 k1 2) (W4 k1 3) (W4 k1 0) (W4 k1 1) (W4 k1 2) (W4 k1 3)
 rw [decide_eq_true ⟨rfl,hs,rfl,rfl,rfl,rfl,rfl,rfl⟩] at e1
 clear hs
 unfold DV A4 at *
 subst hd3 ho4
 go_enter Tryz.func8,Tryz.ntmps8
 go_wp2_with (first
  | (go_at_call 9;refine wk w (c8 _ (hTT _ _ hT bgo)) ?_;intro w1 hb1 _ _ _ _ hA1 _;clear hb1)
  | (go_at_call 12;refine wk w (c15 _) ?_;intro w2 hb2 _ _ _ _ hA2 _;clear hb2)
  | (go_at_call 15;refine (c14 _).mono ?_;rintro r w3 ⟨rfl,rfl⟩)
  | (go_at_call 16;refine (c10 _).mono ?_;rintro r w3 ⟨rfl,rfl⟩)
  | (go_at_call 13;refine wk w (c40 _ (hTT _ _ hT bgo)) ?_;intro w4 hb4 _ _ _ _ hA4 _;clear hb4)
  | (go_at_call 23;refine wk w (c41 _ (hTT _ _ hT bgo)) ?_;intro w5 hb5 _ _ _ _ hA5 _;obtain ⟨_,_⟩:=zf hb5 w4.heap.size;clear hb5)
  | (have:=hA6;go_at_call 10;refine wk w (c13 _ (hTT _ _ hT bgo)) ?_;intro w7 hb7 _ _ _ _ hA7 _;obtain ⟨_,_,_,_,_,_⟩:=zh hb7 w4.heap.size w5.heap.size w6.heap.size;clear hb7)
  | (go_at_call 10;refine wk w (c12 _ (hTT _ _ hT bgo)) ?_;intro w6 hb6 _ _ _ _ hA6 _;obtain ⟨_,_,_,_⟩:=zg hb6 w4.heap.size w5.heap.size;clear hb6)
  | (have:=hA8;go_at_call 19;refine wk w (c22 _) ?_;intro w9 hb9 _ _ _ _ hA9 _;obtain ⟨_,_,_,_,_,_⟩:=zh hb9 w4.heap.size w5.heap.size w6.heap.size;obtain ⟨_,_,_,_⟩:=zg hb9 w7.heap.size w8.heap.size;clear hb9)
  | (go_at_call 19;refine wk w (c21 _) ?_;intro w8 hb8 _ _ _ _ hA8 _;obtain ⟨_,_,_,_,_,_⟩:=zh hb8 w4.heap.size w5.heap.size w6.heap.size;obtain ⟨_,_⟩:=zf hb8 w7.heap.size;clear hb8))
 go_ret
 exact ⟨by first|rfl|simp,bgo⟩
theorem tn19_4 (o c x c1 x1:Int)(s g s1 s2 g1:Bool)(k P V1 V2 k1:Nat)(F E1:Int)(hs:s1=!s2)(hd4:d=4)(ho3:o=3)
  (c40:∀ W,TT W->CB 13 #[.int .i64 m,A4 Bp] W (.tuple #[DV c s g x k,.int .i64 0]))
  (c41:∀ W,TT W->CB 23 #[.int .i64 m,DV c (!s) g x k] W (.tuple #[A4 P,.int .i64 E1]))
  (c12:∀ W,TT W->CB 10 #[.int .i64 m,.int .i64 t,.int .i64 d,A4 Bp] W (.tuple #[A4 V1,.int .i64 F,.int .i64 0]))
  (c13:∀ W,TT W->CB 10 #[.int .i64 m,.int .i64 t,.int .i64 o,A4 P] W (.tuple #[A4 V2,.int .i64 F,.int .i64 0]))
  (c21:∀ W,CB 19 #[.int .i64 t,A4 V1] W (.tuple #[DV c1 s1 g1 x1 k1,.bool true,.int .i64 0]))
  (c22:∀ W,CB 19 #[.int .i64 t,A4 V2] W (.tuple #[DV c1 s2 g1 x1 k1,.bool true,.int .i64 0])) :
  CB 8 #[.int .i64 m,.int .i64 t,.int .i64 d,A4 Bp] w (.bool true):=by
 have hsm:=zAa
 have e1:=eq27 c1 c1 s1 (!s2) g1 g1 x1 x1 (W4 k1 0) (W4 k1 1) (W4 k1 2) (W4 k1 3) (W4 k1 0) (W4 k1 1) (W4 k1 2) (W4 k1 3)
 rw [decide_eq_true ⟨rfl,hs,rfl,rfl,rfl,rfl,rfl,rfl⟩] at e1
 clear hs
 unfold DV A4 at *
 subst hd4 ho3
 go_enter Tryz.func8,Tryz.ntmps8
 go_wp2_with (first
  | (go_at_call 9;refine wk w (c8 _ (hTT _ _ hT bgo)) ?_;intro w1 hb1 _ _ _ _ hA1 _;clear hb1)
  | (go_at_call 12;refine wk w (c15 _) ?_;intro w2 hb2 _ _ _ _ hA2 _;clear hb2)
  | (go_at_call 15;refine (c14 _).mono ?_;rintro r w3 ⟨rfl,rfl⟩)
  | (go_at_call 16;refine (c10 _).mono ?_;rintro r w3 ⟨rfl,rfl⟩)
  | (go_at_call 13;refine wk w (c40 _ (hTT _ _ hT bgo)) ?_;intro w4 hb4 _ _ _ _ hA4 _;clear hb4)
  | (go_at_call 23;refine wk w (c41 _ (hTT _ _ hT bgo)) ?_;intro w5 hb5 _ _ _ _ hA5 _;obtain ⟨_,_⟩:=zf hb5 w4.heap.size;clear hb5)
  | (have:=hA6;go_at_call 10;refine wk w (c13 _ (hTT _ _ hT bgo)) ?_;intro w7 hb7 _ _ _ _ hA7 _;obtain ⟨_,_,_,_,_,_⟩:=zh hb7 w4.heap.size w5.heap.size w6.heap.size;clear hb7)
  | (go_at_call 10;refine wk w (c12 _ (hTT _ _ hT bgo)) ?_;intro w6 hb6 _ _ _ _ hA6 _;obtain ⟨_,_,_,_⟩:=zg hb6 w4.heap.size w5.heap.size;clear hb6)
  | (have:=hA8;go_at_call 19;refine wk w (c22 _) ?_;intro w9 hb9 _ _ _ _ hA9 _;obtain ⟨_,_,_,_,_,_⟩:=zh hb9 w4.heap.size w5.heap.size w6.heap.size;obtain ⟨_,_,_,_⟩:=zg hb9 w7.heap.size w8.heap.size;clear hb9)
  | (go_at_call 19;refine wk w (c21 _) ?_;intro w8 hb8 _ _ _ _ hA8 _;obtain ⟨_,_,_,_,_,_⟩:=zh hb8 w4.heap.size w5.heap.size w6.heap.size;obtain ⟨_,_⟩:=zf hb8 w7.heap.size;clear hb8))
 go_ret
 exact ⟨by first|rfl|simp,bgo⟩
theorem tn19_d (o c x c1 x1:Int)(s g s1 s2 g1:Bool)(k P V1 V2 k1:Nat)(F E1:Int)(hs:s1=!s2)(hd3:(d==3)=false)(hd4:(d==4)=false)(hod:o=d)
  (c40:∀ W,TT W->CB 13 #[.int .i64 m,A4 Bp] W (.tuple #[DV c s g x k,.int .i64 0]))
  (c41:∀ W,TT W->CB 23 #[.int .i64 m,DV c (!s) g x k] W (.tuple #[A4 P,.int .i64 E1]))
  (c12:∀ W,TT W->CB 10 #[.int .i64 m,.int .i64 t,.int .i64 d,A4 Bp] W (.tuple #[A4 V1,.int .i64 F,.int .i64 0]))
  (c13:∀ W,TT W->CB 10 #[.int .i64 m,.int .i64 t,.int .i64 o,A4 P] W (.tuple #[A4 V2,.int .i64 F,.int .i64 0]))
  (c21:∀ W,CB 19 #[.int .i64 t,A4 V1] W (.tuple #[DV c1 s1 g1 x1 k1,.bool true,.int .i64 0]))
  (c22:∀ W,CB 19 #[.int .i64 t,A4 V2] W (.tuple #[DV c1 s2 g1 x1 k1,.bool true,.int .i64 0])) :
  CB 8 #[.int .i64 m,.int .i64 t,.int .i64 d,A4 Bp] w (.bool true):=by
 have hsm:=zAa
 have e1:=eq27 c1 c1 s1 (!s2) g1 g1 x1 x1 (W4 k1 0) (W4 k1 1) (W4 k1 2) (W4 k1 3) (W4 k1 0) (W4 k1 1) (W4 k1 2) (W4 k1 3)
 rw [decide_eq_true ⟨rfl,hs,rfl,rfl,rfl,rfl,rfl,rfl⟩] at e1
 clear hs
 unfold DV A4 at *
 subst hod
 go_enter Tryz.func8,Tryz.ntmps8
 go_wp2_with (first
  | (go_at_call 9;refine wk w (c8 _ (hTT _ _ hT bgo)) ?_;intro w1 hb1 _ _ _ _ hA1 _;clear hb1)
  | (go_at_call 12;refine wk w (c15 _) ?_;intro w2 hb2 _ _ _ _ hA2 _;clear hb2)
  | (go_at_call 15;refine (c14 _).mono ?_;rintro r w3 ⟨rfl,rfl⟩)
  | (go_at_call 16;refine (c10 _).mono ?_;rintro r w3 ⟨rfl,rfl⟩)
  | (go_at_call 13;refine wk w (c40 _ (hTT _ _ hT bgo)) ?_;intro w4 hb4 _ _ _ _ hA4 _;clear hb4)
  | (go_at_call 23;refine wk w (c41 _ (hTT _ _ hT bgo)) ?_;intro w5 hb5 _ _ _ _ hA5 _;obtain ⟨_,_⟩:=zf hb5 w4.heap.size;clear hb5)
  | (have:=hA6;go_at_call 10;refine wk w (c13 _ (hTT _ _ hT bgo)) ?_;intro w7 hb7 _ _ _ _ hA7 _;obtain ⟨_,_,_,_,_,_⟩:=zh hb7 w4.heap.size w5.heap.size w6.heap.size;clear hb7)
  | (go_at_call 10;refine wk w (c12 _ (hTT _ _ hT bgo)) ?_;intro w6 hb6 _ _ _ _ hA6 _;obtain ⟨_,_,_,_⟩:=zg hb6 w4.heap.size w5.heap.size;clear hb6)
  | (have:=hA8;go_at_call 19;refine wk w (c22 _) ?_;intro w9 hb9 _ _ _ _ hA9 _;obtain ⟨_,_,_,_,_,_⟩:=zh hb9 w4.heap.size w5.heap.size w6.heap.size;obtain ⟨_,_,_,_⟩:=zg hb9 w7.heap.size w8.heap.size;clear hb9)
  | (go_at_call 19;refine wk w (c21 _) ?_;intro w8 hb8 _ _ _ _ hA8 _;obtain ⟨_,_,_,_,_,_⟩:=zh hb8 w4.heap.size w5.heap.size w6.heap.size;obtain ⟨_,_⟩:=zf hb8 w7.heap.size;clear hb8))
 go_ret
 exact ⟨by first|rfl|simp,bgo⟩
end
theorem zYq {m t d:Int}{Bp:Nat}(hg:xoG m t d Bp):vI (fD t) (coD t d (unD m Bp))/\xoV m t d Bp=vP (fD t) (coD t d (unD m Bp))/\zSd t (xoV m t d Bp)/\xoV m t d Bp<2^256/\vM (fD t) (xoV m t d Bp)=coD t d (unD m Bp):=by
 have hi:=(zH5 hg.2.1 hg.2.2 hg.1.1 (zQv hg.1)).1
 have e:xoV m t d Bp=vP (fD t) (coD t d (unD m Bp)):=if_pos hg
 rw [e]
 exact ⟨hi,rfl,⟨hg.2.1,vP_lt (zTb t) hi⟩,zKv (zTb t) hi,vM_vP (zTb t) hi⟩
section
variable {TT:World->Prop}(h:CroC TT)(hD:DtxC TT)(m t d:Int)(Bp:Nat)(w:World)(hT:TT w)(hB:Bp<2^256)
include h hD hT hB
theorem zRv (hR:TrcC TT):CB 5 #[.int .i64 m,.int .i64 t,.int .i64 d,A4 Bp] w (.bool true):=by
 have c8:=fun W hW=>zUq h hD W hW
 have c15:=fun W=>zUn m Bp hB W
 have c14:=fun W=>zWb t W
 have c10:=fun W=>zHm d W
 by_cases hg:xoG m t d Bp
 ·obtain ⟨h1,h2,h3⟩:=id hg
  rw [decide_eq_true h1] at c15
  rw [decide_eq_true h2] at c14
  rw [decide_eq_true h3] at c10
  have hg':xoG m (twN t) d Bp:=⟨h1,zDr h2,h3⟩
  obtain ⟨i1,i2,i3,i4,i5⟩:=zYq hg
  have c9:=fun W hW=>hR.tw t W hW
  have c12:=fun W hW=>h.cv m t d Bp W hB hW
  have c13:=fun W hW=>h.cv m (twN t) d Bp W hB hW
  have c11:=fun W hW=>hR.cd t (xoV m t d Bp) W i4 hW
  have c21:=fun W=>zKr t (xoV m t d Bp) W i4
  rw [show twV t=twN t from if_pos h2,show twE t=0 from if_pos h2] at c9
  rw [show xoE m t d Bp=0 from if_pos hg] at c12
  have eF:xoF m (twN t) d Bp=xoF m t d Bp:=by
   unfold xoF
   rw [if_pos hg,if_pos hg',(co_tw h2 d _).2]
  have eV:tcV t (xoV m t d Bp)=xoV m (twN t) d Bp:=by
   have a:tcV t (xoV m t d Bp)=vP (fD (twN t)) (vM (fD t) (xoV m t d Bp)):=if_pos i3
   have b:xoV m (twN t) d Bp=vP (fD (twN t)) (coD (twN t) d (unD m Bp)):=if_pos hg'
   rw [a,b,i5,(co_tw h2 d _).1]
  rw [show xoE m (twN t) d Bp=0 from if_pos hg',eF] at c13
  rw [show vUE t (xoV m t d Bp)=0 from if_pos i3,eV] at c11
  have eC:vUC t (xoV m t d Bp)=true:=by
   unfold vUC
   exact decide_eq_true ⟨i3,by rw [i5];exact i2.symm⟩
  rw [show vUE t (xoV m t d Bp)=0 from if_pos i3,eC] at c21
  exact tw19_y TT h.next w hT c8 m t d Bp c15 c14 c10 _ _ _ _ _ _ _ _ _ (tw_ne h2) c9 c12 c13 c11 c21
 ·exact tw19_n TT h.next w hT c8 m t d Bp _ _ _ (zO5 hg) c15 c14 c10
end
end
theorem ok_lm {f:DF}(h:f.ok):f.l<=-100/\90<=f.m:=by
 unfold DF.m
 rcases h with ⟨h1,h2,h3,h4⟩|⟨h1,h2,h3,h4⟩|⟨h1,h2,h3,h4⟩<;>rw [h2,h4]<;>decide
theorem co_fin {t d:Int}(ht:zYb t)(hd:knB d){n:Int}(hb:zHh n){s g:Bool}{x:Int}{k:Nat}(h:isD (fN n) (zNa n) (zIb n) ⟨1,s,g,x,k⟩)(hk:k≠0) :
  coD t d ⟨1,s,g,x,k⟩=dkD (fD t) d s (k*2^x.toNat) (2^(-x).toNat) (tnX (k*2^x.toNat) (2^(-x).toNat)) 0 /\
  coF t d ⟨1,s,g,x,k⟩=dkF (fD t) d s (k*2^x.toNat) (2^(-x).toNat) (tnX (k*2^x.toNat) (2^(-x).toNat)) /\
  TnE (k*2^x.toNat) (2^(-x).toNat) (tnX (k*2^x.toNat) (2^(-x).toNat)):=by
 obtain ⟨_,b1,b2,_,_⟩:=zH5 ht hd hb h
 have hN:0<k*2^x.toNat:=Nat.mul_pos (Nat.pos_of_ne_zero hk) (Nat.two_pow_pos _)
 have hD:0<2^(-x).toNat:=Nat.two_pow_pos _
 have hE:rqE t d (k*2^x.toNat) (2^(-x).toNat)=0:=by
  unfold rqE
  dsimp only at b1 b2
  rw [if_pos ⟨ht,hd,Nat.pos_iff_ne_zero.1 hD⟩,if_neg (by omega)]
 have c1:¬ (1:Int)=2:=by decide
 have c2:¬ (1:Int)=3:=by decide
 refine ⟨?_,?_,zJn hN hD⟩
 ·unfold coD rqD
  dsimp only
  rw [if_neg c1,if_neg c2,Nat.one_mul,if_pos hE,if_neg (by omega),zV5]
  simp only [Int.neg_zero,Int.toNat_zero,Nat.pow_zero,Nat.mul_one]
 ·unfold coF rqF
  dsimp only
  rw [if_neg c1,if_neg c2,Nat.one_mul,if_pos hE,if_neg (by omega),zV5]
  simp only [Int.neg_zero,Int.toNat_zero,Nat.pow_zero,Nat.mul_one]
theorem zB0 {t d:Int}(ht:zYb t)(hd:knB d)(s g:Bool){x:Int}(hx:-16990<=x/\x<=16990):coD t d ⟨1,s,g,x,0⟩=⟨1,s,false,0,0⟩/\coF t d ⟨1,s,g,x,0⟩=0:=by
 have c1:¬ (1:Int)=2:=by decide
 have c2:¬ (1:Int)=3:=by decide
 have hD:0<2^(-x).toNat:=Nat.two_pow_pos _
 have b2:bl (2^(-x).toNat)<=(-x).toNat+1:=bl_le.2 (Nat.pow_lt_pow_right (by decide) (by omega))
 have b1:bl 0<=1:=bl_le.2 (by decide)
 have hE:rqE t d 0 (2^(-x).toNat)=0:=by
  unfold rqE
  rw [if_pos ⟨ht,hd,Nat.pos_iff_ne_zero.1 hD⟩,if_neg (by omega)]
 obtain ⟨m0,m1,l0,l1,lm,j0,j1⟩:=zKx (zTb t)
 obtain ⟨q1,q2⟩:=ok_lm (zTb t)
 have hmm:min (max 0 (fD t).l) (fD t).m=0:=by omega
 constructor
 ·unfold coD rqD
  dsimp only
  rw [if_neg c1,if_neg c2,Nat.one_mul,Nat.zero_mul,if_pos hE,if_pos rfl,hmm]
 ·unfold coF rqF
  dsimp only
  rw [if_neg c1,if_neg c2,Nat.one_mul,Nat.zero_mul,if_pos hE,if_pos rfl]
theorem zZs {t d:Int}(ht:zYb t)(hd:knB d){n:Int}(hb:zHh n){s:Bool}{x e:Int}{k C:Nat}(h:isD (fN n) (zNa n) (zIb n) ⟨1,s,false,x,k⟩)(hk:k≠0)
  (hC:C<10^7) (he:e=0∨(e=-1/\C%10≠0)) (hv:k*2^x.toNat*10^(-e).toNat=C*10^e.toNat*2^(-x).toNat) :
  coD t d ⟨1,s,false,x,k⟩=⟨1,s,false,e,C⟩/\coF t d ⟨1,s,false,x,k⟩=0:=by
 obtain ⟨e1,e2,e3⟩:=co_fin ht hd hb h hk
 rw [e1,e2]
 have hf:=zTb t
 obtain ⟨m0,m1,l0,l1,lm,j0,j1⟩:=zKx hf
 have hD:0<2^(-x).toNat:=Nat.two_pow_pos _
 have hT:=zTa (-e).toNat
 obtain ⟨q1,q2⟩:=ok_lm hf
 have h7:(10:Nat)^7<=10^(3*(fD t).j+1):=Nat.pow_le_pow_right (by decide) (by omega)
 have hC0:0<C:=by
  rcases Nat.eq_zero_or_pos C with q|q
  ·exfalso
   rw [q,Nat.zero_mul,Nat.zero_mul] at hv
   have:=Nat.mul_pos (Nat.mul_pos (Nat.pos_of_ne_zero hk) (Nat.two_pow_pos x.toNat)) hT
   omega
  ·exact q
 generalize tnX (k*2^x.toNat) (2^(-x).toNat)=E at *
 have a1:=zLz (fD t) d s (k*2^x.toNat) (2^(-x).toNat) E 0 hT
 have a2:=zLz (fD t) d s (C*10^e.toNat) (10^(-e).toNat) E 0 hD
 rw [hv,Nat.mul_comm (2^(-x).toNat)] at a1
 have a3:TnE (C*10^e.toNat) (10^(-e).toNat) E:=by
  rw [← zW0 hT,hv,Nat.mul_comm (2^(-x).toNat),zW0 hD] at e3
  exact e3
 rw [← a1.1,← a1.2,a2.1,a2.2]
 obtain ⟨k',x',b1,b2,b3,b4,b5,b6,b7,b8,b9⟩:=zJz hf d s (want:=0) hC0 (Nat.lt_of_lt_of_le hC h7) (by omega) (by omega) a3
 rw [b1,b2]
 have hx':x'=e:=by
  rcases Int.lt_trichotomy x' e with q|q|q
  ·exfalso
   refine b8 (by omega) (by omega) ?_
   rw [show (x'-e).toNat=0 by omega,Nat.pow_zero,Nat.mul_one] at b7
   obtain ⟨p,hp⟩:∃ p:Nat,(e-x').toNat=p+1:=⟨(e-x').toNat-1,by omega⟩
   rw [b7,hp,Nat.pow_succ,← Nat.mul_assoc]
   exact Nat.mul_mod_left _ _
  ·exact q
  ·exfalso
   rw [show (e-x').toNat=0 by omega,Nat.pow_zero,Nat.mul_one] at b7
   obtain ⟨p,hp⟩:∃ p:Nat,(x'-e).toNat=p+1:=⟨(x'-e).toNat-1,by omega⟩
   rw [hp,Nat.pow_succ,← Nat.mul_assoc] at b7
   rcases he with he|⟨he,hm⟩
   ·have:=b9 (by omega) (by omega)
    have hle:k'*10<=C:=by
     rw [← b7]
     exact Nat.mul_le_mul_right 10 (Nat.le_mul_of_pos_right k' (zTa p))
    omega
   ·exact hm (by rw [← b7];exact Nat.mul_mod_left _ _)
 subst hx'
 rw [Int.sub_self,Int.toNat_zero,Nat.pow_zero,Nat.mul_one,Nat.mul_one] at b7
 rw [b7]
 exact ⟨rfl,rfl⟩
theorem yCc (t d c:Int)(s g:Bool)(x:Int)(k:Nat)(hE:c=2∨c=3∨rqE t d (k*2^x.toNat) (1*2^(-x).toNat)=0) :
  (coD t d ⟨c,s,g,x,k⟩).s=s/\coD t (swD d) ⟨c,!s,g,x,k⟩=⟨(coD t d ⟨c,s,g,x,k⟩).c,!s,(coD t d ⟨c,s,g,x,k⟩).g,(coD t d ⟨c,s,g,x,k⟩).x,(coD t d ⟨c,s,g,x,k⟩).k⟩/\coF t (swD d) ⟨c,!s,g,x,k⟩=coF t d ⟨c,s,g,x,k⟩:=by
 unfold coD coF
 by_cases h2:c=2
 ·simp only [h2,if_true];exact ⟨trivial,trivial,trivial⟩
 ·by_cases h3:c=3
  ·simp only [h3,show ¬ (3:Int)=2 by decide,if_true,if_false];exact ⟨trivial,trivial,trivial⟩
  ·have hE':=(hE.resolve_left h2).resolve_left h3
   dsimp only
   rw [if_neg h2,if_neg h3,if_neg h2,if_neg h3,if_neg h2,if_neg h3,if_neg h2,if_neg h3]
   unfold rqD rqF
   rw [zL2,if_pos hE',if_pos hE',if_pos hE',if_pos hE']
   by_cases hN:k*2^x.toNat=0
   ·rw [if_pos hN,if_pos hN,if_pos hN,if_pos hN]
    exact ⟨rfl,rfl,rfl⟩
   ·rw [if_neg hN,if_neg hN,if_neg hN,if_neg hN]
    obtain ⟨a,b,c⟩:=yJb (fD t) d s (k*2^x.toNat*10^(clT 0).toNat) (1*2^(-x).toNat*10^(-(clT 0)).toNat) (tnX (k*2^x.toNat*10^(clT 0).toNat) (1*2^(-x).toNat*10^(-(clT 0)).toNat)) 0
    exact ⟨c,a,b⟩
section
attribute [local irreducible] W4
section
variable (TT:World->Prop)(hTT:∀ w w',TT w->Below w.heap.size w w'->TT w')(w:World)(hT:TT w)
 (c8:∀ W,TT W->CB 9 #[] W (.bool true))
variable (m t d:Int)(Bp:Nat)
include hTT hT c8
variable (c15:∀ W,CB 12 #[.int .i64 m,A4 Bp] W (.bool true))
 (c14:∀ W,CQ 15 #[.int .i64 t] W (.bool true))
 (c10:∀ W,CQ 16 #[.int .i64 d] W (.bool true))
include c15 c14 c10
end
section
variable {TT:World->Prop}(h:CroC TT)(hD:DtxC TT)(hU:∀ W,TT W->Tab W)(m t d:Int)(Bp:Nat)(w:World)(hT:TT w)(hB:Bp<2^256)
include h hD hU hT hB
theorem zSv:CB 8 #[.int .i64 m,.int .i64 t,.int .i64 d,A4 Bp] w (.bool true):=by
 have c8:=fun W hW=>zUq h hD W hW
 have c15:=fun W=>zUn m Bp hB W
 have c14:=fun W=>zWb t W
 have c10:=fun W=>zHm d W
 by_cases hg:xoG m t d Bp
 ·obtain ⟨h1,h2,h3⟩:=id hg
  rw [decide_eq_true h1] at c15
  rw [decide_eq_true h2] at c14
  rw [decide_eq_true h3] at c10
  have hi:=zQv h1
  obtain ⟨i1,i2,i3,i4,i5⟩:=zYq hg
  obtain ⟨_,b1,b2,hk,_⟩:=zH5 h2 h3 h1.1 hi
  have c40:=fun W hW=>zYk m Bp W (hU W hW) hB
  rw [show unE m Bp=0 from if_pos h1] at c40
  have c12:=fun W hW=>h.cv m t d Bp W hB hW
  rw [show xoE m t d Bp=0 from if_pos hg,show xoF m t d Bp=coF t d (unD m Bp) from if_pos hg] at c12
  have c21:=fun W=>zKr t (xoV m t d Bp) W i4
  have eC:vUC t (xoV m t d Bp)=true:=by
   unfold vUC
   exact decide_eq_true ⟨i3,by rw [i5];exact i2.symm⟩
  rw [show vUE t (xoV m t d Bp)=0 from if_pos i3,eC,show vUD t (xoV m t d Bp)=coD t d (unD m Bp) from (if_pos i3).trans i5] at c21
  generalize xoV m t d Bp=V1 at *
  clear i1 i2 i3 i4 i5 eC
  generalize unD m Bp=D at *
  obtain ⟨c,s,g,x,k⟩:=D
  have hE:c=2∨c=3∨rqE t d (k*2^x.toNat) (1*2^(-x).toNat)=0:=by
   right;right
   unfold rqE
   dsimp only at b1 b2
   rw [Nat.one_mul,if_pos ⟨h2,h3,Nat.pos_iff_ne_zero.1 (Nat.two_pow_pos _)⟩,if_neg (by omega)]
  have hin:isD (fN m) (zNa m) (zIb m) ⟨c,!s,g,x,k⟩:=hi
  have hp0:pkE m ⟨c,!s,g,x,k⟩=0:=by unfold pkE;rw [if_pos h1.1,if_pos hin]
  obtain ⟨g1,g2⟩:=zTq hp0
  have c41:=fun W hW=>zQr m ⟨c,!s,g,x,k⟩ W (hU W hW) hk
  have hg':xoG m t (swD d) (pkV m ⟨c,!s,g,x,k⟩):=⟨g1,h2,(yKa d).2 h3⟩
  obtain ⟨j1,j2,j3,j4,j5⟩:=zYq hg'
  have c13:=fun W hW=>h.cv m t (swD d) (pkV m ⟨c,!s,g,x,k⟩) W (zVw _ _) hW
  obtain ⟨t1,t2,t3⟩:=yCc t d c s g x k hE
  rw [show xoE m t (swD d) (pkV m ⟨c,!s,g,x,k⟩)=0 from if_pos hg',show xoF m t (swD d) (pkV m ⟨c,!s,g,x,k⟩)=coF t (swD d) (unD m (pkV m ⟨c,!s,g,x,k⟩)) from if_pos hg',g2,t3] at c13
  have c22:=fun W=>zKr t (xoV m t (swD d) (pkV m ⟨c,!s,g,x,k⟩)) W j4
  have eC:vUC t (xoV m t (swD d) (pkV m ⟨c,!s,g,x,k⟩))=true:=by
   unfold vUC
   exact decide_eq_true ⟨j3,by rw [j5];exact j2.symm⟩
  rw [show vUE t (xoV m t (swD d) (pkV m ⟨c,!s,g,x,k⟩))=0 from if_pos j3,eC,show vUD t (xoV m t (swD d) (pkV m ⟨c,!s,g,x,k⟩))=coD t (swD d) (unD m (pkV m ⟨c,!s,g,x,k⟩)) from (if_pos j3).trans j5,g2,t2] at c22
  generalize xoV m t (swD d) (pkV m ⟨c,!s,g,x,k⟩)=V2 at *
  have ho:(d=3/\swD d=4)∨(d=4/\swD d=3)∨((d==3)=false/\(d==4)=false/\swD d=d):=by
   unfold swD
   by_cases q3:d=3
   ·left;subst q3;exact ⟨rfl,rfl⟩
   ·by_cases q4:d=4
    ·right;left;subst q4;exact ⟨rfl,rfl⟩
    ·right;right
     rw [if_neg (by omega)]
     exact ⟨by simpa using q3,by simpa using q4,rfl⟩
  have hs:(coD t d ⟨c,s,g,x,k⟩).s=!(!s):=by rw [t1,Bool.not_not]
  rcases ho with ⟨o1,o2⟩|⟨o1,o2⟩|⟨o1,o2,o3⟩
  ·exact tn19_3 TT h.next w hT c8 m t d Bp c15 c14 c10 _ _ _ _ _ _ _ _ _ _ _ _ _ _ _ _ _ hs o1 o2 c40 c41 c12 c13 c21 c22
  ·exact tn19_4 TT h.next w hT c8 m t d Bp c15 c14 c10 _ _ _ _ _ _ _ _ _ _ _ _ _ _ _ _ _ hs o1 o2 c40 c41 c12 c13 c21 c22
  ·exact tn19_d TT h.next w hT c8 m t d Bp c15 c14 c10 _ _ _ _ _ _ _ _ _ _ _ _ _ _ _ _ _ hs o1 o2 o3 c40 c41 c12 c13 c21 c22
 ·exact tn19_n TT h.next w hT c8 m t d Bp _ _ _ (zO5 hg) c15 c14 c10
end
end
theorem zPi (m t d:Int)(Bp:Nat)(w:World)(hT:Tab w)(hT10:Tb10 w)(hB:Bp<2^256) :
  CB 8 #[.int .i64 m,.int .i64 t,.int .i64 d,A4 Bp] w (.bool true) :=
 zSv croB dtxC (fun W h=>h.1) m t d Bp w ⟨hT,hT10⟩ hB
section
attribute [local irreducible] W4
section
variable (TT:World->Prop)(hTT:∀ w w',TT w->Below w.heap.size w w'->TT w')(w:World)(hT:TT w)
 (c8:∀ W,TT W->CB 9 #[] W (.bool true))
variable (m:Nat)(t d:Int)(s:Bool)
include hTT hT c8
theorem zQ5 (hf:Bool)(b2 b3:Bool)(hn:(b2&&b3)=false)
  (c14:∀ W,CQ 15 #[.int .i64 t] W (.bool b2))
  (c10:∀ W,CQ 16 #[.int .i64 d] W (.bool b3)) :
  CB 7 #[.int .u16 (m:Int),.int .i64 t,.int .i64 d,.bool s,.bool hf] w (.bool true):=by
 cases b2<;>cases b3<;>simp only [Bool.and_self,Bool.and_true,Bool.and_false,Bool.true_and,Bool.false_and,Bool.true_eq_false] at hn
 all_goals (
  clear hn
  go_enter Tryz.func7,Tryz.ntmps7
  go_wp2_with (first
   | (have:=hA1;go_at_call 9;refine (c8 _ (hTT _ _ hT bgo)).mono ?_;rintro r w4 ⟨rfl,hb4⟩;obtain ⟨_,_,hA4,_⟩:=wf w hb4;clear hb4)
   | (go_at_call 9;refine (c8 _ (hTT _ _ hT bgo)).mono ?_;rintro r w1 ⟨rfl,hb1⟩;obtain ⟨_,_,hA1,_⟩:=wf w hb1;clear hb1)
   | (go_at_call 15;refine (c14 _).mono ?_;rintro r w3 ⟨rfl,rfl⟩)
   | (go_at_call 16;refine (c10 _).mono ?_;rintro r w3 ⟨rfl,rfl⟩))
  go_ret
  exact ⟨by first|rfl|simp,bgo⟩)
variable (c14:∀ W,CQ 15 #[.int .i64 t] W (.bool true))
 (c10:∀ W,CQ 16 #[.int .i64 d] W (.bool true))
include c14 c10
theorem wh19_0
  (Bp V:Nat)
  (c41:∀ W,TT W->CB 23 #[.int .i64 4,.agg #[.int .i64 1,.bool s,.bool false,.int .i64 (-1074),.int .u64 (0),.int .u64 0,.int .u64 0,.int .u64 0]] W (.tuple #[A4 Bp,.int .i64 0]))
  (c12:∀ W,TT W->CB 10 #[.int .i64 4,.int .i64 t,.int .i64 d,A4 Bp] W (.tuple #[A4 V,.int .i64 0,.int .i64 0]))
  (c21:∀ W,CB 19 #[.int .i64 t,A4 V] W (.tuple #[.agg #[.int .i64 1,.bool s,.bool false,.int .i64 (0),.int .u64 (0),.int .u64 0,.int .u64 0,.int .u64 0],.bool true,.int .i64 0])) :
  CB 7 #[.int .u16 0,.int .i64 t,.int .i64 d,.bool s,.bool false] w (.bool true):=by
 have hsm:=zAa
 have h24:=zPs 0 0 0 0 0 0 0 0
 rw [decide_eq_true ⟨rfl,rfl,rfl,rfl⟩] at h24
 have e27:=eq27 1 1 s s false false 0 0 0 0 0 0 0 0 0 0
 rw [decide_eq_true ⟨rfl,rfl,rfl,rfl,rfl,rfl,rfl,rfl⟩] at e27
 unfold A4 at c41 c12 c21
 go_enter Tryz.func7,Tryz.ntmps7
 go_wp2_with (first
  | (go_at_call 9;refine (c8 _ (hTT _ _ hT bgo)).mono ?_;rintro r w1 ⟨rfl,hb1⟩;obtain ⟨_,_,hA1,_⟩:=wf w hb1;clear hb1)
  | (go_at_call 15;refine (c14 _).mono ?_;rintro r w3 ⟨rfl,rfl⟩)
  | (go_at_call 16;refine (c10 _).mono ?_;rintro r w3 ⟨rfl,rfl⟩)
  | (go_at_call 23;refine (c41 _ (hTT _ _ hT bgo)).mono ?_;rintro r w4 ⟨rfl,hb4⟩;obtain ⟨_,_,_,_,hA4,_⟩:=wz w hb4 w1.heap.size;obtain ⟨_,_⟩:=zf hb4 (w1.heap.size+1);clear hb4)
  | (go_at_call 10;refine (c12 _ (hTT _ _ hT bgo)).mono ?_;rintro r w5 ⟨rfl,hb5⟩;obtain ⟨_,_,_,_,hA5,_⟩:=wz w hb5 w1.heap.size;obtain ⟨_,_,_,_⟩:=zg hb5 (w1.heap.size+1) w4.heap.size;clear hb5)
  | (go_at_call 19;refine (c21 _).mono ?_;rintro r w6 ⟨rfl,hb6⟩;obtain ⟨_,_,_,_,hA6,_⟩:=wz w hb6 w1.heap.size;obtain ⟨_,_,_,_,_,_⟩:=zh hb6 (w1.heap.size+1) w4.heap.size w5.heap.size;clear hb6))
 go_ret
 exact ⟨by first|rfl|simp,bgo⟩
theorem wh19_w (hm:m<=65535)(h0:m≠0)(J:Nat)(hJ:J<=60)(hJ1:2^52<=m*2^J)(hJ2:m*2^J<2^53)(hJ3:∀ i,i<J->m*2^i<2^52)
  (Bp V:Nat)
  (c41:∀ W,TT W->CB 23 #[.int .i64 4,.agg #[.int .i64 1,.bool s,.bool false,.int .i64 (-(J:Int)),.int .u64 (((m*2^J:Nat):Int)),.int .u64 0,.int .u64 0,.int .u64 0]] W (.tuple #[A4 Bp,.int .i64 0]))
  (c12:∀ W,TT W->CB 10 #[.int .i64 4,.int .i64 t,.int .i64 d,A4 Bp] W (.tuple #[A4 V,.int .i64 0,.int .i64 0]))
  (c21:∀ W,CB 19 #[.int .i64 t,A4 V] W (.tuple #[.agg #[.int .i64 1,.bool s,.bool false,.int .i64 (0),.int .u64 ((m:Int)),.int .u64 0,.int .u64 0,.int .u64 0],.bool true,.int .i64 0])) :
  CB 7 #[.int .u16 (m:Int),.int .i64 t,.int .i64 d,.bool s,.bool false] w (.bool true):=by
 have hsm:=zAa
 have h24:=zPs ((m:Int)) 0 0 0 0 0 0 0
 rw [decide_eq_false (show ¬ (((m:Int))=0/\(0:Int)=0/\(0:Int)=0/\(0:Int)=0) by omega)] at h24
 have e27:=eq27 1 1 s s false false (0) (0) ((m:Int)) 0 0 0 ((m:Int)) 0 0 0
 rw [decide_eq_true ⟨rfl,rfl,rfl,rfl,rfl,rfl,rfl,rfl⟩] at e27
 have hm1:(0:Int)<=(m:Int)/\(m:Int)<=65535:=by omega
 unfold A4 at c41 c12 c21
 go_enter Tryz.func7,Tryz.ntmps7
 go_wp2_with (first
  | (go_at_call 9;refine (c8 _ (hTT _ _ hT bgo)).mono ?_;rintro r w1 ⟨rfl,hb1⟩;obtain ⟨_,_,hA1,_⟩:=wf w hb1;clear hb1)
  | (go_at_call 15;refine (c14 _).mono ?_;rintro r w3 ⟨rfl,rfl⟩)
  | (go_at_call 16;refine (c10 _).mono ?_;rintro r w3 ⟨rfl,rfl⟩))
 go_loopw [62,63,64,65,66,67,68,69,70,71,72,73,74,75,76] (fun _ _ _ _ _ _ _ _ _ _ _ _ _ _ _ wr=>∃ i:Nat,i<=J/\wr=(w1.alloc (.cells #[.int .i64 1,.bool s,.bool false,.int .i64 (-(i:Int)),.int .u64 ((m*2^i:Nat):Int),.int .u64 0,.int .u64 0,.int .u64 0] 32)).alloc (.cells #[.int .i64 1,.bool s,.bool false,.int .i64 (0),.int .u64 ((m:Int)),.int .u64 0,.int .u64 0,.int .u64 0] 32)) (fun _ _ _ _ _ _ _ _ _ _ _ _ _ _ _ wr=>(match wr.cell? ⟨w1.heap.size,3,none⟩ with|some v=>(intOf v+100).toNat|none=>0))
 case atStart=>exact ⟨0,Nat.zero_le _,by simp⟩
 case round =>
  obtain ⟨i,hi,rfl⟩:=hrel
  by_cases h4:i<J
  ·have h5:=hJ3 i h4
   generalize hK:m*2^i=K at *
   have h6:((K:Nat):Int)/4503599627370496=0:=by omega
   have h7:(0:Int)<=(K:Int)/\(K:Int)<4503599627370496:=by omega
   clear h24 e27 hJ1 hJ2 hJ3 c41 c12 c21
   go_wp2
   go_roundw
   case rel =>
    have e2:2*(K:Int)=((m*2^(i+1):Nat):Int):=by rw [Nat.pow_succ,← Nat.mul_assoc,hK];omega
    exact ⟨i+1,by omega,by rw [← e2,show (-((i+1:Nat):Int))=-(i:Int)-1 by omega]⟩
   case measure =>
    go_simp
    simp only [intOf]
    omega
  ·obtain rfl:i=J:=by omega
   generalize hK:m*2^i=K at *
   have h6:((K:Nat):Int)/4503599627370496=1:=by omega
   have h7:(0:Int)<=(K:Int)/\(K:Int)<9007199254740992:=by omega
   clear hJ1 hJ2 hJ3
   go_wp2_with (first
    | (go_at_call 23;refine (c41 _ (hTT _ _ hT bgo)).mono ?_;rintro r w4 ⟨rfl,hb4⟩;obtain ⟨_,_,_,_,hA4,_⟩:=wz w hb4 w1.heap.size;obtain ⟨_,_⟩:=zf hb4 (w1.heap.size+1);clear hb4)
    | (go_at_call 10;refine (c12 _ (hTT _ _ hT bgo)).mono ?_;rintro r w5 ⟨rfl,hb5⟩;obtain ⟨_,_,_,_,hA5,_⟩:=wz w hb5 w1.heap.size;obtain ⟨_,_,_,_⟩:=zg hb5 (w1.heap.size+1) w4.heap.size;clear hb5)
    | (go_at_call 19;refine (c21 _).mono ?_;rintro r w6 ⟨rfl,hb6⟩;obtain ⟨_,_,_,_,hA6,_⟩:=wz w hb6 w1.heap.size;obtain ⟨_,_,_,_,_,_⟩:=zh hb6 (w1.heap.size+1) w4.heap.size w5.heap.size;clear hb6))
   go_ret
   exact ⟨by first|rfl|simp,bgo⟩
theorem wh19_h (hm:m<=65535)(J:Nat)(hJ:J<=60)(hJ1:2^52<=(2*m+1)*2^J)(hJ2:(2*m+1)*2^J<2^53)(hJ3:∀ i,i<J->(2*m+1)*2^i<2^52)
  (Bp V:Nat)
  (c41:∀ W,TT W->CB 23 #[.int .i64 4,.agg #[.int .i64 1,.bool s,.bool false,.int .i64 (-1-(J:Int)),.int .u64 ((((2*m+1)*2^J:Nat):Int)),.int .u64 0,.int .u64 0,.int .u64 0]] W (.tuple #[A4 Bp,.int .i64 0]))
  (c12:∀ W,TT W->CB 10 #[.int .i64 4,.int .i64 t,.int .i64 d,A4 Bp] W (.tuple #[A4 V,.int .i64 0,.int .i64 0]))
  (c21:∀ W,CB 19 #[.int .i64 t,A4 V] W (.tuple #[.agg #[.int .i64 1,.bool s,.bool false,.int .i64 (-1),.int .u64 (10*(m:Int)+5),.int .u64 0,.int .u64 0,.int .u64 0],.bool true,.int .i64 0])) :
  CB 7 #[.int .u16 (m:Int),.int .i64 t,.int .i64 d,.bool s,.bool true] w (.bool true):=by
 have hsm:=zAa
 have h24:=zPs (2*(m:Int)+1) 0 0 0 0 0 0 0
 rw [decide_eq_false (show ¬ ((2*(m:Int)+1)=0/\(0:Int)=0/\(0:Int)=0/\(0:Int)=0) by omega)] at h24
 have e27:=eq27 1 1 s s false false (-1) (-1) (10*(m:Int)+5) 0 0 0 (10*(m:Int)+5) 0 0 0
 rw [decide_eq_true ⟨rfl,rfl,rfl,rfl,rfl,rfl,rfl,rfl⟩] at e27
 have hm1:(0:Int)<=(m:Int)/\(m:Int)<=65535:=by omega
 unfold A4 at c41 c12 c21
 go_enter Tryz.func7,Tryz.ntmps7
 go_wp2_with (first
  | (go_at_call 9;refine (c8 _ (hTT _ _ hT bgo)).mono ?_;rintro r w1 ⟨rfl,hb1⟩;obtain ⟨_,_,hA1,_⟩:=wf w hb1;clear hb1)
  | (go_at_call 15;refine (c14 _).mono ?_;rintro r w3 ⟨rfl,rfl⟩)
  | (go_at_call 16;refine (c10 _).mono ?_;rintro r w3 ⟨rfl,rfl⟩))
 go_loopw [62,63,64,65,66,67,68,69,70,71,72,73,74,75,76] (fun _ _ _ _ _ _ _ _ _ _ _ _ _ _ _ wr=>∃ i:Nat,i<=J/\wr=(w1.alloc (.cells #[.int .i64 1,.bool s,.bool false,.int .i64 (-1-(i:Int)),.int .u64 (((2*m+1)*2^i:Nat):Int),.int .u64 0,.int .u64 0,.int .u64 0] 32)).alloc (.cells #[.int .i64 1,.bool s,.bool false,.int .i64 (-1),.int .u64 (10*(m:Int)+5),.int .u64 0,.int .u64 0,.int .u64 0] 32)) (fun _ _ _ _ _ _ _ _ _ _ _ _ _ _ _ wr=>(match wr.cell? ⟨w1.heap.size,3,none⟩ with|some v=>(intOf v+100).toNat|none=>0))
 case atStart=>exact ⟨0,Nat.zero_le _,by simp⟩
 case round =>
  obtain ⟨i,hi,rfl⟩:=hrel
  by_cases h4:i<J
  ·have h5:=hJ3 i h4
   generalize hK:(2*m+1)*2^i=K at *
   have h6:((K:Nat):Int)/4503599627370496=0:=by omega
   have h7:(0:Int)<=(K:Int)/\(K:Int)<4503599627370496:=by omega
   clear h24 e27 hJ1 hJ2 hJ3 c41 c12 c21
   go_wp2
   go_roundw
   case rel =>
    have e2:2*(K:Int)=(((2*m+1)*2^(i+1):Nat):Int):=by rw [Nat.pow_succ,← Nat.mul_assoc,hK];omega
    exact ⟨i+1,by omega,by rw [← e2,show (-1-((i+1:Nat):Int))=-1-(i:Int)-1 by omega]⟩
   case measure =>
    go_simp
    simp only [intOf]
    omega
  ·obtain rfl:i=J:=by omega
   generalize hK:(2*m+1)*2^i=K at *
   have h6:((K:Nat):Int)/4503599627370496=1:=by omega
   have h7:(0:Int)<=(K:Int)/\(K:Int)<9007199254740992:=by omega
   clear hJ1 hJ2 hJ3
   go_wp2_with (first
    | (go_at_call 23;refine (c41 _ (hTT _ _ hT bgo)).mono ?_;rintro r w4 ⟨rfl,hb4⟩;obtain ⟨_,_,_,_,hA4,_⟩:=wz w hb4 w1.heap.size;obtain ⟨_,_⟩:=zf hb4 (w1.heap.size+1);clear hb4)
    | (go_at_call 10;refine (c12 _ (hTT _ _ hT bgo)).mono ?_;rintro r w5 ⟨rfl,hb5⟩;obtain ⟨_,_,_,_,hA5,_⟩:=wz w hb5 w1.heap.size;obtain ⟨_,_,_,_⟩:=zg hb5 (w1.heap.size+1) w4.heap.size;clear hb5)
    | (go_at_call 19;refine (c21 _).mono ?_;rintro r w6 ⟨rfl,hb6⟩;obtain ⟨_,_,_,_,hA6,_⟩:=wz w hb6 w1.heap.size;obtain ⟨_,_,_,_,_,_⟩:=zh hb6 (w1.heap.size+1) w4.heap.size w5.heap.size;clear hb6))
   go_ret
   exact ⟨by first|rfl|simp,bgo⟩
end
theorem zM5 {K:Nat}(h:K<18446744073709551616):W4 K 0=(K:Int)/\W4 K 1=0/\W4 K 2=0/\W4 K 3=0:=by
 unfold W4
 refine ⟨?_,?_,?_,?_⟩
 ·rw [Nat.mul_zero,Nat.pow_zero,Nat.div_one,Nat.mod_eq_of_lt h]
 ·rw [Nat.div_eq_of_lt (Nat.lt_of_lt_of_le h (by decide))];rfl
 ·rw [Nat.div_eq_of_lt (Nat.lt_of_lt_of_le h (by decide))];rfl
 ·rw [Nat.div_eq_of_lt (Nat.lt_of_lt_of_le h (by decide))];rfl
theorem zQs {c:Int}{s g:Bool}{x:Int}{K:Nat}(h:K<18446744073709551616):DV c s g x K=.agg #[.int .i64 c,.bool s,.bool g,.int .i64 x,.int .u64 (K:Int),.int .u64 0,.int .u64 0,.int .u64 0]:=by
 obtain ⟨h0,h1,h2,h3⟩:=zM5 h
 unfold DV
 rw [h0,h1,h2,h3]
theorem zIp {TT:World->Prop}(h:CroC TT)(hU:∀ W,TT W->Tab W){t d:Int}(ht:zYb t)(hd:knB d){s:Bool}{X E:Int}{K C:Nat}(hK:K<18446744073709551616)(hC:C<18446744073709551616)
  (hi:isD (fN 4) (zNa 4) (zIb 4) ⟨1,s,false,X,K⟩) (h1:coD t d ⟨1,s,false,X,K⟩=⟨1,s,false,E,C⟩) (h2:coF t d ⟨1,s,false,X,K⟩=0) :
  ∃ Bp V:Nat,(∀ W,TT W->CB 23 #[.int .i64 4,.agg #[.int .i64 1,.bool s,.bool false,.int .i64 X,.int .u64 (K:Int),.int .u64 0,.int .u64 0,.int .u64 0]] W (.tuple #[A4 Bp,.int .i64 0])) /\
   (∀ W,TT W->CB 10 #[.int .i64 4,.int .i64 t,.int .i64 d,A4 Bp] W (.tuple #[A4 V,.int .i64 0,.int .i64 0])) /\
   (∀ W,CB 19 #[.int .i64 t,A4 V] W (.tuple #[.agg #[.int .i64 1,.bool s,.bool false,.int .i64 E,.int .u64 (C:Int),.int .u64 0,.int .u64 0,.int .u64 0],.bool true,.int .i64 0])):=by
 have hb:zHh 4:=by decide
 have hp:pkE 4 ⟨1,s,false,X,K⟩=0:=by unfold pkE;rw [if_pos hb,if_pos hi]
 obtain ⟨g1,g2⟩:=zTq hp
 have hg:xoG 4 t d (pkV 4 ⟨1,s,false,X,K⟩):=⟨g1,ht,hd⟩
 obtain ⟨i1,i2,i3,i4,i5⟩:=zYq hg
 refine ⟨pkV 4 ⟨1,s,false,X,K⟩,xoV 4 t d (pkV 4 ⟨1,s,false,X,K⟩),fun W hW=>?_,fun W hW=>?_,fun W=>?_⟩
 ·have:=zQr 4 ⟨1,s,false,X,K⟩ W (hU W hW) (Nat.lt_of_lt_of_le hK (by decide))
  rw [hp] at this
  rw [← zQs hK]
  exact this
 ·have:=h.cv 4 t d (pkV 4 ⟨1,s,false,X,K⟩) W (zVw _ _) hW
  rw [show xoE 4 t d (pkV 4 ⟨1,s,false,X,K⟩)=0 from if_pos hg,show xoF 4 t d (pkV 4 ⟨1,s,false,X,K⟩)=coF t d (unD 4 (pkV 4 ⟨1,s,false,X,K⟩)) from if_pos hg,g2,h2] at this
  exact this
 ·have:=zKr t (xoV 4 t d (pkV 4 ⟨1,s,false,X,K⟩)) W i4
  have eC:vUC t (xoV 4 t d (pkV 4 ⟨1,s,false,X,K⟩))=true:=by
   unfold vUC
   exact decide_eq_true ⟨i3,by rw [i5];exact i2.symm⟩
  rw [show vUE t (xoV 4 t d (pkV 4 ⟨1,s,false,X,K⟩))=0 from if_pos i3,eC,show vUD t (xoV 4 t d (pkV 4 ⟨1,s,false,X,K⟩))=coD t d (unD 4 (pkV 4 ⟨1,s,false,X,K⟩)) from (if_pos i3).trans i5,g2,h1] at this
  rw [← zQs hC]
  exact this
theorem up52 {c:Nat}(h0:c≠0)(h:c<2^20):∃ J,J<=60/\2^52<=c*2^J/\c*2^J<2^53/\(∀ i,i<J->c*2^i<2^52):=by
 have b1:bl c<=20:=bl_le.2 h
 have b2:c<2^bl c:=bl_le.1 (Nat.le_refl _)
 have b3:1<=bl c:=by
  rcases Nat.eq_zero_or_pos (bl c) with q|q
  ·exfalso;rw [q,Nat.pow_zero] at b2;omega
  ·exact q
 have b4:2^(bl c-1)<=c:=by
  refine Nat.le_of_not_lt fun q=>?_
  have:=bl_le.2 q
  omega
 refine ⟨53-bl c,by omega,?_,?_,fun i hi=>?_⟩
 ·have:=Nat.mul_le_mul_right (2^(53-bl c)) b4
  rwa [← Nat.pow_add,show bl c-1+(53-bl c)=52 by omega] at this
 ·have:=Nat.mul_lt_mul_of_pos_right b2 (Nat.two_pow_pos (53-bl c))
  rwa [← Nat.pow_add,show bl c+(53-bl c)=53 by omega] at this
 ·have:=Nat.mul_lt_mul_of_pos_right b2 (Nat.two_pow_pos i)
  rw [← Nat.pow_add] at this
  exact Nat.lt_of_lt_of_le this (Nat.pow_le_pow_right (by decide) (by omega))
theorem zCv {TT:World->Prop}(h:CroC TT)(hD:DtxC TT)(hU:∀ W,TT W->Tab W)(m:Nat)(hm:m<=65535)(t d:Int)(s hf:Bool)(w:World)(hT:TT w) :
  CB 7 #[.int .u16 (m:Int),.int .i64 t,.int .i64 d,.bool s,.bool hf] w (.bool true):=by
 have c8:=fun W hW=>zUq h hD W hW
 have c14:=fun W=>zWb t W
 have c10:=fun W=>zHm d W
 by_cases h2:zYb t
 ·by_cases h3:knB d
  ·rw [decide_eq_true h2] at c14
   rw [decide_eq_true h3] at c10
   have f4:fN 4=52/\zNa 4=-1074/\zIb 4=971:=by decide
   have isd:∀ (X:Int) (K:Nat),K<2^53->2^52<=K->-1074<=X->X<=971->isD (fN 4) (zNa 4) (zIb 4) ⟨1,s,false,X,K⟩:=fun X K a b c e=>by
    rw [f4.1,f4.2.1,f4.2.2]
    exact Or.inl ⟨rfl,rfl,a,c,e,Or.inl b⟩
   have hb:zHh 4:=by decide
   have p53:(2:Nat)^53<=18446744073709551616:=by decide
   cases hf
   ·by_cases h0:m=0
    ·subst h0
     have hi:isD (fN 4) (zNa 4) (zIb 4) ⟨1,s,false,-1074,0⟩:=by
      rw [f4.1,f4.2.1,f4.2.2]
      exact Or.inl ⟨rfl,rfl,show (0:Nat)<2^(52+1) by decide,show (-1074:Int)<=-1074 by decide,show (-1074:Int)<=971 by decide,Or.inr rfl⟩
     obtain ⟨z1,z2⟩:=zB0 h2 h3 s false (x:=-1074) (by decide)
     obtain ⟨Bp,V,c41,c12,c21⟩:=zIp h hU h2 h3 (by decide) (by decide) hi z1 z2
     exact wh19_0 TT h.next w hT c8 t d s c14 c10 Bp V c41 c12 c21
    ·obtain ⟨J,j0,j1,j2,j3⟩:=up52 h0 (Nat.lt_of_le_of_lt hm (by decide))
     have hi:=isd (-(J:Int)) (m*2^J) j2 j1 (by omega) (by omega)
     obtain ⟨z1,z2⟩:=zZs h2 h3 hb (e:=0) (C:=m) hi (fun q=>by rw [q] at j1;exact absurd j1 (by decide)) (Nat.lt_of_le_of_lt hm (by decide)) (Or.inl rfl) (by rw [show (-(J:Int)).toNat=0 by omega,show (-(-(J:Int))).toNat=J by omega,Int.neg_zero,Int.toNat_zero];simp only [Nat.pow_zero,Nat.mul_one])
     obtain ⟨Bp,V,c41,c12,c21⟩:=zIp h hU h2 h3 (Nat.lt_of_lt_of_le j2 p53) (Nat.lt_of_le_of_lt hm (by decide)) hi z1 z2
     exact wh19_w TT h.next w hT c8 m t d s c14 c10 hm h0 J j0 j1 j2 j3 Bp V c41 c12 c21
   ·obtain ⟨J,j0,j1,j2,j3⟩:=up52 (c:=2*m+1) (by omega) (Nat.lt_of_le_of_lt (show 2*m+1<=131071 by omega) (by decide))
    have hi:=isd (-1-(J:Int)) ((2*m+1)*2^J) j2 j1 (by omega) (by omega)
    obtain ⟨z1,z2⟩:=zZs h2 h3 hb (e:=-1) (C:=10*m+5) hi (fun q=>by rw [q] at j1;exact absurd j1 (by decide)) (Nat.lt_of_le_of_lt (show 10*m+5<=655355 by omega) (by decide)) (Or.inr ⟨rfl,by omega⟩) (by
     rw [show (-1-(J:Int)).toNat=0 by omega,show (-(-1-(J:Int))).toNat=J+1 by omega,show (-(-1):Int).toNat=1 by decide,show (-1:Int).toNat=0 by decide]
     simp only [Nat.pow_zero,Nat.mul_one,Nat.pow_succ,Nat.one_mul]
     generalize 2^J=Q
     rw [show 10*m+5=5*(2*m+1) by omega]
     generalize 2*m+1=R
     rw [Nat.mul_comm 5 R,Nat.mul_assoc R Q 10,Nat.mul_assoc R 5]
     congr 1
     omega)
    obtain ⟨Bp,V,c41,c12,c21⟩:=zIp h hU h2 h3 (Nat.lt_of_lt_of_le j2 p53) (Nat.lt_of_le_of_lt (show 10*m+5<=655355 by omega) (by decide)) hi z1 z2
    have e5:((10*m+5:Nat):Int)=10*(m:Int)+5:=by omega
    rw [e5] at c21
    exact wh19_h TT h.next w hT c8 m t d s c14 c10 hm J j0 j1 j2 j3 Bp V c41 c12 c21
  ·rw [decide_eq_false h3] at c10
   exact zQ5 TT h.next w hT c8 m t d s hf _ false (Bool.and_false _) c14 c10
 ·rw [decide_eq_false h2] at c14
  exact zQ5 TT h.next w hT c8 m t d s hf false _ (Bool.false_and _) c14 c10
end
theorem zFi (m t d:Int)(s hf:Bool)(w:World)(hT:Tab w)(hT10:Tb10 w)(hm:0<=m/\m<=65535) :
  CB 7 #[.int .u16 m,.int .i64 t,.int .i64 d,.bool s,.bool hf] w (.bool true):=by
 obtain ⟨a,rfl⟩:∃ a:Nat,m=(a:Int):=⟨m.toNat,by omega⟩
 exact zCv croB dtxC (fun W h=>h.1) a (by omega) t d s hf w ⟨hT,hT10⟩
theorem zKi (m t d:Int)(Bp:Nat)(w:World)(hT:Tab w)(hT10:Tb10 w)(hB:Bp<2^256) :
  CB 5 #[.int .i64 m,.int .i64 t,.int .i64 d,A4 Bp] w (.bool true) :=
 zRv croB dtxC m t d Bp w ⟨hT,hT10⟩ hB trcB
end Go.Proofs.YtahfkpjhlbiamaaGreatDoor
