/-
  Texts that the proof leans on.
-/
import Derived.Test.YtahfkpjhlbiamaaGreatDoorL1
import Derived.Test.YtahfkpjhlbiamaaGreatDoorL41
import Derived.Test.YtahfkpjhlbiamaaGreatDoorL37
import Derived.Test.YtahfkpjhlbiamaaGreatDoorL22
import Derived.Test.YtahfkpjhlbiamaaGreatDoorL35
import Derived.Test.YtahfkpjhlbiamaaGreatDoorL29
import Derived.Test.YtahfkpjhlbiamaaGreatDoorL24
import Derived.Deep.Cut
import Derived.Deep.CutRange
import Derived.Test.YtahfkpjhlbiamaaGreatDoorL17
import Derived.Test.YtahfkpjhlbiamaaGreatDoorL36
set_option linter.unusedVariables false
set_option linter.unusedSectionVars false
set_option linter.unusedSimpArgs false
set_option maxHeartbeats 8000000
set_option maxRecDepth 20000
namespace Go.Proofs.YtahfkpjhlbiamaaGreatDoor
open Go.RowKit
section
attribute [local irreducible] W4 NT NV
section
variable (t:Int)(nm:ByteArray)(wd pr ex le mo pa:Int)(dn:Bool)(c x:Int)(s g:Bool)(k:Nat)(w:World)
 (c18:∀ W,CB 20 #[.int .i64 t] W (.tuple #[IDec t nm wd pr ex le mo pa dn,.int .i64 0]))
include c18
end
section
variable (t d:Int)(c x:Int)(s g:Bool)(k:Nat)(vn vd:Value)(y:Int)(w:World)(R:Nat)(F E:Int)
variable (c' x':Int)(s' g':Bool)(k':Nat)(c23:∀ W,CB 43 #[.int .i64 t,DV c' s' g' x' k'] W (.tuple #[A4 R,.int .i64 E]))
include c23
end
theorem co_is {t d:Int}(ht:decN t)(hd:knB d){n:Int}(hb:binN n){D:Dat}(h:isD (fN n) (leastN n) (mostN n) D):vI (fD t) (coD t d D)/\bl (D.k*2^D.x.toNat)<=25600/\bl (2^(-D.x).toNat)<=25600/\D.k<2^256/\(-16990<=D.x/\D.x<=16990):=by
 have hl:-16990<=leastN n/\mostN n<=16990/\fN n<=250:=by rcases bin_cases hb with rfl|rfl|rfl|rfl|rfl|rfl<;>decide
 have hxk:D.k<2^251/\(-16990<=D.x/\D.x<=16990):=by
  rcases h with ⟨h1,h2,h3,h4,h5,h6⟩|⟨h1,h2,h3,h4⟩|⟨h1,h2,h3,h4⟩
  ·exact ⟨Nat.lt_of_lt_of_le h3 (Nat.pow_le_pow_right (by decide) (by omega)),by omega⟩
  ·rw [h3,h4];exact ⟨Nat.two_pow_pos _,by omega⟩
  ·refine ⟨Nat.lt_of_lt_of_le h3 (Nat.pow_le_pow_right (by decide) (by omega)),by omega⟩
 obtain ⟨hk,hx⟩:=hxk
 have a:=bl_mul D.k (2^D.x.toNat)
 have b:bl D.k<=251:=bl_le.2 hk
 have c1:bl (2^D.x.toNat)<=D.x.toNat+1:=bl_le.2 (Nat.pow_lt_pow_right (by decide) (by omega))
 have c2:bl (2^(-D.x).toNat)<=(-D.x).toNat+1:=bl_le.2 (Nat.pow_lt_pow_right (by decide) (by omega))
 have hk2:D.k<2^256:=Nat.lt_of_lt_of_le hk (Nat.pow_le_pow_right (by decide) (by decide))
 refine ⟨?_,by omega,by omega,hk2,hx⟩
 unfold coD
 by_cases q2:D.c=2
 ·rw [if_pos q2]
  exact Or.inr (Or.inl ⟨rfl,rfl,rfl,rfl⟩)
 ·rw [if_neg q2]
  by_cases q3:D.c=3
  ·rw [if_pos q3]
   refine Or.inr (Or.inr ⟨rfl,rfl,?_⟩)
   show (if D.k<10^(3*(fD t).j) then D.k else 0)<10^(3*(fD t).j)
   split
   ·assumption
   ·exact ten_pos _
  ·rw [if_neg q3]
   have hE:rqE t d (D.k*2^D.x.toNat) (1*2^(-D.x).toNat)=0:=by
    unfold rqE
    rw [if_pos ⟨ht,hd,by rw [Nat.one_mul];exact Nat.pos_iff_ne_zero.1 (Nat.two_pow_pos _)⟩,Nat.one_mul,if_neg (by omega)]
   obtain ⟨m0,m1,l0,l1,lm,j0,j1⟩:=ok_m (fD_ok t)
   unfold rqD
   rw [if_pos hE]
   by_cases h0:D.k*2^D.x.toNat=0
   ·rw [if_pos h0]
    exact Or.inl ⟨rfl,rfl,ten_pos _,by show (fD t).l<=min (max 0 (fD t).l) (fD t).m;omega,by show min (max 0 (fD t).l) (fD t).m<=(fD t).m;omega⟩
   ·rw [if_neg h0]
    have hp:0<1*2^(-D.x).toNat*10^(-(clT 0)).toNat:=Nat.mul_pos (by rw [Nat.one_mul];exact Nat.two_pow_pos _) (ten_pos _)
    exact dkD_is (fD_ok t) hp (tnX_is (Nat.mul_pos (by omega) (ten_pos _)) hp)
def xoG (m t d:Int)(B:Nat):Prop:=goodN m B/\decN t/\knB d
instance (m t d:Int) (B:Nat):Decidable (xoG m t d B):=inferInstanceAs (Decidable (_/\_))
noncomputable def xoV (m t d:Int)(B:Nat):Nat:=if xoG m t d B then vP (fD t) (coD t d (unD m B)) else 0
noncomputable def xoF (m t d:Int)(B:Nat):Int:=if xoG m t d B then coF t d (unD m B) else 0
def xoE (m t d:Int)(B:Nat):Int:=if xoG m t d B then 0 else 1
end
section
attribute [local irreducible] W4 NT NV
section
variable (m t d:Int)(Bp:Nat)(w:World)
end
theorem xo_not {m t d:Int}{Bp:Nat}(h:¬ xoG m t d Bp):(decide (goodN m Bp)&&decide (decN t)&&decide (knB d))=false:=by
 by_cases a1:goodN m Bp
 ·by_cases a2:decN t
  ·have a3:¬ knB d:=fun a3=>h ⟨a1,a2,a3⟩
   rw [decide_eq_false (p:=knB d) a3,Bool.and_false]
  ·rw [decide_eq_false (p:=decN t) a2,Bool.and_false,Bool.false_and]
 ·rw [decide_eq_false (p:=goodN m Bp) a1,Bool.false_and,Bool.false_and]
structure CroC (TT:World->Prop):Prop where
 next:∀ w w',TT w->Below w.heap.size w w'->TT w'
 cv:∀ m t d Bp W,Bp<2^256->TT W->CB 10 #[.int .i64 m,.int .i64 t,.int .i64 d,A4 Bp] W (.tuple #[A4 (xoV m t d Bp),.int .i64 (xoF m t d Bp),.int .i64 (xoE m t d Bp)])
end
theorem hund_E:tnX (13107200*10^(clT 0).toNat) (131072*10^(-(clT 0)).toNat)=2:=by
 have h:=tnX_is (N:=13107200*10^(clT 0).toNat) (D:=131072*10^(-(clT 0)).toNat) (by decide) (by decide)
 exact h.only ⟨by unfold tnG;decide,by unfold tnG;decide⟩
theorem hund_D:coD 10 0 (unD 3 1120403456)=⟨1,false,false,0,100⟩/\coF 10 0 (unD 3 1120403456)=0:=by
 have hu:unD 3 1120403456=⟨1,false,false,-17,13107200⟩:=by kernel_rfl
 rw [hu]
 have e0:rqE 10 0 13107200 131072=0:=by
  have a:bl 13107200=24:=bl_eq (by decide) (by decide)
  have b:bl 131072=18:=bl_eq (by decide) (by decide)
  unfold rqE
  rw [if_pos ⟨by decide,by decide,by decide⟩,a,b]
  decide
 constructor
 ·show rqD 10 0 false (13107200*2^(-17:Int).toNat) (1*2^(-(-17):Int).toNat) 0 0=_
  rw [show 13107200*2^(-17:Int).toNat=13107200 by decide,show 1*2^(-(-17):Int).toNat=131072 by decide]
  unfold rqD
  rw [if_pos e0,if_neg (by decide),hund_E]
  kernel_rfl
 ·show rqF 10 0 false (13107200*2^(-17:Int).toNat) (1*2^(-(-17):Int).toNat) 0=_
  rw [show 13107200*2^(-17:Int).toNat=13107200 by decide,show 1*2^(-(-17):Int).toNat=131072 by decide]
  unfold rqF
  rw [if_pos e0,if_neg (by decide),hund_E]
  kernel_rfl
theorem awk19_T:xoV 3 10 0 1120403456=575668352/\xoF 3 10 0 1120403456=0/\xoE 3 10 0 1120403456=0/\B (dwT 10 575668352)=⟨#[49,46,48,48,101,50]⟩/\vUE 10 575668352=0:=by
 have hg:xoG 3 10 0 1120403456:=⟨by decide,by decide,by decide⟩
 unfold xoV xoF xoE
 rw [if_pos hg,if_pos hg,if_pos hg,hund_D.1,hund_D.2]
 exact ⟨by kernel_rfl,rfl,rfl,by kernel_rfl,by kernel_rfl⟩
section
theorem awk19_W:(W4 1120403456 0=1120403456/\W4 1120403456 1=0/\W4 1120403456 2=0/\W4 1120403456 3=0)/\(W4 575668352 0=575668352/\W4 575668352 1=0/\W4 575668352 2=0/\W4 575668352 3=0):=⟨⟨by decide,by decide,by decide,by decide⟩,⟨by decide,by decide,by decide,by decide⟩⟩
attribute [local irreducible] W4
theorem awake19 {TT:World->Prop}(h:CroC TT)(hD:DtxC TT)(w:World)(hT:TT w):CB 9 #[] w (.bool true):=by
 have c9:=fun W hW=>h.cv 3 10 0 1120403456 W (by decide) hW
 have c10:=fun W hW=>hD.wr 10 575668352 W (by decide) hW
 obtain ⟨e1,e2,e4,e5,e6⟩:=awk19_T
 obtain ⟨⟨w0,w1,w2,w3⟩,u0,u1,u2,u3⟩:=awk19_W
 rw [e1,e2,e4] at c9
 rw [e5,e6] at c10
 unfold A4 at c9 c10
 rw [w0,w1,w2,w3,u0,u1,u2,u3] at c9
 rw [u0,u1,u2,u3] at c10
 clear w0 w1 w2 w3 u0 u1 u2 u3 e1 e2 e4 e5 e6
 have hsm:=cell_set_map
 go_enter Tryz.func9,Tryz.ntmps9
 go_wp2_with (first
  | (go_at_call 10;refine (c9 _ (h.next _ _ hT bgo)).mono ?_;rintro r w1 ⟨rfl,hb1⟩;obtain ⟨_,_,hA1,_⟩:=wf w hb1;clear hb1)
  | (go_at_call 22;refine (c10 _ (h.next _ _ hT bgo)).mono ?_;rintro r w2 ⟨rfl,hb2⟩;obtain ⟨_,_,_,_,hA2,_⟩:=wz w hb2 w1.heap.size;clear hb2))
 go_ret
 exact ⟨by first|rfl|simp,bgo⟩
section
variable (TT:World->Prop)(hTT:∀ w w',TT w->Below w.heap.size w w'->TT w')(w:World)(hT:TT w)
 (c8:∀ W,TT W->CB 9 #[] W (.bool true))
variable (m t d:Int)(Bp:Nat)
include hTT hT c8
theorem fx19_n (b1 b2 b3:Bool)(hn:(b1&&b2&&b3)=false)
  (c15:∀ W,CB 12 #[.int .i64 m,A4 Bp] W (.bool b1))
  (c14:∀ W,CQ 15 #[.int .i64 t] W (.bool b2))
  (c10:∀ W,CQ 16 #[.int .i64 d] W (.bool b3)) :
  CB 6 #[.int .i64 m,.int .i64 t,.int .i64 d,A4 Bp] w (.bool true):=by
 have hsm:=cell_set_map
 unfold A4 at *
 cases b1<;>cases b2<;>cases b3<;>simp only [Bool.and_self,Bool.and_true,Bool.and_false,Bool.true_and,Bool.false_and,Bool.true_eq_false] at hn
 all_goals (
  clear hn
  go_enter Tryz.func6,Tryz.ntmps6
  go_wp2_with (first
   | (have:=hA2;go_at_call 9;refine (c8 _ (hTT _ _ hT bgo)).mono ?_;rintro r w4 ⟨rfl,hb4⟩;obtain ⟨_,_,_,_,hA4,_⟩:=wz w hb4;clear hb4)
   | (go_at_call 9;refine (c8 _ (hTT _ _ hT bgo)).mono ?_;rintro r w1 ⟨rfl,hb1⟩;obtain ⟨_,_,_,_,hA1,_⟩:=wz w hb1;clear hb1)
   | (go_at_call 12;refine (c15 _).mono ?_;rintro r w2 ⟨rfl,hb2⟩;obtain ⟨_,_,_,_,hA2,_⟩:=wz w hb2;clear hb2)
   | (go_at_call 15;refine (c14 _).mono ?_;rintro r w3 ⟨rfl,rfl⟩)
   | (go_at_call 16;refine (c10 _).mono ?_;rintro r w3 ⟨rfl,rfl⟩))
  go_ret
  exact ⟨by first|rfl|simp,bgo⟩)
theorem db19_n (p b1:Bool)(hn:b1=false∨(b1=true/\4<m))
  (c15:∀ W,CB 12 #[.int .i64 m,A4 Bp] W (.bool b1)) :
  CB 4 #[.int .i64 m,A4 Bp,.bool p] w (.bool true):=by
 have hsm:=cell_set_map
 unfold A4 at *
 rcases hn with rfl|⟨rfl,h4⟩
 all_goals (
  go_enter Tryz.func4,Tryz.ntmps4
  go_wp2_with (first
   | (have:=hA2;go_at_call 9;refine (c8 _ (hTT _ _ hT bgo)).mono ?_;rintro r w4 ⟨rfl,hb4⟩;obtain ⟨_,_,_,_,hA4,_⟩:=wz w hb4;clear hb4)
   | (go_at_call 9;refine (c8 _ (hTT _ _ hT bgo)).mono ?_;rintro r w1 ⟨rfl,hb1⟩;obtain ⟨_,_,_,_,hA1,_⟩:=wz w hb1;clear hb1)
   | (go_at_call 12;refine (c15 _).mono ?_;rintro r w2 ⟨rfl,hb2⟩;obtain ⟨_,_,_,_,hA2,_⟩:=wz w hb2;clear hb2))
  go_ret
  exact ⟨by first|rfl|simp,bgo⟩)
theorem db19_3 (p:Bool)(h4:¬ (4<m))(c x:Int)(s g:Bool)(k:Nat)(hc:c=3)
  (c15:∀ W,CB 12 #[.int .i64 m,A4 Bp] W (.bool true))
  (c40:∀ W,TT W->CB 13 #[.int .i64 m,A4 Bp] W (.tuple #[DV c s g x k,.int .i64 0])) :
  CB 4 #[.int .i64 m,A4 Bp,.bool p] w (.bool true):=by
 subst hc
 have hsm:=cell_set_map
 unfold DV A4 at *
 go_enter Tryz.func4,Tryz.ntmps4
 go_wp2_with (first
  | (go_at_call 9;refine (c8 _ (hTT _ _ hT bgo)).mono ?_;rintro r w1 ⟨rfl,hb1⟩;obtain ⟨_,_,_,_,hA1,_⟩:=wz w hb1;clear hb1)
  | (go_at_call 12;refine (c15 _).mono ?_;rintro r w2 ⟨rfl,hb2⟩;obtain ⟨_,_,_,_,hA2,_⟩:=wz w hb2;clear hb2)
  | (go_at_call 13;refine (c40 _ (hTT _ _ hT bgo)).mono ?_;rintro r w3 ⟨rfl,hb3⟩;obtain ⟨_,_,_,_,hA3,_⟩:=wz w hb3;clear hb3))
 go_ret
 exact ⟨by first|rfl|simp,bgo⟩
theorem db19_y (p:Bool)(h4:¬ (4<m))(c x:Int)(s g:Bool)(k C:Nat)(F G:Int)(hc:(c==3)=false)
  (c15:∀ W,CB 12 #[.int .i64 m,A4 Bp] W (.bool true))
  (c40:∀ W,TT W->CB 13 #[.int .i64 m,A4 Bp] W (.tuple #[DV c s g x k,.int .i64 0]))
  (c9:∀ W,TT W->CB 10 #[.int .i64 m,.int .i64 (if p then 9 else 12),.int .i64 0,A4 Bp] W (.tuple #[A4 C,.int .i64 F,.int .i64 0]))
  (c12:∀ W,TT W->CB 14 #[.int .i64 (if p then 9 else 12),.int .i64 m,.int .i64 0,A4 C] W (.tuple #[A4 Bp,.int .i64 G,.int .i64 0])) :
  CB 4 #[.int .i64 m,A4 Bp,.bool p] w (.bool true):=by
 have hsm:=cell_set_map
 have e1:=eq24 (W4 Bp 0) (W4 Bp 1) (W4 Bp 2) (W4 Bp 3) (W4 Bp 0) (W4 Bp 1) (W4 Bp 2) (W4 Bp 3)
 rw [decide_eq_true ⟨rfl,rfl,rfl,rfl⟩] at e1
 unfold DV A4 at *
 cases p
 ·have c9':∀ W,TT W->Calls Tryz.prog 10 #[.int .i64 m,.int .i64 12,.int .i64 0,.agg #[.int .u64 (W4 Bp 0),.int .u64 (W4 Bp 1),.int .u64 (W4 Bp 2),.int .u64 (W4 Bp 3)]] W _:=c9
  have c12':∀ W,TT W->Calls Tryz.prog 14 #[.int .i64 12,.int .i64 m,.int .i64 0,.agg #[.int .u64 (W4 C 0),.int .u64 (W4 C 1),.int .u64 (W4 C 2),.int .u64 (W4 C 3)]] W _:=c12
  clear c9 c12
  go_enter Tryz.func4,Tryz.ntmps4
  go_wp2_with (first
   | (go_at_call 9;refine (c8 _ (hTT _ _ hT bgo)).mono ?_;rintro r w1 ⟨rfl,hb1⟩;obtain ⟨_,_,_,_,hA1,_⟩:=wz w hb1;clear hb1)
   | (go_at_call 12;refine (c15 _).mono ?_;rintro r w2 ⟨rfl,hb2⟩;obtain ⟨_,_,_,_,hA2,_⟩:=wz w hb2;clear hb2)
   | (go_at_call 13;refine (c40 _ (hTT _ _ hT bgo)).mono ?_;rintro r w3 ⟨rfl,hb3⟩;obtain ⟨_,_,_,_,hA3,_⟩:=wz w hb3;clear hb3)
   | (go_at_call 10;refine (c9' _ (hTT _ _ hT bgo)).mono ?_;rintro r w4 ⟨rfl,hb4⟩;obtain ⟨_,_,_,_,hA4,_⟩:=wz w hb4;obtain ⟨_,_⟩:=zf hb4 w3.heap.size;clear hb4)
   | (go_at_call 14;refine (c12' _ (hTT _ _ hT bgo)).mono ?_;rintro r w5 ⟨rfl,hb5⟩;obtain ⟨_,_,_,_,hA5,_⟩:=wz w hb5;obtain ⟨_,_⟩:=zf hb5 w3.heap.size;obtain ⟨_,_⟩:=zf hb5 w4.heap.size;clear hb5))
  go_ret
  exact ⟨by first|rfl|simp,bgo⟩
 ·have c9':∀ W,TT W->Calls Tryz.prog 10 #[.int .i64 m,.int .i64 9,.int .i64 0,.agg #[.int .u64 (W4 Bp 0),.int .u64 (W4 Bp 1),.int .u64 (W4 Bp 2),.int .u64 (W4 Bp 3)]] W _:=c9
  have c12':∀ W,TT W->Calls Tryz.prog 14 #[.int .i64 9,.int .i64 m,.int .i64 0,.agg #[.int .u64 (W4 C 0),.int .u64 (W4 C 1),.int .u64 (W4 C 2),.int .u64 (W4 C 3)]] W _:=c12
  clear c9 c12
  go_enter Tryz.func4,Tryz.ntmps4
  go_wp2_with (first
   | (go_at_call 9;refine (c8 _ (hTT _ _ hT bgo)).mono ?_;rintro r w1 ⟨rfl,hb1⟩;obtain ⟨_,_,_,_,hA1,_⟩:=wz w hb1;clear hb1)
   | (go_at_call 12;refine (c15 _).mono ?_;rintro r w2 ⟨rfl,hb2⟩;obtain ⟨_,_,_,_,hA2,_⟩:=wz w hb2;clear hb2)
   | (go_at_call 13;refine (c40 _ (hTT _ _ hT bgo)).mono ?_;rintro r w3 ⟨rfl,hb3⟩;obtain ⟨_,_,_,_,hA3,_⟩:=wz w hb3;clear hb3)
   | (go_at_call 10;refine (c9' _ (hTT _ _ hT bgo)).mono ?_;rintro r w4 ⟨rfl,hb4⟩;obtain ⟨_,_,_,_,hA4,_⟩:=wz w hb4;obtain ⟨_,_⟩:=zf hb4 w3.heap.size;clear hb4)
   | (go_at_call 14;refine (c12' _ (hTT _ _ hT bgo)).mono ?_;rintro r w5 ⟨rfl,hb5⟩;obtain ⟨_,_,_,_,hA5,_⟩:=wz w hb5;obtain ⟨_,_⟩:=zf hb5 w3.heap.size;obtain ⟨_,_⟩:=zf hb5 w4.heap.size;clear hb5))
  go_ret
  exact ⟨by first|rfl|simp,bgo⟩
variable (c15:∀ W,CB 12 #[.int .i64 m,A4 Bp] W (.bool true))
 (c14:∀ W,CQ 15 #[.int .i64 t] W (.bool true))
 (c10:∀ W,CQ 16 #[.int .i64 d] W (.bool true))
include c15 c14 c10
end
theorem xo_got {m t d:Int}{Bp:Nat}(hg:xoG m t d Bp):vI (fD t) (coD t d (unD m Bp))/\xoV m t d Bp=vP (fD t) (coD t d (unD m Bp))/\goodD t (xoV m t d Bp)/\xoV m t d Bp<2^256/\vM (fD t) (xoV m t d Bp)=coD t d (unD m Bp):=by
 have hi:=(co_is hg.2.1 hg.2.2 hg.1.1 (und_is hg.1)).1
 have e:xoV m t d Bp=vP (fD t) (coD t d (unD m Bp)):=if_pos hg
 rw [e]
 exact ⟨hi,rfl,⟨hg.2.1,vP_lt (fD_ok t) hi⟩,vP_256 (fD_ok t) hi,vM_vP (fD_ok t) hi⟩
section
variable {TT:World->Prop}(h:CroC TT)(hD:DtxC TT)(m t d:Int)(Bp:Nat)(w:World)(hT:TT w)(hB:Bp<2^256)
include h hD hT hB
end
end
theorem ok_lm {f:DF}(h:f.ok):f.l<=-100/\90<=f.m:=by
 unfold DF.m
 rcases h with ⟨h1,h2,h3,h4⟩|⟨h1,h2,h3,h4⟩|⟨h1,h2,h3,h4⟩<;>rw [h2,h4]<;>decide
theorem co_fin {t d:Int}(ht:decN t)(hd:knB d){n:Int}(hb:binN n){s g:Bool}{x:Int}{k:Nat}(h:isD (fN n) (leastN n) (mostN n) ⟨1,s,g,x,k⟩)(hk:k≠0) :
  coD t d ⟨1,s,g,x,k⟩=dkD (fD t) d s (k*2^x.toNat) (2^(-x).toNat) (tnX (k*2^x.toNat) (2^(-x).toNat)) 0 /\
  coF t d ⟨1,s,g,x,k⟩=dkF (fD t) d s (k*2^x.toNat) (2^(-x).toNat) (tnX (k*2^x.toNat) (2^(-x).toNat)) /\
  TnE (k*2^x.toNat) (2^(-x).toNat) (tnX (k*2^x.toNat) (2^(-x).toNat)):=by
 obtain ⟨_,b1,b2,_,_⟩:=co_is ht hd hb h
 have hN:0<k*2^x.toNat:=Nat.mul_pos (Nat.pos_of_ne_zero hk) (Nat.two_pow_pos _)
 have hD:0<2^(-x).toNat:=Nat.two_pow_pos _
 have hE:rqE t d (k*2^x.toNat) (2^(-x).toNat)=0:=by
  unfold rqE
  dsimp only at b1 b2
  rw [if_pos ⟨ht,hd,Nat.pos_iff_ne_zero.1 hD⟩,if_neg (by omega)]
 have c1:¬ (1:Int)=2:=by decide
 have c2:¬ (1:Int)=3:=by decide
 refine ⟨?_,?_,tnX_is hN hD⟩
 ·unfold coD rqD
  dsimp only
  rw [if_neg c1,if_neg c2,Nat.one_mul,if_pos hE,if_neg (by omega),rq_clT]
  simp only [Int.neg_zero,Int.toNat_zero,Nat.pow_zero,Nat.mul_one]
 ·unfold coF rqF
  dsimp only
  rw [if_neg c1,if_neg c2,Nat.one_mul,if_pos hE,if_neg (by omega),rq_clT]
  simp only [Int.neg_zero,Int.toNat_zero,Nat.pow_zero,Nat.mul_one]
theorem co_nought {t d:Int}(ht:decN t)(hd:knB d)(s g:Bool){x:Int}(hx:-16990<=x/\x<=16990):coD t d ⟨1,s,g,x,0⟩=⟨1,s,false,0,0⟩/\coF t d ⟨1,s,g,x,0⟩=0:=by
 have c1:¬ (1:Int)=2:=by decide
 have c2:¬ (1:Int)=3:=by decide
 have hD:0<2^(-x).toNat:=Nat.two_pow_pos _
 have b2:bl (2^(-x).toNat)<=(-x).toNat+1:=bl_le.2 (Nat.pow_lt_pow_right (by decide) (by omega))
 have b1:bl 0<=1:=bl_le.2 (by decide)
 have hE:rqE t d 0 (2^(-x).toNat)=0:=by
  unfold rqE
  rw [if_pos ⟨ht,hd,Nat.pos_iff_ne_zero.1 hD⟩,if_neg (by omega)]
 obtain ⟨m0,m1,l0,l1,lm,j0,j1⟩:=ok_m (fD_ok t)
 obtain ⟨q1,q2⟩:=ok_lm (fD_ok t)
 have hmm:min (max 0 (fD t).l) (fD t).m=0:=by omega
 constructor
 ·unfold coD rqD
  dsimp only
  rw [if_neg c1,if_neg c2,Nat.one_mul,Nat.zero_mul,if_pos hE,if_pos rfl,hmm]
 ·unfold coF rqF
  dsimp only
  rw [if_neg c1,if_neg c2,Nat.one_mul,Nat.zero_mul,if_pos hE,if_pos rfl]
theorem tnX_cu {k:Nat}(hk:k≠0)(x:Int):tnX (k*2^x.toNat) (2^(-x).toNat)=cuE k x:=by
 have hN:0<k*2^x.toNat:=Nat.mul_pos (Nat.pos_of_ne_zero hk) (Nat.two_pow_pos _)
 obtain ⟨h1,h2⟩:=cu_top hk x
 rw [fx_tn] at h1 h2
 exact (tnX_is hN (Nat.two_pow_pos _)).only ⟨h1,h2⟩
theorem co_fixed {t d:Int}(ht:decN t)(hd:knB d){n:Int}(hb:binN n){D:Dat}(h:isD (fN n) (leastN n) (mostN n) D)(hF:coF t d D=8) :
  D.c=1/\D.k≠0/\fxI D.k D.x (cuE D.k D.x) (3*(fD t).j+1)=true/\xtT (coD t d D)=fxT d D.s D.k D.x (cuE D.k D.x) (3*(fD t).j+1):=by
 have hi:=(co_is ht hd hb h).1
 have hk256:=vI_k (fD_ok t) hi
 have hx:=(co_is ht hd hb h).2.2.2.2
 obtain ⟨c,s,g,x,k⟩:=D
 have hc:c=1:=by
  rcases h with ⟨h1,_⟩|⟨h1,_⟩|⟨h1,_⟩
  ·exact h1
  ·exfalso
   unfold coF at hF
   rw [if_pos h1] at hF
   omega
  ·exfalso
   unfold coF at hF
   rw [if_neg (by rw [h1];decide),if_pos h1] at hF
   split at hF<;>omega
 subst hc
 have hk:k≠0:=by
  rintro rfl
  rw [(co_nought ht hd s g hx).2] at hF
  omega
 obtain ⟨e1,e2,e3⟩:=co_fin ht hd hb h hk
 rw [tnX_cu hk x] at e1 e2 e3
 rw [e2] at hF
 rw [e1] at hk256
 rw [e1]
 dsimp only
 have t0:=cu_top hk x
 generalize cuE k x=E at *
 generalize fD t=f at *
 have hp:((3*f.j+1:Nat):Int)=3*f.j+1:=by omega
 obtain ⟨f1,f2⟩:=fx_digits d s t0.1 t0.2 (n:=3*f.j+1) (by omega) (a:=E-(3*f.j+1:Nat)+1) rfl
 obtain ⟨x1,x2,x3⟩:=fx_text (n:=3*f.j+1) (by omega) f1 f2 (E-(3*f.j+1:Nat)+1)
 unfold dkF at hF
 by_cases hm:f.m<dkE f d s (k*2^x.toNat) (2^(-x).toNat) E
 ·rw [if_pos hm] at hF
  omega
 ·rw [if_neg hm] at hF
  cases hX:dkX f (k*2^x.toNat) (2^(-x).toNat) E
  ·rw [hX,if_neg (by decide)] at hF
   by_cases hl:E<f.l+3*f.j
   ·rw [if_pos hl] at hF
    omega
   ·have hq:dkQ f E=E-(3*f.j+1:Nat)+1:=by unfold dkQ;omega
    have hC:dkC0 f d s (k*2^x.toNat) (2^(-x).toNat) E=fxC d s k x E (3*f.j+1):=by
     unfold dkC0 fxC
     rw [hq]
     rfl
    refine ⟨rfl,hk,?_,?_⟩
    ·unfold fxI
     unfold dkX at hX
     rw [hq] at hX
     have hX':decide (fxA k x (E-(3*f.j+1:Nat)+1)%fxB x (E-(3*f.j+1:Nat)+1)=0)=false:=hX
     rw [hX']
     rfl
    ·have eD:dkD f d s (k*2^x.toNat) (2^(-x).toNat) E 0=⟨1,s,false,dkE f d s (k*2^x.toNat) (2^(-x).toNat) E,dkC f d s (k*2^x.toNat) (2^(-x).toNat) E⟩:=by
      unfold dkD
      rw [if_neg hm,hX,if_neg (by decide)]
     rw [eD] at hk256 ⊢
     dsimp only at hk256
     obtain ⟨g1,g2,g3⟩:=dcL_facts hk256
     unfold xtT fxT
     dsimp only
     rw [if_pos rfl]
     have hpos:0<(10:Nat)^(3*f.j):=ten_pos _
     have hC':whC d s (fxA k x (E-(3*f.j+1:Nat)+1)) (fxB x (E-(3*f.j+1:Nat)+1))=fxC d s k x E (3*f.j+1):=rfl
     rw [hC'] at x1 x2 x3 f1 f2
     generalize fxC d s k x E (3*f.j+1)=C at *
     rw [show 3*f.j+1-1=3*f.j by omega] at f1 x3
     rcases x3 with ⟨y1,y2,y3⟩|⟨y1,y2,y3⟩
     ·have eC:dkC f d s (k*2^x.toNat) (2^(-x).toNat) E=C:=by unfold dkC;rw [hC,if_neg (by omega)]
      have eE:dkE f d s (k*2^x.toNat) (2^(-x).toNat) E=dkQ f E:=by unfold dkE;rw [hC,if_neg (by omega)]
      rw [eC] at g1 g2 ⊢
      have eW:wtD C=fxD (3*f.j+1) C:=by
       unfold wtD
       rw [if_neg (by omega)]
       exact gd_uniq g1 x1 (by rw [g2,y2])
      rw [eE,eW,x2,y3,hq]
     ·have eC:dkC f d s (k*2^x.toNat) (2^(-x).toNat) E=10^(3*f.j):=by unfold dkC;rw [hC,if_pos (by omega)]
      have eE:dkE f d s (k*2^x.toNat) (2^(-x).toNat) E=dkQ f E+1:=by unfold dkE;rw [hC,if_pos (by omega)]
      rw [eC] at g1 g2 ⊢
      have eW:wtD (10^(3*f.j))=fxD (3*f.j+1) C:=by
       unfold wtD
       rw [if_neg (by omega)]
       exact gd_uniq g1 x1 (by rw [g2,y2])
      rw [eE,eW,x2,y3,hq]
  ·rw [hX,if_pos rfl] at hF
   omega
theorem co_dbl {n t:Int}(hb:binN n)(h4:n<=4)(ht:decN t)(hj:(fD t).j=11/\(fD t).l=-6176/\(fD t).w=12){D:Dat}(h:isD (fN n) (leastN n) (mostN n) D)(hc:D.c≠3):ciV n 0 (coD t 0 D)=pkV n D:=by
 have hx:=(co_is ht (d:=0) (by decide) hb h).2.2.2.2
 obtain ⟨c,s,g,x,k⟩:=D
 rcases id h with ⟨h1,h2,h3,h5,h6,h7⟩|⟨h1,h2,h3,h5⟩|⟨h1,_⟩
 ·dsimp only at h1 h2 h3 h5 h6 h7
  subst h1 h2
  by_cases hk:k=0
  ·subst hk
   rw [(co_nought ht (by decide) s false hx).1]
   have hl:x=leastN n:=by
    rcases h7 with q|q
    ·have:=Nat.two_pow_pos (fN n);omega
    ·exact q
   subst hl
   have e0:tN 0 0=0:=by decide
   show rdV n 0 s (tN 0 0) (tD 0) 0=_
   unfold rdV
   rw [if_pos e0]
  ·exact co_back hb h4 ht hj hk h
 ·dsimp only at h1 h2 h3 h5
  subst h1 h2 h3 h5
  rfl
 ·exact absurd h1 hc
end Go.Proofs.YtahfkpjhlbiamaaGreatDoor
