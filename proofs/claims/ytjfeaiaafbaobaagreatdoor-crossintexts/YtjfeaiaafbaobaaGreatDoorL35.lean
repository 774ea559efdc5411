/-
  Texts that the proof leans on.
-/
import Derived.Test.YtjfeaiaafbaobaaGreatDoorL25
import Derived.Test.YtjfeaiaafbaobaaGreatDoorL27
import Derived.Test.YtjfeaiaafbaobaaGreatDoorL32
import Derived.Test.YtjfeaiaafbaobaaGreatDoorL31
import Derived.Test.YtjfeaiaafbaobaaGreatDoorL13
import Derived.Test.YtjfeaiaafbaobaaGreatDoorL29
import Derived.Test.YtjfeaiaafbaobaaGreatDoorL20
import Derived.Test.YtjfeaiaafbaobaaGreatDoorL23
import Derived.Test.YtjfeaiaafbaobaaGreatDoorL6
import Derived.Test.YtjfeaiaafbaobaaGreatDoorL21
import Derived.Test.YtjfeaiaafbaobaaGreatDoorL9
import Derived.Test.YtjfeaiaafbaobaaGreatDoorL10
import Derived.Test.YtjfeaiaafbaobaaGreatDoorL17
import Derived.Test.YtjfeaiaafbaobaaGreatDoorL1
import Derived.Deep.Cut
import Derived.Deep.CutRange
import Derived.Test.YtjfeaiaafbaobaaGreatDoorL3
import Derived.Test.YtjfeaiaafbaobaaGreatDoorL12
set_option linter.unusedVariables false
set_option linter.unusedSectionVars false
set_option linter.unusedSimpArgs false
set_option maxHeartbeats 8000000
set_option maxRecDepth 20000
namespace Go.Proofs.YtjfeaiaafbaobaaGreatDoor
open Go.RowKit
theorem tnE_find {N D:Nat}(lo:Int)(h:tnG N D lo):∀ k:Nat,¬ tnG N D (lo+k)->∃ E,TnE N D E
 | 0,h'=>absurd (by simpa using h) h'
 | k+1,h'=>by
  by_cases hk:tnG N D (lo+k)
  ·exact ⟨lo+k,hk,by rw [show lo+(k:Int)+1=lo+((k+1:Nat):Int) by omega];exact h'⟩
  ·exact tnE_find lo h k hk
theorem tnE_ex {N D:Nat}(hN:0<N)(hD:0<D):∃ E,TnE N D E:=by
 refine tnE_find (-(D:Int)) ?_ (N+D) ?_
 ·unfold tnG
  rw [show (-(D:Int)).toNat=0 by omega,Int.neg_neg,Int.toNat_natCast,Nat.pow_zero,Nat.mul_one]
  have h1:D<10^D:=Nat.lt_pow_self (by decide)
  exact Nat.le_trans (Nat.le_of_lt h1) (Nat.le_mul_of_pos_left _ hN)
 ·rw [show -(D:Int)+((N+D:Nat):Int)=(N:Int) by omega]
  unfold tnG
  rw [show (-(N:Int)).toNat=0 by omega,Int.toNat_natCast,Nat.pow_zero,Nat.mul_one]
  have h1:N<10^N:=Nat.lt_pow_self (by decide)
  have h2:10^N<=D*10^N:=Nat.le_mul_of_pos_left _ hD
  omega
def clT (x:Int):Int:=min (max x (-20000)) 20000
theorem ok_m {f:DF}(h:f.ok):-10000<=f.m/\f.m<=10000/\-10000<=f.l/\f.l<=10000/\f.l<=f.m/\2<=f.j/\f.j<=11:=by
 unfold DF.m
 rcases h with ⟨h1,h2,h3,h4⟩|⟨h1,h2,h3,h4⟩|⟨h1,h2,h3,h4⟩<;>rw [h2,h3,h4]<;>decide
noncomputable def tnX (N D:Nat):Int:=open Classical in if h:∃ E,TnE N D E then Classical.choose h else 0
theorem tnX_is {N D:Nat}(hN:0<N)(hD:0<D):TnE N D (tnX N D):=by
 have h:=tnE_ex hN hD
 unfold tnX
 rw [dif_pos h]
 exact Classical.choose_spec h
def rqE (n d:Int)(N D:Nat):Int:=if decN n/\knB d/\D≠0 then (if 25600<bl N∨25600<bl D then 4 else 0) else 1
noncomputable def rqD (n d:Int)(s:Bool)(N D:Nat)(x y:Int):Dat :=
 if rqE n d N D=0 then (if N=0 then ⟨1,s,false,min (max y (fD n).l) (fD n).m,0⟩ else dkD (fD n) d s (N*10^(clT x).toNat) (D*10^(-(clT x)).toNat) (tnX (N*10^(clT x).toNat) (D*10^(-(clT x)).toNat)) y) else ⟨0,false,false,0,0⟩
noncomputable def rqF (n d:Int)(s:Bool)(N D:Nat)(x:Int):Int :=
 if rqE n d N D=0 then (if N=0 then 0 else dkF (fD n) d s (N*10^(clT x).toNat) (D*10^(-(clT x)).toNat) (tnX (N*10^(clT x).toNat) (D*10^(-(clT x)).toNat))) else 0
section
theorem tn_ex {k:Nat}{x:Int}:∀ (d:Nat) (g0:Int),tnP k x g0->¬ tnP k x (g0+d)->∃ E,g0<=E/\E<g0+d/\tnP k x E/\¬ tnP k x (E+1)
 | 0,g0,h0,h1=>absurd h0 (by simpa using h1)
 | d+1,g0,h0,h1=>by
  by_cases h:tnP k x (g0+1)
  ·obtain ⟨E,e1,e2,e3,e4⟩:=tn_ex d (g0+1) h (by rw [show g0+1+(d:Int)=g0+((d+1:Nat):Int) by omega];exact h1)
   exact ⟨E,by omega,by omega,e3,e4⟩
  ·exact ⟨g0,Int.le_refl _,by omega,h0,h⟩
theorem tn_top {k:Nat}{x:Int}(hk:k<2^256)(hx:x<=17000):¬ tnP k x 6000:=by
 unfold tnP zE oE
 rw [show ((-6000:Int)).toNat=0 by decide,Nat.pow_zero,Nat.mul_one,show ((6000:Int)).toNat=6000 by decide]
 have h1:(2:Nat)^18000<=10^6000:=by decide +kernel
 obtain ⟨m',hm'⟩:∃ m':Nat,m'=18000:=⟨_,rfl⟩
 rw [← hm'] at h1
 generalize (10:Nat)^6000=T at *
 obtain ⟨m,hm⟩:∃ m:Nat,m=17000:=⟨_,rfl⟩
 have h2:k*2^x.toNat<2^256*2^m:=by
  have a1:k*2^x.toNat<2^256*2^x.toNat:=Nat.mul_lt_mul_of_pos_right hk (Nat.two_pow_pos _)
  have a2:2^256*2^x.toNat<=2^256*2^m:=Nat.mul_le_mul_left _ (Nat.pow_le_pow_right (by decide) (by omega))
  exact Nat.lt_of_lt_of_le a1 a2
 rw [← Nat.pow_add] at h2
 have h3:(2:Nat)^(256+m)<=2^m':=Nat.pow_le_pow_right (by decide) (by omega)
 have h4:1*T<=2^(-x).toNat*T:=Nat.mul_le_mul_right _ (Nat.two_pow_pos _)
 generalize (2:Nat)^(256+m)=Y at *
 generalize (2:Nat)^m'=Y' at *
 rw [Nat.mul_assoc 4,Nat.mul_assoc 4]
 generalize 2^(-x).toNat*T=Z1 at *
 generalize k*2^x.toNat=Z2 at *
 omega
attribute [local irreducible] W4 Nz Nt NT
end
section
theorem NT.grown {K V Bs:Nat}{v tv:Value}{l:List UInt8}{w w':World}(h:NT K V v w)(ho:w.ownsRow Bs 5 1 tv l.length (Lib.byteCells l))(hl:tv=.slice none 0 0∨0<l.length)(hg:w.grownBy w' tv.ownBlock):NT K V v w':=by
 obtain ⟨b,k,cap,z,h1,h2,⟨n1,n2,n3,n4,n5⟩,h4,h5⟩:=h
 refine ⟨b,k,cap,z,h1,h2,⟨n1,n2,n3,n4,?_⟩,h4,h5⟩
 rcases n5 with n5|⟨b',off,e,hb,hc⟩
 ·exact Or.inl n5
 ·cases e
  refine Or.inr ⟨b,0,rfl,Nat.lt_of_lt_of_le hb hg.size,fun i hi=>?_⟩
  have hne:some b≠tv.ownBlock:=by
   rcases hl with rfl|hl
   ·intro h;cases h
   ·obtain ⟨g',cap',rfl,_,_⟩:=ho.form hl
    intro h
    have:b=g':=Option.some.inj h
    subst this
    have h6:=hc 0 (by omega)
    rw [Nat.add_zero,ho.cellAt 0 (by omega)] at h6
    simp [Lib.byteCells,hl] at h6
  exact (World.cell?_of_block (w:=w) (a:=⟨b,0+i,none⟩) (hg.block b hb hne)).trans (hc i hi)
attribute [local irreducible] W4 Nz Nt NT
end
def lwN (n x:Int)(k:Nat):Nat:=if nbB n x k then 1 else 2
def evK (k:Nat):Bool:=decide (k%2=0)
structure Shd (n x:Int) (k:Nat) (E:Int) (K:Nat):Prop where
 t0:tnP k x E
 t1:¬ tnP k x (E+1)
 st:stK (evK k) (4*k*oE x E) (lwN n x k*oE x E) (2*oE x E) (zE x E) K=true
 mn:∀ j,j<K->stK (evK k) (4*k*oE x E) (lwN n x k*oE x E) (2*oE x E) (zE x E) j=false
theorem gs_in {k:Nat}{x:Int}(hk:k<2^256)(hk0:k≠0)(hx:-16990<=x/\x<=16990):tnP k x (gsP k x)/\-6000<=gsP k x/\gsP k x<6000:=by
 have hb:bl k<=256:=bl_le.2 hk
 obtain ⟨b1,b2,b3⟩:=bl_bd hk0
 have e:((bl k-1:Nat):Int)=(bl k:Int)-1:=by omega
 have:=guess_ok (c:=k) (L:=bl k-1) (x:=x) b1 (by omega)
 rw [e] at this
 refine ⟨this,?_⟩
 unfold gsP
 by_cases h0:0<=(bl k:Int)-1+x
 ·rw [Int.tdiv_eq_ediv_of_nonneg (by omega)];omega
 ·rw [show ((bl k:Int)-1+x)*30103=-(-((bl k:Int)-1+x)*30103) by omega,Int.neg_tdiv,Int.tdiv_eq_ediv_of_nonneg (by omega)];omega
theorem Shd.ex {n x:Int}{k:Nat}(hk:k<2^256)(hk0:k≠0)(hx:-16990<=x/\x<=16990):∃ E K,Shd n x k E K:=by
 obtain ⟨g1,g2,g3⟩:=gs_in hk hk0 hx
 obtain ⟨E,e1,e2,e3,e4⟩:=tn_ex (6000-gsP k x).toNat (gsP k x) g1 (by rw [show gsP k x+((6000-gsP k x).toNat:Int)=6000 by omega];exact tn_top hk (by omega))
 have hl:0<lwN n x k*oE x E:=Nat.mul_pos (by unfold lwN;split<;>decide) (oE_pos _ _)
 obtain ⟨K,h1,h2⟩:=st_ex (c:=evK k) (R:=4*k*oE x E) (u:=2*oE x E) (zE_pos x E) hl
 exact ⟨E,K,e3,e4,h1,h2⟩
section
theorem W4_none {k:Nat}(hk:k<2^256):decide (W4 k 0=0/\W4 k 1=0/\W4 k 2=0/\W4 k 3=0)=decide (k=0):=by
 by_cases h:k=0
 ·subst h
  rw [decide_eq_true (by simp [W4_zero]),decide_eq_true rfl]
 ·rw [decide_eq_false h,decide_eq_false]
  rintro ⟨h0,h1,h2,h3⟩
  refine h (A4_inj hk (by decide) fun i hi=>?_)
  have:i=0∨i=1∨i=2∨i=3:=by omega
  rcases this with rfl|rfl|rfl|rfl
  ·rw [h0,W4_zero]
  ·rw [h1,W4_zero]
  ·rw [h2,W4_zero]
  ·rw [h3,W4_zero]
attribute [local irreducible] W4
end
theorem dV_ge {l:List UInt8}(hd:l.all dg=true)(h0:by_ l 0≠48)(hl:l≠[]):10^(l.length-1)<=dV l:=by
 cases l with
 | nil=>exact absurd rfl hl
 | cons c r =>
  have hr:r.all dg=true:=by rw [List.all_cons] at hd;simp at hd;simpa using hd.2
  have hc:dg c=true:=by rw [List.all_cons] at hd;simp at hd;exact hd.1
  unfold dg at hc
  have hc':=of_decide_eq_true hc
  rw [by_zero] at h0
  have h:=numV_app (s:=B (c::r)) (u:=B r) 1 (B r).size (fun i hi=>by rw [sb_by,sb_by,Nat.add_comm,by_succ])
  have hs:(B (c::r)).size=1+(B r).size:=by rw [B_size,B_size,List.length_cons];omega
  have h1:numV (B (c::r)) 1=(c.toNat:Int)-48:=by
   have:numV (B (c::r)) 1=numV (B (c::r)) 0*10+(sb (B (c::r)) 0-48):=rfl
   rw [this,sb_by,by_zero]
   have:numV (B (c::r)) 0=0:=rfl
   omega
  have hb:=(numV_bd _ (dig_B hr)).1
  have e:=(dV_lt hd).2
  rw [hs,h,h1] at e
  rw [B_size] at e hb
  have hp:((10:Int)^r.length)=((10^r.length:Nat):Int):=by simp
  rw [hp] at e
  show 10^(r.length+1-1)<=_
  rw [Nat.add_sub_cancel]
  have hm:1*((10^r.length:Nat):Int)<=((c.toNat:Int)-48)*((10^r.length:Nat):Int):=Int.mul_le_mul_of_nonneg_right (by omega) (Int.natCast_nonneg _)
  omega
theorem dV_nil:dV []=0:=rfl
theorem pl_isD {f:Nat}{l m:Int}(s g:Bool)(A:Nat)(hf:2<=f):isD f l m ⟨3,s,g,0,plV f g A⟩:=by
 refine Or.inr (Or.inr ⟨rfl,rfl,?_,?_⟩)
 ·show plV f g A<2^(f-1)
  have h:plA f A<2^(f-1):=by
   unfold plA
   split
   ·exact Nat.two_pow_pos _
   ·rename_i h
    exact bl_le.1 (by omega)
  unfold plV
  split
  ·exact Nat.one_lt_two_pow (by omega)
  ·exact h
 ·show plV f g A≠0∨g=false
  cases g
  ·exact Or.inr rfl
  ·left
   unfold plV
   split
   ·decide
   ·rename_i h
    intro h2
    exact h ⟨rfl,h2⟩
theorem fN_ge {n:Int}(hb:binN n):2<=fN n:=by
 rcases bin_cases hb with rfl|rfl|rfl|rfl|rfl|rfl<;>decide
section
attribute [local irreducible] W4
section
variable (n d:Int)(l:List UInt8)(q:Prt)(nm:ByteArray)(wd:Int)(f e:Nat)(lo m:Int)(w:World)
theorem read_k (hT:Tab w)(V:Nat)(F E:Int)(c28:∀ W,Tab W->CB 53 #[.int .i64 n,.int .i64 d] W (.tuple #[DI n nm wd f e lo m,.int .i64 0]))
  (c29:∀ W,CB 54 #[.string (B l)] W (.tuple #[PV q.cls q.sg q.sn q.dig q.ex,.int .i64 0]))
  (c12:∀ W,Below w.heap.size w W->CB 55 #[.int .i64 n,.int .i64 d,PV q.cls q.sg q.sn q.dig q.ex] W (.tuple #[A4 V,.int .i64 F,.int .i64 E])) :
  CB 25 #[.int .i64 n,.int .i64 d,.string (B l)] w (.tuple #[A4 V,.int .i64 F,.int .i64 E]):=by
 have hsm:=cell_set_map
 unfold PV at *
 go_enter Tryz.func25,Tryz.ntmps25
 go_wp2_with (first
  | (go_at_call 53;refine (c28 _ (hT.go bgo)).mono ?_;rintro r w1 ⟨rfl,hb1⟩;obtain ⟨_,_,_,_,hA1,_⟩:=wz w hb1;clear hb1)
  | (go_at_call 54;refine (c29 _).mono ?_;rintro r w2 ⟨rfl,hb2⟩;obtain ⟨_,_,_,_,hA2,_⟩:=wz w hb2;obtain ⟨_,_⟩:=zf hb2 w1.heap.size;clear hb2)
  | (go_at_call 55;refine (c12 _ bgo).mono ?_;rintro r w3 ⟨rfl,hb3⟩;obtain ⟨_,_,_,_,hA3,_⟩:=wz w hb3;obtain ⟨_,_⟩:=zf hb3 w1.heap.size;obtain ⟨_,_⟩:=zf hb3 w2.heap.size;clear hb3))
 exact bodyPost_ret (v:=.tuple #[A4 V,.int .i64 F,.int .i64 E]) (by simp only [results,Tryz.results25];go_simp) rfl ⟨rfl,bgo⟩
variable (c22:∀ W,CQ 12 #[.int .i64 n] W (.bool true))
include c22
variable (c15:∀ W,CQ 13 #[.int .i64 d] W (.bool true))
include c15
end
theorem cut_ex {l:List UInt8}{p:Prt}(h:cutP l=some p):-9223372036854775808<=p.ex/\p.ex<=9223372036854775807:=by
 rcases (cut_good h).2 with ⟨_,_,h⟩|h|h
 ·omega
 ·obtain ⟨_,_,_,h⟩:=h
  omega
 ·obtain ⟨_,h⟩:=h
  omega
end
theorem tex_len2 {c:Int}{s g:Bool}{d:List UInt8}{e:Int}(he:-9223372036854775808<=e/\e<=9223372036854775807):(texT c s g d e).length<=d.length+100:=by
 have hi:=Lib.itoa_length_le e he.1 he.2
 have h1:(bodT c g d e).length<=d.length+50:=by
  unfold bodT
  split
  ·simp
  ·split
   ·unfold nanT
    simp only [List.length_append,List.length_cons]
    split<;>split<;>simp<;>omega
   ·unfold finT dgT exT
    simp only [List.length_append]
    split<;>split<;>simp<;>omega
 unfold texT
 rw [List.length_append]
 split<;>simp<;>omega
theorem cut_dl {l:List UInt8}{p:Prt}(h:cutP l=some p):p.dig.length<=l.length:=by
 unfold cutP at h
 split at h
 ·cases h
 ·rename_i hl
  have hs:=sgR_le l
  unfold bodP at h
  split at h
  ·cases h
   show (finD (sgR l)).length<=l.length
   unfold finD
   have h1:=bar_le (dgs (sgR l)++frac (sgR l))
   have h2:=congrArg List.length (dgs_rst (sgR l))
   have h3:(frac (sgR l)).length<=(rst (sgR l)).length:=by
    unfold frac;split
    ·exact Nat.le_trans (dgs_le _) (trimPre_le _ _)
    ·simp
   rw [List.length_append] at h1 h2
   omega
  ·split at h
   ·cases h
    exact Nat.zero_le _
   ·split at h
    ·cases h
     show (bar (paD (nanR (sml (sgR l))))).length<=l.length
     have h1:=bar_le (paD (nanR (sml (sgR l))))
     have h2:(paD (nanR (sml (sgR l)))).length<=(nanR (sml (sgR l))).length:=by
      unfold paD
      split
      ·exact Nat.le_trans (dgs_le _) (trimPre_le _ _)
      ·exact Nat.zero_le _
     have h3:(nanR (sml (sgR l))).length<=(sml (sgR l)).length:=by
      unfold nanR
      exact Nat.le_trans (trimPre_le _ _) (trimPre_le _ _)
     rw [sml_len] at h3
     omega
    ·cases h
theorem cut_jn {l:List UInt8}{p:Prt}(h:cutP l=some p)(hl:l.length<=3001):jnP p:=by
 have h1:=cut_good h
 have h2:=cut_dl h
 have h3:=tex_len2 (c:=p.cls) (s:=p.sg) (g:=p.sn) (d:=p.dig) (cut_ex h)
 refine jn_of_gd ⟨h1.1,?_⟩
 rcases h1.2 with ⟨a,b,c⟩|h|⟨a,b⟩
 ·exact Or.inl ⟨a,b,c,by omega⟩
 ·exact Or.inr (Or.inl h)
 ·exact Or.inr (Or.inr ⟨a,b,by omega⟩)
def Prt.at (p:Prt)(s:Bool):Prt:=⟨p.cls,s,p.sn,p.dig,p.ex⟩
/-! Make by value -/
def mkV (n d:Int)(p:Prt):Nat:=if p.cls=1 then rdV n d p.sg (tN (dV p.dig) (pwE p.dig.length p.ex)) (tD (pwE p.dig.length p.ex)) (pwE p.dig.length p.ex) else if p.cls=2 then pkV n ⟨2,p.sg,false,0,0⟩ else pkV n ⟨3,p.sg,p.sn,0,plV (fN n) p.sn (dV p.dig)⟩
def mkF (n d:Int)(p:Prt):Int:=if p.cls=1 then rdF n d p.sg (tN (dV p.dig) (pwE p.dig.length p.ex)) (tD (pwE p.dig.length p.ex)) (pwE p.dig.length p.ex) else 0
theorem make_v {n d:Int}{p:Prt}(hb:binN n)(hk:knB d)(hj:jnP p)(he:-9223372036854775808<=p.ex/\p.ex<=9223372036854775807)(W:World)(hT:Tab W)(hT10:Tb10 W) :
  CB 55 #[.int .i64 n,.int .i64 d,p.v] W (.tuple #[A4 (mkV n d p),.int .i64 (mkF n d p),.int .i64 0]):=by
 have c28:=fun W (hT:Tab W)=>rck_good n d W hT ⟨hb,hk⟩
 have hgd:=gd_of_jn hj
 have hl4:=hj.1
 obtain ⟨hdD,hcls⟩:=id hgd
 have hall:=gdD_all hdD
 obtain ⟨fl1,fl2,fl3,fl4,fl5⟩:=fld_bd hb
 have hf2:=fN_ge hb
 unfold mkV mkF
 rcases hcls with ⟨hc,hsn,hx,_⟩|⟨hc,hsn,hd0,hx0⟩|⟨hc,hx0,_⟩
 ·rw [if_pos hc,if_pos hc]
  exact make_1 n d p.cls p.sg p.sn p.dig p.ex _ _ _ _ _ _ _ W hT c28 (fun W' hW'=>join_y p W' (hT10.next hW') he hj) hc _ _ _ (fun W' hT'=>finite8 n d 1 p.sg p.sn p.dig p.ex W' hT' hb hk hall hl4)
 ·have hc1:¬ p.cls=1:=by omega
  rw [if_neg hc1,if_neg hc1,if_pos hc]
  have hi:isD (fN n) (leastN n) (mostN n) ⟨2,p.sg,false,0,0⟩:=Or.inr (Or.inl ⟨rfl,rfl,rfl,rfl⟩)
  have hE:pkE n ⟨2,p.sg,false,0,0⟩=0:=by unfold pkE;rw [if_pos hb,if_pos hi]
  have c34:=fun W hT=>pack_any n ⟨2,p.sg,false,0,0⟩ W hT (show 0<2^256 by decide)
  rw [show (Dat.v ⟨2,p.sg,false,0,0⟩)=_ from DV_zero 2 p.sg false 0,hE] at c34
  exact make_2 n d p.cls p.sg p.sn p.dig p.ex _ _ _ _ _ _ _ W hT c28 (fun W' hW'=>join_y p W' (hT10.next hW') he hj) hc _ _ (by rw [hsn];exact c34)
 ·have hc1:¬ p.cls=1:=by omega
  have hc2:¬ p.cls=2:=by omega
  rw [if_neg hc1,if_neg hc1,if_neg hc2]
  have hi:=pl_isD (l:=leastN n) (m:=mostN n) p.sg p.sn (dV p.dig) hf2
  have hE:pkE n ⟨3,p.sg,p.sn,0,plV (fN n) p.sn (dV p.dig)⟩=0:=by unfold pkE;rw [if_pos hb,if_pos hi]
  have hlt:=plV_lt (f:=fN n) (A:=dV p.dig) p.sn fl4
  have c34:=fun W hT=>pack_any n ⟨3,p.sg,p.sn,0,plV (fN n) p.sn (dV p.dig)⟩ W hT hlt
  rw [hE] at c34
  exact make_3 n d p.cls p.sg p.sn p.dig p.ex _ _ _ _ _ _ _ W hT c28 (fun W' hW'=>join_y p W' (hT10.next hW') he hj) hc _ _ _ (fun W'=>payload8 _ _ _ _ _ _ _ 3 p.sg p.sn p.dig p.ex W' fl4 hall hl4) c34
/-! Read by value -/
theorem read_v {n d:Int}{l:List UInt8}{p:Prt}(hb:binN n)(hk:knB d)(h:cutP l=some p)(hl:l.length<=3001)(W:World)(hT:Tab W)(hT10:Tb10 W) :
  CB 25 #[.int .i64 n,.int .i64 d,.string (B l)] W (.tuple #[A4 (mkV n d p),.int .i64 (mkF n d p),.int .i64 0]):=by
 have c29:=fun W=>cut_any l W (by omega)
 rw [(cutE_some h).1,(cutE_some h).2] at c29
 exact read_k n d l p _ _ _ _ _ _ W hT _ _ _ (fun W hT=>rck_good n d W hT ⟨hb,hk⟩) c29 (fun W' hW'=>make_v hb hk (cut_jn h hl) (cut_ex h) W' (hT.go hW') (hT10.next hW'))
section
theorem itoa_brief {e:Int}(he:-100000<=e/\e<=100000):(Lib.itoa e).length<=21:=by
 have:=Lib.itoa_length_le e (by omega) (by omega)
 omega
def unT (D:List UInt8)(e:Int):List UInt8:=((D.take 1++if 1<D.length then [46]++D.drop 1 else [])++[101])++Lib.itoa e
theorem unT_brief {D:List UInt8}{e:Int}(he:-100000<=e/\e<=100000):(unT D e).length<=D.length+25:=by
 have:=itoa_brief he
 unfold unT
 rw [List.length_append,List.length_append,List.length_append,List.length_take]
 split
 ·simp;omega
 ·simp;omega
theorem itoa_short {e:Int}(he:-100000<=e/\e<=100000):(Lib.itoa e).length<=100:=by
 have:=Lib.itoa_length_le e (by omega) (by omega)
 omega
attribute [local irreducible] W4
end
section
section
variable (D:List UInt8)(e:Int)(w:World)(hT10:Tb10 w)(he:-100000<=e/\e<=100000)
include hT10 he
theorem ltext_1 (hD:D.length=1):CB 52 #[.string (B D),.int .i64 e] w (.string (B (unT D e))):=by
 have hi:=itoa_short he
 have c53:=fun W (h:Tb10 W)=>itoa_any e W (by omega) h
 have htl:=B_toList
 have hsz:(B D).size=1:=by rw [B_size,hD]
 have HU:Hid (unT D e=(D++[101])++Lib.itoa e):=by
  show _=_
  unfold unT
  rw [if_neg (by omega),List.append_nil,List.take_of_length_le (by omega)]
 have ht:(B D).extract 0 1=B D:=by rw [B_ext,List.drop_zero,List.take_of_length_le (by omega)]
 have p0:B D++(⟨#[101]⟩:ByteArray)=B (D++[101]):=B_app D [101]
 have z0:(B (D++[101])).size=2:=by rw [B_size,List.length_append,hD];rfl
 have p1:B (D++[101])++B (Lib.itoa e)=B ((D++[101])++Lib.itoa e):=B_app _ _
 obtain ⟨il,hil⟩:∃ il,(Lib.itoa e).length=il:=⟨_,rfl⟩
 have z2:(B (Lib.itoa e)).size=il:=by rw [B_size];exact hil
 have hil2:il<=100:=by omega
 have hemp:D.isEmpty=false:=by cases D with|nil=>exact absurd hD (by decide)|cons y ys=>rfl
 clear hD hi hil
 generalize hL0:D++[101]=L0 at *
 clear hL0
 generalize Lib.itoa e=I at *
 generalize hL1:L0++I=L1 at *
 clear hL1
 go_enter Tryz.func52,Tryz.ntmps52
 go_wp2_with (go_at_call 88;refine (c53 _ (hT10.next bgo)).mono ?_;rintro r w3 ⟨rfl,hb3⟩)
 go_ret
 exact ⟨by rw [HU.out];rfl,hb3⟩
theorem ltext_m (hD:1<D.length)(hD2:D.length<=4000):CB 52 #[.string (B D),.int .i64 e] w (.string (B (unT D e))):=by
 have hi:=itoa_short he
 have c53:=fun W (h:Tb10 W)=>itoa_any e W (by omega) h
 have htl:=B_toList
 obtain ⟨m,hm⟩:∃ m,D.length=m+2:=⟨D.length-2,by omega⟩
 have hsz:(B D).size=m+2:=by rw [B_size,hm]
 have HU:Hid (unT D e=((D.take 1++([46]++D.drop 1))++[101])++Lib.itoa e):=by
  show _=_
  unfold unT
  rw [if_pos hD]
 have ht:(B D).extract 0 1=B (D.take 1):=by rw [B_ext,List.drop_zero]
 have hd:(B D).extract 1 (m+2)=B (D.drop 1):=by have:=B_drop D 1;rw [hsz] at this;exact this
 have hm2:m<=4000:=by omega
 have q0:(⟨#[46]⟩:ByteArray)++B (D.drop 1)=B ([46]++D.drop 1):=B_app [46] _
 have y0:(B (D.drop 1)).size=m+1:=by rw [B_size,List.length_drop,hm];omega
 have y1:(B ([46]++D.drop 1)).size=m+2:=by rw [B_size,List.length_append,List.length_drop,hm];simp;omega
 have y2:(B (D.take 1)).size=1:=by rw [B_size,List.length_take,hm];omega
 have p0:B (D.take 1)++B ([46]++D.drop 1)=B (D.take 1++([46]++D.drop 1)):=B_app _ _
 have z0:(B (D.take 1++([46]++D.drop 1))).size=m+3:=by rw [B_size] at y1 y2 ⊢;rw [List.length_append,y1,y2];omega
 have p1:B (D.take 1++([46]++D.drop 1))++(⟨#[101]⟩:ByteArray)=B ((D.take 1++([46]++D.drop 1))++[101]):=B_app _ [101]
 have z1:(B ((D.take 1++([46]++D.drop 1))++[101])).size=m+4:=by rw [B_size] at z0 ⊢;rw [List.length_append,z0];rfl
 have p2:B ((D.take 1++([46]++D.drop 1))++[101])++B (Lib.itoa e)=B (((D.take 1++([46]++D.drop 1))++[101])++Lib.itoa e):=B_app _ _
 obtain ⟨il,hil⟩:∃ il,(Lib.itoa e).length=il:=⟨_,rfl⟩
 have z2:(B (Lib.itoa e)).size=il:=by rw [B_size];exact hil
 have hil2:il<=100:=by omega
 have hemp:D.isEmpty=false:=by cases D with|nil=>exact absurd hD (by decide)|cons y ys=>rfl
 clear hD hD2 hm hi hil
 generalize Lib.itoa e=I at *
 generalize hL3:((D.take 1++([46]++D.drop 1))++[101])++I=L3 at *
 generalize hL2:(D.take 1++([46]++D.drop 1))++[101]=L2 at *
 generalize hL1:D.take 1++([46]++D.drop 1)=L1 at *
 generalize hL0:[46]++D.drop 1=L0 at *
 generalize hA:D.take 1=A0 at *
 generalize hB:D.drop 1=B0 at *
 clear hL3 hL2 hL1 hL0 hA hB
 go_enter Tryz.func52,Tryz.ntmps52
 go_wp2_with (go_at_call 88;refine (c53 _ (hT10.next bgo)).mono ?_;rintro r w3 ⟨rfl,hb3⟩)
 go_ret
 exact ⟨by rw [HU.out];rfl,hb3⟩
end
theorem ltext_v (D:List UInt8)(e:Int)(w:World)(hT10:Tb10 w)(he:-100000<=e/\e<=100000)(hD:1<=D.length)(hD2:D.length<=4000):CB 52 #[.string (B D),.int .i64 e] w (.string (B (unT D e))):=by
 by_cases h:D.length=1
 ·exact ltext_1 D e w hT10 he h
 ·exact ltext_m D e w hT10 he (by omega) hD2
end
end Go.Proofs.YtjfeaiaafbaobaaGreatDoor
