/-
  Texts that the proof leans on.
-/
import Derived.Test.YtpabnhlfbjkmaaaGreatDoorR24
import Derived.Test.YtpabnhlfbjkmaaaGreatDoorR20
import Derived.Test.YtpabnhlfbjkmaaaGreatDoorR1
import Derived.Deep.Cut
import Derived.Deep.CutRange
import Derived.Test.YtpabnhlfbjkmaaaGreatDoorR25
import Derived.Test.YtpabnhlfbjkmaaaGreatDoorR6
import Derived.Test.YtpabnhlfbjkmaaaGreatDoorR12
set_option linter.unusedVariables false
set_option linter.unusedSectionVars false
set_option linter.unusedSimpArgs false
set_option maxHeartbeats 8000000
set_option maxRecDepth 20000
namespace Go.Proofs.YtpabnhlfbjkmaaaGreatDoor
open Go.RowKit
def clZ (x:Int):Int:=min (max x (-200000)) 200000
def sN (N:Nat)(x:Int):Nat:=N*2^(clZ x).toNat
def whC (d:Int)(s:Bool)(A B:Nat):Nat:=if faB d s (decide (A/B%2=1)) (A%B) B then A/B+1 else A/B
theorem fa_sc (d:Int)(s o:Bool)(R D k:Nat)(hk:0<k):faB d s o (R*k) (D*k)=faB d s o R D:=by
 have e1:R*k=0↔R=0:=by rw [Nat.mul_eq_zero];omega
 have e2:D*k<R*k+R*k↔D<R+R:=by rw [← Nat.add_mul];exact Nat.mul_lt_mul_right hk
 have e3:R*k+R*k=D*k↔R+R=D:=by rw [← Nat.add_mul];exact Nat.mul_right_cancel_iff hk
 have e4:D*k<=R*k+R*k↔D<=R+R:=by rw [← Nat.add_mul];exact Nat.mul_le_mul_right_iff hk
 unfold faB
 simp only [e1,e2,e3,e4]
def tnG (N D:Nat)(e:Int):Prop:=D*10^e.toNat<=N*10^(-e).toNat
instance (N D:Nat) (e:Int):Decidable (tnG N D e):=inferInstanceAs (Decidable (_<=_))
theorem zBb (n:Nat):0<(10:Nat)^n:=Nat.pow_pos (by decide)
theorem zZu (N D p:Nat)(q:Int):tnG N D (q+p)↔D*10^q.toNat*10^p<=N*10^(-q).toNat:=by
 unfold tnG
 by_cases h0:0<=q
 ·rw [show (-(q+(p:Int))).toNat=0 by omega,show (-q).toNat=0 by omega,show (q+(p:Int)).toNat=q.toNat+p by omega,Nat.pow_add,Nat.mul_assoc]
 ·by_cases h1:0<=q+(p:Int)
  ·obtain ⟨a,ha⟩:∃ a:Nat,q=-(a:Int):=⟨(-q).toNat,by omega⟩
   obtain ⟨b,hb⟩:∃ b:Nat,p=a+b:=⟨p-a,by omega⟩
   subst hb
   rw [show (-(q+((a+b:Nat):Int))).toNat=0 by omega,show (-q).toNat=a by omega,show (q+((a+b:Nat):Int)).toNat=b by omega,show q.toNat=0 by omega,Nat.pow_zero,Nat.mul_one,Nat.mul_one,Nat.pow_add,Nat.mul_comm (10^a),← Nat.mul_assoc]
   exact (Nat.mul_le_mul_right_iff (zBb a)).symm
  ·obtain ⟨a,ha⟩:∃ a:Nat,q+(p:Int)=-(a:Int):=⟨(-(q+p)).toNat,by omega⟩
   rw [show (-(q+(p:Int))).toNat=a by omega,show (q+(p:Int)).toNat=0 by omega,show q.toNat=0 by omega,show (-q).toNat=a+p by omega,Nat.pow_zero,Nat.mul_one,Nat.pow_add,← Nat.mul_assoc]
   exact (Nat.mul_le_mul_right_iff (zBb p)).symm
theorem zFl {N D:Nat}{e e':Int}(h:tnG N D e)(he:e'<=e):tnG N D e':=by
 obtain ⟨p,rfl⟩:∃ p:Nat,e=e'+p:=⟨(e-e').toNat,by omega⟩
 have:=(zZu N D p e').1 h
 unfold tnG
 exact Nat.le_trans (Nat.le_mul_of_pos_right _ (zBb p)) this
def TnE (N D:Nat)(E:Int):Prop:=tnG N D E/\¬ tnG N D (E+1)
theorem TnE.only {N D:Nat}{E E':Int}(h:TnE N D E)(h':TnE N D E'):E=E':=by
 rcases Int.lt_trichotomy E E' with q|q|q
 ·exact absurd (zFl h'.1 (by omega)) h.2
 ·exact q
 ·exact absurd (zFl h.1 (by omega)) h'.2
def dkQ (f:DF)(E:Int):Int:=max f.l (E-3*f.j)
def dkA (N:Nat)(q:Int):Nat:=N*10^(-q).toNat
def dkZ (D:Nat)(q:Int):Nat:=D*10^q.toNat
theorem zXz {D:Nat}(h:0<D)(q:Int):0<dkZ D q:=Nat.mul_pos h (zBb _)
theorem dk_lt {f:DF}{N D:Nat}{E:Int}(h:TnE N D E):dkA N (dkQ f E)<dkZ D (dkQ f E)*10^(3*f.j+1):=by
 have hq:E+1<=dkQ f E+((3*f.j+1:Nat):Int):=by unfold dkQ;omega
 have h1:¬ tnG N D (dkQ f E+((3*f.j+1:Nat):Int)):=fun q=>h.2 (zFl q hq)
 rw [zZu] at h1
 unfold dkA dkZ
 omega
def dkC0 (f:DF)(d:Int)(s:Bool)(N D:Nat)(E:Int):Nat:=whC d s (dkA N (dkQ f E)) (dkZ D (dkQ f E))
theorem whC_le {d:Int}{s:Bool}{A B:Nat}:A/B<=whC d s A B/\whC d s A B<=A/B+1:=by
 unfold whC
 split<;>omega
theorem zYz {f:DF}{d:Int}{s:Bool}{N D:Nat}{E:Int}(hD:0<D)(h:TnE N D E):dkC0 f d s N D E<=10^(3*f.j+1):=by
 have h1:=dk_lt (f:=f) h
 have h2:=(whC_le (d:=d) (s:=s) (A:=dkA N (dkQ f E)) (B:=dkZ D (dkQ f E))).2
 have h3:dkA N (dkQ f E)/dkZ D (dkQ f E)<10^(3*f.j+1):=by
  rw [Nat.div_lt_iff_lt_mul (zXz hD _),Nat.mul_comm];exact h1
 unfold dkC0
 omega
def dkX (f:DF)(N D:Nat)(E:Int):Bool:=decide (dkA N (dkQ f E)%dkZ D (dkQ f E)=0)
def dkC (f:DF)(d:Int)(s:Bool)(N D:Nat)(E:Int):Nat:=if 10^(3*f.j+1)<=dkC0 f d s N D E then 10^(3*f.j) else dkC0 f d s N D E
def dkE (f:DF)(d:Int)(s:Bool)(N D:Nat)(E:Int):Int:=if 10^(3*f.j+1)<=dkC0 f d s N D E then dkQ f E+1 else dkQ f E
def DF.m (f:DF):Int:=f.l+3*2^f.w-1
def mbr (m want:Int):Nat->Nat->Int->Nat×Int
 | 0,c,q=>(c,q)
 | k+1,c,q=>if q<want/\q<m/\c%10=0 then mbr m want k (c/10) (q+1) else (c,q)
def dkM (f:DF)(d:Int)(s:Bool)(N D:Nat)(E want:Int):Nat×Int:=mbr f.m want (f.m-dkE f d s N D E).toNat (dkC f d s N D E) (dkE f d s N D E)
def dkD (f:DF)(d:Int)(s:Bool)(N D:Nat)(E want:Int):Dat :=
 if f.m<dkE f d s N D E then (if inB d s then ⟨2,s,false,0,0⟩ else ⟨1,s,false,f.m,10^(3*f.j+1)-1⟩)
 else if dkX f N D E then ⟨1,s,false,(dkM f d s N D E want).2,(dkM f d s N D E want).1⟩ else ⟨1,s,false,dkE f d s N D E,dkC f d s N D E⟩
def dkF (f:DF)(d:Int)(s:Bool)(N D:Nat)(E:Int):Int :=
 if f.m<dkE f d s N D E then 10 else if dkX f N D E then 0 else if E<f.l+3*f.j then 12 else 8
theorem zN7 {f:DF}{d:Int}{s:Bool}{N D:Nat}{E:Int}(hD:0<D)(h:TnE N D E):dkC f d s N D E<10^(3*f.j+1):=by
 have h1:=zYz (f:=f) (d:=d) (s:=s) hD h
 have h2:(10:Nat)^(3*f.j)<10^(3*f.j+1):=Nat.pow_lt_pow_right (by decide) (by omega)
 unfold dkC
 split<;>omega
theorem zM7 (f:DF)(d:Int)(s:Bool)(N D:Nat)(E:Int):f.l<=dkE f d s N D E:=by
 unfold dkE dkQ
 split<;>omega
theorem zRm {m want:Int}:∀ (k c:Nat) (q:Int),q<=m->(mbr m want k c q).1<=c/\q<=(mbr m want k c q).2/\(mbr m want k c q).2<=m/\(mbr m want k c q).1*10^((mbr m want k c q).2-q).toNat=c
 | 0,c,q,hq=>by
  unfold mbr
  refine ⟨Nat.le_refl _,Int.le_refl _,hq,?_⟩
  simp
 | k+1,c,q,hq=>by
  unfold mbr
  split
  ·rename_i h
   obtain ⟨h1,h2,h3,h4⟩:=zRm (m:=m) (want:=want) k (c/10) (q+1) (by omega)
   refine ⟨by omega,by omega,h3,?_⟩
   rw [show ((mbr m want k (c/10) (q+1)).2-q).toNat=((mbr m want k (c/10) (q+1)).2-(q+1)).toNat+1 by omega,Nat.pow_succ,← Nat.mul_assoc,h4]
   omega
  ·refine ⟨Nat.le_refl _,Int.le_refl _,hq,?_⟩
   simp
theorem dkD_is {f:DF}(hf:f.ok){d:Int}{s:Bool}{N D:Nat}{E want:Int}(hD:0<D)(h:TnE N D E):vI f (dkD f d s N D E want):=by
 have hc:=zN7 (f:=f) (d:=d) (s:=s) hD h
 have he:=zM7 f d s N D E
 have hp:=zBb (3*f.j+1)
 have hw:(0:Int)<2^f.w:=Int.pow_pos (by decide)
 unfold dkD
 split
 ·split
  ·exact Or.inr (Or.inl ⟨rfl,rfl,rfl,rfl⟩)
  ·refine Or.inl ⟨rfl,rfl,?_,?_,?_⟩
   ·show 10^(3*f.j+1)-1<10^(3*f.j+1)
    omega
   ·show f.l<=f.m
    unfold DF.m;omega
   ·show f.m<=f.l+3*2^f.w-1
    exact Int.le_refl _
 ·rename_i hm
  split
  ·obtain ⟨h1,h2,h3,h4⟩:=zRm (m:=f.m) (want:=want) (f.m-dkE f d s N D E).toNat (dkC f d s N D E) (dkE f d s N D E) (by omega)
   refine Or.inl ⟨rfl,rfl,?_,?_,?_⟩
   ·show (dkM f d s N D E want).1<10^(3*f.j+1)
    unfold dkM;omega
   ·show f.l<=(dkM f d s N D E want).2
    unfold dkM;omega
   ·show (dkM f d s N D E want).2<=f.l+3*2^f.w-1
    unfold dkM;exact h3
  ·exact Or.inl ⟨rfl,rfl,hc,he,by show dkE f d s N D E<=f.m;omega⟩
theorem zH8 (d:Int)(s:Bool)(A B:Nat){k:Nat}(hk:0<k):whC d s (A*k) (B*k)=whC d s A B:=by
 unfold whC
 rw [Nat.mul_div_mul_right _ _ hk,Nat.mul_mod_mul_right,fa_sc _ _ _ _ _ _ hk]
section
theorem zKr (d:Int)(w:World):CQ 18 #[.int .i64 d] w (.bool (decide (knB d))):=by
 by_cases h0:0<=d
 ·by_cases h4:d<=4
  ·have e:decide (knB d)=true:=by unfold knB;simp [h0,h4]
   rw [e]
   go_enter Tryz.func18,Tryz.ntmps18
   go_wp2
   go_ret
   exact ⟨by simp [h0,h4],rfl⟩
  ·have e:decide (knB d)=false:=by unfold knB;simp [h0,h4]
   rw [e]
   go_enter Tryz.func18,Tryz.ntmps18
   go_wp2
   go_ret
   exact ⟨by simp [h0,h4],rfl⟩
 ·have e:decide (knB d)=false:=by unfold knB;simp [h0]
  rw [e]
  go_enter Tryz.func18,Tryz.ntmps18
  go_wp2
  go_ret
  exact ⟨by simp [h0],rfl⟩
theorem zPw (d:Int)(s:Bool)(w:World)(hk:knB d):CQ 88 #[.int .i64 d,.bool s] w (.bool (inB d s)):=by
 have hd:d=0∨d=1∨d=2∨d=3∨d=4:=by unfold knB at hk;omega
 rcases hd with rfl|rfl|rfl|rfl|rfl <;>
 ·go_enter Tryz.func88,Tryz.ntmps88
  go_wp2
  go_ret
  exact ⟨by simp [inB],rfl⟩
theorem zOf {W:World}{g V:Nat}{vi:Int}(hg:g=W.heap.size)(hv:vi=(V:Int))(hb:V<18446744073709551616):NV 1 V (.slice (some ⟨g,0,none⟩) 1 1) (W.alloc (.cells #[.int .u64 vi] 22)):=by
 subst hg hv
 exact ⟨_,1,1,zOc V,rfl,Nat.le_refl _,zLc W V (by omega),zUf V⟩
section
variable (x:Int)(vn vd:Value)(A B KK:Nat)(w:World)
end
theorem zQ3 (ga gb s c c':Nat)(x y:Nat->Int)(w:World)(hs:s<20001)(h:Num w (some ⟨ga,0,none⟩) s c x)(h':Num w (some ⟨gb,0,none⟩) 1 c' y)(hys:sizeL y 1=1) :
  Calls Tryz.prog 56 #[.slice (some ⟨ga,0,none⟩) s c,.slice (some ⟨gb,0,none⟩) 1 c'] w (yRd (val x s) (val y 1) w):=by
 have hy:=h'.2.2.1
 have c31:=zZg _ 1 c' y w (by omega) h'
 rw [hys] at c31
 have hy0:y 0≠0:=by have:=zJc (x:=y) 1 (by omega);rw [hys] at this;exact this
 have hyb:=hy 0
 have ev:val y 1=y 0:=by simp [val]
 have c107:=zIv (some ⟨ga,0,none⟩) s c x (y 0) w (by omega) h (by omega)
 have hc:gb<w.heap.size/\w.cell? ⟨gb,0,none⟩=some (.int .u64 (y 0)):=by
  rcases h'.2.2.2.2 with ⟨h,_⟩|⟨b',off',h,hbs,hc⟩
  ·cases h
  ·cases h;exact ⟨hbs,hc 0 (by omega)⟩
 obtain ⟨hgb,hcc⟩:=hc
 rw [ev]
 clear h h'
 go_enter Tryz.func56,Tryz.ntmps56
 go_wp2_with (first|(go_at_call 98;refine c31.mono ?_;rintro e w' ⟨rfl,rfl⟩)|(go_at_call 45;refine c107.mono ?_;rintro e w1 ⟨g,k,cap,z,g',k',cap',z',rfl,hk,hk',hN,hN',hv,hv',hB,ht⟩))
 go_ret2
 exact ⟨g,k,cap,z,g',k',cap',z',rfl,by omega,by omega,hN,hN',hv,hv',hB,ht⟩
theorem zA3 {K N D:Nat}{vn vd:Value}{w:World}(hK:K<=20000)(h:NT K N vn w)(h':NT K D vd w)(hD:D≠0) :
  Calls Tryz.prog 56 #[vn,vd] w fun e w'=>∃ q r,e=.returned (.tuple #[q,r])/\NV 41000 (N/D) q w'/\NT 41000 (N%D) r w'/\Below w.heap.size w w':=by
 have hk0:=h'.zero
 obtain ⟨ga,s,c,x,rfl,hs,hN,hx,hxs⟩:=h
 obtain ⟨gb,t,c',y,rfl,ht,hN',hy,hys⟩:=h'
 have fin:∀ e w',yRd (val x s) (val y t) w e w'->∃ q r,e=.returned (.tuple #[q,r])/\NV 41000 (N/D) q w'/\NT 41000 (N%D) r w'/\Below w.heap.size w w':=by
  rintro e w' ⟨g,k,cap,z,g',k',cap',z',e1,hk,hk',hA,hB,hv,hv',hb,htr⟩
  refine ⟨_,_,e1,⟨g,k,cap,z,rfl,hk,hA,?_⟩,⟨g',k',cap',z',rfl,hk',hB,?_,htr⟩,hb⟩
  ·rw [hv,hx,hy];rfl
  ·rw [hv',hx,hy];rfl
 have ht0:t≠0:=by
  intro e;subst e
  have:val y 0=0:=rfl
  omega
 by_cases ht1:t=1
 ·subst ht1
  exact (zQ3 ga gb s c c' x y w (by omega) hN hN' hys).mono fin
 ·exact (zS3 ga gb s c t c' x y w (by omega) (by omega) (by omega) hN hN' hxs hys).mono fin
end
section
theorem zL8 {z:Nat->Int}{k V:Nat}(hk:0<k)(hv:val z k=(V:Int)):(V:Int)%2=z 0%2:=by
 have key:∀ j,val z (j+1)%2=z 0%2:=by
  intro j
  induction j with
  | zero=>simp [val]
  | succ j ih =>
   have:val z (j+1+1)=val z (j+1)+z (j+1)*18446744073709551616^(j+1):=rfl
   rw [this,Int.pow_succ,show z (j+1)*(18446744073709551616^j*18446744073709551616)=2*(z (j+1)*18446744073709551616^j*9223372036854775808) by grind,Int.add_mul_emod_self_left]
   exact ih
 obtain ⟨j,rfl⟩:∃ j,k=j+1:=⟨k-1,by omega⟩
 rw [← hv];exact key j
theorem q2_nv {K V:Nat}{v:Value}{w:World}(hK:K<1000000)(h:NV K V v w) :
  CQ 132 #[v] w (.bool (decide (V%2=1))):=by
 obtain ⟨g,k,cap,z,rfl,hk,hN,hv⟩:=h
 by_cases hk0:k=0
 ·subst hk0
  obtain rfl:V=0:=by have:val z 0=0:=rfl;omega
  go_enter Tryz.func132,Tryz.ntmps132
  go_wp2
  go_ret
  exact ⟨by simp,rfl⟩
 ·have ho:=zL8 (by omega) hv
  have hc:g<w.heap.size/\w.cell? ⟨g,0,none⟩=some (.int .u64 (z 0)):=by
   rcases hN.2.2.2.2 with ⟨h,_⟩|⟨b',off',h,hbs,hc⟩
   ·cases h
   ·cases h;exact ⟨hbs,hc 0 (by omega)⟩
  obtain ⟨hgb,hcc⟩:=hc
  have hz:=hN.2.2.1 0
  have hki:(0:Int)<k:=by omega
  have hcap:=hN.1
  have HO:Hid (decide (V%2=1)=(z 0%2==1)):=by
   show _=_
   by_cases h:z 0%2=1
   ·rw [h];simp;omega
   ·rw [decide_eq_false (by omega)];simp [h]
  clear hN ho hv
  go_enter Tryz.func132,Tryz.ntmps132
  go_wp2
  go_ret
  exact ⟨by rw [HO.out];simp,rfl⟩
attribute [local irreducible] NV NT
section
variable (d hv:Int)(s odd:Bool)(va vb:Value)(Q:Nat)(w:World)
 (c99:Calls Tryz.prog 56 #[va,vb] w fun e w1=>∃ q g k cap,e=.returned (.tuple #[q,.slice (some ⟨g,0,none⟩) k cap])/\k≠0/\NV 41000 Q q w1/\Below w.heap.size w w1/\Calls Tryz.prog 95 #[.slice (some ⟨g,0,none⟩) k cap,.int .i64 1] w1 fun e w2=>∃ r2,e=.returned r2/\Below w1.heap.size w1 w2/\Calls Tryz.prog 42 #[r2,vb] w2 fun e w3=>e=.returned (.int .i64 hv)/\w2=w3)
 (c100:∀ W q,NV 41000 Q q W->CQ 132 #[q] W (.bool odd))
 (c24:∀ W q v,NV 41000 Q q W->NV 1 1 v W->CE 48 #[q,v] W (NV 41002 (Q+1)))
include c99 c100 c24
theorem wh_0g (h:0<hv):Calls Tryz.prog 87 #[.int .i64 0,.bool s,va,vb] w fun e w'=>∃ q,e=.returned (.tuple #[q,.bool false])/\NV 41002 (Q+1) q w'/\Below w.heap.size w w':=by
 go_enter Tryz.func87,Tryz.ntmps87
 go_wp2_with (first
  | (go_at_call 56;refine c99.mono ?_;rintro e w1 ⟨q,g,k,cap,rfl,hk,hq,hb1,c84⟩;have hki:((k:Int)==0)=false:=by simp;omega)
  | (go_at_call 95;refine c84.mono ?_;rintro e w2 ⟨r2,rfl,hb2,c21⟩;have hq2:=hq.next hb2;have hB2:=hb1.trans (hb2.mono hb1.size))
  | (go_at_call 42;refine c21.mono ?_;rintro e w3 ⟨rfl,rfl⟩)
  | (go_at_call 132;refine (c100 _ _ hq2).mono ?_;rintro e w4 ⟨rfl,rfl⟩)
  | (go_at_call 48;refine (c24 _ _ _ (hq2.next (zEa _ _)) (zOf rfl rfl (by decide))).mono ?_;rintro e w5 ⟨r5,rfl,hr5,hb5⟩))
 have hB3:=hB2.trans ((zEa w2 (.cells #[.int .u64 1] 22)).mono hB2.size)
 exact bodyPost_ret (v:=.tuple #[r5,.bool false]) (by simp only [results,Tryz.results87];go_simp) rfl ⟨_,rfl,hr5,hB3.trans (hb5.mono hB3.size)⟩
theorem wh_0eo (h:hv=0)(h1:odd=true):Calls Tryz.prog 87 #[.int .i64 0,.bool s,va,vb] w fun e w'=>∃ q,e=.returned (.tuple #[q,.bool false])/\NV 41002 (Q+1) q w'/\Below w.heap.size w w':=by
 subst h h1
 go_enter Tryz.func87,Tryz.ntmps87
 go_wp2_with (first
  | (go_at_call 56;refine c99.mono ?_;rintro e w1 ⟨q,g,k,cap,rfl,hk,hq,hb1,c84⟩;have hki:((k:Int)==0)=false:=by simp;omega)
  | (go_at_call 95;refine c84.mono ?_;rintro e w2 ⟨r2,rfl,hb2,c21⟩;have hq2:=hq.next hb2;have hB2:=hb1.trans (hb2.mono hb1.size))
  | (go_at_call 42;refine c21.mono ?_;rintro e w3 ⟨rfl,rfl⟩)
  | (go_at_call 132;refine (c100 _ _ hq2).mono ?_;rintro e w4 ⟨rfl,rfl⟩)
  | (go_at_call 48;refine (c24 _ _ _ (hq2.next (zEa _ _)) (zOf rfl rfl (by decide))).mono ?_;rintro e w5 ⟨r5,rfl,hr5,hb5⟩))
 have hB3:=hB2.trans ((zEa w2 (.cells #[.int .u64 1] 22)).mono hB2.size)
 exact bodyPost_ret (v:=.tuple #[r5,.bool false]) (by simp only [results,Tryz.results87];go_simp) rfl ⟨_,rfl,hr5,hB3.trans (hb5.mono hB3.size)⟩
theorem wh_0en (h:hv=0)(h1:odd=false):Calls Tryz.prog 87 #[.int .i64 0,.bool s,va,vb] w fun e w'=>∃ q,e=.returned (.tuple #[q,.bool false])/\NV 41002 (Q) q w'/\Below w.heap.size w w':=by
 subst h h1
 go_enter Tryz.func87,Tryz.ntmps87
 go_wp2_with (first
  | (go_at_call 56;refine c99.mono ?_;rintro e w1 ⟨q,g,k,cap,rfl,hk,hq,hb1,c84⟩;have hki:((k:Int)==0)=false:=by simp;omega)
  | (go_at_call 95;refine c84.mono ?_;rintro e w2 ⟨r2,rfl,hb2,c21⟩;have hq2:=hq.next hb2;have hB2:=hb1.trans (hb2.mono hb1.size))
  | (go_at_call 42;refine c21.mono ?_;rintro e w3 ⟨rfl,rfl⟩)
  | (go_at_call 132;refine (c100 _ _ hq2).mono ?_;rintro e w4 ⟨rfl,rfl⟩)
  | (go_at_call 48;refine (c24 _ _ _ (hq2.next (zEa _ _)) (zOf rfl rfl (by decide))).mono ?_;rintro e w5 ⟨r5,rfl,hr5,hb5⟩))
 exact bodyPost_ret (v:=.tuple #[q,.bool false]) (by simp only [results,Tryz.results87];go_simp) rfl ⟨_,rfl,hq2.more (by decide),hB2⟩
theorem wh_0l (h:¬ 0<hv)(h1:(hv==0)=false):Calls Tryz.prog 87 #[.int .i64 0,.bool s,va,vb] w fun e w'=>∃ q,e=.returned (.tuple #[q,.bool false])/\NV 41002 (Q) q w'/\Below w.heap.size w w':=by
 go_enter Tryz.func87,Tryz.ntmps87
 go_wp2_with (first
  | (go_at_call 56;refine c99.mono ?_;rintro e w1 ⟨q,g,k,cap,rfl,hk,hq,hb1,c84⟩;have hki:((k:Int)==0)=false:=by simp;omega)
  | (go_at_call 95;refine c84.mono ?_;rintro e w2 ⟨r2,rfl,hb2,c21⟩;have hq2:=hq.next hb2;have hB2:=hb1.trans (hb2.mono hb1.size))
  | (go_at_call 42;refine c21.mono ?_;rintro e w3 ⟨rfl,rfl⟩)
  | (go_at_call 132;refine (c100 _ _ hq2).mono ?_;rintro e w4 ⟨rfl,rfl⟩)
  | (go_at_call 48;refine (c24 _ _ _ (hq2.next (zEa _ _)) (zOf rfl rfl (by decide))).mono ?_;rintro e w5 ⟨r5,rfl,hr5,hb5⟩))
 exact bodyPost_ret (v:=.tuple #[q,.bool false]) (by simp only [results,Tryz.results87];go_simp) rfl ⟨_,rfl,hq2.more (by decide),hB2⟩
theorem wh_1g (h:0<=hv):Calls Tryz.prog 87 #[.int .i64 1,.bool s,va,vb] w fun e w'=>∃ q,e=.returned (.tuple #[q,.bool false])/\NV 41002 (Q+1) q w'/\Below w.heap.size w w':=by
 go_enter Tryz.func87,Tryz.ntmps87
 go_wp2_with (first
  | (go_at_call 56;refine c99.mono ?_;rintro e w1 ⟨q,g,k,cap,rfl,hk,hq,hb1,c84⟩;have hki:((k:Int)==0)=false:=by simp;omega)
  | (go_at_call 95;refine c84.mono ?_;rintro e w2 ⟨r2,rfl,hb2,c21⟩;have hq2:=hq.next hb2;have hB2:=hb1.trans (hb2.mono hb1.size))
  | (go_at_call 42;refine c21.mono ?_;rintro e w3 ⟨rfl,rfl⟩)
  | (go_at_call 132;refine (c100 _ _ hq2).mono ?_;rintro e w4 ⟨rfl,rfl⟩)
  | (go_at_call 48;refine (c24 _ _ _ (hq2.next (zEa _ _)) (zOf rfl rfl (by decide))).mono ?_;rintro e w5 ⟨r5,rfl,hr5,hb5⟩))
 have hB3:=hB2.trans ((zEa w2 (.cells #[.int .u64 1] 22)).mono hB2.size)
 exact bodyPost_ret (v:=.tuple #[r5,.bool false]) (by simp only [results,Tryz.results87];go_simp) rfl ⟨_,rfl,hr5,hB3.trans (hb5.mono hB3.size)⟩
theorem wh_1l (h:¬ 0<=hv):Calls Tryz.prog 87 #[.int .i64 1,.bool s,va,vb] w fun e w'=>∃ q,e=.returned (.tuple #[q,.bool false])/\NV 41002 (Q) q w'/\Below w.heap.size w w':=by
 go_enter Tryz.func87,Tryz.ntmps87
 go_wp2_with (first
  | (go_at_call 56;refine c99.mono ?_;rintro e w1 ⟨q,g,k,cap,rfl,hk,hq,hb1,c84⟩;have hki:((k:Int)==0)=false:=by simp;omega)
  | (go_at_call 95;refine c84.mono ?_;rintro e w2 ⟨r2,rfl,hb2,c21⟩;have hq2:=hq.next hb2;have hB2:=hb1.trans (hb2.mono hb1.size))
  | (go_at_call 42;refine c21.mono ?_;rintro e w3 ⟨rfl,rfl⟩)
  | (go_at_call 132;refine (c100 _ _ hq2).mono ?_;rintro e w4 ⟨rfl,rfl⟩)
  | (go_at_call 48;refine (c24 _ _ _ (hq2.next (zEa _ _)) (zOf rfl rfl (by decide))).mono ?_;rintro e w5 ⟨r5,rfl,hr5,hb5⟩))
 exact bodyPost_ret (v:=.tuple #[q,.bool false]) (by simp only [results,Tryz.results87];go_simp) rfl ⟨_,rfl,hq2.more (by decide),hB2⟩
theorem wh_2:Calls Tryz.prog 87 #[.int .i64 2,.bool s,va,vb] w fun e w'=>∃ q,e=.returned (.tuple #[q,.bool false])/\NV 41002 (Q) q w'/\Below w.heap.size w w':=by
 go_enter Tryz.func87,Tryz.ntmps87
 go_wp2_with (first
  | (go_at_call 56;refine c99.mono ?_;rintro e w1 ⟨q,g,k,cap,rfl,hk,hq,hb1,c84⟩;have hki:((k:Int)==0)=false:=by simp;omega)
  | (go_at_call 95;refine c84.mono ?_;rintro e w2 ⟨r2,rfl,hb2,c21⟩;have hq2:=hq.next hb2;have hB2:=hb1.trans (hb2.mono hb1.size))
  | (go_at_call 42;refine c21.mono ?_;rintro e w3 ⟨rfl,rfl⟩)
  | (go_at_call 132;refine (c100 _ _ hq2).mono ?_;rintro e w4 ⟨rfl,rfl⟩)
  | (go_at_call 48;refine (c24 _ _ _ (hq2.next (zEa _ _)) (zOf rfl rfl (by decide))).mono ?_;rintro e w5 ⟨r5,rfl,hr5,hb5⟩))
 exact bodyPost_ret (v:=.tuple #[q,.bool false]) (by simp only [results,Tryz.results87];go_simp) rfl ⟨_,rfl,hq2.more (by decide),hB2⟩
theorem wh_3f:Calls Tryz.prog 87 #[.int .i64 3,.bool false,va,vb] w fun e w'=>∃ q,e=.returned (.tuple #[q,.bool false])/\NV 41002 (Q+1) q w'/\Below w.heap.size w w':=by
 go_enter Tryz.func87,Tryz.ntmps87
 go_wp2_with (first
  | (go_at_call 56;refine c99.mono ?_;rintro e w1 ⟨q,g,k,cap,rfl,hk,hq,hb1,c84⟩;have hki:((k:Int)==0)=false:=by simp;omega)
  | (go_at_call 95;refine c84.mono ?_;rintro e w2 ⟨r2,rfl,hb2,c21⟩;have hq2:=hq.next hb2;have hB2:=hb1.trans (hb2.mono hb1.size))
  | (go_at_call 42;refine c21.mono ?_;rintro e w3 ⟨rfl,rfl⟩)
  | (go_at_call 132;refine (c100 _ _ hq2).mono ?_;rintro e w4 ⟨rfl,rfl⟩)
  | (go_at_call 48;refine (c24 _ _ _ (hq2.next (zEa _ _)) (zOf rfl rfl (by decide))).mono ?_;rintro e w5 ⟨r5,rfl,hr5,hb5⟩))
 have hB3:=hB2.trans ((zEa w2 (.cells #[.int .u64 1] 22)).mono hB2.size)
 exact bodyPost_ret (v:=.tuple #[r5,.bool false]) (by simp only [results,Tryz.results87];go_simp) rfl ⟨_,rfl,hr5,hB3.trans (hb5.mono hB3.size)⟩
theorem wh_3t:Calls Tryz.prog 87 #[.int .i64 3,.bool true,va,vb] w fun e w'=>∃ q,e=.returned (.tuple #[q,.bool false])/\NV 41002 (Q) q w'/\Below w.heap.size w w':=by
 go_enter Tryz.func87,Tryz.ntmps87
 go_wp2_with (first
  | (go_at_call 56;refine c99.mono ?_;rintro e w1 ⟨q,g,k,cap,rfl,hk,hq,hb1,c84⟩;have hki:((k:Int)==0)=false:=by simp;omega)
  | (go_at_call 95;refine c84.mono ?_;rintro e w2 ⟨r2,rfl,hb2,c21⟩;have hq2:=hq.next hb2;have hB2:=hb1.trans (hb2.mono hb1.size))
  | (go_at_call 42;refine c21.mono ?_;rintro e w3 ⟨rfl,rfl⟩)
  | (go_at_call 132;refine (c100 _ _ hq2).mono ?_;rintro e w4 ⟨rfl,rfl⟩)
  | (go_at_call 48;refine (c24 _ _ _ (hq2.next (zEa _ _)) (zOf rfl rfl (by decide))).mono ?_;rintro e w5 ⟨r5,rfl,hr5,hb5⟩))
 exact bodyPost_ret (v:=.tuple #[q,.bool false]) (by simp only [results,Tryz.results87];go_simp) rfl ⟨_,rfl,hq2.more (by decide),hB2⟩
theorem wh_4t:Calls Tryz.prog 87 #[.int .i64 4,.bool true,va,vb] w fun e w'=>∃ q,e=.returned (.tuple #[q,.bool false])/\NV 41002 (Q+1) q w'/\Below w.heap.size w w':=by
 go_enter Tryz.func87,Tryz.ntmps87
 go_wp2_with (first
  | (go_at_call 56;refine c99.mono ?_;rintro e w1 ⟨q,g,k,cap,rfl,hk,hq,hb1,c84⟩;have hki:((k:Int)==0)=false:=by simp;omega)
  | (go_at_call 95;refine c84.mono ?_;rintro e w2 ⟨r2,rfl,hb2,c21⟩;have hq2:=hq.next hb2;have hB2:=hb1.trans (hb2.mono hb1.size))
  | (go_at_call 42;refine c21.mono ?_;rintro e w3 ⟨rfl,rfl⟩)
  | (go_at_call 132;refine (c100 _ _ hq2).mono ?_;rintro e w4 ⟨rfl,rfl⟩)
  | (go_at_call 48;refine (c24 _ _ _ (hq2.next (zEa _ _)) (zOf rfl rfl (by decide))).mono ?_;rintro e w5 ⟨r5,rfl,hr5,hb5⟩))
 have hB3:=hB2.trans ((zEa w2 (.cells #[.int .u64 1] 22)).mono hB2.size)
 exact bodyPost_ret (v:=.tuple #[r5,.bool false]) (by simp only [results,Tryz.results87];go_simp) rfl ⟨_,rfl,hr5,hB3.trans (hb5.mono hB3.size)⟩
theorem wh_4f:Calls Tryz.prog 87 #[.int .i64 4,.bool false,va,vb] w fun e w'=>∃ q,e=.returned (.tuple #[q,.bool false])/\NV 41002 (Q) q w'/\Below w.heap.size w w':=by
 go_enter Tryz.func87,Tryz.ntmps87
 go_wp2_with (first
  | (go_at_call 56;refine c99.mono ?_;rintro e w1 ⟨q,g,k,cap,rfl,hk,hq,hb1,c84⟩;have hki:((k:Int)==0)=false:=by simp;omega)
  | (go_at_call 95;refine c84.mono ?_;rintro e w2 ⟨r2,rfl,hb2,c21⟩;have hq2:=hq.next hb2;have hB2:=hb1.trans (hb2.mono hb1.size))
  | (go_at_call 42;refine c21.mono ?_;rintro e w3 ⟨rfl,rfl⟩)
  | (go_at_call 132;refine (c100 _ _ hq2).mono ?_;rintro e w4 ⟨rfl,rfl⟩)
  | (go_at_call 48;refine (c24 _ _ _ (hq2.next (zEa _ _)) (zOf rfl rfl (by decide))).mono ?_;rintro e w5 ⟨r5,rfl,hr5,hb5⟩))
 exact bodyPost_ret (v:=.tuple #[q,.bool false]) (by simp only [results,Tryz.results87];go_simp) rfl ⟨_,rfl,hq2.more (by decide),hB2⟩
end
theorem wh_z (d:Int)(s:Bool)(va vb:Value)(Q:Nat)(w:World)
  (c99:Calls Tryz.prog 56 #[va,vb] w fun e w1=>∃ q g cap,e=.returned (.tuple #[q,.slice (some ⟨g,0,none⟩) 0 cap])/\NV 41000 Q q w1/\Below w.heap.size w w1) :
  Calls Tryz.prog 87 #[.int .i64 d,.bool s,va,vb] w fun e w'=>∃ q,e=.returned (.tuple #[q,.bool true])/\NV 41002 Q q w'/\Below w.heap.size w w':=by
 go_enter Tryz.func87,Tryz.ntmps87
 go_wp2_with (go_at_call 56;refine c99.mono ?_;rintro e w1 ⟨q,g,cap,rfl,hq,hb1⟩)
 exact bodyPost_ret (v:=.tuple #[q,.bool true]) (by simp only [results,Tryz.results87];go_simp) rfl ⟨_,rfl,hq.more (by decide),hb1⟩
theorem zP1 {K A B:Nat}{va vb:Value}{w:World}(d:Int)(s:Bool)(hkn:knB d)(hK:K<=20000)(h:NT K A va w)(h':NT K B vb w)(hB:B≠0) :
  Calls Tryz.prog 87 #[.int .i64 d,.bool s,va,vb] w fun e w'=>∃ q,e=.returned (.tuple #[q,.bool (decide (A%B=0))])/\NV 41002 (whC d s A B) q w'/\Below w.heap.size w w':=by
 have c99:=zA3 hK h h' hB
 unfold whC
 by_cases hR:A%B=0
 ·rw [decide_eq_true hR,hR,show faB d s (decide (A/B%2=1)) 0 B=false from if_pos rfl]
  rw [hR] at c99
  refine wh_z d s va vb _ w (c99.mono fun e w1 ⟨q,r,e1,e2,e3,e4⟩=>?_)
  obtain ⟨g,k,cap,rfl,_,hz⟩:=e3.zero
  obtain rfl:=hz.2 rfl
  exact ⟨q,g,cap,e1,e2,e4⟩
 ·rw [decide_eq_false hR]
  have c99':Calls Tryz.prog 56 #[va,vb] w fun e w1=>∃ q g k cap,e=.returned (.tuple #[q,.slice (some ⟨g,0,none⟩) k cap])/\k≠0/\NV 41000 (A/B) q w1/\Below w.heap.size w w1/\Calls Tryz.prog 95 #[.slice (some ⟨g,0,none⟩) k cap,.int .i64 1] w1 fun e w2=>∃ r2,e=.returned r2/\Below w1.heap.size w1 w2/\Calls Tryz.prog 42 #[r2,vb] w2 fun e w3=>e=.returned (.int .i64 (sgn ((A%B+A%B:Nat):Int) (B:Int)))/\w2=w3:=by
   refine c99.mono fun e w1 ⟨q,r,e1,e2,e3,e4⟩=>?_
   have c84:=zF3 1 (by decide) (by decide) e3.nv
   obtain ⟨g,k,cap,rfl,_,hz⟩:=e3.zero
   refine ⟨q,g,k,cap,e1,fun hk=>hR (hz.1 hk),e2,e4,c84.mono fun e w2 ⟨r2,f1,f2,f3⟩=>⟨r2,f1,f3,?_⟩⟩
   have:=zWj (by decide) (by omega) f2.nv ((h'.next e4).next f3).nv
   rw [Nat.pow_one,Nat.mul_two] at this
   exact this
  have c100:=fun W q (hq:NV 41000 (A/B) q W)=>q2_nv (by decide) hq
  have c24:=fun W q v (hq:NV 41000 (A/B) q W) (h1:NV 1 1 v W)=>zLx (by decide) (by decide) hq h1
  have hd:d=0∨d=1∨d=2∨d=3∨d=4:=by unfold knB at hkn;omega
  have sw:=zUc ((A%B+A%B:Nat):Int) (B:Int)
  unfold faB
  rw [if_neg hR]
  rcases hd with rfl|rfl|rfl|rfl|rfl
  ·rw [if_pos rfl]
   rcases sw with ⟨a,e⟩|⟨a,e⟩|⟨a,e⟩
   ·rw [decide_eq_false (show ¬ B<A%B+A%B by omega),decide_eq_false (show ¬ A%B+A%B=B by omega)]
    exact wh_0l _ s _ va vb _ w c99' c100 c24 (by omega) (by rw [e];rfl)
   ·rw [decide_eq_false (show ¬ B<A%B+A%B by omega),decide_eq_true (show A%B+A%B=B by omega)]
    cases ho:decide (A/B%2=1)
    ·exact wh_0en _ s _ va vb _ w c99' c100 c24 e ho
    ·exact wh_0eo _ s _ va vb _ w c99' c100 c24 e ho
   ·rw [decide_eq_true (show B<A%B+A%B by omega)]
    exact wh_0g _ s _ va vb _ w c99' c100 c24 (by omega)
  ·rw [if_neg (show ¬ (1:Int)=0 by decide),if_pos (show (1:Int)=1 from rfl)]
   rcases sw with ⟨a,e⟩|⟨a,e⟩|⟨a,e⟩
   ·rw [decide_eq_false (show ¬ B<=A%B+A%B by omega)]
    exact wh_1l _ s _ va vb _ w c99' c100 c24 (by omega)
   ·rw [decide_eq_true (show B<=A%B+A%B by omega)]
    exact wh_1g _ s _ va vb _ w c99' c100 c24 (by omega)
   ·rw [decide_eq_true (show B<=A%B+A%B by omega)]
    exact wh_1g _ s _ va vb _ w c99' c100 c24 (by omega)
  ·exact wh_2 _ s _ va vb _ w c99' c100 c24
  ·cases s
   ·exact wh_3f _ _ va vb _ w c99' c100 c24
   ·exact wh_3t _ _ va vb _ w c99' c100 c24
  ·cases s
   ·exact wh_4f _ _ va vb _ w c99' c100 c24
   ·exact wh_4t _ _ va vb _ w c99' c100 c24
end
section
theorem NT.stays (K V:Nat):zJ1 (NT K V):=fun v w w' h hb=>h.next hb
section
variable {a:Act}{w:World}{K:Act->World->Prop}{Q:Exit->Act->World->Prop}{d p q r:Nat}{ty:TypeId}{pos:String}{after:Array Edge}{gd:Option (Nat×Bool)}
end
end
section
theorem zIo (a:Act):∀ (D:List Nat) (b:Act),(D.foldl (fun b d=>b.put (some d) (slot a d)) b).tmps.size=b.tmps.size/\(D.foldl (fun b d=>b.put (some d) (slot a d)) b).defers=b.defers/\∀ t,t<b.tmps.size->slot (D.foldl (fun b d=>b.put (some d) (slot a d)) b) t=if t ∈ D then slot a t else slot b t
 | [],b=>⟨rfl,rfl,fun t ht=>by simp⟩
 | d::D,b=>by
  obtain ⟨h1,h2,h3⟩:=zIo a D (b.put (some d) (slot a d))
  have hs:(b.put (some d) (slot a d)).tmps.size=b.tmps.size:=by simp [Act.put]
  refine ⟨h1.trans hs,h2,fun t ht=>?_⟩
  rw [List.foldl_cons,h3 t (by rw [hs];exact ht)]
  by_cases hD:t ∈ D
  ·rw [if_pos hD,if_pos (List.mem_cons_of_mem _ hD)]
  ·rw [if_neg hD]
   by_cases hd:t=d
   ·subst hd
    rw [if_pos List.mem_cons_self,zVf ht]
   ·rw [if_neg (by simp [hd,hD]),zOb (fun h=>hd h.symm)]
theorem zTs {a a0:Act}(D:List Nat)(n:Nat)(hn:D.length=n)(hsz:a.tmps.size=a0.tmps.size)(hdf:a.defers=a0.defers)(hF:∀ t,(∀ i,i<n->D.getD i 0≠t)->slot a t=slot a0 t) :
  a=D.foldl (fun b d=>b.put (some d) (slot a d)) a0:=by
 obtain ⟨h1,h2,h3⟩:=zIo a D a0
 generalize D.foldl (fun b d=>b.put (some d) (slot a d)) a0=b at *
 have key:∀ t,t<a0.tmps.size->slot a t=slot b t:=fun t ht=>by
  rw [h3 t ht]
  by_cases hD:t ∈ D
  ·rw [if_pos hD]
  ·rw [if_neg hD]
   refine hF t fun i hi e=>hD ?_
   rw [← e,List.getD_eq_getElem?_getD,List.getElem?_eq_getElem (by omega)]
   exact List.getElem_mem _
 have ht:a.tmps=b.tmps:=by
  apply Array.ext (by omega)
  intro i h4 h5
  have:=key i (by omega)
  unfold slot at this
  rw [Array.getElem?_eq_getElem h4,Array.getElem?_eq_getElem h5] at this
  exact this
 cases a;cases b
 simp only at ht hdf h2 ⊢
 rw [ht,hdf,h2]
attribute [local irreducible] W4 NT NV
end
section
def zXm (n:Nat):Code->Option (List Oper)
 | .region i o _=>if i=n then some o.toList else none
 | .seq a b=>match zXm n a with|some l=>some l|none=>zXm n b
 | .cond _ a b=>match zXm n a with|some l=>some l|none=>zXm n b
 | .block _ c=>zXm n c
 | .loop c=>zXm n c
 | _=>none
abbrev iW (v:Value):Value->World->Prop:=fun x _=>x=v
section
variable {P:Program}{a:Act}{w:World}{K:Act->World->Prop}{Q:Exit->Act->World->Prop}{d p q:Nat}{ty:TypeId}{pos:String}{after:Array Edge}{gd:Option (Nat×Bool)}
theorem zFq {v:Value}(h1:slot a p=v)(hK:K (a.put (some d) v) w):Oper.wp P { dst:=some d,op:=Op.move (Operand.tmp p),type:=ty,pos:=pos,after:=after,guard:=gd } a w K Q:=by
 unfold slot at h1
 simp [go_sem,h1]
 exact hK
theorem yOa {v:Value}(h1:slot a p=v)(hK:K (a.put (some d) v) w):Oper.wp P { dst:=some d,op:=Op.assign (Operand.tmp p),type:=ty,pos:=pos,after:=after,guard:=gd } a w K Q:=by
 unfold slot at h1
 simp [go_sem,h1]
 exact hK
theorem zEh {g i:Nat}{v:Value}(h1:slot a p=.pointer (some ⟨g,i,none⟩))(h2:w.cell? ⟨g,i,none⟩=some v)(hK:K (a.put (some d) v) w):Oper.wp Tryz.prog { dst:=some d,op:=Op.load 3 (Operand.tmp p),type:=ty,pos:=pos,after:=after,guard:=gd } a w K Q:=by
 unfold slot at h1
 simp [go_sem,h1,h2]
 exact hK
end
end
section
section
variable {a:Act}{w:World}{K:Act->World->Prop}{Q:Exit->Act->World->Prop}{d p:Nat}{ty:TypeId}{pos:String}{after:Array Edge}{gd:Option (Nat×Bool)}
theorem zT3 {F:Nat}{p0:Nat}{u0:Value}{ts:Array TypeId}(hr:Sem.run Tryz.prog (callFunc F #[u0]) w=.ok (.enter F #[u0]) w)(h0:slot a p0=u0)(hc:Calls Tryz.prog F #[u0] w fun e w'=>∃ v,e=.returned v/\K (a.put (some d) v) w'):Oper.wp Tryz.prog { dst:=some d,op:=Op.call { callee:=Callee.value (Operand.func F),args:=#[Operand.tmp p0],argTypes:=ts },type:=ty,pos:=pos,after:=after,guard:=gd } a w K Q:=by
 unfold slot at h0
 simp [go_sem,h0,hr]
 refine hc.mono ?_
 rintro e w' ⟨v,rfl,hK⟩
 exact hK
theorem zNo {P:Program}{vs:Array Value}{i:Nat}{v:Value}(h1:slot a p=.tuple vs)(h2:vs[i]?=some v)(hK:K (a.put (some d) v) w):Oper.wp P { dst:=some d,op:=Op.extract (Operand.tmp p) i,type:=ty,pos:=pos,after:=after,guard:=gd } a w K Q:=by
 unfold slot at h1
 simp [go_sem,h1,h2]
 exact hK
end
end
section
attribute [local irreducible] W4 NT
structure B4 (g X:Nat) (w:World):Prop where
 lt:g<w.heap.size
 c0:w.cell? ⟨g,0,none⟩=some (.int .u64 (W4 X 0))
 c1:w.cell? ⟨g,1,none⟩=some (.int .u64 (W4 X 1))
 c2:w.cell? ⟨g,2,none⟩=some (.int .u64 (W4 X 2))
 c3:w.cell? ⟨g,3,none⟩=some (.int .u64 (W4 X 3))
 f0:w.frozen? ⟨g,0,none⟩=false
 f1:w.frozen? ⟨g,1,none⟩=false
 f2:w.frozen? ⟨g,2,none⟩=false
 f3:w.frozen? ⟨g,3,none⟩=false
theorem B4.next {g X:Nat}{w w':World}(h:B4 g X w)(hb:Below w.heap.size w w'):B4 g X w' :=
 ⟨Nat.lt_of_lt_of_le h.lt hb.size,(hb.cell (p:=⟨g,0,none⟩) h.lt).trans h.c0,(hb.cell (p:=⟨g,1,none⟩) h.lt).trans h.c1,(hb.cell (p:=⟨g,2,none⟩) h.lt).trans h.c2,(hb.cell (p:=⟨g,3,none⟩) h.lt).trans h.c3,
  (hb.frozen (p:=⟨g,0,none⟩) h.lt).trans h.f0,(hb.frozen (p:=⟨g,1,none⟩) h.lt).trans h.f1,(hb.frozen (p:=⟨g,2,none⟩) h.lt).trans h.f2,(hb.frozen (p:=⟨g,3,none⟩) h.lt).trans h.f3⟩
theorem B4.new (w:World)(t:TypeId):B4 w.heap.size 0 (w.alloc (.cells #[.int .u64 0,.int .u64 0,.int .u64 0,.int .u64 0] t)):=by
 refine ⟨by simp,?_,?_,?_,?_,?_,?_,?_,?_⟩<;>first|(rw [zPa];go_simp)|go_simp
abbrev put4B (w:World)(g X:Nat):World:=(((w.setCell ⟨g,0,none⟩ (.int .u64 (W4 X 0))).setCell ⟨g,1,none⟩ (.int .u64 (W4 X 1))).setCell ⟨g,2,none⟩ (.int .u64 (W4 X 2))).setCell ⟨g,3,none⟩ (.int .u64 (W4 X 3))
theorem B4.put {g X Y:Nat}{w:World}(h:B4 g X w):B4 g Y (put4B w g Y):=by
 have hsm:=zAa
 obtain ⟨h0,h1,h2,h3,h4,h5,h6,h7,h8⟩:=h
 refine ⟨by simp;exact h0,?_,?_,?_,?_,?_,?_,?_,?_⟩<;>go_simp
theorem B4.other {g h X Y:Nat}{w:World}(hB:B4 g X w)(hne:g≠h):B4 g X (put4B w h Y):=by
 obtain ⟨h0,h1,h2,h3,h4,h5,h6,h7,h8⟩:=hB
 refine ⟨by simp;exact h0,?_,?_,?_,?_,?_,?_,?_,?_⟩<;>go_simp
section
variable {P:Program}{a:Act}{w:World}{K:Act->World->Prop}{Q:Exit->Act->World->Prop}{d p q:Nat}{ty:TypeId}{pos:String}{after:Array Edge}{gd:Option (Nat×Bool)}
end
def M18 (ws:World)(X4:Nat)(L:Nat->Prop)(f:Nat->Value)(w:World):Prop :=
 Below ws.heap.size ws w/\(L 4->∃ g X,f 17=.pointer (some ⟨g,0,none⟩)/\ws.heap.size<=g/\B4 g X w/\(L 6->X=X4))/\(L 5->∃ h,f 18=.pointer (some ⟨h,0,none⟩)/\ws.heap.size<=h/\B4 h 0 w)/\(L 4->L 5->f 17≠f 18)
theorem M18.step {ws w:World}{X4 k t:Nat}{L:Nat->Prop}{f:Nat->Value}{v:Value}(h:M18 ws X4 L f w)(h1:t≠17)(h2:t≠18)(h3:k≠4)(h4:k≠5)(h5:k≠6):M18 ws X4 (fun j=>L j∨j=k) (fun u=>if some t=some u then v else f u) w:=by
 obtain ⟨a1,a2,a3,a4⟩:=h
 have e17:(if some t=some 17 then v else f 17)=f 17:=if_neg (fun e=>h1 (Option.some.inj e))
 have e18:(if some t=some 18 then v else f 18)=f 18:=if_neg (fun e=>h2 (Option.some.inj e))
 have l4:∀ {p:Prop},(p∨4=k)->p:=fun h=>h.resolve_right (fun e=>h3 e.symm)
 have l5:∀ {p:Prop},(p∨5=k)->p:=fun h=>h.resolve_right (fun e=>h4 e.symm)
 have l6:∀ {p:Prop},(p∨6=k)->p:=fun h=>h.resolve_right (fun e=>h5 e.symm)
 refine ⟨a1,fun h=>?_,fun h=>?_,fun h h'=>?_⟩
 ·obtain ⟨g,X,b1,b2,b3,b4⟩:=a2 (l4 h)
  exact ⟨g,X,e17.trans b1,b2,b3,fun h=>b4 (l6 h)⟩
 ·obtain ⟨g,b1,b2,b3⟩:=a3 (l5 h)
  exact ⟨g,e18.trans b1,b2,b3⟩
 ·show (if some t=some 17 then v else f 17)≠(if some t=some 18 then v else f 18)
  rw [e17,e18]
  exact a4 (l4 h) (l5 h')
end
end Go.Proofs.YtpabnhlfbjkmaaaGreatDoor
