/-
  Texts that the proof leans on.
-/
import Derived.Test.YtpabnhlfbjkmaaaGreatDoorR20
import Derived.Test.YtpabnhlfbjkmaaaGreatDoorR25
import Derived.Test.YtpabnhlfbjkmaaaGreatDoorR24
import Derived.Test.YtpabnhlfbjkmaaaGreatDoorR1
set_option maxHeartbeats 8000000
set_option linter.unusedVariables false
set_option linter.unusedSectionVars false
set_option linter.unusedSimpArgs false
set_option maxRecDepth 20000
namespace Go.Proofs.YtpabnhlfbjkmaaaGreatDoor
open Go.RowKit
section
def zRd (n:Int):Prop:=7<=n/\n<=12
instance (n:Int):Decidable (zRd n):=inferInstanceAs (Decidable (_/\_))
def fD (n:Int):DF:=if n=7∨n=10 then ⟨20,6,2,-101,zEc n⟩ else if n=8∨n=11 then ⟨50,8,5,-398,zEc n⟩ else ⟨110,12,11,-6176,zEc n⟩
theorem zG0 {n:Int}(h:zRd n):n=7∨n=8∨n=9∨n=10∨n=11∨n=12:=by unfold zRd at h;omega
theorem zKd (n:Int):(fD n).ok:=by
 unfold fD
 split
 ·exact Or.inl ⟨rfl,rfl,rfl,rfl⟩
 ·split
  ·exact Or.inr (Or.inl ⟨rfl,rfl,rfl,rfl⟩)
  ·exact Or.inr (Or.inr ⟨rfl,rfl,rfl,rfl⟩)
theorem zMe {n:Int}(h:zRd n):okN n/\zK1 n=n/\zTf n=10/\zLb n=(((fD n).t+((fD n).w+6):Nat):Int)/\zFf n=3*((fD n).j:Int)+1/\zNd n=(fD n).l/\zOg n=(fD n).l+3*2^(fD n).w-1/\zMo n=3*((fD n).j:Int)/\zEc n=(fD n).dn:=by
 rcases zG0 h with rfl|rfl|rfl|rfl|rfl|rfl<;>decide
def zCj (n:Int)(B:Nat):Prop:=zRd n/\B<2^((fD n).t+((fD n).w+6))
instance (n:Int) (B:Nat):Decidable (zCj n B):=inferInstanceAs (Decidable (_/\_))
theorem zAd (n:Int)(w:World):CQ 17 #[.int .i64 n] w (.bool (decide (zRd n))):=by
 by_cases h1:7<=n
 ·by_cases h2:n<=12
  ·rw [decide_eq_true (show zRd n from ⟨h1,h2⟩)]
   go_enter Tryz.func17,Tryz.ntmps17
   go_wp2
   go_ret
   exact ⟨rfl,rfl⟩
  ·rw [decide_eq_false (show ¬ zRd n from fun h=>h2 h.2)]
   go_enter Tryz.func17,Tryz.ntmps17
   go_wp2
   go_ret
   exact ⟨rfl,rfl⟩
 ·rw [decide_eq_false (show ¬ zRd n from fun h=>h1 h.1)]
  go_enter Tryz.func17,Tryz.ntmps17
  go_wp2
  go_ret
  exact ⟨rfl,rfl⟩
attribute [local irreducible] W4 NT NV
theorem zW2 (n:Nat)(w:World)(hn:n<=12000):CE 25 #[.int .u64 10,.int .i64 (n:Int)] w (NV 50000 (10^n)):=by
 refine (zY2 10 n w (by decide) (by omega)).mono ?_
 rintro r w' ⟨g,k,cap,z,rfl,hk,hN,hv,hb⟩
 refine ⟨_,rfl,?_,hb⟩
 unfold NV
 exact ⟨g,k,cap,z,rfl,by omega,hN,by rw [hv];simp⟩
theorem rpow4t (p:Nat)(w:World)(hp:p<=12000):CE 96 #[.int .i64 10,.int .i64 p] w (NV 50000 (10^p)):=by
 have c:=fun W=>zW2 p W hp
 go_enter Tryz.func96,Tryz.ntmps96
 go_wp2_with (go_at_call 25;refine (c _).mono ?_;rintro r w1 ⟨v,rfl,hv,hb1⟩)
 go_ret
 exact ⟨v,rfl,hv,hb1⟩
theorem zC9 (A B:Nat):decide (sgn (A:Int) (B:Int)<0)=decide (A<B):=by
 rcases zUc (A:Int) (B:Int) with ⟨a,e⟩|⟨a,e⟩|⟨a,e⟩
 ·rw [e,decide_eq_true (show A<B by omega)];rfl
 ·rw [e,decide_eq_false (show ¬ A<B by omega)];rfl
 ·rw [e,decide_eq_false (show ¬ A<B by omega)];rfl
theorem zKx (k p:Nat)(w:World)(hk:k<2^256)(hp:p<=12000):CB 51 #[A4 k,.int .i64 10,.int .i64 p] w (.bool (decide (k<10^p))):=by
 have c1:=fun W=>rpow4t p W hp
 have hs:=zC9 k (10^p)
 go_enter Tryz.func51,Tryz.ntmps51
 go_wp2
 go_region_with (first
  | (go_at_call 96;refine (c1 _).mono ?_;rintro e w1 ⟨v1,rfl,hl,hb1⟩;have hbx:=zPs (w0:=w) (B:=k) (t:=24) hk (zTg bgo hb1))
  | (go_at_call 42;refine (zWj (by decide) (by decide) hbx hl).mono ?_;rintro e w2 ⟨rfl,rfl⟩))
 go_wp2
 go_ret
 exact ⟨congrArg (fun b=>Ending.returned (.bool b)) hs,zTg bgo hb1⟩
abbrev zAb (n:Int)(nm:ByteArray)(wd pr ex le mo pa:Int)(dn:Bool):Value:=.agg #[.int .i64 n,.string nm,.int .i64 10,.int .i64 wd,.int .i64 pr,.int .i64 ex,.int .i64 le,.int .i64 mo,.int .i64 pa,.bool dn]
theorem zVj {n:Int}(h:zRd n)(w:World):CB 19 #[.int .i64 n] w (.tuple #[zAb n (zJd n) (((fD n).t+((fD n).w+6):Nat):Int) (3*((fD n).j:Int)+1) (zWi n) (fD n).l ((fD n).l+3*2^(fD n).w-1) (3*((fD n).j:Int)) (fD n).dn,.int .i64 0]):=by
 obtain ⟨hok,h1,h2,h3,h4,h5,h6,h7,h8⟩:=zMe h
 have c25:=zB3 n w
 rw [show zQf n=0 from if_pos hok,h1,h2,h3,h4,h5,h6,h7,h8] at c25
 exact c25
theorem zVq {b:Nat}{w w':World}(h:Below b w w')(m:Nat):Below b w (w'.drewN m):=⟨h.os,h.tape,h.output,h.size,h.block⟩
theorem rshape (n:Int)(nm:ByteArray)(wd pr ex le mo pa:Int)(dn:Bool)(G T J:Int)(w:World)(h0:0<=wd)(h1:wd<=256)(h2:1<=pr)(h3:pr<=100)(hG:wd/16+9=G)(hG0:0<=G)(hG1:G<=100)(hT:wd-1-G=T)(hJ:(pr-1)/3=J) :
  CB 52 #[zAb n nm wd pr ex le mo pa dn] w (.tuple #[.int .i64 G,.int .i64 T,.int .i64 J]):=by
 go_enter Tryz.func52,Tryz.ntmps52
 go_wp2
 go_quiet (fail)
 go_wp2
 exact bodyPost_ret (by simp only [results,Tryz.results52];go_simp) rfl ⟨rfl,zVq (zEa w _) _⟩
theorem zE0 {n:Int}(h:zRd n)(nm:ByteArray)(ex le mo pa:Int)(dn:Bool)(w:World) :
  CB 52 #[zAb n nm (((fD n).t+((fD n).w+6):Nat):Int) (3*((fD n).j:Int)+1) ex le mo pa dn] w (.tuple #[.int .i64 (((fD n).w:Int)+5),.int .i64 ((fD n).t:Int),.int .i64 ((fD n).j:Int)]):=by
 rcases zKd n with ⟨h1,h2,h3,h4⟩|⟨h1,h2,h3,h4⟩|⟨h1,h2,h3,h4⟩<;>rw [h1,h2,h3]<;>exact rshape n nm _ _ ex le mo pa dn _ _ _ w (by decide) (by decide) (by decide) (by decide) rfl (by decide) (by decide) rfl rfl
end
section
theorem zNp {k:Nat}(hk:k<2^256):decide (W4 k 0=0/\W4 k 1=0/\W4 k 2=0/\W4 k 3=0)=decide (k=0):=by
 by_cases h:k=0
 ·subst h
  rw [decide_eq_true (by simp [zPa]),decide_eq_true rfl]
 ·rw [decide_eq_false h,decide_eq_false]
  rintro ⟨h0,h1,h2,h3⟩
  refine h (zXs hk (by decide) fun i hi=>?_)
  have:i=0∨i=1∨i=2∨i=3:=by omega
  rcases this with rfl|rfl|rfl|rfl
  ·rw [h0,zPa]
  ·rw [h1,zPa]
  ·rw [h2,zPa]
  ·rw [h3,zPa]
attribute [local irreducible] W4
section
variable (n:Int)(nm:ByteArray)(wd pr ex le mo pa:Int)(dn:Bool)(c x:Int)(s g:Bool)(k:Nat)(w:World)
theorem vis1_g:CB 26 #[zAb n nm wd pr ex le mo pa dn,DV 1 s true x k] w (.bool false):=by
 go_enter Tryz.func26,Tryz.ntmps26
 go_wp2
 go_ret
 exact ⟨rfl,bgo⟩
theorem vis1_b (cb:∀ W,CB 51 #[A4 k,.int .i64 10,.int .i64 pr] W (.bool false)) :
  CB 26 #[zAb n nm wd pr ex le mo pa dn,DV 1 s false x k] w (.bool false):=by
 unfold A4 at cb
 go_enter Tryz.func26,Tryz.ntmps26
 go_wp2_with (go_at_call 51;refine wk w (cb _) ?_;intro w1 hb1 _ _ _ _ hA1 _;obtain ⟨_,_⟩:=zf hb1 (w.heap.size+1);clear hb1)
 go_ret
 exact ⟨rfl,bgo⟩
theorem vis1_l (hx:¬ le<=x)(cb:∀ W,CB 51 #[A4 k,.int .i64 10,.int .i64 pr] W (.bool true)) :
  CB 26 #[zAb n nm wd pr ex le mo pa dn,DV 1 s false x k] w (.bool false):=by
 unfold A4 at cb
 go_enter Tryz.func26,Tryz.ntmps26
 go_wp2_with (go_at_call 51;refine wk w (cb _) ?_;intro w1 hb1 _ _ _ _ hA1 _;obtain ⟨_,_⟩:=zf hb1 (w.heap.size+1);clear hb1)
 go_ret
 exact ⟨rfl,bgo⟩
theorem vis1_m (hx:le<=x)(cb:∀ W,CB 51 #[A4 k,.int .i64 10,.int .i64 pr] W (.bool true)) :
  CB 26 #[zAb n nm wd pr ex le mo pa dn,DV 1 s false x k] w (.bool (decide (x<=mo))):=by
 unfold A4 at cb
 go_enter Tryz.func26,Tryz.ntmps26
 go_wp2_with (go_at_call 51;refine wk w (cb _) ?_;intro w1 hb1 _ _ _ _ hA1 _;obtain ⟨_,_⟩:=zf hb1 (w.heap.size+1);clear hb1)
 go_ret
 exact ⟨rfl,bgo⟩
theorem vis2_g:CB 26 #[zAb n nm wd pr ex le mo pa dn,DV 2 s true x k] w (.bool false):=by
 go_enter Tryz.func26,Tryz.ntmps26
 go_wp2
 go_ret
 exact ⟨rfl,bgo⟩
theorem vis2_k (hk:k<2^256)(h0:k≠0):CB 26 #[zAb n nm wd pr ex le mo pa dn,DV 2 s false x k] w (.bool false):=by
 have h24:=zE5 (W4 k 0) (W4 k 1) (W4 k 2) (W4 k 3) 0 0 0 0
 rw [zNp hk,decide_eq_false h0] at h24
 clear h0
 unfold DV at *
 go_enter Tryz.func26,Tryz.ntmps26
 go_wp2
 go_ret
 exact ⟨rfl,bgo⟩
theorem vis2_x (h0:k=0):CB 26 #[zAb n nm wd pr ex le mo pa dn,DV 2 s false x k] w (.bool (x==0)):=by
 have h24:=zE5 (W4 k 0) (W4 k 1) (W4 k 2) (W4 k 3) 0 0 0 0
 rw [zNp (by rw [h0];decide),decide_eq_true h0] at h24
 clear h0
 unfold DV at *
 go_enter Tryz.func26,Tryz.ntmps26
 go_wp2
 go_ret
 exact ⟨rfl,bgo⟩
theorem vis3_x (hx:(x==0)=false):CB 26 #[zAb n nm wd pr ex le mo pa dn,DV 3 s g x k] w (.bool false):=by
 go_enter Tryz.func26,Tryz.ntmps26
 go_wp2
 go_ret
 exact ⟨rfl,bgo⟩
theorem vis3_b (R:Bool)(cb:∀ W,CB 51 #[A4 k,.int .i64 10,.int .i64 pa] W (.bool R)) :
  CB 26 #[zAb n nm wd pr ex le mo pa dn,DV 3 s g 0 k] w (.bool R):=by
 unfold A4 at cb
 go_enter Tryz.func26,Tryz.ntmps26
 go_wp2_with (go_at_call 51;refine wk w (cb _) ?_;intro w1 hb1 _ _ _ _ hA1 _;obtain ⟨_,_⟩:=zf hb1 (w.heap.size+1);clear hb1)
 go_ret
 exact ⟨rfl,bgo⟩
theorem vis_o (h1:(c==1)=false)(h2:(c==2)=false)(h3:(c==3)=false):CB 26 #[zAb n nm wd pr ex le mo pa dn,DV c s g x k] w (.bool false):=by
 go_enter Tryz.func26,Tryz.ntmps26
 go_wp2
 go_ret
 exact ⟨rfl,bgo⟩
end
instance (f:DF) (d:Dat):Decidable (vI f d):=inferInstanceAs (Decidable (_∨_))
theorem ris14 (f:DF)(hf:f.ok)(n:Int)(nm:ByteArray)(wd ex:Int)(dn:Bool)(d:Dat)(w:World)(hk:d.k<2^256) :
  CB 26 #[zAb n nm wd (3*(f.j:Int)+1) ex f.l (f.l+3*2^f.w-1) (3*(f.j:Int)) dn,d.v] w (.bool (decide (vI f d))):=by
 obtain ⟨c,s,g,x,k⟩:=d
 simp only at hk
 have hj:f.j<=11:=by rcases hf with ⟨h1,h2,h3,h4⟩|⟨h1,h2,h3,h4⟩|⟨h1,h2,h3,h4⟩<;>omega
 have cb1:=fun W=>zKx k (3*f.j+1) W hk (by omega)
 rw [show ((3*f.j+1:Nat):Int)=3*(f.j:Int)+1 by omega] at cb1
 have cb3:=fun W=>zKx k (3*f.j) W hk (by omega)
 rw [show ((3*f.j:Nat):Int)=3*(f.j:Int) by omega] at cb3
 by_cases h1:c=1
 ·subst h1
  have e:vI f ⟨1,s,g,x,k⟩↔(g=false/\k<10^(3*f.j+1)/\f.l<=x/\x<=f.l+3*2^f.w-1):=by
   unfold vI
   simp
  rw [decide_eq_decide.2 e]
  cases g
  ·by_cases hb:k<10^(3*f.j+1)
   ·rw [decide_eq_true hb] at cb1
    by_cases hx:f.l<=x
    ·have:=vis1_m n nm wd _ ex f.l (f.l+3*2^f.w-1) (3*(f.j:Int)) dn x s k w hx cb1
     have e2:decide (x<=f.l+3*2^f.w-1)=decide ((false:Bool)=false/\k<10^(3*f.j+1)/\f.l<=x/\x<=f.l+3*2^f.w-1):=decide_eq_decide.2 ⟨fun h=>⟨rfl,hb,hx,h⟩,fun h=>h.2.2.2⟩
     rw [e2] at this
     exact this
    ·rw [decide_eq_false (fun h=>hx h.2.2.1)]
     exact vis1_l n nm wd _ ex f.l _ _ dn x s k w hx cb1
   ·rw [decide_eq_false hb] at cb1
    rw [decide_eq_false (fun h=>hb h.2.1)]
    exact vis1_b n nm wd _ ex f.l _ _ dn x s k w cb1
  ·rw [decide_eq_false (fun h=>by cases h.1)]
   exact vis1_g n nm wd _ ex f.l _ _ dn x s k w
 by_cases h2:c=2
 ·subst h2
  have e:vI f ⟨2,s,g,x,k⟩↔(g=false/\k=0/\x=0):=by
   unfold vI
   simp
  rw [decide_eq_decide.2 e]
  cases g
  ·by_cases hz:k=0
   ·have:=vis2_x n nm wd (3*(f.j:Int)+1) ex f.l (f.l+3*2^f.w-1) (3*(f.j:Int)) dn x s k w hz
    rw [show (x==0)=decide (false=false/\k=0/\x=0) by rw [Bool.eq_iff_iff];simp [hz]] at this
    exact this
   ·rw [decide_eq_false (fun h=>hz h.2.1)]
    exact vis2_k n nm wd _ ex f.l _ _ dn x s k w hk hz
  ·rw [decide_eq_false (fun h=>by cases h.1)]
   exact vis2_g n nm wd _ ex f.l _ _ dn x s k w
 by_cases h3:c=3
 ·subst h3
  have e:vI f ⟨3,s,g,x,k⟩↔(x=0/\k<10^(3*f.j)):=by
   unfold vI
   simp
  rw [decide_eq_decide.2 e]
  by_cases hx:x=0
  ·subst hx
   have:=vis3_b n nm wd (3*(f.j:Int)+1) ex f.l (f.l+3*2^f.w-1) (3*(f.j:Int)) dn s g k w _ cb3
   rw [decide_eq_decide.2 (show (k<10^(3*f.j))↔((0:Int)=0/\k<10^(3*f.j)) from ⟨fun h=>⟨rfl,h⟩,fun h=>h.2⟩)] at this
   exact this
  ·rw [decide_eq_false (fun h=>hx h.1)]
   exact vis3_x n nm wd _ ex f.l _ _ dn x s g k w (by simp [hx])
 ·rw [decide_eq_false (show ¬ vI f ⟨c,s,g,x,k⟩ by unfold vI;simp [h1,h2,h3])]
  exact vis_o n nm wd _ ex f.l _ _ dn c x s g k w (by simp [h1]) (by simp [h2]) (by simp [h3])
end
section
theorem zGi {W:World}{g V:Nat}{vi:Int}(hg:g=W.heap.size)(hv:vi=(V:Int))(hb:V<18446744073709551616)(h0:V≠0):NT 1 V (.slice (some ⟨g,0,none⟩) 1 1) (W.alloc (.cells #[.int .u64 vi] 22)):=by
 subst hg hv
 have h1:¬ ((V:Int)=0):=by omega
 exact ⟨_,1,1,zOc V,rfl,Nat.le_refl _,zLc W V (by omega),by simp [val,zOc],by simp [sizeL,zOc,h0]⟩
theorem zUr (s m:Nat):s^m=(if m%2=1 then s else 1)*(s*s)^(m/2):=by
 have e:(s*s)^(m/2)=s^(2*(m/2)):=by rw [Nat.pow_mul];congr 1;rw [Nat.pow_succ,Nat.pow_succ,Nat.pow_zero,Nat.one_mul]
 rw [e]
 by_cases h:m%2=1
 ·rw [if_pos h,Nat.mul_comm,← Nat.pow_succ];congr 1;omega
 ·rw [if_neg h,Nat.one_mul];congr 1;omega
attribute [local irreducible] NT NV
theorem zLw (b n:Nat)(w:World)(hb0:b≠0)(hb:b<18446744073709551616)(hn:n<=12000) :
  CE 25 #[.int .u64 (b:Int),.int .i64 (n:Int)] w (NT (4*n+2) (b^n)):=by
 have hN1:=(zGi (W:=w) (g:=w.heap.size) (V:=1) (vi:=1) rfl rfl (by decide) (by decide)).next (zEa _ (.cells #[.int .u64 (b:Int)] 22))
 have hN2:=zGi (W:=w.alloc (.cells #[.int .u64 1] 22)) (g:=w.heap.size+1) (V:=b) (vi:=(b:Int)) (by simp) rfl hb hb0
 have HB:Hid (Below w.heap.size w ((w.alloc (.cells #[.int .u64 1] 22)).alloc (.cells #[.int .u64 (b:Int)] 22))):=((Below.refl _ _).alloc (Nat.le_refl _) _).alloc (by simp) _
 go_enter Tryz.func25,Tryz.ntmps25
 go_wp2
 generalize (w.alloc (.cells #[.int .u64 1] 22)).alloc (.cells #[.int .u64 (b:Int)] 22)=wA at *
 go_loopw [1,5,6] (fun nv ov sv wr=>∃ (m P X Y:Nat),nv=.int .i64 (m:Int)/\m<=n/\1<=P/\m*P<=n/\P<=2*n+1/\NT (2*P-1) X ov wr/\NT (2*P-1) Y sv wr/\Hid (X*Y^m=b^n)/\Below w.heap.size w wr) (fun nv _ _ _=>(intOf nv).toNat)
 case atStart=>exact ⟨n,1,1,b,rfl,Nat.le_refl _,Nat.le_refl _,by omega,by omega,hN1,hN2,by show _=_;rw [Nat.one_mul],HB.out⟩
 case round =>
  clear hN1 hN2 HB
  obtain ⟨m,P,X,Y,rfl,hmn,hP,hmP,hP2,hN1,hN2,hv,hB⟩:=hrel
  by_cases h0:m=0
  ·subst h0
   have HV:Hid (X=b^n):=by show _=_;have:=hv.out;rw [Nat.pow_zero,Nat.mul_one] at this;exact this
   clear hN2 hv
   go_wp2
   go_ret
   exact ⟨_,rfl,by rw [← HV.out];exact hN1.more (by omega),hB⟩
  ·have hm0:(0:Int)<m:=by omega
   have hPn:P<=n:=by
    have:1*P<=m*P:=Nat.mul_le_mul_right P (by omega)
    omega
   have hq2:(m:Int)/2=((m/2:Nat):Int):=by omega
   have hr2:(m:Int)%2=((m%2:Nat):Int):=by omega
   have hmP':m/2*(2*P)<=n:=by
    have h1:m/2*2<=m:=Nat.div_mul_le_self m 2
    have h2:m/2*2*P<=m*P:=Nat.mul_le_mul_right P h1
    rw [← Nat.mul_assoc];omega
   have HPH:Hid (Y^m=(if m%2=1 then Y else 1)*(Y*Y)^(m/2)):=zUr _ _
   generalize hq:m/2=q at *
   by_cases hodd:m%2=1
   ·rw [hodd] at hr2
    rw [if_pos hodd] at HPH
    have t1:=zZc (by omega) (by omega) hN1.nv hN2.nv
    by_cases hq0:q=0
    ·subst hq0
     have hq00:(m:Int)/2=0:=hq2
     clear hq2
     go_wp2_with (go_at_call 24;refine t1.mono ?_;rintro e w1 ⟨r1,rfl,hr1,hb1⟩;clear t1)
     have HV3:Hid (X*Y*Y^0=b^n):=by
      show _=_
      rw [← hv.out,HPH.out];simp
     have hN2':=hN2.next hb1
     have hB1:=hB.trans (hb1.mono hB.size)
     clear hN1 hN2 hv
     go_roundw
     case rel=>exact ⟨0,2*P,X*Y,Y,rfl,by omega,by omega,by omega,by omega,hr1.more (by omega),hN2'.more (by omega),HV3,hB1⟩
     case measure=>simp [intOf];omega
    ·have hq0':(0:Int)<q:=by omega
     go_wp2_with (go_at_call 24;refine t1.mono ?_;rintro e w1 ⟨r1,rfl,hr1,hb1⟩;clear t1)
     have hB1:=hB.trans (hb1.mono hB.size)
     have hN21:=hN2.next hb1
     have t2:=zZc (by omega) (by omega) hN21.nv hN21.nv
     go_wp2_with (go_at_call 24;refine t2.mono ?_;rintro e w2 ⟨r2,rfl,hr2',hb2⟩;clear t2)
     have HV3:Hid (X*Y*(Y*Y)^q=b^n):=by
      show _=_
      rw [← hv.out,HPH.out,Nat.mul_assoc]
     have hr1':=hr1.next hb2
     have hB2:=hB1.trans (hb2.mono hB1.size)
     clear hN1 hN2 hN21 hr1 hv
     go_roundw
     case rel=>exact ⟨q,2*P,X*Y,Y*Y,rfl,by omega,by omega,by omega,by omega,hr1'.more (by omega),hr2'.more (by omega),HV3,hB2⟩
     case measure=>simp [intOf];omega
   ·have h20:m%2=0:=by omega
    rw [h20] at hr2
    rw [if_neg hodd,Nat.one_mul] at HPH
    have hq0':(0:Int)<q:=by omega
    have t2:=zZc (by omega) (by omega) hN2.nv hN2.nv
    go_wp2_with (go_at_call 24;refine t2.mono ?_;rintro e w2 ⟨r2,rfl,hr2',hb2⟩;clear t2)
    have HV3:Hid (X*(Y*Y)^q=b^n):=by
     show _=_
     rw [← hv.out,HPH.out]
    have hN1':=hN1.next hb2
    have hB2:=hB.trans (hb2.mono hB.size)
    clear hN1 hN2 hv
    go_roundw
    case rel=>exact ⟨q,2*P,X,Y*Y,rfl,by omega,by omega,by omega,by omega,hN1'.more (by omega),hr2'.more (by omega),HV3,hB2⟩
    case measure=>simp [intOf];omega
end
section
def fdT (a b c:Int):Int×Int×Int :=
 if a/8=0 then
  if b/8=0 then (if c/8=0 then (bits .and .i64 (a/2) 3,bits .and .i64 (b/2) 3,bits .and .i64 (c/2) 3) else (bits .and .i64 (a/2) 3,bits .and .i64 (b/2) 3,4))
  else (if c/8=0 then (bits .and .i64 (a/2) 3,bits .and .i64 (c/2) 3,5) else (bits .and .i64 (a/2) 3,2,7))
 else
  if b/8=0 then (if c/8=0 then (bits .and .i64 (c/2) 3,bits .and .i64 (b/2) 3,6) else (bits .and .i64 (b/2) 3,1,7))
  else (if c/8=0 then (bits .and .i64 (c/2) 3,0,7) else (0,3,7))
theorem zT4 (a b c:Int)(w:World)(ha:0<=a/\a<=9)(hb:0<=b/\b<=9)(hc:0<=c/\c<=9) :
  CQ 220 #[.int .i64 a,.int .i64 b,.int .i64 c] w (.tuple #[.int .i64 (fdT a b c).1,.int .i64 (fdT a b c).2.1,.int .i64 (fdT a b c).2.2]):=by
 unfold fdT
 by_cases h1:a/8=0
 ·rw [if_pos h1]
  by_cases h2:b/8=0
  ·rw [if_pos h2]
   by_cases h3:c/8=0
   ·rw [if_pos h3]
    exact zB5 a b c _ _ _ w (fun W=>zGb a 0 ha.1 h1 W) (fun W=>zGb b 0 hb.1 h2 W) (fun W=>zGb c 0 hc.1 h3 W) ha.1 hb.1 hc.1 rfl rfl rfl
   ·rw [if_neg h3]
    exact zA5 a b c _ _ _ w (fun W=>zGb a 0 ha.1 h1 W) (fun W=>zGb b 0 hb.1 h2 W) (fun W=>zGb c 1 hc.1 (by omega) W) ha.1 hb.1 hc.1 rfl rfl rfl
  ·rw [if_neg h2]
   by_cases h3:c/8=0
   ·rw [if_pos h3]
    exact zZ4 a b c _ _ _ w (fun W=>zGb a 0 ha.1 h1 W) (fun W=>zGb b 1 hb.1 (by omega) W) (fun W=>zGb c 0 hc.1 h3 W) ha.1 hb.1 hc.1 rfl rfl rfl
   ·rw [if_neg h3]
    exact zY4 a b c _ _ _ w (fun W=>zGb a 0 ha.1 h1 W) (fun W=>zGb b 1 hb.1 (by omega) W) (fun W=>zGb c 1 hc.1 (by omega) W) ha.1 hb.1 hc.1 rfl rfl rfl
 ·rw [if_neg h1]
  by_cases h2:b/8=0
  ·rw [if_pos h2]
   by_cases h3:c/8=0
   ·rw [if_pos h3]
    exact zX4 a b c _ _ _ w (fun W=>zGb a 1 ha.1 (by omega) W) (fun W=>zGb b 0 hb.1 h2 W) (fun W=>zGb c 0 hc.1 h3 W) ha.1 hb.1 hc.1 rfl rfl rfl
   ·rw [if_neg h3]
    exact zW4 a b c _ _ _ w (fun W=>zGb a 1 ha.1 (by omega) W) (fun W=>zGb b 0 hb.1 h2 W) (fun W=>zGb c 1 hc.1 (by omega) W) ha.1 hb.1 hc.1 rfl rfl rfl
  ·rw [if_neg h2]
   by_cases h3:c/8=0
   ·rw [if_pos h3]
    exact zV4 a b c _ _ _ w (fun W=>zGb a 1 ha.1 (by omega) W) (fun W=>zGb b 1 hb.1 (by omega) W) (fun W=>zGb c 0 hc.1 h3 W) ha.1 hb.1 hc.1 rfl rfl rfl
   ·rw [if_neg h3]
    exact zU4 a b c _ _ _ w (fun W=>zGb a 1 ha.1 (by omega) W) (fun W=>zGb b 1 hb.1 (by omega) W) (fun W=>zGb c 1 hc.1 (by omega) W) ha.1 hb.1 hc.1 rfl rfl rfl
def dcT (a b c:Int):Int:=bits .or .i64 (bits .or .i64 (bits .or .i64 (bits .or .i64 (bits .or .i64 ((fdT a b c).1*256) (bits .and .i64 a 1*128)) ((fdT a b c).2.1*32)) (bits .and .i64 b 1*16)) ((fdT a b c).2.2*2)) (bits .and .i64 c 1)
theorem dc_all (n:Nat)(hn:n<1000):dcT ((n:Int)/100) ((n:Int)/10%10) ((n:Int)%10)=(dlE n:Int)/\(0<=(fdT ((n:Int)/100) ((n:Int)/10%10) ((n:Int)%10)).1/\(fdT ((n:Int)/100) ((n:Int)/10%10) ((n:Int)%10)).1<4)/\(0<=(fdT ((n:Int)/100) ((n:Int)/10%10) ((n:Int)%10)).2.1/\(fdT ((n:Int)/100) ((n:Int)/10%10) ((n:Int)%10)).2.1<4)/\(0<=(fdT ((n:Int)/100) ((n:Int)/10%10) ((n:Int)%10)).2.2/\(fdT ((n:Int)/100) ((n:Int)/10%10) ((n:Int)%10)).2.2<8):=by
 have h:=zPe (f:=fun n=>decide (dcT ((n:Int)/100) ((n:Int)/10%10) ((n:Int)%10)=(dlE n:Int)/\(0<=(fdT ((n:Int)/100) ((n:Int)/10%10) ((n:Int)%10)).1/\(fdT ((n:Int)/100) ((n:Int)/10%10) ((n:Int)%10)).1<4)/\(0<=(fdT ((n:Int)/100) ((n:Int)/10%10) ((n:Int)%10)).2.1/\(fdT ((n:Int)/100) ((n:Int)/10%10) ((n:Int)%10)).2.1<4)/\(0<=(fdT ((n:Int)/100) ((n:Int)/10%10) ((n:Int)%10)).2.2/\(fdT ((n:Int)/100) ((n:Int)/10%10) ((n:Int)%10)).2.2<8))) (m:=1000) (by decide +kernel) n hn
 exact of_decide_eq_true h
theorem zH1 (n:Nat)(hn:n<1024):bits .and .i64 (n:Int) 1=((n%2:Nat):Int):=by
 have h:=zPe (f:=fun n=>decide (bits .and .i64 (n:Int) 1=((n%2:Nat):Int))) (m:=1024) (by decide +kernel) n hn
 exact of_decide_eq_true h
section
variable (n a b c P S V x y z R:Int)(w:World)(h0:¬ n<0)(h9:¬ 1000<=n)(ea:n/100=a)(eb:n/10%10=b)(ec:n%10=c)
 (cf:∀ W,CQ 220 #[.int .i64 a,.int .i64 b,.int .i64 c] W (.tuple #[.int .i64 P,.int .i64 S,.int .i64 V]))
 (hP0:0<=P) (hP1:P<4) (hS0:0<=S) (hS1:S<4) (hV0:0<=V) (hV1:V<8)
 (hx:bits .and .i64 a 1=x) (hy:bits .and .i64 b 1=y) (hz:bits .and .i64 c 1=z) (hx0:0<=x) (hx1:x<2) (hy0:0<=y) (hy1:y<2)
 (hR:bits .or .i64 (bits .or .i64 (bits .or .i64 (bits .or .i64 (bits .or .i64 (P*256) (x*128)) (S*32)) (y*16)) (V*2)) z=R)
include h0 h9 ea eb ec cf hP0 hP1 hS0 hS1 hV0 hV1 hx hy hz hx0 hx1 hy0 hy1 hR
theorem denc_w:CQ 201 #[.int .i64 n] w (.tuple #[.int .i64 R,.int .i64 0]):=by
 go_enter Tryz.func201,Tryz.ntmps201
 go_wp2_with (go_at_call 220;refine (cf _).mono ?_;rintro r w1 ⟨rfl,rfl⟩)
 exact bodyPost_ret (by simp only [results,Tryz.results201];go_simp) rfl ⟨rfl,rfl⟩
end
theorem denc_v (n:Nat)(hn:n<1000)(w:World):CQ 201 #[.int .i64 (n:Int)] w (.tuple #[.int .i64 (dlE n:Int),.int .i64 0]):=by
 obtain ⟨hR,⟨p0,p1⟩,⟨s0,s1⟩,⟨v0,v1⟩⟩:=dc_all n hn
 unfold dcT at hR
 have la:=zH1 (n/100) (by omega)
 have lb:=zH1 (n/10%10) (by omega)
 rw [show ((n/100:Nat):Int)=(n:Int)/100 by omega] at la
 rw [show ((n/10%10:Nat):Int)=(n:Int)/10%10 by omega] at lb
 exact denc_w (n:Int) _ _ _ _ _ _ _ _ _ _ w (by omega) (by omega) rfl rfl rfl (fun W=>zT4 _ _ _ W (by omega) (by omega) (by omega)) p0 p1 s0 s1 v0 v1 rfl rfl rfl (by rw [la];omega) (by rw [la];omega) (by rw [lb];omega) (by rw [lb];omega) hR
def dmT (d:Nat):Int:=100*bits .or .i64 (evT ((d:Int)/256) (bits .and .i64 ((d:Int)/32) 3) (bits .and .i64 ((d:Int)/2) 7)).1 (bits .and .i64 ((d:Int)/128) 1)+10*bits .or .i64 (evT ((d:Int)/256) (bits .and .i64 ((d:Int)/32) 3) (bits .and .i64 ((d:Int)/2) 7)).2.1 (bits .and .i64 ((d:Int)/16) 1)+bits .or .i64 (evT ((d:Int)/256) (bits .and .i64 ((d:Int)/32) 3) (bits .and .i64 ((d:Int)/2) 7)).2.2 (bits .and .i64 (d:Int) 1)
theorem dm_all (d:Nat)(hd:d<1024):dmT d=(dlD d:Int)/\(0<=bits .and .i64 ((d:Int)/32) 3/\bits .and .i64 ((d:Int)/32) 3<4)/\(0<=bits .and .i64 ((d:Int)/2) 7/\bits .and .i64 ((d:Int)/2) 7<8)/\(0<=bits .or .i64 (evT ((d:Int)/256) (bits .and .i64 ((d:Int)/32) 3) (bits .and .i64 ((d:Int)/2) 7)).1 (bits .and .i64 ((d:Int)/128) 1)/\bits .or .i64 (evT ((d:Int)/256) (bits .and .i64 ((d:Int)/32) 3) (bits .and .i64 ((d:Int)/2) 7)).1 (bits .and .i64 ((d:Int)/128) 1)<=9)/\(0<=bits .or .i64 (evT ((d:Int)/256) (bits .and .i64 ((d:Int)/32) 3) (bits .and .i64 ((d:Int)/2) 7)).2.1 (bits .and .i64 ((d:Int)/16) 1)/\bits .or .i64 (evT ((d:Int)/256) (bits .and .i64 ((d:Int)/32) 3) (bits .and .i64 ((d:Int)/2) 7)).2.1 (bits .and .i64 ((d:Int)/16) 1)<=9)/\(0<=bits .or .i64 (evT ((d:Int)/256) (bits .and .i64 ((d:Int)/32) 3) (bits .and .i64 ((d:Int)/2) 7)).2.2 (bits .and .i64 (d:Int) 1)/\bits .or .i64 (evT ((d:Int)/256) (bits .and .i64 ((d:Int)/32) 3) (bits .and .i64 ((d:Int)/2) 7)).2.2 (bits .and .i64 (d:Int) 1)<=9):=by
 have h:=zPe (f:=fun d=>decide (dmT d=(dlD d:Int)/\(0<=bits .and .i64 ((d:Int)/32) 3/\bits .and .i64 ((d:Int)/32) 3<4)/\(0<=bits .and .i64 ((d:Int)/2) 7/\bits .and .i64 ((d:Int)/2) 7<8)/\(0<=bits .or .i64 (evT ((d:Int)/256) (bits .and .i64 ((d:Int)/32) 3) (bits .and .i64 ((d:Int)/2) 7)).1 (bits .and .i64 ((d:Int)/128) 1)/\bits .or .i64 (evT ((d:Int)/256) (bits .and .i64 ((d:Int)/32) 3) (bits .and .i64 ((d:Int)/2) 7)).1 (bits .and .i64 ((d:Int)/128) 1)<=9)/\(0<=bits .or .i64 (evT ((d:Int)/256) (bits .and .i64 ((d:Int)/32) 3) (bits .and .i64 ((d:Int)/2) 7)).2.1 (bits .and .i64 ((d:Int)/16) 1)/\bits .or .i64 (evT ((d:Int)/256) (bits .and .i64 ((d:Int)/32) 3) (bits .and .i64 ((d:Int)/2) 7)).2.1 (bits .and .i64 ((d:Int)/16) 1)<=9)/\(0<=bits .or .i64 (evT ((d:Int)/256) (bits .and .i64 ((d:Int)/32) 3) (bits .and .i64 ((d:Int)/2) 7)).2.2 (bits .and .i64 (d:Int) 1)/\bits .or .i64 (evT ((d:Int)/256) (bits .and .i64 ((d:Int)/32) 3) (bits .and .i64 ((d:Int)/2) 7)).2.2 (bits .and .i64 (d:Int) 1)<=9))) (m:=1024) (by decide +kernel) d hd
 exact of_decide_eq_true h
section
variable (d s v x y z xa ya za X Y Z R:Int)(w:World)(h0:¬ d<0)(h0':0<=d)(h9:¬ 1024<=d)(hs:bits .and .i64 (d/32) 3=s)(hv:bits .and .i64 (d/2) 7=v)
 (cf:∀ W,CQ 199 #[.int .i64 (d/256),.int .i64 s,.int .i64 v] W (.tuple #[.int .i64 x,.int .i64 y,.int .i64 z]))
 (ha:bits .and .i64 (d/128) 1=xa) (hb:bits .and .i64 (d/16) 1=ya) (hc:bits .and .i64 d 1=za)
 (hx:bits .or .i64 x xa=X) (hy:bits .or .i64 y ya=Y) (hz:bits .or .i64 z za=Z) (hX0:0<=X) (hX1:X<=9) (hY0:0<=Y) (hY1:Y<=9) (hZ0:0<=Z) (hZ1:Z<=9)
 (hR:100*X+10*Y+Z=R)
include h0 h0' h9 hs hv cf ha hb hc hx hy hz hX0 hX1 hY0 hY1 hZ0 hZ1 hR
theorem ddcd_w:CQ 173 #[.int .i64 d] w (.tuple #[.int .i64 R,.int .i64 0]):=by
 go_enter Tryz.func173,Tryz.ntmps173
 go_wp2_with (go_at_call 199;refine (cf _).mono ?_;rintro r w1 ⟨rfl,rfl⟩)
 exact bodyPost_ret (by simp only [results,Tryz.results173];go_simp) rfl ⟨rfl,rfl⟩
end
theorem ddcd_v (d:Nat)(hd:d<1024)(w:World):CQ 173 #[.int .i64 (d:Int)] w (.tuple #[.int .i64 (dlD d:Int),.int .i64 0]):=by
 obtain ⟨hR,hs,hv,⟨x0,x1⟩,⟨y0,y1⟩,⟨z0,z1⟩⟩:=dm_all d hd
 exact ddcd_w (d:Int) _ _ _ _ _ _ _ _ _ _ _ _ w (by omega) (by omega) (by omega) rfl rfl (fun W=>yAc _ _ _ W (by omega) hs hv) rfl rfl rfl rfl rfl rfl x0 x1 y0 y1 z0 z1 hR
end
end Go.Proofs.YtpabnhlfbjkmaaaGreatDoor
