/-
  Texts that the proof leans on.
-/
import Derived.Test.YtgknbdehlmlipaaGreatDoorJ19
import Derived.Test.YtgknbdehlmlipaaGreatDoorJ21
import Derived.Test.YtgknbdehlmlipaaGreatDoorJ24
import Derived.Test.YtgknbdehlmlipaaGreatDoorJ2
set_option maxHeartbeats 8000000
set_option linter.unusedVariables false
set_option linter.unusedSectionVars false
set_option linter.unusedSimpArgs false
set_option maxRecDepth 20000
namespace Go.Proofs.YtgknbdehlmlipaaGreatDoor
open Go.RowKit
section
def decN (n:Int):Prop:=7<=n/\n<=12
instance (n:Int):Decidable (decN n):=inferInstanceAs (Decidable (_/\_))
def fD (n:Int):DF:=if n=7∨n=10 then ⟨20,6,2,-101,denseN n⟩ else if n=8∨n=11 then ⟨50,8,5,-398,denseN n⟩ else ⟨110,12,11,-6176,denseN n⟩
theorem dec_cases {n:Int}(h:decN n):n=7∨n=8∨n=9∨n=10∨n=11∨n=12:=by unfold decN at h;omega
theorem fD_ok (n:Int):(fD n).ok:=by
 unfold fD
 split
 ·exact Or.inl ⟨rfl,rfl,rfl,rfl⟩
 ·split
  ·exact Or.inr (Or.inl ⟨rfl,rfl,rfl,rfl⟩)
  ·exact Or.inr (Or.inr ⟨rfl,rfl,rfl,rfl⟩)
theorem dec_fields {n:Int}(h:decN n):okN n/\numN n=n/\baseN n=10/\widthN n=(((fD n).t+((fD n).w+6):Nat):Int)/\precN n=3*((fD n).j:Int)+1/\leastN n=(fD n).l/\mostN n=(fD n).l+3*2^(fD n).w-1/\payN n=3*((fD n).j:Int)/\denseN n=(fD n).dn:=by
 rcases dec_cases h with rfl|rfl|rfl|rfl|rfl|rfl<;>decide
def goodD (n:Int)(B:Nat):Prop:=decN n/\B<2^((fD n).t+((fD n).w+6))
instance (n:Int) (B:Nat):Decidable (goodD n B):=inferInstanceAs (Decidable (_/\_))
theorem rdecimal_any (n:Int)(w:World):CQ 60 #[.int .i64 n] w (.bool (decide (decN n))):=by
 by_cases h1:7<=n
 ·by_cases h2:n<=12
  ·rw [decide_eq_true (show decN n from ⟨h1,h2⟩)]
   go_enter Tryz.func60,Tryz.ntmps60
   go_wp2
   go_ret
   exact ⟨rfl,rfl⟩
  ·rw [decide_eq_false (show ¬ decN n from fun h=>h2 h.2)]
   go_enter Tryz.func60,Tryz.ntmps60
   go_wp2
   go_ret
   exact ⟨rfl,rfl⟩
 ·rw [decide_eq_false (show ¬ decN n from fun h=>h1 h.1)]
  go_enter Tryz.func60,Tryz.ntmps60
  go_wp2
  go_ret
  exact ⟨rfl,rfl⟩
theorem rgood14 (n:Int)(B:Nat)(hB:B<2^256)(w:World) :
  CB 79 #[.int .i64 n,A4 B] w (.bool (decide (goodD n B))):=by
 have c35:=fun w=>rdecimal_any n w
 have c50:=fun w=>rfits4 n B hB w
 by_cases hb:decN n
 ·have hF:=dec_fields hb
  rw [decide_eq_true hb] at c35
  have e:(okN n/\B<2^(widthN n).toNat)↔goodD n B:=by
   rw [hF.2.2.2.1,Int.toNat_natCast]
   exact ⟨fun h=>⟨hb,h.2⟩,fun h=>⟨hF.1,h.2⟩⟩
  rw [decide_eq_decide.2 e] at c50
  generalize decide (goodD n B)=D at *
  clear hF e hb hB
  go_enter Tryz.func79,Tryz.ntmps79
  go_wp2_with (first
   | (go_at_call 60;refine (c35 _).mono ?_;rintro e w1 ⟨rfl,rfl⟩)
   | (go_at_call 44;refine (c50 _).mono ?_;rintro e w2 ⟨rfl,hb2⟩))
  go_ret
  exact ⟨rfl,bnext bgo hb2⟩
 ·rw [decide_eq_false hb] at c35
  rw [decide_eq_false (show ¬ goodD n B from fun h=>hb h.1)]
  clear hb hB c50
  go_enter Tryz.func79,Tryz.ntmps79
  go_wp2_with (go_at_call 60;refine (c35 _).mono ?_;rintro e w1 ⟨rfl,rfl⟩)
  go_ret
  exact ⟨rfl,bgo⟩
attribute [local irreducible] W4 NT NV
theorem rpowt_nv (n:Nat)(w:World)(hn:n<=12000):CE 26 #[.int .u64 10,.int .i64 (n:Int)] w (NV 50000 (10^n)):=by
 refine (rpow_any 10 n w (by decide) (by omega)).mono ?_
 rintro r w' ⟨g,k,cap,z,rfl,hk,hN,hv,hb⟩
 refine ⟨_,rfl,?_,hb⟩
 unfold NV
 exact ⟨g,k,cap,z,rfl,by omega,hN,by rw [hv];simp⟩
theorem rpow4t (p:Nat)(w:World)(hp:p<=12000):CE 115 #[.int .i64 10,.int .i64 p] w (NV 50000 (10^p)):=by
 have c:=fun W=>rpowt_nv p W hp
 go_enter Tryz.func115,Tryz.ntmps115
 go_wp2_with (go_at_call 26;refine (c _).mono ?_;rintro r w1 ⟨v,rfl,hv,hb1⟩)
 go_ret
 exact ⟨v,rfl,hv,hb1⟩
theorem sgnt_lt (A B:Nat):decide (sgn (A:Int) (B:Int)<0)=decide (A<B):=by
 rcases sgn_ways (A:Int) (B:Int) with ⟨a,e⟩|⟨a,e⟩|⟨a,e⟩
 ·rw [e,decide_eq_true (show A<B by omega)];rfl
 ·rw [e,decide_eq_false (show ¬ A<B by omega)];rfl
 ·rw [e,decide_eq_false (show ¬ A<B by omega)];rfl
theorem rbelowt (k p:Nat)(w:World)(hk:k<2^256)(hp:p<=12000):CB 89 #[A4 k,.int .i64 10,.int .i64 p] w (.bool (decide (k<10^p))):=by
 have c1:=fun W=>rpow4t p W hp
 have hs:=sgnt_lt k (10^p)
 go_enter Tryz.func89,Tryz.ntmps89
 go_wp2
 go_region_with (first
  | (go_at_call 115;refine (c1 _).mono ?_;rintro e w1 ⟨v1,rfl,hl,hb1⟩;have hbx:=box_nv (w0:=w) (B:=k) (t:=24) hk (bnext bgo hb1))
  | (go_at_call 25;refine (rcmp_nv (by decide) (by decide) hbx hl).mono ?_;rintro e w2 ⟨rfl,rfl⟩))
 go_wp2
 go_ret
 exact ⟨congrArg (fun b=>Ending.returned (.bool b)) hs,bnext bgo hb1⟩
abbrev IDec (n:Int)(nm:ByteArray)(wd pr ex le mo pa:Int)(dn:Bool):Value:=.agg #[.int .i64 n,.string nm,.int .i64 10,.int .i64 wd,.int .i64 pr,.int .i64 ex,.int .i64 le,.int .i64 mo,.int .i64 pa,.bool dn]
theorem rof_dec {n:Int}(h:decN n)(w:World):CB 20 #[.int .i64 n] w (.tuple #[IDec n (nameN n) (((fD n).t+((fD n).w+6):Nat):Int) (3*((fD n).j:Int)+1) (expN n) (fD n).l ((fD n).l+3*2^(fD n).w-1) (3*((fD n).j:Int)) (fD n).dn,.int .i64 0]):=by
 obtain ⟨hok,h1,h2,h3,h4,h5,h6,h7,h8⟩:=dec_fields h
 have c25:=rofv_any n w
 rw [show infoE n=0 from if_pos hok,h1,h2,h3,h4,h5,h6,h7,h8] at c25
 exact c25
theorem below_drewD {b:Nat}{w w':World}(h:Below b w w')(m:Nat):Below b w (w'.drewN m):=⟨h.os,h.tape,h.output,h.size,h.block⟩
theorem rshape (n:Int)(nm:ByteArray)(wd pr ex le mo pa:Int)(dn:Bool)(G T J:Int)(w:World)(h0:0<=wd)(h1:wd<=256)(h2:1<=pr)(h3:pr<=100)(hG:wd/16+9=G)(hG0:0<=G)(hG1:G<=100)(hT:wd-1-G=T)(hJ:(pr-1)/3=J) :
  CB 62 #[IDec n nm wd pr ex le mo pa dn] w (.tuple #[.int .i64 G,.int .i64 T,.int .i64 J]):=by
 go_enter Tryz.func62,Tryz.ntmps62
 go_wp2
 go_quiet (fail)
 go_wp2
 exact bodyPost_ret (by simp only [results,Tryz.results62];go_simp) rfl ⟨rfl,below_drewD (below1 w _) _⟩
theorem dec_shape {n:Int}(h:decN n)(nm:ByteArray)(ex le mo pa:Int)(dn:Bool)(w:World) :
  CB 62 #[IDec n nm (((fD n).t+((fD n).w+6):Nat):Int) (3*((fD n).j:Int)+1) ex le mo pa dn] w (.tuple #[.int .i64 (((fD n).w:Int)+5),.int .i64 ((fD n).t:Int),.int .i64 ((fD n).j:Int)]):=by
 rcases fD_ok n with ⟨h1,h2,h3,h4⟩|⟨h1,h2,h3,h4⟩|⟨h1,h2,h3,h4⟩<;>rw [h1,h2,h3]<;>exact rshape n nm _ _ ex le mo pa dn _ _ _ w (by decide) (by decide) (by decide) (by decide) rfl (by decide) (by decide) rfl rfl
end
section
theorem W4_nought {k:Nat}(hk:k<2^256):decide (W4 k 0=0/\W4 k 1=0/\W4 k 2=0/\W4 k 3=0)=decide (k=0):=by
 by_cases h:k=0
 ·subst h
  rw [decide_eq_true (by simp [W4_zero]),decide_eq_true rfl]
 ·rw [decide_eq_false h,decide_eq_false]
  rintro ⟨h0,h1,h2,h3⟩
  refine h (A4_inj hk (by decide) fun i hi=>?_)
  have:i=0∨i=1∨i=2∨i=3:=by omega
  rcases this with rfl|rfl|rfl|rfl
  ·rw [h0,W4_zero]
  ·rw [h1,W4_zero]
  ·rw [h2,W4_zero]
  ·rw [h3,W4_zero]
attribute [local irreducible] W4
section
variable (n:Int)(nm:ByteArray)(wd pr ex le mo pa:Int)(dn:Bool)(c x:Int)(s g:Bool)(k:Nat)(w:World)
theorem vis1_g:CB 61 #[IDec n nm wd pr ex le mo pa dn,DV 1 s true x k] w (.bool false):=by
 go_enter Tryz.func61,Tryz.ntmps61
 go_wp2
 go_ret
 exact ⟨rfl,bgo⟩
theorem vis1_b (cb:∀ W,CB 89 #[A4 k,.int .i64 10,.int .i64 pr] W (.bool false)) :
  CB 61 #[IDec n nm wd pr ex le mo pa dn,DV 1 s false x k] w (.bool false):=by
 unfold A4 at cb
 go_enter Tryz.func61,Tryz.ntmps61
 go_wp2_with (go_at_call 89;refine (cb _).mono ?_;rintro r w1 ⟨rfl,hb1⟩;obtain ⟨_,_,_,_,hA1,_⟩:=wz w hb1;obtain ⟨_,_⟩:=zf hb1 (w.heap.size+1);clear hb1)
 go_ret
 exact ⟨rfl,bgo⟩
theorem vis1_l (hx:¬ le<=x)(cb:∀ W,CB 89 #[A4 k,.int .i64 10,.int .i64 pr] W (.bool true)) :
  CB 61 #[IDec n nm wd pr ex le mo pa dn,DV 1 s false x k] w (.bool false):=by
 unfold A4 at cb
 go_enter Tryz.func61,Tryz.ntmps61
 go_wp2_with (go_at_call 89;refine (cb _).mono ?_;rintro r w1 ⟨rfl,hb1⟩;obtain ⟨_,_,_,_,hA1,_⟩:=wz w hb1;obtain ⟨_,_⟩:=zf hb1 (w.heap.size+1);clear hb1)
 go_ret
 exact ⟨rfl,bgo⟩
theorem vis1_m (hx:le<=x)(cb:∀ W,CB 89 #[A4 k,.int .i64 10,.int .i64 pr] W (.bool true)) :
  CB 61 #[IDec n nm wd pr ex le mo pa dn,DV 1 s false x k] w (.bool (decide (x<=mo))):=by
 unfold A4 at cb
 go_enter Tryz.func61,Tryz.ntmps61
 go_wp2_with (go_at_call 89;refine (cb _).mono ?_;rintro r w1 ⟨rfl,hb1⟩;obtain ⟨_,_,_,_,hA1,_⟩:=wz w hb1;obtain ⟨_,_⟩:=zf hb1 (w.heap.size+1);clear hb1)
 go_ret
 exact ⟨rfl,bgo⟩
theorem vis2_g:CB 61 #[IDec n nm wd pr ex le mo pa dn,DV 2 s true x k] w (.bool false):=by
 go_enter Tryz.func61,Tryz.ntmps61
 go_wp2
 go_ret
 exact ⟨rfl,bgo⟩
theorem vis2_k (hk:k<2^256)(h0:k≠0):CB 61 #[IDec n nm wd pr ex le mo pa dn,DV 2 s false x k] w (.bool false):=by
 have h24:=eq24 (W4 k 0) (W4 k 1) (W4 k 2) (W4 k 3) 0 0 0 0
 rw [W4_nought hk,decide_eq_false h0] at h24
 clear h0
 unfold DV at *
 go_enter Tryz.func61,Tryz.ntmps61
 go_wp2
 go_ret
 exact ⟨rfl,bgo⟩
theorem vis2_x (h0:k=0):CB 61 #[IDec n nm wd pr ex le mo pa dn,DV 2 s false x k] w (.bool (x==0)):=by
 have h24:=eq24 (W4 k 0) (W4 k 1) (W4 k 2) (W4 k 3) 0 0 0 0
 rw [W4_nought (by rw [h0];decide),decide_eq_true h0] at h24
 clear h0
 unfold DV at *
 go_enter Tryz.func61,Tryz.ntmps61
 go_wp2
 go_ret
 exact ⟨rfl,bgo⟩
theorem vis3_x (hx:(x==0)=false):CB 61 #[IDec n nm wd pr ex le mo pa dn,DV 3 s g x k] w (.bool false):=by
 go_enter Tryz.func61,Tryz.ntmps61
 go_wp2
 go_ret
 exact ⟨rfl,bgo⟩
theorem vis3_b (R:Bool)(cb:∀ W,CB 89 #[A4 k,.int .i64 10,.int .i64 pa] W (.bool R)) :
  CB 61 #[IDec n nm wd pr ex le mo pa dn,DV 3 s g 0 k] w (.bool R):=by
 unfold A4 at cb
 go_enter Tryz.func61,Tryz.ntmps61
 go_wp2_with (go_at_call 89;refine (cb _).mono ?_;rintro r w1 ⟨rfl,hb1⟩;obtain ⟨_,_,_,_,hA1,_⟩:=wz w hb1;obtain ⟨_,_⟩:=zf hb1 (w.heap.size+1);clear hb1)
 go_ret
 exact ⟨rfl,bgo⟩
theorem vis_o (h1:(c==1)=false)(h2:(c==2)=false)(h3:(c==3)=false):CB 61 #[IDec n nm wd pr ex le mo pa dn,DV c s g x k] w (.bool false):=by
 go_enter Tryz.func61,Tryz.ntmps61
 go_wp2
 go_ret
 exact ⟨rfl,bgo⟩
end
instance (f:DF) (d:Dat):Decidable (vI f d):=inferInstanceAs (Decidable (_∨_))
theorem ris14 (f:DF)(hf:f.ok)(n:Int)(nm:ByteArray)(wd ex:Int)(dn:Bool)(d:Dat)(w:World)(hk:d.k<2^256) :
  CB 61 #[IDec n nm wd (3*(f.j:Int)+1) ex f.l (f.l+3*2^f.w-1) (3*(f.j:Int)) dn,d.v] w (.bool (decide (vI f d))):=by
 obtain ⟨c,s,g,x,k⟩:=d
 simp only at hk
 have hj:f.j<=11:=by rcases hf with ⟨h1,h2,h3,h4⟩|⟨h1,h2,h3,h4⟩|⟨h1,h2,h3,h4⟩<;>omega
 have cb1:=fun W=>rbelowt k (3*f.j+1) W hk (by omega)
 rw [show ((3*f.j+1:Nat):Int)=3*(f.j:Int)+1 by omega] at cb1
 have cb3:=fun W=>rbelowt k (3*f.j) W hk (by omega)
 rw [show ((3*f.j:Nat):Int)=3*(f.j:Int) by omega] at cb3
 by_cases h1:c=1
 ·subst h1
  have e:vI f ⟨1,s,g,x,k⟩↔(g=false/\k<10^(3*f.j+1)/\f.l<=x/\x<=f.l+3*2^f.w-1):=by
   unfold vI
   simp
  rw [decide_eq_decide.2 e]
  cases g
  ·by_cases hb:k<10^(3*f.j+1)
   ·rw [decide_eq_true hb] at cb1
    by_cases hx:f.l<=x
    ·have:=vis1_m n nm wd _ ex f.l (f.l+3*2^f.w-1) (3*(f.j:Int)) dn x s k w hx cb1
     have e2:decide (x<=f.l+3*2^f.w-1)=decide ((false:Bool)=false/\k<10^(3*f.j+1)/\f.l<=x/\x<=f.l+3*2^f.w-1):=decide_eq_decide.2 ⟨fun h=>⟨rfl,hb,hx,h⟩,fun h=>h.2.2.2⟩
     rw [e2] at this
     exact this
    ·rw [decide_eq_false (fun h=>hx h.2.2.1)]
     exact vis1_l n nm wd _ ex f.l _ _ dn x s k w hx cb1
   ·rw [decide_eq_false hb] at cb1
    rw [decide_eq_false (fun h=>hb h.2.1)]
    exact vis1_b n nm wd _ ex f.l _ _ dn x s k w cb1
  ·rw [decide_eq_false (fun h=>by cases h.1)]
   exact vis1_g n nm wd _ ex f.l _ _ dn x s k w
 by_cases h2:c=2
 ·subst h2
  have e:vI f ⟨2,s,g,x,k⟩↔(g=false/\k=0/\x=0):=by
   unfold vI
   simp
  rw [decide_eq_decide.2 e]
  cases g
  ·by_cases hz:k=0
   ·have:=vis2_x n nm wd (3*(f.j:Int)+1) ex f.l (f.l+3*2^f.w-1) (3*(f.j:Int)) dn x s k w hz
    rw [show (x==0)=decide (false=false/\k=0/\x=0) by rw [Bool.eq_iff_iff];simp [hz]] at this
    exact this
   ·rw [decide_eq_false (fun h=>hz h.2.1)]
    exact vis2_k n nm wd _ ex f.l _ _ dn x s k w hk hz
  ·rw [decide_eq_false (fun h=>by cases h.1)]
   exact vis2_g n nm wd _ ex f.l _ _ dn x s k w
 by_cases h3:c=3
 ·subst h3
  have e:vI f ⟨3,s,g,x,k⟩↔(x=0/\k<10^(3*f.j)):=by
   unfold vI
   simp
  rw [decide_eq_decide.2 e]
  by_cases hx:x=0
  ·subst hx
   have:=vis3_b n nm wd (3*(f.j:Int)+1) ex f.l (f.l+3*2^f.w-1) (3*(f.j:Int)) dn s g k w _ cb3
   rw [decide_eq_decide.2 (show (k<10^(3*f.j))↔((0:Int)=0/\k<10^(3*f.j)) from ⟨fun h=>⟨rfl,h⟩,fun h=>h.2⟩)] at this
   exact this
  ·rw [decide_eq_false (fun h=>hx h.1)]
   exact vis3_x n nm wd _ ex f.l _ _ dn x s g k w (by simp [hx])
 ·rw [decide_eq_false (show ¬ vI f ⟨c,s,g,x,k⟩ by unfold vI;simp [h1,h2,h3])]
  exact vis_o n nm wd _ ex f.l _ _ dn c x s g k w (by simp [h1]) (by simp [h2]) (by simp [h3])
end
section
theorem nt_unit {W:World}{g V:Nat}{vi:Int}(hg:g=W.heap.size)(hv:vi=(V:Int))(hb:V<18446744073709551616)(h0:V≠0):NT 1 V (.slice (some ⟨g,0,none⟩) 1 1) (W.alloc (.cells #[.int .u64 vi] 22)):=by
 subst hg hv
 have h1:¬ ((V:Int)=0):=by omega
 exact ⟨_,1,1,oneW V,rfl,Nat.le_refl _,num_one W V (by omega),by simp [val,oneW],by simp [sizeL,oneW,h0]⟩
theorem nat_half (s m:Nat):s^m=(if m%2=1 then s else 1)*(s*s)^(m/2):=by
 have e:(s*s)^(m/2)=s^(2*(m/2)):=by rw [Nat.pow_mul];congr 1;rw [Nat.pow_succ,Nat.pow_succ,Nat.pow_zero,Nat.one_mul]
 rw [e]
 by_cases h:m%2=1
 ·rw [if_pos h,Nat.mul_comm,← Nat.pow_succ];congr 1;omega
 ·rw [if_neg h,Nat.one_mul];congr 1;omega
attribute [local irreducible] NT NV
theorem rpow_nt (b n:Nat)(w:World)(hb0:b≠0)(hb:b<18446744073709551616)(hn:n<=12000) :
  CE 26 #[.int .u64 (b:Int),.int .i64 (n:Int)] w (NT (4*n+2) (b^n)):=by
 have hN1:=(nt_unit (W:=w) (g:=w.heap.size) (V:=1) (vi:=1) rfl rfl (by decide) (by decide)).next (below1 _ (.cells #[.int .u64 (b:Int)] 22))
 have hN2:=nt_unit (W:=w.alloc (.cells #[.int .u64 1] 22)) (g:=w.heap.size+1) (V:=b) (vi:=(b:Int)) (by simp) rfl hb hb0
 have HB:Hid (Below w.heap.size w ((w.alloc (.cells #[.int .u64 1] 22)).alloc (.cells #[.int .u64 (b:Int)] 22))):=((Below.refl _ _).alloc (Nat.le_refl _) _).alloc (by simp) _
 go_enter Tryz.func26,Tryz.ntmps26
 go_wp2
 generalize (w.alloc (.cells #[.int .u64 1] 22)).alloc (.cells #[.int .u64 (b:Int)] 22)=wA at *
 go_loopw [1,5,6] (fun nv ov sv wr=>∃ (m P X Y:Nat),nv=.int .i64 (m:Int)/\m<=n/\1<=P/\m*P<=n/\P<=2*n+1/\NT (2*P-1) X ov wr/\NT (2*P-1) Y sv wr/\Hid (X*Y^m=b^n)/\Below w.heap.size w wr) (fun nv _ _ _=>(intOf nv).toNat)
 case atStart=>exact ⟨n,1,1,b,rfl,Nat.le_refl _,Nat.le_refl _,by omega,by omega,hN1,hN2,by show _=_;rw [Nat.one_mul],HB.out⟩
 case round =>
  clear hN1 hN2 HB
  obtain ⟨m,P,X,Y,rfl,hmn,hP,hmP,hP2,hN1,hN2,hv,hB⟩:=hrel
  by_cases h0:m=0
  ·subst h0
   have HV:Hid (X=b^n):=by show _=_;have:=hv.out;rw [Nat.pow_zero,Nat.mul_one] at this;exact this
   clear hN2 hv
   go_wp2
   go_ret
   exact ⟨_,rfl,by rw [← HV.out];exact hN1.more (by omega),hB⟩
  ·have hm0:(0:Int)<m:=by omega
   have hPn:P<=n:=by
    have:1*P<=m*P:=Nat.mul_le_mul_right P (by omega)
    omega
   have hq2:(m:Int)/2=((m/2:Nat):Int):=by omega
   have hr2:(m:Int)%2=((m%2:Nat):Int):=by omega
   have hmP':m/2*(2*P)<=n:=by
    have h1:m/2*2<=m:=Nat.div_mul_le_self m 2
    have h2:m/2*2*P<=m*P:=Nat.mul_le_mul_right P h1
    rw [← Nat.mul_assoc];omega
   have HPH:Hid (Y^m=(if m%2=1 then Y else 1)*(Y*Y)^(m/2)):=nat_half _ _
   generalize hq:m/2=q at *
   by_cases hodd:m%2=1
   ·rw [hodd] at hr2
    rw [if_pos hodd] at HPH
    have t1:=rtimes_nt (by omega) (by omega) hN1.nv hN2.nv
    by_cases hq0:q=0
    ·subst hq0
     have hq00:(m:Int)/2=0:=hq2
     clear hq2
     go_wp2_with (go_at_call 24;refine t1.mono ?_;rintro e w1 ⟨r1,rfl,hr1,hb1⟩;clear t1)
     have HV3:Hid (X*Y*Y^0=b^n):=by
      show _=_
      rw [← hv.out,HPH.out];simp
     have hN2':=hN2.next hb1
     have hB1:=hB.trans (hb1.mono hB.size)
     clear hN1 hN2 hv
     go_roundw
     case rel=>exact ⟨0,2*P,X*Y,Y,rfl,by omega,by omega,by omega,by omega,hr1.more (by omega),hN2'.more (by omega),HV3,hB1⟩
     case measure=>simp [intOf];omega
    ·have hq0':(0:Int)<q:=by omega
     go_wp2_with (go_at_call 24;refine t1.mono ?_;rintro e w1 ⟨r1,rfl,hr1,hb1⟩;clear t1)
     have hB1:=hB.trans (hb1.mono hB.size)
     have hN21:=hN2.next hb1
     have t2:=rtimes_nt (by omega) (by omega) hN21.nv hN21.nv
     go_wp2_with (go_at_call 24;refine t2.mono ?_;rintro e w2 ⟨r2,rfl,hr2',hb2⟩;clear t2)
     have HV3:Hid (X*Y*(Y*Y)^q=b^n):=by
      show _=_
      rw [← hv.out,HPH.out,Nat.mul_assoc]
     have hr1':=hr1.next hb2
     have hB2:=hB1.trans (hb2.mono hB1.size)
     clear hN1 hN2 hN21 hr1 hv
     go_roundw
     case rel=>exact ⟨q,2*P,X*Y,Y*Y,rfl,by omega,by omega,by omega,by omega,hr1'.more (by omega),hr2'.more (by omega),HV3,hB2⟩
     case measure=>simp [intOf];omega
   ·have h20:m%2=0:=by omega
    rw [h20] at hr2
    rw [if_neg hodd,Nat.one_mul] at HPH
    have hq0':(0:Int)<q:=by omega
    have t2:=rtimes_nt (by omega) (by omega) hN2.nv hN2.nv
    go_wp2_with (go_at_call 24;refine t2.mono ?_;rintro e w2 ⟨r2,rfl,hr2',hb2⟩;clear t2)
    have HV3:Hid (X*(Y*Y)^q=b^n):=by
     show _=_
     rw [← hv.out,HPH.out]
    have hN1':=hN1.next hb2
    have hB2:=hB.trans (hb2.mono hB.size)
    clear hN1 hN2 hv
    go_roundw
    case rel=>exact ⟨q,2*P,X,Y*Y,rfl,by omega,by omega,by omega,by omega,hN1'.more (by omega),hr2'.more (by omega),HV3,hB2⟩
    case measure=>simp [intOf];omega
end
end Go.Proofs.YtgknbdehlmlipaaGreatDoor
