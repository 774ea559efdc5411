/-
  Texts that the proof leans on.
-/
import Derived.Test.YtahfkpjhlbiamaaGreatDoorR26
import Derived.Test.YtahfkpjhlbiamaaGreatDoorR24
import Derived.Test.YtahfkpjhlbiamaaGreatDoorR1
set_option maxHeartbeats 8000000
set_option linter.unusedVariables false
set_option linter.unusedSectionVars false
set_option linter.unusedSimpArgs false
set_option maxRecDepth 20000
namespace Go.Proofs.YtahfkpjhlbiamaaGreatDoor
open Go.RowKit
section
attribute [local irreducible] NT NV
theorem zS0 (b n:Nat)(w:World)(hb0:b≠0)(hb:b<18446744073709551616)(hn:n<=60000) :
  CE 64 #[.int .u64 (b:Int),.int .i64 (n:Int)] w (NT (4*n+2) (b^n)):=by
 have hN1:=(zEj (W:=w) (g:=w.heap.size) (V:=1) (vi:=1) rfl rfl (by decide) (by decide)).next (zBa _ (.cells #[.int .u64 (b:Int)] 22))
 have hN2:=zEj (W:=w.alloc (.cells #[.int .u64 1] 22)) (g:=w.heap.size+1) (V:=b) (vi:=(b:Int)) (by simp) rfl hb hb0
 have HB:Hid (Below w.heap.size w ((w.alloc (.cells #[.int .u64 1] 22)).alloc (.cells #[.int .u64 (b:Int)] 22))):=((Below.refl _ _).alloc (Nat.le_refl _) _).alloc (by simp) _
 go_enter Tryz.func64,Tryz.ntmps64
 go_wp2
 generalize (w.alloc (.cells #[.int .u64 1] 22)).alloc (.cells #[.int .u64 (b:Int)] 22)=wA at *
 go_loopw [1,5,6] (fun nv ov sv wr=>∃ (m P X Y:Nat),nv=.int .i64 (m:Int)/\m<=n/\1<=P/\m*P<=n/\P<=2*n+1/\NT (2*P-1) X ov wr/\NT (2*P-1) Y sv wr/\Hid (X*Y^m=b^n)/\Below w.heap.size w wr) (fun nv _ _ _=>(intOf nv).toNat)
 case atStart=>exact ⟨n,1,1,b,rfl,Nat.le_refl _,Nat.le_refl _,by omega,by omega,hN1,hN2,by show _=_;rw [Nat.one_mul],HB.out⟩
 case round =>
  clear hN1 hN2 HB
  obtain ⟨m,P,X,Y,rfl,hmn,hP,hmP,hP2,hN1,hN2,hv,hB⟩:=hrel
  by_cases h0:m=0
  ·subst h0
   have HV:Hid (X=b^n):=by show _=_;have:=hv.out;rw [Nat.pow_zero,Nat.mul_one] at this;exact this
   clear hN2 hv
   go_wp2
   go_ret
   exact ⟨_,rfl,by rw [← HV.out];exact hN1.more (by omega),hB⟩
  ·have hm0:(0:Int)<m:=by omega
   have hPn:P<=n:=by
    have:1*P<=m*P:=Nat.mul_le_mul_right P (by omega)
    omega
   have hq2:(m:Int)/2=((m/2:Nat):Int):=by omega
   have hr2:(m:Int)%2=((m%2:Nat):Int):=by omega
   have hmP':m/2*(2*P)<=n:=by
    have h1:m/2*2<=m:=Nat.div_mul_le_self m 2
    have h2:m/2*2*P<=m*P:=Nat.mul_le_mul_right P h1
    rw [← Nat.mul_assoc];omega
   have HPH:Hid (Y^m=(if m%2=1 then Y else 1)*(Y*Y)^(m/2)):=zCr _ _
   generalize hq:m/2=q at *
   by_cases hodd:m%2=1
   ·rw [hodd] at hr2
    rw [if_pos hodd] at HPH
    have t1:=zYb (by omega) (by omega) hN1.nv hN2.nv
    by_cases hq0:q=0
    ·subst hq0
     have hq00:(m:Int)/2=0:=hq2
     clear hq2
     go_wp2_with (go_at_call 86;refine t1.mono ?_;rintro e w1 ⟨r1,rfl,hr1,hb1⟩;clear t1)
     have HV3:Hid (X*Y*Y^0=b^n):=by
      show _=_
      rw [← hv.out,HPH.out];simp
     have hN2':=hN2.next hb1
     have hB1:=hB.trans (hb1.mono hB.size)
     clear hN1 hN2 hv
     go_roundw
     case rel=>exact ⟨0,2*P,X*Y,Y,rfl,by omega,by omega,by omega,by omega,hr1.more (by omega),hN2'.more (by omega),HV3,hB1⟩
     case measure=>simp [intOf];omega
    ·have hq0':(0:Int)<q:=by omega
     go_wp2_with (go_at_call 86;refine t1.mono ?_;rintro e w1 ⟨r1,rfl,hr1,hb1⟩;clear t1)
     have hB1:=hB.trans (hb1.mono hB.size)
     have hN21:=hN2.next hb1
     have t2:=zYb (by omega) (by omega) hN21.nv hN21.nv
     go_wp2_with (go_at_call 86;refine t2.mono ?_;rintro e w2 ⟨r2,rfl,hr2',hb2⟩;clear t2)
     have HV3:Hid (X*Y*(Y*Y)^q=b^n):=by
      show _=_
      rw [← hv.out,HPH.out,Nat.mul_assoc]
     have hr1':=hr1.next hb2
     have hB2:=hB1.trans (hb2.mono hB1.size)
     clear hN1 hN2 hN21 hr1 hv
     go_roundw
     case rel=>exact ⟨q,2*P,X*Y,Y*Y,rfl,by omega,by omega,by omega,by omega,hr1'.more (by omega),hr2'.more (by omega),HV3,hB2⟩
     case measure=>simp [intOf];omega
   ·have h20:m%2=0:=by omega
    rw [h20] at hr2
    rw [if_neg hodd,Nat.one_mul] at HPH
    have hq0':(0:Int)<q:=by omega
    have t2:=zYb (by omega) (by omega) hN2.nv hN2.nv
    go_wp2_with (go_at_call 86;refine t2.mono ?_;rintro e w2 ⟨r2,rfl,hr2',hb2⟩;clear t2)
    have HV3:Hid (X*(Y*Y)^q=b^n):=by
     show _=_
     rw [← hv.out,HPH.out]
    have hN1':=hN1.next hb2
    have hB2:=hB.trans (hb2.mono hB.size)
    clear hN1 hN2 hv
    go_roundw
    case rel=>exact ⟨q,2*P,X,Y*Y,rfl,by omega,by omega,by omega,by omega,hN1'.more (by omega),hr2'.more (by omega),HV3,hB2⟩
    case measure=>simp [intOf];omega
theorem zQ6 (n:Nat)(w:World)(hn:n<=60000):CE 64 #[.int .u64 10,.int .i64 (n:Int)] w (NT 4000 (10^n)) :=
 (zS0 10 n w (by decide) (by decide) hn).mono fun r w' ⟨v,e1,e2,e3⟩=>⟨v,e1,e2.tight (by have:=zDg n;omega),e3⟩
theorem zFn (n:Nat)(w:World)(hn:n<=60000):CE 129 #[.int .u64 10,.int .i64 (n:Int)] w (NT 4000 (10^n)):=by
 have c19:=zQ6 n w hn
 go_enter Tryz.func129,Tryz.ntmps129
 go_wp2_with (go_at_call 64;refine c19.mono ?_;rintro r w1 ⟨v,rfl,hv,hb1⟩)
 go_ret
 exact ⟨v,rfl,hv,hb1⟩
section
variable (x:Int)(vn vd:Value)(A KK:Nat)(w:World)(hx:-60000<=x/\x<=60000)
include hx
theorem zEv (h:0<=x)
  (c79:Calls Tryz.prog 129 #[.int .u64 10,.int .i64 x] w fun e w'=>∃ p,e=.returned p/\Below w.heap.size w w'/\Calls Tryz.prog 86 #[vn,p] w' fun e w''=>∃ r,e=.returned r/\NT KK A r w''/\Below w'.heap.size w' w'') :
  Calls Tryz.prog 65 #[vn,vd,.int .u64 10,.int .i64 x] w fun e w'=>∃ r,e=.returned (.tuple #[r,vd])/\NT KK A r w'/\Below w.heap.size w w':=by
 have e1:max x (-60000)=x:=by omega
 have e2:min x 60000=x:=by omega
 go_enter Tryz.func65,Tryz.ntmps65
 go_wp2_with (first
  | (go_at_call 129;refine c79.mono ?_;rintro e w1 ⟨p,rfl,hb1,c17⟩)
  | (go_at_call 86;refine c17.mono ?_;rintro e w2 ⟨r,rfl,hr,hb2⟩))
 exact bodyPost_ret (v:=.tuple #[r,vd]) (by simp only [results,Tryz.results65];go_simp) rfl ⟨_,rfl,hr,hb1.trans (hb2.mono hb1.size)⟩
theorem zFv (m:Int)(hm:m=-x)(h:¬ 0<=x)
  (c79:Calls Tryz.prog 129 #[.int .u64 10,.int .i64 m] w fun e w'=>∃ p,e=.returned p/\Below w.heap.size w w'/\Calls Tryz.prog 86 #[vd,p] w' fun e w''=>∃ r,e=.returned r/\NT KK A r w''/\Below w'.heap.size w' w'') :
  Calls Tryz.prog 65 #[vn,vd,.int .u64 10,.int .i64 x] w fun e w'=>∃ r,e=.returned (.tuple #[vn,r])/\NT KK A r w'/\Below w.heap.size w w':=by
 have e1:max x (-60000)=x:=by omega
 have e2:min x 60000=x:=by omega
 subst hm
 go_enter Tryz.func65,Tryz.ntmps65
 go_wp2_with (first
  | (go_at_call 129;refine c79.mono ?_;rintro e w1 ⟨p,rfl,hb1,c17⟩)
  | (go_at_call 86;refine c17.mono ?_;rintro e w2 ⟨r,rfl,hr,hb2⟩))
 exact bodyPost_ret (v:=.tuple #[vn,r]) (by simp only [results,Tryz.results65];go_simp) rfl ⟨_,rfl,hr,hb1.trans (hb2.mono hb1.size)⟩
end
theorem zEp {N D:Nat}{vn vd:Value}{w:World}(x:Int)(hx:-60000<=x/\x<=60000)(h:NT 7000 N vn w)(h':NT 7000 D vd w)(hN:bl N<=200000)(hD:bl D<=200000) :
  Calls Tryz.prog 65 #[vn,vd,.int .u64 10,.int .i64 x] w fun e w'=>∃ a b,e=.returned (.tuple #[a,b])/\NT 7000 (N*10^x.toNat) a w'/\NT 7000 (D*10^(-x).toNat) b w'/\Below w.heap.size w w':=by
 by_cases hp:0<=x
 ·have c79:=zFn x.toNat w (by omega)
  rw [show ((x.toNat:Nat):Int)=x by omega] at c79
  rw [show (-x).toNat=0 by omega,Nat.pow_zero,Nat.mul_one]
  have b1:=zKh N (10^x.toNat)
  have b2:=zDg x.toNat
  exact (zEv x vn vd (N*10^x.toNat) 7000 w hx hp (c79.mono fun e w' ⟨p,e1,e2,e3⟩=>⟨p,e1,e3,(zYb (by decide) (by decide) (h.next e3).nv e2.nv).mono fun e w'' ⟨r,f1,f2,f3⟩=>⟨r,f1,f2.tight (by omega),f3⟩⟩)).mono fun e w' ⟨r,e1,e2,e3⟩=>⟨_,_,e1,e2,h'.next e3,e3⟩
 ·have c79:=zFn (-x).toNat w (by omega)
  rw [show (((-x).toNat:Nat):Int)=-x by omega] at c79
  rw [show x.toNat=0 by omega,Nat.pow_zero,Nat.mul_one]
  have b1:=zKh D (10^(-x).toNat)
  have b2:=zDg (-x).toNat
  exact (zFv x vn vd (D*10^(-x).toNat) 7000 w hx (-x) rfl hp (c79.mono fun e w' ⟨p,e1,e2,e3⟩=>⟨p,e1,e3,(zYb (by decide) (by decide) (h'.next e3).nv e2.nv).mono fun e w'' ⟨r,f1,f2,f3⟩=>⟨r,f1,f2.tight (by omega),f3⟩⟩)).mono fun e w' ⟨r,e1,e2,e3⟩=>⟨_,_,e1,h.next e3,e2,e3⟩
theorem zVm {N D:Nat}{E:Int}(hD:0<D)(h:tnG N D E):3*E<=bl N:=by
 rcases Int.lt_or_le E 0 with q|q
 ·omega
 ·unfold tnG at h
  rw [show (-E).toNat=0 by omega,Nat.pow_zero,Nat.mul_one] at h
  have h1:10^E.toNat<=N:=Nat.le_trans (Nat.le_mul_of_pos_left _ hD) h
  have h2:N<2^bl N:=bl_le.1 (Nat.le_refl _)
  have h3:(8:Nat)^E.toNat<=10^E.toNat:=Nat.pow_le_pow_left (by decide) _
  have h4:(2:Nat)^(3*E.toNat)<2^bl N:=by
   rw [Nat.pow_mul]
   exact Nat.lt_of_le_of_lt (Nat.le_trans h3 h1) h2
  have:=(Nat.pow_lt_pow_iff_right (a:=2) (by decide)).1 h4
  omega
theorem zLu {N D:Nat}{E:Int}(hN:0<N)(h:¬ tnG N D E):-(bl D:Int)<=3*E:=by
 rcases Int.lt_or_le 0 E with q|q
 ·omega
 ·unfold tnG at h
  rw [show E.toNat=0 by omega,Nat.pow_zero,Nat.mul_one] at h
  have h1:10^(-E).toNat<D:=by
   have:10^(-E).toNat<=N*10^(-E).toNat:=Nat.le_mul_of_pos_left _ hN
   omega
  have h2:D<2^bl D:=bl_le.1 (Nat.le_refl _)
  have h3:(8:Nat)^(-E).toNat<=10^(-E).toNat:=Nat.pow_le_pow_left (by decide) _
  have h4:(2:Nat)^(3*(-E).toNat)<2^bl D:=by
   rw [Nat.pow_mul]
   exact Nat.lt_of_le_of_lt (Nat.le_trans h3 (Nat.le_of_lt h1)) h2
  have:=(Nat.pow_lt_pow_iff_right (a:=2) (by decide)).1 h4
  omega
theorem rtensW (vn vd:Value)(LN LD E:Int)(w:World)(T:Int->Prop)(hL:0<=LN/\LN<=150000/\0<=LD/\LD<=150000)(hE:-59000<=E/\E<=59000)(t1:∀ e,e<=E->T e)(t2:∀ e,E<e->¬ T e)
  (c56n:∀ W,Below w.heap.size w W->CQ 69 #[vn] W (.int .i64 LN))
  (c56d:∀ W,Below w.heap.size w W->CQ 69 #[vd] W (.int .i64 LD))
  (cy:∀ W e (y:Int),y=-e->-59900<=e/\e<=59900->T e->Below w.heap.size w W->Calls Tryz.prog 65 #[vn,vd,.int .u64 10,.int .i64 y] W fun r w'=>∃ a b,r=.returned (.tuple #[a,b])/\(Calls Tryz.prog 88 #[a,b] w' fun r w''=>∃ sv:Int,r=.returned (.int .i64 sv)/\¬ sv<0/\w'=w'')/\Below W.heap.size W w')
  (cn:∀ W e (y:Int),y=-e->-59900<=e/\e<=59900->¬ T e->Below w.heap.size w W->Calls Tryz.prog 65 #[vn,vd,.int .u64 10,.int .i64 y] W fun r w'=>∃ a b,r=.returned (.tuple #[a,b])/\(Calls Tryz.prog 88 #[a,b] w' fun r w''=>∃ sv:Int,r=.returned (.int .i64 sv)/\sv<0/\w'=w'')/\Below W.heap.size W w') :
  CB 130 #[vn,vd] w (.int .i64 E):=by
 have hgs:=gs_bd (LN-LD) (by omega)
 have HG:Hid (-59000<=((LN-LD)*30103).tdiv 100000/\((LN-LD)*30103).tdiv 100000<=59000):=by
  show _/\_
  by_cases h0:0<=LN-LD
  ·rw [Int.tdiv_eq_ediv_of_nonneg (by omega)];omega
  ·rw [show (LN-LD)*30103=-(-(LN-LD)*30103) by omega,Int.neg_tdiv,Int.tdiv_eq_ediv_of_nonneg (by omega)];omega
 go_enter Tryz.func130,Tryz.ntmps130
 go_wp2_with (first
  | (go_at_call_of 69 vn;refine (c56n _ bgo).mono ?_;rintro r w1 ⟨rfl,rfl⟩)
  | (go_at_call_of 69 vd;refine (c56d _ bgo).mono ?_;rintro r w1 ⟨rfl,rfl⟩))
 have hg:=HG.out
 generalize ((LN-LD)*30103).tdiv 100000=e0 at *
 clear hgs HG c56n c56d
 rename World=>w
 go_loopw [5] (fun t5 wr=>∃ e:Int,t5=.int .i64 e/\-59000<=e/\e<=59000/\Below w.heap.size w wr) (fun t5 _=>(intOf t5-E).natAbs)
 case atStart=>exact ⟨e0,rfl,hg.1,hg.2,Below.refl _ _⟩
 case round =>
  obtain ⟨e,rfl,h1,h2,hB⟩:=hrel
  by_cases hlt:E<e
  ·have c30:=cn wr e (-e) rfl (by omega) (t2 e hlt) hB
   go_wp2_with (first
    | (go_at_call 65;refine c30.mono ?_;rintro r w1 ⟨a1,b1,rfl,c38,hb1⟩)
    | (go_at_call 88;refine c38.mono ?_;rintro r w2 ⟨sv,rfl,hsv,rfl⟩))
   go_roundw
   case rel=>exact ⟨e-1,by go_num,by omega,by omega,bnx hB hb1⟩
   case measure=>simp [intOf];omega
  ·have c30:=cy wr e (-e) rfl (by omega) (t1 e (by omega)) hB
   by_cases heq:e=E
   ·subst heq
    have c30b:=fun W (hW:Below w.heap.size w W)=>cn W (e+1) (-e-1) (by omega) (by omega) (t2 _ (by omega)) hW
    go_wp2_with (first
     | (go_at_call 65;refine (c30b _ (bnx hB hb1)).mono ?_;rintro r w3 ⟨a2,b2,rfl,d38,hb3⟩)
     | (go_at_call 65;refine c30.mono ?_;rintro r w1 ⟨a1,b1,rfl,c38,hb1⟩)
     | (go_at_call 88;refine d38.mono ?_;rintro r w4 ⟨sv2,rfl,hsv2,rfl⟩)
     | (go_at_call 88;refine c38.mono ?_;rintro r w2 ⟨sv,rfl,hsv,rfl⟩))
    go_ret
    exact ⟨rfl,bnx (bnx hB hb1) hb3⟩
   ·have c30b:=fun W (hW:Below w.heap.size w W)=>cy W (e+1) (-e-1) (by omega) (by omega) (t1 _ (by omega)) hW
    go_wp2_with (first
     | (go_at_call 65;refine (c30b _ (bnx hB hb1)).mono ?_;rintro r w3 ⟨a2,b2,rfl,d38,hb3⟩)
     | (go_at_call 65;refine c30.mono ?_;rintro r w1 ⟨a1,b1,rfl,c38,hb1⟩)
     | (go_at_call 88;refine d38.mono ?_;rintro r w4 ⟨sv2,rfl,hsv2,rfl⟩)
     | (go_at_call 88;refine c38.mono ?_;rintro r w2 ⟨sv,rfl,hsv,rfl⟩))
    go_roundw
    case rel=>exact ⟨e+1,by go_num,by omega,by omega,bnx (bnx hB hb1) hb3⟩
    case measure=>simp [intOf];omega
theorem rtensT {N D:Nat}{E:Int}{vn vd:Value}{w:World}(hN0:0<N)(hD0:0<D)(hE:TnE N D E)(hN:bl N<=150000)(hD:bl D<=150000)(h:NT 7000 N vn w)(h':NT 7000 D vd w) :
  CB 130 #[vn,vd] w (.int .i64 E):=by
 have u:=zVm hD0 hE.1
 have l:=zLu hN0 hE.2
 have sc:∀ W e (y:Int),y=-e->-59900<=e/\e<=59900->Below w.heap.size w W->Calls Tryz.prog 65 #[vn,vd,.int .u64 10,.int .i64 y] W fun r w'=>∃ a b,r=.returned (.tuple #[a,b])/\(Calls Tryz.prog 88 #[a,b] w' fun r w''=>r=.returned (.int .i64 (sgn ((N*10^(-e).toNat:Nat):Int) ((D*10^e.toNat:Nat):Int)))/\w'=w'')/\Below W.heap.size W w':=by
  rintro W e y rfl he hW
  refine (zEp (-e) (by omega) (h.next hW) (h'.next hW) (by omega) (by omega)).mono fun r w' ⟨a,b,e1,e2,e3,e4⟩=>⟨a,b,e1,?_,e4⟩
  rw [Int.neg_neg] at e3
  exact zQl (by decide) (by decide) e2.nv e3.nv
 refine rtensW vn vd (bl N) (bl D) E w (fun e=>tnG N D e) (by omega) (by omega) (fun e he=>zIk hE.1 he) (fun e he h'=>hE.2 (zIk h' (by omega))) (fun W hW=>zLv (by decide) (h.next hW).nv) (fun W hW=>zLv (by decide) (h'.next hW).nv) ?_ ?_
 ·intro W e y hy he ht hW
  refine (sc W e y hy he hW).mono fun r w' ⟨a,b,e1,e2,e3⟩=>⟨a,b,e1,e2.mono fun r w'' ⟨f1,f2⟩=>⟨_,f1,?_,f2⟩,e3⟩
  have:D*10^e.toNat<=N*10^(-e).toNat:=ht
  rcases zBc ((N*10^(-e).toNat:Nat):Int) ((D*10^e.toNat:Nat):Int) with ⟨a,e⟩|⟨a,e⟩|⟨a,e⟩<;>omega
 ·intro W e y hy he ht hW
  refine (sc W e y hy he hW).mono fun r w' ⟨a,b,e1,e2,e3⟩=>⟨a,b,e1,e2.mono fun r w'' ⟨f1,f2⟩=>⟨_,f1,?_,f2⟩,e3⟩
  have:¬ D*10^e.toNat<=N*10^(-e).toNat:=ht
  rcases zBc ((N*10^(-e).toNat:Nat):Int) ((D*10^e.toNat:Nat):Int) with ⟨a,e⟩|⟨a,e⟩|⟨a,e⟩<;>omega
end
end Go.Proofs.YtahfkpjhlbiamaaGreatDoor
