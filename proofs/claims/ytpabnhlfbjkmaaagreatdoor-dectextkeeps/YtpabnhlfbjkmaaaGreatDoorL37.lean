/-
  Texts that the proof leans on, joined: Uh, Uj, Eg, Uk, Pa, Uo, Pc, Pe, Pl, Pp, Pb, Pg, Ur, Uw, Pk.
-/
import Derived.Test.YtpabnhlfbjkmaaaGreatDoorL21
import Derived.Test.YtpabnhlfbjkmaaaGreatDoorL36
import Derived.Test.YtpabnhlfbjkmaaaGreatDoorL15
import Derived.Test.YtpabnhlfbjkmaaaGreatDoorL1
import Derived.Test.YtpabnhlfbjkmaaaGreatDoorL24
import Derived.Test.YtpabnhlfbjkmaaaGreatDoorL18
import Derived.Test.YtpabnhlfbjkmaaaGreatDoorL16
import Derived.Test.YtpabnhlfbjkmaaaGreatDoorL2
import Derived.Test.YtpabnhlfbjkmaaaGreatDoorL17
import Derived.Test.YtpabnhlfbjkmaaaGreatDoorL29
import Derived.Deep.MidRow
import Derived.Test.YtpabnhlfbjkmaaaGreatDoorL12
import Derived.Test.YtpabnhlfbjkmaaaGreatDoorL3
import Derived.Test.YtpabnhlfbjkmaaaGreatDoorL35
set_option linter.unusedVariables false
set_option linter.unusedSectionVars false
set_option linter.unusedSimpArgs false
set_option maxHeartbeats 8000000
set_option maxRecDepth 20000
namespace Go.Proofs.YtpabnhlfbjkmaaaGreatDoor
open Go.RowKit
section
theorem tnX_eq {N D:Nat} {E:Int} (hN:0<N) (hD:0<D) (h:TnE N D E):tnX N D=E:=(tnX_is hN hD).only h
theorem third:rqD 7 0 false 1 3 0 0=⟨1,false,false,-7,3333333⟩/\rqF 7 0 false 1 3 0=8/\rqE 7 0 1 3=0:=by
 have e0:rqE 7 0 1 3=0:=by
  have b1:bl 1<=2:=bl_le.2 (by decide)
  have b3:bl 3<=2:=bl_le.2 (by decide)
  unfold rqE
  rw [if_pos ⟨by unfold decN;omega,by unfold knB;omega,by decide⟩,if_neg (by omega)]
 have eX:tnX (1*10^(clT 0).toNat) (3*10^(-(clT 0)).toNat)=-1:=tnX_eq (by decide) (by decide) ⟨by decide,by decide⟩
 refine ⟨?_,?_,e0⟩
 ·unfold rqD
  rw [if_pos e0,if_neg (by decide),eX]
  have h1:(dkD (fD 7) 0 false (1*10^(clT 0).toNat) (3*10^(-(clT 0)).toNat) (-1) 0).c=1/\(dkD (fD 7) 0 false (1*10^(clT 0).toNat) (3*10^(-(clT 0)).toNat) (-1) 0).s=false/\(dkD (fD 7) 0 false (1*10^(clT 0).toNat) (3*10^(-(clT 0)).toNat) (-1) 0).g=false/\(dkD (fD 7) 0 false (1*10^(clT 0).toNat) (3*10^(-(clT 0)).toNat) (-1) 0).x=-7/\(dkD (fD 7) 0 false (1*10^(clT 0).toNat) (3*10^(-(clT 0)).toNat) (-1) 0).k=3333333:=by decide +kernel
  generalize dkD (fD 7) 0 false (1*10^(clT 0).toNat) (3*10^(-(clT 0)).toNat) (-1) 0=R at h1 ⊢
  obtain ⟨c,s,g,x,k⟩:=R
  simp only at h1
  obtain ⟨rfl,rfl,rfl,rfl,rfl⟩:=h1
  rfl
 ·unfold rqF
  rw [if_pos e0,if_neg (by decide),eX]
  decide +kernel
attribute [local irreducible] W4 Nt
end
def i6 (x:Int):Prop:=-9223372036854775808<=x/\x<=9223372036854775807
section
theorem dof_dec {n:Int} (h:decN n) (w:World) (hT:Tab w):CB 70 #[.int .i64 n] w (.tuple #[IDec n (nameN n) (widthN n) (3*((fD n).j:Int)+1) (expN n) (fD n).l (fD n).m (payN n) (denseN n),.int .i64 0]):=by
 obtain ⟨hok,h1,h2,h3,h4,h5,h6,h7,h8⟩:=dec_fields h
 have c:=ofv_any n w hT
 rw [show infoE n=0 from if_pos hok,h1,h2,h4,h5,h6] at c
 exact c
theorem not_decE {n:Int} (hok:okN n) (h:¬ decN n):(baseN n != 10)=true:=by
 unfold okN at hok
 unfold decN at h
 have:n=1∨n=2∨n=3∨n=4∨n=5∨n=6:=by omega
 rcases this with rfl | rfl | rfl | rfl | rfl | rfl <;> decide
section
variable {n d:Int} {N D:Nat} {vn vd:Value} {w:World} (hT:Tab w) (hn:Nt 2001 N vn w) (hd:Nt 2001 D vd w)
include hT hn hd
theorem dchk_bad (hE:rqE n d N D≠0):CB 158 #[.int .i64 n,.int .i64 d,vn,vd] w (.tuple #[IZ,.int .i64 (rqE n d N D)]):=by
 have c66:=fun W (hb:Below w.heap.size w W)=>nlen_v (by decide) (hn.next hb)
 have c66d:=fun W (hb:Below w.heap.size w W)=>nlen_v (by decide) (hd.next hb)
 unfold rqE at hE ⊢
 by_cases h1:decN n
 ·by_cases h2:knB d
  ·by_cases h3:D=0
   ·rw [if_neg (fun h=>h.2.2 h3)]
    exact dcheck_z n d _ _ _ _ _ _ _ _ N D vn vd w hT c66 c66d (decide_eq_true h2) (by rw [h3];rfl) (fun W hT'=>dof_dec h1 W hT')
   ·rw [if_pos ⟨h1,h2,h3⟩] at hE ⊢
    have hD0:(((bl D:Nat):Int) == 0)=false:=by rw [bl_nought];exact decide_eq_false h3
    by_cases h4:25600<bl N
    ·rw [if_pos (Or.inl h4)]
     exact dcheck_n n d _ _ _ _ _ _ _ _ N D vn vd w hT c66 c66d (decide_eq_true h2) hD0 (by omega) (fun W hT'=>dof_dec h1 W hT')
    ·by_cases h5:25600<bl D
     ·rw [if_pos (Or.inr h5)]
      exact dcheck_l n d _ _ _ _ _ _ _ _ N D vn vd w hT c66 c66d (decide_eq_true h2) hD0 (by omega) (by omega) (fun W hT'=>dof_dec h1 W hT')
     ·exact absurd (if_neg (fun h=>h.elim h4 h5)) hE
  ·rw [if_neg (fun h=>h2 h.2.1)]
   exact dcheck_d n d _ _ _ _ _ _ _ _ N D vn vd w hT c66 c66d (decide_eq_false h2) (fun W hT'=>dof_dec h1 W hT')
 ·rw [if_neg (fun h=>h1 h.1)]
  by_cases hok:okN n
  ·refine dcheck_b n d (nameN n) (widthN n) (precN n) (expN n) (leastN n) (mostN n) (payN n) (baseN n) (denseN n) N D vn vd w hT c66 c66d (numN n) (not_decE hok h1) (fun W hT'=>?_)
   have c:=ofv_any n W hT'
   rw [show infoE n=0 from if_pos hok] at c
   exact c
  ·refine dcheck_e n d (nameN n) (widthN n) (precN n) (expN n) (leastN n) (mostN n) (payN n) (baseN n) (denseN n) N D vn vd w hT c66 c66d (numN n) 1 (by decide) (fun W hT'=>?_)
   have c:=ofv_any n W hT'
   rw [show infoE n=1 from if_neg hok] at c
   exact c
theorem dchk_ok (hE:rqE n d N D=0):CB 158 #[.int .i64 n,.int .i64 d,vn,vd] w (.tuple #[IDec n (nameN n) (widthN n) (3*((fD n).j:Int)+1) (expN n) (fD n).l (fD n).m (payN n) (denseN n),.int .i64 0]):=by
 have c66:=fun W (hb:Below w.heap.size w W)=>nlen_v (by decide) (hn.next hb)
 have c66d:=fun W (hb:Below w.heap.size w W)=>nlen_v (by decide) (hd.next hb)
 obtain ⟨h1,h2,h3,h4,h5⟩:=rq_zero hE
 exact dcheck_k n d _ _ _ _ _ _ _ _ N D vn vd w hT c66 c66d (decide_eq_true h2) (by rw [bl_nought];exact decide_eq_false h3) (by omega) (by omega) (fun W hT'=>dof_dec h1 W hT')
end
theorem ten_256 {f:DF} (hf:f.ok):(10:Nat)^(3*f.j+1)<2^256:=by
 obtain ⟨m0,m1,l0,l1,lm,j0,j1⟩:=ok_m hf
 exact Nat.lt_of_le_of_lt (Nat.pow_le_pow_right (by decide) (show 3*f.j+1<=34 by omega)) (by decide)
theorem drd_v {n d x y:Int} {s:Bool} {N D:Nat} {vn vd:Value} {w:World} (hT:Tab w) (hn:Nt 2001 N vn w) (hd:Nt 2001 D vd w) :
  CB 126 #[.int .i64 n,.int .i64 d,.bool s,vn,vd,.int .i64 x,.int .i64 y] w (.tuple #[(rqD n d s N D x y).v,.int .i64 (rqF n d s N D x),.int .i64 (rqE n d N D)]):=by
 by_cases hE:rqE n d N D=0
 ·have c17:=fun W (hb:Below w.heap.size w W)=>dchk_ok (hT.go hb) (hn.next hb) (hd.next hb) hE
  have c18:=fun W (hb:Below w.heap.size w W)=>nlen_v (by decide) (hn.next hb)
  obtain ⟨h1,h2,h3,h4,h5⟩:=rq_zero hE
  have hf:=fD_ok n
  obtain ⟨m0,m1,l0,l1,lm,j0,j1⟩:=ok_m hf
  by_cases hN:N=0
  ·have e1:rqD n d s N D x y=⟨1,s,false,min (max y (fD n).l) (fD n).m,0⟩:=by unfold rqD;rw [if_pos hE,if_pos hN]
   have e2:rqF n d s N D x=0:=by unfold rqF;rw [if_pos hE,if_pos hN]
   rw [e1,e2,hE]
   have ev:(Dat.mk 1 s false (min (max y (fD n).l) (fD n).m) 0).v=.agg #[.int .i64 1,.bool s,.bool false,.int .i64 (min (max y (fD n).l) (fD n).m),.int .u64 0,.int .u64 0,.int .u64 0,.int .u64 0]:=by
    unfold Dat.v DV
    simp only [W4_zero]
   rw [ev]
   exact ddec_z n d x y s vn vd w _ _ _ _ _ _ _ _ N _ _ _ _ _ _ _ _ c17 c18 (by rw [hN];rfl) _ rfl (fun W=>dfin_n s _ W)
  ·obtain ⟨L,hL,_⟩:=dlead_v hn hd hN h3 h4 h5
   have c20:∀ W,Below w.heap.size w W->CB 160 #[vn,vd] W (.int .i64 L):=fun W hb=>by
    obtain ⟨L',hL',c⟩:=dlead_v (hn.next hb) (hd.next hb) hN h3 h4 h5
    rw [hL'.only hL] at c
    exact c
   obtain ⟨b1,b2⟩:=tn_bd (by omega) (by omega) h4 h5 hL
   obtain ⟨r1,r2⟩:=drd_num (s:=s) (x:=x) (y:=y) hE hN hL
   have hTn:=TnE_sh hL (pX (fD n) L x)
   have c21:∀ W,CB 161 #[IDec n (nameN n) (widthN n) (3*((fD n).j:Int)+1) (expN n) (fD n).l (fD n).m (payN n) (denseN n),.int .i64 L,.int .i64 x] W (.int .i64 (pX (fD n) L x)):=fun W =>
    dwithin_v n _ _ _ _ _ _ _ _ L x W (by omega) (by omega) (by omega) (by omega)
   have hXb:(fD n).l-2-L<=pX (fD n) L x/\pX (fD n) L x<=(fD n).m+(3*(fD n).j+1)-L:=by unfold pX;omega
   have hC0:=dkC0_at (fD n) d s N D (pX (fD n) L x) (L+pX (fD n) L x)
   have hX0:=dkX_at (fD n) N D (pX (fD n) L x) (L+pX (fD n) L x)
   have hle:=dkC0_le (f:=fD n) (d:=d) (s:=s) (Nat.mul_pos (show 0<D by omega) (ten_pos (-(pX (fD n) L x)).toNat)) hTn
   have hCl:=dkC_lt (f:=fD n) (d:=d) (s:=s) (Nat.mul_pos (show 0<D by omega) (ten_pos (-(pX (fD n) L x)).toNat)) hTn
   have h256:=ten_256 hf
   have hql:=dkE_ge (fD n) d s (N*10^(pX (fD n) L x).toNat) (D*10^(-(pX (fD n) L x)).toNat) (L+pX (fD n) L x)
   have hqq:max (fD n).l (L+pX (fD n) L x-(3*((fD n).j:Int)+1)+1)=dkQ (fD n) (L+pX (fD n) L x):=by unfold dkQ;omega
   have hqb:-20000<=dkQ (fD n) (L+pX (fD n) L x)/\dkQ (fD n) (L+pX (fD n) L x)<=20000:=by unfold dkQ;omega
   have hdf:-9100<=pX (fD n) L x-dkQ (fD n) (L+pX (fD n) L x)/\pX (fD n) L x-dkQ (fD n) (L+pX (fD n) L x)<=9100:=by unfold dkQ;omega
   rw [r1,r2,hE]
   clear r1 r2 hL
   unfold dkD dkF
   unfold dkM at *
   generalize hEq:dkE (fD n) d s (N*10^(pX (fD n) L x).toNat) (D*10^(-(pX (fD n) L x)).toNat) (L+pX (fD n) L x)=qe at *
   generalize hCq:dkC (fD n) d s (N*10^(pX (fD n) L x).toNat) (D*10^(-(pX (fD n) L x)).toNat) (L+pX (fD n) L x)=ce at *
   unfold dkE at hEq
   unfold dkC at hCq
   rw [hX0]
   generalize dkC0 (fD n) d s (N*10^(pX (fD n) L x).toNat) (D*10^(-(pX (fD n) L x)).toNat) (L+pX (fD n) L x)=C at *
   clear hX0 hTn
   generalize dkQ (fD n) (L+pX (fD n) L x)=q0 at *
   generalize pX (fD n) L x=X at *
   have c22:∀ W,Below w.heap.size w W->Calls Tryz.prog 162 #[vn,vd,.int .i64 (X-q0)] W fun r w'=>∃ va vb,r=.returned (.tuple #[va,vb])/\Below W.heap.size W w'/\(Calls Tryz.prog 163 #[.int .i64 d,.bool s,va,vb] w' fun r w''=>∃ v,r=.returned (.tuple #[v,.bool (decide (N*10^(X-q0).toNat%(D*10^(-(X-q0)).toNat)=0))])/\Nz 2003 C v w''/\Below w'.heap.size w' w''):=fun W hb=>by
    refine (dscaled_v (X-q0) (hn.next hb) (hd.next hb) (by omega) (by omega) (by omega)).mono ?_
    rintro r w' ⟨va,vb,e1,e2,e3,e4⟩
    refine ⟨va,vb,e1,e4,?_⟩
    rw [hC0]
    have t1:=bl_mul N (10^(X-q0).toNat)
    have t2:=bl_mul D (10^(-(X-q0)).toNat)
    have t3:=ten_bl (X-q0).toNat
    have t4:=ten_bl (-(X-q0)).toNat
    exact whole_cv d s e2 e3 (Nat.ne_of_gt (Nat.mul_pos (by omega) (ten_pos _))) (by omega) (by omega)
   have c25:∀ W,CE 165 #[.int .i64 (3*((fD n).j:Int)+1)] W (NT 2001 (10^(3*(fD n).j+1))):=fun W=>by
    have:=drten_v (3*(fD n).j+1) W (by omega)
    rw [show ((3*(fD n).j+1:Nat):Int)=3*((fD n).j:Int)+1 by omega] at this
    exact this
   have c25b:∀ W,CE 165 #[.int .i64 (3*((fD n).j:Int)+1-1)] W (NT 2001 (10^(3*(fD n).j))):=fun W=>by
    have:=drten_v (3*(fD n).j) W (by omega)
    rw [show ((3*(fD n).j:Nat):Int)=3*((fD n).j:Int)+1-1 by omega] at this
    exact this
   have c24:∀ W v u,Nz 2003 C v W->NT 2001 (10^(3*(fD n).j+1)) u W->CB 164 #[v,u] W (.int .i64 (sgn (C:Int) ((10^(3*(fD n).j+1):Nat):Int))):=fun W v u hv hu=>ncmp_v (by decide) (by decide) hv.nt hu.nt
   have hcm:(sgn (C:Int) ((10^(3*(fD n).j+1):Nat):Int) == 0)=decide (10^(3*(fD n).j+1)<=C):=by
    rcases sgn_ways (C:Int) ((10^(3*(fD n).j+1):Nat):Int) with ⟨a,e⟩ | ⟨a,e⟩ | ⟨a,e⟩
    ·rw [e,decide_eq_false (by omega)];rfl
    ·rw [e,decide_eq_true (by omega)];rfl
    ·exact absurd a (by omega)
   have c26:∀ W,CB 166 #[IDec n (nameN n) (widthN n) (3*((fD n).j:Int)+1) (expN n) (fD n).l (fD n).m (payN n) (denseN n),.int .i64 d,.bool s] W ((if inB d s then (⟨2,s,false,0,0⟩:Dat) else ⟨1,s,false,(fD n).m,10^(3*(fD n).j+1)-1⟩).v):=fun W=>by
    by_cases hi:inB d s=true
    ·rw [if_pos hi]
     have:=dover_i n (nameN n) (widthN n) (3*((fD n).j:Int)+1) (expN n) (fD n).l (fD n).m (payN n) (denseN n) d s W hi
     unfold Dat.v DV
     simp only [W4_zero]
     exact this
    ·rw [if_neg hi]
     exact dover_l n (nameN n) (widthN n) (3*((fD n).j:Int)+1) (expN n) (fD n).l (fD n).m (payN n) (denseN n) d s W (by simpa using hi) _ (10^(3*(fD n).j+1)-1) _ _ _ _ _ _ _ _ c25 (fun W v u hv hu=>nsub_vd (by decide) (by decide) hv hu (ten_pos _)) (fun W v hv=>dfin_v (C:=10^(3*(fD n).j+1)-1) s (fD n).m hv (by omega))
   have hN0:(((bl N:Nat):Int) == 0)=false:=by rw [bl_nought];exact decide_eq_false hN
   have hfl:∀ ex:Bool,∀ W,CQ 168 #[.bool ex,.bool (decide (L+X<3*((fD n).j:Int)+1-1+(fD n).l))] W (.int .i64 (if ex then 0 else if L+X<(fD n).l+3*(fD n).j then 12 else 8)):=fun ex W=>by
    have:=raised_any ex (decide (L+X<3*((fD n).j:Int)+1-1+(fD n).l)) W
    have e:(L+X<3*((fD n).j:Int)+1-1+(fD n).l)↔(L+X<(fD n).l+3*(fD n).j):=by omega
    simp only [decide_eq_true_eq,e] at this
    simpa only [e] using this
   generalize hxa:decide (N*10^(X-q0).toNat%(D*10^(-(X-q0)).toNat)=0)=exa at *
   have hfx:=hfl exa
   clear hfl hxa hC0
   by_cases hu:10^(3*(fD n).j+1)<=C
   ·rw [if_pos hu] at hEq hCq
    subst hEq hCq
    rw [decide_eq_true hu] at hcm
    by_cases ho:(fD n).m<q0+1
    ·rw [if_pos ho,if_pos ho]
     exact ddec_uo n d x y s vn vd w _ _ _ _ _ _ _ _ N _ _ _ _ _ _ _ _ c17 c18 (by omega) (by omega) (by omega) hN0 L X q0 (by omega) (by omega) hqq (by omega) C _ _ _ c20 c21 c22 c25 c24 hcm _ c25b ho c26
    ·rw [if_neg ho,if_neg ho]
     cases exa
     ·exact ddec_ui n d x y s vn vd w _ _ _ _ _ _ _ _ N _ _ _ _ _ _ _ _ c17 c18 (by omega) (by omega) (by omega) hN0 L X q0 (by omega) (by omega) hqq (by omega) C _ _ _ c20 c21 c22 c25 c24 hcm _ c25b ho rfl _ (fun W v hv=>dfin_v (C:=10^(3*(fD n).j)) s (q0+1) hv (by omega)) hfx
     ·obtain ⟨k1,k2,k3,k4⟩:=mbr_all (want:=y) ((fD n).m-(q0+1)).toNat (10^(3*(fD n).j)) (q0+1) (show q0+1<=(fD n).m by omega)
      exact ddec_ux n d x y s vn vd w _ _ _ _ _ _ _ _ N _ _ _ _ _ _ _ _ c17 c18 (by omega) (by omega) (by omega) hN0 L X q0 (by omega) (by omega) hqq (by omega) C _ _ _ c20 c21 c22 c25 c24 hcm _ c25b ho rfl _ _ _ rfl (fun W v hv=>dmember_v (fD n).m y (by omega) (by omega) hv (by omega)) (fun W v hv=>dfin_v (C:=(mbr (fD n).m y ((fD n).m-(q0+1)).toNat (10^(3*(fD n).j)) (q0+1)).1) s _ hv (by omega)) hfx
   ·rw [if_neg hu] at hEq hCq
    subst hEq hCq
    rw [decide_eq_false hu] at hcm
    by_cases ho:(fD n).m<q0
    ·rw [if_pos ho,if_pos ho]
     exact ddec_no n d x y s vn vd w _ _ _ _ _ _ _ _ N _ _ _ _ _ _ _ _ c17 c18 (by omega) (by omega) (by omega) hN0 L X q0 (by omega) (by omega) hqq (by omega) C _ _ _ c20 c21 c22 c25 c24 hcm ho c26
    ·rw [if_neg ho,if_neg ho]
     cases exa
     ·exact ddec_ni n d x y s vn vd w _ _ _ _ _ _ _ _ N _ _ _ _ _ _ _ _ c17 c18 (by omega) (by omega) (by omega) hN0 L X q0 (by omega) (by omega) hqq (by omega) C _ _ _ c20 c21 c22 c25 c24 hcm ho rfl _ (fun W v hv=>dfin_v (C:=C) s q0 hv (by omega)) hfx
     ·obtain ⟨k1,k2,k3,k4⟩:=mbr_all (want:=y) ((fD n).m-q0).toNat C q0 (show q0<=(fD n).m by omega)
      exact ddec_nx n d x y s vn vd w _ _ _ _ _ _ _ _ N _ _ _ _ _ _ _ _ c17 c18 (by omega) (by omega) (by omega) hN0 L X q0 (by omega) (by omega) hqq (by omega) C _ _ _ c20 c21 c22 c25 c24 hcm ho rfl _ _ _ rfl (fun W v hv=>dmember_v (fD n).m y (by omega) (by omega) hv (by omega)) (fun W v hv=>dfin_v (C:=(mbr (fD n).m y ((fD n).m-q0).toNat C q0).1) s _ hv (by omega)) hfx
 ·obtain ⟨q1,q2⟩:=rq_not (s:=s) (x:=x) (y:=y) hE
  rw [q1,q2]
  exact ddec_e n d x y s vn vd w _ (by simpa using hE) (fun W hb=>dchk_bad (hT.go hb) (hn.next hb) (hd.next hb) hE)
theorem drk_v {n d x:Int} {s:Bool} {N:Nat} {vn:Value} {w:World} (hT:Tab w) (hn:Nt 2001 N vn w) :
  CB 81 #[.int .i64 n,.int .i64 d,.bool s,vn,.int .i64 x] w (.tuple #[(rqD n d s N 1 x x).v,.int .i64 (rqF n d s N 1 x),.int .i64 (rqE n d N 1)]) :=
 dkeep_w n d x s vn w _ _ _ _ _ _ _ _ _ _ fun W v hb hv=>drd_v (hT.go hb) (hn.next hb) (hv.more (by decide))
end
theorem rq_keep {n d:Int} {v:Dat} (h:decN n) (hd:knB d) (hv:vI (fD n) v) (hc:v.c=1) :
  rqE n d v.k 1=0/\rqD n d v.s v.k 1 v.x v.x=v/\rqF n d v.s v.k 1 v.x=0:=by
 obtain ⟨m0,m1,l0,l1,lm,j0,j1⟩:=ok_m (fD_ok n)
 obtain ⟨c,s,g,x,k⟩:=v
 simp only at hc ⊢
 subst hc
 have hv':g=false/\k<10^(3*(fD n).j+1)/\(fD n).l<=x/\x<=(fD n).m:=by
  rcases hv with ⟨_,a,b,c,e⟩ | ⟨a,_⟩ | ⟨a,_⟩
  ·exact ⟨a,b,c,e⟩
  ·exact absurd (show (1:Int)=2 from a) (by decide)
  ·exact absurd (show (1:Int)=3 from a) (by decide)
 obtain ⟨rfl,hk,hx0,hx1⟩:=hv'
 have b1:bl 1<=2:=bl_le.2 (by decide)
 have bk:bl k<=200:=bl_le.2 (Nat.lt_of_lt_of_le hk (Nat.le_trans (Nat.pow_le_pow_right (by decide) (show 3*(fD n).j+1<=34 by omega)) (by decide)))
 have e0:rqE n d k 1=0:=by
  unfold rqE
  rw [if_pos ⟨h,hd,by decide⟩,if_neg (by omega)]
 refine ⟨e0,?_⟩
 unfold rqD rqF
 rw [if_pos e0,if_pos e0]
 by_cases hk0:k=0
 ·rw [if_pos hk0,if_pos hk0]
  subst hk0
  rw [show min (max x (fD n).l) (fD n).m=x by omega]
  exact ⟨rfl,rfl⟩
 ·rw [if_neg hk0,if_neg hk0,show clT x=x by unfold clT;omega,Nat.one_mul]
  have hp:=Nat.pos_of_ne_zero hk0
  exact dk_keep (fD_ok n) d s hp hk hx0 hx1 (tnX_is (Nat.mul_pos hp (ten_pos _)) (ten_pos _))
theorem zero_cut (s:Bool) {e:Int} (he:-100000<=e/\e<=100000):cutP (sgL s++unT [48] e)=some ⟨1,s,false,[],e⟩:=by
 have hlen:(unT [48] e).length<=26:=by have:=unT_brief (D:=[48]) he;rw [List.length_cons,List.length_nil] at this;omega
 obtain ⟨x1,x2,x3,x4,x5⟩:=ex_any e (by omega)
 have hu:unT [48] e=[48]++(101 :: Lib.itoa e):=rfl
 have key:finB (unT [48] e)=true/\finD (unT [48] e)=[]/\finE (unT [48] e)=e/\∃ t,unT [48] e=48 :: t:=by
  rw [hu]
  obtain ⟨d1,d2⟩:=dgs_app2 (l:=[48]) (m:=101 :: Lib.itoa e) (by decide) x4
  have f1:frac ([48]++101 :: Lib.itoa e)=[]:=by unfold frac;rw [d2,x3];rfl
  have f2:behind ([48]++101 :: Lib.itoa e)=101 :: Lib.itoa e:=by unfold behind;rw [d2,x3];rfl
  refine ⟨?_,?_,?_,_,rfl⟩
  ·unfold finB;rw [f1,f2,x1,d1];rfl
  ·unfold finD;rw [f1,d1];rfl
  ·unfold finE;rw [f1,f2,x2]
   rw [show e-((([]:List UInt8).length:Nat):Int)=e by simp]
   exact clamp_id (by omega)
 obtain ⟨k1,k2,k3,t,k4⟩:=key
 unfold cutP
 have hs:(sgL s++unT [48] e).length<=4000:=by
  rw [List.length_append]
  have:(sgL s).length<=1:=by cases s <;> decide
  omega
 rw [if_neg (by omega)]
 have hsg:gsgB (sgL s++unT [48] e)=s/\sgR (sgL s++unT [48] e)=unT [48] e:=by
  rw [k4]
  exact sig_app s 48 t ⟨by decide,by decide⟩
 rw [hsg.1,hsg.2]
 unfold bodP
 rw [if_pos k1,k2,k3]
def wtD (k:Nat):List UInt8:=if k=0 then [48] else dcL k
def xtT (v:Dat):List UInt8:=if v.c=1 then sgL v.s++unT (wtD v.k) (v.x+(wtD v.k).length-1) else texT v.c v.s v.g (dcL v.k) 0
def xtP (v:Dat):Prt:=⟨v.c,v.s,v.g,dcL v.k,if v.c=1 then v.x else 0⟩
theorem dcL_ne {k:Nat} (h0:k≠0) (hk:k<2^256):dcL k≠[]:=by
 obtain ⟨f1,f2,f3⟩:=dcL_facts hk
 intro e
 rw [e,dV_nil] at f2
 exact h0 f2.symm
theorem vI_k {f:DF} (hf:f.ok) {v:Dat} (h:vI f v):v.k<2^256:=by
 obtain ⟨m0,m1,l0,l1,lm,j0,j1⟩:=ok_m hf
 have h1:(10:Nat)^(3*f.j+1)<=10^34:=Nat.pow_le_pow_right (by decide) (by omega)
 have h2:(10:Nat)^(3*f.j)<=10^34:=Nat.pow_le_pow_right (by decide) (by omega)
 have h3:(10:Nat)^34<2^256:=by decide
 rcases h with ⟨_,_,a,_⟩ | ⟨_,_,a,_⟩ | ⟨_,_,a⟩
 ·omega
 ·rw [a];decide
 ·omega
theorem xt_cut {f:DF} (hf:f.ok) {v:Dat} (h:vI f v):cutP (xtT v)=some (xtP v)/\(xtT v).length<=3001:=by
 obtain ⟨m0,m1,l0,l1,lm,j0,j1⟩:=ok_m hf
 have hk:=vI_k hf h
 obtain ⟨f1,f2,f3⟩:=dcL_facts hk
 obtain ⟨c,s,g,x,k⟩:=v
 unfold xtT xtP
 dsimp only at *
 rcases h with ⟨h1,h2,h3,h4,h5⟩ | ⟨h1,h2,h3,h4⟩ | ⟨h1,h2,h3⟩
 ·dsimp only at h1 h2 h3 h4 h5
  subst h1 h2
  have hx:-10000<=x/\x<=10000:=by unfold DF.m at *;omega
  rw [if_pos rfl,if_pos rfl]
  unfold wtD
  by_cases h0:k=0
  ·rw [if_pos h0,h0,show dcL 0=[] by kernel_rfl,show x+((([48]:List UInt8).length:Nat):Int)-1=x by simp]
   refine ⟨zero_cut s (by omega),?_⟩
   have hlen:(unT [48] x).length<=26:=by have:=unT_brief (D:=[48]) (e:=x) (by omega);rw [List.length_cons,List.length_nil] at this;omega
   rw [List.length_append]
   have:(sgL s).length<=1:=by cases s <;> decide
   omega
  ·rw [if_neg h0]
   refine ⟨dec_cut s f1 (dcL_ne h0 hk) (by omega) (by omega) rfl,?_⟩
   have hlen:=unT_brief (D:=dcL k) (e:=x+(dcL k).length-1) (by omega)
   rw [List.length_append]
   have:(sgL s).length<=1:=by cases s <;> decide
   omega
 ·dsimp only at h1 h2 h3 h4
  subst h1 h2 h3 h4
  have e0:dcL 0=[]:=by kernel_rfl
  rw [e0]
  exact ⟨by cases s <;> kernel_rfl,by cases s <;> decide⟩
 ·dsimp only at h1 h2 h3
  subst h1 h2
  have hlen:(texT 3 s g (dcL k) 0).length<=3001:=by
   have:=tex_len2 (c:=3) (s:=s) (g:=g) (d:=dcL k) (e:=0) (by decide)
   omega
  have hj:=(jn_of_gd (p:=⟨3,s,g,dcL k,0⟩) ⟨f1,Or.inr (Or.inr ⟨rfl,rfl,by show (texT 3 s g (dcL k) 0).length<=4000;omega⟩)⟩).2
  exact ⟨hj,hlen⟩
noncomputable def dmD (n d:Int) (p:Prt):Dat :=
 if p.cls=1 then rqD n d p.sg (dV p.dig) 1 p.ex p.ex else ⟨p.cls,p.sg,p.sn,0,if p.cls=3 then (if 10^(3*(fD n).j)<=dV p.dig then 0 else dV p.dig) else 0⟩
noncomputable def dmF (n d:Int) (p:Prt):Int:=if p.cls=1 then rqF n d p.sg (dV p.dig) 1 p.ex else 0
theorem dm_is {n d:Int} (hn:decN n) (hd:knB d) {p:Prt} (hg:gdP p) (hb:bl (dV p.dig)<=25600):vI (fD n) (dmD n d p):=by
 obtain ⟨m0,m1,l0,l1,lm,j0,j1⟩:=ok_m (fD_ok n)
 obtain ⟨_,hp⟩:=hg
 unfold dmD
 rcases hp with ⟨h1,_⟩ | ⟨h1,h2,h3,h4⟩ | ⟨h1,h2,h3⟩
 ·rw [if_pos h1]
  have hE:rqE n d (dV p.dig) 1=0:=by
   unfold rqE
   rw [if_pos ⟨hn,hd,by decide⟩,if_neg]
   have:bl 1<=1:=bl_le.2 (by decide)
   omega
  unfold rqD
  rw [if_pos hE]
  by_cases h0:dV p.dig=0
  ·rw [if_pos h0]
   exact Or.inl ⟨rfl,rfl,ten_pos _,by show (fD n).l<=min (max p.ex (fD n).l) (fD n).m;omega,by show min (max p.ex (fD n).l) (fD n).m<=(fD n).m;omega⟩
  ·rw [if_neg h0]
   have hp:0<1*10^(-(clT p.ex)).toNat:=Nat.mul_pos (by decide) (ten_pos _)
   exact dkD_is (fD_ok n) hp (tnX_is (Nat.mul_pos (by omega) (ten_pos _)) hp)
 ·rw [if_neg (by rw [h1];decide)]
  exact Or.inr (Or.inl ⟨h1,h2,by show (if p.cls=3 then _ else 0)=0;rw [if_neg (by rw [h1];decide)],rfl⟩)
 ·rw [if_neg (by rw [h1];decide)]
  refine Or.inr (Or.inr ⟨h1,rfl,?_⟩)
  show (if p.cls=3 then _ else 0)<_
  rw [if_pos h1]
  split
  ·exact ten_pos _
  ·omega
section
abbrev zd:Array Value:=#[.int .i64 0,.bool false,.bool false,.int .i64 0,.int .u64 0,.int .u64 0,.int .u64 0,.int .u64 0]
abbrev dvc (c:Int) (s g:Bool) (x:Int) (k:Nat):Array Value:=#[.int .i64 c,.bool s,.bool g,.int .i64 x,.int .u64 (W4 k 0),.int .u64 (W4 k 1),.int .u64 (W4 k 2),.int .u64 (W4 k 3)]
theorem below_cellsD {n b:Nat} {a:World} (hb:n<=b):∀ (vs:List Value) (o:Nat) (W:World),Below n a W->Below n a (W.setCells b o vs)
 | [],_,_,h=>h
 | v :: r,o,W,h=>below_cellsD hb r (o+1) _ (h.setCell hb v)
def D8 (g:Nat) (cs:Array Value) (w:World):Prop:=g<w.heap.size/\cs.size=8/\(∀ i,i<8->w.cell? ⟨g,i,none⟩=cs[i]?)/\∀ i,w.frozen? ⟨g,i,none⟩=false
theorem D8.next {g:Nat} {cs:Array Value} {w w':World} (h:D8 g cs w) (hb:Below w.heap.size w w'):D8 g cs w' :=
 ⟨Nat.lt_of_lt_of_le h.1 hb.size,h.2.1,fun i hi=>(hb.cell (p:=⟨g,i,none⟩) h.1).trans (h.2.2.1 i hi),fun i=>(hb.frozen (p:=⟨g,i,none⟩) h.1).trans (h.2.2.2 i)⟩
theorem D8.new (w:World):D8 w.heap.size zd (w.alloc (.cells zd 50)):=by
 refine ⟨by simp,rfl,fun i hi=>?_,fun i=>?_⟩
 ·rw [World.cell?_alloc_new]
 ·simp [go_sem]
theorem D8.put {g:Nat} {cs cs':Array Value} {w:World} (h:D8 g cs w) (hs:cs'.size=8):D8 g cs' (w.setCells g 0 cs'.toList):=by
 have hin:=World.cell?_setCells_in g cs'.toList 0 w (fun j hj=>by
  rw [Nat.zero_add,h.2.2.1 j (by simpa [hs] using hj),Array.getElem?_eq_getElem (by rw [h.2.1];simpa [hs] using hj)];rfl)
 refine ⟨Nat.lt_of_lt_of_le h.1 (below_cellsD (n:=0) (Nat.zero_le _) _ _ _ (Below.refl 0 w)).size,hs,fun i hi=>?_,fun i=>?_⟩
 ·have:=hin i (by simpa [hs] using hi)
  rw [Nat.zero_add] at this
  rw [this,Array.getElem?_eq_getElem (by rw [hs];exact hi)]
  simp
 ·rw [World.frozen?_setCells];exact h.2.2.2 i
attribute [local irreducible] W4 Nt NT
section
variable {a:Act} {w:World} {K:Act->World->Prop} {Q:Exit->Act->World->Prop} {d p q:Nat} {ty:TypeId} {pos:String} {after:Array Edge} {gd:Option (Nat×Bool)}
theorem od_ld4 {g i:Nat} {v:Value} (h1:slot a p=.pointer (some ⟨g,i,none⟩)) (h2:w.cell? ⟨g,i,none⟩=some v) (hK:K (a.put (some d) v) w):Oper.wp Tryz.prog { dst:=some d,op:=Op.load 4 (Operand.tmp p),type:=ty,pos:=pos,after:=after,guard:=gd } a w K Q:=by
 unfold slot at h1
 simp [go_sem,h1,h2]
 exact hK
theorem od_alc (hK:K (a.put (some d) (.pointer (some ⟨w.heap.size,0,none⟩))) (w.alloc (.cells zd 50))):Oper.wp Tryz.prog { dst:=some d,op:=Op.alloc 50,type:=ty,pos:=pos,after:=after,guard:=gd } a w K Q:=by
 simp [go_sem]
 exact hK
theorem od_st {g:Nat} {c x:Int} {s b:Bool} {k:Nat} {cs:Array Value} (h1:slot a p=.pointer (some ⟨g,0,none⟩)) (h2:slot a q=DV c s b x k) (hB:D8 g cs w) (hK:K (a.put none undef) (w.setCells g 0 (dvc c s b x k).toList)):Oper.wp Tryz.prog { dst:=none,op:=Op.store 50 (Operand.tmp p) (Operand.tmp q),type:=ty,pos:=pos,after:=after,guard:=gd } a w K Q:=by
 refine wp_store_mid 50 (.tmp p) (.tmp q) rfl g 0 (dvc c s b x k) (by unfold slot at h1;simp [go_sem,h1]) (by unfold slot at h2;simp [go_sem,h2]) (fun j hj=>?_) (by kernel_rfl) (by simp [Value.oneCell']) hK
 rw [Nat.zero_add,hB.2.2.1 j hj,Array.getElem?_eq_getElem (by rw [hB.2.1];exact hj)]
 exact ⟨rfl,hB.2.2.2 j⟩
end
def M7 (ws:World) (cv:Array Value) (L:Nat->Prop) (f:Nat->Value) (w:World):Prop :=
 Below ws.heap.size ws w/\(L 6->L 10∨Nt 1 1 (f 61) w)/\(L 15->∃ g cs,f 14=.pointer (some ⟨g,0,none⟩)/\ws.heap.size<=g/\D8 g cs w/\(L 16->cs=cv))
theorem M7.step {ws w:World} {cv:Array Value} {k t:Nat} {L:Nat->Prop} {f:Nat->Value} {v:Value} (h:M7 ws cv L f w) (h1:t≠61) (h2:t≠14) (h3:k≠6) (h4:k≠15) (h5:k≠16) (h6:k≠10):M7 ws cv (fun j=>L j∨j=k) (fun u=>if some t=some u then v else f u) w:=by
 obtain ⟨a1,a2,a3⟩:=h
 have e61:(if some t=some 61 then v else f 61)=f 61:=if_neg (fun e=>h1 (Option.some.inj e))
 have e14:(if some t=some 14 then v else f 14)=f 14:=if_neg (fun e=>h2 (Option.some.inj e))
 refine ⟨a1,fun h=>?_,fun h=>?_⟩
 ·rcases a2 (h.resolve_right (fun e=>h3 e.symm)) with q | q
  ·exact Or.inl (Or.inl q)
  ·right;show Nt 1 1 (if some t=some 61 then v else f 61) w;rw [e61];exact q
 ·obtain ⟨g,cs,b1,b2,b3,b4⟩:=a3 (h.resolve_right (fun e=>h4 e.symm))
  exact ⟨g,cs,e14.trans b1,b2,b3,fun h=>b4 (h.resolve_right (fun e=>h5 e.symm))⟩
end
section
attribute [local irreducible] W4 Nt NT
section
variable {a:Act} {w:World} {K:Act->World->Prop} {Q:Exit->Act->World->Prop} {d p q:Nat} {ty:TypeId} {pos:String} {after:Array Edge} {gd:Option (Nat×Bool)}
end
def K10 (ws:World) (gd N:Nat) (c0 cv:Array Value) (L:Nat->Prop) (f:Nat->Value) (w:World):Prop :=
 (L 6->L 12∨NT 1001 N (f 52) w)/\(L 7->L 12∨NT 1 1 (f 53) w)/\(¬ L 16->Below ws.heap.size ws w/\D8 gd c0 w)/\(L 16->∃ w0,Below ws.heap.size ws w0/\w=w0.setCells gd 0 cv.toList)
theorem K10.step {ws w:World} {gd N:Nat} {c0 cv:Array Value} {k t:Nat} {L:Nat->Prop} {f:Nat->Value} {v:Value} (h:K10 ws gd N c0 cv L f w) (n16:¬ L 16) (h1:t≠52) (h2:t≠53) (h3:k≠6) (h4:k≠7) (h5:k≠16) (h6:k≠12):K10 ws gd N c0 cv (fun j=>L j∨j=k) (fun u=>if some t=some u then v else f u) w:=by
 obtain ⟨a1,a2,a3,a4⟩:=h
 have e52:(if some t=some 52 then v else f 52)=f 52:=if_neg (fun e=>h1 (Option.some.inj e))
 have e53:(if some t=some 53 then v else f 53)=f 53:=if_neg (fun e=>h2 (Option.some.inj e))
 refine ⟨fun h=>?_,fun h=>?_,fun _=>a3 n16,fun h=>absurd (h.resolve_right (fun e=>h5 e.symm)) n16⟩
 ·rcases a1 (h.resolve_right (fun e=>h3 e.symm)) with q | q
  ·exact Or.inl (Or.inl q)
  ·right;show NT 1001 N (if some t=some 52 then v else f 52) w;rw [e52];exact q
 ·rcases a2 (h.resolve_right (fun e=>h4 e.symm)) with q | q
  ·exact Or.inl (Or.inl q)
  ·right;show NT 1 1 (if some t=some 53 then v else f 53) w;rw [e53];exact q
end
noncomputable def kmE (n d:Int) (p:Prt):Int:=open Classical in if decN n/\knB d then (if gdP p then 0 else 2) else 1
noncomputable def kmV (n d:Int) (p:Prt):Nat:=if kmE n d p=0 then vPV n (dmD n d p) else 0
noncomputable def kmF (n d:Int) (p:Prt):Int:=if kmE n d p=0 then dmF n d p else 0
theorem gd_dig {p:Prt} (h:gdP p):p.dig.all dg=true/\p.dig.length<=4000:=by
 refine ⟨gdD_all h.1,(jn_of_gd h).1⟩
theorem dig_bl {l:List UInt8} (h:l.all dg=true) (hl:l.length<=4000):bl (dV l)<=16001:=by
 have h1:=(dV_lt h).1
 have h2:=ten_bl l.length
 have h3:=bl_le.1 h2
 have h4:bl (dV l)<=4*l.length+1:=bl_le.2 (Nat.lt_trans h1 h3)
 omega
section
attribute [local irreducible] W4
section
variable (n d:Int) (nm:ByteArray) (wd P ex l m pa b:Int) (dn:Bool) (w:World) (hT:Tab w)
include hT
theorem dck_e (i0 E:Int) (hE:(E != 0)=true)
  (c52:∀ W,Tab W->CB 70 #[.int .i64 n] W (.tuple #[.agg #[.int .i64 i0,.string nm,.int .i64 b,.int .i64 wd,.int .i64 P,.int .i64 ex,.int .i64 l,.int .i64 m,.int .i64 pa,.bool dn],.int .i64 E])) :
  CB 34 #[.int .i64 n,.int .i64 d] w (.tuple #[IZ,.int .i64 1]):=by
 have hsm:=cell_set_map
 go_enter Tryz.func34,Tryz.ntmps34
 go_wp2_with (first
  | (go_at_call 70;refine (c52 _ (hT.go bgo)).mono ?_;rintro r w1 ⟨rfl,hb1⟩;obtain ⟨_,_,_,_,hA1,_⟩:=wz w hb1;clear hb1))
 exact bodyPost_ret (v:=.tuple #[IZ,.int .i64 1]) (by simp only [results,Tryz.results34];go_simp) rfl ⟨rfl,bgo⟩
theorem dck_b (i0:Int) (hE:(b != 10)=true)
  (c52:∀ W,Tab W->CB 70 #[.int .i64 n] W (.tuple #[.agg #[.int .i64 i0,.string nm,.int .i64 b,.int .i64 wd,.int .i64 P,.int .i64 ex,.int .i64 l,.int .i64 m,.int .i64 pa,.bool dn],.int .i64 0])) :
  CB 34 #[.int .i64 n,.int .i64 d] w (.tuple #[IZ,.int .i64 1]):=by
 have hsm:=cell_set_map
 go_enter Tryz.func34,Tryz.ntmps34
 go_wp2_with (first
  | (go_at_call 70;refine (c52 _ (hT.go bgo)).mono ?_;rintro r w1 ⟨rfl,hb1⟩;obtain ⟨_,_,_,_,hA1,_⟩:=wz w hb1;clear hb1))
 exact bodyPost_ret (v:=.tuple #[IZ,.int .i64 1]) (by simp only [results,Tryz.results34];go_simp) rfl ⟨rfl,bgo⟩
variable (c52:∀ W,Tab W->CB 70 #[.int .i64 n] W (.tuple #[IDec n nm wd P ex l m pa dn,.int .i64 0]))
include c52
theorem dck_d (hd:decide (knB d)=false) :
  CB 34 #[.int .i64 n,.int .i64 d] w (.tuple #[IZ,.int .i64 1]):=by
 have hsm:=cell_set_map
 have c53:=known_any d
 rw [hd] at c53
 go_enter Tryz.func34,Tryz.ntmps34
 go_wp2_with (first
  | (go_at_call 70;refine (c52 _ (hT.go bgo)).mono ?_;rintro r w1 ⟨rfl,hb1⟩;obtain ⟨_,_,_,_,hA1,_⟩:=wz w hb1;clear hb1)
  | (go_at_call 71;refine (c53 _).mono ?_;rintro r w2 ⟨rfl,rfl⟩))
 exact bodyPost_ret (v:=.tuple #[IZ,.int .i64 1]) (by simp only [results,Tryz.results34];go_simp) rfl ⟨rfl,bgo⟩
theorem dck_k (hd:decide (knB d)=true) :
  CB 34 #[.int .i64 n,.int .i64 d] w (.tuple #[IDec n nm wd P ex l m pa dn,.int .i64 0]):=by
 have hsm:=cell_set_map
 have c53:=known_any d
 rw [hd] at c53
 go_enter Tryz.func34,Tryz.ntmps34
 go_wp2_with (first
  | (go_at_call 70;refine (c52 _ (hT.go bgo)).mono ?_;rintro r w1 ⟨rfl,hb1⟩;obtain ⟨_,_,_,_,hA1,_⟩:=wz w hb1;clear hb1)
  | (go_at_call 71;refine (c53 _).mono ?_;rintro r w2 ⟨rfl,rfl⟩))
 exact bodyPost_ret (v:=.tuple #[IDec n nm wd P ex l m pa dn,.int .i64 0]) (by simp only [results,Tryz.results34];go_simp) rfl ⟨rfl,bgo⟩
end
theorem dck_bad {n d:Int} {w:World} (hT:Tab w) (h:¬ (decN n/\knB d)):CB 34 #[.int .i64 n,.int .i64 d] w (.tuple #[IZ,.int .i64 1]):=by
 by_cases h1:decN n
 ·exact dck_d n d _ _ _ _ _ _ _ _ w hT (fun W hT'=>dof_dec h1 W hT') (decide_eq_false fun h2=>h ⟨h1,h2⟩)
 ·by_cases hok:okN n
  ·refine dck_b n d (nameN n) (widthN n) (precN n) (expN n) (leastN n) (mostN n) (payN n) (baseN n) (denseN n) w hT (numN n) (not_decE hok h1) (fun W hT'=>?_)
   have c:=ofv_any n W hT'
   rw [show infoE n=0 from if_pos hok] at c
   exact c
  ·refine dck_e n d (nameN n) (widthN n) (precN n) (expN n) (leastN n) (mostN n) (payN n) (baseN n) (denseN n) w hT (numN n) 1 (by decide) (fun W hT'=>?_)
   have c:=ofv_any n W hT'
   rw [show infoE n=1 from if_neg hok] at c
   exact c
theorem dck_good {n d:Int} {w:World} (hT:Tab w) (h1:decN n) (h2:knB d):CB 34 #[.int .i64 n,.int .i64 d] w (.tuple #[IDec n (nameN n) (widthN n) (3*((fD n).j:Int)+1) (expN n) (fD n).l (fD n).m (3*((fD n).j:Int)) (denseN n),.int .i64 0]):=by
 obtain ⟨hok,q1,q2,q3,q4,q5,q6,q7,q8⟩:=dec_fields h1
 have c:=dck_k n d _ _ _ _ _ _ _ _ w hT (fun W hT'=>dof_dec h1 W hT') (decide_eq_true h2)
 rw [q7] at c
 exact c
theorem natural16 (l:List UInt8) (w:World) (hd:l.all dg=true) (hl:l.length<=4000):CE 82 #[.string (B l)] w (Nz 251 (dV l)):=by
 have h48:(48 :: l).all dg=true:=by rw [List.all_cons,hd];rfl
 have c100:=nread_ok (B (48 :: l)) w (by unfold isDigB;rw [dig_B h48];simp [B_size]) (by rw [B_size,List.length_cons];omega)
 rw [num_zero] at c100
 obtain ⟨hlt,he⟩:=dV_lt hd
 rw [← he] at c100
 have hbl:bl (dV l)<=64*251:=bl_10 hlt (by omega)
 have eB:(⟨#[48]⟩:ByteArray)++B l=B (48 :: l):=B_app [48] l
 have hsz:(B l).size<=4000:=by rw [B_size];exact hl
 have hs2:((B (48 :: l)).size:Int)<=9223372036854775807:=by rw [B_size,List.length_cons];omega
 generalize dV l=A at *
 rw [← eB] at c100 hs2
 clear hd h48 hlt he eB
 go_enter Tryz.func82,Tryz.ntmps82
 go_wp2_with (go_at_call 127;refine c100.mono ?_;rintro e w1 ⟨o,k,cap,z,rfl,hk,hN,hv,hs,hB⟩)
 go_ret
 exact ⟨_,rfl,nz_of hN hv hs hbl,hB⟩
attribute [local irreducible] Nz Nt
section
variable (c:Int) (s g:Bool) (x:Int) (k:Nat) (w:World) (T:List UInt8)
theorem dwd_0 (h0:k=0) (c31:∀ W,Below w.heap.size w W->CB 37 #[.agg #[.int .i64 c,.bool s,.bool g,.string ⟨#[]⟩,.int .i64 0]] W (.tuple #[.string (B T),.int .i64 0])) :
  CB 29 #[DV c s g x k] w (.string (B T)):=by
 subst h0
 have e1:=eq24 0 0 0 0 0 0 0 0
 rw [decide_eq_true ⟨rfl,rfl,rfl,rfl⟩] at e1
 have hsm:=cell_set_map
 unfold DV
 simp only [W4_zero]
 go_enter Tryz.func29,Tryz.ntmps29
 go_wp2_with (first
  | (go_at_call 37;refine (c31 _ bgo).mono ?_;rintro r w1 ⟨rfl,hb1⟩;obtain ⟨_,_,_,_,hA1,_⟩:=wz w hb1;clear hb1))
 exact bodyPost_ret (v:=.string (B T)) (by simp only [results,Tryz.results29];go_simp) rfl ⟨rfl,bgo⟩
theorem dwd_k (D:List UInt8) (hk:k<2^256) (h0:k≠0)
  (c20:∀ W v,Nt 4 k v W->CB 30 #[v] W (.tuple #[.string (B D),.int .i64 0]))
  (c31:∀ W,Below w.heap.size w W->CB 37 #[.agg #[.int .i64 c,.bool s,.bool g,.string (B D),.int .i64 0]] W (.tuple #[.string (B T),.int .i64 0])) :
  CB 29 #[DV c s g x k] w (.string (B T)):=by
 have e1:=eq24 (W4 k 0) (W4 k 1) (W4 k 2) (W4 k 3) 0 0 0 0
 rw [W4_none hk,decide_eq_false h0] at e1
 clear h0
 have hsm:=cell_set_map
 unfold DV
 go_enter Tryz.func29,Tryz.ntmps29
 go_wp2_with (first
  | (go_at_call 30;refine (c20 _ _ (nt_at hk (by first | (simp;done) | (simp;omega)) (by go_simp) (by go_simp) (by go_simp) (by go_simp))).mono ?_;rintro r w1 ⟨rfl,hb1⟩;obtain ⟨_,_,_,_,hA1,_⟩:=wz w hb1;obtain ⟨_,_⟩:=zf hb1 (w.heap.size+1);clear hb1)
  | (go_at_call 37;refine (c31 _ bgo).mono ?_;rintro r w2 ⟨rfl,hb2⟩;obtain ⟨_,_,_,_,hA2,_⟩:=wz w hb2;obtain ⟨_,_⟩:=zf hb2 (w.heap.size+1);clear hb2))
 exact bodyPost_ret (v:=.string (B T)) (by simp only [results,Tryz.results29];go_simp) rfl ⟨rfl,bgo⟩
end
end
section
attribute [local irreducible] W4 Nt NT
section
variable {a:Act} {w:World} {K:Act->World->Prop} {Q:Exit->Act->World->Prop} {d p q:Nat} {ty:TypeId} {pos:String} {after:Array Edge} {gd:Option (Nat×Bool)}
theorem opg_f1 {g:Nat} (h1:slot a p=.pointer (some ⟨g,0,none⟩)) (hK:K (a.put (some d) (.pointer (some ⟨g,1,none⟩))) w):Oper.wp Tryz.prog { dst:=some d,op:=Op.fieldAddr 35 (Operand.tmp p) 1,type:=ty,pos:=pos,after:=after,guard:=gd } a w K Q:=by
 unfold slot at h1
 simp [go_sem,h1]
 exact hK
theorem opg_f3 {g:Nat} (h1:slot a p=.pointer (some ⟨g,0,none⟩)) (hK:K (a.put (some d) (.pointer (some ⟨g,3,none⟩))) w):Oper.wp Tryz.prog { dst:=some d,op:=Op.fieldAddr 35 (Operand.tmp p) 3,type:=ty,pos:=pos,after:=after,guard:=gd } a w K Q:=by
 unfold slot at h1
 simp [go_sem,h1]
 exact hK
theorem opg_f4 {g:Nat} (h1:slot a p=.pointer (some ⟨g,0,none⟩)) (hK:K (a.put (some d) (.pointer (some ⟨g,4,none⟩))) w):Oper.wp Tryz.prog { dst:=some d,op:=Op.fieldAddr 35 (Operand.tmp p) 4,type:=ty,pos:=pos,after:=after,guard:=gd } a w K Q:=by
 unfold slot at h1
 simp [go_sem,h1]
 exact hK
theorem opi_f0 {g:Nat} (h1:slot a p=.pointer (some ⟨g,0,none⟩)) (hK:K (a.put (some d) (.pointer (some ⟨g,0,none⟩))) w):Oper.wp Tryz.prog { dst:=some d,op:=Op.fieldAddr 65 (Operand.tmp p) 0,type:=ty,pos:=pos,after:=after,guard:=gd } a w K Q:=by
 unfold slot at h1
 simp [go_sem,h1]
 exact hK
theorem opg_l9 {g i:Nat} {v:Value} (h1:slot a p=.pointer (some ⟨g,i,none⟩)) (h2:w.cell? ⟨g,i,none⟩=some v) (hK:K (a.put (some d) v) w):Oper.wp Tryz.prog { dst:=some d,op:=Op.load 9 (Operand.tmp p),type:=ty,pos:=pos,after:=after,guard:=gd } a w K Q:=by
 unfold slot at h1
 simp [go_sem,h1,h2]
 exact hK
theorem og_c5 {F:Nat} {p0 p1 p2 p3 p4:Nat} {u0 u1 u2 u3 u4:Value} {ts:Array TypeId} (hr:Sem.run Tryz.prog (callFunc F #[u0,u1,u2,u3,u4]) w=.ok (.enter F #[u0,u1,u2,u3,u4]) w) (h0:slot a p0=u0) (h1:slot a p1=u1) (h2:slot a p2=u2) (h3:slot a p3=u3) (h4:slot a p4=u4) (hc:Calls Tryz.prog F #[u0,u1,u2,u3,u4] w fun e w'=>∃ v,e=.returned v/\K (a.put (some d) v) w'):Oper.wp Tryz.prog { dst:=some d,op:=Op.call { callee:=Callee.value (Operand.func F),args:=#[Operand.tmp p0,Operand.tmp p1,Operand.tmp p2,Operand.tmp p3,Operand.tmp p4],argTypes:=ts },type:=ty,pos:=pos,after:=after,guard:=gd } a w K Q:=by
 unfold slot at h0 h1 h2 h3 h4
 simp [go_sem,h0,h1,h2,h3,h4,hr]
 refine hc.mono ?_
 rintro e w' ⟨v,rfl,hK⟩
 exact hK
end
noncomputable def opsDt2:List Oper:=(Tryz.f38.body.bind (findR 2)).getD []
def slotsDt2:List Nat:=[16,17,18,19,20,21,22,23,24,25,26,15,27,28,29,8,51,9]
def slotsADt2:List Nat:=[16,17,18,19,20,21,22,23,24,25,26,15,27,28,29,8,51,9,10]
def KDt2 (ws:World) (N:Nat) (cv:Array Value) (L:Nat->Prop) (f:Nat->Value) (w:World):Prop :=
 Below ws.heap.size ws w/\(L 7->L 10∨Nt 2001 N (f 23) w)/\(L 15->∃ g cs,f 8=.pointer (some ⟨g,0,none⟩)/\ws.heap.size<=g/\D8 g cs w/\(L 16->cs=cv))
theorem KDt2.step {ws w:World} {N:Nat} {cv:Array Value} {k t:Nat} {L:Nat->Prop} {f:Nat->Value} {v:Value} (h:KDt2 ws N cv L f w) (h1:t≠23) (h2:t≠8) (h3:k≠7) (h4:k≠15) (h5:k≠16) (h6:k≠10):KDt2 ws N cv (fun j=>L j∨j=k) (fun u=>if some t=some u then v else f u) w:=by
 obtain ⟨a1,a2,a3⟩:=h
 have e23:(if some t=some 23 then v else f 23)=f 23:=if_neg (fun e=>h1 (Option.some.inj e))
 have e8:(if some t=some 8 then v else f 8)=f 8:=if_neg (fun e=>h2 (Option.some.inj e))
 refine ⟨a1,fun h=>?_,fun h=>?_⟩
 ·rcases a2 (h.resolve_right (fun e=>h3 e.symm)) with q | q
  ·exact Or.inl (Or.inl q)
  ·right;show Nt 2001 N (if some t=some 23 then v else f 23) w;rw [e23];exact q
 ·obtain ⟨g,cs,b1,b2,b3,b4⟩:=a3 (h.resolve_right (fun e=>h4 e.symm))
  exact ⟨g,cs,e8.trans b1,b2,b3,fun h=>b4 (h.resolve_right (fun e=>h5 e.symm))⟩
theorem regDt2 {g3 g5 N vk:Nat} {n d ux vc vx F Er:Int} {us vs vg:Bool} {bs:ByteArray} {a0:Act} {ws:World} {Q:Exit->Act->World->Prop} (hs:a0.tmps.size=52) (hTW:Tab ws)
  (g1:slot a0 1=.int .i64 d) (gg3:slot a0 3=.pointer (some ⟨g3,0,none⟩)) (gg5:slot a0 5=.pointer (some ⟨g5,0,none⟩)) (hlt3:g3<ws.heap.size) (hlt:g5<ws.heap.size)
  (q0:ws.cell? ⟨g3,0,none⟩=some (.int .i64 n)) (q1:ws.cell? ⟨g5,1,none⟩=some (.bool us)) (q3:ws.cell? ⟨g5,3,none⟩=some (.string bs)) (q4:ws.cell? ⟨g5,4,none⟩=some (.int .i64 ux))
  (cN:∀ W,CE 82 #[.string bs] W (Nt 2001 N))
  (cD:∀ W v,Tab W->Nt 2001 N v W->CB 81 #[.int .i64 n,.int .i64 d,.bool us,v,.int .i64 ux] W (.tuple #[DV vc vs vg vx vk,.int .i64 F,.int .i64 Er]))
  (hQ:∀ (a:Act) (w:World) (g:Nat),slot a 8=.pointer (some ⟨g,0,none⟩)->slot a 9=.int .i64 F->slot a 10=.int .i64 Er->ws.heap.size<=g->D8 g (dvc vc vs vg vx vk) w->a.tmps.size=52->a.defers=a0.defers->(∀ t,(∀ i,i<19->slotsADt2.getD i 0≠t)->slot a t=slot a0 t)->Below ws.heap.size ws w->Q .normal a w) :
  (Code.region 2 opsDt2.toArray true).wp Tryz.prog Q a0 ws:=by
 refine wp_region_memg 18 52 slotsDt2 [iW (.pointer (some ⟨g3,0,none⟩)),iW (.int .i64 n),iW (.int .i64 d),iW (.pointer (some ⟨g5,1,none⟩)),iW (.bool us),iW (.pointer (some ⟨g5,3,none⟩)),iW (.string bs),(fun _ _=>True),iW (.pointer (some ⟨g5,4,none⟩)),iW (.int .i64 ux),iW (.tuple #[DV vc vs vg vx vk,.int .i64 F,.int .i64 Er]),iW (.tuple #[DV vc vs vg vx vk,.int .i64 F,.int .i64 Er]),iW (DV vc vs vg vx vk),iW (.int .i64 F),iW (.int .i64 Er),(fun _ _=>True),(fun _ _=>True),iW (.int .i64 F)] (fun _ _=>True) (KDt2 ws N (dvc vc vs vg vx vk)) [] [] (by kernel_rfl) (by kernel_rfl) (by kernel_rfl) (by kernel_rfl) hs ?_ (fun _=>trivial) ?_ ?_ ⟨(Below.refl _ _).drew,fun h=>h.elim,fun h=>h.elim⟩ ?_ ?_ ?_
 ·intro j c hj hc
  cases hc
 ·intro p hp
  simp only [List.mem_cons,List.not_mem_nil,or_false] at hp
  rcases hp with rfl | rfl | rfl | rfl | rfl | rfl | rfl | rfl | rfl | rfl | rfl | rfl | rfl | rfl | rfl | rfl | rfl | rfl
  all_goals exact fun _ _ _ h _=>h
 ·intro i hi hG
  cases hG
 ·intro L i o a w hi ho hG
  cases hG
 ·intro L i o a w hi ho hG hL hcl he hM hF hv
  have f1:slot a 1=.int .i64 d:=(hF 1 (by decide)).trans g1
  have f3:slot a 3=.pointer (some ⟨g3,0,none⟩):=(hF 3 (by decide)).trans gg3
  have f5:slot a 5=.pointer (some ⟨g5,0,none⟩):=(hF 5 (by decide)).trans gg5
  have hB:=hM.1
  have k0:w.cell? ⟨g3,0,none⟩=some (.int .i64 n):=(hB.cell (p:=⟨g3,0,none⟩) hlt3).trans q0
  have k1:w.cell? ⟨g5,1,none⟩=some (.bool us):=(hB.cell (p:=⟨g5,1,none⟩) hlt).trans q1
  have k3:w.cell? ⟨g5,3,none⟩=some (.string bs):=(hB.cell (p:=⟨g5,3,none⟩) hlt).trans q3
  have k4:w.cell? ⟨g5,4,none⟩=some (.int .i64 ux):=(hB.cell (p:=⟨g5,4,none⟩) hlt).trans q4
  have hor:i=0∨i=1∨i=2∨i=3∨i=4∨i=5∨i=6∨i=7∨i=8∨i=9∨i=10∨i=11∨i=12∨i=13∨i=14∨i=15∨i=16∨i=17:=by omega
  rcases hor with rfl | rfl | rfl | rfl | rfl | rfl | rfl | rfl | rfl | rfl | rfl | rfl | rfl | rfl | rfl | rfl | rfl | rfl
  ·obtain rfl:=Option.some.inj (show opsDt2[0]?=some o from ho)
   exact opi_f0 f3 ⟨_,rfl,rfl,trivial,hM.step (by decide) (by decide) (by decide) (by decide) (by decide) (by decide)⟩
  ·obtain rfl:=Option.some.inj (show opsDt2[1]?=some o from ho)
   exact og_ld3 (hv 0 (by decide) rfl (he ⟨0,.data⟩ (by simp) rfl):slot a 16=.pointer (some ⟨g3,0,none⟩)) k0 ⟨_,rfl,rfl,trivial,hM.step (by decide) (by decide) (by decide) (by decide) (by decide) (by decide)⟩
  ·obtain rfl:=Option.some.inj (show opsDt2[2]?=some o from ho)
   exact og_mv f1 ⟨_,rfl,rfl,trivial,hM.step (by decide) (by decide) (by decide) (by decide) (by decide) (by decide)⟩
  ·obtain rfl:=Option.some.inj (show opsDt2[3]?=some o from ho)
   exact opg_f1 f5 ⟨_,rfl,rfl,trivial,hM.step (by decide) (by decide) (by decide) (by decide) (by decide) (by decide)⟩
  ·obtain rfl:=Option.some.inj (show opsDt2[4]?=some o from ho)
   exact od_ld4 (hv 3 (by decide) rfl (he ⟨3,.data⟩ (by simp) rfl):slot a 19=.pointer (some ⟨g5,1,none⟩)) k1 ⟨_,rfl,rfl,trivial,hM.step (by decide) (by decide) (by decide) (by decide) (by decide) (by decide)⟩
  ·obtain rfl:=Option.some.inj (show opsDt2[5]?=some o from ho)
   exact opg_f3 f5 ⟨_,rfl,rfl,trivial,hM.step (by decide) (by decide) (by decide) (by decide) (by decide) (by decide)⟩
  ·obtain rfl:=Option.some.inj (show opsDt2[6]?=some o from ho)
   exact opg_l9 (hv 5 (by decide) rfl (he ⟨5,.data⟩ (by simp) rfl):slot a 21=.pointer (some ⟨g5,3,none⟩)) k3 ⟨_,rfl,rfl,trivial,hM.step (by decide) (by decide) (by decide) (by decide) (by decide) (by decide)⟩
  ·obtain rfl:=Option.some.inj (show opsDt2[7]?=some o from ho)
   obtain ⟨a1,a2,a3⟩:=hM
   refine og_c1 (by simp [go_sem]) (hv 6 (by decide) rfl (he ⟨6,.data⟩ (by simp) rfl):slot a 22=.string bs) ((cN w).mono ?_)
   rintro e w' ⟨v,rfl,hNv,hb⟩
   refine ⟨v,rfl,_,rfl,trivial,trivial,bnx hB hb,fun _=>Or.inr hNv,fun h15=>?_⟩
   obtain ⟨g,cs,b1,b2,b3,b4⟩:=a3 (h15.resolve_right (by decide))
   exact ⟨g,cs,b1,b2,b3.next hb,fun h=>b4 (h.resolve_right (by decide))⟩
  ·obtain rfl:=Option.some.inj (show opsDt2[8]?=some o from ho)
   exact opg_f4 f5 ⟨_,rfl,rfl,trivial,hM.step (by decide) (by decide) (by decide) (by decide) (by decide) (by decide)⟩
  ·obtain rfl:=Option.some.inj (show opsDt2[9]?=some o from ho)
   exact og_ld3 (hv 8 (by decide) rfl (he ⟨8,.data⟩ (by simp) rfl):slot a 24=.pointer (some ⟨g5,4,none⟩)) k4 ⟨_,rfl,rfl,trivial,hM.step (by decide) (by decide) (by decide) (by decide) (by decide) (by decide)⟩
  ·obtain rfl:=Option.some.inj (show opsDt2[10]?=some o from ho)
   obtain ⟨a1,a2,a3⟩:=hM
   have l7:=he ⟨7,.data⟩ (by simp) rfl
   have h1:Nt 2001 N (slot a 23) w:=(a2 l7).resolve_left hL
   refine og_c5 (by simp [go_sem]) (hv 1 (by decide) rfl (he ⟨1,.data⟩ (by simp) rfl):slot a 17=.int .i64 n) (hv 2 (by decide) rfl (he ⟨2,.data⟩ (by simp) rfl):slot a 18=.int .i64 d) (hv 4 (by decide) rfl (he ⟨4,.data⟩ (by simp) rfl):slot a 20=.bool us) rfl (hv 9 (by decide) rfl (he ⟨9,.data⟩ (by simp) rfl):slot a 25=.int .i64 ux) ((cD w _ (hTW.go hB) h1).mono ?_)
   rintro e w' ⟨rfl,hb⟩
   refine ⟨_,rfl,_,rfl,rfl,trivial,bnx hB hb,fun _=>Or.inl (Or.inr rfl),fun h15=>?_⟩
   obtain ⟨g,cs,b1,b2,b3,b4⟩:=a3 (h15.resolve_right (by decide))
   exact ⟨g,cs,b1,b2,b3.next hb,fun h=>b4 (h.resolve_right (by decide))⟩
  ·obtain rfl:=Option.some.inj (show opsDt2[11]?=some o from ho)
   exact og_mv (hv 10 (by decide) rfl (he ⟨10,.data⟩ (by simp) rfl):slot a 26=.tuple #[DV vc vs vg vx vk,.int .i64 F,.int .i64 Er]) ⟨_,rfl,rfl,trivial,hM.step (by decide) (by decide) (by decide) (by decide) (by decide) (by decide)⟩
  ·obtain rfl:=Option.some.inj (show opsDt2[12]?=some o from ho)
   exact og_ext (hv 11 (by decide) rfl (he ⟨11,.data⟩ (by simp) rfl):slot a 15=.tuple #[DV vc vs vg vx vk,.int .i64 F,.int .i64 Er]) rfl ⟨_,rfl,rfl,trivial,hM.step (by decide) (by decide) (by decide) (by decide) (by decide) (by decide)⟩
  ·obtain rfl:=Option.some.inj (show opsDt2[13]?=some o from ho)
   exact og_ext (hv 11 (by decide) rfl (he ⟨11,.data⟩ (by simp) rfl):slot a 15=.tuple #[DV vc vs vg vx vk,.int .i64 F,.int .i64 Er]) rfl ⟨_,rfl,rfl,trivial,hM.step (by decide) (by decide) (by decide) (by decide) (by decide) (by decide)⟩
  ·obtain rfl:=Option.some.inj (show opsDt2[14]?=some o from ho)
   exact og_ext (hv 11 (by decide) rfl (he ⟨11,.data⟩ (by simp) rfl):slot a 15=.tuple #[DV vc vs vg vx vk,.int .i64 F,.int .i64 Er]) rfl ⟨_,rfl,rfl,trivial,hM.step (by decide) (by decide) (by decide) (by decide) (by decide) (by decide)⟩
  ·have hL16:¬ L 16:=fun h=>hL (hcl 16 _ (show opsDt2[16]?=some _ from rfl) h ⟨15,.data⟩ (by simp) rfl)
   obtain rfl:=Option.some.inj (show opsDt2[15]?=some o from ho)
   have hb:=below1 w (.cells zd 50)
   obtain ⟨a1,a2,a3⟩:=hM
   refine od_alc ⟨_,rfl,trivial,trivial,bnx hB hb,fun h6=>?_,fun _=>⟨_,zd,rfl,hB.size,D8.new w,fun h=>absurd (h.resolve_right (by decide)) hL16⟩⟩
   rcases a2 (h6.resolve_right (by decide)) with q | q
   ·exact Or.inl (Or.inl q)
   ·exact Or.inr (q.next hb)
  ·obtain rfl:=Option.some.inj (show opsDt2[16]?=some o from ho)
   obtain ⟨a1,a2,a3⟩:=hM
   have l15:=he ⟨15,.data⟩ (by simp) rfl
   have l12:=he ⟨12,.data⟩ (by simp) rfl
   have l11:=hcl 12 _ (show opsDt2[12]?=some _ from rfl) l12 ⟨11,.data⟩ (by simp) rfl
   have l10:=hcl 11 _ (show opsDt2[11]?=some _ from rfl) l11 ⟨10,.data⟩ (by simp) rfl
   obtain ⟨g,cs,b1,b2,b3,b4⟩:=a3 l15
   exact od_st b1 (hv 12 (by decide) rfl l12:slot a 27=DV vc vs vg vx vk) b3 ⟨.bool false,rfl,trivial,trivial,below_cellsD b2 _ _ _ hB,fun _=>Or.inl (Or.inl l10),fun _=>⟨g,_,b1,b2,b3.put rfl,fun _=>rfl⟩⟩
  ·obtain rfl:=Option.some.inj (show opsDt2[17]?=some o from ho)
   exact og_as (hv 13 (by decide) rfl (he ⟨13,.data⟩ (by simp) rfl):slot a 28=.int .i64 F) ⟨_,rfl,rfl,trivial,hM.step (by decide) (by decide) (by decide) (by decide) (by decide) (by decide)⟩
 ·intro L a w hL hM hsz hdf hF hv
  obtain ⟨hB,a2,a3⟩:=hM
  obtain ⟨g,cs,e14,hg,hD,hc⟩:=a3 (hL 15 (by decide))
  obtain rfl:=hc (hL 16 (by decide))
  have h15:slot a 9=.int .i64 F:=hv 17 (by decide) rfl
  have h68:slot a 29=.int .i64 Er:=hv 14 (by decide) rfl
  refine BigFrame.wpList_want rfl fun K hK=>og_as h68 (hK _ _ ?_)
  clear K hK
  refine hQ _ _ g ?_ ?_ (slot_put (by omega)) hg hD (by simp only [put_sizeV];exact hsz) hdf (fun t ht=>?_) hB
  ·rw [slot_put_ne (by decide)];exact e14
  ·rw [slot_put_ne (by decide)];exact h15
  ·rw [slot_put_ne (show 10≠t from ht 18 (by decide))]
   exact hF t fun i hi=>by
    have hor:i=0∨i=1∨i=2∨i=3∨i=4∨i=5∨i=6∨i=7∨i=8∨i=9∨i=10∨i=11∨i=12∨i=13∨i=14∨i=15∨i=16∨i=17:=by omega
    rcases hor with rfl | rfl | rfl | rfl | rfl | rfl | rfl | rfl | rfl | rfl | rfl | rfl | rfl | rfl | rfl | rfl | rfl | rfl
    ·exact ht 0 (by decide)
    ·exact ht 1 (by decide)
    ·exact ht 2 (by decide)
    ·exact ht 3 (by decide)
    ·exact ht 4 (by decide)
    ·exact ht 5 (by decide)
    ·exact ht 6 (by decide)
    ·exact ht 7 (by decide)
    ·exact ht 8 (by decide)
    ·exact ht 9 (by decide)
    ·exact ht 10 (by decide)
    ·exact ht 11 (by decide)
    ·exact ht 12 (by decide)
    ·exact ht 13 (by decide)
    ·exact ht 14 (by decide)
    ·exact ht 15 (by decide)
    ·exact ht 16 (by decide)
    ·exact ht 17 (by decide)
end
section
attribute [local irreducible] W4 Nt
section
variable (n:Int) (Bp:Nat) (c:Int) (s g ok:Bool) (x:Int) (k:Nat) (w:World)
variable (hT10:Tb10 w) (c21:∀ W,CB 21 #[.int .i64 n,A4 Bp] W (.tuple #[DV c s g x k,.bool ok,.int .i64 0]))
include hT10 c21
variable (hc:c=1) (hk:k<2^256) (D D' T:List UInt8)
 (c20:∀ W v,Nt 4 k v W->CB 20 #[v] W (.string (B D)))
 (c29:∀ W,Tb10 W->CB 33 #[.bool s,.string (B D'),.int .i64 x] W (.string (B T)))
include hc hk c20 c29
end
def dwT (n:Int) (Bp:Nat):List UInt8:=if goodD n Bp then xtT (vM (fD n) Bp) else []
end
section
structure DtxC (TT:World->Prop):Prop where
 next:∀ w w',TT w->Below w.heap.size w w'->TT w'
 t10:∀ w,TT w->Tb10 w
 wr:∀ n Bp W,Bp<2^256->TT W->CB 9 #[.int .i64 n,A4 Bp] W (.tuple #[.string (B (dwT n Bp)),.int .i64 (vUE n Bp)])
structure DtxM (TT:World->Prop):Prop where
 mak:∀ n d (p:Prt) W,p.dig.length<10001->(-9223372036854775808<=p.ex/\p.ex<=9223372036854775807)->TT W->CB 13 #[.int .i64 n,.int .i64 d,p.v] W (.tuple #[A4 (kmV n d p),.int .i64 (kmF n d p),.int .i64 (kmE n d p)])
theorem awk16_T:B (dwT 10 573571232)=⟨#[49,46,50,48,101,48]⟩/\vUE 10 573571232=0:=⟨by kernel_rfl,by kernel_rfl⟩
theorem awk16_W:W4 573571232 0=573571232/\W4 573571232 1=0/\W4 573571232 2=0/\W4 573571232 3=0:=⟨by decide,by decide,by decide,by decide⟩
attribute [local irreducible] W4
theorem awake16 {TT:World->Prop} (h:DtxC TT) (w:World) (hT:TT w):CB 8 #[] w (.bool true):=by
 have c9:=fun W hW=>h.wr 10 573571232 W (by decide) hW
 obtain ⟨e1,e2⟩:=awk16_T
 obtain ⟨w0,w1,w2,w3⟩:=awk16_W
 rw [e1,e2] at c9
 unfold A4 at c9
 rw [w0,w1,w2,w3] at c9
 go_enter Tryz.func8,Tryz.ntmps8
 go_wp2_with (go_at_call 9;refine (c9 _ hT).mono ?_;rintro r w1 ⟨rfl,hb1⟩)
 go_ret
 exact ⟨by first | rfl | simp,hb1⟩
section
variable (TT:World->Prop) (hTT:∀ w w',TT w->Below w.heap.size w w'->TT w') (w:World) (hT:TT w)
 (c8:∀ W,TT W->CB 8 #[] W (.bool true))
include hTT hT c8
variable (n d:Int) (bs:ByteArray) (pc px:Int) (ps pg:Bool) (pd:ByteArray)
end
end
section
def TUD (A B:Nat) (v:Value) (w:World):Prop:=∃ q r,v=.tuple #[q,r]/\NT 7000 A q w/\NT 7000 B r w
theorem TUD.next {A B:Nat} {v:Value} {w w':World} (h:TUD A B v w) (hb:Below w.heap.size w w'):TUD A B v w':=by
 obtain ⟨q,r,e,hq,hr⟩:=h
 exact ⟨q,r,e,hq.next hb,hr.next hb⟩
attribute [local irreducible] W4 Nt NT
section
variable {a:Act} {w:World} {K:Act->World->Prop} {Q:Exit->Act->World->Prop} {d p q:Nat} {ty:TypeId} {pos:String} {after:Array Edge} {gd:Option (Nat×Bool)}
end
end
section
theorem D8.other {g h:Nat} {cs:Array Value} {vs:List Value} {w:World} (hD:D8 h cs w) (hne:g≠h):D8 h cs (w.setCells g 0 vs):=by
 refine ⟨Nat.lt_of_lt_of_le hD.1 (below_cellsD (n:=0) (Nat.zero_le _) _ _ _ (Below.refl 0 w)).size,hD.2.1,fun i hi=>?_,fun i=>?_⟩
 ·rw [World.cell?_setCells_out g vs 0 w ⟨h,i,none⟩ (fun e=>absurd e.symm hne)]
  exact hD.2.2.1 i hi
 ·rw [World.frozen?_setCells];exact hD.2.2.2 i
def D8at (g o:Nat) (c:Int) (s b:Bool) (x:Int) (k:Nat) (w:World):Prop:=∀ i,i<8->w.cell? ⟨g,o+i,none⟩=(dvc c s b x k)[i]?
attribute [local irreducible] W4 Nt NT
section
variable {a:Act} {w:World} {K:Act->World->Prop} {Q:Exit->Act->World->Prop} {d p q:Nat} {ty:TypeId} {pos:String} {after:Array Edge} {gd:Option (Nat×Bool)}
theorem od_ldD {g o:Nat} {c x:Int} {s b:Bool} {k:Nat} (h1:slot a p=.pointer (some ⟨g,o,none⟩)) (h2:D8at g o c s b x k w) (hK:K (a.put (some d) (DV c s b x k)) w):Oper.wp Tryz.prog { dst:=some d,op:=Op.load 50 (Operand.tmp p),type:=ty,pos:=pos,after:=after,guard:=gd } a w K Q:=by
 have e:Tryz.prog.underlying 50=(Tryz.prog.underlying 50):=rfl
 obtain ⟨td,hu,hr⟩:∃ td,Tryz.prog.underlying 50=some td/\td.isRow=true:=⟨_,Tryz.underlying50,rfl⟩
 refine wp_load_mid 50 (.tmp p) rfl g o (by unfold slot at h1;simp [go_sem,h1]) (dvc c s b x k).toList td (fun j v hv=>?_) hu hr (by kernel_rfl) hK
 have hj:j<8:=by
  rcases Nat.lt_or_ge j 8 with q | q
  ·exact q
  ·rw [List.getElem?_eq_none (by simpa using q)] at hv;cases hv
 rw [h2 j hj]
 simpa using hv
end
def M14 (ws:World) (cv:Array Value) (L:Nat->Prop) (f:Nat->Value) (w:World):Prop :=
 Below ws.heap.size ws w/\(L 4->∃ g cs,f 17=.pointer (some ⟨g,0,none⟩)/\ws.heap.size<=g/\D8 g cs w/\(L 6->cs=cv))/\(L 5->∃ h cs,f 18=.pointer (some ⟨h,0,none⟩)/\ws.heap.size<=h/\D8 h cs w)/\(L 4->L 5->f 17≠f 18)
theorem M14.step {ws w:World} {cv:Array Value} {k t:Nat} {L:Nat->Prop} {f:Nat->Value} {v:Value} (h:M14 ws cv L f w) (h1:t≠17) (h2:t≠18) (h3:k≠4) (h4:k≠5) (h5:k≠6):M14 ws cv (fun j=>L j∨j=k) (fun u=>if some t=some u then v else f u) w:=by
 obtain ⟨a1,a2,a3,a4⟩:=h
 have e17:(if some t=some 17 then v else f 17)=f 17:=if_neg (fun e=>h1 (Option.some.inj e))
 have e18:(if some t=some 18 then v else f 18)=f 18:=if_neg (fun e=>h2 (Option.some.inj e))
 refine ⟨a1,fun h=>?_,fun h=>?_,fun h h'=>?_⟩
 ·obtain ⟨g,cs,b1,b2,b3,b4⟩:=a2 (h.resolve_right (fun e=>h3 e.symm))
  exact ⟨g,cs,e17.trans b1,b2,b3,fun h=>b4 (h.resolve_right (fun e=>h5 e.symm))⟩
 ·obtain ⟨g,cs,b1,b2,b3⟩:=a3 (h.resolve_right (fun e=>h4 e.symm))
  exact ⟨g,cs,e18.trans b1,b2,b3⟩
 ·show (if some t=some 17 then v else f 17)≠(if some t=some 18 then v else f 18)
  rw [e17,e18]
  exact a4 (h.resolve_right (fun e=>h3 e.symm)) (h'.resolve_right (fun e=>h4 e.symm))
end
section
attribute [local irreducible] W4 NV NT
section
variable {a:Act} {w:World} {K:Act->World->Prop} {Q:Exit->Act->World->Prop} {d p q r:Nat} {ty:TypeId} {pos:String} {after:Array Edge} {gd:Option (Nat×Bool)}
theorem ok_eqE (h1:slot a p=.int .i64 0) (hK:K (a.put (some d) (.bool true)) w):Oper.wp Tryz.prog { dst:=some d,op:=Op.binOp BinOp.eql 26 (Operand.tmp p) (Operand.const (.int .i64 0)) 26,type:=ty,pos:=pos,after:=after,guard:=gd } a w K Q:=by
 unfold slot at h1
 simp [go_sem,h1]
 exact hK
theorem ok_eq3 (h1:slot a p=.int .i64 0) (hK:K (a.put (some d) (.bool true)) w):Oper.wp Tryz.prog { dst:=some d,op:=Op.binOp BinOp.eql 3 (Operand.tmp p) (Operand.const (.int .i64 0)) 3,type:=ty,pos:=pos,after:=after,guard:=gd } a w K Q:=by
 unfold slot at h1
 simp [go_sem,h1]
 exact hK
theorem ok_cv {e:Int} (h1:slot a p=.int .i16 e) (he:-32768<=e/\e<=32767) (hK:K (a.put (some d) (.int .i64 e)) w):Oper.wp Tryz.prog { dst:=some d,op:=Op.convert 41 3 (Operand.tmp p),type:=ty,pos:=pos,after:=after,guard:=gd } a w K Q:=by
 unfold slot at h1
 have hw:IntKind.i64.wrap e=e:=by rw [IntKind.wrap_i64];omega
 simp [go_sem,h1,hw]
 exact hK
theorem ok_bld {s:Bool} {e:Int} {N:Nat} (h1:slot a p=.bool s) (h2:slot a q=.int .i64 e) (h3:slot a r=A4 N) (hK:K (a.put (some d) (.agg #[.int .i64 1,.bool s,.bool false,.int .i64 e,.int .u64 (W4 N 0),.int .u64 (W4 N 1),.int .u64 (W4 N 2),.int .u64 (W4 N 3)])) w):Oper.wp Tryz.prog { dst:=some d,op:=Op.build 50 #[(0,Operand.const (.int .i64 1)),(1,Operand.tmp p),(3,Operand.tmp q),(4,Operand.tmp r)],type:=ty,pos:=pos,after:=after,guard:=gd } a w K Q:=by
 unfold slot at h1 h2 h3
 unfold A4 at h3
 simp [go_sem,h1,h2,h3]
 exact hK
theorem ok_eqD {s:Bool} {e:Int} {N:Nat} (h1:slot a p=(.agg #[.int .i64 1,.bool s,.bool false,.int .i64 e,.int .u64 (W4 N 0),.int .u64 (W4 N 1),.int .u64 (W4 N 2),.int .u64 (W4 N 3)])) (h2:slot a q=(.agg #[.int .i64 1,.bool s,.bool false,.int .i64 e,.int .u64 (W4 N 0),.int .u64 (W4 N 1),.int .u64 (W4 N 2),.int .u64 (W4 N 3)])) (hK:K (a.put (some d) (.bool true)) w):Oper.wp Tryz.prog { dst:=some d,op:=Op.binOp BinOp.eql 50 (Operand.tmp p) (Operand.tmp q) 50,type:=ty,pos:=pos,after:=after,guard:=gd } a w K Q:=by
 have h24:Sem.run Tryz.prog (Op.equalIn 9999 24 (.agg #[.int .u64 (W4 N 0),.int .u64 (W4 N 1),.int .u64 (W4 N 2),.int .u64 (W4 N 3)]) (.agg #[.int .u64 (W4 N 0),.int .u64 (W4 N 1),.int .u64 (W4 N 2),.int .u64 (W4 N 3)])) w=.ok true w:=(eq24d 9997 (W4 N 0) (W4 N 1) (W4 N 2) (W4 N 3) (W4 N 0) (W4 N 1) (W4 N 2) (W4 N 3) w).trans (by rw [decide_eq_true ⟨rfl,rfl,rfl,rfl⟩])
 unfold slot at h1 h2
 simp [go_sem,h1,h2,h24]
 exact hK
end
noncomputable def opsK14:List Oper:=(Tryz.f6.body.bind (findR 14)).getD []
def slotsK14:List Nat:=[91,92,93,94,95,96,97,98,99,100,101,102,103,104,105,106,107,108,109,110,111,112,113,114,12]
theorem regK14 {g N:Nat} {s:Bool} {e:Int} {T:ByteArray} {a0:Act} {ws:World} {Q:Exit->Act->World->Prop} (hs:a0.tmps.size=115) (he:-32768<=e/\e<=32767)
  (g18:slot a0 18=.int .i64 0) (g21:slot a0 21=.int .i64 0) (g17:slot a0 17=.int .i64 0) (g20:slot a0 20=.bool true) (g19:slot a0 19=.pointer (some ⟨g,0,none⟩)) (g5:slot a0 5=.bool s) (g4:slot a0 4=.int .i16 e) (g15:slot a0 15=.string T)
  (hlt:g<ws.heap.size) (qD:D8at g 0 1 s false e N ws)
  (c23:∀ W,CE 23 #[.string T] W (NT 1001 N))
  (c22:∀ W v,NT 1001 N v W->CB 22 #[v] W (A4 N))
  (hQ:∀ (a:Act) (w:World),slot a 12=.bool true->a.tmps.size=115->a.defers=a0.defers->Below ws.heap.size ws w->Q .normal a w) :
  (Code.region 14 opsK14.toArray true).wp Tryz.prog Q a0 ws:=by
 refine wp_region_gall 115 slotsK14 [isV (.int .i64 0),isV (.bool true),isV (.bool true),isV (.int .i64 0),isV (.bool true),isV (.bool true),isV (.bool true),isV (.int .i64 0),isV (.bool true),isV (.bool true),isV (.bool true),isV (.bool true),isV (.bool true),isV (.bool true),isV (.agg #[.int .i64 1,.bool s,.bool false,.int .i64 e,.int .u64 (W4 N 0),.int .u64 (W4 N 1),.int .u64 (W4 N 2),.int .u64 (W4 N 3)]),isV (.bool s),isV (.int .i16 e),isV (.int .i64 e),isV (.string T),NT 1001 N,isV (A4 N),isV (.agg #[.int .i64 1,.bool s,.bool false,.int .i64 e,.int .u64 (W4 N 0),.int .u64 (W4 N 1),.int .u64 (W4 N 2),.int .u64 (W4 N 3)]),isV (.bool true),isV (.bool true),isV (.bool true)]
  (fun w=>Below ws.heap.size ws w) (by kernel_rfl) (by kernel_rfl) (by kernel_rfl) (by kernel_rfl) hs ?_ (Below.refl _ _).drew (fun w w' h hb=>h.trans (hb.mono h.size)) ?_ ?_ ?_
 ·intro p hp
  simp only [List.mem_cons,List.not_mem_nil,or_false] at hp
  rcases hp with rfl | rfl | rfl | rfl | rfl | rfl | rfl | rfl | rfl | rfl | rfl | rfl | rfl | rfl | rfl | rfl | rfl | rfl | rfl | rfl | rfl | rfl | rfl | rfl | rfl
  all_goals first | exact isV.stays _ | exact fun v w w' h hb=>h.next hb
 ·intro i o j b hi ho hg v w hv
  have hi':i<25:=hi
  have hor:i=0∨i=1∨i=2∨i=3∨i=4∨i=5∨i=6∨i=7∨i=8∨i=9∨i=10∨i=11∨i=12∨i=13∨i=14∨i=15∨i=16∨i=17∨i=18∨i=19∨i=20∨i=21∨i=22∨i=23∨i=24:=by omega
  rcases hor with rfl | rfl | rfl | rfl | rfl | rfl | rfl | rfl | rfl | rfl | rfl | rfl | rfl | rfl | rfl | rfl | rfl | rfl | rfl | rfl | rfl | rfl | rfl | rfl | rfl
  all_goals
   obtain rfl:=Option.some.inj (show opsK14[_]?=some o from ho)
   cases hg
  all_goals exact hv
 ·intro i o' a w hi ho hC hF hdep
  have f18:slot a 18=.int .i64 0:=(hF 18 (by decide)).trans g18
  have f21:slot a 21=.int .i64 0:=(hF 21 (by decide)).trans g21
  have f17:slot a 17=.int .i64 0:=(hF 17 (by decide)).trans g17
  have f20:slot a 20=.bool true:=(hF 20 (by decide)).trans g20
  have f19:slot a 19=.pointer (some ⟨g,0,none⟩):=(hF 19 (by decide)).trans g19
  have f5:slot a 5=.bool s:=(hF 5 (by decide)).trans g5
  have f4:slot a 4=.int .i16 e:=(hF 4 (by decide)).trans g4
  have f15:slot a 15=.string T:=(hF 15 (by decide)).trans g15
  have kD:D8at g 0 1 s false e N w:=fun i hi=>(hC.cell (p:=⟨g,0+i,none⟩) hlt).trans (qD i hi)
  have hi':i<25:=hi
  have hor:i=0∨i=1∨i=2∨i=3∨i=4∨i=5∨i=6∨i=7∨i=8∨i=9∨i=10∨i=11∨i=12∨i=13∨i=14∨i=15∨i=16∨i=17∨i=18∨i=19∨i=20∨i=21∨i=22∨i=23∨i=24:=by omega
  rcases hor with rfl | rfl | rfl | rfl | rfl | rfl | rfl | rfl | rfl | rfl | rfl | rfl | rfl | rfl | rfl | rfl | rfl | rfl | rfl | rfl | rfl | rfl | rfl | rfl | rfl
  ·obtain rfl:=Option.some.inj (show opsK14[0]?=some o' from ho)
   exact og_mv f18 ⟨_,rfl,rfl,Below.refl _ _⟩
  ·obtain rfl:=Option.some.inj (show opsK14[1]?=some o' from ho)
   exact ok_eqE (hdep ⟨0,.data⟩ (by simp) rfl:slot a 91=.int .i64 0) ⟨_,rfl,rfl,Below.refl _ _⟩
  ·obtain rfl:=Option.some.inj (show opsK14[2]?=some o' from ho)
   exact og_mv (hdep ⟨1,.data⟩ (by simp) rfl:slot a 92=.bool true) ⟨_,rfl,rfl,Below.refl _ _⟩
  ·obtain rfl:=Option.some.inj (show opsK14[3]?=some o' from ho)
   exact og_mv f21 ⟨_,rfl,rfl,Below.refl _ _⟩
  ·obtain rfl:=Option.some.inj (show opsK14[4]?=some o' from ho)
   exact ok_eqE (hdep ⟨3,.data⟩ (by simp) rfl:slot a 94=.int .i64 0) ⟨_,rfl,rfl,Below.refl _ _⟩
  ·obtain rfl:=Option.some.inj (show opsK14[5]?=some o' from ho)
   exact og_pkT (hdep ⟨2,.data⟩ (by simp) rfl:slot a 93=.bool true) (hdep ⟨4,.data⟩ (by simp) rfl:slot a 95=.bool true) ⟨_,rfl,rfl,Below.refl _ _⟩
  ·obtain rfl:=Option.some.inj (show opsK14[6]?=some o' from ho)
   exact og_mv (hdep ⟨5,.data⟩ (by simp) rfl:slot a 96=.bool true) ⟨_,rfl,rfl,Below.refl _ _⟩
  ·obtain rfl:=Option.some.inj (show opsK14[7]?=some o' from ho)
   exact og_mv f17 ⟨_,rfl,rfl,Below.refl _ _⟩
  ·obtain rfl:=Option.some.inj (show opsK14[8]?=some o' from ho)
   exact ok_eq3 (hdep ⟨7,.data⟩ (by simp) rfl:slot a 98=.int .i64 0) ⟨_,rfl,rfl,Below.refl _ _⟩
  ·obtain rfl:=Option.some.inj (show opsK14[9]?=some o' from ho)
   exact og_pkT (hdep ⟨6,.data⟩ (by simp) rfl:slot a 97=.bool true) (hdep ⟨8,.data⟩ (by simp) rfl:slot a 99=.bool true) ⟨_,rfl,rfl,Below.refl _ _⟩
  ·obtain rfl:=Option.some.inj (show opsK14[10]?=some o' from ho)
   exact og_mv (hdep ⟨9,.data⟩ (by simp) rfl:slot a 100=.bool true) ⟨_,rfl,rfl,Below.refl _ _⟩
  ·obtain rfl:=Option.some.inj (show opsK14[11]?=some o' from ho)
   exact og_mv f20 ⟨_,rfl,rfl,Below.refl _ _⟩
  ·obtain rfl:=Option.some.inj (show opsK14[12]?=some o' from ho)
   exact og_pkT (hdep ⟨10,.data⟩ (by simp) rfl:slot a 101=.bool true) (hdep ⟨11,.data⟩ (by simp) rfl:slot a 102=.bool true) ⟨_,rfl,rfl,Below.refl _ _⟩
  ·obtain rfl:=Option.some.inj (show opsK14[13]?=some o' from ho)
   exact og_mv (hdep ⟨12,.data⟩ (by simp) rfl:slot a 103=.bool true) ⟨_,rfl,rfl,Below.refl _ _⟩
  ·obtain rfl:=Option.some.inj (show opsK14[14]?=some o' from ho)
   exact od_ldD f19 kD ⟨_,rfl,rfl,Below.refl _ _⟩
  ·obtain rfl:=Option.some.inj (show opsK14[15]?=some o' from ho)
   exact og_mv f5 ⟨_,rfl,rfl,Below.refl _ _⟩
  ·obtain rfl:=Option.some.inj (show opsK14[16]?=some o' from ho)
   exact og_mv f4 ⟨_,rfl,rfl,Below.refl _ _⟩
  ·obtain rfl:=Option.some.inj (show opsK14[17]?=some o' from ho)
   exact ok_cv (hdep ⟨16,.data⟩ (by simp) rfl:slot a 107=.int .i16 e) he ⟨_,rfl,rfl,Below.refl _ _⟩
  ·obtain rfl:=Option.some.inj (show opsK14[18]?=some o' from ho)
   exact og_mv f15 ⟨_,rfl,rfl,Below.refl _ _⟩
  ·obtain rfl:=Option.some.inj (show opsK14[19]?=some o' from ho)
   refine og_c1 (by simp [go_sem]) (hdep ⟨18,.data⟩ (by simp) rfl:slot a 109=.string T) ((c23 w).mono ?_)
   rintro e w' ⟨v,rfl,hv,hb⟩
   exact ⟨_,rfl,_,rfl,hv,hb⟩
  ·obtain rfl:=Option.some.inj (show opsK14[20]?=some o' from ho)
   refine og_c1 (by simp [go_sem]) rfl ((c22 w _ (hdep ⟨19,.data⟩ (by simp) rfl)).mono ?_)
   rintro e w' ⟨rfl,hb⟩
   exact ⟨_,rfl,_,rfl,rfl,hb⟩
  ·obtain rfl:=Option.some.inj (show opsK14[21]?=some o' from ho)
   exact ok_bld (hdep ⟨15,.data⟩ (by simp) rfl:slot a 106=.bool s) (hdep ⟨17,.data⟩ (by simp) rfl:slot a 108=.int .i64 e) (hdep ⟨20,.data⟩ (by simp) rfl:slot a 111=A4 N) ⟨_,rfl,rfl,Below.refl _ _⟩
  ·obtain rfl:=Option.some.inj (show opsK14[22]?=some o' from ho)
   exact ok_eqD (hdep ⟨14,.data⟩ (by simp) rfl:slot a 105=.agg #[.int .i64 1,.bool s,.bool false,.int .i64 e,.int .u64 (W4 N 0),.int .u64 (W4 N 1),.int .u64 (W4 N 2),.int .u64 (W4 N 3)]) (hdep ⟨21,.data⟩ (by simp) rfl:slot a 112=.agg #[.int .i64 1,.bool s,.bool false,.int .i64 e,.int .u64 (W4 N 0),.int .u64 (W4 N 1),.int .u64 (W4 N 2),.int .u64 (W4 N 3)]) ⟨_,rfl,rfl,Below.refl _ _⟩
  ·obtain rfl:=Option.some.inj (show opsK14[23]?=some o' from ho)
   exact og_pkT (hdep ⟨13,.data⟩ (by simp) rfl:slot a 104=.bool true) (hdep ⟨22,.data⟩ (by simp) rfl:slot a 113=.bool true) ⟨_,rfl,rfl,Below.refl _ _⟩
  ·obtain rfl:=Option.some.inj (show opsK14[24]?=some o' from ho)
   exact og_as (hdep ⟨23,.data⟩ (by simp) rfl:slot a 114=.bool true) ⟨_,rfl,rfl,Below.refl _ _⟩
 ·intro a w hC hsz hdf hF hR
  exact hQ a w (hR 24 (by decide)) hsz hdf hC
end
end Go.Proofs.YtpabnhlfbjkmaaaGreatDoor
