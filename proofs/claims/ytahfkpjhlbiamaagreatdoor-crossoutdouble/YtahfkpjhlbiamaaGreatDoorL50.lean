/-
  Texts that the proof leans on.
-/
import Derived.Test.YtahfkpjhlbiamaaGreatDoorL1
import Derived.Test.YtahfkpjhlbiamaaGreatDoorL42
import Derived.Test.YtahfkpjhlbiamaaGreatDoorL30
import Derived.Test.YtahfkpjhlbiamaaGreatDoorL31
import Derived.Test.YtahfkpjhlbiamaaGreatDoorL45
import Derived.Test.YtahfkpjhlbiamaaGreatDoorL46
import Derived.Test.YtahfkpjhlbiamaaGreatDoorL47
import Derived.Test.YtahfkpjhlbiamaaGreatDoorL33
import Derived.Test.YtahfkpjhlbiamaaGreatDoorL48
import Derived.Test.YtahfkpjhlbiamaaGreatDoorL49
import Derived.Test.YtahfkpjhlbiamaaGreatDoorL41
import Derived.Test.YtahfkpjhlbiamaaGreatDoorL43
import Derived.Test.YtahfkpjhlbiamaaGreatDoorL21
import Derived.Test.YtahfkpjhlbiamaaGreatDoorL29
import Derived.Test.YtahfkpjhlbiamaaGreatDoorL14
import Derived.Test.YtahfkpjhlbiamaaGreatDoorL37
import Derived.Test.YtahfkpjhlbiamaaGreatDoorL11
import Derived.Test.YtahfkpjhlbiamaaGreatDoorL36
import Derived.Test.YtahfkpjhlbiamaaGreatDoorL32
import Derived.Test.YtahfkpjhlbiamaaGreatDoorL35
import Derived.Test.YtahfkpjhlbiamaaGreatDoorL44
set_option maxHeartbeats 8000000
set_option linter.unusedVariables false
set_option linter.unusedSectionVars false
set_option linter.unusedSimpArgs false
set_option maxRecDepth 20000
namespace Go.Proofs.YtahfkpjhlbiamaaGreatDoor
open Go.RowKit
theorem layof_ok (n:Int)(w:World)(hT:Tab w)(hd:decN n):CB 58 #[.int .i64 n] w (.tuple #[LF (fD n),.int .i64 0]):=by
 obtain ⟨hok,f1,f2,f3,f4,f5,f6,f7,f8⟩:=dec_fields hd
 have c1:=fun W hW=>ofv_any n W hW
 rw [show infoE n=0 from if_pos hok,f1,f2,f3,f4,f5,f6,f7,f8] at c1
 have h:=fD_ok n
 have hw:=h.w12
 generalize fD n=f at *
 have hG:((f.t+(f.w+6):Nat):Int)/16+9=((f.w+5:Nat):Int):=by rcases h with ⟨h1,h2,h3,h4⟩|⟨h1,h2,h3,h4⟩|⟨h1,h2,h3,h4⟩<;>rw [h1,h2]<;>rfl
 have cc:=fun W=>dten_v (3*f.j+1) W (by omega)
 have cp:=fun W=>dten_v (3*f.j) W (by omega)
 have e1:((3*f.j+1:Nat):Int)=3*(f.j:Int)+1:=by omega
 have e2:((3*f.j:Nat):Int)=3*(f.j:Int):=by omega
 have cw:=cp
 rw [e1] at cc
 rw [e2] at cp
 unfold LF
 cases e:f.dn
 ·rw [e] at c1
  have eB:vB f=0:=by unfold vB;rw [e,if_neg (by decide)]
  have eQ:vQ f=2^f.t:=by unfold vQ;rw [e,if_neg (by decide)]
  have cs:=fun W=>shl4 1 f.t W (by decide) (by omega)
  rw [Nat.one_mul] at cs
  rw [eB,eQ]
  exact dlay_p n _ n _ _ _ _ _ _ w hT _ _ _ _ (by omega) (by omega) hG (by omega) (by omega) (by omega) (by omega) (by omega) cc cp _ c1 (fun W=>of4 1 W (by decide)) cs
 ·rw [e] at c1
  have eB:vB f=f.w:=by unfold vB;rw [e,if_pos rfl]
  have eQ:vQ f=10^(3*f.j):=by unfold vQ;rw [e,if_pos rfl]
  rw [eB,eQ]
  rw [show ((3*f.j:Nat):Int)=3*(f.j:Int)+1-1 by omega] at cw
  exact dlay_d n _ n _ _ _ _ _ _ w hT _ _ _ _ (by omega) (by omega) hG (by omega) (by omega) (by omega) (by omega) (by omega) cc cp _ _ (by omega) (by omega) (by omega) c1 cw
theorem not_dec {n:Int}(h:¬ decN n):(okN n/\(baseN n != 10)=true)∨¬ okN n:=by
 by_cases hk:okN n
 ·left
  refine ⟨hk,?_⟩
  unfold decN at h
  rcases okN_cases hk with rfl|rfl|rfl|rfl|rfl|rfl|rfl|rfl|rfl|rfl|rfl|rfl<;>first|rfl|omega
 ·exact Or.inr hk
theorem layof_bad (n:Int)(w:World)(hT:Tab w)(hd:¬ decN n):CB 58 #[.int .i64 n] w (.tuple #[ZL,.int .i64 1]):=by
 have c1:=fun W hW=>ofv_any n W hW
 rcases not_dec hd with ⟨hk,hb⟩|hk
 ·rw [show infoE n=0 from if_pos hk] at c1
  exact dlay_b n _ _ _ _ _ _ _ _ _ _ w hT hb c1
 ·rw [show infoE n=1 from if_neg hk] at c1
  exact dlay_e n _ _ _ _ _ _ _ _ _ _ w hT 1 rfl c1
theorem fits_dec {n:Int}(B:Nat)(hd:decN n):(okN n/\B<2^(widthN n).toNat)↔goodD n B:=by
 have hF:=dec_fields hd
 rw [hF.2.2.2.1,Int.toNat_natCast]
 exact ⟨fun h=>⟨hd,h.2⟩,fun h=>⟨hF.1,h.2⟩⟩
theorem layfor_ok (n:Int)(B:Nat)(w:World)(hT:Tab w)(hB:B<2^256)(hg:goodD n B):CB 79 #[.int .i64 n,A4 B] w (.tuple #[LF (fD n),.int .i64 0]):=by
 have c1:=fun W hW=>fits4 n B hB W hW
 rw [decide_eq_true ((fits_dec B hg.1).2 hg)] at c1
 exact dfor_y n B w hT c1 _ _ _ _ _ _ _ _ _ (fun W hW=>layof_ok n W hW hg.1)
theorem layfor_bad (n:Int)(B:Nat)(w:World)(hT:Tab w)(hB:B<2^256)(hg:¬ goodD n B):CB 79 #[.int .i64 n,A4 B] w (.tuple #[ZL,.int .i64 1]):=by
 have c1:=fun W hW=>fits4 n B hB W hW
 by_cases hd:decN n
 ·rw [decide_eq_false (fun q=>hg ((fits_dec B hd).1 q))] at c1
  exact dfor_n n B w hT c1
 ·by_cases hf:okN n/\B<2^(widthN n).toNat
  ·rw [decide_eq_true hf] at c1
   exact dfor_b n B w hT c1 (fun W hW=>layof_bad n W hW hd)
  ·rw [decide_eq_false hf] at c1
   exact dfor_n n B w hT c1
theorem dpack14 (n:Int)(d:Dat)(hk:d.k<2^256)(W:World)(hT:Tab W):CB 27 #[.int .i64 n,d.v] W (.tuple #[A4 (vPV n d),.int .i64 (vPE n d)]):=by
 unfold vPV vPE
 by_cases hd:decN n
 ·have c2:=fun W=>fpack (fD_ok n) d W hk
  have e1:(if decN n/\vI (fD n) d then vP (fD n) d else 0)=(if vI (fD n) d then vP (fD n) d else 0):=by
   by_cases hi:vI (fD n) d
   ·rw [if_pos ⟨hd,hi⟩,if_pos hi]
   ·rw [if_neg (fun q=>hi q.2),if_neg hi]
  rw [e1,if_pos hd]
  exact dpck14_y n W hT _ _ _ _ _ _ _ _ _ _ _ _ _ _ _ _ (fun W hW=>layof_ok n W hW hd) c2
 ·rw [if_neg (fun q=>hd q.1),if_neg hd]
  exact dpck14_n n W hT _ _ _ _ _ (fun W hW=>layof_bad n W hW hd)
theorem dunpk14 (n:Int)(B:Nat)(hB:B<2^256)(W:World)(hT:Tab W):CB 39 #[.int .i64 n,A4 B] W (.tuple #[(vUD n B).v,.bool (vUC n B),.int .i64 (vUE n B)]):=by
 by_cases hg:goodD n B
 ·obtain ⟨e1,e2,e3⟩:=vU_good hg
  rw [e1,e2,e3]
  have h:=fD_ok n
  have c3:=fun W=>fpack h (vM (fD n) B) W (vM_256 h B)
  rw [if_pos (vM_is h B),if_pos (vM_is h B)] at c3
  refine dunp_y n W hT _ _ _ _ _ _ _ _ _ B (fun W hW=>layfor_ok n B W hW hB hg) _ _ _ _ _ _ _ (fun W=>fmean h B W hB) c3 _ ?_
  exact eq_words (vP_256 h (vM_is h B)) hB
 ·obtain ⟨e1,e2,e3⟩:=vU_bad hg
  rw [e1,e2,e3,zero_v]
  exact dunp_n n W hT B (fun W hW=>layfor_bad n B W hW hB hg)
section
theorem dof_dec {n:Int}(h:decN n)(w:World)(hT:Tab w):CB 53 #[.int .i64 n] w (.tuple #[IDec n (nameN n) (widthN n) (3*((fD n).j:Int)+1) (expN n) (fD n).l (fD n).m (payN n) (denseN n),.int .i64 0]):=by
 obtain ⟨hok,h1,h2,h3,h4,h5,h6,h7,h8⟩:=dec_fields h
 have c:=ofv_any n w hT
 rw [show infoE n=0 from if_pos hok,h1,h2,h4,h5,h6] at c
 exact c
theorem not_decE {n:Int}(hok:okN n)(h:¬ decN n):(baseN n != 10)=true:=by
 unfold okN at hok
 unfold decN at h
 have:n=1∨n=2∨n=3∨n=4∨n=5∨n=6:=by omega
 rcases this with rfl|rfl|rfl|rfl|rfl|rfl<;>decide
section
variable {n d:Int}{N D:Nat}{vn vd:Value}{w:World}(hT:Tab w)(hn:Nt 2001 N vn w)(hd:Nt 2001 D vd w)
include hT hn hd
theorem dchk_bad (hE:rqE n d N D≠0):CB 109 #[.int .i64 n,.int .i64 d,vn,vd] w (.tuple #[IZ,.int .i64 (rqE n d N D)]):=by
 have c66:=fun W (hb:Below w.heap.size w W)=>nlen_v (by decide) (hn.next hb)
 have c66d:=fun W (hb:Below w.heap.size w W)=>nlen_v (by decide) (hd.next hb)
 unfold rqE at hE ⊢
 by_cases h1:decN n
 ·by_cases h2:knB d
  ·by_cases h3:D=0
   ·rw [if_neg (fun h=>h.2.2 h3)]
    exact dcheck_z n d _ _ _ _ _ _ _ _ N D vn vd w hT c66 c66d (decide_eq_true h2) (by rw [h3];rfl) (fun W hT'=>dof_dec h1 W hT')
   ·rw [if_pos ⟨h1,h2,h3⟩] at hE ⊢
    have hD0:(((bl D:Nat):Int)==0)=false:=by rw [bl_nought];exact decide_eq_false h3
    by_cases h4:25600<bl N
    ·rw [if_pos (Or.inl h4)]
     exact dcheck_n n d _ _ _ _ _ _ _ _ N D vn vd w hT c66 c66d (decide_eq_true h2) hD0 (by omega) (fun W hT'=>dof_dec h1 W hT')
    ·by_cases h5:25600<bl D
     ·rw [if_pos (Or.inr h5)]
      exact dcheck_l n d _ _ _ _ _ _ _ _ N D vn vd w hT c66 c66d (decide_eq_true h2) hD0 (by omega) (by omega) (fun W hT'=>dof_dec h1 W hT')
     ·exact absurd (if_neg (fun h=>h.elim h4 h5)) hE
  ·rw [if_neg (fun h=>h2 h.2.1)]
   exact dcheck_d n d _ _ _ _ _ _ _ _ N D vn vd w hT c66 c66d (decide_eq_false h2) (fun W hT'=>dof_dec h1 W hT')
 ·rw [if_neg (fun h=>h1 h.1)]
  by_cases hok:okN n
  ·refine dcheck_b n d (nameN n) (widthN n) (precN n) (expN n) (leastN n) (mostN n) (payN n) (baseN n) (denseN n) N D vn vd w hT c66 c66d (numN n) (not_decE hok h1) (fun W hT'=>?_)
   have c:=ofv_any n W hT'
   rw [show infoE n=0 from if_pos hok] at c
   exact c
  ·refine dcheck_e n d (nameN n) (widthN n) (precN n) (expN n) (leastN n) (mostN n) (payN n) (baseN n) (denseN n) N D vn vd w hT c66 c66d (numN n) 1 (by decide) (fun W hT'=>?_)
   have c:=ofv_any n W hT'
   rw [show infoE n=1 from if_neg hok] at c
   exact c
theorem dchk_ok (hE:rqE n d N D=0):CB 109 #[.int .i64 n,.int .i64 d,vn,vd] w (.tuple #[IDec n (nameN n) (widthN n) (3*((fD n).j:Int)+1) (expN n) (fD n).l (fD n).m (payN n) (denseN n),.int .i64 0]):=by
 have c66:=fun W (hb:Below w.heap.size w W)=>nlen_v (by decide) (hn.next hb)
 have c66d:=fun W (hb:Below w.heap.size w W)=>nlen_v (by decide) (hd.next hb)
 obtain ⟨h1,h2,h3,h4,h5⟩:=rq_zero hE
 exact dcheck_k n d _ _ _ _ _ _ _ _ N D vn vd w hT c66 c66d (decide_eq_true h2) (by rw [bl_nought];exact decide_eq_false h3) (by omega) (by omega) (fun W hT'=>dof_dec h1 W hT')
end
theorem ten_256 {f:DF}(hf:f.ok):(10:Nat)^(3*f.j+1)<2^256:=by
 obtain ⟨m0,m1,l0,l1,lm,j0,j1⟩:=ok_m hf
 exact Nat.lt_of_le_of_lt (Nat.pow_le_pow_right (by decide) (show 3*f.j+1<=34 by omega)) (by decide)
theorem drd_v {n d x y:Int}{s:Bool}{N D:Nat}{vn vd:Value}{w:World}(hT:Tab w)(hn:Nt 2001 N vn w)(hd:Nt 2001 D vd w) :
  CB 55 #[.int .i64 n,.int .i64 d,.bool s,vn,vd,.int .i64 x,.int .i64 y] w (.tuple #[(rqD n d s N D x y).v,.int .i64 (rqF n d s N D x),.int .i64 (rqE n d N D)]):=by
 by_cases hE:rqE n d N D=0
 ·have c17:=fun W (hb:Below w.heap.size w W)=>dchk_ok (hT.go hb) (hn.next hb) (hd.next hb) hE
  have c18:=fun W (hb:Below w.heap.size w W)=>nlen_v (by decide) (hn.next hb)
  obtain ⟨h1,h2,h3,h4,h5⟩:=rq_zero hE
  have hf:=fD_ok n
  obtain ⟨m0,m1,l0,l1,lm,j0,j1⟩:=ok_m hf
  by_cases hN:N=0
  ·have e1:rqD n d s N D x y=⟨1,s,false,min (max y (fD n).l) (fD n).m,0⟩:=by unfold rqD;rw [if_pos hE,if_pos hN]
   have e2:rqF n d s N D x=0:=by unfold rqF;rw [if_pos hE,if_pos hN]
   rw [e1,e2,hE]
   have ev:(Dat.mk 1 s false (min (max y (fD n).l) (fD n).m) 0).v=.agg #[.int .i64 1,.bool s,.bool false,.int .i64 (min (max y (fD n).l) (fD n).m),.int .u64 0,.int .u64 0,.int .u64 0,.int .u64 0]:=by
    unfold Dat.v DV
    simp only [W4_zero]
   rw [ev]
   exact ddec_z n d x y s vn vd w _ _ _ _ _ _ _ _ N _ _ _ _ _ _ _ _ c17 c18 (by rw [hN];rfl) _ rfl (fun W=>dfin_n s _ W)
  ·obtain ⟨L,hL,_⟩:=dlead_v hn hd hN h3 h4 h5
   have c20:∀ W,Below w.heap.size w W->CB 112 #[vn,vd] W (.int .i64 L):=fun W hb=>by
    obtain ⟨L',hL',c⟩:=dlead_v (hn.next hb) (hd.next hb) hN h3 h4 h5
    rw [hL'.only hL] at c
    exact c
   obtain ⟨b1,b2⟩:=tn_bd (by omega) (by omega) h4 h5 hL
   obtain ⟨r1,r2⟩:=drd_num (s:=s) (x:=x) (y:=y) hE hN hL
   have hTn:=TnE_sh hL (pX (fD n) L x)
   have c21:∀ W,CB 113 #[IDec n (nameN n) (widthN n) (3*((fD n).j:Int)+1) (expN n) (fD n).l (fD n).m (payN n) (denseN n),.int .i64 L,.int .i64 x] W (.int .i64 (pX (fD n) L x)):=fun W =>
    dwithin_v n _ _ _ _ _ _ _ _ L x W (by omega) (by omega) (by omega) (by omega)
   have hXb:(fD n).l-2-L<=pX (fD n) L x/\pX (fD n) L x<=(fD n).m+(3*(fD n).j+1)-L:=by unfold pX;omega
   have hC0:=dkC0_at (fD n) d s N D (pX (fD n) L x) (L+pX (fD n) L x)
   have hX0:=dkX_at (fD n) N D (pX (fD n) L x) (L+pX (fD n) L x)
   have hle:=dkC0_le (f:=fD n) (d:=d) (s:=s) (Nat.mul_pos (show 0<D by omega) (ten_pos (-(pX (fD n) L x)).toNat)) hTn
   have hCl:=dkC_lt (f:=fD n) (d:=d) (s:=s) (Nat.mul_pos (show 0<D by omega) (ten_pos (-(pX (fD n) L x)).toNat)) hTn
   have h256:=ten_256 hf
   have hql:=dkE_ge (fD n) d s (N*10^(pX (fD n) L x).toNat) (D*10^(-(pX (fD n) L x)).toNat) (L+pX (fD n) L x)
   have hqq:max (fD n).l (L+pX (fD n) L x-(3*((fD n).j:Int)+1)+1)=dkQ (fD n) (L+pX (fD n) L x):=by unfold dkQ;omega
   have hqb:-20000<=dkQ (fD n) (L+pX (fD n) L x)/\dkQ (fD n) (L+pX (fD n) L x)<=20000:=by unfold dkQ;omega
   have hdf:-9100<=pX (fD n) L x-dkQ (fD n) (L+pX (fD n) L x)/\pX (fD n) L x-dkQ (fD n) (L+pX (fD n) L x)<=9100:=by unfold dkQ;omega
   rw [r1,r2,hE]
   clear r1 r2 hL
   unfold dkD dkF
   unfold dkM at *
   generalize hEq:dkE (fD n) d s (N*10^(pX (fD n) L x).toNat) (D*10^(-(pX (fD n) L x)).toNat) (L+pX (fD n) L x)=qe at *
   generalize hCq:dkC (fD n) d s (N*10^(pX (fD n) L x).toNat) (D*10^(-(pX (fD n) L x)).toNat) (L+pX (fD n) L x)=ce at *
   unfold dkE at hEq
   unfold dkC at hCq
   rw [hX0]
   generalize dkC0 (fD n) d s (N*10^(pX (fD n) L x).toNat) (D*10^(-(pX (fD n) L x)).toNat) (L+pX (fD n) L x)=C at *
   clear hX0 hTn
   generalize dkQ (fD n) (L+pX (fD n) L x)=q0 at *
   generalize pX (fD n) L x=X at *
   have c22:∀ W,Below w.heap.size w W->Calls Tryz.prog 114 #[vn,vd,.int .i64 (X-q0)] W fun r w'=>∃ va vb,r=.returned (.tuple #[va,vb])/\Below W.heap.size W w'/\(Calls Tryz.prog 99 #[.int .i64 d,.bool s,va,vb] w' fun r w''=>∃ v,r=.returned (.tuple #[v,.bool (decide (N*10^(X-q0).toNat%(D*10^(-(X-q0)).toNat)=0))])/\Nz 2003 C v w''/\Below w'.heap.size w' w''):=fun W hb=>by
    refine (dscaled_v (X-q0) (hn.next hb) (hd.next hb) (by omega) (by omega) (by omega)).mono ?_
    rintro r w' ⟨va,vb,e1,e2,e3,e4⟩
    refine ⟨va,vb,e1,e4,?_⟩
    rw [hC0]
    have t1:=bl_mul N (10^(X-q0).toNat)
    have t2:=bl_mul D (10^(-(X-q0)).toNat)
    have t3:=ten_bl (X-q0).toNat
    have t4:=ten_bl (-(X-q0)).toNat
    exact whole_cv d s e2 e3 (Nat.ne_of_gt (Nat.mul_pos (by omega) (ten_pos _))) (by omega) (by omega)
   have c25:∀ W,CE 115 #[.int .i64 (3*((fD n).j:Int)+1)] W (NT 2001 (10^(3*(fD n).j+1))):=fun W=>by
    have:=drten_v (3*(fD n).j+1) W (by omega)
    rw [show ((3*(fD n).j+1:Nat):Int)=3*((fD n).j:Int)+1 by omega] at this
    exact this
   have c25b:∀ W,CE 115 #[.int .i64 (3*((fD n).j:Int)+1-1)] W (NT 2001 (10^(3*(fD n).j))):=fun W=>by
    have:=drten_v (3*(fD n).j) W (by omega)
    rw [show ((3*(fD n).j:Nat):Int)=3*((fD n).j:Int)+1-1 by omega] at this
    exact this
   have c24:∀ W v u,Nz 2003 C v W->NT 2001 (10^(3*(fD n).j+1)) u W->CB 57 #[v,u] W (.int .i64 (sgn (C:Int) ((10^(3*(fD n).j+1):Nat):Int))):=fun W v u hv hu=>ncmp_v (by decide) (by decide) hv.nt hu.nt
   have hcm:(sgn (C:Int) ((10^(3*(fD n).j+1):Nat):Int)==0)=decide (10^(3*(fD n).j+1)<=C):=by
    rcases sgn_ways (C:Int) ((10^(3*(fD n).j+1):Nat):Int) with ⟨a,e⟩|⟨a,e⟩|⟨a,e⟩
    ·rw [e,decide_eq_false (by omega)];rfl
    ·rw [e,decide_eq_true (by omega)];rfl
    ·exact absurd a (by omega)
   have c26:∀ W,CB 116 #[IDec n (nameN n) (widthN n) (3*((fD n).j:Int)+1) (expN n) (fD n).l (fD n).m (payN n) (denseN n),.int .i64 d,.bool s] W ((if inB d s then (⟨2,s,false,0,0⟩:Dat) else ⟨1,s,false,(fD n).m,10^(3*(fD n).j+1)-1⟩).v):=fun W=>by
    by_cases hi:inB d s=true
    ·rw [if_pos hi]
     have:=dover_i n (nameN n) (widthN n) (3*((fD n).j:Int)+1) (expN n) (fD n).l (fD n).m (payN n) (denseN n) d s W hi
     unfold Dat.v DV
     simp only [W4_zero]
     exact this
    ·rw [if_neg hi]
     exact dover_l n (nameN n) (widthN n) (3*((fD n).j:Int)+1) (expN n) (fD n).l (fD n).m (payN n) (denseN n) d s W (by simpa using hi) _ (10^(3*(fD n).j+1)-1) _ _ _ _ _ _ _ _ c25 (fun W v u hv hu=>nsub_vd (by decide) (by decide) hv hu (ten_pos _)) (fun W v hv=>dfin_v (C:=10^(3*(fD n).j+1)-1) s (fD n).m hv (by omega))
   have hN0:(((bl N:Nat):Int)==0)=false:=by rw [bl_nought];exact decide_eq_false hN
   have hfl:∀ ex:Bool,∀ W,CQ 118 #[.bool ex,.bool (decide (L+X<3*((fD n).j:Int)+1-1+(fD n).l))] W (.int .i64 (if ex then 0 else if L+X<(fD n).l+3*(fD n).j then 12 else 8)):=fun ex W=>by
    have:=raised_any ex (decide (L+X<3*((fD n).j:Int)+1-1+(fD n).l)) W
    have e:(L+X<3*((fD n).j:Int)+1-1+(fD n).l)↔(L+X<(fD n).l+3*(fD n).j):=by omega
    simp only [decide_eq_true_eq,e] at this
    simpa only [e] using this
   generalize hxa:decide (N*10^(X-q0).toNat%(D*10^(-(X-q0)).toNat)=0)=exa at *
   have hfx:=hfl exa
   clear hfl hxa hC0
   by_cases hu:10^(3*(fD n).j+1)<=C
   ·rw [if_pos hu] at hEq hCq
    subst hEq hCq
    rw [decide_eq_true hu] at hcm
    by_cases ho:(fD n).m<q0+1
    ·rw [if_pos ho,if_pos ho]
     exact ddec_uo n d x y s vn vd w _ _ _ _ _ _ _ _ N _ _ _ _ _ _ _ _ c17 c18 (by omega) (by omega) (by omega) hN0 L X q0 (by omega) (by omega) hqq (by omega) C _ _ _ c20 c21 c22 c25 c24 hcm _ c25b ho c26
    ·rw [if_neg ho,if_neg ho]
     cases exa
     ·exact ddec_ui n d x y s vn vd w _ _ _ _ _ _ _ _ N _ _ _ _ _ _ _ _ c17 c18 (by omega) (by omega) (by omega) hN0 L X q0 (by omega) (by omega) hqq (by omega) C _ _ _ c20 c21 c22 c25 c24 hcm _ c25b ho rfl _ (fun W v hv=>dfin_v (C:=10^(3*(fD n).j)) s (q0+1) hv (by omega)) hfx
     ·obtain ⟨k1,k2,k3,k4⟩:=mbr_all (want:=y) ((fD n).m-(q0+1)).toNat (10^(3*(fD n).j)) (q0+1) (show q0+1<=(fD n).m by omega)
      exact ddec_ux n d x y s vn vd w _ _ _ _ _ _ _ _ N _ _ _ _ _ _ _ _ c17 c18 (by omega) (by omega) (by omega) hN0 L X q0 (by omega) (by omega) hqq (by omega) C _ _ _ c20 c21 c22 c25 c24 hcm _ c25b ho rfl _ _ _ rfl (fun W v hv=>dmember_v (fD n).m y (by omega) (by omega) hv (by omega)) (fun W v hv=>dfin_v (C:=(mbr (fD n).m y ((fD n).m-(q0+1)).toNat (10^(3*(fD n).j)) (q0+1)).1) s _ hv (by omega)) hfx
   ·rw [if_neg hu] at hEq hCq
    subst hEq hCq
    rw [decide_eq_false hu] at hcm
    by_cases ho:(fD n).m<q0
    ·rw [if_pos ho,if_pos ho]
     exact ddec_no n d x y s vn vd w _ _ _ _ _ _ _ _ N _ _ _ _ _ _ _ _ c17 c18 (by omega) (by omega) (by omega) hN0 L X q0 (by omega) (by omega) hqq (by omega) C _ _ _ c20 c21 c22 c25 c24 hcm ho c26
    ·rw [if_neg ho,if_neg ho]
     cases exa
     ·exact ddec_ni n d x y s vn vd w _ _ _ _ _ _ _ _ N _ _ _ _ _ _ _ _ c17 c18 (by omega) (by omega) (by omega) hN0 L X q0 (by omega) (by omega) hqq (by omega) C _ _ _ c20 c21 c22 c25 c24 hcm ho rfl _ (fun W v hv=>dfin_v (C:=C) s q0 hv (by omega)) hfx
     ·obtain ⟨k1,k2,k3,k4⟩:=mbr_all (want:=y) ((fD n).m-q0).toNat C q0 (show q0<=(fD n).m by omega)
      exact ddec_nx n d x y s vn vd w _ _ _ _ _ _ _ _ N _ _ _ _ _ _ _ _ c17 c18 (by omega) (by omega) (by omega) hN0 L X q0 (by omega) (by omega) hqq (by omega) C _ _ _ c20 c21 c22 c25 c24 hcm ho rfl _ _ _ rfl (fun W v hv=>dmember_v (fD n).m y (by omega) (by omega) hv (by omega)) (fun W v hv=>dfin_v (C:=(mbr (fD n).m y ((fD n).m-q0).toNat C q0).1) s _ hv (by omega)) hfx
 ·obtain ⟨q1,q2⟩:=rq_not (s:=s) (x:=x) (y:=y) hE
  rw [q1,q2]
  exact ddec_e n d x y s vn vd w _ (by simpa using hE) (fun W hb=>dchk_bad (hT.go hb) (hn.next hb) (hd.next hb) hE)
end
section
attribute [local irreducible] W4 Nz Nt NT
section
variable (t d c x:Int)(s g:Bool)(k:Nat)(hk:k<2^256)(V:Nat)(c' x':Int)(s' g':Bool)(k':Nat)(F E:Int)(w:World)(hT:Tab w)(hxb:-20000<=x/\x<=20000)
include hk hT hxb
theorem cro_n (hx:x<0)
  (c62:∀ W v e,e=-x->Nt 900 1 v W->Calls Tryz.prog 54 #[v,.int .i64 e] W fun r w'=>∃ q,r=.returned (.tuple #[q,.int .i64 0])/\NT 2001 V q w'/\Below W.heap.size W w')
  (c63:∀ W v v',Tab W->Nt 4 k v W->Nt 2001 V v' W->CB 55 #[.int .i64 t,.int .i64 d,.bool s,v,v',.int .i64 0,.int .i64 0] W (.tuple #[DV c' s' g' x' k',.int .i64 F,.int .i64 E])) :
  CB 25 #[.int .i64 t,.int .i64 d,DV c s g x k] w (.tuple #[DV c' s' g' x' k',.int .i64 F]):=by
 have hbx:=fun W hW=>dat_box (w0:=w) (w:=W) (c:=c) (s:=s) (g:=g) (x:=x) (t:=32) hk hW
 have hsm:=cell_set_map
 unfold DV at c63 ⊢
 go_enter Tryz.func25,Tryz.ntmps25
 go_wp2_with (first
  | (go_at_call 54;refine (c62 _ _ _ (by omega) (NT.nt (nt_oneB (by simp)))).mono ?_;rintro r w1 ⟨v1,rfl,hv1,hb1⟩;have hv0:=hbx _ (bnx (bnx (below1 _ _) (below1 _ _)) hb1);obtain ⟨_,_,_,_,hA1,_⟩:=wz w hb1;obtain ⟨_,_⟩:=zf hb1 (w.heap.size+1);obtain ⟨_,_⟩:=zf hb1 (w.heap.size+1+1);clear hb1)
  | (go_at_call 55;refine (c63 _ _ _ (hT.go bgo) hv0 hv1.nt).mono ?_;rintro r w2 ⟨rfl,hb2⟩;obtain ⟨_,_,_,_,hA2,_⟩:=wz w hb2;obtain ⟨_,_⟩:=zf hb2 (w.heap.size+1);obtain ⟨_,_⟩:=zf hb2 (w.heap.size+1+1);clear hb2))
 exact bodyPost_ret (by simp only [results,Tryz.results25];go_simp) rfl ⟨rfl,bgo⟩
theorem cro_p (hx:¬ x<0)
  (c62:∀ W v,Nt 4 k v W->Calls Tryz.prog 54 #[v,.int .i64 x] W fun r w'=>∃ q,r=.returned (.tuple #[q,.int .i64 0])/\NT 2001 V q w'/\Below W.heap.size W w')
  (c63:∀ W v v',Tab W->Nt 2001 V v W->Nt 900 1 v' W->CB 55 #[.int .i64 t,.int .i64 d,.bool s,v,v',.int .i64 0,.int .i64 0] W (.tuple #[DV c' s' g' x' k',.int .i64 F,.int .i64 E])) :
  CB 25 #[.int .i64 t,.int .i64 d,DV c s g x k] w (.tuple #[DV c' s' g' x' k',.int .i64 F]):=by
 have hbx:=fun W hW=>dat_box (w0:=w) (w:=W) (c:=c) (s:=s) (g:=g) (x:=x) (t:=32) hk hW
 have hx0:0<=x:=by omega
 have hsm:=cell_set_map
 unfold DV at c63 ⊢
 go_enter Tryz.func25,Tryz.ntmps25
 go_wp2_with (first
  | (go_at_call 54;refine (c62 _ _ (hbx _ (bnx (below1 _ _) (below1 _ _)))).mono ?_;rintro r w1 ⟨v1,rfl,hv1,hb1⟩;have hone:=NT.next (nt_oneB rfl) hb1;obtain ⟨_,_,_,_,hA1,_⟩:=wz w hb1;obtain ⟨_,_⟩:=zf hb1 (w.heap.size+1);obtain ⟨_,_⟩:=zf hb1 (w.heap.size+1+1);clear hb1)
  | (go_at_call 55;refine (c63 _ _ _ (hT.go bgo) hv1.nt (by simpa using hone.nt)).mono ?_;rintro r w2 ⟨rfl,hb2⟩;obtain ⟨_,_,_,_,hA2,_⟩:=wz w hb2;obtain ⟨_,_⟩:=zf hb2 (w.heap.size+1);obtain ⟨_,_⟩:=zf hb2 (w.heap.size+1+1);clear hb2))
 exact bodyPost_ret (by simp only [results,Tryz.results25];go_simp) rfl ⟨rfl,bgo⟩
end
theorem cro_v {t d x:Int}(s g:Bool){k:Nat}(hk:k<2^251)(w:World)(hT:Tab w)(hx:-16990<=x/\x<=16990) :
  CB 25 #[.int .i64 t,.int .i64 d,DV 1 s g x k] w (.tuple #[(coD t d ⟨1,s,g,x,k⟩).v,.int .i64 (coF t d ⟨1,s,g,x,k⟩)]):=by
 have hA:bl k<=251:=bl_le.2 hk
 have hk2:k<2^256:=Nat.lt_of_lt_of_le hk (Nat.pow_le_pow_right (by decide) (by decide))
 have e1:coD t d ⟨1,s,g,x,k⟩=rqD t d s (k*2^x.toNat) (1*2^(-x).toNat) 0 0:=rfl
 have e2:coF t d ⟨1,s,g,x,k⟩=rqF t d s (k*2^x.toNat) (1*2^(-x).toNat) 0:=rfl
 rw [e1,e2]
 by_cases he:x<0
 ·rw [show x.toNat=0 by omega,Nat.pow_zero,Nat.mul_one]
  refine cro_n t d 1 x s g k hk2 (1*2^(-x).toNat) _ _ _ _ _ _ (rqE t d k (1*2^(-x).toNat)) w hT (by omega) he (fun W v e h hv=>?_) (fun W v v' hT' hv hv'=>?_)
  ·have:=nshl_w (w:=W) (-x).toNat (by decide) hv (by have:bl 1=1:=rfl;omega)
   rw [show (((-x).toNat:Nat):Int)=e by omega] at this
   exact this
  ·exact drd_v hT' (hv.more (by decide)) hv'
 ·rw [show (-x).toNat=0 by omega,Nat.pow_zero,Nat.mul_one]
  refine cro_p t d 1 x s g k hk2 (k*2^x.toNat) _ _ _ _ _ _ (rqE t d (k*2^x.toNat) 1) w hT (by omega) he (fun W v hv=>?_) (fun W v v' hT' hv hv'=>?_)
  ·have:=nshl_w (w:=W) x.toNat (by decide) hv (by omega)
   rw [show ((x.toNat:Nat):Int)=x by omega] at this
   exact this
  ·exact drd_v hT' hv (hv'.more (by decide))
section
variable (m t d c x:Int)(s g:Bool)(k B:Nat)(I:Value)(w:World)(hT:Tab w)
include hT
theorem cvo_e1
  (c1:∀ W,Tab W->CB 13 #[.int .i64 m,A4 B] W (.tuple #[DV c s g x k,.int .i64 1])) :
  CB 10 #[.int .i64 m,.int .i64 t,.int .i64 d,A4 B] w (.tuple #[A4 0,.int .i64 0,.int .i64 1]):=by
 rw [Z4_eq]
 have hsm:=cell_set_map
 go_enter Tryz.func10,Tryz.ntmps10
 go_wp2_with (first
  | (go_at_call 13;refine (c1 _ (hT.go bgo)).mono ?_;rintro r w1 ⟨rfl,hb1⟩;obtain ⟨_,_,_,_,hA1,_⟩:=wz w hb1;obtain ⟨_,_⟩:=zf hb1 (w.heap.size+1);clear hb1))
 exact bodyPost_ret (by simp only [results,Tryz.results10];go_simp) rfl ⟨rfl,bgo⟩
variable (c1:∀ W,Tab W->CB 13 #[.int .i64 m,A4 B] W (.tuple #[DV c s g x k,.int .i64 0]))
include c1
theorem cvo_e2
  (c2:∀ W,Tab W->CB 24 #[.int .i64 t,.int .i64 10,.int .i64 d] W (.tuple #[IZ,.int .i64 1])) :
  CB 10 #[.int .i64 m,.int .i64 t,.int .i64 d,A4 B] w (.tuple #[A4 0,.int .i64 0,.int .i64 1]):=by
 rw [Z4_eq]
 have hsm:=cell_set_map
 go_enter Tryz.func10,Tryz.ntmps10
 go_wp2_with (first
  | (go_at_call 13;refine (c1 _ (hT.go bgo)).mono ?_;rintro r w1 ⟨rfl,hb1⟩;obtain ⟨_,_,_,_,hA1,_⟩:=wz w hb1;obtain ⟨_,_⟩:=zf hb1 (w.heap.size+1);clear hb1)
  | (go_at_call 24;refine (c2 _ (hT.go bgo)).mono ?_;rintro r w2 ⟨rfl,hb2⟩;obtain ⟨_,_,_,_,hA2,_⟩:=wz w hb2;obtain ⟨_,_⟩:=zf hb2 (w.heap.size+1);obtain ⟨_,_⟩:=zf hb2 w1.heap.size;clear hb2))
 exact bodyPost_ret (by simp only [results,Tryz.results10];go_simp) rfl ⟨rfl,bgo⟩
variable (c2:∀ W,Tab W->CB 24 #[.int .i64 t,.int .i64 10,.int .i64 d] W (.tuple #[InfV t,.int .i64 0]))
 (c' x':Int) (s' g':Bool) (k' R:Nat) (F:Int)
 (cP:∀ W,Tab W->CB 27 #[.int .i64 t,DV c' s' g' x' k'] W (.tuple #[A4 R,.int .i64 0]))
include c2 cP
theorem cvo_1 (hc:c=1)
  (cR:∀ W,Tab W->CB 25 #[.int .i64 t,.int .i64 d,DV 1 s g x k] W (.tuple #[DV c' s' g' x' k',.int .i64 F])) :
  CB 10 #[.int .i64 m,.int .i64 t,.int .i64 d,A4 B] w (.tuple #[A4 R,.int .i64 F,.int .i64 0]):=by
 subst hc
 have hsm:=cell_set_map
 go_enter Tryz.func10,Tryz.ntmps10
 go_wp2_with (first
  | (go_at_call 13;refine (c1 _ (hT.go bgo)).mono ?_;rintro r w1 ⟨rfl,hb1⟩;obtain ⟨_,_,_,_,hA1,_⟩:=wz w hb1;obtain ⟨_,_⟩:=zf hb1 (w.heap.size+1);clear hb1)
  | (go_at_call 24;refine (c2 _ (hT.go bgo)).mono ?_;rintro r w2 ⟨rfl,hb2⟩;obtain ⟨_,_,_,_,hA2,_⟩:=wz w hb2;obtain ⟨_,_⟩:=zf hb2 (w.heap.size+1);obtain ⟨_,_⟩:=zf hb2 w1.heap.size;clear hb2)
  | (go_at_call 25;refine (cR _ (hT.go bgo)).mono ?_;rintro r w3 ⟨rfl,hb3⟩;obtain ⟨_,_,_,_,hA3,_⟩:=wz w hb3;obtain ⟨_,_⟩:=zf hb3 (w.heap.size+1);obtain ⟨_,_⟩:=zf hb3 w1.heap.size;obtain ⟨_,_⟩:=zf hb3 w2.heap.size;clear hb3)
  | (go_at_call 27;refine (cP _ (hT.go bgo)).mono ?_;rintro r w4 ⟨rfl,hb4⟩;obtain ⟨_,_,_,_,hA4,_⟩:=wz w hb4;obtain ⟨_,_⟩:=zf hb4 (w.heap.size+1);obtain ⟨_,_⟩:=zf hb4 w1.heap.size;obtain ⟨_,_⟩:=zf hb4 w2.heap.size;clear hb4))
 exact bodyPost_ret (by simp only [results,Tryz.results10];go_simp) rfl ⟨rfl,bgo⟩
theorem cvo_3 (hc:c=2∨c=3)
  (cC:∀ W,CB 26 #[InfV t,DV c s g x k] W (.tuple #[DV c' s' g' x' k',.int .i64 F])) :
  CB 10 #[.int .i64 m,.int .i64 t,.int .i64 d,A4 B] w (.tuple #[A4 R,.int .i64 F,.int .i64 0]):=by
 have hsm:=cell_set_map
 rcases hc with rfl|rfl
 all_goals (
  go_enter Tryz.func10,Tryz.ntmps10
  go_wp2_with (first
   | (go_at_call 13;refine (c1 _ (hT.go bgo)).mono ?_;rintro r w1 ⟨rfl,hb1⟩;obtain ⟨_,_,_,_,hA1,_⟩:=wz w hb1;obtain ⟨_,_⟩:=zf hb1 (w.heap.size+1);clear hb1)
   | (go_at_call 24;refine (c2 _ (hT.go bgo)).mono ?_;rintro r w2 ⟨rfl,hb2⟩;obtain ⟨_,_,_,_,hA2,_⟩:=wz w hb2;obtain ⟨_,_⟩:=zf hb2 (w.heap.size+1);obtain ⟨_,_⟩:=zf hb2 w1.heap.size;clear hb2)
   | (go_at_call 26;refine (cC _).mono ?_;rintro r w3 ⟨rfl,hb3⟩;obtain ⟨_,_,_,_,hA3,_⟩:=wz w hb3;obtain ⟨_,_⟩:=zf hb3 (w.heap.size+1);obtain ⟨_,_⟩:=zf hb3 w1.heap.size;obtain ⟨_,_⟩:=zf hb3 w2.heap.size;clear hb3)
   | (go_at_call 27;refine (cP _ (hT.go bgo)).mono ?_;rintro r w4 ⟨rfl,hb4⟩;obtain ⟨_,_,_,_,hA4,_⟩:=wz w hb4;obtain ⟨_,_⟩:=zf hb4 (w.heap.size+1);obtain ⟨_,_⟩:=zf hb4 w1.heap.size;obtain ⟨_,_⟩:=zf hb4 w2.heap.size;clear hb4))
  exact bodyPost_ret (by simp only [results,Tryz.results10];go_simp) rfl ⟨rfl,bgo⟩)
end
theorem dec_bound {t:Int}(hb:decN t)(W:World):Calls Tryz.prog 56 #[.int .i64 (baseN t),.int .i64 (payN t)] W fun r w'=>∃ v,r=.returned (.tuple #[v,.int .i64 0])/\Nt 2001 (10^(3*(fD t).j)) v w'/\Below W.heap.size W w':=by
 obtain ⟨hok,h1,h2,h3,h4,h5,h6,h7,h8⟩:=dec_fields hb
 obtain ⟨m0,m1,l0,l1,lm,j0,j1⟩:=ok_m (fD_ok t)
 rw [h2,h7,show 3*((fD t).j:Int)=((3*(fD t).j:Nat):Int) by omega]
 exact (npow10d (3*(fD t).j) W (by omega)).mono fun r w' ⟨v,e,hv,hB⟩=>⟨v,e,hv.nt,hB⟩
theorem cro19_v (m t d:Int)(B:Nat)(w:World)(hT:Tab w)(hB:B<2^256) :
  CB 10 #[.int .i64 m,.int .i64 t,.int .i64 d,A4 B] w (.tuple #[A4 (xoV m t d B),.int .i64 (xoF m t d B),.int .i64 (xoE m t d B)]):=by
 have c1:∀ W,Tab W->CB 13 #[.int .i64 m,A4 B] W (.tuple #[DV (unD m B).c (unD m B).s (unD m B).g (unD m B).x (unD m B).k,.int .i64 (unE m B)]):=fun W h=>unpack_any m B W h hB
 unfold xoV xoF xoE
 by_cases h1:goodN m B
 ·rw [show unE m B=0 from if_pos h1] at c1
  by_cases h2:decN t/\knB d
  ·obtain ⟨hb,hd⟩:=h2
   obtain ⟨f1,f0,f2,f3,f4,f5,f6,f7,f8⟩:=dec_fields hb
   have c2:=fun W h=>starg_y W h f1 f2 hd
   have hc:xoG m t d B:=⟨h1,hb,hd⟩
   rw [if_pos hc,if_pos hc,if_pos hc]
   have hi:=und_is h1
   obtain ⟨i1,i2,i3,i4,i5⟩:=co_is hb hd h1.1 hi
   have hk':=vI_k (fD_ok t) i1
   have cP:=fun W h=>dpack14 t (coD t d (unD m B)) hk' W h
   rw [show vPV t (coD t d (unD m B))=vP (fD t) (coD t d (unD m B)) from if_pos ⟨hb,i1⟩,show vPE t (coD t d (unD m B))=0 from (if_pos hb).trans (if_pos i1)] at cP
   have hl:fN m<=250:=by rcases bin_cases h1.1 with e|e|e|e|e|e<;>rw [e]<;>decide
   generalize unD m B=D at *
   obtain ⟨c,s,g,x,k⟩:=D
   dsimp only at c1 i4 i5
   have cC:=fun c W=>sconv_v t _ (dec_bound hb) c x s g i4 W
   rcases hi with ⟨q1,q2,q3,q4,q5,q6⟩|⟨q1,q2,q3,q4⟩|⟨q1,q2,q3,q4⟩
   ·dsimp only at q1 q3
    subst q1
    have hk3:k<2^251:=Nat.lt_of_lt_of_le q3 (Nat.pow_le_pow_right (by decide) (by omega))
    exact cvo_1 m t d 1 x s g k B w hT c1 c2 _ _ _ _ _ _ _ cP rfl (fun W h=>cro_v s g hk3 W h i5)
   ·dsimp only at q1 q2 q3 q4
    subst q1 q2 q3 q4
    refine cvo_3 m t d 2 0 s false 0 B w hT c1 c2 _ _ _ _ _ _ _ cP (Or.inl rfl) ?_
    intro W
    have h:=cC 2 W
    rw [ite_self] at h
    exact h
   ·dsimp only at q1 q2
    subst q1 q2
    exact cvo_3 m t d 3 0 s g k B w hT c1 c2 _ _ _ _ _ _ _ cP (Or.inr rfl) (cC 3)
  ·have hc:¬ xoG m t d B:=fun q=>h2 q.2
   rw [if_neg hc,if_neg hc,if_neg hc]
   refine cvo_e2 m t d _ _ _ _ _ B w hT c1 (fun W h=>starg_n W h ?_)
   rintro ⟨a1,a2,a3⟩
   refine h2 ⟨?_,a3⟩
   apply Classical.byContradiction
   intro hn
   rcases not_dec hn with ⟨q1,q2⟩|q1
   ·rw [a2] at q2;exact absurd q2 (by decide)
   ·exact q1 a1
 ·rw [show unE m B=1 from if_neg h1] at c1
  have hc:¬ xoG m t d B:=fun q=>h1 q.1
  rw [if_neg hc,if_neg hc,if_neg hc]
  exact cvo_e1 m t d _ _ _ _ _ B w hT c1
end
section
attribute [local irreducible] W4 Nz Nt NT
section
variable (t d c x:Int)(s g:Bool)(k:Nat)(hk:k<2^256)(P R:Nat)(F E:Int)(w:World)(hT:Tab w)(hxb:-20000<=x/\x<=20000)
include hk hT hxb
theorem crd_n (hx:x<0)
  (c61:∀ W k,k=-x->Calls Tryz.prog 56 #[.int .i64 5,.int .i64 k] W fun r w'=>∃ v,r=.returned (.tuple #[v,.int .i64 0])/\Nt 2001 P v w'/\Below W.heap.size W w')
  (c63:∀ W v v',Tab W->Nt 4 k v W->Nt 2001 P v' W->CB 82 #[.int .i64 t,.int .i64 d,.bool s,v,v',.int .i64 x] W (.tuple #[A4 R,.int .i64 F,.int .i64 E])) :
  CB 40 #[.int .i64 t,.int .i64 d,DV c s g x k] w (.tuple #[A4 R,.int .i64 F,.int .i64 E]):=by
 have hbx:=fun W hW=>dat_box (w0:=w) (w:=W) (c:=c) (s:=s) (g:=g) (x:=x) (t:=32) hk hW
 have hsm:=cell_set_map
 go_enter Tryz.func40,Tryz.ntmps40
 go_wp2_with (first
  | (go_at_call 56;refine (c61 _ _ (by omega)).mono ?_;rintro r w1 ⟨v1,rfl,hv1,hb1⟩;have hv0:=hbx _ (bnx (bnx (below1 _ _) (below1 _ _)) hb1);obtain ⟨_,_,_,_,hA1,_⟩:=wz w hb1;obtain ⟨_,_⟩:=zf hb1 (w.heap.size+1);obtain ⟨_,_⟩:=zf hb1 (w.heap.size+1+1);clear hb1)
  | (go_at_call 82;refine (c63 _ _ _ (hT.go bgo) hv0 hv1).mono ?_;rintro r w2 ⟨rfl,hb2⟩;obtain ⟨_,_,_,_,hA2,_⟩:=wz w hb2;obtain ⟨_,_⟩:=zf hb2 (w.heap.size+1);obtain ⟨_,_⟩:=zf hb2 (w.heap.size+1+1);clear hb2))
 exact bodyPost_ret (v:=.tuple #[A4 R,.int .i64 F,.int .i64 E]) (by simp only [results,Tryz.results40];go_simp) rfl ⟨rfl,bgo⟩
theorem crd_p (hx:¬ x<0)
  (c61:∀ W,Calls Tryz.prog 56 #[.int .i64 5,.int .i64 x] W fun r w'=>∃ v,r=.returned (.tuple #[v,.int .i64 0])/\Nt 2001 P v w'/\Below W.heap.size W w')
  (c62:∀ W v v',Nt 4 k v W->Nt 2001 P v' W->Calls Tryz.prog 81 #[v,v'] W fun r w'=>∃ q,r=.returned (.tuple #[q,.int .i64 0])/\NT 2001 (k*P) q w'/\Below W.heap.size W w')
  (c63:∀ W v v',Tab W->NT 2001 (k*P) v W->NT 900 1 v' W->CB 82 #[.int .i64 t,.int .i64 d,.bool s,v,v',.int .i64 x] W (.tuple #[A4 R,.int .i64 F,.int .i64 E])) :
  CB 40 #[.int .i64 t,.int .i64 d,DV c s g x k] w (.tuple #[A4 R,.int .i64 F,.int .i64 E]):=by
 have hbx:=fun W hW=>dat_box (w0:=w) (w:=W) (c:=c) (s:=s) (g:=g) (x:=x) (t:=32) hk hW
 have hx0:0<=x:=by omega
 have hsm:=cell_set_map
 go_enter Tryz.func40,Tryz.ntmps40
 go_wp2_with (first
  | (go_at_call 56;refine (c61 _).mono ?_;rintro r w1 ⟨v1,rfl,hv1,hb1⟩;have hv0:=hbx _ (bnx (bnx (below1 _ _) (below1 _ _)) hb1);have hone:=NT.next (nt_oneB rfl) hb1;obtain ⟨_,_,_,_,hA1,_⟩:=wz w hb1;obtain ⟨_,_⟩:=zf hb1 (w.heap.size+1);obtain ⟨_,_⟩:=zf hb1 (w.heap.size+1+1);clear hb1)
  | (go_at_call 81;refine (c62 _ _ _ hv0 hv1).mono ?_;rintro r w2 ⟨v2,rfl,hv2,hb2⟩;have hone2:=hone.next hb2;obtain ⟨_,_,_,_,hA2,_⟩:=wz w hb2;obtain ⟨_,_⟩:=zf hb2 (w.heap.size+1);obtain ⟨_,_⟩:=zf hb2 (w.heap.size+1+1);clear hb2)
  | (go_at_call 82;refine (c63 _ _ _ (hT.go bgo) hv2 (by simpa using hone2)).mono ?_;rintro r w3 ⟨rfl,hb3⟩;obtain ⟨_,_,_,_,hA3,_⟩:=wz w hb3;obtain ⟨_,_⟩:=zf hb3 (w.heap.size+1);obtain ⟨_,_⟩:=zf hb3 (w.heap.size+1+1);clear hb3))
 exact bodyPost_ret (v:=.tuple #[A4 R,.int .i64 F,.int .i64 E]) (by simp only [results,Tryz.results40];go_simp) rfl ⟨rfl,bgo⟩
end
theorem crd_v {t d x:Int}(c:Int)(s g:Bool){k:Nat}(hk:k<2^256)(w:World)(hT:Tab w)(hb:binN t)(hd:knB d)(hx:-10000<=x/\x<=10000) :
  CB 40 #[.int .i64 t,.int .i64 d,DV c s g x k] w (.tuple #[A4 (rdV t d s (tN k x) (tD x) x),.int .i64 (rdF t d s (tN k x) (tD x) x),.int .i64 0]):=by
 have hA:bl k<=256:=bl_le.2 hk
 by_cases he:x<0
 ·have hm:=five_bl (-x).toNat
  have e1:tN k x=k:=by unfold tN;rw [show x.toNat=0 by omega,Nat.pow_zero,Nat.mul_one]
  have e2:tD x=5^(-x).toNat:=rfl
  rw [e1,e2]
  refine crd_n t d c x s g k hk (5^(-x).toNat) _ _ _ w hT (by omega) he (fun W j hj=>?_) (fun W v v' hT' hv hv'=>?_)
  ·have:=npow5 (-x).toNat W (by omega)
   rw [show (((-x).toNat:Nat):Int)=j by omega] at this
   exact this
  ·exact rnd_good t d x s hT' (hv.more (by decide)) hv' hb hd (Nat.pos_iff_ne_zero.1 (Nat.pow_pos (by decide))) (by omega) (by omega)
 ·have hm:=five_bl x.toNat
  have e1:tD x=1:=by unfold tD;rw [show (-x).toNat=0 by omega,Nat.pow_zero]
  have e2:tN k x=k*5^x.toNat:=rfl
  rw [e1,e2]
  have hbm:=bl_mul k (5^x.toNat)
  refine crd_p t d c x s g k hk (5^x.toNat) _ _ _ w hT (by omega) he (fun W=>?_) (fun W v v' hv hv'=>nmul_w (by decide) (by decide) hv hv' (by omega)) (fun W v v' hT' hv hv'=>?_)
  ·have:=npow5 x.toNat W (by omega)
   rw [show ((x.toNat:Nat):Int)=x by omega] at this
   exact this
  ·exact rnd_good t d x s hT' hv.nt (hv'.nt.more (by decide)) hb hd (by decide) (by omega) (by decide)
section
variable (m t d c x:Int)(s g ok:Bool)(k B:Nat)(I:Value)(w:World)(hT:Tab w)
include hT
theorem cvi_e1
  (c1:∀ W,Tab W->CB 39 #[.int .i64 m,A4 B] W (.tuple #[DV c s g x k,.bool ok,.int .i64 1])) :
  CB 14 #[.int .i64 m,.int .i64 t,.int .i64 d,A4 B] w (.tuple #[A4 0,.int .i64 0,.int .i64 1]):=by
 rw [Z4_eq]
 have hsm:=cell_set_map
 go_enter Tryz.func14,Tryz.ntmps14
 go_wp2_with (first
  | (go_at_call 39;refine (c1 _ (hT.go bgo)).mono ?_;rintro r w1 ⟨rfl,hb1⟩;obtain ⟨_,_,_,_,hA1,_⟩:=wz w hb1;obtain ⟨_,_⟩:=zf hb1 (w.heap.size+1);clear hb1))
 exact bodyPost_ret (by simp only [results,Tryz.results14];go_simp) rfl ⟨rfl,bgo⟩
variable (c1:∀ W,Tab W->CB 39 #[.int .i64 m,A4 B] W (.tuple #[DV c s g x k,.bool ok,.int .i64 0]))
include c1
theorem cvi_e2
  (c2:∀ W,Tab W->CB 24 #[.int .i64 t,.int .i64 2,.int .i64 d] W (.tuple #[IZ,.int .i64 1])) :
  CB 14 #[.int .i64 m,.int .i64 t,.int .i64 d,A4 B] w (.tuple #[A4 0,.int .i64 0,.int .i64 1]):=by
 rw [Z4_eq]
 have hsm:=cell_set_map
 go_enter Tryz.func14,Tryz.ntmps14
 go_wp2_with (first
  | (go_at_call 39;refine (c1 _ (hT.go bgo)).mono ?_;rintro r w1 ⟨rfl,hb1⟩;obtain ⟨_,_,_,_,hA1,_⟩:=wz w hb1;obtain ⟨_,_⟩:=zf hb1 (w.heap.size+1);clear hb1)
  | (go_at_call 24;refine (c2 _ (hT.go bgo)).mono ?_;rintro r w2 ⟨rfl,hb2⟩;obtain ⟨_,_,_,_,hA2,_⟩:=wz w hb2;obtain ⟨_,_⟩:=zf hb2 (w.heap.size+1);obtain ⟨_,_⟩:=zf hb2 w1.heap.size;clear hb2))
 exact bodyPost_ret (by simp only [results,Tryz.results14];go_simp) rfl ⟨rfl,bgo⟩
variable (c2:∀ W,Tab W->CB 24 #[.int .i64 t,.int .i64 2,.int .i64 d] W (.tuple #[InfV t,.int .i64 0]))
include c2
theorem cvi_1 (hc:c=1)(R:Nat)(F:Int)
  (cR:∀ W,Tab W->CB 40 #[.int .i64 t,.int .i64 d,DV 1 s g x k] W (.tuple #[A4 R,.int .i64 F,.int .i64 0])) :
  CB 14 #[.int .i64 m,.int .i64 t,.int .i64 d,A4 B] w (.tuple #[A4 R,.int .i64 F,.int .i64 0]):=by
 subst hc
 have hsm:=cell_set_map
 go_enter Tryz.func14,Tryz.ntmps14
 go_wp2_with (first
  | (go_at_call 39;refine (c1 _ (hT.go bgo)).mono ?_;rintro r w1 ⟨rfl,hb1⟩;obtain ⟨_,_,_,_,hA1,_⟩:=wz w hb1;obtain ⟨_,_⟩:=zf hb1 (w.heap.size+1);clear hb1)
  | (go_at_call 24;refine (c2 _ (hT.go bgo)).mono ?_;rintro r w2 ⟨rfl,hb2⟩;obtain ⟨_,_,_,_,hA2,_⟩:=wz w hb2;obtain ⟨_,_⟩:=zf hb2 (w.heap.size+1);obtain ⟨_,_⟩:=zf hb2 w1.heap.size;clear hb2)
  | (go_at_call 40;refine (cR _ (hT.go bgo)).mono ?_;rintro r w3 ⟨rfl,hb3⟩;obtain ⟨_,_,_,_,hA3,_⟩:=wz w hb3;obtain ⟨_,_⟩:=zf hb3 (w.heap.size+1);obtain ⟨_,_⟩:=zf hb3 w1.heap.size;obtain ⟨_,_⟩:=zf hb3 w2.heap.size;clear hb3))
 exact bodyPost_ret (by simp only [results,Tryz.results14];go_simp) rfl ⟨rfl,bgo⟩
theorem cvi_3 (hc:c=2∨c=3)(k' R:Nat)(F:Int)
  (cC:∀ W,CB 26 #[InfV t,DV c s g x k] W (.tuple #[DV c s false x k',.int .i64 F]))
  (cP:∀ W,Tab W->CB 23 #[.int .i64 t,DV c s false x k'] W (.tuple #[A4 R,.int .i64 0])) :
  CB 14 #[.int .i64 m,.int .i64 t,.int .i64 d,A4 B] w (.tuple #[A4 R,.int .i64 F,.int .i64 0]):=by
 have hsm:=cell_set_map
 rcases hc with rfl|rfl
 all_goals (
  go_enter Tryz.func14,Tryz.ntmps14
  go_wp2_with (first
   | (go_at_call 39;refine (c1 _ (hT.go bgo)).mono ?_;rintro r w1 ⟨rfl,hb1⟩;obtain ⟨_,_,_,_,hA1,_⟩:=wz w hb1;obtain ⟨_,_⟩:=zf hb1 (w.heap.size+1);clear hb1)
   | (go_at_call 24;refine (c2 _ (hT.go bgo)).mono ?_;rintro r w2 ⟨rfl,hb2⟩;obtain ⟨_,_,_,_,hA2,_⟩:=wz w hb2;obtain ⟨_,_⟩:=zf hb2 (w.heap.size+1);obtain ⟨_,_⟩:=zf hb2 w1.heap.size;clear hb2)
   | (go_at_call 26;refine (cC _).mono ?_;rintro r w3 ⟨rfl,hb3⟩;obtain ⟨_,_,_,_,hA3,_⟩:=wz w hb3;obtain ⟨_,_⟩:=zf hb3 (w.heap.size+1);obtain ⟨_,_⟩:=zf hb3 w1.heap.size;obtain ⟨_,_⟩:=zf hb3 w2.heap.size;clear hb3)
   | (go_at_call 23;refine (cP _ (hT.go bgo)).mono ?_;rintro r w4 ⟨rfl,hb4⟩;obtain ⟨_,_,_,_,hA4,_⟩:=wz w hb4;obtain ⟨_,_⟩:=zf hb4 (w.heap.size+1);obtain ⟨_,_⟩:=zf hb4 w1.heap.size;obtain ⟨_,_⟩:=zf hb4 w2.heap.size;clear hb4))
  exact bodyPost_ret (by simp only [results,Tryz.results14];go_simp) rfl ⟨rfl,bgo⟩)
end
theorem crn_v (m t d:Int)(B:Nat)(w:World)(hT:Tab w)(hB:B<2^256) :
  CB 14 #[.int .i64 m,.int .i64 t,.int .i64 d,A4 B] w (.tuple #[A4 (xiV m t d B),.int .i64 (xiF m t d B),.int .i64 (xiE m t d B)]):=by
 have c1:∀ W,Tab W->CB 39 #[.int .i64 m,A4 B] W (.tuple #[DV (vUD m B).c (vUD m B).s (vUD m B).g (vUD m B).x (vUD m B).k,.bool (vUC m B),.int .i64 (vUE m B)]):=fun W h=>dunpk14 m B hB W h
 unfold xiV xiF xiE
 by_cases h1:goodD m B
 ·rw [show vUE m B=0 from if_pos h1,show vUD m B=vM (fD m) B from if_pos h1] at c1
  by_cases h2:binN t/\knB d
  ·obtain ⟨hb,hd⟩:=h2
   obtain ⟨f1,f2,f3,f4,f5,f6⟩:=bin_fields hb
   have c2:=fun W h=>starg_y W h f1 f2 hd
   have hc:xiG m t d B:=⟨h1,hb,hd⟩
   rw [if_pos hc,if_pos hc,if_pos hc]
   have hi:=vM_is (fD_ok m) B
   have hkk:=vI_k (fD_ok m) hi
   have hxx:=vI_x (fD_ok m) hi
   generalize vM (fD m) B=D at *
   obtain ⟨c,s,g,x,k⟩:=D
   dsimp only at c1 hkk hxx
   have cC:=fun c W=>sconv_v t _ (bin_bound hb) c x s g hkk W
   rcases hi with ⟨i1,i2,i3,i4,i5⟩|⟨i1,i2,i3,i4⟩|⟨i1,i2,i3⟩
   ·dsimp only at i1 i2
    subst i1
    exact cvi_1 m t d 1 x s g _ k B w hT c1 c2 rfl _ _ (fun W h=>crd_v 1 s g hkk W h hb hd hxx)
   ·dsimp only at i1 i2 i3 i4
    subst i1 i2 i3 i4
    have hE:pkE t ⟨2,s,false,0,0⟩=0:=by
     unfold pkE
     rw [if_pos hb]
     exact if_pos (Or.inr (Or.inl ⟨rfl,rfl,rfl,rfl⟩))
    have cP:=fun W h=>pack_any t ⟨2,s,false,0,0⟩ W h (show 0<2^256 by decide)
    rw [hE] at cP
    refine cvi_3 m t d 2 0 s false _ 0 B w hT c1 c2 (Or.inl rfl) _ _ _ (cC 2) ?_
    rw [ite_self]
    exact cP
   ·dsimp only at i1 i2
    subst i1 i2
    have hk':(if k<2^(fN t-1) then k else 0)<2^256:=by split<;>omega
    have hE:pkE t ⟨3,s,false,0,if k<2^(fN t-1) then k else 0⟩=0:=by
     unfold pkE
     rw [if_pos hb]
     refine if_pos (Or.inr (Or.inr ⟨rfl,rfl,?_,Or.inr rfl⟩))
     dsimp only
     split
     ·assumption
     ·exact Nat.two_pow_pos _
    have cP:=fun W h=>pack_any t ⟨3,s,false,0,if k<2^(fN t-1) then k else 0⟩ W h hk'
    rw [hE] at cP
    exact cvi_3 m t d 3 0 s g _ k B w hT c1 c2 (Or.inr rfl) _ _ _ (cC 3) cP
  ·have hc:¬ xiG m t d B:=fun q=>h2 q.2
   rw [if_neg hc,if_neg hc,if_neg hc]
   refine cvi_e2 m t d _ _ _ _ _ _ B w hT c1 (fun W h=>starg_n W h ?_)
   rintro ⟨a1,a2,a3⟩
   refine h2 ⟨?_,a3⟩
   apply Classical.byContradiction
   intro hn
   rcases not_bin hn with ⟨q1,q2⟩|q1
   ·rw [a2] at q2;exact absurd q2 (by decide)
   ·exact q1 a1
 ·rw [show vUE m B=1 from if_neg h1] at c1
  have hc:¬ xiG m t d B:=fun q=>h1 q.1
  rw [if_neg hc,if_neg hc,if_neg hc]
  exact cvi_e1 m t d _ _ _ _ _ _ B w hT c1
end
section
attribute [local irreducible] W4
attribute [local irreducible] Nz Nt
section
variable (c:Int)(s g:Bool)(x:Int)(k:Nat)(w:World)(T:List UInt8)
theorem dwd_0 (h0:k=0)(c31:∀ W,Below w.heap.size w W->CB 101 #[.agg #[.int .i64 c,.bool s,.bool g,.string ⟨#[]⟩,.int .i64 0]] W (.tuple #[.string (B T),.int .i64 0])) :
  CB 47 #[DV c s g x k] w (.string (B T)):=by
 subst h0
 have e1:=eq24 0 0 0 0 0 0 0 0
 rw [decide_eq_true ⟨rfl,rfl,rfl,rfl⟩] at e1
 have hsm:=cell_set_map
 unfold DV
 simp only [W4_zero]
 go_enter Tryz.func47,Tryz.ntmps47
 go_wp2_with (first
  | (go_at_call 101;refine (c31 _ bgo).mono ?_;rintro r w1 ⟨rfl,hb1⟩;obtain ⟨_,_,_,_,hA1,_⟩:=wz w hb1;clear hb1))
 exact bodyPost_ret (v:=.string (B T)) (by simp only [results,Tryz.results47];go_simp) rfl ⟨rfl,bgo⟩
theorem dwd_k (D:List UInt8)(hk:k<2^256)(h0:k≠0)
  (c20:∀ W v,Nt 4 k v W->CB 48 #[v] W (.tuple #[.string (B D),.int .i64 0]))
  (c31:∀ W,Below w.heap.size w W->CB 101 #[.agg #[.int .i64 c,.bool s,.bool g,.string (B D),.int .i64 0]] W (.tuple #[.string (B T),.int .i64 0])) :
  CB 47 #[DV c s g x k] w (.string (B T)):=by
 have e1:=eq24 (W4 k 0) (W4 k 1) (W4 k 2) (W4 k 3) 0 0 0 0
 rw [W4_none hk,decide_eq_false h0] at e1
 clear h0
 have hsm:=cell_set_map
 unfold DV
 go_enter Tryz.func47,Tryz.ntmps47
 go_wp2_with (first
  | (go_at_call 48;refine (c20 _ _ (nt_at hk (by first|(simp;done)|(simp;omega)) (by go_simp) (by go_simp) (by go_simp) (by go_simp))).mono ?_;rintro r w1 ⟨rfl,hb1⟩;obtain ⟨_,_,_,_,hA1,_⟩:=wz w hb1;obtain ⟨_,_⟩:=zf hb1 (w.heap.size+1);clear hb1)
  | (go_at_call 101;refine (c31 _ bgo).mono ?_;rintro r w2 ⟨rfl,hb2⟩;obtain ⟨_,_,_,_,hA2,_⟩:=wz w hb2;obtain ⟨_,_⟩:=zf hb2 (w.heap.size+1);clear hb2))
 exact bodyPost_ret (v:=.string (B T)) (by simp only [results,Tryz.results47];go_simp) rfl ⟨rfl,bgo⟩
end
end
section
attribute [local irreducible] W4 Nz Nt
section
variable (n:Int)(Bp:Nat)(c:Int)(s g ok:Bool)(x:Int)(k:Nat)(w:World)(hT:Tab w)
include hT
theorem dwx_e (E:Int)(hE:(E != 0)=true)(c21:∀ W,Tab W->CB 39 #[.int .i64 n,A4 Bp] W (.tuple #[DV c s g x k,.bool ok,.int .i64 E])) :
  CB 22 #[.int .i64 n,A4 Bp] w (.tuple #[.string (B []),.int .i64 E]):=by
 have hsm:=cell_set_map
 unfold DV A4 at *
 go_enter Tryz.func22,Tryz.ntmps22
 go_wp2_with (go_at_call 39;refine (c21 _ (hT.go bgo)).mono ?_;rintro r w1 ⟨rfl,hb1⟩;obtain ⟨_,_,_,_,hA1,_⟩:=wz w hb1;clear hb1)
 exact bodyPost_ret (v:=.tuple #[.string (B []),.int .i64 E]) (by simp only [results,Tryz.results22];go_simp;rfl) rfl ⟨rfl,bgo⟩
variable (hT10:Tb10 w)(c21:∀ W,Tab W->CB 39 #[.int .i64 n,A4 Bp] W (.tuple #[DV c s g x k,.bool ok,.int .i64 0]))
include hT10 c21
theorem dwx_o (hc:(c != 1)=true)(T:List UInt8)(c28:∀ W,Tb10 W->CB 47 #[DV c s g x k] W (.string (B T))) :
  CB 22 #[.int .i64 n,A4 Bp] w (.tuple #[.string (B T),.int .i64 0]):=by
 have hsm:=cell_set_map
 unfold DV A4 at *
 go_enter Tryz.func22,Tryz.ntmps22
 go_wp2_with (first
  | (go_at_call 39;refine (c21 _ (hT.go bgo)).mono ?_;rintro r w1 ⟨rfl,hb1⟩;obtain ⟨_,_,_,_,hA1,_⟩:=wz w hb1;clear hb1)
  | (go_at_call 47;refine (c28 _ (hT10.next bgo)).mono ?_;rintro r w2 ⟨rfl,hb2⟩;obtain ⟨_,_,_,_,hA2,_⟩:=wz w hb2;obtain ⟨_,_⟩:=zf hb2 w1.heap.size;clear hb2))
 exact bodyPost_ret (v:=.tuple #[.string (B T),.int .i64 0]) (by simp only [results,Tryz.results22];go_simp) rfl ⟨rfl,bgo⟩
variable (hc:c=1)(hk:k<2^256)(hx:-10000<=x/\x<=10000)(D:List UInt8)(hD:D.length<=660)(T:List UInt8)(hTl:T.length<=4000)
 (c20:∀ W v,Nt 4 k v W->CB 48 #[v] W (.tuple #[.string (B D),.int .i64 0]))
 (c29:∀ W,Tb10 W->CB 46 #[.string (B D),.int .i64 (x+((B D).size:Int)-1)] W (.string (B T)))
include hc hk hx hD hTl c20 c29
theorem dwx_f (hs:s=false) :
  CB 22 #[.int .i64 n,A4 Bp] w (.tuple #[.string (B T),.int .i64 0]):=by
 subst hc hs
 have hsz:((B D).size:Int)<=660:=by rw [B_size];omega
 clear hD
 have hsm:=cell_set_map
 unfold DV A4 at *
 go_enter Tryz.func22,Tryz.ntmps22
 go_wp2_with (first
  | (go_at_call 39;refine (c21 _ (hT.go bgo)).mono ?_;rintro r w1 ⟨rfl,hb1⟩;obtain ⟨_,_,_,_,hA1,_⟩:=wz w hb1;clear hb1)
  | (go_at_call 48;refine (c20 _ _ (nt_at hk (by first|(simp;done)|(simp;omega)) (by go_simp) (by go_simp) (by go_simp) (by go_simp))).mono ?_;rintro r w2 ⟨rfl,hb2⟩;obtain ⟨_,_,_,_,hA2,_⟩:=wz w hb2;obtain ⟨_,_⟩:=zf hb2 w1.heap.size;clear hb2)
  | (go_at_call 46;refine (c29 _ (hT10.next bgo)).mono ?_;rintro r w3 ⟨rfl,hb3⟩;obtain ⟨_,_,_,_,hA3,_⟩:=wz w hb3;obtain ⟨_,_⟩:=zf hb3 w1.heap.size;clear hb3))
 exact bodyPost_ret (v:=.tuple #[.string (B T),.int .i64 0]) (by simp only [results,Tryz.results22];go_simp) rfl ⟨rfl,bgo⟩
theorem dwx_t (hs:s=true) :
  CB 22 #[.int .i64 n,A4 Bp] w (.tuple #[.string (B (45::T)),.int .i64 0]):=by
 subst hc hs
 have hsz:((B D).size:Int)<=660:=by rw [B_size];omega
 have hst:((B T).size:Int)<=4000:=by rw [B_size];omega
 have eB:(⟨#[45]⟩:ByteArray)++B T=B (45::T):=B_app [45] T
 rw [← eB]
 clear hD hTl eB
 have hsm:=cell_set_map
 unfold DV A4 at *
 go_enter Tryz.func22,Tryz.ntmps22
 go_wp2_with (first
  | (go_at_call 39;refine (c21 _ (hT.go bgo)).mono ?_;rintro r w1 ⟨rfl,hb1⟩;obtain ⟨_,_,_,_,hA1,_⟩:=wz w hb1;clear hb1)
  | (go_at_call 48;refine (c20 _ _ (nt_at hk (by first|(simp;done)|(simp;omega)) (by go_simp) (by go_simp) (by go_simp) (by go_simp))).mono ?_;rintro r w2 ⟨rfl,hb2⟩;obtain ⟨_,_,_,_,hA2,_⟩:=wz w hb2;obtain ⟨_,_⟩:=zf hb2 w1.heap.size;clear hb2)
  | (go_at_call 46;refine (c29 _ (hT10.next bgo)).mono ?_;rintro r w3 ⟨rfl,hb3⟩;obtain ⟨_,_,_,_,hA3,_⟩:=wz w hb3;obtain ⟨_,_⟩:=zf hb3 w1.heap.size;clear hb3))
 exact bodyPost_ret (v:=.tuple #[.string ((⟨#[45]⟩:ByteArray)++B T),.int .i64 0]) (by simp only [results,Tryz.results22];go_simp) rfl ⟨rfl,bgo⟩
end
end
theorem ndig_z {K:Nat}{v:Value}{w:World}(hK:K<=1000)(h:Nt K 0 v w):CB 48 #[v] w (.tuple #[.string (B [48]),.int .i64 0]):=by
 obtain ⟨a,n,c,z,rfl,hn,hN,hz⟩:=h
 have hle:=sizeL_le z n
 refine (ndigits_any a n c z w (by omega) hN (by omega)).mono fun r w' ⟨L,hL,he,hB⟩=>⟨?_,hB⟩
 rw [he,hz] at *
 rw [decL_more (L':=0) (by decide) hL (by decide)]
 rfl
theorem ndig_wt {K k:Nat}{v:Value}{w:World}(hK:K<=1000)(hk:k<2^256)(h:Nt K k v w):CB 48 #[v] w (.tuple #[.string (B (wtD k)),.int .i64 0]):=by
 unfold wtD
 by_cases h0:k=0
 ·rw [if_pos h0]
  subst h0
  exact ndig_z hK h
 ·rw [if_neg h0]
  exact ndig_v hK hk h0 h
theorem jn_word {f:DF}(hf:f.ok){v:Dat}(h:vI f v)(hc:¬ v.c=1):jnP ⟨v.c,v.s,v.g,dcL v.k,0⟩:=by
 obtain ⟨h1,h2⟩:=xt_cut hf h
 obtain ⟨f1,f2,f3⟩:=dcL_facts (vI_k hf h)
 unfold xtT xtP at h1
 rw [if_neg hc,if_neg hc] at h1
 exact ⟨by show (dcL v.k).length<=4000;omega,h1⟩
theorem dword {f:DF}(hf:f.ok){v:Dat}(h:vI f v)(hc:¬ v.c=1)(w:World)(hT10:Tb10 w) :
  CB 47 #[v.v] w (.string (B (xtT v))):=by
 have hk:=vI_k hf h
 have hj:=jn_word hf h hc
 have c31:=fun W (hb:Below w.heap.size w W)=>join_y ⟨v.c,v.s,v.g,dcL v.k,0⟩ W (hT10.next hb) ⟨by show (-9223372036854775808:Int)<=0;decide,by show (0:Int)<=9223372036854775807;decide⟩ hj
 have e:xtT v=texT v.c v.s v.g (dcL v.k) 0:=if_neg hc
 rw [e]
 obtain ⟨c,s,g,x,k⟩:=v
 dsimp only at *
 by_cases h0:k=0
 ·have ed:dcL k=[]:=by rw [h0];kernel_rfl
  rw [ed] at c31 ⊢
  exact dwd_0 c s g x k w _ h0 c31
 ·exact dwd_k c s g x k w _ (dcL k) hk h0 (fun W v hv=>ndig_v (by decide) hk h0 hv) c31
theorem dwr16 (n:Int)(Bp:Nat)(w:World)(hB:Bp<2^256)(hT:Tab w)(hT10:Tb10 w) :
  CB 22 #[.int .i64 n,A4 Bp] w (.tuple #[.string (B (dwT n Bp)),.int .i64 (vUE n Bp)]):=by
 have c21:=fun W hW=>dunpk14 n Bp hB W hW
 have hk:=vUD_256 n Bp
 unfold dwT
 by_cases hg:goodD n Bp
 ·have e1:vUE n Bp=0:=if_pos hg
  have e2:vUD n Bp=vM (fD n) Bp:=if_pos hg
  rw [if_pos hg,e1]
  rw [e1] at c21
  have hi:=vM_is (fD_ok n) Bp
  rw [← e2] at hi ⊢
  obtain ⟨m0,m1,l0,l1,lm,j0,j1⟩:=ok_m (fD_ok n)
  generalize vUD n Bp=v at *
  by_cases hc:v.c=1
  ·have hx:-10000<=v.x/\v.x<=10000:=by
    rcases hi with ⟨_,_,_,a,b⟩|⟨a,_⟩|⟨a,_⟩
    ·unfold DF.m at *
     omega
    ·rw [hc] at a;exact absurd a (by decide)
    ·rw [hc] at a;exact absurd a (by decide)
   have eT:xtT v=sgL v.s++unT (wtD v.k) (v.x+(wtD v.k).length-1):=if_pos hc
   rw [eT]
   have hl:1<=(wtD v.k).length/\(wtD v.k).length<=660:=by
    unfold wtD
    by_cases h0:v.k=0
    ·rw [if_pos h0];decide
    ·rw [if_neg h0]
     exact ⟨List.length_pos_iff.2 (dcL_ne h0 hk),(dcL_facts hk).2.2⟩
   have hu:=unT_brief (D:=wtD v.k) (e:=v.x+(wtD v.k).length-1) (by omega)
   have c20:=fun W u (h:Nt 4 v.k u W)=>ndig_wt (by decide) hk h
   have c29:=fun W hW=>ltext_v (wtD v.k) (v.x+(wtD v.k).length-1) W hW (by omega) hl.1 (by omega)
   rw [show ((wtD v.k).length:Int)=((B (wtD v.k)).size:Int) by rw [B_size]] at c29 hu ⊢
   obtain ⟨c,s,g,x,k⟩:=v
   dsimp only at *
   cases s
   ·exact dwx_f n Bp c false g _ x k w hT hT10 c21 hc hk hx (wtD k) hl.2 (unT (wtD k) (x+((B (wtD k)).size:Int)-1)) (by omega) c20 c29 rfl
   ·exact dwx_t n Bp c true g _ x k w hT hT10 c21 hc hk hx (wtD k) hl.2 (unT (wtD k) (x+((B (wtD k)).size:Int)-1)) (by omega) c20 c29 rfl
  ·have c28:=fun W hW=>dword (fD_ok n) hi hc W hW
   obtain ⟨c,s,g,x,k⟩:=v
   exact dwx_o n Bp c s g _ x k w hT hT10 c21 (by simpa using hc) _ c28
 ·have e1:vUE n Bp=1:=if_neg hg
  rw [if_neg hg,e1]
  rw [e1] at c21
  exact dwx_e n Bp _ _ _ _ _ _ w hT 1 (by decide) c21
def TTb (w:World):Prop:=Tab w/\Tb10 w
theorem dtxC:DtxC TTb where
 next:=fun w w' hT hb=>⟨hT.1.go hb,hT.2.next hb⟩
 t10:=fun w hT=>hT.2
 wr:=fun n Bp W hB hT=>dwr16 n Bp W hB hT.1 hT.2
theorem crnB:CrnC TTb:=⟨dtxC.next,fun m t d Bp W hB hT=>crn_v m t d Bp W hT.1 hB⟩
theorem croB:CroC TTb:=⟨dtxC.next,fun m t d Bp W hB hT=>cro19_v m t d Bp W hT.1 hB⟩
section
attribute [local irreducible] W4
section
variable (TT:World->Prop)(hTT:∀ w w',TT w->Below w.heap.size w w'->TT w')(w:World)(hT:TT w)
 (c8:∀ W,TT W->CB 9 #[] W (.bool true))
variable (m t d:Int)(Bp:Nat)
include hTT hT c8
variable (c15:∀ W,CB 12 #[.int .i64 m,A4 Bp] W (.bool true))
 (c14:∀ W,CQ 15 #[.int .i64 t] W (.bool true))
 (c10:∀ W,CQ 16 #[.int .i64 d] W (.bool true))
include c15 c14 c10
theorem fx19_o (C:Nat)(F:Int)(hF:(F != 8)=true)
  (c12:∀ W,TT W->CB 10 #[.int .i64 m,.int .i64 t,.int .i64 d,A4 Bp] W (.tuple #[A4 C,.int .i64 F,.int .i64 0])) :
  CB 6 #[.int .i64 m,.int .i64 t,.int .i64 d,A4 Bp] w (.bool true):=by
 have hsm:=cell_set_map
 unfold A4 at *
 go_enter Tryz.func6,Tryz.ntmps6
 go_wp2_with (first
  | (go_at_call 9;refine (c8 _ (hTT _ _ hT bgo)).mono ?_;rintro r w1 ⟨rfl,hb1⟩;obtain ⟨_,_,_,_,hA1,_⟩:=wz w hb1;clear hb1)
  | (go_at_call 12;refine (c15 _).mono ?_;rintro r w2 ⟨rfl,hb2⟩;obtain ⟨_,_,_,_,hA2,_⟩:=wz w hb2;clear hb2)
  | (go_at_call 15;refine (c14 _).mono ?_;rintro r w3 ⟨rfl,rfl⟩)
  | (go_at_call 16;refine (c10 _).mono ?_;rintro r w3 ⟨rfl,rfl⟩)
  | (go_at_call 10;refine (c12 _ (hTT _ _ hT bgo)).mono ?_;rintro r w4 ⟨rfl,hb4⟩;obtain ⟨_,_,_,_,hA4,_⟩:=wz w hb4;clear hb4))
 go_ret
 exact ⟨by first|rfl|simp,bgo⟩
theorem fx19_y (C:Nat)(T:ByteArray)(nm:ByteArray)(wd pr ex le mo pa:Int)(dn:Bool)
  (c12:∀ W,TT W->CB 10 #[.int .i64 m,.int .i64 t,.int .i64 d,A4 Bp] W (.tuple #[A4 C,.int .i64 8,.int .i64 0]))
  (c19:∀ W,CB 20 #[.int .i64 t] W (.tuple #[IDec t nm wd pr ex le mo pa dn,.int .i64 0]))
  (c50:∀ W,TT W->CB 21 #[.int .i64 m,.int .i64 d,.int .i64 pr,A4 Bp] W (.tuple #[.string T,.bool true,.int .i64 0]))
  (c51:∀ W,TT W->CB 22 #[.int .i64 t,A4 C] W (.tuple #[.string T,.int .i64 0])) :
  CB 6 #[.int .i64 m,.int .i64 t,.int .i64 d,A4 Bp] w (.bool true):=by
 have hsm:=cell_set_map
 unfold A4 at *
 unfold IDec at c19
 go_enter Tryz.func6,Tryz.ntmps6
 go_wp2_with (first
  | (go_at_call 9;refine (c8 _ (hTT _ _ hT bgo)).mono ?_;rintro r w1 ⟨rfl,hb1⟩;obtain ⟨_,_,_,_,hA1,_⟩:=wz w hb1;clear hb1)
  | (go_at_call 12;refine (c15 _).mono ?_;rintro r w2 ⟨rfl,hb2⟩;obtain ⟨_,_,_,_,hA2,_⟩:=wz w hb2;clear hb2)
  | (go_at_call 15;refine (c14 _).mono ?_;rintro r w3 ⟨rfl,rfl⟩)
  | (go_at_call 16;refine (c10 _).mono ?_;rintro r w3 ⟨rfl,rfl⟩)
  | (go_at_call 10;refine (c12 _ (hTT _ _ hT bgo)).mono ?_;rintro r w4 ⟨rfl,hb4⟩;obtain ⟨_,_,_,_,hA4,_⟩:=wz w hb4;clear hb4)
  | (go_at_call 20;refine (c19 _).mono ?_;rintro r w5 ⟨rfl,hb5⟩;obtain ⟨_,_,_,_,hA5,_⟩:=wz w hb5;obtain ⟨_,_⟩:=zf hb5 w4.heap.size;clear hb5)
  | (go_at_call 21;refine (c50 _ (hTT _ _ hT bgo)).mono ?_;rintro r w6 ⟨rfl,hb6⟩;obtain ⟨_,_,_,_,hA6,_⟩:=wz w hb6;obtain ⟨_,_⟩:=zf hb6 w4.heap.size;obtain ⟨_,_⟩:=zf hb6 w5.heap.size;clear hb6)
  | (go_at_call 22;refine (c51 _ (hTT _ _ hT bgo)).mono ?_;rintro r w7 ⟨rfl,hb7⟩;obtain ⟨_,_,_,_,hA7,_⟩:=wz w hb7;obtain ⟨_,_⟩:=zf hb7 w4.heap.size;obtain ⟨_,_⟩:=zf hb7 w5.heap.size;clear hb7))
 go_ret
 exact ⟨by first|rfl|simp,bgo⟩
end
section
variable {TT:World->Prop}(h:CroC TT)(hD:DtxC TT)(hU:∀ W,TT W->Tab W)(m t d:Int)(Bp:Nat)(w:World)(hT:TT w)(hB:Bp<2^256)
include h hD hU hT hB
theorem double19_v (hN:CrnC TT)(p:Bool):CB 4 #[.int .i64 m,A4 Bp,.bool p] w (.bool true):=by
 have c8:=fun W hW=>awake19 h hD W hW
 have c15:=fun W=>rgood_any m Bp hB W
 by_cases h1:goodN m Bp
 ·rw [decide_eq_true h1] at c15
  by_cases h4:4<m
  ·exact db19_n TT h.next w hT c8 m Bp p true (Or.inr ⟨rfl,h4⟩) c15
  ·have c40:=fun W hW=>unpack_any m Bp W (hU W hW) hB
   rw [show unE m Bp=0 from if_pos h1] at c40
   by_cases hc:(unD m Bp).c=3
   ·exact db19_3 TT h.next w hT c8 m Bp p h4 _ _ _ _ _ hc c15 c40
   ·have ht:decN (if p then 9 else 12):=by cases p<;>decide
    have hj:(fD (if p then 9 else 12)).j=11/\(fD (if p then 9 else 12)).l=-6176/\(fD (if p then 9 else 12)).w=12:=by cases p<;>decide
    have hg:xoG m (if p then 9 else 12) 0 Bp:=⟨h1,ht,by decide⟩
    obtain ⟨i1,i2,i3,i4,i5⟩:=xo_got hg
    have hx:xiG (if p then 9 else 12) m 0 (xoV m (if p then 9 else 12) 0 Bp):=⟨i3,h1.1,by decide⟩
    have c9:=fun W hW=>h.cv m (if p then 9 else 12) 0 Bp W hB hW
    have c12:=fun W hW=>hN.cv (if p then 9 else 12) m 0 (xoV m (if p then 9 else 12) 0 Bp) W i4 hW
    rw [show xoE m (if p then 9 else 12) 0 Bp=0 from if_pos hg] at c9
    rw [show xiE (if p then 9 else 12) m 0 (xoV m (if p then 9 else 12) 0 Bp)=0 from if_pos hx,show xiV (if p then 9 else 12) m 0 (xoV m (if p then 9 else 12) 0 Bp)=ciV m 0 (vM (fD (if p then 9 else 12)) (xoV m (if p then 9 else 12) 0 Bp)) from if_pos hx,i5,
     co_dbl h1.1 (by omega) ht hj (und_is h1) hc,(back_un h1).2] at c12
    exact db19_y TT h.next w hT c8 m Bp p h4 _ _ _ _ _ _ _ _ (by simpa using hc) c15 c40 c9 c12
 ·rw [decide_eq_false h1] at c15
  exact db19_n TT h.next w hT c8 m Bp p false (Or.inl rfl) c15
theorem fixed19_v:CB 6 #[.int .i64 m,.int .i64 t,.int .i64 d,A4 Bp] w (.bool true):=by
 have c8:=fun W hW=>awake19 h hD W hW
 have c15:=fun W=>rgood_any m Bp hB W
 have c14:=fun W=>rdecimal_any t W
 have c10:=fun W=>rdir_any d W
 by_cases hg:xoG m t d Bp
 ·obtain ⟨h1,h2,h3⟩:=id hg
  rw [decide_eq_true h1] at c15
  rw [decide_eq_true h2] at c14
  rw [decide_eq_true h3] at c10
  have c12:=fun W hW=>h.cv m t d Bp W hB hW
  rw [show xoE m t d Bp=0 from if_pos hg,show xoF m t d Bp=coF t d (unD m Bp) from if_pos hg] at c12
  by_cases hF:coF t d (unD m Bp)=8
  ·rw [hF] at c12
   obtain ⟨f1,f2,f3,f4⟩:=co_fixed h2 h3 h1.1 (und_is h1) hF
   obtain ⟨i1,i2,i3,i4,i5⟩:=xo_got hg
   obtain ⟨m0,m1,l0,l1,lm,j0,j1⟩:=ok_m (fD_ok t)
   have c50:=fun W hW=>fwrite_k hB h3 h1 W (hU W hW) (m:=3*(fD t).j+1) (by omega) (by omega) (hD.t10 W hW) f1 f2 rfl
   have c51:=fun W hW=>hD.wr t (xoV m t d Bp) W i4 hW
   rw [show vUE t (xoV m t d Bp)=0 from if_pos i3,show dwT t (xoV m t d Bp)=xtT (vM (fD t) (xoV m t d Bp)) from if_pos i3,i5,f4] at c51
   rw [f3,show ((3*(fD t).j+1:Nat):Int)=3*((fD t).j:Int)+1 by omega] at c50
   exact fx19_y TT h.next w hT c8 m t d Bp c15 c14 c10 _ _ _ _ _ _ _ _ _ _ c12 (fun W=>rof_dec h2 W) c50 c51
  ·exact fx19_o TT h.next w hT c8 m t d Bp c15 c14 c10 _ _ (by simpa using hF) c12
 ·exact fx19_n TT h.next w hT c8 m t d Bp _ _ _ (xo_not hg) c15 c14 c10
end
end
theorem crossoutDouble_any (m:Int)(Bp:Nat)(p:Bool)(w:World)(hT:Tab w)(hT10:Tb10 w)(hB:Bp<2^256) :
  CB 4 #[.int .i64 m,A4 Bp,.bool p] w (.bool true) :=
 double19_v croB dtxC (fun W h=>h.1) m Bp w ⟨hT,hT10⟩ hB crnB p
theorem crossoutFixed_any (m t d:Int)(Bp:Nat)(w:World)(hT:Tab w)(hT10:Tb10 w)(hB:Bp<2^256) :
  CB 6 #[.int .i64 m,.int .i64 t,.int .i64 d,A4 Bp] w (.bool true) :=
 fixed19_v croB dtxC (fun W h=>h.1) m t d Bp w ⟨hT,hT10⟩ hB
end Go.Proofs.YtahfkpjhlbiamaaGreatDoor
