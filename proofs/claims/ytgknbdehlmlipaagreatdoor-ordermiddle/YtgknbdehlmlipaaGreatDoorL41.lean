/-
  Texts that the proof leans on.
-/
import Derived.Test.YtgknbdehlmlipaaGreatDoorL37
import Derived.Test.YtgknbdehlmlipaaGreatDoorL2
import Derived.Test.YtgknbdehlmlipaaGreatDoorL30
import Derived.Test.YtgknbdehlmlipaaGreatDoorL31
import Derived.Test.YtgknbdehlmlipaaGreatDoorL24
import Derived.Test.YtgknbdehlmlipaaGreatDoorL36
import Derived.Test.YtgknbdehlmlipaaGreatDoorL23
import Derived.Test.YtgknbdehlmlipaaGreatDoorL18
import Derived.Test.YtgknbdehlmlipaaGreatDoorL22
import Derived.Test.YtgknbdehlmlipaaGreatDoorL32
import Derived.Test.YtgknbdehlmlipaaGreatDoorL33
set_option maxHeartbeats 8000000
set_option linter.unusedVariables false
set_option linter.unusedSectionVars false
set_option linter.unusedSimpArgs false
set_option maxRecDepth 20000
namespace Go.Proofs.YtgknbdehlmlipaaGreatDoor
open Go.RowKit
section
def vPV (n:Int)(d:Dat):Nat:=if decN n/\vI (fD n) d then vP (fD n) d else 0
def vPE (n:Int)(d:Dat):Int:=if decN n then (if vI (fD n) d then 0 else 3) else 1
theorem or_lay (y b r:Nat)(hb:b<2^r)(h:y*2^r+b<18446744073709551616):bits .or .u64 ((y*2^r:Nat):Int) (b:Int)=((y*2^r+b:Nat):Int):=by
 have e:=orW_eq ((y*2^r:Nat):Int) (b:Int) (by omega) (by omega)
 unfold orW at e
 rw [e,Int.toNat_natCast,Int.toNat_natCast,Nat.mul_comm y,← Nat.two_pow_add_eq_or_of_lt hb]
theorem and_lay (y r:Nat)(hr:r<64)(hy:y<18446744073709551616):bits .and .u64 (y:Int) ((2^r:Nat)-1:Int)=((y%2^r:Nat):Int):=by
 have e:=and_mask (y:=(y:Int)) (r:=r) (by omega) hr
 rw [← powCast] at e
 rw [e,Int.natCast_emod]
theorem lay_z (A at_ K:Nat)(v:Value)(w:World)(hK:K<900)(ha:at_<=600)(h:NV K A v w) :
  CB 63 #[Z4,v,.int .i64 at_] w (A4 (A*2^at_)):=by
 have:=lay_any 0 A at_ K v w (by decide) hK ha h
 rw [Z4_eq,Nat.zero_add] at this
 exact this
section
variable (n:Int)(C:Int)(s g:Bool)(x:Int)(k:Nat)(w:World)
theorem vpk_n (c35:∀ W,CQ 60 #[.int .i64 n] W (.bool false)) :
  CB 27 #[.int .i64 n,DV C s g x k] w (.tuple #[Z4,.int .i64 1]):=by
 have hsm:=cell_set_map
 go_enter Tryz.func27,Tryz.ntmps27
 go_wp2_with (go_at_call 60;refine (c35 _).mono ?_;rintro r w0 ⟨rfl,rfl⟩)
 exact bodyPost_ret (v:=.tuple #[Z4,.int .i64 1]) (by simp only [results,Tryz.results27];go_simp) rfl ⟨rfl,bgo⟩
theorem vpk_i (nm:ByteArray)(wd pr ex le mo pa:Int)(dn:Bool)
  (c35:∀ W,CQ 60 #[.int .i64 n] W (.bool true))
  (cO:∀ W,CB 20 #[.int .i64 n] W (.tuple #[IDec n nm wd pr ex le mo pa dn,.int .i64 0]))
  (cI:∀ W,CB 61 #[IDec n nm wd pr ex le mo pa dn,DV C s g x k] W (.bool false)) :
  CB 27 #[.int .i64 n,DV C s g x k] w (.tuple #[Z4,.int .i64 3]):=by
 have hsm:=cell_set_map
 go_enter Tryz.func27,Tryz.ntmps27
 go_wp2_with (first
  | (go_at_call 60;refine (c35 _).mono ?_;rintro r w0 ⟨rfl,rfl⟩)
  | (go_at_call 20;refine (cO _).mono ?_;rintro x w1 ⟨rfl,hb1⟩;obtain ⟨_,_,_,_,hA1,_⟩:=wz w hb1;obtain ⟨_,_⟩:=zf hb1 (w.heap.size+1);clear hb1)
  | (go_at_call 61;refine (cI _).mono ?_;rintro x w2 ⟨rfl,hb2⟩;obtain ⟨_,_,_,_,hA2,_⟩:=wz w hb2;obtain ⟨_,_⟩:=zf hb2 (w.heap.size+1);obtain ⟨_,_⟩:=zf hb2 w1.heap.size;clear hb2))
 exact bodyPost_ret (v:=.tuple #[Z4,.int .i64 3]) (by simp only [results,Tryz.results27];go_simp) rfl ⟨rfl,bgo⟩
end
structure VB (n:Int) (C:Int) (s g:Bool) (x:Int) (k:Nat):Prop where
 cD:∀ W,CQ 60 #[.int .i64 n] W (.bool true)
 cO:∀ W,CB 20 #[.int .i64 n] W (.tuple #[IDec n (nameN n) (((fD n).t+((fD n).w+6):Nat):Int) (3*((fD n).j:Int)+1) (expN n) (fD n).l ((fD n).l+3*2^(fD n).w-1) (3*((fD n).j:Int)) (fD n).dn,.int .i64 0])
 cI:∀ W,CB 61 #[IDec n (nameN n) (((fD n).t+((fD n).w+6):Nat):Int) (3*((fD n).j:Int)+1) (expN n) (fD n).l ((fD n).l+3*2^(fD n).w-1) (3*((fD n).j:Int)) (fD n).dn,DV C s g x k] W (.bool true)
 cS:∀ W,CB 62 #[IDec n (nameN n) (((fD n).t+((fD n).w+6):Nat):Int) (3*((fD n).j:Int)+1) (expN n) (fD n).l ((fD n).l+3*2^(fD n).w-1) (3*((fD n).j:Int)) (fD n).dn] W (.tuple #[.int .i64 (((fD n).w:Int)+5),.int .i64 ((fD n).t:Int),.int .i64 ((fD n).j:Int)])
 cN:∀ W,Calls Tryz.prog 48 #[A4 k] W fun r w'=>∃ g n cap,r=.returned (.slice (some ⟨g,0,none⟩) n cap)/\W.heap.size<g/\NT 4 k (.slice (some ⟨g,0,none⟩) n cap) w'/\Below W.heap.size W w'
theorem vb_of {n:Int}(h:decN n){d:Dat}(hk:d.k<2^256)(hi:vI (fD n) d):VB n d.c d.s d.g d.x d.k:=by
 refine ⟨fun W=>?_,fun W=>rof_dec h W,fun W=>?_,fun W=>dec_shape h _ _ _ _ _ _ W,fun W=>rnat13 _ W hk⟩
 ·have:=rdecimal_any n W
  rw [decide_eq_true h] at this
  exact this
 ·have:=ris14 (fD n) (fD_ok n) n (nameN n) (((fD n).t+((fD n).w+6):Nat):Int) (expN n) (fD n).dn d W hk
  rw [decide_eq_true hi] at this
  exact this
theorem ok_bounds {f:DF}(h:f.ok):6<=f.w/\f.w<=12/\20<=f.t/\f.t<=110/\2<=f.j/\f.j<=11/\f.t%64≠0/\-6176<=f.l/\f.l<=-101/\64<=2^f.w/\2^f.w<=4096:=by
 rcases h with ⟨h1,h2,h3,h4⟩|⟨h1,h2,h3,h4⟩|⟨h1,h2,h3,h4⟩<;>rw [h1,h2,h3,h4]<;>decide
theorem lay_to {B A at_ K R:Nat}{T:Int}{v:Value}{w:World}(hB:B<2^256)(hK:K<900)(ha:at_<=600)(h:NV K A v w)(hT:(at_:Int)=T)(hR:B+A*2^at_=R) :
  CB 63 #[A4 B,v,.int .i64 T] w (A4 R):=by
 subst hT hR
 exact lay_any B A at_ K v w hB hK ha h
theorem layz_to {A at_ K R:Nat}{T:Int}{v:Value}{w:World}(hK:K<900)(ha:at_<=600)(h:NV K A v w)(hT:(at_:Int)=T)(hR:A*2^at_=R) :
  CB 63 #[Z4,v,.int .i64 T] w (A4 R):=by
 subst hT hR
 exact lay_z A at_ K v w hK ha h
theorem p_200 {a:Nat}(h:a<=200):2^a<2^220:=Nat.pow_lt_pow_right (by decide) (by omega)
theorem vpk_inf {n:Int}(h:decN n){s:Bool}(w:World)(hi:vI (fD n) ⟨2,s,false,0,0⟩) :
  CB 27 #[.int .i64 n,DV 2 s false 0 0] w (.tuple #[A4 (vP (fD n) ⟨2,s,false,0,0⟩),.int .i64 0]):=by
 have B:=vb_of h (d:=⟨2,s,false,0,0⟩) (show (0:Nat)<2^256 by decide) hi
 obtain ⟨w6,w12,t20,t110,j2,j11,t64,l0,l1,H0,H1⟩:=ok_bounds (fD_ok n)
 have e:vP (fD n) ⟨2,s,false,0,0⟩=(if s then 2^((fD n).t+((fD n).w+5)) else 0)+30*2^((fD n).t+(fD n).w):=by
  unfold vP vPG vPR
  simp only [if_true,Nat.add_zero]
  rw [Nat.mul_assoc,← Nat.pow_add,Nat.add_comm (fD n).w (fD n).t]
 rw [e]
 have p1:=p_200 (a:=(fD n).t+((fD n).w+5)) (by omega)
 have p2:(2:Nat)^220<2^256:=by decide
 cases s
 ·exact vpk2_f n _ _ _ _ _ _ _ _ _ _ 0 0 w B.cD (by omega) (by omega) (by omega) (by omega) (by omega) (by omega) B.cN _ false _ B.cO B.cI B.cS (fun W v hv=>layz_to (at_:=(fD n).t+(fD n).w) (by decide) (by omega) hv (by omega) (by simp))
 ·exact vpk2_t n _ _ _ _ _ _ _ _ _ _ 0 0 (2^((fD n).t+((fD n).w+5))) w B.cD (by omega) (by omega) (by omega) (by omega) (by omega) (by omega) B.cN _ false _ B.cO B.cI B.cS (fun W v hv=>layz_to (at_:=(fD n).t+((fD n).w+5)) (by decide) (by omega) hv (by omega) (by omega)) (fun W v hv=>lay_to (at_:=(fD n).t+(fD n).w) (by omega) (by decide) (by omega) hv (by omega) (by simp))
theorem vpk_nan {n:Int}(h:decN n){s g:Bool}{k:Nat}(w:World)(hk:k<10^(3*(fD n).j)) :
  CB 27 #[.int .i64 n,DV 3 s g 0 k] w (.tuple #[A4 (vP (fD n) ⟨3,s,g,0,k⟩),.int .i64 0]):=by
 have ho:=fD_ok n
 obtain ⟨w6,w12,t20,t110,j2,j11,t64,l0,l1,H0,H1⟩:=ok_bounds ho
 have p2:(2:Nat)^220<2^256:=by decide
 have hk2:k<2^(fD n).t:=by
  refine Nat.lt_of_lt_of_le hk ?_
  rcases ho with ⟨h1,h2,h3,h4⟩|⟨h1,h2,h3,h4⟩|⟨h1,h2,h3,h4⟩<;>rw [h1,h3]<;>decide
 have pt:=p_200 (a:=(fD n).t) (by omega)
 have p1:=p_200 (a:=(fD n).t+((fD n).w+5)) (by omega)
 have x5:2^((fD n).t+((fD n).w+5))=32*2^((fD n).t+(fD n).w):=by rw [← Nat.add_assoc,Nat.pow_add,Nat.mul_comm]
 have x0:2^((fD n).t+(fD n).w)=2*2^((fD n).t+(fD n).w-1):=by rw [← Nat.pow_succ'];congr 1;omega
 have hpl:dlP (fD n).j k<2^(fD n).t:=by rw [ho.pt];exact dlP_lt _ _
 have hp:dlP (fD n).j k<2^256:=by omega
 have B:=vb_of h (d:=⟨3,s,g,0,k⟩) (show k<2^256 by omega) (Or.inr (Or.inr ⟨rfl,rfl,hk⟩))
 have cP:∀ W,CB 64 #[A4 k,.int .i64 ((fD n).j:Int)] W (.tuple #[A4 (dlP (fD n).j k),.int .i64 0]):=fun W=>by
  have:=rpck_any k ((fD n).j:Int) W (by omega)
  have c1:(0:Int)<=((fD n).j:Int)/\((fD n).j:Int)<=11:=by omega
  rw [ten3] at hk
  unfold dPv dPe at this
  rw [if_pos c1,if_pos c1,Int.toNat_natCast,if_pos hk,if_pos hk] at this
  exact this
 have e:vP (fD n) ⟨3,s,g,0,k⟩=(if s then 2^((fD n).t+((fD n).w+5)) else 0)+31*2^((fD n).t+(fD n).w)+(if g then 2^((fD n).t+(fD n).w-1) else 0)+(if (fD n).dn then dlP (fD n).j k else k):=by
  unfold vP vPG vPR
  simp only [show ¬ (3:Int)=2 by decide,if_false,if_true]
  rw [Nat.add_mul,Nat.mul_assoc,← Nat.pow_add,Nat.add_comm (fD n).w (fD n).t]
  have e2:(if g then 2^((fD n).w-1) else 0)*2^(fD n).t=(if g then 2^((fD n).t+(fD n).w-1) else 0):=by
   cases g
   ·simp
   ·simp only [if_true]
    rw [← Nat.pow_add];congr 1;omega
  rw [e2]
  simp only [Nat.add_assoc]
 rw [e]
 have cO:=B.cO
 have cI:=B.cI
 have cS:=B.cS
 cases hdn:(fD n).dn<;>rw [hdn] at cO cI cS<;>cases s<;>cases g<;>simp only [Bool.false_eq_true,if_false,if_true,Nat.zero_add,Nat.add_zero]
 ·exact vpk3_fff n _ _ _ _ _ _ _ _ _ _ 0 k w B.cD (by omega) (by omega) (by omega) (by omega) (by omega) (by omega) B.cN _ (31*2^((fD n).t+(fD n).w)) cO cI cS (fun W v hv=>layz_to (at_:=(fD n).t+(fD n).w) (by decide) (by omega) hv (by omega) rfl) (fun W v hv=>lay_to (at_:=0) (by omega) (by decide) (by omega) hv rfl (by omega))
 ·exact vpk3_ftf n _ _ _ _ _ _ _ _ _ _ 0 k w B.cD (by omega) (by omega) (by omega) (by omega) (by omega) (by omega) B.cN _ (31*2^((fD n).t+(fD n).w)) (31*2^((fD n).t+(fD n).w)+2^((fD n).t+(fD n).w-1)) cO cI cS (fun W v hv=>layz_to (at_:=(fD n).t+(fD n).w) (by decide) (by omega) hv (by omega) rfl) (fun W v hv=>lay_to (at_:=(fD n).t+(fD n).w-1) (by omega) (by decide) (by omega) hv (by omega) (by omega)) (fun W v hv=>lay_to (at_:=0) (by omega) (by decide) (by omega) hv rfl (by omega))
 ·exact vpk3_tff n _ _ _ _ _ _ _ _ _ _ 0 k (2^((fD n).t+((fD n).w+5))) w B.cD (by omega) (by omega) (by omega) (by omega) (by omega) (by omega) B.cN _ (2^((fD n).t+((fD n).w+5))+31*2^((fD n).t+(fD n).w)) cO cI cS (fun W v hv=>layz_to (at_:=(fD n).t+((fD n).w+5)) (by decide) (by omega) hv (by omega) (by omega)) (fun W v hv=>lay_to (at_:=(fD n).t+(fD n).w) (by omega) (by decide) (by omega) hv (by omega) rfl) (fun W v hv=>lay_to (at_:=0) (by omega) (by decide) (by omega) hv rfl (by omega))
 ·exact vpk3_ttf n _ _ _ _ _ _ _ _ _ _ 0 k (2^((fD n).t+((fD n).w+5))) w B.cD (by omega) (by omega) (by omega) (by omega) (by omega) (by omega) B.cN _ (2^((fD n).t+((fD n).w+5))+31*2^((fD n).t+(fD n).w)) (2^((fD n).t+((fD n).w+5))+31*2^((fD n).t+(fD n).w)+2^((fD n).t+(fD n).w-1)) cO cI cS (fun W v hv=>layz_to (at_:=(fD n).t+((fD n).w+5)) (by decide) (by omega) hv (by omega) (by omega)) (fun W v hv=>lay_to (at_:=(fD n).t+(fD n).w) (by omega) (by decide) (by omega) hv (by omega) rfl) (fun W v hv=>lay_to (at_:=(fD n).t+(fD n).w-1) (by omega) (by decide) (by omega) hv (by omega) (by omega)) (fun W v hv=>lay_to (at_:=0) (by omega) (by decide) (by omega) hv rfl (by omega))
 ·exact vpk3_fft n _ _ _ _ _ _ _ _ _ _ 0 k w B.cD (by omega) (by omega) (by omega) (by omega) (by omega) (by omega) B.cN _ (31*2^((fD n).t+(fD n).w)) (dlP (fD n).j k) cO cI cS (fun W v hv=>layz_to (at_:=(fD n).t+(fD n).w) (by decide) (by omega) hv (by omega) rfl) hp cP (fun W v hv=>lay_to (at_:=0) (by omega) (by decide) (by omega) hv rfl (by omega))
 ·exact vpk3_ftt n _ _ _ _ _ _ _ _ _ _ 0 k w B.cD (by omega) (by omega) (by omega) (by omega) (by omega) (by omega) B.cN _ (31*2^((fD n).t+(fD n).w)) (31*2^((fD n).t+(fD n).w)+2^((fD n).t+(fD n).w-1)) (dlP (fD n).j k) cO cI cS (fun W v hv=>layz_to (at_:=(fD n).t+(fD n).w) (by decide) (by omega) hv (by omega) rfl) (fun W v hv=>lay_to (at_:=(fD n).t+(fD n).w-1) (by omega) (by decide) (by omega) hv (by omega) (by omega)) hp cP (fun W v hv=>lay_to (at_:=0) (by omega) (by decide) (by omega) hv rfl (by omega))
 ·exact vpk3_tft n _ _ _ _ _ _ _ _ _ _ 0 k (2^((fD n).t+((fD n).w+5))) w B.cD (by omega) (by omega) (by omega) (by omega) (by omega) (by omega) B.cN _ (2^((fD n).t+((fD n).w+5))+31*2^((fD n).t+(fD n).w)) (dlP (fD n).j k) cO cI cS (fun W v hv=>layz_to (at_:=(fD n).t+((fD n).w+5)) (by decide) (by omega) hv (by omega) (by omega)) (fun W v hv=>lay_to (at_:=(fD n).t+(fD n).w) (by omega) (by decide) (by omega) hv (by omega) rfl) hp cP (fun W v hv=>lay_to (at_:=0) (by omega) (by decide) (by omega) hv rfl (by omega))
 ·exact vpk3_ttt n _ _ _ _ _ _ _ _ _ _ 0 k (2^((fD n).t+((fD n).w+5))) w B.cD (by omega) (by omega) (by omega) (by omega) (by omega) (by omega) B.cN _ (2^((fD n).t+((fD n).w+5))+31*2^((fD n).t+(fD n).w)) (2^((fD n).t+((fD n).w+5))+31*2^((fD n).t+(fD n).w)+2^((fD n).t+(fD n).w-1)) (dlP (fD n).j k) cO cI cS (fun W v hv=>layz_to (at_:=(fD n).t+((fD n).w+5)) (by decide) (by omega) hv (by omega) (by omega)) (fun W v hv=>lay_to (at_:=(fD n).t+(fD n).w) (by omega) (by decide) (by omega) hv (by omega) rfl) (fun W v hv=>lay_to (at_:=(fD n).t+(fD n).w-1) (by omega) (by decide) (by omega) hv (by omega) (by omega)) hp cP (fun W v hv=>lay_to (at_:=0) (by omega) (by decide) (by omega) hv rfl (by omega))
theorem vpk_dense {n:Int}(h:decN n)(hdn:(fD n).dn=true){s:Bool}{x:Int}{k:Nat}(w:World)(hk:k<10^(3*(fD n).j+1))(hx0:(fD n).l<=x)(hx1:x<=(fD n).l+3*2^(fD n).w-1) :
  CB 27 #[.int .i64 n,DV 1 s false x k] w (.tuple #[A4 (vP (fD n) ⟨1,s,false,x,k⟩),.int .i64 0]):=by
 have ho:=fD_ok n
 obtain ⟨w6,w12,t20,t110,j2,j11,t64,l0,l1,H0,H1⟩:=ok_bounds ho
 have hI:vI (fD n) ⟨1,s,false,x,k⟩:=Or.inl ⟨rfl,rfl,hk,hx0,hx1⟩
 have hPG:=vPG_lt ho hI
 have p2:(2:Nat)^220<2^256:=by decide
 have pt:=p_200 (a:=(fD n).t) (by omega)
 have p1:=p_200 (a:=(fD n).t+((fD n).w+5)) (by omega)
 have hk34:k<2^256:=by
  have e:(10:Nat)^(3*(fD n).j+1)<=10^34:=Nat.pow_le_pow_right (by decide) (by omega)
  have e2:(10:Nat)^34<2^256:=by decide
  omega
 have B:=vb_of h (d:=⟨1,s,false,x,k⟩) hk34 hI
 have cO:=B.cO
 have cI:=B.cI
 have cS:=B.cS
 rw [hdn] at cO cI cS
 have hD:0<(10:Nat)^(3*(fD n).j):=Nat.pow_pos (by decide)
 have ha:k/10^(3*(fD n).j)<=9:=by
  have:k/10^(3*(fD n).j)<10:=by
   rw [Nat.div_lt_iff_lt_mul hD,← Nat.pow_succ']
   exact hk
  omega
 have hr:k%10^(3*(fD n).j)<1000^(fD n).j:=by rw [← ten3];exact Nat.mod_lt _ hD
 have hpl:dlP (fD n).j (k%10^(3*(fD n).j))<2^(fD n).t:=by rw [ho.pt];exact dlP_lt _ _
 have e:vP (fD n) ⟨1,s,false,x,k⟩=(if s then 2^((fD n).t+((fD n).w+5)) else 0)+dlP (fD n).j (k%10^(3*(fD n).j))+vN true (fD n).w (x-(fD n).l).toNat (k/10^(3*(fD n).j))*2^(fD n).t:=by
  unfold vP vPG vPR vQ
  simp only [show ¬ (1:Int)=2 by decide,show ¬ (1:Int)=3 by decide,if_false,hdn,if_true]
  omega
 rw [e]
 have hrr:k%10^(3*(fD n).j)<2^256:=by have:=Nat.mod_le k (10^(3*(fD n).j));omega
 generalize hka:k/10^(3*(fD n).j)=a at *
 generalize hkr:k%10^(3*(fD n).j)=rr at *
 obtain ⟨E,hE⟩:∃ E:Nat,(x-(fD n).l).toNat=E:=⟨_,rfl⟩
 have hEx:x-(fD n).l=(E:Int):=by omega
 have hE3:E<3*2^(fD n).w:=by
  have e3:((3*2^(fD n).w:Nat):Int)=3*2^(fD n).w:=by simp
  omega
 rw [hE]
 have cW:∀ W,CE 26 #[.int .u64 10,.int .i64 (3*((fD n).j:Int))] W (NT 200 (10^(3*(fD n).j))):=fun W=>by
  have:=rpow_nt 10 (3*(fD n).j) W (by decide) (by decide) (by omega)
  rw [show ((3*(fD n).j:Nat):Int)=3*((fD n).j:Int) by omega] at this
  exact this.mono fun r w' ⟨v,e1,e2,e3⟩=>⟨v,e1,e2.more (by omega),e3⟩
 have cV:∀ W vn vd,NT 4 k vn W->NT 200 (10^(3*(fD n).j)) vd W->Calls Tryz.prog 65 #[vn,vd] W fun r w'=>∃ g k cap v,r=.returned (.tuple #[.slice (some ⟨g,0,none⟩) k cap,v])/\W.heap.size<=g/\NV 41000 a (.slice (some ⟨g,0,none⟩) k cap) w'/\NT 41000 rr v w'/\Below W.heap.size W w':=fun W vn vd h1 h2=>by
  have:=roverf_nt (K:=200) (by decide) (h1.more (by decide)) h2 (by omega)
  rw [hka,hkr] at this
  exact this
 have cP:∀ W,CB 64 #[A4 rr,.int .i64 ((fD n).j:Int)] W (.tuple #[A4 (dlP (fD n).j rr),.int .i64 0]):=fun W=>by
  have:=rpck_any rr ((fD n).j:Int) W hrr
  have c1:(0:Int)<=((fD n).j:Int)/\((fD n).j:Int)<=11:=by omega
  unfold dPv dPe at this
  rw [if_pos c1,if_pos c1,Int.toNat_natCast,if_pos hr,if_pos hr] at this
  exact this
 have cM:∀ W v,NV 41000 a v W->CQ 53 #[v] W (.int .i64 (a:Int)):=fun W v hv=>(number_wide hv (by decide) (by omega)).mono fun r w' ⟨e1,e2⟩=>⟨e1,e2.symm⟩
 have hp:dlP (fD n).j rr<2^256:=by omega
 have hQ2:E/2^(fD n).w<=2:=by
  have:E/2^(fD n).w<3:=by rw [Nat.div_lt_iff_lt_mul (Nat.two_pow_pos _)];exact hE3
  omega
 have hLt:E%2^(fD n).w<2^(fD n).w:=Nat.mod_lt _ (Nat.two_pow_pos _)
 have hH:(2:Int)^(fD n).w=((2^(fD n).w:Nat):Int):=(powCast _).symm
 have hL:=and_lay E (fD n).w (by omega) (by omega)
 have hQ:(E:Int)/((2^(fD n).w:Nat):Int)=((E/2^(fD n).w:Nat):Int):=by simp
 have hvn:vN true (fD n).w E a=(if 8<=a then 24+E/2^(fD n).w*2+a%2 else E/2^(fD n).w*8+a)*2^(fD n).w+E%2^(fD n).w:=rfl
 have x5:2^((fD n).t+((fD n).w+5))=32*(2^(fD n).w*2^(fD n).t):=by rw [← Nat.pow_add,show (32:Nat)=2^5 by decide,← Nat.pow_add];congr 1;omega
 have hS:(if s then 2^((fD n).t+((fD n).w+5)) else 0)<2^220:=by split<;>omega
 by_cases h8:8<=a
 ·rw [if_pos h8] at hvn
  have o2:=or_lay 3 (E/2^(fD n).w*2) 3 (by omega) (by omega)
  rw [show ((3*2^3:Nat):Int)=24 by decide,show ((E/2^(fD n).w*2:Nat):Int)=((E/2^(fD n).w:Nat):Int)*2 by omega] at o2
  have o3:bits .and .u64 (a:Int) 1=((a%2:Nat):Int):=and_lay a 1 (by decide) (by omega)
  have o4:=or_lay (12+E/2^(fD n).w) (a%2) 1 (by omega) (by omega)
  rw [show (((12+E/2^(fD n).w)*2^1:Nat):Int)=((3*2^3+E/2^(fD n).w*2:Nat):Int) by omega,show (12+E/2^(fD n).w)*2^1+a%2=24+E/2^(fD n).w*2+a%2 by omega] at o4
  generalize hV:24+E/2^(fD n).w*2+a%2=V at *
  have hV1:V<=31:=by omega
  have hVH:V*2^(fD n).w<=31*4096:=Nat.mul_le_mul hV1 H1
  have o5:=or_lay V (E%2^(fD n).w) (fD n).w hLt (by omega)
  rw [← hvn,Int.natCast_mul] at o5
  generalize hF:vN true (fD n).w E a=Fw at *
  cases s
  ·exact vpk1_fdb n _ _ _ _ _ _ _ _ _ _ x k w B.cD (by omega) (by omega) (by omega) (by omega) (by omega) (by omega) B.cN (E:Int) (fD n).w a _ _ _ hEx (by omega) (by omega) (by omega) (by omega) (by omega) (by omega) (by omega) w12 hH (by omega) (by omega) ha hQ (by omega) (by omega) hL _ (dlP (fD n).j rr) (dlP (fD n).j rr) 200 (10^(3*(fD n).j)) rr Fw _ _ _ _ cO cI cS hp cW cV (fun W v hv=>bits_nv hv.nv) cP cM (fun W v hv=>layz_to (at_:=0) (by decide) (by omega) hv rfl (by omega)) rfl (by omega) o2 o3 o4 (by omega) (by omega) (by rw [← Int.natCast_mul];omega) (by rw [← Int.natCast_mul];omega) o5 (by omega) (fun W v hv=>lay_to (at_:=(fD n).t) (by omega) (by decide) (by omega) hv rfl (by simp))
  ·exact vpk1_tdb n _ _ _ _ _ _ _ _ _ _ x k (2^((fD n).t+((fD n).w+5))) w B.cD (by omega) (by omega) (by omega) (by omega) (by omega) (by omega) B.cN (E:Int) (fD n).w a _ _ _ hEx (by omega) (by omega) (by omega) (by omega) (by omega) (by omega) (by omega) w12 hH (by omega) (by omega) ha hQ (by omega) (by omega) hL _ (2^((fD n).t+((fD n).w+5))+dlP (fD n).j rr) (dlP (fD n).j rr) 200 (10^(3*(fD n).j)) rr Fw _ _ _ _ cO cI cS (fun W v hv=>layz_to (at_:=(fD n).t+((fD n).w+5)) (by decide) (by omega) hv (by omega) (by omega)) hp cW cV (fun W v hv=>bits_nv hv.nv) cP cM (fun W v hv=>lay_to (at_:=0) (by omega) (by decide) (by omega) hv rfl (by omega)) rfl (by omega) o2 o3 o4 (by omega) (by omega) (by rw [← Int.natCast_mul];omega) (by rw [← Int.natCast_mul];omega) o5 (by omega) (fun W v hv=>lay_to (at_:=(fD n).t) (by simp only [if_true] at hS;omega) (by decide) (by omega) hv rfl (by simp))
 ·rw [if_neg h8] at hvn
  have o1:=or_lay (E/2^(fD n).w) a 3 (by omega) (by omega)
  rw [show ((E/2^(fD n).w*2^3:Nat):Int)=((E/2^(fD n).w:Nat):Int)*8 by omega,show E/2^(fD n).w*2^3+a=E/2^(fD n).w*8+a by omega] at o1
  generalize hV:E/2^(fD n).w*8+a=V at *
  have hV1:V<=31:=by omega
  have hVH:V*2^(fD n).w<=31*4096:=Nat.mul_le_mul hV1 H1
  have o5:=or_lay V (E%2^(fD n).w) (fD n).w hLt (by omega)
  rw [← hvn,Int.natCast_mul] at o5
  generalize hF:vN true (fD n).w E a=Fw at *
  cases s
  ·exact vpk1_fds n _ _ _ _ _ _ _ _ _ _ x k w B.cD (by omega) (by omega) (by omega) (by omega) (by omega) (by omega) B.cN (E:Int) (fD n).w a _ _ _ hEx (by omega) (by omega) (by omega) (by omega) (by omega) (by omega) (by omega) w12 hH (by omega) (by omega) ha hQ (by omega) (by omega) hL _ (dlP (fD n).j rr) (dlP (fD n).j rr) 200 (10^(3*(fD n).j)) rr Fw _ cO cI cS hp cW cV (fun W v hv=>bits_nv hv.nv) cP cM (fun W v hv=>layz_to (at_:=0) (by decide) (by omega) hv rfl (by omega)) o1 (by omega) (by omega) (by omega) (by rw [← Int.natCast_mul];omega) (by rw [← Int.natCast_mul];omega) o5 (by omega) (fun W v hv=>lay_to (at_:=(fD n).t) (by omega) (by decide) (by omega) hv rfl (by simp))
  ·exact vpk1_tds n _ _ _ _ _ _ _ _ _ _ x k (2^((fD n).t+((fD n).w+5))) w B.cD (by omega) (by omega) (by omega) (by omega) (by omega) (by omega) B.cN (E:Int) (fD n).w a _ _ _ hEx (by omega) (by omega) (by omega) (by omega) (by omega) (by omega) (by omega) w12 hH (by omega) (by omega) ha hQ (by omega) (by omega) hL _ (2^((fD n).t+((fD n).w+5))+dlP (fD n).j rr) (dlP (fD n).j rr) 200 (10^(3*(fD n).j)) rr Fw _ cO cI cS (fun W v hv=>layz_to (at_:=(fD n).t+((fD n).w+5)) (by decide) (by omega) hv (by omega) (by omega)) hp cW cV (fun W v hv=>bits_nv hv.nv) cP cM (fun W v hv=>lay_to (at_:=0) (by omega) (by decide) (by omega) hv rfl (by omega)) o1 (by omega) (by omega) (by omega) (by rw [← Int.natCast_mul];omega) (by rw [← Int.natCast_mul];omega) o5 (by omega) (fun W v hv=>lay_to (at_:=(fD n).t) (by simp only [if_true] at hS;omega) (by decide) (by omega) hv rfl (by simp))
theorem vpk_plain {n:Int}(h:decN n)(hdn:(fD n).dn=false){s:Bool}{x:Int}{k:Nat}(w:World)(hk:k<10^(3*(fD n).j+1))(hx0:(fD n).l<=x)(hx1:x<=(fD n).l+3*2^(fD n).w-1) :
  CB 27 #[.int .i64 n,DV 1 s false x k] w (.tuple #[A4 (vP (fD n) ⟨1,s,false,x,k⟩),.int .i64 0]):=by
 have ho:=fD_ok n
 obtain ⟨w6,w12,t20,t110,j2,j11,t64,l0,l1,H0,H1⟩:=ok_bounds ho
 have hI:vI (fD n) ⟨1,s,false,x,k⟩:=Or.inl ⟨rfl,rfl,hk,hx0,hx1⟩
 have p2:(2:Nat)^220<2^256:=by decide
 have pt:=p_200 (a:=(fD n).t) (by omega)
 have p1:=p_200 (a:=(fD n).t+((fD n).w+5)) (by omega)
 have hk34:k<2^256:=by
  have e:(10:Nat)^(3*(fD n).j+1)<=10^34:=Nat.pow_le_pow_right (by decide) (by omega)
  have e2:(10:Nat)^34<2^256:=by decide
  omega
 have B:=vb_of h (d:=⟨1,s,false,x,k⟩) hk34 hI
 have cO:=B.cO
 have cI:=B.cI
 have cS:=B.cS
 rw [hdn] at cO cI cS
 have ha:k/2^(fD n).t<=9:=by
  rcases ho with ⟨h1,h2,h3,h4⟩|⟨h1,h2,h3,h4⟩|⟨h1,h2,h3,h4⟩<;>rw [h3] at hk<;>rw [h1]<;>simp only [Nat.reducePow,Nat.reduceAdd,Nat.reduceMul] at*<;> omega
 have hrl:k%2^(fD n).t<2^(fD n).t:=Nat.mod_lt _ (Nat.two_pow_pos _)
 have e:vP (fD n) ⟨1,s,false,x,k⟩=(if s then 2^((fD n).t+((fD n).w+5)) else 0)+k%2^(fD n).t+vN false (fD n).w (x-(fD n).l).toNat (k/2^(fD n).t)*2^(fD n).t:=by
  unfold vP vPG vPR vQ
  simp only [show ¬ (1:Int)=2 by decide,show ¬ (1:Int)=3 by decide,if_false,hdn,Bool.false_eq_true]
  omega
 rw [e]
 have cR:∀ W vn,NT 4 k vn W->Calls Tryz.prog 49 #[vn,.int .i64 ((fD n).t:Int)] W fun r w'=>∃ g k' cap b,r=.returned (.tuple #[.slice (some ⟨g,0,none⟩) k' cap,.bool b])/\W.heap.size<=g/\NV 4 (k/2^(fD n).t) (.slice (some ⟨g,0,none⟩) k' cap) w'/\Below W.heap.size W w':=fun W vn hv=>rrightf_nv (fD n).t (by decide) (by omega) t64 hv.nv
 have cF:∀ W,CE 52 #[A4 k,.int .i64 0,.int .i64 ((fD n).t:Int)] W (NT 19 (k%2^(fD n).t)):=fun W=>by
  have:=field_any k 0 (fD n).t W hk34 (by decide) (by omega)
  rw [Nat.pow_zero,Nat.div_one] at this
  exact this
 generalize k/2^(fD n).t=a at *
 generalize k%2^(fD n).t=rr at *
 obtain ⟨E,hE⟩:∃ E:Nat,(x-(fD n).l).toNat=E:=⟨_,rfl⟩
 have hEx:x-(fD n).l=(E:Int):=by omega
 have hE3:E<3*2^(fD n).w:=by
  have e3:((3*2^(fD n).w:Nat):Int)=3*2^(fD n).w:=by simp
  omega
 rw [hE]
 have cM:∀ W v,NV 4 a v W->CQ 53 #[v] W (.int .i64 (a:Int)):=fun W v hv=>(number_wide hv (by decide) (by omega)).mono fun r w' ⟨e1,e2⟩=>⟨e1,e2.symm⟩
 have hH:(2:Int)^(fD n).w=((2^(fD n).w:Nat):Int):=(powCast _).symm
 have hvn:vN false (fD n).w E a=(if 8<=a then 3*2^((fD n).w+3)+E*2+a%2 else E*8+a):=rfl
 have hS:(if s then 2^((fD n).t+((fD n).w+5)) else 0)<2^220:=by split<;>omega
 have w3:2^((fD n).w+3)=8*2^(fD n).w:=by rw [Nat.pow_add,Nat.mul_comm]
 have w2:2^((fD n).w+2)=4*2^(fD n).w:=by rw [Nat.pow_add,Nat.mul_comm]
 by_cases h8:8<=a
 ·rw [if_pos h8] at hvn
  have o2:=or_lay 3 (E*2) ((fD n).w+3) (by omega) (by omega)
  rw [Int.natCast_mul 3,show ((E*2:Nat):Int)=(E:Int)*2 by omega] at o2
  have o3:bits .and .u64 (a:Int) 1=((a%2:Nat):Int):=and_lay a 1 (by decide) (by omega)
  have o4:=or_lay (3*2^((fD n).w+2)+E) (a%2) 1 (by omega) (by omega)
  rw [show (3*2^((fD n).w+2)+E)*2^1=3*2^((fD n).w+3)+E*2 by omega,← hvn] at o4
  have hH8:(2:Int)^((fD n).w+3)=((2^((fD n).w+3):Nat):Int):=(powCast _).symm
  generalize hF:vN false (fD n).w E a=Fw at *
  cases s
  ·exact vpk1_fpb n _ _ _ _ _ _ _ _ _ _ x k w B.cD (by omega) (by omega) (by omega) (by omega) (by omega) (by omega) B.cN (E:Int) (fD n).w a _ hEx (by omega) (by omega) (by omega) (by omega) (by omega) (by omega) (by omega) w12 hH (by omega) (by omega) ha _ rr rr Fw _ _ _ _ cO cI cS cR cF cM (fun W v hv=>layz_to (at_:=0) (by decide) (by omega) hv rfl (by omega)) rfl (by omega) hH8 (by omega) (by omega) o2 o3 o4 (by omega) (fun W v hv=>lay_to (at_:=(fD n).t) (by omega) (by decide) (by omega) hv rfl (by simp))
  ·exact vpk1_tpb n _ _ _ _ _ _ _ _ _ _ x k (2^((fD n).t+((fD n).w+5))) w B.cD (by omega) (by omega) (by omega) (by omega) (by omega) (by omega) B.cN (E:Int) (fD n).w a _ hEx (by omega) (by omega) (by omega) (by omega) (by omega) (by omega) (by omega) w12 hH (by omega) (by omega) ha _ (2^((fD n).t+((fD n).w+5))+rr) rr Fw _ _ _ _ cO cI cS (fun W v hv=>layz_to (at_:=(fD n).t+((fD n).w+5)) (by decide) (by omega) hv (by omega) (by omega)) cR cF cM (fun W v hv=>lay_to (at_:=0) (by omega) (by decide) (by omega) hv rfl (by omega)) rfl (by omega) hH8 (by omega) (by omega) o2 o3 o4 (by omega) (fun W v hv=>lay_to (at_:=(fD n).t) (by simp only [if_true] at hS;omega) (by decide) (by omega) hv rfl (by simp))
 ·rw [if_neg h8] at hvn
  have o1:=or_lay E a 3 (by omega) (by omega)
  rw [show ((E*2^3:Nat):Int)=(E:Int)*8 by omega,show E*2^3+a=E*8+a by omega,← hvn] at o1
  generalize hF:vN false (fD n).w E a=Fw at *
  cases s
  ·exact vpk1_fps n _ _ _ _ _ _ _ _ _ _ x k w B.cD (by omega) (by omega) (by omega) (by omega) (by omega) (by omega) B.cN (E:Int) (fD n).w a _ hEx (by omega) (by omega) (by omega) (by omega) (by omega) (by omega) (by omega) w12 hH (by omega) (by omega) ha _ rr rr Fw cO cI cS cR cF cM (fun W v hv=>layz_to (at_:=0) (by decide) (by omega) hv rfl (by omega)) o1 (by omega) (by omega) (fun W v hv=>lay_to (at_:=(fD n).t) (by omega) (by decide) (by omega) hv rfl (by simp))
  ·exact vpk1_tps n _ _ _ _ _ _ _ _ _ _ x k (2^((fD n).t+((fD n).w+5))) w B.cD (by omega) (by omega) (by omega) (by omega) (by omega) (by omega) B.cN (E:Int) (fD n).w a _ hEx (by omega) (by omega) (by omega) (by omega) (by omega) (by omega) (by omega) w12 hH (by omega) (by omega) ha _ (2^((fD n).t+((fD n).w+5))+rr) rr Fw cO cI cS (fun W v hv=>layz_to (at_:=(fD n).t+((fD n).w+5)) (by decide) (by omega) hv (by omega) (by omega)) cR cF cM (fun W v hv=>lay_to (at_:=0) (by omega) (by decide) (by omega) hv rfl (by omega)) o1 (by omega) (by omega) (fun W v hv=>lay_to (at_:=(fD n).t) (by simp only [if_true] at hS;omega) (by decide) (by omega) hv rfl (by simp))
theorem rpk14 (n:Int)(d:Dat)(w:World)(hk:d.k<2^256) :
  CB 27 #[.int .i64 n,d.v] w (.tuple #[A4 (vPV n d),.int .i64 (vPE n d)]):=by
 unfold vPV vPE
 by_cases h:decN n
 ·rw [if_pos h]
  by_cases hi:vI (fD n) d
  ·rw [if_pos ⟨h,hi⟩,if_pos hi]
   obtain ⟨c,s,g,x,k⟩:=d
   rcases id hi with ⟨c1,g1,k1,x1,x2⟩|⟨c1,g1,k1,x1⟩|⟨c1,x1,k1⟩
   ·simp only at c1 g1 k1 x1 x2
    subst c1 g1
    cases hdn:(fD n).dn
    ·exact vpk_plain h hdn w k1 x1 x2
    ·exact vpk_dense h hdn w k1 x1 x2
   ·simp only at c1 g1 k1 x1
    subst c1 g1 k1 x1
    exact vpk_inf h w hi
   ·simp only at c1 k1 x1
    subst c1 x1
    exact vpk_nan h w k1
  ·rw [if_neg (fun q=>hi q.2),if_neg hi,Z4_eq]
   refine vpk_i n d.c d.s d.g d.x d.k w (nameN n) _ _ (expN n) _ _ _ _ (fun W=>?_) (fun W=>rof_dec h W) (fun W=>?_)
   ·have:=rdecimal_any n W
    rw [decide_eq_true h] at this
    exact this
   ·have:=ris14 (fD n) (fD_ok n) n (nameN n) (((fD n).t+((fD n).w+6):Nat):Int) (expN n) (fD n).dn d W hk
    rw [decide_eq_false hi] at this
    exact this
 ·rw [if_neg (fun q=>h q.1),if_neg h,Z4_eq]
  refine vpk_n n d.c d.s d.g d.x d.k w (fun W=>?_)
  have:=rdecimal_any n W
  rw [decide_eq_false h] at this
  exact this
end
section
def vUD (n:Int)(B:Nat):Dat:=if goodD n B then vM (fD n) B else ⟨0,false,false,0,0⟩
def vUC (n:Int)(B:Nat):Bool:=decide (goodD n B/\vP (fD n) (vM (fD n) B)=B)
def vUE (n:Int)(B:Nat):Int:=if goodD n B then 0 else 1
theorem vUD_256 (n:Int)(B:Nat):(vUD n B).k<2^256:=by
 unfold vUD
 split
 ·exact vM_256 (fD_ok n) B
 ·decide
theorem eq_words {X Y:Nat}(hX:X<2^256)(hY:Y<2^256):decide (W4 X 0=W4 Y 0/\W4 X 1=W4 Y 1/\W4 X 2=W4 Y 2/\W4 X 3=W4 Y 3)=decide (X=Y):=by
 refine decide_eq_decide.2 ⟨fun ⟨h0,h1,h2,h3⟩=>A4_inj hX hY fun i hi=>?_,fun h=>by rw [h];exact ⟨rfl,rfl,rfl,rfl⟩⟩
 have:i=0∨i=1∨i=2∨i=3:=by omega
 rcases this with rfl|rfl|rfl|rfl
 ·exact h0
 ·exact h1
 ·exact h2
 ·exact h3
attribute [local irreducible] W4
section
variable (n:Int)(B:Nat)(w:World)
end
theorem zero_v:(Dat.mk 0 false false 0 0).v=.agg #[.int .i64 0,.bool false,.bool false,.int .i64 0,.int .u64 0,.int .u64 0,.int .u64 0,.int .u64 0]:=by unfold Dat.v DV;simp only [W4_zero]
end
theorem sgn_times {c:Int}(a b:Int)(hc:0<c):sgn (a*c) (b*c)=sgn a b:=by
 unfold sgn
 have h1:(a*c<b*c)↔a<b:=Int.mul_lt_mul_right hc
 have h2:(b*c<a*c)↔b<a:=Int.mul_lt_mul_right hc
 simp only [h1,h2]
theorem sgn_nat {a b:Nat}(c:Nat)(hc:0<c):sgn ((a*c:Nat):Int) ((b*c:Nat):Int)=sgn (a:Int) (b:Int):=by
 rw [Int.natCast_mul,Int.natCast_mul]
 exact sgn_times _ _ (by omega)
def oS (d:Dat):Int:=if d.c=1/\d.k=0 then 0 else if d.s then -1 else 1
def oN (d:Dat)(x:Nat):Nat:=d.k*x^d.x.toNat
def oD (d:Dat)(x:Nat):Nat:=1*x^(-d.x).toNat
def oV (a:Dat)(x:Nat)(b:Dat)(y:Nat):Int :=
 if oS a≠oS b∨oS a=0 then sgn (oS a) (oS b)
 else if a.c=2∨b.c=2 then oS a*sgn a.c b.c
 else oS a*sgn ((oN a x*oD b y:Nat):Int) ((oN b y*oD a x:Nat):Int)
theorem oV_a {a b:Dat}{x y:Nat}(h:oS a≠oS b∨oS a=0):oV a x b y=sgn (oS a) (oS b):=if_pos h
theorem oV_b {a b:Dat}{x y:Nat}(h:oS a=oS b)(h0:oS a≠0)(h2:a.c=2∨b.c=2):oV a x b y=oS a*sgn a.c b.c:=by
 unfold oV
 rw [if_neg (show ¬ (oS a≠oS b∨oS a=0) by omega),if_pos h2]
theorem oV_c {a b:Dat}{x y:Nat}(h:oS a=oS b)(h0:oS a≠0)(h2:¬ (a.c=2∨b.c=2)):oV a x b y=oS a*sgn ((oN a x*oD b y:Nat):Int) ((oN b y*oD a x:Nat):Int):=by
 unfold oV
 rw [if_neg (show ¬ (oS a≠oS b∨oS a=0) by omega),if_neg h2]
theorem oV_swap (a:Dat)(x:Nat)(b:Dat)(y:Nat):oV b y a x=- oV a x b y:=by
 by_cases h:oS a=oS b
 ·by_cases h0:oS b=0
  ·rw [oV_a (Or.inr h0),oV_a (Or.inr (h.trans h0)),h,h0,sgn_self]
   rfl
  ·have h0':oS a≠0:=fun q=>h0 (h.symm.trans q)
   by_cases h2:a.c=2∨b.c=2
   ·rw [oV_b h h0' h2,oV_b h.symm h0 h2.symm,h,sgn_neg a.c b.c,Int.mul_neg]
   ·rw [oV_c h h0' h2,oV_c h.symm h0 (fun q=>h2 q.symm),h,sgn_neg ((oN a x*oD b y:Nat):Int),Int.mul_neg]
 ·rw [oV_a (Or.inl h),oV_a (Or.inl (fun q=>h q.symm)),sgn_neg (oS a)]
def mD (n:Int)(B:Nat):Dat:=if binN n then unD n B else vUD n B
def mX (n:Int):Nat:=if binN n then 2 else 10
def mE (n:Int)(B:Nat):Int:=if binN n then unE n B else vUE n B
def oMc (f:Int)(A:Nat)(g:Int)(B:Nat):Int:=if mE f A≠0∨mE g B≠0 then 0 else if (mD f A).c=3∨(mD g B).c=3 then 0 else oV (mD f A) (mX f) (mD g B) (mX g)
def oMo (f:Int)(A:Nat)(g:Int)(B:Nat):Bool:=if mE f A≠0∨mE g B≠0 then false else if (mD f A).c=3∨(mD g B).c=3 then false else true
def oME (f:Int)(A:Nat)(g:Int)(B:Nat):Int:=if mE f A≠0∨mE g B≠0 then 1 else 0
def oG (d:Dat):Int:=if d.s then -1 else 1
def oK (l:Int)(d:Dat):Prop:=(d.c=1/\d.g=false/\l<=d.x)∨(d.c=2/\d.g=false/\d.x=0/\d.k=0)∨(d.c=3/\d.x=0)
theorem tnE_find {N D:Nat}(lo:Int)(h:tnG N D lo):∀ k:Nat,¬ tnG N D (lo+k)->∃ E,TnE N D E
 | 0,h'=>absurd (by simpa using h) h'
 | k+1,h'=>by
  by_cases hk:tnG N D (lo+k)
  ·exact ⟨lo+k,hk,by rw [show lo+(k:Int)+1=lo+((k+1:Nat):Int) by omega];exact h'⟩
  ·exact tnE_find lo h k hk
theorem tnE_ex {N D:Nat}(hN:0<N)(hD:0<D):∃ E,TnE N D E:=by
 refine tnE_find (-(D:Int)) ?_ (N+D) ?_
 ·unfold tnG
  rw [show (-(D:Int)).toNat=0 by omega,Int.neg_neg,Int.toNat_natCast,Nat.pow_zero,Nat.mul_one]
  have h1:D<10^D:=Nat.lt_pow_self (by decide)
  exact Nat.le_trans (Nat.le_of_lt h1) (Nat.le_mul_of_pos_left _ hN)
 ·rw [show -(D:Int)+((N+D:Nat):Int)=(N:Int) by omega]
  unfold tnG
  rw [show (-(N:Int)).toNat=0 by omega,Int.toNat_natCast,Nat.pow_zero,Nat.mul_one]
  have h1:N<10^N:=Nat.lt_pow_self (by decide)
  have h2:10^N<=D*10^N:=Nat.le_mul_of_pos_left _ hD
  omega
def clT (x:Int):Int:=min (max x (-20000)) 20000
theorem ok_m {f:DF}(h:f.ok):-10000<=f.m/\f.m<=10000/\-10000<=f.l/\f.l<=10000/\f.l<=f.m/\2<=f.j/\f.j<=11:=by
 unfold DF.m
 rcases h with ⟨h1,h2,h3,h4⟩|⟨h1,h2,h3,h4⟩|⟨h1,h2,h3,h4⟩<;>rw [h2,h3,h4]<;>decide
theorem NT.fitU {K K' V:Nat}{v:Value}{w:World}(h:NT K V v w)(hb:bl V<=64*K'):NT K' V v w:=by
 obtain ⟨g,k,cap,z,h1,h2,h3,h4,h5⟩:=h
 exact ⟨g,k,cap,z,h1,by have:=(size_bl (m:=K') h3.2.2.1 h4).2 hb;omega,h3,h4,h5⟩
noncomputable def tnX (N D:Nat):Int:=open Classical in if h:∃ E,TnE N D E then Classical.choose h else 0
theorem tnX_is {N D:Nat}(hN:0<N)(hD:0<D):TnE N D (tnX N D):=by
 have h:=tnE_ex hN hD
 unfold tnX
 rw [dif_pos h]
 exact Classical.choose_spec h
def rqE (n d:Int)(N D:Nat):Int:=if decN n/\knB d/\D≠0 then (if 25600<bl N∨25600<bl D then 4 else 0) else 1
noncomputable def rqD (n d:Int)(s:Bool)(N D:Nat)(x y:Int):Dat :=
 if rqE n d N D=0 then (if N=0 then ⟨1,s,false,min (max y (fD n).l) (fD n).m,0⟩ else dkD (fD n) d s (N*10^(clT x).toNat) (D*10^(-(clT x)).toNat) (tnX (N*10^(clT x).toNat) (D*10^(-(clT x)).toNat)) y) else ⟨0,false,false,0,0⟩
noncomputable def rqF (n d:Int)(s:Bool)(N D:Nat)(x:Int):Int :=
 if rqE n d N D=0 then (if N=0 then 0 else dkF (fD n) d s (N*10^(clT x).toNat) (D*10^(-(clT x)).toNat) (tnX (N*10^(clT x).toNat) (D*10^(-(clT x)).toNat))) else 0
section
theorem tnX_eq {N D:Nat}{E:Int}(hN:0<N)(hD:0<D)(h:TnE N D E):tnX N D=E:=(tnX_is hN hD).only h
theorem third:rqD 7 0 false 1 3 0 0=⟨1,false,false,-7,3333333⟩/\rqF 7 0 false 1 3 0=8/\rqE 7 0 1 3=0:=by
 have e0:rqE 7 0 1 3=0:=by
  have b1:bl 1<=2:=bl_le.2 (by decide)
  have b3:bl 3<=2:=bl_le.2 (by decide)
  unfold rqE
  rw [if_pos ⟨by unfold decN;omega,by unfold knB;omega,by decide⟩,if_neg (by omega)]
 have eX:tnX (1*10^(clT 0).toNat) (3*10^(-(clT 0)).toNat)=-1:=tnX_eq (by decide) (by decide) ⟨by decide,by decide⟩
 refine ⟨?_,?_,e0⟩
 ·unfold rqD
  rw [if_pos e0,if_neg (by decide),eX]
  have h1:(dkD (fD 7) 0 false (1*10^(clT 0).toNat) (3*10^(-(clT 0)).toNat) (-1) 0).c=1/\(dkD (fD 7) 0 false (1*10^(clT 0).toNat) (3*10^(-(clT 0)).toNat) (-1) 0).s=false/\(dkD (fD 7) 0 false (1*10^(clT 0).toNat) (3*10^(-(clT 0)).toNat) (-1) 0).g=false/\(dkD (fD 7) 0 false (1*10^(clT 0).toNat) (3*10^(-(clT 0)).toNat) (-1) 0).x=-7/\(dkD (fD 7) 0 false (1*10^(clT 0).toNat) (3*10^(-(clT 0)).toNat) (-1) 0).k=3333333:=by decide +kernel
  generalize dkD (fD 7) 0 false (1*10^(clT 0).toNat) (3*10^(-(clT 0)).toNat) (-1) 0=R at h1 ⊢
  obtain ⟨c,s,g,x,k⟩:=R
  simp only at h1
  obtain ⟨rfl,rfl,rfl,rfl,rfl⟩:=h1
  rfl
 ·unfold rqF
  rw [if_pos e0,if_neg (by decide),eX]
  decide +kernel
attribute [local irreducible] W4 Nt
end
section
def vB (f:DF):Nat:=if f.dn then f.w else 0
def LF (f:DF):Value:=LD f.dn ((f.w+5:Nat):Int) (f.t:Int) (vB f:Int) (vQ f) (10^(3*f.j+1)) (10^(3*f.j)) f.l (f.l+3*2^f.w-1)
theorem DF.ok.w12 {f:DF}(h:f.ok):6<=f.w/\f.w<=12/\f.t<=110/\20<=f.t/\f.j<=11:=by
 rcases h with ⟨h1,h2,h3,h4⟩|⟨h1,h2,h3,h4⟩|⟨h1,h2,h3,h4⟩<;>omega
theorem vQ_256 {f:DF}(h:f.ok):vQ f<2^128:=by
 unfold vQ
 rcases h with ⟨h1,h2,h3,h4⟩|⟨h1,h2,h3,h4⟩|⟨h1,h2,h3,h4⟩<;>rw [h1,h3]<;>cases f.dn<;>decide
theorem ten_128 {f:DF}(h:f.ok):10^(3*f.j+1)<2^128/\10^(3*f.j)<2^128:=by
 rcases h with ⟨h1,h2,h3,h4⟩|⟨h1,h2,h3,h4⟩|⟨h1,h2,h3,h4⟩<;>rw [h3]<;>decide
theorem i2pow (n:Nat):(2:Int)^n=((2^n:Nat):Int):=by simp
theorem i2div (x n:Nat):(x:Int)/2^n=((x/2^n:Nat):Int):=by rw [i2pow,Int.natCast_ediv]
theorem i2mod (x n:Nat):(x:Int)%2^n=((x%2^n:Nat):Int):=by rw [i2pow,Int.natCast_emod]
theorem beq_dec (x y:Nat):(((x:Nat):Int)==(y:Int))=decide (x=y):=by
 by_cases h:x=y
 ·subst h;simp
 ·rw [decide_eq_false h];simp;omega
section
variable {f:DF}(h:f.ok)
include h
theorem fsplit (B:Nat)(w:World)(hB:B<2^256):CB 121 #[LF f,A4 B] w (.tuple #[.bool (vS f B),.int .u64 (vG f B:Int),A4 (vR f B)]):=by
 have hw:=h.w12
 have hd:B/2^f.t<2^256:=Nat.lt_of_le_of_lt (Nat.div_le_self _ _) hB
 have hle:B/2^f.t*2^f.t<=B:=Nat.div_mul_le_self _ _
 have c3:=fun W=>sub4 B (B/2^f.t*2^f.t) W hB (Nat.lt_of_le_of_lt hle hB)
 rw [A4_sub hle,show B-B/2^f.t*2^f.t=vR f B by unfold vR;have:=Nat.div_add_mod' B (2^f.t);omega] at c3
 have c5:=fun W=>dlowb_v (W4 (B/2^f.t) 0) (f.w+5) (W4_words _ 0) (by omega) W
 have e5:W4 (B/2^f.t) 0%2^(f.w+5)=(vG f B:Int):=by
  unfold W4 vG
  rw [Nat.mul_zero,Nat.pow_zero,Nat.div_one,i2mod]
  congr 1
  rw [show (18446744073709551616:Nat)=2^(f.w+5)*2^(64-(f.w+5)) by rw [← Nat.pow_add,show f.w+5+(64-(f.w+5))=64 by omega]]
  exact Nat.mod_mul_right_mod _ _ _
 rw [e5] at c5
 have e4:(((B/2^f.t/2^(f.w+5)%2:Nat):Int)==1)=vS f B:=by
  unfold vS
  rw [Nat.div_div_eq_div_mul,← Nat.pow_add]
  exact beq_dec _ 1
 rw [← e4]
 exact split_w _ _ _ _ _ _ _ _ _ w B _ _ _ _ _ _ (fun W=>shr4 B f.t W hB (by omega)) (fun W=>shl4 (B/2^f.t) f.t W hd (by omega)) c3 (fun W=>bit4 (B/2^f.t) (f.w+5) W hd (by omega)) c5
theorem fkind (G:Nat)(w:World)(hG:G<2^(f.w+5)):CB 122 #[LF f,.int .u64 (G:Int)] w (.int .u64 (vV f.w G:Int)):=by
 have hw:=h.w12
 have hp:2^(f.w+5)<=2^17:=Nat.pow_le_pow_right (by decide) (by omega)
 exact kind_v _ _ _ _ _ _ _ _ _ w (G:Int) _ f.w (by omega) (by omega) (by omega) (by omega) (i2div G f.w)
theorem fsig (G:Nat)(w:World)(hG:G<2^(f.w+5)):CB 123 #[LF f,.int .u64 (G:Int)] w (.bool (decide (G/2^(f.w-1)%2=1))):=by
 have hw:=h.w12
 have hp:2^(f.w+5)<=2^17:=Nat.pow_le_pow_right (by decide) (by omega)
 have hd:G/2^(f.w-1)<=G:=Nat.div_le_self _ _
 have e:=and_lay (G/2^(f.w-1)) 1 (by decide) (by omega)
 have e1:bits .and .u64 ((G:Int)/2^(f.w-1)) 1=((G/2^(f.w-1)%2:Nat):Int):=by rw [i2div];exact e
 have c:=signals_v f.dn ((f.w+5:Nat):Int) (f.t:Int) (vB f:Int) (vQ f) (10^(3*f.j+1)) (10^(3*f.j)) f.l (f.l+3*2^f.w-1) w (G:Int) _ (f.w-1) (by omega) (by omega) (by omega) (by omega) e1
 rw [show (((G/2^(f.w-1)%2:Nat):Int)==1)=decide (G/2^(f.w-1)%2=1) from beq_dec _ 1] at c
 exact c
theorem fspec (k:Nat)(s:Bool)(w:World)(hk:k<=31):CB 159 #[LF f,.int .u64 (k:Int),.bool s] w (.int .u64 ((k*2^f.w+(if s then 2^(f.w-1) else 0):Nat):Int)):=by
 have hw:=h.w12
 have ho:=or_lay k 1 1 (by decide) (by omega)
 have hp:2^(f.w-1)<=2^11:=Nat.pow_le_pow_right (by decide) (by omega)
 have hp0:1<=2^(f.w-1):=Nat.one_le_two_pow
 have e2:2^f.w=2*2^(f.w-1):=by rw [← Nat.pow_succ'];congr 1;omega
 refine special_v _ _ _ _ _ _ _ _ _ w (k:Int) _ s (f.w-1) (by omega) (by omega) (by omega) (by omega) (by omega) ((2^(f.w-1):Nat):Int) (i2pow _) (by omega) (by omega) ?_ ?_ ?_
 ·rw [show ((k*2^1:Nat):Int)=(k:Int)*2 by omega] at ho
  rw [show (1:Int)=((1:Nat):Int) from rfl,ho];omega
 ·rw [e2]
  generalize 2^(f.w-1)=H at *
  cases s
  ·simp only [Bool.false_eq_true,if_false,Int.add_zero,Nat.add_zero]
   rw [Int.natCast_mul,Int.natCast_mul,Int.mul_assoc];rfl
  ·simp only [if_true]
   rw [Int.natCast_add,Int.natCast_mul,Int.natCast_mul,Int.add_mul,Int.one_mul,Int.mul_assoc];rfl
 ·have:k*2^f.w<=31*2^12:=Nat.mul_le_mul hk (Nat.pow_le_pow_right (by decide) (by omega))
  have:(if s then 2^(f.w-1) else 0)<=2^11:=by split<;>omega
  omega
theorem fread (R:Nat)(w:World)(hR:R<2^f.t):CB 125 #[LF f,A4 R] w (A4 (vT f R)):=by
 have hw:=h.w12
 have h256:R<2^256:=Nat.lt_of_lt_of_le hR (Nat.pow_le_pow_right (by decide) (by omega))
 unfold LF vT
 have ht:=h.t10
 cases hd:f.dn
 ·simp only [Bool.false_eq_true,if_false]
  exact read_p _ _ _ _ _ _ _ _ w R
 ·simp only [if_true]
  have c:=fun W=>dupk_any R (f.j:Int) W h256
  have e:dUv R (f.j:Int)=dlU f.j R:=by
   unfold dUv
   rw [if_pos (by omega),Int.toNat_natCast,if_pos (by rw [← h.pt];exact hR)]
  rw [e] at c
  exact read_d _ _ _ _ _ _ _ _ w R _ _ (f.j:Int) (by omega) (by omega) (by omega) c
theorem fwrite (C:Nat)(w:World)(hC:C<2^256)(hd:f.dn=true->C<1000^f.j):CB 158 #[LF f,A4 C] w (A4 (if f.dn then dlP f.j C else C)):=by
 have hw:=h.w12
 unfold LF
 have ht:=h.t10
 cases e:f.dn
 ·simp only [Bool.false_eq_true,if_false]
  exact write_p _ _ _ _ _ _ _ _ w C
 ·simp only [if_true]
  have c:=fun W=>dpck_any C (f.j:Int) W hC
  have e:dPv C (f.j:Int)=dlP f.j C:=by
   unfold dPv
   rw [if_pos (by omega),Int.toNat_natCast,if_pos (hd e)]
  rw [e] at c
  exact write_d _ _ _ _ _ _ _ _ w C _ _ (f.j:Int) (by omega) (by omega) (by omega) c
theorem fjoin (s:Bool)(G R:Nat)(w:World)(hG:G<2^(f.w+5))(hR:R<2^f.t):CB 156 #[LF f,.bool s,.int .u64 (G:Int),A4 R] w (A4 ((if s then 2^(f.t+(f.w+5)) else 0)+G*2^f.t+R)):=by
 have hw:=h.w12
 have hp:2^(f.w+5)<=2^17:=Nat.pow_le_pow_right (by decide) (by omega)
 have hp0:1<=2^(f.w+5):=Nat.one_le_two_pow
 have hpt:2^f.t<=2^110:=Nat.pow_le_pow_right (by decide) (by omega)
 have key:∀ E:Nat,E<2^18->(∀ W,CB 84 #[.int .u64 (E:Int)] W (A4 E))/\(∀ W,CB 150 #[A4 E,.int .i64 (f.t:Int)] W (A4 (E*2^f.t)))/\(∀ W,CB 86 #[A4 (E*2^f.t),A4 R] W (.tuple #[A4 (E*2^f.t+R),.int .u64 (((E*2^f.t+R)/2^256:Nat):Int)])):=by
  intro E hE
  have hm:E*2^f.t<=2^18*2^110:=Nat.mul_le_mul (by omega) hpt
  have e:(2:Nat)^18*2^110<2^256:=by decide
  exact ⟨fun W=>of4 E W (by omega),fun W=>shl4 E f.t W (by omega) (by omega),fun W=>add4 _ _ W (by omega) (Nat.lt_of_lt_of_le hR (by omega))⟩
 cases s
 ·obtain ⟨k1,k2,k3⟩:=key G (by omega)
  simp only [Bool.false_eq_true,if_false,Nat.zero_add]
  exact djoin_n _ _ _ _ _ _ _ _ _ w _ _ _ _ _ _ k1 k2 k3
 ·obtain ⟨k1,k2,k3⟩:=key (2^(f.w+5)+G) (by omega)
  have ho:=or_lay 1 G (f.w+5) hG (by omega)
  rw [Nat.one_mul] at ho
  have hc:bits .or .u64 (G:Int) ((2^(f.w+5):Nat):Int)=((2^(f.w+5)+G:Nat):Int):=by
   rw [← ho]
   have e1:=orW_eq ((2^(f.w+5):Nat):Int) (G:Int) (by omega) (by omega)
   have e2:=orW_eq (G:Int) ((2^(f.w+5):Nat):Int) (by omega) (by omega)
   unfold orW at e1 e2
   rw [e1,e2,Nat.or_comm]
  simp only [if_true]
  rw [show 2^(f.t+(f.w+5))+G*2^f.t+R=(2^(f.w+5)+G)*2^f.t+R by rw [Nat.add_mul,← Nat.pow_add,Nat.add_comm (f.w+5) f.t]]
  exact djoin_s _ _ _ _ _ _ _ _ _ w (G:Int) _ _ _ _ _ _ k1 k2 k3 (f.w+5) _ rfl (by omega) (i2pow _) (by omega) (by omega) hc
theorem fpart (G:Nat)(w:World)(hG:G<2^(f.w+5)):CB 126 #[LF f,.int .u64 (G:Int)] w (.tuple #[.int .u64 (vF f.dn f.w G:Int),.int .u64 (vL f.dn f.w G:Int)]):=by
 have hw:=h.w12
 have hp:2^(f.w+5)<=2^17:=Nat.pow_le_pow_right (by decide) (by omega)
 have hB:vB f<=12:=by unfold vB;split<;>omega
 have hA:G/2^vB f<=G:=Nat.div_le_self _ _
 have cl:=fun W=>dlowb_v (G:Int) (vB f) (by omega) (by omega) W
 rw [i2mod] at cl
 have hX:G%2^vB f<2^vB f:=Nat.mod_lt _ (Nat.two_pow_pos _)
 have hpb:2^vB f<=2^12:=Nat.pow_le_pow_right (by decide) hB
 have e8:2^(f.w+5)=32*2^f.w:=by rw [Nat.pow_add,Nat.mul_comm]
 have e3:2^(f.w+3)=8*2^f.w:=by rw [Nat.pow_add,Nat.mul_comm]
 have hV8:G/2^(f.w+3)=vV f.w G/8:=by unfold vV;rw [Nat.div_div_eq_div_mul,e3,Nat.mul_comm]
 have hV32:vV f.w G<32:=by unfold vV;rw [Nat.div_lt_iff_lt_mul (Nat.two_pow_pos _),← e8];exact hG
 have hone:1<=2^f.w:=Nat.one_le_two_pow
 by_cases h24:vV f.w G<24
 ·have hF:∃ F:Nat,F=G/2^vB f/8/\vF f.dn f.w G=F*2^vB f+G%2^vB f:=by
   refine ⟨_,rfl,?_⟩
   unfold vF vB
   cases f.dn
   ·simp only [Bool.false_eq_true,if_false,Nat.pow_zero,Nat.div_one,Nat.mod_one,Nat.mul_one,Nat.add_zero,if_pos h24]
   ·simp only [if_true,if_pos h24];rfl
  obtain ⟨F,hF1,hF2⟩:=hF
  have hFl:F<=G:=by rw [hF1];exact Nat.le_trans (Nat.div_le_self _ _) hA
  have hFm:F*2^vB f<=2^17*2^12:=Nat.mul_le_mul (by omega) hpb
  have ho:=or_lay F (G%2^vB f) (vB f) hX (by omega)
  rw [hF2]
  have hL:vL f.dn f.w G=G/2^vB f%8:=by
   unfold vL vB
   cases f.dn
   ·simp only [Bool.false_eq_true,if_false,Nat.pow_zero,Nat.div_one,if_pos h24]
   ·simp only [if_true,if_pos h24];rfl
  rw [hL]
  have c3:=fun W=>dlow_v ((G/2^vB f:Nat):Int) 3 (by omega) (by decide) W
  rw [i2mod] at c3
  refine part_s f.dn _ _ _ _ _ _ _ w (G:Int) ((G/2^vB f:Nat):Int) ((G/2^(f.w+3):Nat):Int) (F:Int) ((F*2^vB f:Nat):Int) ((G%2^vB f:Nat):Int) _ _ (vB f) (f.w+3) (by omega) (by omega) (by omega) (by omega) (by omega) (i2div _ _) (by omega) (by omega) (i2div _ _) (by omega) (by omega) (by rw [i2pow,Int.natCast_mul]) (by omega) (by omega) cl ho ?_ (by omega) c3
  rw [show (3:Int)=((3:Nat):Int) from rfl,beq_dec,hV8]
  exact decide_eq_false (by omega)
 ·have e2:2^(f.w+2)=4*2^f.w:=by rw [Nat.pow_add,Nat.mul_comm]
  have hk:∃ k:Nat,((f.w+3:Nat):Int)-(vB f:Int)=(k:Int)/\k<=15/\vF f.dn f.w G=G/2^vB f%2^k/2*2^vB f+G%2^vB f/\vL f.dn f.w G=8+G/2^vB f%2^k%2:=by
   unfold vF vL vB
   cases f.dn
   ·refine ⟨f.w+3,by simp,by omega,?_,?_⟩
    ·simp only [Bool.false_eq_true,if_false,Nat.pow_zero,Nat.div_one,Nat.mod_one,Nat.mul_one,Nat.add_zero,if_neg h24]
     rw [e2,e3];generalize 2^f.w=H at *;rw [show 8*H=2*(4*H) by omega,Nat.mod_mul_right_div_self]
    ·simp only [Bool.false_eq_true,if_false,Nat.pow_zero,Nat.div_one,if_neg h24]
     rw [e3,show 8*2^f.w=2*(4*2^f.w) by omega,Nat.mod_mul_right_mod]
   ·refine ⟨3,by simp only [if_true];omega,by omega,?_,?_⟩
    ·simp only [if_true,if_neg h24]
     show vV f.w G/2%4*_+_=vV f.w G%2^3/2*_+_
     rw [show (2:Nat)^3=2*4 by decide,Nat.mod_mul_right_div_self]
    ·simp only [if_true,if_neg h24]
     show 8+vV f.w G%2=8+vV f.w G%2^3%2
     rw [show (2:Nat)^3=2*4 by decide,Nat.mod_mul_right_mod]
  obtain ⟨k,hk,hk15,hF2,hL⟩:=hk
  rw [hF2,hL]
  have hAi:(G:Int)/2^vB f=((G/2^vB f:Nat):Int):=i2div _ _
  have hMi:(G:Int)/2^(f.w+3)=((G/2^(f.w+3):Nat):Int):=i2div _ _
  have hq:(((G/2^(f.w+3):Nat):Int)==3)=true:=by
   rw [show (3:Int)=((3:Nat):Int) from rfl,beq_dec,hV8]
   exact decide_eq_true (by omega)
  generalize G/2^vB f=A at *
  generalize G/2^(f.w+3)=M at *
  generalize G%2^vB f=X at *
  have c3:=fun W=>dlow_v (A:Int) k (by omega) (by omega) W
  rw [i2mod] at c3
  have hAk:A%2^k<=A:=Nat.mod_le _ _
  generalize A%2^k=A' at *
  have hFm:A'/2*2^vB f<=2^17*2^12:=Nat.mul_le_mul (by omega) hpb
  have ho:=or_lay (A'/2) X (vB f) hX (by omega)
  have c4:=fun W=>dlow_v (A':Int) 1 (by omega) (by omega) W
  rw [i2mod] at c4
  exact part_g f.dn _ _ _ _ _ _ _ w (G:Int) (A:Int) (M:Int) ((A'/2:Nat):Int) ((A'/2*2^vB f:Nat):Int) (X:Int) _ _ (vB f) (f.w+3) (by omega) (by omega) (by omega) (by omega) (by omega) hAi (by omega) (by omega) hMi (by omega) (by omega) (by rw [i2pow,Int.natCast_mul]) (by omega) (by omega) cl ho (A':Int) ((A'%2^1:Nat):Int) k hq hk (by omega) (by omega) (by omega) (by omega) (by omega) (by omega) c3 c4
theorem funite (E a:Nat)(w:World)(hE:E<3*2^f.w)(ha:a<=9):CB 157 #[LF f,.int .u64 (E:Int),.int .u64 (a:Int)] w (.int .u64 (vN f.dn f.w E a:Int)):=by
 have hw:=h.w12
 have hp:2^f.w<=2^12:=Nat.pow_le_pow_right (by decide) (by omega)
 have hB:vB f<=12:=by unfold vB;split<;>omega
 have hA:E/2^vB f<=E:=Nat.div_le_self _ _
 have cl:=fun W=>dlowb_v (E:Int) (vB f) (by omega) (by omega) W
 rw [i2mod] at cl
 have hX:E%2^vB f<2^vB f:=Nat.mod_lt _ (Nat.two_pow_pos _)
 have hpb:2^vB f<=2^12:=Nat.pow_le_pow_right (by decide) hB
 have hone:1<=2^f.w:=Nat.one_le_two_pow
 by_cases h8:8<=a
 ·have hk:∃ k:Nat,((f.w+5:Nat):Int)-2-(vB f:Int)=(k:Int)/\1<=k/\k<=15/\E/2^vB f*2<2^k/\vN f.dn f.w E a=(3*2^k+E/2^vB f*2+a%2)*2^vB f+E%2^vB f:=by
   unfold vN vB
   have e3:2^(f.w+3)=8*2^f.w:=by rw [Nat.pow_add,Nat.mul_comm]
   cases f.dn
   ·refine ⟨f.w+3,by simp only [Bool.false_eq_true,if_false];omega,by omega,by omega,?_,?_⟩
    ·simp only [Bool.false_eq_true,if_false,Nat.pow_zero,Nat.div_one];omega
    ·simp only [Bool.false_eq_true,if_false,Nat.pow_zero,Nat.div_one,Nat.mod_one,Nat.mul_one,Nat.add_zero,if_pos h8]
   ·refine ⟨3,by simp only [if_true];omega,by omega,by omega,?_,?_⟩
    ·simp only [if_true]
     have:E/2^f.w<3:=by rw [Nat.div_lt_iff_lt_mul (Nat.two_pow_pos _)];exact hE
     omega
    ·simp only [if_true,if_pos h8]
  obtain ⟨k,hk,hk1,hk15,hAk,hN⟩:=hk
  rw [hN]
  have hAi:(E:Int)/2^vB f=((E/2^vB f:Nat):Int):=i2div _ _
  have hpk:2^k<=2^15:=Nat.pow_le_pow_right (by decide) hk15
  have hpk1:1<=2^k:=Nat.one_le_two_pow
  have ek:2^k=2^(k-1)*2:=by rw [← Nat.pow_succ];congr 1;omega
  have hki:(2:Int)^k=((2^k:Nat):Int):=i2pow k
  generalize E/2^vB f=A at *
  generalize E%2^vB f=X at *
  have hU:=or_lay 3 (A*2) k hAk (by omega)
  have hY:=or_lay (3*2^(k-1)+A) (a%2) 1 (Nat.mod_lt _ (by decide)) (by omega)
  rw [show (3*2^(k-1)+A)*2^1=3*2^k+A*2 by omega] at hY
  have c1:=fun W=>dlowb_v (a:Int) 1 (by omega) (by omega) W
  rw [i2mod,Nat.pow_one] at c1
  have hU':bits .or .u64 (3*((2^k:Nat):Int)) ((A:Int)*2)=((3*2^k+A*2:Nat):Int):=by
   rw [← hU,Int.natCast_mul,Int.natCast_mul];rfl
  clear hU
  generalize 2^k=H at *
  have hYm:(3*H+A*2+a%2)*2^vB f<=2^18*2^12:=Nat.mul_le_mul (by omega) hpb
  have ho:=or_lay (3*H+A*2+a%2) X (vB f) hX (by omega)
  exact unite_g f.dn _ _ _ _ _ _ _ w (E:Int) (a:Int) (A:Int) ((3*H+A*2+a%2:Nat):Int) (((3*H+A*2+a%2)*2^vB f:Nat):Int) (X:Int) _ (vB f) (by omega) (by omega) (by omega) (by omega) (by omega) hAi (by omega) (by omega) (by omega) (by omega) (by rw [i2pow,Int.natCast_mul]) (by omega) (by omega) cl ho k (H:Int) ((3*H+A*2:Nat):Int) ((a%2:Nat):Int) (by omega) hk hki (by omega) (by omega) hU' hY c1
 ·have hN:vN f.dn f.w E a=(E/2^vB f*8+a)*2^vB f+E%2^vB f:=by
   unfold vN vB
   cases f.dn
   ·simp only [Bool.false_eq_true,if_false,Nat.pow_zero,Nat.div_one,Nat.mod_one,Nat.mul_one,Nat.add_zero,if_neg h8]
   ·simp only [if_true,if_neg h8]
  rw [hN]
  have hAi:(E:Int)/2^vB f=((E/2^vB f:Nat):Int):=i2div _ _
  generalize E/2^vB f=A at *
  generalize E%2^vB f=X at *
  have hY:=or_lay A a 3 (by omega) (by omega)
  have hY':bits .or .u64 ((A:Int)*8) (a:Int)=((A*8+a:Nat):Int):=hY
  have hYm:(A*8+a)*2^vB f<=2^18*2^12:=Nat.mul_le_mul (by omega) hpb
  have ho:=or_lay (A*8+a) X (vB f) hX (by omega)
  exact unite_s f.dn _ _ _ _ _ _ _ w (E:Int) (a:Int) (A:Int) ((A*8+a:Nat):Int) (((A*8+a)*2^vB f:Nat):Int) (X:Int) _ (vB f) (by omega) (by omega) (by omega) (by omega) (by omega) hAi (by omega) (by omega) (by omega) (by omega) (by rw [i2pow,Int.natCast_mul]) (by omega) (by omega) cl ho (by omega) hY'
end
end
section
theorem vT_256 {f:DF}(h:f.ok){R:Nat}(hR:R<2^f.t):vT f R<2^128:=by
 have hw:=h.w12
 have:=ten_128 h
 cases hd:f.dn
 ·unfold vT;rw [hd,if_neg (by decide)];exact Nat.lt_of_lt_of_le hR (Nat.pow_le_pow_right (by decide) (by omega))
 ·exact Nat.lt_trans (vT_lt h hd R) this.2
theorem vL_9 {f:DF}(dn:Bool)(w G:Nat):vL dn w G<=9:=by
 unfold vL
 cases dn<;>simp only [Bool.false_eq_true,if_false,if_true]<;>split<;>omega
theorem dsgn_ge (A B:Nat):0<=sgn (A:Int) (B:Int)↔¬ A<B:=by
 unfold sgn
 by_cases h:(A:Int)<(B:Int)
 ·rw [if_pos h];constructor
  ·intro q;exact absurd q (by decide)
  ·intro q;omega
 ·rw [if_neg h];constructor
  ·intro _;omega
  ·intro _;split<;>decide
section
variable {f:DF}(h:f.ok)
include h
theorem fmean (B:Nat)(w:World)(hB:B<2^256):Calls Tryz.prog 93 #[LF f,A4 B] w fun r w'=>r=.returned (vM f B).v/\Below w.heap.size w w':=by
 have hw:=h.w12
 have hG:=vG_lt f B
 have hR:=vR_lt f B
 have cs:=fun W=>fsplit h B W hB
 have ck:=fun W=>fkind h (vG f B) W hG
 have cr:=fun W=>fread h (vR f B) W hR
 have hU:=vT_256 h hR
 have h10:=ten_128 h
 have e256:(2:Nat)^128*2^4<2^256:=by decide
 unfold vM vD
 generalize vG f B=G at *
 generalize vR f B=R at *
 generalize vS f B=s at *
 by_cases h30:vV f.w G=30
 ·rw [if_pos h30]
  exact dmean_i _ _ _ _ _ _ _ _ _ w B R s (G:Int) _ cs ck (by rw [h30];rfl)
 ·rw [if_neg h30]
  have e30:(((vV f.w G:Nat):Int)==30)=false:=by rw [show (30:Int)=((30:Nat):Int) from rfl,beq_dec];exact decide_eq_false h30
  by_cases h31:vV f.w G=31
  ·rw [if_pos h31]
   exact dmean_n _ _ _ _ _ _ _ _ _ w B R s (G:Int) _ cs ck (vT f R) _ cr _ e30 (by rw [h31];rfl) (fun W=>fsig h G W hG) (fun W=>nought_v (vT f R) (10^(3*f.j)) W (by omega) (by omega))
  ·rw [if_neg h31]
   have e31:(((vV f.w G:Nat):Int)==31)=false:=by rw [show (31:Int)=((31:Nat):Int) from rfl,beq_dec];exact decide_eq_false h31
   have hL:=vL_9 (f:=f) f.dn f.w G
   have hq:=vQ_256 h
   have hm:vL f.dn f.w G*vQ f<=2^4*2^128:=Nat.mul_le_mul (by omega) (by omega)
   have cm:=fun W=>mul4 (vQ f) (vL f.dn f.w G) W (by omega) (by omega)
   rw [Nat.mul_comm (vQ f)] at cm
   have hF:vF f.dn f.w G<1000000:=by
    unfold vF vV
    rcases h with ⟨h1,h2,h3,h4⟩|⟨h1,h2,h3,h4⟩|⟨h1,h2,h3,h4⟩<;>rw [h2] at hG ⊢<;>cases f.dn<;>simp only [Bool.false_eq_true,if_false,if_true]<;>simp only [Nat.reducePow,Nat.reduceAdd] at*<;> split<;>omega
   have hl:-1000000<=f.l/\f.l<=1000000:=by rcases h with ⟨h1,h2,h3,h4⟩|⟨h1,h2,h3,h4⟩|⟨h1,h2,h3,h4⟩<;>omega
   have e5:(2:Nat)^4*2^128+2^128<2^256:=by decide
   exact dmean_f _ _ _ _ _ _ _ _ _ w B R s (G:Int) _ cs ck (vT f R) _ cr _ _ _ _ _ _ e30 e31 (by omega) (by omega) hl.1 hl.2 (fun W=>fpart h G W hG) cm (fun W=>add4 _ _ W (by omega) (by omega)) (fun W=>nought_v _ (10^(3*f.j+1)) W (by omega) (by omega))
theorem fpack (d:Dat)(w:World)(hk:d.k<2^256):CB 94 #[LF f,d.v] w (.tuple #[A4 (if vI f d then vP f d else 0),.int .i64 (if vI f d then 0 else 3)]):=by
 have hw:=h.w12
 have h10:=ten_128 h
 have hq:=vQ_256 h
 have e256:(2:Nat)^128<2^256:=by decide
 have hl:-1000000<=f.l/\f.l<=0:=by rcases h with ⟨h1,h2,h3,h4⟩|⟨h1,h2,h3,h4⟩|⟨h1,h2,h3,h4⟩<;>omega
 have hw3:(3*2^f.w:Nat)<=3*2^12:=Nat.mul_le_mul (Nat.le_refl _) (Nat.pow_le_pow_right (by decide) (by omega))
 have ei:((3*2^f.w:Nat):Int)=3*2^f.w:=by rw [Int.natCast_mul,i2pow];rfl
 obtain ⟨c,s,g,x,k⟩:=d
 simp only at hk
 by_cases h1:c=1
 ·subst h1
  refine dpack_1 _ _ _ _ _ _ _ _ _ w x s g k _ _ ?_
  intro W
  by_cases hi:vI f ⟨1,s,g,x,k⟩
  ·rw [if_pos hi,if_pos hi]
   have hPG:=vPG_lt h hi
   have hPR:=vPR_lt h hi
   obtain ⟨_,hg,hk10,hx0,hx1⟩:(1:Int)=1/\g=false/\k<10^(3*f.j+1)/\f.l<=x/\x<=f.l+3*2^f.w-1:=by
    rcases hi with hi|hi|hi
    ·exact hi
    ·exact absurd (show (1:Int)=2 from hi.1) (by decide)
    ·exact absurd (show (1:Int)=3 from hi.1) (by decide)
   subst hg
   have hqp:0<vQ f:=by
    unfold vQ;cases f.dn<;>simp only [Bool.false_eq_true,if_false,if_true]
    ·exact Nat.two_pow_pos _
    ·exact Nat.pow_pos (by decide)
   have hm9:k/vQ f<=9:=by
    unfold vQ
    rcases h with ⟨h1,h2,h3,h4⟩|⟨h1,h2,h3,h4⟩|⟨h1,h2,h3,h4⟩<;>rw [h3] at hk10 ⊢<;>rw [h1]<;>cases f.dn<;>simp only [Bool.false_eq_true,if_false,if_true]<;>simp only [Nat.reducePow,Nat.reduceAdd,Nat.reduceMul] at*<;> omega
   have hmod:k-k/vQ f*vQ f=k%vQ f:=by have:=Nat.div_add_mod' k (vQ f);omega
   have hlt:=Nat.mod_lt k hqp
   have hE:(x-f.l).toNat<3*2^f.w:=by omega
   have hEi:x-f.l=(((x-f.l).toNat:Nat):Int):=by omega
   have cn:=fun W=>funite h (x-f.l).toNat (k/vQ f) W hE hm9
   rw [← hEi] at cn
   have hvN:vPG f ⟨1,s,false,x,k⟩=vN f.dn f.w (x-f.l).toNat (k/vQ f):=rfl
   rw [← hvN] at cn
   have hR0:∀ i,k-i*vQ f<2^256:=fun i=>by omega
   have cw:=fun W=>fwrite h (k-k/vQ f*vQ f) W (hR0 _) (fun hd=>by
    rw [hmod,← ten3]
    have:vQ f=10^(3*f.j):=by unfold vQ;rw [hd,if_pos rfl]
    rw [this] at hlt ⊢
    exact hlt)
   have ew:(if f.dn=true then dlP f.j (k-k/vQ f*vQ f) else k-k/vQ f*vQ f)=vPR f ⟨1,s,false,x,k⟩:=by
    rw [hmod]
    unfold vPR vQ
    simp only [show ¬ ((1:Int)=2) by decide,show ¬ ((1:Int)=3) by decide,if_false]
    cases f.dn<;>simp
   rw [ew] at cw
   have cj:=fun W=>fjoin h s _ _ W hPG hPR
   refine dfin_y _ _ _ _ _ _ _ _ _ W x s k _ _ (fun W=>cmp4 k _ W hk (by omega)) (by omega) (by omega) (by rw [dsgn_ge];omega) (k/vQ f) (by omega) (fun i=>k-i*vQ f) (fun i=>sgn ((k-i*vQ f:Nat):Int) (vQ f:Int)) (fun i=>if k-i*vQ f<vQ f then 1 else 0) (by simp) _ hl.1 (by omega) (by omega) _ ?_ ?_ ?_ ?_ cn cw cj
   ·show ∀ _,_
    intro i hi W
    exact cmp4 _ _ W (hR0 i) (by omega)
   ·show ∀ _,_
    intro i hi
    rw [dsgn_ge]
    have:(i+1)*vQ f<=k:=Nat.le_trans (Nat.mul_le_mul_right _ hi) (Nat.div_mul_le_self _ _)
    rw [Nat.add_mul,Nat.one_mul] at this
    omega
   ·show ¬ _
    rw [dsgn_ge,hmod];omega
   ·show ∀ _,_
    intro i hi W
    have:(i+1)*vQ f<=k:=Nat.le_trans (Nat.mul_le_mul_right _ hi) (Nat.div_mul_le_self _ _)
    have e:k-(i+1)*vQ f=k-i*vQ f-vQ f:=by rw [Nat.add_mul,Nat.one_mul];omega
    rw [Nat.add_mul,Nat.one_mul] at this
    have c:=sub4 (k-i*vQ f) (vQ f) W (hR0 i) (by omega)
    rw [A4_sub (by omega),← e] at c
    exact c
  ·rw [if_neg hi,if_neg hi]
   cases g
   ·by_cases a1:x<f.l
    ·exact dfin_l _ _ _ _ _ _ _ _ _ W x s k a1
    ·by_cases a2:f.l+3*2^f.w-1<x
     ·exact dfin_m _ _ _ _ _ _ _ _ _ W x s k a1 a2
     ·have a3:¬ k<10^(3*f.j+1):=fun q=>hi (Or.inl ⟨rfl,rfl,q,(by omega:f.l<=x),(by omega:x<=f.l+3*2^f.w-1)⟩)
      exact dfin_k _ _ _ _ _ _ _ _ _ W x s k _ (fun W=>cmp4 k _ W hk (by omega)) a1 a2 ((dsgn_ge _ _).2 a3)
   ·exact dfin_s _ _ _ _ _ _ _ _ _ W x s k
 ·by_cases h2:c=2
  ·subst h2
   refine dpack_2 _ _ _ _ _ _ _ _ _ w x s g k _ _ ?_
   intro W
   by_cases hi:vI f ⟨2,s,g,x,k⟩
   ·rw [if_pos hi,if_pos hi]
    have hPG:=vPG_lt h hi
    obtain ⟨_,hg,hk0,hx0⟩:(2:Int)=2/\g=false/\k=0/\x=0:=by
     rcases hi with hi|hi|hi
     ·exact absurd (show (2:Int)=1 from hi.1) (by decide)
     ·exact hi
     ·exact absurd (show (2:Int)=3 from hi.1) (by decide)
    subst hg hk0 hx0
    have cp:=fun W=>fspec h 30 false W (by decide)
    have cj:=fun W=>fjoin h s _ 0 W hPG (Nat.two_pow_pos _)
    rw [Z4_eq] at cj
    exact dinf_y _ _ _ _ _ _ _ _ _ W s _ _ cp cj
   ·rw [if_neg hi,if_neg hi]
    cases g
    ·by_cases a1:x=0
     ·subst a1
      refine dinf_k _ _ _ _ _ _ _ _ _ W s k (decide_eq_false fun q=>hi (Or.inr (Or.inl ⟨rfl,rfl,?_,rfl⟩)))
      refine A4_inj hk (by decide) fun i hi=>?_
      rw [W4_zero]
      rcases (show i=0∨i=1∨i=2∨i=3 by omega) with e|e|e|e<;>subst e
      ·exact q.1
      ·exact q.2.1
      ·exact q.2.2.1
      ·exact q.2.2.2
     ·exact dinf_x _ _ _ _ _ _ _ _ _ W x s k (by simp [a1])
    ·exact dinf_s _ _ _ _ _ _ _ _ _ W x s k
  ·by_cases h3:c=3
   ·subst h3
    refine dpack_3 _ _ _ _ _ _ _ _ _ w x s g k _ _ ?_
    intro W
    by_cases hi:vI f ⟨3,s,g,x,k⟩
    ·rw [if_pos hi,if_pos hi]
     have hPG:=vPG_lt h hi
     have hPR:=vPR_lt h hi
     obtain ⟨_,hx0,hk10⟩:(3:Int)=3/\x=0/\k<10^(3*f.j):=by
      rcases hi with hi|hi|hi
      ·exact absurd (show (3:Int)=1 from hi.1) (by decide)
      ·exact absurd (show (3:Int)=2 from hi.1) (by decide)
      ·exact hi
     subst hx0
     have cp:=fun W=>fspec h 31 g W (by decide)
     have cw:=fun W=>fwrite h k W hk (fun _=>by rw [← ten3];exact hk10)
     have cj:=fun W=>fjoin h s _ _ W hPG hPR
     exact dnan_y _ _ _ _ _ _ _ _ _ W s g k _ _ _ (fun W=>cmp4 k _ W hk (by omega)) _ (by rw [dsgn_ge];omega) cp cw cj
    ·rw [if_neg hi,if_neg hi]
     by_cases a1:x=0
     ·subst a1
      have a3:¬ k<10^(3*f.j):=fun q=>hi (Or.inr (Or.inr ⟨rfl,rfl,q⟩))
      exact dnan_k _ _ _ _ _ _ _ _ _ W s g k _ (fun W=>cmp4 k _ W hk (by omega)) ((dsgn_ge _ _).2 a3)
     ·exact dnan_x _ _ _ _ _ _ _ _ _ W x s g k (by simp [a1])
   ·have hi:¬ vI f ⟨c,s,g,x,k⟩:=by
     rintro (q|q|q)
     ·exact h1 q.1
     ·exact h2 q.1
     ·exact h3 q.1
    rw [if_neg hi,if_neg hi]
    exact dpack_0 _ _ _ _ _ _ _ _ _ w c x s g k (by simp [h1]) (by simp [h2]) (by simp [h3])
end
end
section
attribute [local irreducible] W4
theorem vU_good {n:Int}{B:Nat}(h:goodD n B):vUD n B=vM (fD n) B/\vUC n B=decide (vP (fD n) (vM (fD n) B)=B)/\vUE n B=0:=by
 unfold vUD vUC vUE
 exact ⟨if_pos h,decide_eq_decide.2 ⟨fun q=>q.2,fun q=>⟨h,q⟩⟩,if_pos h⟩
theorem vU_bad {n:Int}{B:Nat}(h:¬ goodD n B):vUD n B=⟨0,false,false,0,0⟩/\vUC n B=false/\vUE n B=1:=by
 unfold vUD vUC vUE
 exact ⟨if_neg h,decide_eq_false fun q=>h q.1,if_neg h⟩
end
end Go.Proofs.YtgknbdehlmlipaaGreatDoor
