/-
  Texts that the proof leans on.
-/
import Derived.Test.YtjfeaiaafbaobaaGreatDoorL37
import Derived.Test.YtjfeaiaafbaobaaGreatDoorL36
import Derived.Test.YtjfeaiaafbaobaaGreatDoorL1
import Derived.Test.YtjfeaiaafbaobaaGreatDoorL40
import Derived.Test.YtjfeaiaafbaobaaGreatDoorL42
import Derived.Test.YtjfeaiaafbaobaaGreatDoorL39
import Derived.Test.YtjfeaiaafbaobaaGreatDoorL20
import Derived.Test.YtjfeaiaafbaobaaGreatDoorL35
import Derived.Test.YtjfeaiaafbaobaaGreatDoorL23
import Derived.Test.YtjfeaiaafbaobaaGreatDoorL13
import Derived.Test.YtjfeaiaafbaobaaGreatDoorL17
import Derived.Test.YtjfeaiaafbaobaaGreatDoorL32
import Derived.Test.YtjfeaiaafbaobaaGreatDoorL19
import Derived.Test.YtjfeaiaafbaobaaGreatDoorL43
import Derived.Test.YtjfeaiaafbaobaaGreatDoorL38
import Derived.Test.YtjfeaiaafbaobaaGreatDoorL6
import Derived.Test.YtjfeaiaafbaobaaGreatDoorL21
import Derived.Test.YtjfeaiaafbaobaaGreatDoorL26
import Derived.Test.YtjfeaiaafbaobaaGreatDoorL41
import Derived.Deep.MidRow
import Derived.Test.YtjfeaiaafbaobaaGreatDoorL9
import Derived.Test.YtjfeaiaafbaobaaGreatDoorL31
import Derived.RegionTactic
import Derived.ChangeAlike
import Derived.BigRegion
import Derived.Laws.Strings2
import Derived.Test.YtjfeaiaafbaobaaGreatDoorL27
import Derived.Test.YtjfeaiaafbaobaaGreatDoorL25
import Derived.Test.YtjfeaiaafbaobaaGreatDoorL22
import Derived.Test.YtjfeaiaafbaobaaGreatDoorL24
import Derived.Test.YtjfeaiaafbaobaaGreatDoorL30
import Derived.Test.YtjfeaiaafbaobaaGreatDoorL34
import Derived.Test.YtjfeaiaafbaobaaGreatDoorL33
import Derived.Test.YtjfeaiaafbaobaaGreatDoorL4
import Derived.Test.YtjfeaiaafbaobaaGreatDoorL3
import Derived.Test.YtjfeaiaafbaobaaGreatDoorL29
import Derived.Test.YtjfeaiaafbaobaaGreatDoorL10
import Derived.Deep.Cut
import Derived.Deep.CutRange
import Derived.Test.YtjfeaiaafbaobaaGreatDoorL7
set_option maxHeartbeats 8000000
set_option linter.unusedVariables false
set_option linter.unusedSectionVars false
set_option linter.unusedSimpArgs false
set_option maxRecDepth 20000
namespace Go.Proofs.YtjfeaiaafbaobaaGreatDoor
open Go.RowKit
section
def vPV (n:Int)(d:Dat):Nat:=if decN n/\vI (fD n) d then vP (fD n) d else 0
def vPE (n:Int)(d:Dat):Int:=if decN n then (if vI (fD n) d then 0 else 3) else 1
theorem or_lay (y b r:Nat)(hb:b<2^r)(h:y*2^r+b<18446744073709551616):bits .or .u64 ((y*2^r:Nat):Int) (b:Int)=((y*2^r+b:Nat):Int):=by
 have e:=orW_eq ((y*2^r:Nat):Int) (b:Int) (by omega) (by omega)
 unfold orW at e
 rw [e,Int.toNat_natCast,Int.toNat_natCast,Nat.mul_comm y,← Nat.two_pow_add_eq_or_of_lt hb]
theorem and_lay (y r:Nat)(hr:r<64)(hy:y<18446744073709551616):bits .and .u64 (y:Int) ((2^r:Nat)-1:Int)=((y%2^r:Nat):Int):=by
 have e:=and_mask (y:=(y:Int)) (r:=r) (by omega) hr
 rw [← powCast] at e
 rw [e,Int.natCast_emod]
theorem lay_z (A at_ K:Nat)(v:Value)(w:World)(hK:K<900)(ha:at_<=600)(h:NV K A v w) :
  CB 40 #[Z4,v,.int .i64 at_] w (A4 (A*2^at_)):=by
 have:=lay_any 0 A at_ K v w (by decide) hK ha h
 rw [Z4_eq,Nat.zero_add] at this
 exact this
section
variable (n:Int)(C:Int)(s g:Bool)(x:Int)(k:Nat)(w:World)
theorem vpk_n (c35:∀ W,CQ 11 #[.int .i64 n] W (.bool false)) :
  CB 19 #[.int .i64 n,DV C s g x k] w (.tuple #[Z4,.int .i64 1]):=by
 have hsm:=cell_set_map
 go_enter Tryz.func19,Tryz.ntmps19
 go_wp2_with (go_at_call 11;refine (c35 _).mono ?_;rintro r w0 ⟨rfl,rfl⟩)
 exact bodyPost_ret (v:=.tuple #[Z4,.int .i64 1]) (by simp only [results,Tryz.results19];go_simp) rfl ⟨rfl,bgo⟩
theorem vpk_i (nm:ByteArray)(wd pr ex le mo pa:Int)(dn:Bool)
  (c35:∀ W,CQ 11 #[.int .i64 n] W (.bool true))
  (cO:∀ W,CB 14 #[.int .i64 n] W (.tuple #[IDec n nm wd pr ex le mo pa dn,.int .i64 0]))
  (cI:∀ W,CB 18 #[IDec n nm wd pr ex le mo pa dn,DV C s g x k] W (.bool false)) :
  CB 19 #[.int .i64 n,DV C s g x k] w (.tuple #[Z4,.int .i64 3]):=by
 have hsm:=cell_set_map
 go_enter Tryz.func19,Tryz.ntmps19
 go_wp2_with (first
  | (go_at_call 11;refine (c35 _).mono ?_;rintro r w0 ⟨rfl,rfl⟩)
  | (go_at_call 14;refine (cO _).mono ?_;rintro x w1 ⟨rfl,hb1⟩;obtain ⟨_,_,_,_,hA1,_⟩:=wz w hb1;obtain ⟨_,_⟩:=zf hb1 (w.heap.size+1);clear hb1)
  | (go_at_call 18;refine (cI _).mono ?_;rintro x w2 ⟨rfl,hb2⟩;obtain ⟨_,_,_,_,hA2,_⟩:=wz w hb2;obtain ⟨_,_⟩:=zf hb2 (w.heap.size+1);obtain ⟨_,_⟩:=zf hb2 w1.heap.size;clear hb2))
 exact bodyPost_ret (v:=.tuple #[Z4,.int .i64 3]) (by simp only [results,Tryz.results19];go_simp) rfl ⟨rfl,bgo⟩
end
structure VB (n:Int) (C:Int) (s g:Bool) (x:Int) (k:Nat):Prop where
 cD:∀ W,CQ 11 #[.int .i64 n] W (.bool true)
 cO:∀ W,CB 14 #[.int .i64 n] W (.tuple #[IDec n (nameN n) (((fD n).t+((fD n).w+6):Nat):Int) (3*((fD n).j:Int)+1) (expN n) (fD n).l ((fD n).l+3*2^(fD n).w-1) (3*((fD n).j:Int)) (fD n).dn,.int .i64 0])
 cI:∀ W,CB 18 #[IDec n (nameN n) (((fD n).t+((fD n).w+6):Nat):Int) (3*((fD n).j:Int)+1) (expN n) (fD n).l ((fD n).l+3*2^(fD n).w-1) (3*((fD n).j:Int)) (fD n).dn,DV C s g x k] W (.bool true)
 cS:∀ W,CB 39 #[IDec n (nameN n) (((fD n).t+((fD n).w+6):Nat):Int) (3*((fD n).j:Int)+1) (expN n) (fD n).l ((fD n).l+3*2^(fD n).w-1) (3*((fD n).j:Int)) (fD n).dn] W (.tuple #[.int .i64 (((fD n).w:Int)+5),.int .i64 ((fD n).t:Int),.int .i64 ((fD n).j:Int)])
 cN:∀ W,Calls Tryz.prog 41 #[A4 k] W fun r w'=>∃ g n cap,r=.returned (.slice (some ⟨g,0,none⟩) n cap)/\W.heap.size<g/\NT 4 k (.slice (some ⟨g,0,none⟩) n cap) w'/\Below W.heap.size W w'
theorem vb_of {n:Int}(h:decN n){d:Dat}(hk:d.k<2^256)(hi:vI (fD n) d):VB n d.c d.s d.g d.x d.k:=by
 refine ⟨fun W=>?_,fun W=>rof_dec h W,fun W=>?_,fun W=>dec_shape h _ _ _ _ _ _ W,fun W=>rnat13 _ W hk⟩
 ·have:=rdecimal_any n W
  rw [decide_eq_true h] at this
  exact this
 ·have:=ris14 (fD n) (fD_ok n) n (nameN n) (((fD n).t+((fD n).w+6):Nat):Int) (expN n) (fD n).dn d W hk
  rw [decide_eq_true hi] at this
  exact this
theorem ok_bounds {f:DF}(h:f.ok):6<=f.w/\f.w<=12/\20<=f.t/\f.t<=110/\2<=f.j/\f.j<=11/\f.t%64≠0/\-6176<=f.l/\f.l<=-101/\64<=2^f.w/\2^f.w<=4096:=by
 rcases h with ⟨h1,h2,h3,h4⟩|⟨h1,h2,h3,h4⟩|⟨h1,h2,h3,h4⟩<;>rw [h1,h2,h3,h4]<;>decide
theorem lay_to {B A at_ K R:Nat}{T:Int}{v:Value}{w:World}(hB:B<2^256)(hK:K<900)(ha:at_<=600)(h:NV K A v w)(hT:(at_:Int)=T)(hR:B+A*2^at_=R) :
  CB 40 #[A4 B,v,.int .i64 T] w (A4 R):=by
 subst hT hR
 exact lay_any B A at_ K v w hB hK ha h
theorem layz_to {A at_ K R:Nat}{T:Int}{v:Value}{w:World}(hK:K<900)(ha:at_<=600)(h:NV K A v w)(hT:(at_:Int)=T)(hR:A*2^at_=R) :
  CB 40 #[Z4,v,.int .i64 T] w (A4 R):=by
 subst hT hR
 exact lay_z A at_ K v w hK ha h
theorem p_200 {a:Nat}(h:a<=200):2^a<2^220:=Nat.pow_lt_pow_right (by decide) (by omega)
theorem vpk_inf {n:Int}(h:decN n){s:Bool}(w:World)(hi:vI (fD n) ⟨2,s,false,0,0⟩) :
  CB 19 #[.int .i64 n,DV 2 s false 0 0] w (.tuple #[A4 (vP (fD n) ⟨2,s,false,0,0⟩),.int .i64 0]):=by
 have B:=vb_of h (d:=⟨2,s,false,0,0⟩) (show (0:Nat)<2^256 by decide) hi
 obtain ⟨w6,w12,t20,t110,j2,j11,t64,l0,l1,H0,H1⟩:=ok_bounds (fD_ok n)
 have e:vP (fD n) ⟨2,s,false,0,0⟩=(if s then 2^((fD n).t+((fD n).w+5)) else 0)+30*2^((fD n).t+(fD n).w):=by
  unfold vP vPG vPR
  simp only [if_true,Nat.add_zero]
  rw [Nat.mul_assoc,← Nat.pow_add,Nat.add_comm (fD n).w (fD n).t]
 rw [e]
 have p1:=p_200 (a:=(fD n).t+((fD n).w+5)) (by omega)
 have p2:(2:Nat)^220<2^256:=by decide
 cases s
 ·exact vpk2_f n _ _ _ _ _ _ _ _ _ _ 0 0 w B.cD (by omega) (by omega) (by omega) (by omega) (by omega) (by omega) B.cN _ false _ B.cO B.cI B.cS (fun W v hv=>layz_to (at_:=(fD n).t+(fD n).w) (by decide) (by omega) hv (by omega) (by simp))
 ·exact vpk2_t n _ _ _ _ _ _ _ _ _ _ 0 0 (2^((fD n).t+((fD n).w+5))) w B.cD (by omega) (by omega) (by omega) (by omega) (by omega) (by omega) B.cN _ false _ B.cO B.cI B.cS (fun W v hv=>layz_to (at_:=(fD n).t+((fD n).w+5)) (by decide) (by omega) hv (by omega) (by omega)) (fun W v hv=>lay_to (at_:=(fD n).t+(fD n).w) (by omega) (by decide) (by omega) hv (by omega) (by simp))
theorem vpk_nan {n:Int}(h:decN n){s g:Bool}{k:Nat}(w:World)(hk:k<10^(3*(fD n).j)) :
  CB 19 #[.int .i64 n,DV 3 s g 0 k] w (.tuple #[A4 (vP (fD n) ⟨3,s,g,0,k⟩),.int .i64 0]):=by
 have ho:=fD_ok n
 obtain ⟨w6,w12,t20,t110,j2,j11,t64,l0,l1,H0,H1⟩:=ok_bounds ho
 have p2:(2:Nat)^220<2^256:=by decide
 have hk2:k<2^(fD n).t:=by
  refine Nat.lt_of_lt_of_le hk ?_
  rcases ho with ⟨h1,h2,h3,h4⟩|⟨h1,h2,h3,h4⟩|⟨h1,h2,h3,h4⟩<;>rw [h1,h3]<;>decide
 have pt:=p_200 (a:=(fD n).t) (by omega)
 have p1:=p_200 (a:=(fD n).t+((fD n).w+5)) (by omega)
 have x5:2^((fD n).t+((fD n).w+5))=32*2^((fD n).t+(fD n).w):=by rw [← Nat.add_assoc,Nat.pow_add,Nat.mul_comm]
 have x0:2^((fD n).t+(fD n).w)=2*2^((fD n).t+(fD n).w-1):=by rw [← Nat.pow_succ'];congr 1;omega
 have hpl:dlP (fD n).j k<2^(fD n).t:=by rw [ho.pt];exact dlP_lt _ _
 have hp:dlP (fD n).j k<2^256:=by omega
 have B:=vb_of h (d:=⟨3,s,g,0,k⟩) (show k<2^256 by omega) (Or.inr (Or.inr ⟨rfl,rfl,hk⟩))
 have cP:∀ W,CB 42 #[A4 k,.int .i64 ((fD n).j:Int)] W (.tuple #[A4 (dlP (fD n).j k),.int .i64 0]):=fun W=>by
  have:=rpck_any k ((fD n).j:Int) W (by omega)
  have c1:(0:Int)<=((fD n).j:Int)/\((fD n).j:Int)<=11:=by omega
  rw [ten3] at hk
  unfold dPv dPe at this
  rw [if_pos c1,if_pos c1,Int.toNat_natCast,if_pos hk,if_pos hk] at this
  exact this
 have e:vP (fD n) ⟨3,s,g,0,k⟩=(if s then 2^((fD n).t+((fD n).w+5)) else 0)+31*2^((fD n).t+(fD n).w)+(if g then 2^((fD n).t+(fD n).w-1) else 0)+(if (fD n).dn then dlP (fD n).j k else k):=by
  unfold vP vPG vPR
  simp only [show ¬ (3:Int)=2 by decide,if_false,if_true]
  rw [Nat.add_mul,Nat.mul_assoc,← Nat.pow_add,Nat.add_comm (fD n).w (fD n).t]
  have e2:(if g then 2^((fD n).w-1) else 0)*2^(fD n).t=(if g then 2^((fD n).t+(fD n).w-1) else 0):=by
   cases g
   ·simp
   ·simp only [if_true]
    rw [← Nat.pow_add];congr 1;omega
  rw [e2]
  simp only [Nat.add_assoc]
 rw [e]
 have cO:=B.cO
 have cI:=B.cI
 have cS:=B.cS
 cases hdn:(fD n).dn<;>rw [hdn] at cO cI cS<;>cases s<;>cases g<;>simp only [Bool.false_eq_true,if_false,if_true,Nat.zero_add,Nat.add_zero]
 ·exact vpk3_fff n _ _ _ _ _ _ _ _ _ _ 0 k w B.cD (by omega) (by omega) (by omega) (by omega) (by omega) (by omega) B.cN _ (31*2^((fD n).t+(fD n).w)) cO cI cS (fun W v hv=>layz_to (at_:=(fD n).t+(fD n).w) (by decide) (by omega) hv (by omega) rfl) (fun W v hv=>lay_to (at_:=0) (by omega) (by decide) (by omega) hv rfl (by omega))
 ·exact vpk3_ftf n _ _ _ _ _ _ _ _ _ _ 0 k w B.cD (by omega) (by omega) (by omega) (by omega) (by omega) (by omega) B.cN _ (31*2^((fD n).t+(fD n).w)) (31*2^((fD n).t+(fD n).w)+2^((fD n).t+(fD n).w-1)) cO cI cS (fun W v hv=>layz_to (at_:=(fD n).t+(fD n).w) (by decide) (by omega) hv (by omega) rfl) (fun W v hv=>lay_to (at_:=(fD n).t+(fD n).w-1) (by omega) (by decide) (by omega) hv (by omega) (by omega)) (fun W v hv=>lay_to (at_:=0) (by omega) (by decide) (by omega) hv rfl (by omega))
 ·exact vpk3_tff n _ _ _ _ _ _ _ _ _ _ 0 k (2^((fD n).t+((fD n).w+5))) w B.cD (by omega) (by omega) (by omega) (by omega) (by omega) (by omega) B.cN _ (2^((fD n).t+((fD n).w+5))+31*2^((fD n).t+(fD n).w)) cO cI cS (fun W v hv=>layz_to (at_:=(fD n).t+((fD n).w+5)) (by decide) (by omega) hv (by omega) (by omega)) (fun W v hv=>lay_to (at_:=(fD n).t+(fD n).w) (by omega) (by decide) (by omega) hv (by omega) rfl) (fun W v hv=>lay_to (at_:=0) (by omega) (by decide) (by omega) hv rfl (by omega))
 ·exact vpk3_ttf n _ _ _ _ _ _ _ _ _ _ 0 k (2^((fD n).t+((fD n).w+5))) w B.cD (by omega) (by omega) (by omega) (by omega) (by omega) (by omega) B.cN _ (2^((fD n).t+((fD n).w+5))+31*2^((fD n).t+(fD n).w)) (2^((fD n).t+((fD n).w+5))+31*2^((fD n).t+(fD n).w)+2^((fD n).t+(fD n).w-1)) cO cI cS (fun W v hv=>layz_to (at_:=(fD n).t+((fD n).w+5)) (by decide) (by omega) hv (by omega) (by omega)) (fun W v hv=>lay_to (at_:=(fD n).t+(fD n).w) (by omega) (by decide) (by omega) hv (by omega) rfl) (fun W v hv=>lay_to (at_:=(fD n).t+(fD n).w-1) (by omega) (by decide) (by omega) hv (by omega) (by omega)) (fun W v hv=>lay_to (at_:=0) (by omega) (by decide) (by omega) hv rfl (by omega))
 ·exact vpk3_fft n _ _ _ _ _ _ _ _ _ _ 0 k w B.cD (by omega) (by omega) (by omega) (by omega) (by omega) (by omega) B.cN _ (31*2^((fD n).t+(fD n).w)) (dlP (fD n).j k) cO cI cS (fun W v hv=>layz_to (at_:=(fD n).t+(fD n).w) (by decide) (by omega) hv (by omega) rfl) hp cP (fun W v hv=>lay_to (at_:=0) (by omega) (by decide) (by omega) hv rfl (by omega))
 ·exact vpk3_ftt n _ _ _ _ _ _ _ _ _ _ 0 k w B.cD (by omega) (by omega) (by omega) (by omega) (by omega) (by omega) B.cN _ (31*2^((fD n).t+(fD n).w)) (31*2^((fD n).t+(fD n).w)+2^((fD n).t+(fD n).w-1)) (dlP (fD n).j k) cO cI cS (fun W v hv=>layz_to (at_:=(fD n).t+(fD n).w) (by decide) (by omega) hv (by omega) rfl) (fun W v hv=>lay_to (at_:=(fD n).t+(fD n).w-1) (by omega) (by decide) (by omega) hv (by omega) (by omega)) hp cP (fun W v hv=>lay_to (at_:=0) (by omega) (by decide) (by omega) hv rfl (by omega))
 ·exact vpk3_tft n _ _ _ _ _ _ _ _ _ _ 0 k (2^((fD n).t+((fD n).w+5))) w B.cD (by omega) (by omega) (by omega) (by omega) (by omega) (by omega) B.cN _ (2^((fD n).t+((fD n).w+5))+31*2^((fD n).t+(fD n).w)) (dlP (fD n).j k) cO cI cS (fun W v hv=>layz_to (at_:=(fD n).t+((fD n).w+5)) (by decide) (by omega) hv (by omega) (by omega)) (fun W v hv=>lay_to (at_:=(fD n).t+(fD n).w) (by omega) (by decide) (by omega) hv (by omega) rfl) hp cP (fun W v hv=>lay_to (at_:=0) (by omega) (by decide) (by omega) hv rfl (by omega))
 ·exact vpk3_ttt n _ _ _ _ _ _ _ _ _ _ 0 k (2^((fD n).t+((fD n).w+5))) w B.cD (by omega) (by omega) (by omega) (by omega) (by omega) (by omega) B.cN _ (2^((fD n).t+((fD n).w+5))+31*2^((fD n).t+(fD n).w)) (2^((fD n).t+((fD n).w+5))+31*2^((fD n).t+(fD n).w)+2^((fD n).t+(fD n).w-1)) (dlP (fD n).j k) cO cI cS (fun W v hv=>layz_to (at_:=(fD n).t+((fD n).w+5)) (by decide) (by omega) hv (by omega) (by omega)) (fun W v hv=>lay_to (at_:=(fD n).t+(fD n).w) (by omega) (by decide) (by omega) hv (by omega) rfl) (fun W v hv=>lay_to (at_:=(fD n).t+(fD n).w-1) (by omega) (by decide) (by omega) hv (by omega) (by omega)) hp cP (fun W v hv=>lay_to (at_:=0) (by omega) (by decide) (by omega) hv rfl (by omega))
theorem vpk_dense {n:Int}(h:decN n)(hdn:(fD n).dn=true){s:Bool}{x:Int}{k:Nat}(w:World)(hk:k<10^(3*(fD n).j+1))(hx0:(fD n).l<=x)(hx1:x<=(fD n).l+3*2^(fD n).w-1) :
  CB 19 #[.int .i64 n,DV 1 s false x k] w (.tuple #[A4 (vP (fD n) ⟨1,s,false,x,k⟩),.int .i64 0]):=by
 have ho:=fD_ok n
 obtain ⟨w6,w12,t20,t110,j2,j11,t64,l0,l1,H0,H1⟩:=ok_bounds ho
 have hI:vI (fD n) ⟨1,s,false,x,k⟩:=Or.inl ⟨rfl,rfl,hk,hx0,hx1⟩
 have hPG:=vPG_lt ho hI
 have p2:(2:Nat)^220<2^256:=by decide
 have pt:=p_200 (a:=(fD n).t) (by omega)
 have p1:=p_200 (a:=(fD n).t+((fD n).w+5)) (by omega)
 have hk34:k<2^256:=by
  have e:(10:Nat)^(3*(fD n).j+1)<=10^34:=Nat.pow_le_pow_right (by decide) (by omega)
  have e2:(10:Nat)^34<2^256:=by decide
  omega
 have B:=vb_of h (d:=⟨1,s,false,x,k⟩) hk34 hI
 have cO:=B.cO
 have cI:=B.cI
 have cS:=B.cS
 rw [hdn] at cO cI cS
 have hD:0<(10:Nat)^(3*(fD n).j):=Nat.pow_pos (by decide)
 have ha:k/10^(3*(fD n).j)<=9:=by
  have:k/10^(3*(fD n).j)<10:=by
   rw [Nat.div_lt_iff_lt_mul hD,← Nat.pow_succ']
   exact hk
  omega
 have hr:k%10^(3*(fD n).j)<1000^(fD n).j:=by rw [← ten3];exact Nat.mod_lt _ hD
 have hpl:dlP (fD n).j (k%10^(3*(fD n).j))<2^(fD n).t:=by rw [ho.pt];exact dlP_lt _ _
 have e:vP (fD n) ⟨1,s,false,x,k⟩=(if s then 2^((fD n).t+((fD n).w+5)) else 0)+dlP (fD n).j (k%10^(3*(fD n).j))+vN true (fD n).w (x-(fD n).l).toNat (k/10^(3*(fD n).j))*2^(fD n).t:=by
  unfold vP vPG vPR vQ
  simp only [show ¬ (1:Int)=2 by decide,show ¬ (1:Int)=3 by decide,if_false,hdn,if_true]
  omega
 rw [e]
 have hrr:k%10^(3*(fD n).j)<2^256:=by have:=Nat.mod_le k (10^(3*(fD n).j));omega
 generalize hka:k/10^(3*(fD n).j)=a at *
 generalize hkr:k%10^(3*(fD n).j)=rr at *
 obtain ⟨E,hE⟩:∃ E:Nat,(x-(fD n).l).toNat=E:=⟨_,rfl⟩
 have hEx:x-(fD n).l=(E:Int):=by omega
 have hE3:E<3*2^(fD n).w:=by
  have e3:((3*2^(fD n).w:Nat):Int)=3*2^(fD n).w:=by simp
  omega
 rw [hE]
 have cW:∀ W,CE 17 #[.int .u64 10,.int .i64 (3*((fD n).j:Int))] W (NT 200 (10^(3*(fD n).j))):=fun W=>by
  have:=rpow_nt 10 (3*(fD n).j) W (by decide) (by decide) (by omega)
  rw [show ((3*(fD n).j:Nat):Int)=3*((fD n).j:Int) by omega] at this
  exact this.mono fun r w' ⟨v,e1,e2,e3⟩=>⟨v,e1,e2.more (by omega),e3⟩
 have cV:∀ W vn vd,NT 4 k vn W->NT 200 (10^(3*(fD n).j)) vd W->Calls Tryz.prog 43 #[vn,vd] W fun r w'=>∃ g k cap v,r=.returned (.tuple #[.slice (some ⟨g,0,none⟩) k cap,v])/\W.heap.size<=g/\NV 41000 a (.slice (some ⟨g,0,none⟩) k cap) w'/\NT 41000 rr v w'/\Below W.heap.size W w':=fun W vn vd h1 h2=>by
  have:=roverf_nt (K:=200) (by decide) (h1.more (by decide)) h2 (by omega)
  rw [hka,hkr] at this
  exact this
 have cP:∀ W,CB 42 #[A4 rr,.int .i64 ((fD n).j:Int)] W (.tuple #[A4 (dlP (fD n).j rr),.int .i64 0]):=fun W=>by
  have:=rpck_any rr ((fD n).j:Int) W hrr
  have c1:(0:Int)<=((fD n).j:Int)/\((fD n).j:Int)<=11:=by omega
  unfold dPv dPe at this
  rw [if_pos c1,if_pos c1,Int.toNat_natCast,if_pos hr,if_pos hr] at this
  exact this
 have cM:∀ W v,NV 41000 a v W->CQ 44 #[v] W (.int .i64 (a:Int)):=fun W v hv=>(number_wide hv (by decide) (by omega)).mono fun r w' ⟨e1,e2⟩=>⟨e1,e2.symm⟩
 have hp:dlP (fD n).j rr<2^256:=by omega
 have hQ2:E/2^(fD n).w<=2:=by
  have:E/2^(fD n).w<3:=by rw [Nat.div_lt_iff_lt_mul (Nat.two_pow_pos _)];exact hE3
  omega
 have hLt:E%2^(fD n).w<2^(fD n).w:=Nat.mod_lt _ (Nat.two_pow_pos _)
 have hH:(2:Int)^(fD n).w=((2^(fD n).w:Nat):Int):=(powCast _).symm
 have hL:=and_lay E (fD n).w (by omega) (by omega)
 have hQ:(E:Int)/((2^(fD n).w:Nat):Int)=((E/2^(fD n).w:Nat):Int):=by simp
 have hvn:vN true (fD n).w E a=(if 8<=a then 24+E/2^(fD n).w*2+a%2 else E/2^(fD n).w*8+a)*2^(fD n).w+E%2^(fD n).w:=rfl
 have x5:2^((fD n).t+((fD n).w+5))=32*(2^(fD n).w*2^(fD n).t):=by rw [← Nat.pow_add,show (32:Nat)=2^5 by decide,← Nat.pow_add];congr 1;omega
 have hS:(if s then 2^((fD n).t+((fD n).w+5)) else 0)<2^220:=by split<;>omega
 by_cases h8:8<=a
 ·rw [if_pos h8] at hvn
  have o2:=or_lay 3 (E/2^(fD n).w*2) 3 (by omega) (by omega)
  rw [show ((3*2^3:Nat):Int)=24 by decide,show ((E/2^(fD n).w*2:Nat):Int)=((E/2^(fD n).w:Nat):Int)*2 by omega] at o2
  have o3:bits .and .u64 (a:Int) 1=((a%2:Nat):Int):=and_lay a 1 (by decide) (by omega)
  have o4:=or_lay (12+E/2^(fD n).w) (a%2) 1 (by omega) (by omega)
  rw [show (((12+E/2^(fD n).w)*2^1:Nat):Int)=((3*2^3+E/2^(fD n).w*2:Nat):Int) by omega,show (12+E/2^(fD n).w)*2^1+a%2=24+E/2^(fD n).w*2+a%2 by omega] at o4
  generalize hV:24+E/2^(fD n).w*2+a%2=V at *
  have hV1:V<=31:=by omega
  have hVH:V*2^(fD n).w<=31*4096:=Nat.mul_le_mul hV1 H1
  have o5:=or_lay V (E%2^(fD n).w) (fD n).w hLt (by omega)
  rw [← hvn,Int.natCast_mul] at o5
  generalize hF:vN true (fD n).w E a=Fw at *
  cases s
  ·exact vpk1_fdb n _ _ _ _ _ _ _ _ _ _ x k w B.cD (by omega) (by omega) (by omega) (by omega) (by omega) (by omega) B.cN (E:Int) (fD n).w a _ _ _ hEx (by omega) (by omega) (by omega) (by omega) (by omega) (by omega) (by omega) w12 hH (by omega) (by omega) ha hQ (by omega) (by omega) hL _ (dlP (fD n).j rr) (dlP (fD n).j rr) 200 (10^(3*(fD n).j)) rr Fw _ _ _ _ cO cI cS hp cW cV (fun W v hv=>bits_nv hv.nv) cP cM (fun W v hv=>layz_to (at_:=0) (by decide) (by omega) hv rfl (by omega)) rfl (by omega) o2 o3 o4 (by omega) (by omega) (by rw [← Int.natCast_mul];omega) (by rw [← Int.natCast_mul];omega) o5 (by omega) (fun W v hv=>lay_to (at_:=(fD n).t) (by omega) (by decide) (by omega) hv rfl (by simp))
  ·exact vpk1_tdb n _ _ _ _ _ _ _ _ _ _ x k (2^((fD n).t+((fD n).w+5))) w B.cD (by omega) (by omega) (by omega) (by omega) (by omega) (by omega) B.cN (E:Int) (fD n).w a _ _ _ hEx (by omega) (by omega) (by omega) (by omega) (by omega) (by omega) (by omega) w12 hH (by omega) (by omega) ha hQ (by omega) (by omega) hL _ (2^((fD n).t+((fD n).w+5))+dlP (fD n).j rr) (dlP (fD n).j rr) 200 (10^(3*(fD n).j)) rr Fw _ _ _ _ cO cI cS (fun W v hv=>layz_to (at_:=(fD n).t+((fD n).w+5)) (by decide) (by omega) hv (by omega) (by omega)) hp cW cV (fun W v hv=>bits_nv hv.nv) cP cM (fun W v hv=>lay_to (at_:=0) (by omega) (by decide) (by omega) hv rfl (by omega)) rfl (by omega) o2 o3 o4 (by omega) (by omega) (by rw [← Int.natCast_mul];omega) (by rw [← Int.natCast_mul];omega) o5 (by omega) (fun W v hv=>lay_to (at_:=(fD n).t) (by simp only [if_true] at hS;omega) (by decide) (by omega) hv rfl (by simp))
 ·rw [if_neg h8] at hvn
  have o1:=or_lay (E/2^(fD n).w) a 3 (by omega) (by omega)
  rw [show ((E/2^(fD n).w*2^3:Nat):Int)=((E/2^(fD n).w:Nat):Int)*8 by omega,show E/2^(fD n).w*2^3+a=E/2^(fD n).w*8+a by omega] at o1
  generalize hV:E/2^(fD n).w*8+a=V at *
  have hV1:V<=31:=by omega
  have hVH:V*2^(fD n).w<=31*4096:=Nat.mul_le_mul hV1 H1
  have o5:=or_lay V (E%2^(fD n).w) (fD n).w hLt (by omega)
  rw [← hvn,Int.natCast_mul] at o5
  generalize hF:vN true (fD n).w E a=Fw at *
  cases s
  ·exact vpk1_fds n _ _ _ _ _ _ _ _ _ _ x k w B.cD (by omega) (by omega) (by omega) (by omega) (by omega) (by omega) B.cN (E:Int) (fD n).w a _ _ _ hEx (by omega) (by omega) (by omega) (by omega) (by omega) (by omega) (by omega) w12 hH (by omega) (by omega) ha hQ (by omega) (by omega) hL _ (dlP (fD n).j rr) (dlP (fD n).j rr) 200 (10^(3*(fD n).j)) rr Fw _ cO cI cS hp cW cV (fun W v hv=>bits_nv hv.nv) cP cM (fun W v hv=>layz_to (at_:=0) (by decide) (by omega) hv rfl (by omega)) o1 (by omega) (by omega) (by omega) (by rw [← Int.natCast_mul];omega) (by rw [← Int.natCast_mul];omega) o5 (by omega) (fun W v hv=>lay_to (at_:=(fD n).t) (by omega) (by decide) (by omega) hv rfl (by simp))
  ·exact vpk1_tds n _ _ _ _ _ _ _ _ _ _ x k (2^((fD n).t+((fD n).w+5))) w B.cD (by omega) (by omega) (by omega) (by omega) (by omega) (by omega) B.cN (E:Int) (fD n).w a _ _ _ hEx (by omega) (by omega) (by omega) (by omega) (by omega) (by omega) (by omega) w12 hH (by omega) (by omega) ha hQ (by omega) (by omega) hL _ (2^((fD n).t+((fD n).w+5))+dlP (fD n).j rr) (dlP (fD n).j rr) 200 (10^(3*(fD n).j)) rr Fw _ cO cI cS (fun W v hv=>layz_to (at_:=(fD n).t+((fD n).w+5)) (by decide) (by omega) hv (by omega) (by omega)) hp cW cV (fun W v hv=>bits_nv hv.nv) cP cM (fun W v hv=>lay_to (at_:=0) (by omega) (by decide) (by omega) hv rfl (by omega)) o1 (by omega) (by omega) (by omega) (by rw [← Int.natCast_mul];omega) (by rw [← Int.natCast_mul];omega) o5 (by omega) (fun W v hv=>lay_to (at_:=(fD n).t) (by simp only [if_true] at hS;omega) (by decide) (by omega) hv rfl (by simp))
theorem vpk_plain {n:Int}(h:decN n)(hdn:(fD n).dn=false){s:Bool}{x:Int}{k:Nat}(w:World)(hk:k<10^(3*(fD n).j+1))(hx0:(fD n).l<=x)(hx1:x<=(fD n).l+3*2^(fD n).w-1) :
  CB 19 #[.int .i64 n,DV 1 s false x k] w (.tuple #[A4 (vP (fD n) ⟨1,s,false,x,k⟩),.int .i64 0]):=by
 have ho:=fD_ok n
 obtain ⟨w6,w12,t20,t110,j2,j11,t64,l0,l1,H0,H1⟩:=ok_bounds ho
 have hI:vI (fD n) ⟨1,s,false,x,k⟩:=Or.inl ⟨rfl,rfl,hk,hx0,hx1⟩
 have p2:(2:Nat)^220<2^256:=by decide
 have pt:=p_200 (a:=(fD n).t) (by omega)
 have p1:=p_200 (a:=(fD n).t+((fD n).w+5)) (by omega)
 have hk34:k<2^256:=by
  have e:(10:Nat)^(3*(fD n).j+1)<=10^34:=Nat.pow_le_pow_right (by decide) (by omega)
  have e2:(10:Nat)^34<2^256:=by decide
  omega
 have B:=vb_of h (d:=⟨1,s,false,x,k⟩) hk34 hI
 have cO:=B.cO
 have cI:=B.cI
 have cS:=B.cS
 rw [hdn] at cO cI cS
 have ha:k/2^(fD n).t<=9:=by
  rcases ho with ⟨h1,h2,h3,h4⟩|⟨h1,h2,h3,h4⟩|⟨h1,h2,h3,h4⟩<;>rw [h3] at hk<;>rw [h1]<;>simp only [Nat.reducePow,Nat.reduceAdd,Nat.reduceMul] at*<;> omega
 have hrl:k%2^(fD n).t<2^(fD n).t:=Nat.mod_lt _ (Nat.two_pow_pos _)
 have e:vP (fD n) ⟨1,s,false,x,k⟩=(if s then 2^((fD n).t+((fD n).w+5)) else 0)+k%2^(fD n).t+vN false (fD n).w (x-(fD n).l).toNat (k/2^(fD n).t)*2^(fD n).t:=by
  unfold vP vPG vPR vQ
  simp only [show ¬ (1:Int)=2 by decide,show ¬ (1:Int)=3 by decide,if_false,hdn,Bool.false_eq_true]
  omega
 rw [e]
 have cR:∀ W vn,NT 4 k vn W->Calls Tryz.prog 45 #[vn,.int .i64 ((fD n).t:Int)] W fun r w'=>∃ g k' cap b,r=.returned (.tuple #[.slice (some ⟨g,0,none⟩) k' cap,.bool b])/\W.heap.size<=g/\NV 4 (k/2^(fD n).t) (.slice (some ⟨g,0,none⟩) k' cap) w'/\Below W.heap.size W w':=fun W vn hv=>rrightf_nv (fD n).t (by decide) (by omega) t64 hv.nv
 have cF:∀ W,CE 46 #[A4 k,.int .i64 0,.int .i64 ((fD n).t:Int)] W (NT 19 (k%2^(fD n).t)):=fun W=>by
  have:=field_any k 0 (fD n).t W hk34 (by decide) (by omega)
  rw [Nat.pow_zero,Nat.div_one] at this
  exact this
 generalize k/2^(fD n).t=a at *
 generalize k%2^(fD n).t=rr at *
 obtain ⟨E,hE⟩:∃ E:Nat,(x-(fD n).l).toNat=E:=⟨_,rfl⟩
 have hEx:x-(fD n).l=(E:Int):=by omega
 have hE3:E<3*2^(fD n).w:=by
  have e3:((3*2^(fD n).w:Nat):Int)=3*2^(fD n).w:=by simp
  omega
 rw [hE]
 have cM:∀ W v,NV 4 a v W->CQ 44 #[v] W (.int .i64 (a:Int)):=fun W v hv=>(number_wide hv (by decide) (by omega)).mono fun r w' ⟨e1,e2⟩=>⟨e1,e2.symm⟩
 have hH:(2:Int)^(fD n).w=((2^(fD n).w:Nat):Int):=(powCast _).symm
 have hvn:vN false (fD n).w E a=(if 8<=a then 3*2^((fD n).w+3)+E*2+a%2 else E*8+a):=rfl
 have hS:(if s then 2^((fD n).t+((fD n).w+5)) else 0)<2^220:=by split<;>omega
 have w3:2^((fD n).w+3)=8*2^(fD n).w:=by rw [Nat.pow_add,Nat.mul_comm]
 have w2:2^((fD n).w+2)=4*2^(fD n).w:=by rw [Nat.pow_add,Nat.mul_comm]
 by_cases h8:8<=a
 ·rw [if_pos h8] at hvn
  have o2:=or_lay 3 (E*2) ((fD n).w+3) (by omega) (by omega)
  rw [Int.natCast_mul 3,show ((E*2:Nat):Int)=(E:Int)*2 by omega] at o2
  have o3:bits .and .u64 (a:Int) 1=((a%2:Nat):Int):=and_lay a 1 (by decide) (by omega)
  have o4:=or_lay (3*2^((fD n).w+2)+E) (a%2) 1 (by omega) (by omega)
  rw [show (3*2^((fD n).w+2)+E)*2^1=3*2^((fD n).w+3)+E*2 by omega,← hvn] at o4
  have hH8:(2:Int)^((fD n).w+3)=((2^((fD n).w+3):Nat):Int):=(powCast _).symm
  generalize hF:vN false (fD n).w E a=Fw at *
  cases s
  ·exact vpk1_fpb n _ _ _ _ _ _ _ _ _ _ x k w B.cD (by omega) (by omega) (by omega) (by omega) (by omega) (by omega) B.cN (E:Int) (fD n).w a _ hEx (by omega) (by omega) (by omega) (by omega) (by omega) (by omega) (by omega) w12 hH (by omega) (by omega) ha _ rr rr Fw _ _ _ _ cO cI cS cR cF cM (fun W v hv=>layz_to (at_:=0) (by decide) (by omega) hv rfl (by omega)) rfl (by omega) hH8 (by omega) (by omega) o2 o3 o4 (by omega) (fun W v hv=>lay_to (at_:=(fD n).t) (by omega) (by decide) (by omega) hv rfl (by simp))
  ·exact vpk1_tpb n _ _ _ _ _ _ _ _ _ _ x k (2^((fD n).t+((fD n).w+5))) w B.cD (by omega) (by omega) (by omega) (by omega) (by omega) (by omega) B.cN (E:Int) (fD n).w a _ hEx (by omega) (by omega) (by omega) (by omega) (by omega) (by omega) (by omega) w12 hH (by omega) (by omega) ha _ (2^((fD n).t+((fD n).w+5))+rr) rr Fw _ _ _ _ cO cI cS (fun W v hv=>layz_to (at_:=(fD n).t+((fD n).w+5)) (by decide) (by omega) hv (by omega) (by omega)) cR cF cM (fun W v hv=>lay_to (at_:=0) (by omega) (by decide) (by omega) hv rfl (by omega)) rfl (by omega) hH8 (by omega) (by omega) o2 o3 o4 (by omega) (fun W v hv=>lay_to (at_:=(fD n).t) (by simp only [if_true] at hS;omega) (by decide) (by omega) hv rfl (by simp))
 ·rw [if_neg h8] at hvn
  have o1:=or_lay E a 3 (by omega) (by omega)
  rw [show ((E*2^3:Nat):Int)=(E:Int)*8 by omega,show E*2^3+a=E*8+a by omega,← hvn] at o1
  generalize hF:vN false (fD n).w E a=Fw at *
  cases s
  ·exact vpk1_fps n _ _ _ _ _ _ _ _ _ _ x k w B.cD (by omega) (by omega) (by omega) (by omega) (by omega) (by omega) B.cN (E:Int) (fD n).w a _ hEx (by omega) (by omega) (by omega) (by omega) (by omega) (by omega) (by omega) w12 hH (by omega) (by omega) ha _ rr rr Fw cO cI cS cR cF cM (fun W v hv=>layz_to (at_:=0) (by decide) (by omega) hv rfl (by omega)) o1 (by omega) (by omega) (fun W v hv=>lay_to (at_:=(fD n).t) (by omega) (by decide) (by omega) hv rfl (by simp))
  ·exact vpk1_tps n _ _ _ _ _ _ _ _ _ _ x k (2^((fD n).t+((fD n).w+5))) w B.cD (by omega) (by omega) (by omega) (by omega) (by omega) (by omega) B.cN (E:Int) (fD n).w a _ hEx (by omega) (by omega) (by omega) (by omega) (by omega) (by omega) (by omega) w12 hH (by omega) (by omega) ha _ (2^((fD n).t+((fD n).w+5))+rr) rr Fw cO cI cS (fun W v hv=>layz_to (at_:=(fD n).t+((fD n).w+5)) (by decide) (by omega) hv (by omega) (by omega)) cR cF cM (fun W v hv=>lay_to (at_:=0) (by omega) (by decide) (by omega) hv rfl (by omega)) o1 (by omega) (by omega) (fun W v hv=>lay_to (at_:=(fD n).t) (by simp only [if_true] at hS;omega) (by decide) (by omega) hv rfl (by simp))
theorem rpk14 (n:Int)(d:Dat)(w:World)(hk:d.k<2^256) :
  CB 19 #[.int .i64 n,d.v] w (.tuple #[A4 (vPV n d),.int .i64 (vPE n d)]):=by
 unfold vPV vPE
 by_cases h:decN n
 ·rw [if_pos h]
  by_cases hi:vI (fD n) d
  ·rw [if_pos ⟨h,hi⟩,if_pos hi]
   obtain ⟨c,s,g,x,k⟩:=d
   rcases id hi with ⟨c1,g1,k1,x1,x2⟩|⟨c1,g1,k1,x1⟩|⟨c1,x1,k1⟩
   ·simp only at c1 g1 k1 x1 x2
    subst c1 g1
    cases hdn:(fD n).dn
    ·exact vpk_plain h hdn w k1 x1 x2
    ·exact vpk_dense h hdn w k1 x1 x2
   ·simp only at c1 g1 k1 x1
    subst c1 g1 k1 x1
    exact vpk_inf h w hi
   ·simp only at c1 k1 x1
    subst c1 x1
    exact vpk_nan h w k1
  ·rw [if_neg (fun q=>hi q.2),if_neg hi,Z4_eq]
   refine vpk_i n d.c d.s d.g d.x d.k w (nameN n) _ _ (expN n) _ _ _ _ (fun W=>?_) (fun W=>rof_dec h W) (fun W=>?_)
   ·have:=rdecimal_any n W
    rw [decide_eq_true h] at this
    exact this
   ·have:=ris14 (fD n) (fD_ok n) n (nameN n) (((fD n).t+((fD n).w+6):Nat):Int) (expN n) (fD n).dn d W hk
    rw [decide_eq_false hi] at this
    exact this
 ·rw [if_neg (fun q=>h q.1),if_neg h,Z4_eq]
  refine vpk_n n d.c d.s d.g d.x d.k w (fun W=>?_)
  have:=rdecimal_any n W
  rw [decide_eq_false h] at this
  exact this
end
structure VC (n:Int) (B:Nat):Prop where
 cO:∀ W,CB 14 #[.int .i64 n] W (.tuple #[IDec n (nameN n) (((fD n).t+((fD n).w+6):Nat):Int) (3*((fD n).j:Int)+1) (expN n) (fD n).l ((fD n).l+3*2^(fD n).w-1) (3*((fD n).j:Int)) (fD n).dn,.int .i64 0])
 cS:∀ W,CB 39 #[IDec n (nameN n) (((fD n).t+((fD n).w+6):Nat):Int) (3*((fD n).j:Int)+1) (expN n) (fD n).l ((fD n).l+3*2^(fD n).w-1) (3*((fD n).j:Int)) (fD n).dn] W (.tuple #[.int .i64 (((fD n).w:Int)+5),.int .i64 ((fD n).t:Int),.int .i64 ((fD n).j:Int)])
 cF1:∀ W,CE 46 #[A4 B,.int .i64 ((fD n).t:Int),.int .i64 (((fD n).w:Int)+5)] W (NT 19 (vG (fD n) B))
 cF2:∀ W,CE 46 #[A4 B,.int .i64 0,.int .i64 ((fD n).t:Int)] W (NT 19 (vR (fD n) B))
 cF3:∀ W,CE 46 #[A4 B,.int .i64 (((fD n).t:Int)+(((fD n).w:Int)+5)),.int .i64 1] W (NT 19 (B/2^((fD n).t+((fD n).w+5))%2))
 cM1:∀ W v,NT 19 (vG (fD n) B) v W->CQ 44 #[v] W (.int .i64 (vG (fD n) B:Int))
 cM3:∀ W v,NT 19 (B/2^((fD n).t+((fD n).w+5))%2) v W->CQ 44 #[v] W (.int .i64 ((B/2^((fD n).t+((fD n).w+5))%2:Nat):Int))
 cB2:∀ W v,NT 19 (vR (fD n) B) v W->CB 15 #[v] W (A4 (vR (fD n) B))
 hAb:(vG (fD n) B:Int)<=200000
 hV:(vG (fD n) B:Int)/2^(fD n).w=((vV (fD n).w (vG (fD n) B):Nat):Int)
 hV1:vV (fD n).w (vG (fD n) B)<=31
 hsg:(((B/2^((fD n).t+((fD n).w+5))%2:Nat):Int)==1)=vS (fD n) B
theorem g_lim {f:DF}(h:f.ok)(B:Nat):vG f B<131072:=by
 have:=vG_lt f B
 rcases h with ⟨h1,h2,h3,h4⟩|⟨h1,h2,h3,h4⟩|⟨h1,h2,h3,h4⟩<;>rw [h2] at this<;>simp only [Nat.reducePow,Nat.reduceAdd] at this<;>omega
theorem vc_of {n:Int}(h:decN n)(B:Nat)(hB:B<2^256):VC n B:=by
 have ho:=fD_ok n
 obtain ⟨w6,w12,t20,t110,j2,j11,t64,l0,l1,H0,H1⟩:=ok_bounds ho
 have hg:=g_lim ho B
 refine ⟨fun W=>rof_dec h W,fun W=>dec_shape h _ _ _ _ _ _ W,fun W=>?_,fun W=>?_,fun W=>?_,fun W v hv=>?_,fun W v hv=>?_,fun W v hv=>bits_nv hv.nv,by omega,?_,?_,?_⟩
 ·have:=field_any B (fD n).t ((fD n).w+5) W hB (by omega) (by omega)
  rw [show (((fD n).w+5:Nat):Int)=((fD n).w:Int)+5 by omega] at this
  exact this
 ·have:=field_any B 0 (fD n).t W hB (by decide) (by omega)
  rw [Nat.pow_zero,Nat.div_one] at this
  exact this
 ·have:=field_any B ((fD n).t+((fD n).w+5)) 1 W hB (by omega) (by decide)
  rw [show (((fD n).t+((fD n).w+5):Nat):Int)=((fD n).t:Int)+(((fD n).w:Int)+5) by omega,Nat.pow_one] at this
  exact this
 ·exact (number_wide hv.nv (by decide) (by omega)).mono fun r w' ⟨e1,e2⟩=>⟨e1,e2.symm⟩
 ·exact (number_wide hv.nv (by decide) (by omega)).mono fun r w' ⟨e1,e2⟩=>⟨e1,e2.symm⟩
 ·unfold vV
  rw [← powCast,Int.natCast_ediv]
 ·have:=vG_lt (fD n) B
  rw [Nat.pow_add] at this
  unfold vV
  have:vG (fD n) B/2^(fD n).w<32:=by rw [Nat.div_lt_iff_lt_mul (Nat.two_pow_pos _),Nat.mul_comm];exact this
  omega
 ·unfold vS
  rw [Bool.eq_iff_iff]
  simp only [beq_iff_eq,decide_eq_true_eq]
  omega
theorem cU_of {n:Int}(B:Nat):∀ W,CB 81 #[A4 (vR (fD n) B),.int .i64 ((fD n).j:Int)] W (.tuple #[A4 (dlU (fD n).j (vR (fD n) B)),.int .i64 0]):=fun W=>by
 have ho:=fD_ok n
 obtain ⟨w6,w12,t20,t110,j2,j11,t64,l0,l1,H0,H1⟩:=ok_bounds ho
 have hr:=vR_lt (fD n) B
 have p2:=p_200 (a:=(fD n).t) (by omega)
 have p3:(2:Nat)^220<2^256:=by decide
 have:=rupk_any (vR (fD n) B) ((fD n).j:Int) W (by omega)
 have c1:(0:Int)<=((fD n).j:Int)/\((fD n).j:Int)<=11:=by omega
 rw [ho.pt] at hr
 unfold dUv dUe at this
 rw [if_pos c1,if_pos c1,Int.toNat_natCast,if_pos hr,if_pos hr] at this
 exact this
theorem vmean_s {n:Int}(h:decN n)(B:Nat)(w:World)(hB:B<2^256)(h30:vV (fD n).w (vG (fD n) B)=30∨vV (fD n).w (vG (fD n) B)=31) :
  Calls Tryz.prog 49 #[.int .i64 n,A4 B] w fun r w'=>r=.returned (vM (fD n) B).v/\Below w.heap.size w w':=by
 have ho:=fD_ok n
 obtain ⟨w6,w12,t20,t110,j2,j11,t64,l0,l1,H0,H1⟩:=ok_bounds ho
 have C:=vc_of h B hB
 have hg:=g_lim ho B
 have hr:=vR_lt (fD n) B
 have p2:=p_200 (a:=(fD n).t) (by omega)
 have p3:(2:Nat)^220<2^256:=by decide
 unfold vM vD
 by_cases e30:vV (fD n).w (vG (fD n) B)=30
 ·rw [if_pos e30]
  have:=vmn_i n _ _ _ _ _ _ _ _ _ _ B _ _ _ _ _ (fD n).w w (by omega) (by omega) (by omega) (by omega) (by omega) (by omega) C.hAb C.cF1 C.cF2 C.cF3 C.cM1 C.cM3 C.cB2 (by omega) w12 C.hV (by omega) (by have:=C.hV1;omega) C.hsg _ C.cO C.cS (by rw [e30];rfl)
  rw [show (Dat.mk 2 (vS (fD n) B) false 0 0).v=.agg #[.int .i64 2,.bool (vS (fD n) B),.bool false,.int .i64 0,.int .u64 0,.int .u64 0,.int .u64 0,.int .u64 0] by unfold Dat.v DV;simp only [W4_zero]]
  exact this
 ·have e31:vV (fD n).w (vG (fD n) B)=31:=by omega
  rw [if_neg e30,if_pos e31]
  have hgg:(bits .and .u64 ((vG (fD n) B:Int)/2^((fD n).w-1)) 1==1)=decide (vG (fD n) B/2^((fD n).w-1)%2=1):=by
   have hle:vG (fD n) B/2^((fD n).w-1)<=vG (fD n) B:=Nat.div_le_self _ _
   have:=and_lay (vG (fD n) B/2^((fD n).w-1)) 1 (by decide) (by omega)
   rw [Int.natCast_ediv,powCast] at this
   rw [show (((2^1:Nat):Int)-1)=1 by decide] at this
   rw [this,Nat.pow_one,Bool.eq_iff_iff]
   simp only [beq_iff_eq,decide_eq_true_eq]
   omega
  have b30:(((vV (fD n).w (vG (fD n) B):Nat):Int)==30)=false:=by rw [e31];rfl
  have b31:(((vV (fD n).w (vG (fD n) B):Nat):Int)==31)=true:=by rw [e31];rfl
  have cO:=C.cO
  have cS:=C.cS
  cases hdn:(fD n).dn
  ·rw [hdn] at cO cS
   have eT:vT (fD n) (vR (fD n) B)=vR (fD n) B:=by unfold vT;rw [hdn];rfl
   rw [eT]
   have cW:=fun W=>rbelowt (vR (fD n) B) (3*(fD n).j) W (by omega) (by omega)
   rw [show ((3*(fD n).j:Nat):Int)=3*((fD n).j:Int) by omega] at cW
   by_cases hlt:vR (fD n) B<10^(3*(fD n).j)
   ·rw [decide_eq_true hlt] at cW
    rw [if_pos hlt]
    exact vmn_nfy n _ _ _ _ _ _ _ _ _ _ B _ _ _ _ _ (fD n).w w (by omega) (by omega) (by omega) (by omega) (by omega) (by omega) C.hAb C.cF1 C.cF2 C.cF3 C.cM1 C.cM3 C.cB2 (by omega) w12 C.hV (by omega) (by have:=C.hV1;omega) C.hsg ((fD n).w-1) _ cO cS b30 b31 (by omega) (by omega) hgg cW
   ·rw [decide_eq_false hlt] at cW
    rw [if_neg hlt]
    have:=vmn_nfn n _ _ _ _ _ _ _ _ _ _ B _ _ _ _ _ (fD n).w w (by omega) (by omega) (by omega) (by omega) (by omega) (by omega) C.hAb C.cF1 C.cF2 C.cF3 C.cM1 C.cM3 C.cB2 (by omega) w12 C.hV (by omega) (by have:=C.hV1;omega) C.hsg ((fD n).w-1) _ cO cS b30 b31 (by omega) (by omega) hgg cW
    rw [show (Dat.mk 3 (vS (fD n) B) (decide (vG (fD n) B/2^((fD n).w-1)%2=1)) 0 0).v=.agg #[.int .i64 3,.bool (vS (fD n) B),.bool (decide (vG (fD n) B/2^((fD n).w-1)%2=1)),.int .i64 0,.int .u64 0,.int .u64 0,.int .u64 0,.int .u64 0] by unfold Dat.v DV;simp only [W4_zero]]
    exact this
  ·rw [hdn] at cO cS
   have eT:vT (fD n) (vR (fD n) B)=dlU (fD n).j (vR (fD n) B):=by unfold vT;rw [hdn];rfl
   have hlt:dlU (fD n).j (vR (fD n) B)<10^(3*(fD n).j):=by rw [ten3];exact dlU_lt _ _
   rw [eT,if_pos hlt]
   have hU:=dlU_256 (fD n).j (vR (fD n) B) j11
   have cW:=fun W=>rbelowt (dlU (fD n).j (vR (fD n) B)) (3*(fD n).j) W hU (by omega)
   rw [show ((3*(fD n).j:Nat):Int)=3*((fD n).j:Int) by omega,decide_eq_true hlt] at cW
   exact vmn_nty n _ _ _ _ _ _ _ _ _ _ B _ _ _ _ _ (fD n).w w (by omega) (by omega) (by omega) (by omega) (by omega) (by omega) C.hAb C.cF1 C.cF2 C.cF3 C.cM1 C.cM3 C.cB2 (by omega) w12 C.hV (by omega) (by have:=C.hV1;omega) C.hsg ((fD n).w-1) _ _ cO cS b30 b31 (by omega) (by omega) hgg (cU_of B) cW
theorem sgn_below {A B:Nat}(h:A<B):¬ (0:Int)<=sgn (A:Int) (B:Int):=by
 rcases sgn_ways (A:Int) (B:Int) with ⟨a,e⟩|⟨a,e⟩|⟨a,e⟩<;>omega
theorem sgn_above {A B:Nat}(h:¬ A<B):(0:Int)<=sgn (A:Int) (B:Int):=by
 rcases sgn_ways (A:Int) (B:Int) with ⟨a,e⟩|⟨a,e⟩|⟨a,e⟩<;>omega
theorem vmean_d {n:Int}(h:decN n)(hdn:(fD n).dn=true)(B:Nat)(w:World)(hB:B<2^256)(h30:vV (fD n).w (vG (fD n) B)≠30)(h31:vV (fD n).w (vG (fD n) B)≠31) :
  Calls Tryz.prog 49 #[.int .i64 n,A4 B] w fun r w'=>r=.returned (vM (fD n) B).v/\Below w.heap.size w w':=by
 have ho:=fD_ok n
 obtain ⟨w6,w12,t20,t110,j2,j11,t64,l0,l1,H0,H1⟩:=ok_bounds ho
 have Cc:=vc_of h B hB
 have hg:=g_lim ho B
 have hr:=vR_lt (fD n) B
 have p2:=p_200 (a:=(fD n).t) (by omega)
 have p3:(2:Nat)^220<2^256:=by decide
 have cO:=Cc.cO
 have cS:=Cc.cS
 rw [hdn] at cO cS
 have b30:(((vV (fD n).w (vG (fD n) B):Nat):Int)==30)=false:=by rw [beq_eq_false_iff_ne];omega
 have b31:(((vV (fD n).w (vG (fD n) B):Nat):Int)==31)=false:=by rw [beq_eq_false_iff_ne];omega
 have hH:(2:Int)^(fD n).w=((2^(fD n).w:Nat):Int):=(powCast _).symm
 have hV1:=Cc.hV1
 have hVe:=Cc.hV
 have hvv:vV (fD n).w (vG (fD n) B)=vG (fD n) B/2^(fD n).w:=rfl
 have hlow:vG (fD n) B%2^(fD n).w<2^(fD n).w:=Nat.mod_lt _ (Nat.two_pow_pos _)
 have cQ:∀ W,CE 17 #[.int .u64 10,.int .i64 (3*((fD n).j:Int)+1)] W (NV 50000 (10^(3*(fD n).j+1))):=fun W=>by
  have:=rpowt_nv (3*(fD n).j+1) W (by omega)
  rw [show ((3*(fD n).j+1:Nat):Int)=3*((fD n).j:Int)+1 by omega] at this
  exact this
 have hU:=dlU_256 (fD n).j (vR (fD n) B) j11
 have hUt:dlU (fD n).j (vR (fD n) B)<10^(3*(fD n).j):=by rw [ten3];exact dlU_lt _ _
 have cU:=cU_of (n:=n) B
 have hL:=and_lay (vG (fD n) B) (fD n).w (by omega) (by omega)
 have cP:∀ W,CE 17 #[.int .u64 10,.int .i64 (3*((fD n).j:Int))] W (NV 50000 (10^(3*(fD n).j))):=fun W=>by
  have:=rpowt_nv (3*(fD n).j) W (by omega)
  rw [show ((3*(fD n).j:Nat):Int)=3*((fD n).j:Int) by omega] at this
  exact this
 have eM:vM (fD n) B=⟨1,vS (fD n) B,false,(vF true (fD n).w (vG (fD n) B):Int)+(fD n).l,vL true (fD n).w (vG (fD n) B)*10^(3*(fD n).j)+dlU (fD n).j (vR (fD n) B)⟩:=by
  have hq:vQ (fD n)=10^(3*(fD n).j):=by unfold vQ;rw [hdn];rfl
  have ht:vT (fD n) (vR (fD n) B)=dlU (fD n).j (vR (fD n) B):=by unfold vT;rw [hdn];rfl
  unfold vM vD
  rw [if_neg h30,if_neg h31,hdn,hq,ht,if_pos]
  have h9:vL true (fD n).w (vG (fD n) B)<=9:=by unfold vL;simp only [if_true];split<;>omega
  have:=Nat.mul_le_mul_right (10^(3*(fD n).j)) h9
  rw [Nat.pow_succ]
  omega
 have hClt:vL true (fD n).w (vG (fD n) B)*10^(3*(fD n).j)+dlU (fD n).j (vR (fD n) B)<10^(3*(fD n).j+1):=by
  have h9:vL true (fD n).w (vG (fD n) B)<=9:=by unfold vL;simp only [if_true];split<;>omega
  have:=Nat.mul_le_mul_right (10^(3*(fD n).j)) h9
  rw [Nat.pow_succ]
  omega
 rw [eM]
 generalize vV (fD n).w (vG (fD n) B)=V at *
 have hF0:∀ q,q<=2->q*2^(fD n).w<=2*4096:=fun q hq=>Nat.mul_le_mul hq H1
 by_cases h24:V<24
 ·have eF:vF true (fD n).w (vG (fD n) B)=V/8*2^(fD n).w+vG (fD n) B%2^(fD n).w:=by unfold vF vV;simp only [if_true];rw [← hvv,if_pos h24]
  have eL:vL true (fD n).w (vG (fD n) B)=V%8:=by unfold vL vV;simp only [if_true];rw [← hvv,if_pos h24]
  rw [eF,eL]
  rw [eL] at hClt
  have q8:=hF0 (V/8) (by omega)
  have o1:=or_lay (V/8) (vG (fD n) B%2^(fD n).w) (fD n).w hlow (by omega)
  rw [Int.natCast_mul] at o1
  have o2:=and_lay V 3 (by decide) (by omega)
  rw [show (((2^3:Nat):Int)-1)=7 by decide,show V%2^3=V%8 from rfl] at o2
  exact vmn_ds n _ _ _ _ _ _ _ _ _ _ B _ _ _ _ _ (fD n).w w (by omega) (by omega) (by omega) (by omega) (by omega) (by omega) Cc.hAb Cc.cF1 Cc.cF2 Cc.cF3 Cc.cM1 Cc.cM3 Cc.cB2 (by omega) w12 hVe (by omega) (by omega) Cc.hsg _ _ _ _ hH (by omega) (by omega) (by omega) (by omega) (by omega) (by omega) (by omega) (by omega) ((V/8:Nat):Int) 0 0 _ (dlU (fD n).j (vR (fD n) B)) (10^(3*(fD n).j)) (V%8*10^(3*(fD n).j)) (V%8*10^(3*(fD n).j)+dlU (fD n).j (vR (fD n) B)) (10^(3*(fD n).j+1)) (V%8) cO cS b30 b31 (by omega) cU hU hL (by rw [← Int.natCast_mul];omega) (by rw [← Int.natCast_mul];omega) o1 (by omega) o2 cP (fun W v v' h1 h2=>(rtimes_nt (by decide) (by decide) h1 h2).mono fun r w' ⟨v,e1,e2,e3⟩=>⟨v,e1,e2.more (by decide),e3⟩) (fun W v v' h1 h2=>(radd_nv (by decide) (by decide) h1.nv h2).mono fun r w' ⟨v,e1,e2,e3⟩=>⟨v,e1,e2.more (by decide),e3⟩) rfl cQ (fun W v v' h1 h2=>rcmp_nv (by decide) (by decide) h1 h2) (sgn_below hClt) (fun W v hv=>bits_nv hv)
 ·have eF:vF true (fD n).w (vG (fD n) B)=V/2%4*2^(fD n).w+vG (fD n) B%2^(fD n).w:=by unfold vF vV;simp only [if_true];rw [← hvv,if_neg h24]
  have eL:vL true (fD n).w (vG (fD n) B)=8+V%2:=by unfold vL vV;simp only [if_true];rw [← hvv,if_neg h24]
  rw [eF,eL]
  rw [eL] at hClt
  have q8:=hF0 (V/2%4) (by omega)
  have o1:=or_lay (V/2%4) (vG (fD n) B%2^(fD n).w) (fD n).w hlow (by omega)
  rw [Int.natCast_mul] at o1
  have o2:=and_lay (V/2) 2 (by decide) (by omega)
  rw [show (((2^2:Nat):Int)-1)=3 by decide,show V/2%2^2=V/2%4 from rfl,show ((V/2:Nat):Int)=(V:Int)/2 by omega] at o2
  have o3:=and_lay V 1 (by decide) (by omega)
  rw [show (((2^1:Nat):Int)-1)=1 by decide,show V%2^1=V%2 from rfl] at o3
  exact vmn_db n _ _ _ _ _ _ _ _ _ _ B _ _ _ _ _ (fD n).w w (by omega) (by omega) (by omega) (by omega) (by omega) (by omega) Cc.hAb Cc.cF1 Cc.cF2 Cc.cF3 Cc.cM1 Cc.cM3 Cc.cB2 (by omega) w12 hVe (by omega) (by omega) Cc.hsg _ _ _ ((8+V%2:Nat):Int) hH (by omega) (by omega) (by omega) (by omega) (by omega) (by omega) (by omega) (by omega) ((V/2%4:Nat):Int) ((V%2:Nat):Int) 0 _ (dlU (fD n).j (vR (fD n) B)) (10^(3*(fD n).j)) ((8+V%2)*10^(3*(fD n).j)) ((8+V%2)*10^(3*(fD n).j)+dlU (fD n).j (vR (fD n) B)) (10^(3*(fD n).j+1)) (8+V%2) cO cS b30 b31 (by omega) cU hU hL (by rw [← Int.natCast_mul];omega) (by rw [← Int.natCast_mul];omega) o1 o2 o3 (by omega) (by omega) (by omega) cP (fun W v v' h1 h2=>(rtimes_nt (by decide) (by decide) h1 h2).mono fun r w' ⟨v,e1,e2,e3⟩=>⟨v,e1,e2.more (by decide),e3⟩) (fun W v v' h1 h2=>(radd_nv (by decide) (by decide) h1.nv h2).mono fun r w' ⟨v,e1,e2,e3⟩=>⟨v,e1,e2.more (by decide),e3⟩) rfl cQ (fun W v v' h1 h2=>rcmp_nv (by decide) (by decide) h1 h2) (sgn_below hClt) (fun W v hv=>bits_nv hv)
theorem vmean_p {n:Int}(h:decN n)(hdn:(fD n).dn=false)(B:Nat)(w:World)(hB:B<2^256)(h30:vV (fD n).w (vG (fD n) B)≠30)(h31:vV (fD n).w (vG (fD n) B)≠31) :
  Calls Tryz.prog 49 #[.int .i64 n,A4 B] w fun r w'=>r=.returned (vM (fD n) B).v/\Below w.heap.size w w':=by
 have ho:=fD_ok n
 obtain ⟨w6,w12,t20,t110,j2,j11,t64,l0,l1,H0,H1⟩:=ok_bounds ho
 have Cc:=vc_of h B hB
 have hg:=g_lim ho B
 have hr:=vR_lt (fD n) B
 have p2:=p_200 (a:=(fD n).t) (by omega)
 have p3:(2:Nat)^220<2^256:=by decide
 have cO:=Cc.cO
 have cS:=Cc.cS
 rw [hdn] at cO cS
 have b30:(((vV (fD n).w (vG (fD n) B):Nat):Int)==30)=false:=by rw [beq_eq_false_iff_ne];omega
 have b31:(((vV (fD n).w (vG (fD n) B):Nat):Int)==31)=false:=by rw [beq_eq_false_iff_ne];omega
 have hH:(2:Int)^(fD n).w=((2^(fD n).w:Nat):Int):=(powCast _).symm
 have hV1:=Cc.hV1
 have hVe:=Cc.hV
 have hvv:vV (fD n).w (vG (fD n) B)=vG (fD n) B/2^(fD n).w:=rfl
 have hlow:vG (fD n) B%2^(fD n).w<2^(fD n).w:=Nat.mod_lt _ (Nat.two_pow_pos _)
 have cQ:∀ W,CE 17 #[.int .u64 10,.int .i64 (3*((fD n).j:Int)+1)] W (NV 50000 (10^(3*(fD n).j+1))):=fun W=>by
  have:=rpowt_nv (3*(fD n).j+1) W (by omega)
  rw [show ((3*(fD n).j+1:Nat):Int)=3*((fD n).j:Int)+1 by omega] at this
  exact this
 have hU:vR (fD n) B<2^256:=by omega
 have hgl:=vG_lt (fD n) B
 have w5:2^((fD n).w+5)=32*2^(fD n).w:=by rw [Nat.pow_add,Nat.mul_comm]
 have w2:2^((fD n).w+2)=4*2^(fD n).w:=by rw [Nat.pow_add,Nat.mul_comm]
 have eM:vM (fD n) B=⟨1,vS (fD n) B,false,(vF false (fD n).w (vG (fD n) B):Int)+(fD n).l,if vL false (fD n).w (vG (fD n) B)*2^(fD n).t+vR (fD n) B<10^(3*(fD n).j+1) then vL false (fD n).w (vG (fD n) B)*2^(fD n).t+vR (fD n) B else 0⟩:=by
  have hq:vQ (fD n)=2^(fD n).t:=by unfold vQ;rw [hdn];rfl
  have ht:vT (fD n) (vR (fD n) B)=vR (fD n) B:=by unfold vT;rw [hdn];rfl
  unfold vM vD
  rw [if_neg h30,if_neg h31,hdn,hq,ht]
 rw [eM]
 have hDV:∀ x:Int,(Dat.mk 1 (vS (fD n) B) false x 0).v=.agg #[.int .i64 1,.bool (vS (fD n) B),.bool false,.int .i64 x,.int .u64 0,.int .u64 0,.int .u64 0,.int .u64 0]:=fun x=>by unfold Dat.v DV;simp only [W4_zero]
 generalize vV (fD n).w (vG (fD n) B)=V at *
 by_cases h24:V<24
 ·have eF:vF false (fD n).w (vG (fD n) B)=vG (fD n) B/8:=by unfold vF vV;simp only [Bool.false_eq_true,if_false];rw [← hvv,if_pos h24]
  have eL:vL false (fD n).w (vG (fD n) B)=vG (fD n) B%8:=by unfold vL vV;simp only [Bool.false_eq_true,if_false];rw [← hvv,if_pos h24]
  rw [eF,eL]
  have o2:=and_lay (vG (fD n) B) 3 (by decide) (by omega)
  rw [show (((2^3:Nat):Int)-1)=7 by decide,show vG (fD n) B%2^3=vG (fD n) B%8 from rfl] at o2
  have hF:(vG (fD n) B:Int)/8=((vG (fD n) B/8:Nat):Int):=by omega
  by_cases hlt:vG (fD n) B%8*2^(fD n).t+vR (fD n) B<10^(3*(fD n).j+1)
  ·rw [if_pos hlt]
   exact vmn_ps n _ _ _ _ _ _ _ _ _ _ B _ _ _ _ _ (fD n).w w (by omega) (by omega) (by omega) (by omega) (by omega) (by omega) Cc.hAb Cc.cF1 Cc.cF2 Cc.cF3 Cc.cM1 Cc.cM3 Cc.cB2 (by omega) w12 hVe (by omega) (by omega) Cc.hsg _ _ _ hH (by omega) (by omega) (by omega) (by omega) (by omega) (by omega) (by omega) (by omega) 0 0 0 _ 0 0 (vG (fD n) B%8*2^(fD n).t) _ (10^(3*(fD n).j+1)) (vG (fD n) B%8) cO cS b30 b31 (by omega) hF o2 hU (fun W v h1=>(rleft_nt (fD n).t (by decide) (by omega) h1).mono fun r w' ⟨v,e1,e2,e3⟩=>⟨v,e1,e2.more (by omega),e3⟩) (fun W v v' h1 h2=>(radd_nv (by decide) (by decide) h1.nv h2).mono fun r w' ⟨v,e1,e2,e3⟩=>⟨v,e1,e2.more (by decide),e3⟩) rfl cQ (fun W v v' h1 h2=>rcmp_nv (by decide) (by decide) h1 h2) (sgn_below hlt) (fun W v hv=>bits_nv hv)
  ·rw [if_neg hlt,hDV]
   exact vmn_pso n _ _ _ _ _ _ _ _ _ _ B _ _ _ _ _ (fD n).w w (by omega) (by omega) (by omega) (by omega) (by omega) (by omega) Cc.hAb Cc.cF1 Cc.cF2 Cc.cF3 Cc.cM1 Cc.cM3 Cc.cB2 (by omega) w12 hVe (by omega) (by omega) Cc.hsg _ _ _ hH (by omega) (by omega) (by omega) (by omega) (by omega) (by omega) (by omega) (by omega) 0 0 0 _ 0 0 (vG (fD n) B%8*2^(fD n).t) (vG (fD n) B%8*2^(fD n).t+vR (fD n) B) (10^(3*(fD n).j+1)) (vG (fD n) B%8) cO cS b30 b31 (by omega) hF o2 hU (fun W v h1=>(rleft_nt (fD n).t (by decide) (by omega) h1).mono fun r w' ⟨v,e1,e2,e3⟩=>⟨v,e1,e2.more (by omega),e3⟩) (fun W v v' h1 h2=>(radd_nv (by decide) (by decide) h1.nv h2).mono fun r w' ⟨v,e1,e2,e3⟩=>⟨v,e1,e2.more (by decide),e3⟩) rfl cQ (fun W v v' h1 h2=>rcmp_nv (by decide) (by decide) h1 h2) (sgn_above hlt) (fun W=>bits_none W)
 ·have eF:vF false (fD n).w (vG (fD n) B)=vG (fD n) B/2%2^((fD n).w+2):=by unfold vF vV;simp only [Bool.false_eq_true,if_false];rw [← hvv,if_neg h24]
  have eL:vL false (fD n).w (vG (fD n) B)=8+vG (fD n) B%2:=by unfold vL vV;simp only [Bool.false_eq_true,if_false];rw [← hvv,if_neg h24]
  rw [eF,eL]
  have hm:vG (fD n) B/2%2^((fD n).w+2)<2^((fD n).w+2):=Nat.mod_lt _ (Nat.two_pow_pos _)
  have hH4:(2:Int)^((fD n).w+2)=((2^((fD n).w+2):Nat):Int):=(powCast _).symm
  have o1:=and_lay (vG (fD n) B/2) ((fD n).w+2) (by omega) (by omega)
  rw [show ((vG (fD n) B/2:Nat):Int)=(vG (fD n) B:Int)/2 by omega] at o1
  have o3:=and_lay (vG (fD n) B) 1 (by decide) (by omega)
  rw [show (((2^1:Nat):Int)-1)=1 by decide,show vG (fD n) B%2^1=vG (fD n) B%2 from rfl] at o3
  by_cases hlt:(8+vG (fD n) B%2)*2^(fD n).t+vR (fD n) B<10^(3*(fD n).j+1)
  ·rw [if_pos hlt]
   exact vmn_pb n _ _ _ _ _ _ _ _ _ _ B _ _ _ _ _ (fD n).w w (by omega) (by omega) (by omega) (by omega) (by omega) (by omega) Cc.hAb Cc.cF1 Cc.cF2 Cc.cF3 Cc.cM1 Cc.cM3 Cc.cB2 (by omega) w12 hVe (by omega) (by omega) Cc.hsg _ _ ((8+vG (fD n) B%2:Nat):Int) hH (by omega) (by omega) (by omega) (by omega) (by omega) (by omega) (by omega) (by omega) 0 ((vG (fD n) B%2:Nat):Int) ((2^((fD n).w+2):Nat):Int) _ 0 0 ((8+vG (fD n) B%2)*2^(fD n).t) _ (10^(3*(fD n).j+1)) (8+vG (fD n) B%2) cO cS b30 b31 (by omega) hH4 (by omega) (by omega) o1 o3 (by omega) (by omega) (by omega) hU (fun W v h1=>(rleft_nt (fD n).t (by decide) (by omega) h1).mono fun r w' ⟨v,e1,e2,e3⟩=>⟨v,e1,e2.more (by omega),e3⟩) (fun W v v' h1 h2=>(radd_nv (by decide) (by decide) h1.nv h2).mono fun r w' ⟨v,e1,e2,e3⟩=>⟨v,e1,e2.more (by decide),e3⟩) rfl cQ (fun W v v' h1 h2=>rcmp_nv (by decide) (by decide) h1 h2) (sgn_below hlt) (fun W v hv=>bits_nv hv)
  ·rw [if_neg hlt,hDV]
   exact vmn_pbo n _ _ _ _ _ _ _ _ _ _ B _ _ _ _ _ (fD n).w w (by omega) (by omega) (by omega) (by omega) (by omega) (by omega) Cc.hAb Cc.cF1 Cc.cF2 Cc.cF3 Cc.cM1 Cc.cM3 Cc.cB2 (by omega) w12 hVe (by omega) (by omega) Cc.hsg _ _ ((8+vG (fD n) B%2:Nat):Int) hH (by omega) (by omega) (by omega) (by omega) (by omega) (by omega) (by omega) (by omega) 0 ((vG (fD n) B%2:Nat):Int) ((2^((fD n).w+2):Nat):Int) _ 0 0 ((8+vG (fD n) B%2)*2^(fD n).t) ((8+vG (fD n) B%2)*2^(fD n).t+vR (fD n) B) (10^(3*(fD n).j+1)) (8+vG (fD n) B%2) cO cS b30 b31 (by omega) hH4 (by omega) (by omega) o1 o3 (by omega) (by omega) (by omega) hU (fun W v h1=>(rleft_nt (fD n).t (by decide) (by omega) h1).mono fun r w' ⟨v,e1,e2,e3⟩=>⟨v,e1,e2.more (by omega),e3⟩) (fun W v v' h1 h2=>(radd_nv (by decide) (by decide) h1.nv h2).mono fun r w' ⟨v,e1,e2,e3⟩=>⟨v,e1,e2.more (by decide),e3⟩) rfl cQ (fun W v v' h1 h2=>rcmp_nv (by decide) (by decide) h1 h2) (sgn_above hlt) (fun W=>bits_none W)
theorem rmean14 {n:Int}(h:decN n)(B:Nat)(w:World)(hB:B<2^256) :
  Calls Tryz.prog 49 #[.int .i64 n,A4 B] w fun r w'=>r=.returned (vM (fD n) B).v/\Below w.heap.size w w':=by
 by_cases e:vV (fD n).w (vG (fD n) B)=30∨vV (fD n).w (vG (fD n) B)=31
 ·exact vmean_s h B w hB e
 ·cases hdn:(fD n).dn
  ·exact vmean_p h hdn B w hB (fun q=>e (Or.inl q)) (fun q=>e (Or.inr q))
  ·exact vmean_d h hdn B w hB (fun q=>e (Or.inl q)) (fun q=>e (Or.inr q))
section
def vUD (n:Int)(B:Nat):Dat:=if goodD n B then vM (fD n) B else ⟨0,false,false,0,0⟩
def vUC (n:Int)(B:Nat):Bool:=decide (goodD n B/\vP (fD n) (vM (fD n) B)=B)
def vUE (n:Int)(B:Nat):Int:=if goodD n B then 0 else 1
theorem vUD_256 (n:Int)(B:Nat):(vUD n B).k<2^256:=by
 unfold vUD
 split
 ·exact vM_256 (fD_ok n) B
 ·decide
theorem eq_words {X Y:Nat}(hX:X<2^256)(hY:Y<2^256):decide (W4 X 0=W4 Y 0/\W4 X 1=W4 Y 1/\W4 X 2=W4 Y 2/\W4 X 3=W4 Y 3)=decide (X=Y):=by
 refine decide_eq_decide.2 ⟨fun ⟨h0,h1,h2,h3⟩=>A4_inj hX hY fun i hi=>?_,fun h=>by rw [h];exact ⟨rfl,rfl,rfl,rfl⟩⟩
 have:i=0∨i=1∨i=2∨i=3:=by omega
 rcases this with rfl|rfl|rfl|rfl
 ·exact h0
 ·exact h1
 ·exact h2
 ·exact h3
attribute [local irreducible] W4
section
variable (n:Int)(B:Nat)(w:World)
theorem vun_n (c16:∀ W,CB 20 #[.int .i64 n,A4 B] W (.bool false)) :
  CB 23 #[.int .i64 n,A4 B] w (.tuple #[.agg #[.int .i64 0,.bool false,.bool false,.int .i64 0,.int .u64 0,.int .u64 0,.int .u64 0,.int .u64 0],.bool false,.int .i64 1]):=by
 have hsm:=cell_set_map
 go_enter Tryz.func23,Tryz.ntmps23
 go_wp2_with (go_at_call 20;refine (c16 _).mono ?_;rintro r w1 ⟨rfl,hb1⟩;obtain ⟨_,_,_,_,hA1,_⟩:=wz w hb1;obtain ⟨_,_⟩:=zf hb1 (w.heap.size+1);clear hb1)
 exact bodyPost_ret (by simp only [results,Tryz.results23];go_simp) rfl ⟨rfl,bgo⟩
theorem vun_y (c x:Int)(s g:Bool)(k P:Nat)(E:Int)(R:Bool)(hR:decide (W4 P 0=W4 B 0/\W4 P 1=W4 B 1/\W4 P 2=W4 B 2/\W4 P 3=W4 B 3)=R)
  (c16:∀ W,CB 20 #[.int .i64 n,A4 B] W (.bool true))
  (c17:∀ W,CB 49 #[.int .i64 n,A4 B] W (DV c s g x k))
  (c13:∀ W,CB 19 #[.int .i64 n,DV c s g x k] W (.tuple #[A4 P,.int .i64 E])) :
  CB 23 #[.int .i64 n,A4 B] w (.tuple #[DV c s g x k,.bool R,.int .i64 0]):=by
 have h24:=eq24 (W4 P 0) (W4 P 1) (W4 P 2) (W4 P 3) (W4 B 0) (W4 B 1) (W4 B 2) (W4 B 3)
 rw [hR] at h24
 clear hR
 have hsm:=cell_set_map
 unfold DV A4 at *
 go_enter Tryz.func23,Tryz.ntmps23
 go_wp2_with (first
  | (go_at_call 20;refine (c16 _).mono ?_;rintro r w1 ⟨rfl,hb1⟩;obtain ⟨_,_,_,_,hA1,_⟩:=wz w hb1;obtain ⟨_,_⟩:=zf hb1 (w.heap.size+1);clear hb1)
  | (go_at_call 49;refine (c17 _).mono ?_;rintro r w2 ⟨rfl,hb2⟩;obtain ⟨_,_,_,_,hA2,_⟩:=wz w hb2;obtain ⟨_,_⟩:=zf hb2 (w.heap.size+1);clear hb2)
  | (go_at_call 19;refine (c13 _).mono ?_;rintro r w3 ⟨rfl,hb3⟩;obtain ⟨_,_,_,_,hA3,_⟩:=wz w hb3;obtain ⟨_,_⟩:=zf hb3 (w.heap.size+1);obtain ⟨_,_⟩:=zf hb3 w2.heap.size;clear hb3))
 go_region_with (fail)
 all_goals go_wp2
 all_goals exact bodyPost_ret (by simp only [results,Tryz.results23];go_simp) rfl ⟨rfl,bgo⟩
end
theorem zero_v:(Dat.mk 0 false false 0 0).v=.agg #[.int .i64 0,.bool false,.bool false,.int .i64 0,.int .u64 0,.int .u64 0,.int .u64 0,.int .u64 0]:=by unfold Dat.v DV;simp only [W4_zero]
theorem vPV_of {n:Int}{B:Nat}(h:goodD n B):vPV n (vM (fD n) B)=vP (fD n) (vM (fD n) B)/\vPE n (vM (fD n) B)=0:=by
 have hi:=vM_is (fD_ok n) B
 unfold vPV vPE
 exact ⟨if_pos ⟨h.1,hi⟩,by rw [if_pos h.1,if_pos hi]⟩
theorem runp14 (n:Int)(B:Nat)(w:World)(hB:B<2^256) :
  CB 23 #[.int .i64 n,A4 B] w (.tuple #[(vUD n B).v,.bool (vUC n B),.int .i64 (vUE n B)]):=by
 have c16:=fun W=>rgood14 n B hB W
 unfold vUD vUC vUE
 by_cases h:goodD n B
 ·rw [if_pos h,if_pos h]
  rw [decide_eq_true h] at c16
  obtain ⟨e1,e2⟩:=vPV_of h
  have c13:=fun W=>rpk14 n (vM (fD n) B) W (vM_256 (fD_ok n) B)
  rw [e1] at c13
  refine vun_y n B w _ _ _ _ _ _ _ _ ?_ c16 (fun W=>rmean14 h.1 B W hB) c13
  rw [eq_words (vP_256 (fD_ok n) (vM_is (fD_ok n) B)) hB]
  exact decide_eq_decide.2 ⟨fun q=>⟨h,q⟩,fun q=>q.2⟩
 ·rw [if_neg h,if_neg h,decide_eq_false (fun q=>h q.1),zero_v]
  rw [decide_eq_false h] at c16
  exact vun_n n B w c16
end
section
theorem tnX_eq {N D:Nat}{E:Int}(hN:0<N)(hD:0<D)(h:TnE N D E):tnX N D=E:=(tnX_is hN hD).only h
theorem third:rqD 7 0 false 1 3 0 0=⟨1,false,false,-7,3333333⟩/\rqF 7 0 false 1 3 0=8/\rqE 7 0 1 3=0:=by
 have e0:rqE 7 0 1 3=0:=by
  have b1:bl 1<=2:=bl_le.2 (by decide)
  have b3:bl 3<=2:=bl_le.2 (by decide)
  unfold rqE
  rw [if_pos ⟨by unfold decN;omega,by unfold knB;omega,by decide⟩,if_neg (by omega)]
 have eX:tnX (1*10^(clT 0).toNat) (3*10^(-(clT 0)).toNat)=-1:=tnX_eq (by decide) (by decide) ⟨by decide,by decide⟩
 refine ⟨?_,?_,e0⟩
 ·unfold rqD
  rw [if_pos e0,if_neg (by decide),eX]
  have h1:(dkD (fD 7) 0 false (1*10^(clT 0).toNat) (3*10^(-(clT 0)).toNat) (-1) 0).c=1/\(dkD (fD 7) 0 false (1*10^(clT 0).toNat) (3*10^(-(clT 0)).toNat) (-1) 0).s=false/\(dkD (fD 7) 0 false (1*10^(clT 0).toNat) (3*10^(-(clT 0)).toNat) (-1) 0).g=false/\(dkD (fD 7) 0 false (1*10^(clT 0).toNat) (3*10^(-(clT 0)).toNat) (-1) 0).x=-7/\(dkD (fD 7) 0 false (1*10^(clT 0).toNat) (3*10^(-(clT 0)).toNat) (-1) 0).k=3333333:=by decide +kernel
  generalize dkD (fD 7) 0 false (1*10^(clT 0).toNat) (3*10^(-(clT 0)).toNat) (-1) 0=R at h1 ⊢
  obtain ⟨c,s,g,x,k⟩:=R
  simp only at h1
  obtain ⟨rfl,rfl,rfl,rfl,rfl⟩:=h1
  rfl
 ·unfold rqF
  rw [if_pos e0,if_neg (by decide),eX]
  decide +kernel
attribute [local irreducible] W4 Nt
end
section
theorem dat_box {w0 w:World}{c x:Int}{s g:Bool}{k:Nat}{t:TypeId}(hk:k<2^256)
  (hb:Below (w0.alloc (.cells #[.int .i64 c,.bool s,.bool g,.int .i64 x,.int .u64 (W4 k 0),.int .u64 (W4 k 1),.int .u64 (W4 k 2),.int .u64 (W4 k 3)] t)).heap.size (w0.alloc (.cells #[.int .i64 c,.bool s,.bool g,.int .i64 x,.int .u64 (W4 k 0),.int .u64 (W4 k 1),.int .u64 (W4 k 2),.int .u64 (W4 k 3)] t)) w) :
  Nt 4 k (.slice (some ⟨w0.heap.size,4,none⟩) 4 4) w:=by
 have hs:w0.heap.size<(w0.alloc (.cells #[.int .i64 c,.bool s,.bool g,.int .i64 x,.int .u64 (W4 k 0),.int .u64 (W4 k 1),.int .u64 (W4 k 2),.int .u64 (W4 k 3)] t)).heap.size:=by simp
 refine ⟨_,4,4,lowW (W4 k) 4,rfl,Nat.le_refl _,⟨Nat.le_refl _,by unfold maxLen;omega,?_,?_,Or.inr ⟨w0.heap.size,4,rfl,Nat.lt_of_lt_of_le hs hb.size,?_⟩⟩,?_⟩
 ·intro i
  by_cases hi:i<4
  ·rw [lowW_lt hi];exact W4_words k i
  ·rw [show lowW (W4 k) 4 i=0 from if_neg hi];exact ⟨Int.le_refl _,by decide⟩
 ·intro i hi
  exact if_neg (by omega)
 ·intro i hi
  rw [lowW_lt hi,hb.cell (p:=⟨w0.heap.size,4+i,none⟩) hs]
  have:i=0∨i=1∨i=2∨i=3:=by omega
  rw [World.cell?_alloc_new]
  rcases this with rfl|rfl|rfl|rfl<;>rfl
 ·rw [val_congr (x:=lowW (W4 k) 4) (y:=W4 k) 4 (fun i hi=>lowW_lt hi),W4_val4 hk]
attribute [local irreducible] W4 Nt
end
section
attribute [local irreducible] W4 Nz Nt NT
section
variable (t ba d:Int)(num wi pr ex le mo pa:Int)(nm:ByteArray)(de:Bool)(w:World)(hT:Tab w)
include hT
theorem stg_e (b0:Int)
  (c2:∀ W,Tab W->CB 59 #[.int .i64 t] W (.tuple #[.agg #[.int .i64 num,.string nm,.int .i64 b0,.int .i64 wi,.int .i64 pr,.int .i64 ex,.int .i64 le,.int .i64 mo,.int .i64 pa,.bool de],.int .i64 1])) :
  CB 29 #[.int .i64 t,.int .i64 ba,.int .i64 d] w (.tuple #[IZ,.int .i64 1]):=by
 have hsm:=cell_set_map
 go_enter Tryz.func29,Tryz.ntmps29
 go_wp2_with (go_at_call 59;refine (c2 _ (hT.go bgo)).mono ?_;rintro r w1 ⟨rfl,hb1⟩;obtain ⟨_,_,_,_,hA1,_⟩:=wz w hb1;clear hb1)
 exact bodyPost_ret (v:=.tuple #[IZ,.int .i64 1]) (by simp only [results,Tryz.results29];go_simp) rfl ⟨rfl,bgo⟩
theorem stg_b (b0:Int)(hba:(b0 != ba)=true)
  (c2:∀ W,Tab W->CB 59 #[.int .i64 t] W (.tuple #[.agg #[.int .i64 num,.string nm,.int .i64 b0,.int .i64 wi,.int .i64 pr,.int .i64 ex,.int .i64 le,.int .i64 mo,.int .i64 pa,.bool de],.int .i64 0])) :
  CB 29 #[.int .i64 t,.int .i64 ba,.int .i64 d] w (.tuple #[IZ,.int .i64 1]):=by
 have hsm:=cell_set_map
 go_enter Tryz.func29,Tryz.ntmps29
 go_wp2_with (go_at_call 59;refine (c2 _ (hT.go bgo)).mono ?_;rintro r w1 ⟨rfl,hb1⟩;obtain ⟨_,_,_,_,hA1,_⟩:=wz w hb1;clear hb1)
 exact bodyPost_ret (v:=.tuple #[IZ,.int .i64 1]) (by simp only [results,Tryz.results29];go_simp) rfl ⟨rfl,bgo⟩
variable (c2:∀ W,Tab W->CB 59 #[.int .i64 t] W (.tuple #[.agg #[.int .i64 num,.string nm,.int .i64 ba,.int .i64 wi,.int .i64 pr,.int .i64 ex,.int .i64 le,.int .i64 mo,.int .i64 pa,.bool de],.int .i64 0]))
include c2
theorem stg_k (c3:∀ W,CQ 60 #[.int .i64 d] W (.bool false)) :
  CB 29 #[.int .i64 t,.int .i64 ba,.int .i64 d] w (.tuple #[IZ,.int .i64 1]):=by
 have hsm:=cell_set_map
 have hbb:(ba != ba)=false:=bne_self_eq_false ba
 go_enter Tryz.func29,Tryz.ntmps29
 go_wp2_with (first
  | (go_at_call 59;refine (c2 _ (hT.go bgo)).mono ?_;rintro r w1 ⟨rfl,hb1⟩;obtain ⟨_,_,_,_,hA1,_⟩:=wz w hb1;clear hb1)
  | (go_at_call 60;refine (c3 _).mono ?_;rintro r w2 ⟨rfl,rfl⟩))
 exact bodyPost_ret (v:=.tuple #[IZ,.int .i64 1]) (by simp only [results,Tryz.results29];go_simp) rfl ⟨rfl,bgo⟩
theorem stg_y (c3:∀ W,CQ 60 #[.int .i64 d] W (.bool true)) :
  CB 29 #[.int .i64 t,.int .i64 ba,.int .i64 d] w (.tuple #[.agg #[.int .i64 num,.string nm,.int .i64 ba,.int .i64 wi,.int .i64 pr,.int .i64 ex,.int .i64 le,.int .i64 mo,.int .i64 pa,.bool de],.int .i64 0]):=by
 have hsm:=cell_set_map
 have hbb:(ba != ba)=false:=bne_self_eq_false ba
 go_enter Tryz.func29,Tryz.ntmps29
 go_wp2_with (first
  | (go_at_call 59;refine (c2 _ (hT.go bgo)).mono ?_;rintro r w1 ⟨rfl,hb1⟩;obtain ⟨_,_,_,_,hA1,_⟩:=wz w hb1;clear hb1)
  | (go_at_call 60;refine (c3 _).mono ?_;rintro r w2 ⟨rfl,rfl⟩))
 exact bodyPost_ret (v:=.tuple #[.agg #[.int .i64 num,.string nm,.int .i64 ba,.int .i64 wi,.int .i64 pr,.int .i64 ex,.int .i64 le,.int .i64 mo,.int .i64 pa,.bool de],.int .i64 0]) (by simp only [results,Tryz.results29];go_simp) rfl ⟨rfl,bgo⟩
end
abbrev InfV (t:Int):Value:=.agg #[.int .i64 (numN t),.string (nameN t),.int .i64 (baseN t),.int .i64 (widthN t),.int .i64 (precN t),.int .i64 (expN t),.int .i64 (leastN t),.int .i64 (mostN t),.int .i64 (payN t),.bool (denseN t)]
theorem starg_y {t ba d:Int}(w:World)(hT:Tab w)(h1:okN t)(h2:baseN t=ba)(h3:knB d) :
  CB 29 #[.int .i64 t,.int .i64 ba,.int .i64 d] w (.tuple #[InfV t,.int .i64 0]):=by
 have c2:=fun W h=>ofv_any t W h
 have c3:=fun W=>known_any d W
 rw [decide_eq_true h3] at c3
 rw [show infoE t=0 from if_pos h1,h2] at c2
 unfold InfV
 rw [h2]
 exact stg_y t ba d _ _ _ _ _ _ _ _ _ w hT c2 c3
theorem starg_n {t ba d:Int}(w:World)(hT:Tab w)(h:¬ (okN t/\baseN t=ba/\knB d)) :
  CB 29 #[.int .i64 t,.int .i64 ba,.int .i64 d] w (.tuple #[IZ,.int .i64 1]):=by
 have c2:=fun W h=>ofv_any t W h
 have c3:=fun W=>known_any d W
 by_cases h1:okN t
 ·rw [show infoE t=0 from if_pos h1] at c2
  by_cases h2:baseN t=ba
  ·rw [h2] at c2
   by_cases h3:knB d
   ·exact absurd ⟨h1,h2,h3⟩ h
   ·rw [decide_eq_false h3] at c3
    exact stg_k t ba d _ _ _ _ _ _ _ _ _ w hT c2 c3
  ·exact stg_b t ba d _ _ _ _ _ _ _ _ _ w hT _ (by rw [bne_iff_ne];exact h2) c2
 ·rw [show infoE t=1 from if_neg h1] at c2
  exact stg_e t ba d _ _ _ _ _ _ _ _ _ w hT _ c2
section
variable (num ba wi pr ex le mo pa c x:Int)(nm:ByteArray)(de s g:Bool)(k Q:Nat)(hk:k<2^256)(w:World)(cm:Int)
 (c61:∀ W,Calls Tryz.prog 61 #[.int .i64 ba,.int .i64 pa] W fun r w'=>∃ v,r=.returned (.tuple #[v,.int .i64 0])/\Nt 2001 Q v w'/\Below W.heap.size W w')
 (c64:∀ W v u,Nt 4 k v W->Nt 2001 Q u W->CB 64 #[v,u] W (.int .i64 cm))
include hk c61 c64
theorem scnv_l (h:cm<0) :
  CB 31 #[.agg #[.int .i64 num,.string nm,.int .i64 ba,.int .i64 wi,.int .i64 pr,.int .i64 ex,.int .i64 le,.int .i64 mo,.int .i64 pa,.bool de],DV c s g x k] w (.tuple #[DV c s false x k,.int .i64 (if g then 1 else 0)]):=by
 have hbx:=fun W hW=>dat_box (w0:=w.alloc (.cells #[.int .i64 num,.string nm,.int .i64 ba,.int .i64 wi,.int .i64 pr,.int .i64 ex,.int .i64 le,.int .i64 mo,.int .i64 pa,.bool de] 57)) (w:=W) (c:=c) (s:=s) (g:=g) (x:=x) (t:=38) hk hW
 have h':¬ 0<=cm:=by omega
 have h'':decide (0<=cm)=false:=decide_eq_false h'
 have hsm:=cell_set_map
 cases g
 all_goals (
  go_enter Tryz.func31,Tryz.ntmps31
  go_wp2_with (first
   | (go_at_call 61;refine (c61 _).mono ?_;rintro r w1 ⟨v1,rfl,hv1,hb1⟩;have hv0:=hbx _ (bnx (below1 _ _) hb1);obtain ⟨_,_,_,_,hA1,_⟩:=wz w hb1;obtain ⟨_,_⟩:=zf hb1 (w.heap.size+1);obtain ⟨_,_⟩:=zf hb1 (w.heap.size+1+1);clear hb1)
   | (go_at_call 64;refine (c64 _ _ _ (by simpa using hv0) hv1).mono ?_;rintro r w2 ⟨rfl,hb2⟩;obtain ⟨_,_,_,_,hA2,_⟩:=wz w hb2;obtain ⟨_,_⟩:=zf hb2 (w.heap.size+1);obtain ⟨_,_⟩:=zf hb2 (w.heap.size+1+1);clear hb2))
  exact bodyPost_ret (by simp only [results,Tryz.results31];go_simp) rfl ⟨rfl,bgo⟩)
theorem scnv_g (h:0<=cm) :
  CB 31 #[.agg #[.int .i64 num,.string nm,.int .i64 ba,.int .i64 wi,.int .i64 pr,.int .i64 ex,.int .i64 le,.int .i64 mo,.int .i64 pa,.bool de],DV c s g x k] w (.tuple #[DV c s false x 0,.int .i64 (if g then 1 else 0)]):=by
 have hbx:=fun W hW=>dat_box (w0:=w.alloc (.cells #[.int .i64 num,.string nm,.int .i64 ba,.int .i64 wi,.int .i64 pr,.int .i64 ex,.int .i64 le,.int .i64 mo,.int .i64 pa,.bool de] 57)) (w:=W) (c:=c) (s:=s) (g:=g) (x:=x) (t:=38) hk hW
 have h'':decide (0<=cm)=true:=decide_eq_true h
 have hz:DV c s false x 0=.agg #[.int .i64 c,.bool s,.bool false,.int .i64 x,.int .u64 0,.int .u64 0,.int .u64 0,.int .u64 0]:=by unfold DV;simp only [W4_zero]
 rw [hz]
 clear hz
 have hsm:=cell_set_map
 cases g
 all_goals (
  go_enter Tryz.func31,Tryz.ntmps31
  go_wp2_with (first
   | (go_at_call 61;refine (c61 _).mono ?_;rintro r w1 ⟨v1,rfl,hv1,hb1⟩;have hv0:=hbx _ (bnx (below1 _ _) hb1);obtain ⟨_,_,_,_,hA1,_⟩:=wz w hb1;obtain ⟨_,_⟩:=zf hb1 (w.heap.size+1);obtain ⟨_,_⟩:=zf hb1 (w.heap.size+1+1);clear hb1)
   | (go_at_call 64;refine (c64 _ _ _ (by simpa using hv0) hv1).mono ?_;rintro r w2 ⟨rfl,hb2⟩;obtain ⟨_,_,_,_,hA2,_⟩:=wz w hb2;obtain ⟨_,_⟩:=zf hb2 (w.heap.size+1);obtain ⟨_,_⟩:=zf hb2 (w.heap.size+1+1);clear hb2))
  exact bodyPost_ret (by simp only [results,Tryz.results31];go_simp) rfl ⟨rfl,bgo⟩)
end
theorem sconv_v (t:Int)(Q:Nat)(hQ:∀ W,Calls Tryz.prog 61 #[.int .i64 (baseN t),.int .i64 (payN t)] W fun r w'=>∃ v,r=.returned (.tuple #[v,.int .i64 0])/\Nt 2001 Q v w'/\Below W.heap.size W w')(c x:Int)(s g:Bool){k:Nat}(hk:k<2^256)(w:World) :
  CB 31 #[InfV t,DV c s g x k] w (.tuple #[DV c s false x (if k<Q then k else 0),.int .i64 (if g then 1 else 0)]):=by
 have c64:∀ W v u,Nt 4 k v W->Nt 2001 Q u W->CB 64 #[v,u] W (.int .i64 (sgn (k:Int) (Q:Int))):=fun W v u h1 h2=>ncmp_v (by decide) (by decide) h1 h2
 by_cases h:k<Q
 ·rw [if_pos h]
  refine scnv_l _ _ _ _ _ _ _ _ c x _ _ s g k Q hk w _ hQ c64 ?_
  rcases sgn_ways (k:Int) (Q:Int) with ⟨x,e⟩|⟨x,e⟩|⟨x,e⟩<;>omega
 ·rw [if_neg h]
  refine scnv_g _ _ _ _ _ _ _ _ c x _ _ s g k Q hk w _ hQ c64 ?_
  rcases sgn_ways (k:Int) (Q:Int) with ⟨x,e⟩|⟨x,e⟩|⟨x,e⟩<;>omega
end
end Go.Proofs.YtjfeaiaafbaobaaGreatDoor

namespace Go.Proofs.YtjfeaiaafbaobaaGreatDoor
theorem dec_cut (s:Bool){D:List UInt8}{e ex:Int}(hg:gdD D)(h0:D≠[])(hl:D.length<=3950)(he:-50000<=ex/\ex<=50000)(hE:e=ex+D.length-1) :
  cutP (sgL s++unT D e)=some ⟨1,s,false,D,ex⟩:=by
 cases D with
 | nil=>exact absurd rfl h0
 | cons c r =>
  have ha:=gdD_all hg
  rw [List.all_cons,Bool.and_eq_true] at ha
  have hc0:(c.toNat:Int)≠48:=by
   rcases hg with h|⟨_,h⟩
   ·cases h
   ·rw [by_zero] at h;exact h
  rw [List.length_cons] at hl hE
  have:=un_cut s (e:=e) ha.1 hc0 ha.2 (by omega) (by omega)
  rw [this,hE]
  congr 2
  omega
end Go.Proofs.YtjfeaiaafbaobaaGreatDoor

namespace Go.Proofs.YtjfeaiaafbaobaaGreatDoor
open Go.RowKit
theorem zero_cut (s:Bool){e:Int}(he:-100000<=e/\e<=100000):cutP (sgL s++unT [48] e)=some ⟨1,s,false,[],e⟩:=by
 have hlen:(unT [48] e).length<=26:=by have:=unT_brief (D:=[48]) he;rw [List.length_cons,List.length_nil] at this;omega
 obtain ⟨x1,x2,x3,x4,x5⟩:=ex_any e (by omega)
 have hu:unT [48] e=[48]++(101::Lib.itoa e):=rfl
 have key:finB (unT [48] e)=true/\finD (unT [48] e)=[]/\finE (unT [48] e)=e/\∃ t,unT [48] e=48::t:=by
  rw [hu]
  obtain ⟨d1,d2⟩:=dgs_app2 (l:=[48]) (m:=101::Lib.itoa e) (by decide) x4
  have f1:frac ([48]++101::Lib.itoa e)=[]:=by unfold frac;rw [d2,x3];rfl
  have f2:behind ([48]++101::Lib.itoa e)=101::Lib.itoa e:=by unfold behind;rw [d2,x3];rfl
  refine ⟨?_,?_,?_,_,rfl⟩
  ·unfold finB;rw [f1,f2,x1,d1];rfl
  ·unfold finD;rw [f1,d1];rfl
  ·unfold finE;rw [f1,f2,x2]
   rw [show e-((([]:List UInt8).length:Nat):Int)=e by simp]
   exact clamp_id (by omega)
 obtain ⟨k1,k2,k3,t,k4⟩:=key
 unfold cutP
 have hs:(sgL s++unT [48] e).length<=4000:=by
  rw [List.length_append]
  have:(sgL s).length<=1:=by cases s<;>decide
  omega
 rw [if_neg (by omega)]
 have hsg:gsgB (sgL s++unT [48] e)=s/\sgR (sgL s++unT [48] e)=unT [48] e:=by
  rw [k4]
  exact sig_app s 48 t ⟨by decide,by decide⟩
 rw [hsg.1,hsg.2]
 unfold bodP
 rw [if_pos k1,k2,k3]
def wtD (k:Nat):List UInt8:=if k=0 then [48] else dcL k
def xtT (v:Dat):List UInt8:=if v.c=1 then sgL v.s++unT (wtD v.k) (v.x+(wtD v.k).length-1) else texT v.c v.s v.g (dcL v.k) 0
def xtP (v:Dat):Prt:=⟨v.c,v.s,v.g,dcL v.k,if v.c=1 then v.x else 0⟩
theorem dcL_ne {k:Nat}(h0:k≠0)(hk:k<2^256):dcL k≠[]:=by
 obtain ⟨f1,f2,f3⟩:=dcL_facts hk
 intro e
 rw [e,dV_nil] at f2
 exact h0 f2.symm
theorem vI_k {f:DF}(hf:f.ok){v:Dat}(h:vI f v):v.k<2^256:=by
 obtain ⟨m0,m1,l0,l1,lm,j0,j1⟩:=ok_m hf
 have h1:(10:Nat)^(3*f.j+1)<=10^34:=Nat.pow_le_pow_right (by decide) (by omega)
 have h2:(10:Nat)^(3*f.j)<=10^34:=Nat.pow_le_pow_right (by decide) (by omega)
 have h3:(10:Nat)^34<2^256:=by decide
 rcases h with ⟨_,_,a,_⟩|⟨_,_,a,_⟩|⟨_,_,a⟩
 ·omega
 ·rw [a];decide
 ·omega
theorem xt_cut {f:DF}(hf:f.ok){v:Dat}(h:vI f v):cutP (xtT v)=some (xtP v)/\(xtT v).length<=3001:=by
 obtain ⟨m0,m1,l0,l1,lm,j0,j1⟩:=ok_m hf
 have hk:=vI_k hf h
 obtain ⟨f1,f2,f3⟩:=dcL_facts hk
 obtain ⟨c,s,g,x,k⟩:=v
 unfold xtT xtP
 dsimp only at *
 rcases h with ⟨h1,h2,h3,h4,h5⟩|⟨h1,h2,h3,h4⟩|⟨h1,h2,h3⟩
 ·dsimp only at h1 h2 h3 h4 h5
  subst h1 h2
  have hx:-10000<=x/\x<=10000:=by unfold DF.m at *;omega
  rw [if_pos rfl,if_pos rfl]
  unfold wtD
  by_cases h0:k=0
  ·rw [if_pos h0,h0,show dcL 0=[] by kernel_rfl,show x+((([48]:List UInt8).length:Nat):Int)-1=x by simp]
   refine ⟨zero_cut s (by omega),?_⟩
   have hlen:(unT [48] x).length<=26:=by have:=unT_brief (D:=[48]) (e:=x) (by omega);rw [List.length_cons,List.length_nil] at this;omega
   rw [List.length_append]
   have:(sgL s).length<=1:=by cases s<;>decide
   omega
  ·rw [if_neg h0]
   refine ⟨dec_cut s f1 (dcL_ne h0 hk) (by omega) (by omega) rfl,?_⟩
   have hlen:=unT_brief (D:=dcL k) (e:=x+(dcL k).length-1) (by omega)
   rw [List.length_append]
   have:(sgL s).length<=1:=by cases s<;>decide
   omega
 ·dsimp only at h1 h2 h3 h4
  subst h1 h2 h3 h4
  have e0:dcL 0=[]:=by kernel_rfl
  rw [e0]
  exact ⟨by cases s<;>kernel_rfl,by cases s<;>decide⟩
 ·dsimp only at h1 h2 h3
  subst h1 h2
  have hlen:(texT 3 s g (dcL k) 0).length<=3001:=by
   have:=tex_len2 (c:=3) (s:=s) (g:=g) (d:=dcL k) (e:=0) (by decide)
   omega
  have hj:=(jn_of_gd (p:=⟨3,s,g,dcL k,0⟩) ⟨f1,Or.inr (Or.inr ⟨rfl,rfl,by show (texT 3 s g (dcL k) 0).length<=4000;omega⟩)⟩).2
  exact ⟨hj,hlen⟩
section
abbrev zd:Array Value:=#[.int .i64 0,.bool false,.bool false,.int .i64 0,.int .u64 0,.int .u64 0,.int .u64 0,.int .u64 0]
theorem below_cellsD {n b:Nat}{a:World}(hb:n<=b):∀ (vs:List Value) (o:Nat) (W:World),Below n a W->Below n a (W.setCells b o vs)
 | [],_,_,h=>h
 | v::r,o,W,h=>below_cellsD hb r (o+1) _ (h.setCell hb v)
def D8 (g:Nat)(cs:Array Value)(w:World):Prop:=g<w.heap.size/\cs.size=8/\(∀ i,i<8->w.cell? ⟨g,i,none⟩=cs[i]?)/\∀ i,w.frozen? ⟨g,i,none⟩=false
theorem D8.next {g:Nat}{cs:Array Value}{w w':World}(h:D8 g cs w)(hb:Below w.heap.size w w'):D8 g cs w' :=
 ⟨Nat.lt_of_lt_of_le h.1 hb.size,h.2.1,fun i hi=>(hb.cell (p:=⟨g,i,none⟩) h.1).trans (h.2.2.1 i hi),fun i=>(hb.frozen (p:=⟨g,i,none⟩) h.1).trans (h.2.2.2 i)⟩
theorem D8.new (w:World):D8 w.heap.size zd (w.alloc (.cells zd 38)):=by
 refine ⟨by simp,rfl,fun i hi=>?_,fun i=>?_⟩
 ·rw [World.cell?_alloc_new]
 ·simp [go_sem]
theorem D8.put {g:Nat}{cs cs':Array Value}{w:World}(h:D8 g cs w)(hs:cs'.size=8):D8 g cs' (w.setCells g 0 cs'.toList):=by
 have hin:=World.cell?_setCells_in g cs'.toList 0 w (fun j hj=>by
  rw [Nat.zero_add,h.2.2.1 j (by simpa [hs] using hj),Array.getElem?_eq_getElem (by rw [h.2.1];simpa [hs] using hj)];rfl)
 refine ⟨Nat.lt_of_lt_of_le h.1 (below_cellsD (n:=0) (Nat.zero_le _) _ _ _ (Below.refl 0 w)).size,hs,fun i hi=>?_,fun i=>?_⟩
 ·have:=hin i (by simpa [hs] using hi)
  rw [Nat.zero_add] at this
  rw [this,Array.getElem?_eq_getElem (by rw [hs];exact hi)]
  simp
 ·rw [World.frozen?_setCells];exact h.2.2.2 i
attribute [local irreducible] W4 Nt NT
section
variable {a:Act}{w:World}{K:Act->World->Prop}{Q:Exit->Act->World->Prop}{d p q:Nat}{ty:TypeId}{pos:String}{after:Array Edge}{gd:Option (Nat×Bool)}
end
end
section
attribute [local irreducible] W4 Nt
def dwT (n:Int)(Bp:Nat):List UInt8:=if goodD n Bp then xtT (vM (fD n) Bp) else []
end
section
structure DtxC (TT:World->Prop):Prop where
 next:∀ w w',TT w->Below w.heap.size w w'->TT w'
 t10:∀ w,TT w->Tb10 w
 wr:∀ n Bp W,Bp<2^256->TT W->CB 24 #[.int .i64 n,A4 Bp] W (.tuple #[.string (B (dwT n Bp)),.int .i64 (vUE n Bp)])
attribute [local irreducible] W4
end
section
attribute [local irreducible] W4 NT NV
section
variable (t d:Int)(c x:Int)(s g:Bool)(k:Nat)(w:World)
end
section
variable (m t d:Int)(B:Nat)(w:World)
end
def ciV (t d:Int)(D:Dat):Nat:=if D.c=2 then pkV t ⟨2,D.s,false,0,0⟩ else if D.c=3 then pkV t ⟨3,D.s,false,0,if D.k<2^(fN t-1) then D.k else 0⟩ else rdV t d D.s (tN D.k D.x) (tD D.x) D.x
def ciF (t d:Int)(D:Dat):Int:=if D.c=2 then 0 else if D.c=3 then (if D.g then 1 else 0) else rdF t d D.s (tN D.k D.x) (tD D.x) D.x
theorem vI_x {f:DF}(hf:f.ok){v:Dat}(h:vI f v):-10000<=v.x/\v.x<=10000:=by
 obtain ⟨m0,m1,l0,l1,lm,j0,j1⟩:=ok_m hf
 unfold DF.m at *
 rcases h with ⟨_,_,_,a,b⟩|⟨_,_,_,a⟩|⟨_,a,_⟩<;>omega
def xiG (m t d:Int)(B:Nat):Prop:=goodD m B/\binN t/\knB d
instance (m t d:Int) (B:Nat):Decidable (xiG m t d B):=inferInstanceAs (Decidable (_/\_))
def xiV (m t d:Int)(B:Nat):Nat:=if xiG m t d B then ciV t d (vM (fD m) B) else 0
def xiF (m t d:Int)(B:Nat):Int:=if xiG m t d B then ciF t d (vM (fD m) B) else 0
def xiE (m t d:Int)(B:Nat):Int:=if xiG m t d B then 0 else 1
end
section
structure CrnC (TT:World->Prop):Prop where
 next:∀ w w',TT w->Below w.heap.size w w'->TT w'
 cv:∀ m t d Bp W,Bp<2^256->TT W->CB 9 #[.int .i64 m,.int .i64 t,.int .i64 d,A4 Bp] W (.tuple #[A4 (xiV m t d Bp),.int .i64 (xiF m t d Bp),.int .i64 (xiE m t d Bp)])
structure RdbC (TT:World->Prop):Prop where
 rd:∀ n d l p W,binN n->knB d->cutP l=some p->l.length<=3001->TT W->CB 25 #[.int .i64 n,.int .i64 d,.string (B l)] W (.tuple #[A4 (mkV n d p),.int .i64 (mkF n d p),.int .i64 0])
theorem one_ld:ld 1 1=0:=by
 have e3:bl 1=1:=bl_eq (by decide) (by decide)
 unfold ld
 rw [e3]
 decide
theorem one_X:rX 3 1 1 0=0:=by unfold rX;rw [one_ld];decide
theorem one_Q:rQ 3 1 1 0=-23:=by unfold rQ;rw [one_ld,one_X];decide
theorem one_C:rC 3 0 false 1 1 0=8388608:=by unfold rC;rw [one_X,one_Q];decide
theorem one_bl:bl 8388608=24:=bl_eq (by decide) (by decide)
theorem one_V:rdV 3 0 false 1 1 0=1065353216:=by
 unfold rdV rQ' rC'
 rw [one_C,one_bl,one_Q]
 decide
theorem one_F:rdF 3 0 false 1 1 0=0:=by
 unfold rdF rQ'
 rw [one_C,one_bl,one_Q,one_X,one_ld]
 decide
theorem awk18_T:xiV 10 3 0 575668225=1065353216/\xiF 10 3 0 575668225=0/\xiE 10 3 0 575668225=0:=by
 have hg:xiG 10 3 0 575668225:=⟨by decide,by decide,by decide⟩
 unfold xiV xiF xiE
 rw [if_pos hg,if_pos hg,if_pos hg]
 have hu:vM (fD 10) 575668225=⟨1,false,false,0,1⟩:=by kernel_rfl
 rw [hu]
 exact ⟨one_V,one_F,rfl⟩
theorem awk18_W:(W4 575668225 0=575668225/\W4 575668225 1=0/\W4 575668225 2=0/\W4 575668225 3=0)/\(W4 1065353216 0=1065353216/\W4 1065353216 1=0/\W4 1065353216 2=0/\W4 1065353216 3=0):=⟨⟨by decide,by decide,by decide,by decide⟩,⟨by decide,by decide,by decide,by decide⟩⟩
attribute [local irreducible] W4
theorem awake18 {TT:World->Prop}(h:CrnC TT)(w:World)(hT:TT w):CB 8 #[] w (.bool true):=by
 have c9:=fun W hW=>h.cv 10 3 0 575668225 W (by decide) hW
 obtain ⟨e1,e2,e4⟩:=awk18_T
 obtain ⟨⟨w0,w1,w2,w3⟩,u0,u1,u2,u3⟩:=awk18_W
 have e3:=eq24 1065353216 0 0 0 1065353216 0 0 0
 rw [decide_eq_true ⟨rfl,rfl,rfl,rfl⟩] at e3
 rw [e1,e2,e4] at c9
 unfold A4 at c9
 rw [w0,w1,w2,w3,u0,u1,u2,u3] at c9
 clear w0 w1 w2 w3 u0 u1 u2 u3 e1 e2 e4
 have hsm:=cell_set_map
 go_enter Tryz.func8,Tryz.ntmps8
 go_wp2_with (go_at_call 9;refine (c9 _ (h.next _ _ hT bgo)).mono ?_;rintro r w1 ⟨rfl,hb1⟩;obtain ⟨_,_,hA1,_⟩:=wf w hb1;clear hb1)
 go_ret
 exact ⟨by first|rfl|simp,bgo⟩
section
variable (TT:World->Prop)(hTT:∀ w w',TT w->Below w.heap.size w w'->TT w')(w:World)(hT:TT w)
 (c8:∀ W,TT W->CB 8 #[] W (.bool true))
variable (m t d:Int)(Bp:Nat)
include hTT hT c8
theorem tx18_n (b1 b2 b3:Bool)(hn:(b1&&b2&&b3)=false)
  (c15:∀ W,CB 20 #[.int .i64 m,A4 Bp] W (.bool b1))
  (c14:∀ W,CQ 12 #[.int .i64 t] W (.bool b2))
  (c10:∀ W,CQ 13 #[.int .i64 d] W (.bool b3)) :
  CB 6 #[.int .i64 m,.int .i64 t,.int .i64 d,A4 Bp] w (.bool true):=by
 have hsm:=cell_set_map
 unfold A4 at *
 cases b1<;>cases b2<;>cases b3<;>simp only [Bool.and_self,Bool.and_true,Bool.and_false,Bool.true_and,Bool.false_and,Bool.true_eq_false] at hn
 all_goals (
  clear hn
  go_enter Tryz.func6,Tryz.ntmps6
  go_wp2_with (first
   | (have:=hA2;go_at_call 8;refine (c8 _ (hTT _ _ hT bgo)).mono ?_;rintro r w4 ⟨rfl,hb4⟩;obtain ⟨_,_,_,_,hA4,_⟩:=wz w hb4;clear hb4)
   | (go_at_call 8;refine (c8 _ (hTT _ _ hT bgo)).mono ?_;rintro r w1 ⟨rfl,hb1⟩;obtain ⟨_,_,_,_,hA1,_⟩:=wz w hb1;clear hb1)
   | (go_at_call 20;refine (c15 _).mono ?_;rintro r w2 ⟨rfl,hb2⟩;obtain ⟨_,_,_,_,hA2,_⟩:=wz w hb2;clear hb2)
   | (go_at_call 12;refine (c14 _).mono ?_;rintro r w3 ⟨rfl,rfl⟩)
   | (go_at_call 13;refine (c10 _).mono ?_;rintro r w3 ⟨rfl,rfl⟩))
  go_ret
  exact ⟨by first|rfl|simp,bgo⟩)
variable (c15:∀ W,CB 20 #[.int .i64 m,A4 Bp] W (.bool true))
 (c14:∀ W,CQ 12 #[.int .i64 t] W (.bool true))
 (c10:∀ W,CQ 13 #[.int .i64 d] W (.bool true))
include c15 c14 c10
variable (c x:Int)(s g ok:Bool)(k:Nat)
 (c21:∀ W,CB 23 #[.int .i64 m,A4 Bp] W (.tuple #[DV c s g x k,.bool ok,.int .i64 0]))
include c21
theorem tx18_a (hc:c=3) :
  CB 6 #[.int .i64 m,.int .i64 t,.int .i64 d,A4 Bp] w (.bool true):=by
 subst hc
 have hsm:=cell_set_map
 unfold DV A4 at *
 go_enter Tryz.func6,Tryz.ntmps6
 go_wp2_with (first
  | (go_at_call 8;refine (c8 _ (hTT _ _ hT bgo)).mono ?_;rintro r w1 ⟨rfl,hb1⟩;obtain ⟨_,_,_,_,hA1,_⟩:=wz w hb1;clear hb1)
  | (go_at_call 20;refine (c15 _).mono ?_;rintro r w2 ⟨rfl,hb2⟩;obtain ⟨_,_,_,_,hA2,_⟩:=wz w hb2;clear hb2)
  | (go_at_call 12;refine (c14 _).mono ?_;rintro r w3 ⟨rfl,rfl⟩)
  | (go_at_call 13;refine (c10 _).mono ?_;rintro r w3 ⟨rfl,rfl⟩)
  | (go_at_call 23;refine (c21 _).mono ?_;rintro r w4 ⟨rfl,hb4⟩;obtain ⟨_,_,_,_,hA4,_⟩:=wz w hb4;clear hb4))
 go_ret
 exact ⟨by first|rfl|simp,bgo⟩
theorem tx18_y (hc:(c==3)=false)(T:ByteArray)(V:Nat)(F:Int)
  (c9:∀ W,TT W->CB 24 #[.int .i64 m,A4 Bp] W (.tuple #[.string T,.int .i64 0]))
  (c12:∀ W,TT W->CB 9 #[.int .i64 m,.int .i64 t,.int .i64 d,A4 Bp] W (.tuple #[A4 V,.int .i64 F,.int .i64 0]))
  (c13:∀ W,TT W->CB 25 #[.int .i64 t,.int .i64 d,.string T] W (.tuple #[A4 V,.int .i64 F,.int .i64 0])) :
  CB 6 #[.int .i64 m,.int .i64 t,.int .i64 d,A4 Bp] w (.bool true):=by
 have hsm:=cell_set_map
 have e1:=eq24 (W4 V 0) (W4 V 1) (W4 V 2) (W4 V 3) (W4 V 0) (W4 V 1) (W4 V 2) (W4 V 3)
 rw [decide_eq_true ⟨rfl,rfl,rfl,rfl⟩] at e1
 unfold DV A4 at *
 go_enter Tryz.func6,Tryz.ntmps6
 go_wp2_with (first
  | (go_at_call 8;refine (c8 _ (hTT _ _ hT bgo)).mono ?_;rintro r w1 ⟨rfl,hb1⟩;obtain ⟨_,_,_,_,hA1,_⟩:=wz w hb1;clear hb1)
  | (go_at_call 20;refine (c15 _).mono ?_;rintro r w2 ⟨rfl,hb2⟩;obtain ⟨_,_,_,_,hA2,_⟩:=wz w hb2;clear hb2)
  | (go_at_call 12;refine (c14 _).mono ?_;rintro r w3 ⟨rfl,rfl⟩)
  | (go_at_call 13;refine (c10 _).mono ?_;rintro r w3 ⟨rfl,rfl⟩)
  | (go_at_call 23;refine (c21 _).mono ?_;rintro r w4 ⟨rfl,hb4⟩;obtain ⟨_,_,_,_,hA4,_⟩:=wz w hb4;clear hb4)
  | (go_at_call 24;refine (c9 _ (hTT _ _ hT bgo)).mono ?_;rintro r w5 ⟨rfl,hb5⟩;obtain ⟨_,_,_,_,hA5,_⟩:=wz w hb5;obtain ⟨_,_⟩:=zf hb5 w4.heap.size;clear hb5)
  | (go_at_call 9;refine (c12 _ (hTT _ _ hT bgo)).mono ?_;rintro r w6 ⟨rfl,hb6⟩;obtain ⟨_,_,_,_,hA6,_⟩:=wz w hb6;obtain ⟨_,_⟩:=zf hb6 w4.heap.size;clear hb6)
  | (go_at_call 25;refine (c13 _ (hTT _ _ hT bgo)).mono ?_;rintro r w7 ⟨rfl,hb7⟩;obtain ⟨_,_,_,_,hA7,_⟩:=wz w hb7;obtain ⟨_,_⟩:=zf hb7 w4.heap.size;obtain ⟨_,_⟩:=zf hb7 w6.heap.size;clear hb7))
 go_ret
 exact ⟨by first|rfl|simp,bgo⟩
end
theorem xi_not {m t d:Int}{Bp:Nat}(h:¬ xiG m t d Bp):(decide (goodD m Bp)&&decide (binN t)&&decide (knB d))=false:=by
 by_cases a1:goodD m Bp
 ·by_cases a2:binN t
  ·have a3:¬ knB d:=fun a3=>h ⟨a1,a2,a3⟩
   rw [decide_eq_false (p:=knB d) a3,Bool.and_false]
  ·rw [decide_eq_false (p:=binN t) a2,Bool.and_false,Bool.false_and]
 ·rw [decide_eq_false (p:=goodD m Bp) a1,Bool.false_and,Bool.false_and]
theorem ci_read {f:DF}(hf:f.ok){v:Dat}(h:vI f v)(hc:¬ v.c=3){t:Int}(hb:binN t)(d:Int):mkV t d (xtP v)=ciV t d v/\mkF t d (xtP v)=ciF t d v:=by
 have hk:=vI_k hf h
 have hx:=vI_x hf h
 obtain ⟨f1,f2,f3⟩:=dcL_facts hk
 obtain ⟨c,s,g,x,k⟩:=v
 unfold mkV mkF ciV ciF xtP
 dsimp only at *
 rcases h with ⟨h1,h2,h3,h4,h5⟩|⟨h1,h2,h3,h4⟩|⟨h1,h2,h3⟩
 ·dsimp only at h1
  subst h1
  simp only [if_true,show ¬ (1:Int)=2 by decide,show ¬ (1:Int)=3 by decide,if_false]
  rw [f2]
  by_cases h0:k=0
  ·subst h0
   have e:∀ y,tN 0 y=0:=fun y=>by unfold tN;rw [Nat.zero_mul]
   rw [e,e,(r_zero d s _ _ hb).1,(r_zero d s _ _ hb).2,(r_zero d s _ _ hb).1,(r_zero d s _ _ hb).2]
   exact ⟨rfl,rfl⟩
  ·have hne:=dcL_ne h0 hk
   have h48:by_ (dcL k) 0≠48:=by
    rcases f1 with h|⟨_,h⟩
    ·exact absurd h hne
    ·exact h
   have hall:=gdD_all f1
   have hlen:1<=(dcL k).length:=List.length_pos_iff.2 hne
   have hge:=dV_ge hall h48 hne
   have hlt:=(dV_lt hall).1
   rw [f2] at hge hlt
   have hteq:=ten_eq d s hb ⟨hlen,by omega⟩ hge hlt x
   have hdw:dwE x=x:=by unfold dwE;omega
   rw [hteq.1,hteq.2,hdw]
   exact ⟨rfl,rfl⟩
 ·dsimp only at h1
  subst h1
  exact ⟨rfl,rfl⟩
 ·exact absurd h1 hc
section
variable {TT:World->Prop}(h:CrnC TT)(m t d:Int)(Bp:Nat)(w:World)(hT:TT w)(hB:Bp<2^256)
include h hT hB
theorem texts18_v (hD:DtxC TT)(hR:RdbC TT):CB 6 #[.int .i64 m,.int .i64 t,.int .i64 d,A4 Bp] w (.bool true):=by
 have c8:=fun W hW=>awake18 h W hW
 have c15:=fun W=>rgood14 m Bp hB W
 have c14:∀ W,CQ 12 #[.int .i64 t] W (.bool (decide (binN t))):=fun W=>(rbinary_any t W).mono fun r w' h=>⟨h.1,h.2.symm⟩
 have c10:=fun W=>rdir_any d W
 by_cases hg:xiG m t d Bp
 ·obtain ⟨h1,h2,h3⟩:=id hg
  rw [decide_eq_true h1] at c15
  rw [decide_eq_true h2] at c14
  rw [decide_eq_true h3] at c10
  have hi:=vM_is (fD_ok m) Bp
  obtain ⟨x1,x2⟩:=xt_cut (fD_ok m) hi
  have c21:=fun W=>runp14 m Bp W hB
  rw [show vUE m Bp=0 from if_pos h1,show vUD m Bp=vM (fD m) Bp from if_pos h1] at c21
  have c9:=fun W hW=>hD.wr m Bp W hB hW
  rw [show vUE m Bp=0 from if_pos h1,show dwT m Bp=xtT (vM (fD m) Bp) from if_pos h1] at c9
  have c12:=fun W hW=>h.cv m t d Bp W hB hW
  rw [show xiV m t d Bp=ciV t d (vM (fD m) Bp) from if_pos hg,show xiF m t d Bp=ciF t d (vM (fD m) Bp) from if_pos hg,show xiE m t d Bp=0 from if_pos hg] at c12
  have c13:=fun W hW=>hR.rd t d _ _ W h2 h3 x1 x2 hW
  by_cases hc:(vM (fD m) Bp).c=3
  ·exact tx18_a TT h.next w hT c8 m t d Bp c15 c14 c10 _ _ _ _ _ _ c21 hc
  ·obtain ⟨r1,r2⟩:=ci_read (fD_ok m) hi hc h2 d
   rw [r1,r2] at c13
   exact tx18_y TT h.next w hT c8 m t d Bp c15 c14 c10 _ _ _ _ _ _ c21 (by simpa using hc) _ _ _ c9 c12 c13
 ·exact tx18_n TT h.next w hT c8 m t d Bp _ _ _ (xi_not hg) c15 c14 c10
end
end
section
def vB (f:DF):Nat:=if f.dn then f.w else 0
def LF (f:DF):Value:=LD f.dn ((f.w+5:Nat):Int) (f.t:Int) (vB f:Int) (vQ f) (10^(3*f.j+1)) (10^(3*f.j)) f.l (f.l+3*2^f.w-1)
theorem DF.ok.w12 {f:DF}(h:f.ok):6<=f.w/\f.w<=12/\f.t<=110/\20<=f.t/\f.j<=11:=by
 rcases h with ⟨h1,h2,h3,h4⟩|⟨h1,h2,h3,h4⟩|⟨h1,h2,h3,h4⟩<;>omega
theorem vQ_256 {f:DF}(h:f.ok):vQ f<2^128:=by
 unfold vQ
 rcases h with ⟨h1,h2,h3,h4⟩|⟨h1,h2,h3,h4⟩|⟨h1,h2,h3,h4⟩<;>rw [h1,h3]<;>cases f.dn<;>decide
theorem ten_128 {f:DF}(h:f.ok):10^(3*f.j+1)<2^128/\10^(3*f.j)<2^128:=by
 rcases h with ⟨h1,h2,h3,h4⟩|⟨h1,h2,h3,h4⟩|⟨h1,h2,h3,h4⟩<;>rw [h3]<;>decide
theorem i2pow (n:Nat):(2:Int)^n=((2^n:Nat):Int):=by simp
theorem i2div (x n:Nat):(x:Int)/2^n=((x/2^n:Nat):Int):=by rw [i2pow,Int.natCast_ediv]
theorem i2mod (x n:Nat):(x:Int)%2^n=((x%2^n:Nat):Int):=by rw [i2pow,Int.natCast_emod]
theorem beq_dec (x y:Nat):(((x:Nat):Int)==(y:Int))=decide (x=y):=by
 by_cases h:x=y
 ·subst h;simp
 ·rw [decide_eq_false h];simp;omega
section
variable {f:DF}(h:f.ok)
include h
theorem fsplit (B:Nat)(w:World)(hB:B<2^256):CB 95 #[LF f,A4 B] w (.tuple #[.bool (vS f B),.int .u64 (vG f B:Int),A4 (vR f B)]):=by
 have hw:=h.w12
 have hd:B/2^f.t<2^256:=Nat.lt_of_le_of_lt (Nat.div_le_self _ _) hB
 have hle:B/2^f.t*2^f.t<=B:=Nat.div_mul_le_self _ _
 have c3:=fun W=>sub4 B (B/2^f.t*2^f.t) W hB (Nat.lt_of_le_of_lt hle hB)
 rw [A4_sub hle,show B-B/2^f.t*2^f.t=vR f B by unfold vR;have:=Nat.div_add_mod' B (2^f.t);omega] at c3
 have c5:=fun W=>dlowb_v (W4 (B/2^f.t) 0) (f.w+5) (W4_words _ 0) (by omega) W
 have e5:W4 (B/2^f.t) 0%2^(f.w+5)=(vG f B:Int):=by
  unfold W4 vG
  rw [Nat.mul_zero,Nat.pow_zero,Nat.div_one,i2mod]
  congr 1
  rw [show (18446744073709551616:Nat)=2^(f.w+5)*2^(64-(f.w+5)) by rw [← Nat.pow_add,show f.w+5+(64-(f.w+5))=64 by omega]]
  exact Nat.mod_mul_right_mod _ _ _
 rw [e5] at c5
 have e4:(((B/2^f.t/2^(f.w+5)%2:Nat):Int)==1)=vS f B:=by
  unfold vS
  rw [Nat.div_div_eq_div_mul,← Nat.pow_add]
  exact beq_dec _ 1
 rw [← e4]
 exact split_w _ _ _ _ _ _ _ _ _ w B _ _ _ _ _ _ (fun W=>shr4 B f.t W hB (by omega)) (fun W=>shl4 (B/2^f.t) f.t W hd (by omega)) c3 (fun W=>bit4 (B/2^f.t) (f.w+5) W hd (by omega)) c5
theorem fkind (G:Nat)(w:World)(hG:G<2^(f.w+5)):CB 96 #[LF f,.int .u64 (G:Int)] w (.int .u64 (vV f.w G:Int)):=by
 have hw:=h.w12
 have hp:2^(f.w+5)<=2^17:=Nat.pow_le_pow_right (by decide) (by omega)
 exact kind_v _ _ _ _ _ _ _ _ _ w (G:Int) _ f.w (by omega) (by omega) (by omega) (by omega) (i2div G f.w)
theorem fsig (G:Nat)(w:World)(hG:G<2^(f.w+5)):CB 97 #[LF f,.int .u64 (G:Int)] w (.bool (decide (G/2^(f.w-1)%2=1))):=by
 have hw:=h.w12
 have hp:2^(f.w+5)<=2^17:=Nat.pow_le_pow_right (by decide) (by omega)
 have hd:G/2^(f.w-1)<=G:=Nat.div_le_self _ _
 have e:=and_lay (G/2^(f.w-1)) 1 (by decide) (by omega)
 have e1:bits .and .u64 ((G:Int)/2^(f.w-1)) 1=((G/2^(f.w-1)%2:Nat):Int):=by rw [i2div];exact e
 have c:=signals_v f.dn ((f.w+5:Nat):Int) (f.t:Int) (vB f:Int) (vQ f) (10^(3*f.j+1)) (10^(3*f.j)) f.l (f.l+3*2^f.w-1) w (G:Int) _ (f.w-1) (by omega) (by omega) (by omega) (by omega) e1
 rw [show (((G/2^(f.w-1)%2:Nat):Int)==1)=decide (G/2^(f.w-1)%2=1) from beq_dec _ 1] at c
 exact c
theorem fspec (k:Nat)(s:Bool)(w:World)(hk:k<=31):CB 163 #[LF f,.int .u64 (k:Int),.bool s] w (.int .u64 ((k*2^f.w+(if s then 2^(f.w-1) else 0):Nat):Int)):=by
 have hw:=h.w12
 have ho:=or_lay k 1 1 (by decide) (by omega)
 have hp:2^(f.w-1)<=2^11:=Nat.pow_le_pow_right (by decide) (by omega)
 have hp0:1<=2^(f.w-1):=Nat.one_le_two_pow
 have e2:2^f.w=2*2^(f.w-1):=by rw [← Nat.pow_succ'];congr 1;omega
 refine special_v _ _ _ _ _ _ _ _ _ w (k:Int) _ s (f.w-1) (by omega) (by omega) (by omega) (by omega) (by omega) ((2^(f.w-1):Nat):Int) (i2pow _) (by omega) (by omega) ?_ ?_ ?_
 ·rw [show ((k*2^1:Nat):Int)=(k:Int)*2 by omega] at ho
  rw [show (1:Int)=((1:Nat):Int) from rfl,ho];omega
 ·rw [e2]
  generalize 2^(f.w-1)=H at *
  cases s
  ·simp only [Bool.false_eq_true,if_false,Int.add_zero,Nat.add_zero]
   rw [Int.natCast_mul,Int.natCast_mul,Int.mul_assoc];rfl
  ·simp only [if_true]
   rw [Int.natCast_add,Int.natCast_mul,Int.natCast_mul,Int.add_mul,Int.one_mul,Int.mul_assoc];rfl
 ·have:k*2^f.w<=31*2^12:=Nat.mul_le_mul hk (Nat.pow_le_pow_right (by decide) (by omega))
  have:(if s then 2^(f.w-1) else 0)<=2^11:=by split<;>omega
  omega
theorem fread (R:Nat)(w:World)(hR:R<2^f.t):CB 99 #[LF f,A4 R] w (A4 (vT f R)):=by
 have hw:=h.w12
 have h256:R<2^256:=Nat.lt_of_lt_of_le hR (Nat.pow_le_pow_right (by decide) (by omega))
 unfold LF vT
 have ht:=h.t10
 cases hd:f.dn
 ·simp only [Bool.false_eq_true,if_false]
  exact read_p _ _ _ _ _ _ _ _ w R
 ·simp only [if_true]
  have c:=fun W=>dupk_any R (f.j:Int) W h256
  have e:dUv R (f.j:Int)=dlU f.j R:=by
   unfold dUv
   rw [if_pos (by omega),Int.toNat_natCast,if_pos (by rw [← h.pt];exact hR)]
  rw [e] at c
  exact read_d _ _ _ _ _ _ _ _ w R _ _ (f.j:Int) (by omega) (by omega) (by omega) c
theorem fwrite (C:Nat)(w:World)(hC:C<2^256)(hd:f.dn=true->C<1000^f.j):CB 162 #[LF f,A4 C] w (A4 (if f.dn then dlP f.j C else C)):=by
 have hw:=h.w12
 unfold LF
 have ht:=h.t10
 cases e:f.dn
 ·simp only [Bool.false_eq_true,if_false]
  exact write_p _ _ _ _ _ _ _ _ w C
 ·simp only [if_true]
  have c:=fun W=>dpck_any C (f.j:Int) W hC
  have e:dPv C (f.j:Int)=dlP f.j C:=by
   unfold dPv
   rw [if_pos (by omega),Int.toNat_natCast,if_pos (hd e)]
  rw [e] at c
  exact write_d _ _ _ _ _ _ _ _ w C _ _ (f.j:Int) (by omega) (by omega) (by omega) c
theorem fjoin (s:Bool)(G R:Nat)(w:World)(hG:G<2^(f.w+5))(hR:R<2^f.t):CB 160 #[LF f,.bool s,.int .u64 (G:Int),A4 R] w (A4 ((if s then 2^(f.t+(f.w+5)) else 0)+G*2^f.t+R)):=by
 have hw:=h.w12
 have hp:2^(f.w+5)<=2^17:=Nat.pow_le_pow_right (by decide) (by omega)
 have hp0:1<=2^(f.w+5):=Nat.one_le_two_pow
 have hpt:2^f.t<=2^110:=Nat.pow_le_pow_right (by decide) (by omega)
 have key:∀ E:Nat,E<2^18->(∀ W,CB 138 #[.int .u64 (E:Int)] W (A4 E))/\(∀ W,CB 137 #[A4 E,.int .i64 (f.t:Int)] W (A4 (E*2^f.t)))/\(∀ W,CB 102 #[A4 (E*2^f.t),A4 R] W (.tuple #[A4 (E*2^f.t+R),.int .u64 (((E*2^f.t+R)/2^256:Nat):Int)])):=by
  intro E hE
  have hm:E*2^f.t<=2^18*2^110:=Nat.mul_le_mul (by omega) hpt
  have e:(2:Nat)^18*2^110<2^256:=by decide
  exact ⟨fun W=>of4 E W (by omega),fun W=>shl4 E f.t W (by omega) (by omega),fun W=>add4 _ _ W (by omega) (Nat.lt_of_lt_of_le hR (by omega))⟩
 cases s
 ·obtain ⟨k1,k2,k3⟩:=key G (by omega)
  simp only [Bool.false_eq_true,if_false,Nat.zero_add]
  exact djoin_n _ _ _ _ _ _ _ _ _ w _ _ _ _ _ _ k1 k2 k3
 ·obtain ⟨k1,k2,k3⟩:=key (2^(f.w+5)+G) (by omega)
  have ho:=or_lay 1 G (f.w+5) hG (by omega)
  rw [Nat.one_mul] at ho
  have hc:bits .or .u64 (G:Int) ((2^(f.w+5):Nat):Int)=((2^(f.w+5)+G:Nat):Int):=by
   rw [← ho]
   have e1:=orW_eq ((2^(f.w+5):Nat):Int) (G:Int) (by omega) (by omega)
   have e2:=orW_eq (G:Int) ((2^(f.w+5):Nat):Int) (by omega) (by omega)
   unfold orW at e1 e2
   rw [e1,e2,Nat.or_comm]
  simp only [if_true]
  rw [show 2^(f.t+(f.w+5))+G*2^f.t+R=(2^(f.w+5)+G)*2^f.t+R by rw [Nat.add_mul,← Nat.pow_add,Nat.add_comm (f.w+5) f.t]]
  exact djoin_s _ _ _ _ _ _ _ _ _ w (G:Int) _ _ _ _ _ _ k1 k2 k3 (f.w+5) _ rfl (by omega) (i2pow _) (by omega) (by omega) hc
theorem fpart (G:Nat)(w:World)(hG:G<2^(f.w+5)):CB 100 #[LF f,.int .u64 (G:Int)] w (.tuple #[.int .u64 (vF f.dn f.w G:Int),.int .u64 (vL f.dn f.w G:Int)]):=by
 have hw:=h.w12
 have hp:2^(f.w+5)<=2^17:=Nat.pow_le_pow_right (by decide) (by omega)
 have hB:vB f<=12:=by unfold vB;split<;>omega
 have hA:G/2^vB f<=G:=Nat.div_le_self _ _
 have cl:=fun W=>dlowb_v (G:Int) (vB f) (by omega) (by omega) W
 rw [i2mod] at cl
 have hX:G%2^vB f<2^vB f:=Nat.mod_lt _ (Nat.two_pow_pos _)
 have hpb:2^vB f<=2^12:=Nat.pow_le_pow_right (by decide) hB
 have e8:2^(f.w+5)=32*2^f.w:=by rw [Nat.pow_add,Nat.mul_comm]
 have e3:2^(f.w+3)=8*2^f.w:=by rw [Nat.pow_add,Nat.mul_comm]
 have hV8:G/2^(f.w+3)=vV f.w G/8:=by unfold vV;rw [Nat.div_div_eq_div_mul,e3,Nat.mul_comm]
 have hV32:vV f.w G<32:=by unfold vV;rw [Nat.div_lt_iff_lt_mul (Nat.two_pow_pos _),← e8];exact hG
 have hone:1<=2^f.w:=Nat.one_le_two_pow
 by_cases h24:vV f.w G<24
 ·have hF:∃ F:Nat,F=G/2^vB f/8/\vF f.dn f.w G=F*2^vB f+G%2^vB f:=by
   refine ⟨_,rfl,?_⟩
   unfold vF vB
   cases f.dn
   ·simp only [Bool.false_eq_true,if_false,Nat.pow_zero,Nat.div_one,Nat.mod_one,Nat.mul_one,Nat.add_zero,if_pos h24]
   ·simp only [if_true,if_pos h24];rfl
  obtain ⟨F,hF1,hF2⟩:=hF
  have hFl:F<=G:=by rw [hF1];exact Nat.le_trans (Nat.div_le_self _ _) hA
  have hFm:F*2^vB f<=2^17*2^12:=Nat.mul_le_mul (by omega) hpb
  have ho:=or_lay F (G%2^vB f) (vB f) hX (by omega)
  rw [hF2]
  have hL:vL f.dn f.w G=G/2^vB f%8:=by
   unfold vL vB
   cases f.dn
   ·simp only [Bool.false_eq_true,if_false,Nat.pow_zero,Nat.div_one,if_pos h24]
   ·simp only [if_true,if_pos h24];rfl
  rw [hL]
  have c3:=fun W=>dlow_v ((G/2^vB f:Nat):Int) 3 (by omega) (by decide) W
  rw [i2mod] at c3
  refine part_s f.dn _ _ _ _ _ _ _ w (G:Int) ((G/2^vB f:Nat):Int) ((G/2^(f.w+3):Nat):Int) (F:Int) ((F*2^vB f:Nat):Int) ((G%2^vB f:Nat):Int) _ _ (vB f) (f.w+3) (by omega) (by omega) (by omega) (by omega) (by omega) (i2div _ _) (by omega) (by omega) (i2div _ _) (by omega) (by omega) (by rw [i2pow,Int.natCast_mul]) (by omega) (by omega) cl ho ?_ (by omega) c3
  rw [show (3:Int)=((3:Nat):Int) from rfl,beq_dec,hV8]
  exact decide_eq_false (by omega)
 ·have e2:2^(f.w+2)=4*2^f.w:=by rw [Nat.pow_add,Nat.mul_comm]
  have hk:∃ k:Nat,((f.w+3:Nat):Int)-(vB f:Int)=(k:Int)/\k<=15/\vF f.dn f.w G=G/2^vB f%2^k/2*2^vB f+G%2^vB f/\vL f.dn f.w G=8+G/2^vB f%2^k%2:=by
   unfold vF vL vB
   cases f.dn
   ·refine ⟨f.w+3,by simp,by omega,?_,?_⟩
    ·simp only [Bool.false_eq_true,if_false,Nat.pow_zero,Nat.div_one,Nat.mod_one,Nat.mul_one,Nat.add_zero,if_neg h24]
     rw [e2,e3];generalize 2^f.w=H at *;rw [show 8*H=2*(4*H) by omega,Nat.mod_mul_right_div_self]
    ·simp only [Bool.false_eq_true,if_false,Nat.pow_zero,Nat.div_one,if_neg h24]
     rw [e3,show 8*2^f.w=2*(4*2^f.w) by omega,Nat.mod_mul_right_mod]
   ·refine ⟨3,by simp only [if_true];omega,by omega,?_,?_⟩
    ·simp only [if_true,if_neg h24]
     show vV f.w G/2%4*_+_=vV f.w G%2^3/2*_+_
     rw [show (2:Nat)^3=2*4 by decide,Nat.mod_mul_right_div_self]
    ·simp only [if_true,if_neg h24]
     show 8+vV f.w G%2=8+vV f.w G%2^3%2
     rw [show (2:Nat)^3=2*4 by decide,Nat.mod_mul_right_mod]
  obtain ⟨k,hk,hk15,hF2,hL⟩:=hk
  rw [hF2,hL]
  have hAi:(G:Int)/2^vB f=((G/2^vB f:Nat):Int):=i2div _ _
  have hMi:(G:Int)/2^(f.w+3)=((G/2^(f.w+3):Nat):Int):=i2div _ _
  have hq:(((G/2^(f.w+3):Nat):Int)==3)=true:=by
   rw [show (3:Int)=((3:Nat):Int) from rfl,beq_dec,hV8]
   exact decide_eq_true (by omega)
  generalize G/2^vB f=A at *
  generalize G/2^(f.w+3)=M at *
  generalize G%2^vB f=X at *
  have c3:=fun W=>dlow_v (A:Int) k (by omega) (by omega) W
  rw [i2mod] at c3
  have hAk:A%2^k<=A:=Nat.mod_le _ _
  generalize A%2^k=A' at *
  have hFm:A'/2*2^vB f<=2^17*2^12:=Nat.mul_le_mul (by omega) hpb
  have ho:=or_lay (A'/2) X (vB f) hX (by omega)
  have c4:=fun W=>dlow_v (A':Int) 1 (by omega) (by omega) W
  rw [i2mod] at c4
  exact part_g f.dn _ _ _ _ _ _ _ w (G:Int) (A:Int) (M:Int) ((A'/2:Nat):Int) ((A'/2*2^vB f:Nat):Int) (X:Int) _ _ (vB f) (f.w+3) (by omega) (by omega) (by omega) (by omega) (by omega) hAi (by omega) (by omega) hMi (by omega) (by omega) (by rw [i2pow,Int.natCast_mul]) (by omega) (by omega) cl ho (A':Int) ((A'%2^1:Nat):Int) k hq hk (by omega) (by omega) (by omega) (by omega) (by omega) (by omega) c3 c4
theorem funite (E a:Nat)(w:World)(hE:E<3*2^f.w)(ha:a<=9):CB 161 #[LF f,.int .u64 (E:Int),.int .u64 (a:Int)] w (.int .u64 (vN f.dn f.w E a:Int)):=by
 have hw:=h.w12
 have hp:2^f.w<=2^12:=Nat.pow_le_pow_right (by decide) (by omega)
 have hB:vB f<=12:=by unfold vB;split<;>omega
 have hA:E/2^vB f<=E:=Nat.div_le_self _ _
 have cl:=fun W=>dlowb_v (E:Int) (vB f) (by omega) (by omega) W
 rw [i2mod] at cl
 have hX:E%2^vB f<2^vB f:=Nat.mod_lt _ (Nat.two_pow_pos _)
 have hpb:2^vB f<=2^12:=Nat.pow_le_pow_right (by decide) hB
 have hone:1<=2^f.w:=Nat.one_le_two_pow
 by_cases h8:8<=a
 ·have hk:∃ k:Nat,((f.w+5:Nat):Int)-2-(vB f:Int)=(k:Int)/\1<=k/\k<=15/\E/2^vB f*2<2^k/\vN f.dn f.w E a=(3*2^k+E/2^vB f*2+a%2)*2^vB f+E%2^vB f:=by
   unfold vN vB
   have e3:2^(f.w+3)=8*2^f.w:=by rw [Nat.pow_add,Nat.mul_comm]
   cases f.dn
   ·refine ⟨f.w+3,by simp only [Bool.false_eq_true,if_false];omega,by omega,by omega,?_,?_⟩
    ·simp only [Bool.false_eq_true,if_false,Nat.pow_zero,Nat.div_one];omega
    ·simp only [Bool.false_eq_true,if_false,Nat.pow_zero,Nat.div_one,Nat.mod_one,Nat.mul_one,Nat.add_zero,if_pos h8]
   ·refine ⟨3,by simp only [if_true];omega,by omega,by omega,?_,?_⟩
    ·simp only [if_true]
     have:E/2^f.w<3:=by rw [Nat.div_lt_iff_lt_mul (Nat.two_pow_pos _)];exact hE
     omega
    ·simp only [if_true,if_pos h8]
  obtain ⟨k,hk,hk1,hk15,hAk,hN⟩:=hk
  rw [hN]
  have hAi:(E:Int)/2^vB f=((E/2^vB f:Nat):Int):=i2div _ _
  have hpk:2^k<=2^15:=Nat.pow_le_pow_right (by decide) hk15
  have hpk1:1<=2^k:=Nat.one_le_two_pow
  have ek:2^k=2^(k-1)*2:=by rw [← Nat.pow_succ];congr 1;omega
  have hki:(2:Int)^k=((2^k:Nat):Int):=i2pow k
  generalize E/2^vB f=A at *
  generalize E%2^vB f=X at *
  have hU:=or_lay 3 (A*2) k hAk (by omega)
  have hY:=or_lay (3*2^(k-1)+A) (a%2) 1 (Nat.mod_lt _ (by decide)) (by omega)
  rw [show (3*2^(k-1)+A)*2^1=3*2^k+A*2 by omega] at hY
  have c1:=fun W=>dlowb_v (a:Int) 1 (by omega) (by omega) W
  rw [i2mod,Nat.pow_one] at c1
  have hU':bits .or .u64 (3*((2^k:Nat):Int)) ((A:Int)*2)=((3*2^k+A*2:Nat):Int):=by
   rw [← hU,Int.natCast_mul,Int.natCast_mul];rfl
  clear hU
  generalize 2^k=H at *
  have hYm:(3*H+A*2+a%2)*2^vB f<=2^18*2^12:=Nat.mul_le_mul (by omega) hpb
  have ho:=or_lay (3*H+A*2+a%2) X (vB f) hX (by omega)
  exact unite_g f.dn _ _ _ _ _ _ _ w (E:Int) (a:Int) (A:Int) ((3*H+A*2+a%2:Nat):Int) (((3*H+A*2+a%2)*2^vB f:Nat):Int) (X:Int) _ (vB f) (by omega) (by omega) (by omega) (by omega) (by omega) hAi (by omega) (by omega) (by omega) (by omega) (by rw [i2pow,Int.natCast_mul]) (by omega) (by omega) cl ho k (H:Int) ((3*H+A*2:Nat):Int) ((a%2:Nat):Int) (by omega) hk hki (by omega) (by omega) hU' hY c1
 ·have hN:vN f.dn f.w E a=(E/2^vB f*8+a)*2^vB f+E%2^vB f:=by
   unfold vN vB
   cases f.dn
   ·simp only [Bool.false_eq_true,if_false,Nat.pow_zero,Nat.div_one,Nat.mod_one,Nat.mul_one,Nat.add_zero,if_neg h8]
   ·simp only [if_true,if_neg h8]
  rw [hN]
  have hAi:(E:Int)/2^vB f=((E/2^vB f:Nat):Int):=i2div _ _
  generalize E/2^vB f=A at *
  generalize E%2^vB f=X at *
  have hY:=or_lay A a 3 (by omega) (by omega)
  have hY':bits .or .u64 ((A:Int)*8) (a:Int)=((A*8+a:Nat):Int):=hY
  have hYm:(A*8+a)*2^vB f<=2^18*2^12:=Nat.mul_le_mul (by omega) hpb
  have ho:=or_lay (A*8+a) X (vB f) hX (by omega)
  exact unite_s f.dn _ _ _ _ _ _ _ w (E:Int) (a:Int) (A:Int) ((A*8+a:Nat):Int) (((A*8+a)*2^vB f:Nat):Int) (X:Int) _ (vB f) (by omega) (by omega) (by omega) (by omega) (by omega) hAi (by omega) (by omega) (by omega) (by omega) (by rw [i2pow,Int.natCast_mul]) (by omega) (by omega) cl ho (by omega) hY'
end
end
section
theorem vT_256 {f:DF}(h:f.ok){R:Nat}(hR:R<2^f.t):vT f R<2^128:=by
 have hw:=h.w12
 have:=ten_128 h
 cases hd:f.dn
 ·unfold vT;rw [hd,if_neg (by decide)];exact Nat.lt_of_lt_of_le hR (Nat.pow_le_pow_right (by decide) (by omega))
 ·exact Nat.lt_trans (vT_lt h hd R) this.2
theorem vL_9 {f:DF}(dn:Bool)(w G:Nat):vL dn w G<=9:=by
 unfold vL
 cases dn<;>simp only [Bool.false_eq_true,if_false,if_true]<;>split<;>omega
theorem dsgn_ge (A B:Nat):0<=sgn (A:Int) (B:Int)↔¬ A<B:=by
 unfold sgn
 by_cases h:(A:Int)<(B:Int)
 ·rw [if_pos h];constructor
  ·intro q;exact absurd q (by decide)
  ·intro q;omega
 ·rw [if_neg h];constructor
  ·intro _;omega
  ·intro _;split<;>decide
section
variable {f:DF}(h:f.ok)
include h
theorem fmean (B:Nat)(w:World)(hB:B<2^256):Calls Tryz.prog 57 #[LF f,A4 B] w fun r w'=>r=.returned (vM f B).v/\Below w.heap.size w w':=by
 have hw:=h.w12
 have hG:=vG_lt f B
 have hR:=vR_lt f B
 have cs:=fun W=>fsplit h B W hB
 have ck:=fun W=>fkind h (vG f B) W hG
 have cr:=fun W=>fread h (vR f B) W hR
 have hU:=vT_256 h hR
 have h10:=ten_128 h
 have e256:(2:Nat)^128*2^4<2^256:=by decide
 unfold vM vD
 generalize vG f B=G at *
 generalize vR f B=R at *
 generalize vS f B=s at *
 by_cases h30:vV f.w G=30
 ·rw [if_pos h30]
  exact dmean_i _ _ _ _ _ _ _ _ _ w B R s (G:Int) _ cs ck (by rw [h30];rfl)
 ·rw [if_neg h30]
  have e30:(((vV f.w G:Nat):Int)==30)=false:=by rw [show (30:Int)=((30:Nat):Int) from rfl,beq_dec];exact decide_eq_false h30
  by_cases h31:vV f.w G=31
  ·rw [if_pos h31]
   exact dmean_n _ _ _ _ _ _ _ _ _ w B R s (G:Int) _ cs ck (vT f R) _ cr _ e30 (by rw [h31];rfl) (fun W=>fsig h G W hG) (fun W=>nought_v (vT f R) (10^(3*f.j)) W (by omega) (by omega))
  ·rw [if_neg h31]
   have e31:(((vV f.w G:Nat):Int)==31)=false:=by rw [show (31:Int)=((31:Nat):Int) from rfl,beq_dec];exact decide_eq_false h31
   have hL:=vL_9 (f:=f) f.dn f.w G
   have hq:=vQ_256 h
   have hm:vL f.dn f.w G*vQ f<=2^4*2^128:=Nat.mul_le_mul (by omega) (by omega)
   have cm:=fun W=>mul4 (vQ f) (vL f.dn f.w G) W (by omega) (by omega)
   rw [Nat.mul_comm (vQ f)] at cm
   have hF:vF f.dn f.w G<1000000:=by
    unfold vF vV
    rcases h with ⟨h1,h2,h3,h4⟩|⟨h1,h2,h3,h4⟩|⟨h1,h2,h3,h4⟩<;>rw [h2] at hG ⊢<;>cases f.dn<;>simp only [Bool.false_eq_true,if_false,if_true]<;>simp only [Nat.reducePow,Nat.reduceAdd] at*<;> split<;>omega
   have hl:-1000000<=f.l/\f.l<=1000000:=by rcases h with ⟨h1,h2,h3,h4⟩|⟨h1,h2,h3,h4⟩|⟨h1,h2,h3,h4⟩<;>omega
   have e5:(2:Nat)^4*2^128+2^128<2^256:=by decide
   exact dmean_f _ _ _ _ _ _ _ _ _ w B R s (G:Int) _ cs ck (vT f R) _ cr _ _ _ _ _ _ e30 e31 (by omega) (by omega) hl.1 hl.2 (fun W=>fpart h G W hG) cm (fun W=>add4 _ _ W (by omega) (by omega)) (fun W=>nought_v _ (10^(3*f.j+1)) W (by omega) (by omega))
theorem fpack (d:Dat)(w:World)(hk:d.k<2^256):CB 58 #[LF f,d.v] w (.tuple #[A4 (if vI f d then vP f d else 0),.int .i64 (if vI f d then 0 else 3)]):=by
 have hw:=h.w12
 have h10:=ten_128 h
 have hq:=vQ_256 h
 have e256:(2:Nat)^128<2^256:=by decide
 have hl:-1000000<=f.l/\f.l<=0:=by rcases h with ⟨h1,h2,h3,h4⟩|⟨h1,h2,h3,h4⟩|⟨h1,h2,h3,h4⟩<;>omega
 have hw3:(3*2^f.w:Nat)<=3*2^12:=Nat.mul_le_mul (Nat.le_refl _) (Nat.pow_le_pow_right (by decide) (by omega))
 have ei:((3*2^f.w:Nat):Int)=3*2^f.w:=by rw [Int.natCast_mul,i2pow];rfl
 obtain ⟨c,s,g,x,k⟩:=d
 simp only at hk
 by_cases h1:c=1
 ·subst h1
  refine dpack_1 _ _ _ _ _ _ _ _ _ w x s g k _ _ ?_
  intro W
  by_cases hi:vI f ⟨1,s,g,x,k⟩
  ·rw [if_pos hi,if_pos hi]
   have hPG:=vPG_lt h hi
   have hPR:=vPR_lt h hi
   obtain ⟨_,hg,hk10,hx0,hx1⟩:(1:Int)=1/\g=false/\k<10^(3*f.j+1)/\f.l<=x/\x<=f.l+3*2^f.w-1:=by
    rcases hi with hi|hi|hi
    ·exact hi
    ·exact absurd (show (1:Int)=2 from hi.1) (by decide)
    ·exact absurd (show (1:Int)=3 from hi.1) (by decide)
   subst hg
   have hqp:0<vQ f:=by
    unfold vQ;cases f.dn<;>simp only [Bool.false_eq_true,if_false,if_true]
    ·exact Nat.two_pow_pos _
    ·exact Nat.pow_pos (by decide)
   have hm9:k/vQ f<=9:=by
    unfold vQ
    rcases h with ⟨h1,h2,h3,h4⟩|⟨h1,h2,h3,h4⟩|⟨h1,h2,h3,h4⟩<;>rw [h3] at hk10 ⊢<;>rw [h1]<;>cases f.dn<;>simp only [Bool.false_eq_true,if_false,if_true]<;>simp only [Nat.reducePow,Nat.reduceAdd,Nat.reduceMul] at*<;> omega
   have hmod:k-k/vQ f*vQ f=k%vQ f:=by have:=Nat.div_add_mod' k (vQ f);omega
   have hlt:=Nat.mod_lt k hqp
   have hE:(x-f.l).toNat<3*2^f.w:=by omega
   have hEi:x-f.l=(((x-f.l).toNat:Nat):Int):=by omega
   have cn:=fun W=>funite h (x-f.l).toNat (k/vQ f) W hE hm9
   rw [← hEi] at cn
   have hvN:vPG f ⟨1,s,false,x,k⟩=vN f.dn f.w (x-f.l).toNat (k/vQ f):=rfl
   rw [← hvN] at cn
   have hR0:∀ i,k-i*vQ f<2^256:=fun i=>by omega
   have cw:=fun W=>fwrite h (k-k/vQ f*vQ f) W (hR0 _) (fun hd=>by
    rw [hmod,← ten3]
    have:vQ f=10^(3*f.j):=by unfold vQ;rw [hd,if_pos rfl]
    rw [this] at hlt ⊢
    exact hlt)
   have ew:(if f.dn=true then dlP f.j (k-k/vQ f*vQ f) else k-k/vQ f*vQ f)=vPR f ⟨1,s,false,x,k⟩:=by
    rw [hmod]
    unfold vPR vQ
    simp only [show ¬ ((1:Int)=2) by decide,show ¬ ((1:Int)=3) by decide,if_false]
    cases f.dn<;>simp
   rw [ew] at cw
   have cj:=fun W=>fjoin h s _ _ W hPG hPR
   refine dfin_y _ _ _ _ _ _ _ _ _ W x s k _ _ (fun W=>cmp4 k _ W hk (by omega)) (by omega) (by omega) (by rw [dsgn_ge];omega) (k/vQ f) (by omega) (fun i=>k-i*vQ f) (fun i=>sgn ((k-i*vQ f:Nat):Int) (vQ f:Int)) (fun i=>if k-i*vQ f<vQ f then 1 else 0) (by simp) _ hl.1 (by omega) (by omega) _ ?_ ?_ ?_ ?_ cn cw cj
   ·show ∀ _,_
    intro i hi W
    exact cmp4 _ _ W (hR0 i) (by omega)
   ·show ∀ _,_
    intro i hi
    rw [dsgn_ge]
    have:(i+1)*vQ f<=k:=Nat.le_trans (Nat.mul_le_mul_right _ hi) (Nat.div_mul_le_self _ _)
    rw [Nat.add_mul,Nat.one_mul] at this
    omega
   ·show ¬ _
    rw [dsgn_ge,hmod];omega
   ·show ∀ _,_
    intro i hi W
    have:(i+1)*vQ f<=k:=Nat.le_trans (Nat.mul_le_mul_right _ hi) (Nat.div_mul_le_self _ _)
    have e:k-(i+1)*vQ f=k-i*vQ f-vQ f:=by rw [Nat.add_mul,Nat.one_mul];omega
    rw [Nat.add_mul,Nat.one_mul] at this
    have c:=sub4 (k-i*vQ f) (vQ f) W (hR0 i) (by omega)
    rw [A4_sub (by omega),← e] at c
    exact c
  ·rw [if_neg hi,if_neg hi]
   cases g
   ·by_cases a1:x<f.l
    ·exact dfin_l _ _ _ _ _ _ _ _ _ W x s k a1
    ·by_cases a2:f.l+3*2^f.w-1<x
     ·exact dfin_m _ _ _ _ _ _ _ _ _ W x s k a1 a2
     ·have a3:¬ k<10^(3*f.j+1):=fun q=>hi (Or.inl ⟨rfl,rfl,q,(by omega:f.l<=x),(by omega:x<=f.l+3*2^f.w-1)⟩)
      exact dfin_k _ _ _ _ _ _ _ _ _ W x s k _ (fun W=>cmp4 k _ W hk (by omega)) a1 a2 ((dsgn_ge _ _).2 a3)
   ·exact dfin_s _ _ _ _ _ _ _ _ _ W x s k
 ·by_cases h2:c=2
  ·subst h2
   refine dpack_2 _ _ _ _ _ _ _ _ _ w x s g k _ _ ?_
   intro W
   by_cases hi:vI f ⟨2,s,g,x,k⟩
   ·rw [if_pos hi,if_pos hi]
    have hPG:=vPG_lt h hi
    obtain ⟨_,hg,hk0,hx0⟩:(2:Int)=2/\g=false/\k=0/\x=0:=by
     rcases hi with hi|hi|hi
     ·exact absurd (show (2:Int)=1 from hi.1) (by decide)
     ·exact hi
     ·exact absurd (show (2:Int)=3 from hi.1) (by decide)
    subst hg hk0 hx0
    have cp:=fun W=>fspec h 30 false W (by decide)
    have cj:=fun W=>fjoin h s _ 0 W hPG (Nat.two_pow_pos _)
    rw [Z4_eq] at cj
    exact dinf_y _ _ _ _ _ _ _ _ _ W s _ _ cp cj
   ·rw [if_neg hi,if_neg hi]
    cases g
    ·by_cases a1:x=0
     ·subst a1
      refine dinf_k _ _ _ _ _ _ _ _ _ W s k (decide_eq_false fun q=>hi (Or.inr (Or.inl ⟨rfl,rfl,?_,rfl⟩)))
      refine A4_inj hk (by decide) fun i hi=>?_
      rw [W4_zero]
      rcases (show i=0∨i=1∨i=2∨i=3 by omega) with e|e|e|e<;>subst e
      ·exact q.1
      ·exact q.2.1
      ·exact q.2.2.1
      ·exact q.2.2.2
     ·exact dinf_x _ _ _ _ _ _ _ _ _ W x s k (by simp [a1])
    ·exact dinf_s _ _ _ _ _ _ _ _ _ W x s k
  ·by_cases h3:c=3
   ·subst h3
    refine dpack_3 _ _ _ _ _ _ _ _ _ w x s g k _ _ ?_
    intro W
    by_cases hi:vI f ⟨3,s,g,x,k⟩
    ·rw [if_pos hi,if_pos hi]
     have hPG:=vPG_lt h hi
     have hPR:=vPR_lt h hi
     obtain ⟨_,hx0,hk10⟩:(3:Int)=3/\x=0/\k<10^(3*f.j):=by
      rcases hi with hi|hi|hi
      ·exact absurd (show (3:Int)=1 from hi.1) (by decide)
      ·exact absurd (show (3:Int)=2 from hi.1) (by decide)
      ·exact hi
     subst hx0
     have cp:=fun W=>fspec h 31 g W (by decide)
     have cw:=fun W=>fwrite h k W hk (fun _=>by rw [← ten3];exact hk10)
     have cj:=fun W=>fjoin h s _ _ W hPG hPR
     exact dnan_y _ _ _ _ _ _ _ _ _ W s g k _ _ _ (fun W=>cmp4 k _ W hk (by omega)) _ (by rw [dsgn_ge];omega) cp cw cj
    ·rw [if_neg hi,if_neg hi]
     by_cases a1:x=0
     ·subst a1
      have a3:¬ k<10^(3*f.j):=fun q=>hi (Or.inr (Or.inr ⟨rfl,rfl,q⟩))
      exact dnan_k _ _ _ _ _ _ _ _ _ W s g k _ (fun W=>cmp4 k _ W hk (by omega)) ((dsgn_ge _ _).2 a3)
     ·exact dnan_x _ _ _ _ _ _ _ _ _ W x s g k (by simp [a1])
   ·have hi:¬ vI f ⟨c,s,g,x,k⟩:=by
     rintro (q|q|q)
     ·exact h1 q.1
     ·exact h2 q.1
     ·exact h3 q.1
    rw [if_neg hi,if_neg hi]
    exact dpack_0 _ _ _ _ _ _ _ _ _ w c x s g k (by simp [h1]) (by simp [h2]) (by simp [h3])
end
end
section
attribute [local irreducible] W4
theorem vU_good {n:Int}{B:Nat}(h:goodD n B):vUD n B=vM (fD n) B/\vUC n B=decide (vP (fD n) (vM (fD n) B)=B)/\vUE n B=0:=by
 unfold vUD vUC vUE
 exact ⟨if_pos h,decide_eq_decide.2 ⟨fun q=>q.2,fun q=>⟨h,q⟩⟩,if_pos h⟩
theorem vU_bad {n:Int}{B:Nat}(h:¬ goodD n B):vUD n B=⟨0,false,false,0,0⟩/\vUC n B=false/\vUE n B=1:=by
 unfold vUD vUC vUE
 exact ⟨if_neg h,decide_eq_false fun q=>h q.1,if_neg h⟩
end
theorem layof_ok (n:Int)(w:World)(hT:Tab w)(hd:decN n):CB 80 #[.int .i64 n] w (.tuple #[LF (fD n),.int .i64 0]):=by
 obtain ⟨hok,f1,f2,f3,f4,f5,f6,f7,f8⟩:=dec_fields hd
 have c1:=fun W hW=>ofv_any n W hW
 rw [show infoE n=0 from if_pos hok,f1,f2,f3,f4,f5,f6,f7,f8] at c1
 have h:=fD_ok n
 have hw:=h.w12
 generalize fD n=f at *
 have hG:((f.t+(f.w+6):Nat):Int)/16+9=((f.w+5:Nat):Int):=by rcases h with ⟨h1,h2,h3,h4⟩|⟨h1,h2,h3,h4⟩|⟨h1,h2,h3,h4⟩<;>rw [h1,h2]<;>rfl
 have cc:=fun W=>dten_v (3*f.j+1) W (by omega)
 have cp:=fun W=>dten_v (3*f.j) W (by omega)
 have e1:((3*f.j+1:Nat):Int)=3*(f.j:Int)+1:=by omega
 have e2:((3*f.j:Nat):Int)=3*(f.j:Int):=by omega
 have cw:=cp
 rw [e1] at cc
 rw [e2] at cp
 unfold LF
 cases e:f.dn
 ·rw [e] at c1
  have eB:vB f=0:=by unfold vB;rw [e,if_neg (by decide)]
  have eQ:vQ f=2^f.t:=by unfold vQ;rw [e,if_neg (by decide)]
  have cs:=fun W=>shl4 1 f.t W (by decide) (by omega)
  rw [Nat.one_mul] at cs
  rw [eB,eQ]
  exact dlay_p n _ n _ _ _ _ _ _ w hT _ _ _ _ (by omega) (by omega) hG (by omega) (by omega) (by omega) (by omega) (by omega) cc cp _ c1 (fun W=>of4 1 W (by decide)) cs
 ·rw [e] at c1
  have eB:vB f=f.w:=by unfold vB;rw [e,if_pos rfl]
  have eQ:vQ f=10^(3*f.j):=by unfold vQ;rw [e,if_pos rfl]
  rw [eB,eQ]
  rw [show ((3*f.j:Nat):Int)=3*(f.j:Int)+1-1 by omega] at cw
  exact dlay_d n _ n _ _ _ _ _ _ w hT _ _ _ _ (by omega) (by omega) hG (by omega) (by omega) (by omega) (by omega) (by omega) cc cp _ _ (by omega) (by omega) (by omega) c1 cw
theorem not_dec {n:Int}(h:¬ decN n):(okN n/\(baseN n != 10)=true)∨¬ okN n:=by
 by_cases hk:okN n
 ·left
  refine ⟨hk,?_⟩
  unfold decN at h
  rcases okN_cases hk with rfl|rfl|rfl|rfl|rfl|rfl|rfl|rfl|rfl|rfl|rfl|rfl<;>first|rfl|omega
 ·exact Or.inr hk
theorem layof_bad (n:Int)(w:World)(hT:Tab w)(hd:¬ decN n):CB 80 #[.int .i64 n] w (.tuple #[ZL,.int .i64 1]):=by
 have c1:=fun W hW=>ofv_any n W hW
 rcases not_dec hd with ⟨hk,hb⟩|hk
 ·rw [show infoE n=0 from if_pos hk] at c1
  exact dlay_b n _ _ _ _ _ _ _ _ _ _ w hT hb c1
 ·rw [show infoE n=1 from if_neg hk] at c1
  exact dlay_e n _ _ _ _ _ _ _ _ _ _ w hT 1 rfl c1
theorem fits_dec {n:Int}(B:Nat)(hd:decN n):(okN n/\B<2^(widthN n).toNat)↔goodD n B:=by
 have hF:=dec_fields hd
 rw [hF.2.2.2.1,Int.toNat_natCast]
 exact ⟨fun h=>⟨hd,h.2⟩,fun h=>⟨hF.1,h.2⟩⟩
theorem layfor_ok (n:Int)(B:Nat)(w:World)(hT:Tab w)(hB:B<2^256)(hg:goodD n B):CB 56 #[.int .i64 n,A4 B] w (.tuple #[LF (fD n),.int .i64 0]):=by
 have c1:=fun W hW=>fits4 n B hB W hW
 rw [decide_eq_true ((fits_dec B hg.1).2 hg)] at c1
 exact dfor_y n B w hT c1 _ _ _ _ _ _ _ _ _ (fun W hW=>layof_ok n W hW hg.1)
theorem layfor_bad (n:Int)(B:Nat)(w:World)(hT:Tab w)(hB:B<2^256)(hg:¬ goodD n B):CB 56 #[.int .i64 n,A4 B] w (.tuple #[ZL,.int .i64 1]):=by
 have c1:=fun W hW=>fits4 n B hB W hW
 by_cases hd:decN n
 ·rw [decide_eq_false (fun q=>hg ((fits_dec B hd).1 q))] at c1
  exact dfor_n n B w hT c1
 ·by_cases hf:okN n/\B<2^(widthN n).toNat
  ·rw [decide_eq_true hf] at c1
   exact dfor_b n B w hT c1 (fun W hW=>layof_bad n W hW hd)
  ·rw [decide_eq_false hf] at c1
   exact dfor_n n B w hT c1
theorem dunpk14 (n:Int)(B:Nat)(hB:B<2^256)(W:World)(hT:Tab W):CB 28 #[.int .i64 n,A4 B] W (.tuple #[(vUD n B).v,.bool (vUC n B),.int .i64 (vUE n B)]):=by
 by_cases hg:goodD n B
 ·obtain ⟨e1,e2,e3⟩:=vU_good hg
  rw [e1,e2,e3]
  have h:=fD_ok n
  have c3:=fun W=>fpack h (vM (fD n) B) W (vM_256 h B)
  rw [if_pos (vM_is h B),if_pos (vM_is h B)] at c3
  refine dunp_y n W hT _ _ _ _ _ _ _ _ _ B (fun W hW=>layfor_ok n B W hW hB hg) _ _ _ _ _ _ _ (fun W=>fmean h B W hB) c3 _ ?_
  exact eq_words (vP_256 h (vM_is h B)) hB
 ·obtain ⟨e1,e2,e3⟩:=vU_bad hg
  rw [e1,e2,e3,zero_v]
  exact dunp_n n W hT B (fun W hW=>layfor_bad n B W hW hB hg)
section
attribute [local irreducible] W4 Nz Nt NT
section
variable (t d c x:Int)(s g:Bool)(k:Nat)(hk:k<2^256)(P R:Nat)(F E:Int)(w:World)(hT:Tab w)(hxb:-20000<=x/\x<=20000)
include hk hT hxb
theorem crd_n (hx:x<0)
  (c61:∀ W k,k=-x->Calls Tryz.prog 61 #[.int .i64 5,.int .i64 k] W fun r w'=>∃ v,r=.returned (.tuple #[v,.int .i64 0])/\Nt 2001 P v w'/\Below W.heap.size W w')
  (c63:∀ W v v',Tab W->Nt 4 k v W->Nt 2001 P v' W->CB 63 #[.int .i64 t,.int .i64 d,.bool s,v,v',.int .i64 x] W (.tuple #[A4 R,.int .i64 F,.int .i64 E])) :
  CB 30 #[.int .i64 t,.int .i64 d,DV c s g x k] w (.tuple #[A4 R,.int .i64 F,.int .i64 E]):=by
 have hbx:=fun W hW=>dat_box (w0:=w) (w:=W) (c:=c) (s:=s) (g:=g) (x:=x) (t:=38) hk hW
 have hsm:=cell_set_map
 go_enter Tryz.func30,Tryz.ntmps30
 go_wp2_with (first
  | (go_at_call 61;refine (c61 _ _ (by omega)).mono ?_;rintro r w1 ⟨v1,rfl,hv1,hb1⟩;have hv0:=hbx _ (bnx (bnx (below1 _ _) (below1 _ _)) hb1);obtain ⟨_,_,_,_,hA1,_⟩:=wz w hb1;obtain ⟨_,_⟩:=zf hb1 (w.heap.size+1);obtain ⟨_,_⟩:=zf hb1 (w.heap.size+1+1);clear hb1)
  | (go_at_call 63;refine (c63 _ _ _ (hT.go bgo) hv0 hv1).mono ?_;rintro r w2 ⟨rfl,hb2⟩;obtain ⟨_,_,_,_,hA2,_⟩:=wz w hb2;obtain ⟨_,_⟩:=zf hb2 (w.heap.size+1);obtain ⟨_,_⟩:=zf hb2 (w.heap.size+1+1);clear hb2))
 exact bodyPost_ret (v:=.tuple #[A4 R,.int .i64 F,.int .i64 E]) (by simp only [results,Tryz.results30];go_simp) rfl ⟨rfl,bgo⟩
theorem crd_p (hx:¬ x<0)
  (c61:∀ W,Calls Tryz.prog 61 #[.int .i64 5,.int .i64 x] W fun r w'=>∃ v,r=.returned (.tuple #[v,.int .i64 0])/\Nt 2001 P v w'/\Below W.heap.size W w')
  (c62:∀ W v v',Nt 4 k v W->Nt 2001 P v' W->Calls Tryz.prog 62 #[v,v'] W fun r w'=>∃ q,r=.returned (.tuple #[q,.int .i64 0])/\NT 2001 (k*P) q w'/\Below W.heap.size W w')
  (c63:∀ W v v',Tab W->NT 2001 (k*P) v W->NT 900 1 v' W->CB 63 #[.int .i64 t,.int .i64 d,.bool s,v,v',.int .i64 x] W (.tuple #[A4 R,.int .i64 F,.int .i64 E])) :
  CB 30 #[.int .i64 t,.int .i64 d,DV c s g x k] w (.tuple #[A4 R,.int .i64 F,.int .i64 E]):=by
 have hbx:=fun W hW=>dat_box (w0:=w) (w:=W) (c:=c) (s:=s) (g:=g) (x:=x) (t:=38) hk hW
 have hx0:0<=x:=by omega
 have hsm:=cell_set_map
 go_enter Tryz.func30,Tryz.ntmps30
 go_wp2_with (first
  | (go_at_call 61;refine (c61 _).mono ?_;rintro r w1 ⟨v1,rfl,hv1,hb1⟩;have hv0:=hbx _ (bnx (bnx (below1 _ _) (below1 _ _)) hb1);have hone:=NT.next (nt_oneB rfl) hb1;obtain ⟨_,_,_,_,hA1,_⟩:=wz w hb1;obtain ⟨_,_⟩:=zf hb1 (w.heap.size+1);obtain ⟨_,_⟩:=zf hb1 (w.heap.size+1+1);clear hb1)
  | (go_at_call 62;refine (c62 _ _ _ hv0 hv1).mono ?_;rintro r w2 ⟨v2,rfl,hv2,hb2⟩;have hone2:=hone.next hb2;obtain ⟨_,_,_,_,hA2,_⟩:=wz w hb2;obtain ⟨_,_⟩:=zf hb2 (w.heap.size+1);obtain ⟨_,_⟩:=zf hb2 (w.heap.size+1+1);clear hb2)
  | (go_at_call 63;refine (c63 _ _ _ (hT.go bgo) hv2 (by simpa using hone2)).mono ?_;rintro r w3 ⟨rfl,hb3⟩;obtain ⟨_,_,_,_,hA3,_⟩:=wz w hb3;obtain ⟨_,_⟩:=zf hb3 (w.heap.size+1);obtain ⟨_,_⟩:=zf hb3 (w.heap.size+1+1);clear hb3))
 exact bodyPost_ret (v:=.tuple #[A4 R,.int .i64 F,.int .i64 E]) (by simp only [results,Tryz.results30];go_simp) rfl ⟨rfl,bgo⟩
end
theorem crd_v {t d x:Int}(c:Int)(s g:Bool){k:Nat}(hk:k<2^256)(w:World)(hT:Tab w)(hb:binN t)(hd:knB d)(hx:-10000<=x/\x<=10000) :
  CB 30 #[.int .i64 t,.int .i64 d,DV c s g x k] w (.tuple #[A4 (rdV t d s (tN k x) (tD x) x),.int .i64 (rdF t d s (tN k x) (tD x) x),.int .i64 0]):=by
 have hA:bl k<=256:=bl_le.2 hk
 by_cases he:x<0
 ·have hm:=five_bl (-x).toNat
  have e1:tN k x=k:=by unfold tN;rw [show x.toNat=0 by omega,Nat.pow_zero,Nat.mul_one]
  have e2:tD x=5^(-x).toNat:=rfl
  rw [e1,e2]
  refine crd_n t d c x s g k hk (5^(-x).toNat) _ _ _ w hT (by omega) he (fun W j hj=>?_) (fun W v v' hT' hv hv'=>?_)
  ·have:=npow5 (-x).toNat W (by omega)
   rw [show (((-x).toNat:Nat):Int)=j by omega] at this
   exact this
  ·exact rnd_good t d x s hT' (hv.more (by decide)) hv' hb hd (Nat.pos_iff_ne_zero.1 (Nat.pow_pos (by decide))) (by omega) (by omega)
 ·have hm:=five_bl x.toNat
  have e1:tD x=1:=by unfold tD;rw [show (-x).toNat=0 by omega,Nat.pow_zero]
  have e2:tN k x=k*5^x.toNat:=rfl
  rw [e1,e2]
  have hbm:=bl_mul k (5^x.toNat)
  refine crd_p t d c x s g k hk (5^x.toNat) _ _ _ w hT (by omega) he (fun W=>?_) (fun W v v' hv hv'=>nmul_w (by decide) (by decide) hv hv' (by omega)) (fun W v v' hT' hv hv'=>?_)
  ·have:=npow5 x.toNat W (by omega)
   rw [show ((x.toNat:Nat):Int)=x by omega] at this
   exact this
  ·exact rnd_good t d x s hT' hv.nt (hv'.nt.more (by decide)) hb hd (by decide) (by omega) (by decide)
section
variable (m t d c x:Int)(s g ok:Bool)(k B:Nat)(I:Value)(w:World)(hT:Tab w)
include hT
theorem cvi_e1
  (c1:∀ W,Tab W->CB 28 #[.int .i64 m,A4 B] W (.tuple #[DV c s g x k,.bool ok,.int .i64 1])) :
  CB 9 #[.int .i64 m,.int .i64 t,.int .i64 d,A4 B] w (.tuple #[A4 0,.int .i64 0,.int .i64 1]):=by
 rw [Z4_eq]
 have hsm:=cell_set_map
 go_enter Tryz.func9,Tryz.ntmps9
 go_wp2_with (first
  | (go_at_call 28;refine (c1 _ (hT.go bgo)).mono ?_;rintro r w1 ⟨rfl,hb1⟩;obtain ⟨_,_,_,_,hA1,_⟩:=wz w hb1;obtain ⟨_,_⟩:=zf hb1 (w.heap.size+1);clear hb1))
 exact bodyPost_ret (by simp only [results,Tryz.results9];go_simp) rfl ⟨rfl,bgo⟩
variable (c1:∀ W,Tab W->CB 28 #[.int .i64 m,A4 B] W (.tuple #[DV c s g x k,.bool ok,.int .i64 0]))
include c1
theorem cvi_e2
  (c2:∀ W,Tab W->CB 29 #[.int .i64 t,.int .i64 2,.int .i64 d] W (.tuple #[IZ,.int .i64 1])) :
  CB 9 #[.int .i64 m,.int .i64 t,.int .i64 d,A4 B] w (.tuple #[A4 0,.int .i64 0,.int .i64 1]):=by
 rw [Z4_eq]
 have hsm:=cell_set_map
 go_enter Tryz.func9,Tryz.ntmps9
 go_wp2_with (first
  | (go_at_call 28;refine (c1 _ (hT.go bgo)).mono ?_;rintro r w1 ⟨rfl,hb1⟩;obtain ⟨_,_,_,_,hA1,_⟩:=wz w hb1;obtain ⟨_,_⟩:=zf hb1 (w.heap.size+1);clear hb1)
  | (go_at_call 29;refine (c2 _ (hT.go bgo)).mono ?_;rintro r w2 ⟨rfl,hb2⟩;obtain ⟨_,_,_,_,hA2,_⟩:=wz w hb2;obtain ⟨_,_⟩:=zf hb2 (w.heap.size+1);obtain ⟨_,_⟩:=zf hb2 w1.heap.size;clear hb2))
 exact bodyPost_ret (by simp only [results,Tryz.results9];go_simp) rfl ⟨rfl,bgo⟩
variable (c2:∀ W,Tab W->CB 29 #[.int .i64 t,.int .i64 2,.int .i64 d] W (.tuple #[InfV t,.int .i64 0]))
include c2
theorem cvi_1 (hc:c=1)(R:Nat)(F:Int)
  (cR:∀ W,Tab W->CB 30 #[.int .i64 t,.int .i64 d,DV 1 s g x k] W (.tuple #[A4 R,.int .i64 F,.int .i64 0])) :
  CB 9 #[.int .i64 m,.int .i64 t,.int .i64 d,A4 B] w (.tuple #[A4 R,.int .i64 F,.int .i64 0]):=by
 subst hc
 have hsm:=cell_set_map
 go_enter Tryz.func9,Tryz.ntmps9
 go_wp2_with (first
  | (go_at_call 28;refine (c1 _ (hT.go bgo)).mono ?_;rintro r w1 ⟨rfl,hb1⟩;obtain ⟨_,_,_,_,hA1,_⟩:=wz w hb1;obtain ⟨_,_⟩:=zf hb1 (w.heap.size+1);clear hb1)
  | (go_at_call 29;refine (c2 _ (hT.go bgo)).mono ?_;rintro r w2 ⟨rfl,hb2⟩;obtain ⟨_,_,_,_,hA2,_⟩:=wz w hb2;obtain ⟨_,_⟩:=zf hb2 (w.heap.size+1);obtain ⟨_,_⟩:=zf hb2 w1.heap.size;clear hb2)
  | (go_at_call 30;refine (cR _ (hT.go bgo)).mono ?_;rintro r w3 ⟨rfl,hb3⟩;obtain ⟨_,_,_,_,hA3,_⟩:=wz w hb3;obtain ⟨_,_⟩:=zf hb3 (w.heap.size+1);obtain ⟨_,_⟩:=zf hb3 w1.heap.size;obtain ⟨_,_⟩:=zf hb3 w2.heap.size;clear hb3))
 exact bodyPost_ret (by simp only [results,Tryz.results9];go_simp) rfl ⟨rfl,bgo⟩
theorem cvi_3 (hc:c=2∨c=3)(k' R:Nat)(F:Int)
  (cC:∀ W,CB 31 #[InfV t,DV c s g x k] W (.tuple #[DV c s false x k',.int .i64 F]))
  (cP:∀ W,Tab W->CB 32 #[.int .i64 t,DV c s false x k'] W (.tuple #[A4 R,.int .i64 0])) :
  CB 9 #[.int .i64 m,.int .i64 t,.int .i64 d,A4 B] w (.tuple #[A4 R,.int .i64 F,.int .i64 0]):=by
 have hsm:=cell_set_map
 rcases hc with rfl|rfl
 all_goals (
  go_enter Tryz.func9,Tryz.ntmps9
  go_wp2_with (first
   | (go_at_call 28;refine (c1 _ (hT.go bgo)).mono ?_;rintro r w1 ⟨rfl,hb1⟩;obtain ⟨_,_,_,_,hA1,_⟩:=wz w hb1;obtain ⟨_,_⟩:=zf hb1 (w.heap.size+1);clear hb1)
   | (go_at_call 29;refine (c2 _ (hT.go bgo)).mono ?_;rintro r w2 ⟨rfl,hb2⟩;obtain ⟨_,_,_,_,hA2,_⟩:=wz w hb2;obtain ⟨_,_⟩:=zf hb2 (w.heap.size+1);obtain ⟨_,_⟩:=zf hb2 w1.heap.size;clear hb2)
   | (go_at_call 31;refine (cC _).mono ?_;rintro r w3 ⟨rfl,hb3⟩;obtain ⟨_,_,_,_,hA3,_⟩:=wz w hb3;obtain ⟨_,_⟩:=zf hb3 (w.heap.size+1);obtain ⟨_,_⟩:=zf hb3 w1.heap.size;obtain ⟨_,_⟩:=zf hb3 w2.heap.size;clear hb3)
   | (go_at_call 32;refine (cP _ (hT.go bgo)).mono ?_;rintro r w4 ⟨rfl,hb4⟩;obtain ⟨_,_,_,_,hA4,_⟩:=wz w hb4;obtain ⟨_,_⟩:=zf hb4 (w.heap.size+1);obtain ⟨_,_⟩:=zf hb4 w1.heap.size;obtain ⟨_,_⟩:=zf hb4 w2.heap.size;clear hb4))
  exact bodyPost_ret (by simp only [results,Tryz.results9];go_simp) rfl ⟨rfl,bgo⟩)
end
theorem bin_bound {t:Int}(hb:binN t)(W:World):Calls Tryz.prog 61 #[.int .i64 (baseN t),.int .i64 (payN t)] W fun r w'=>∃ v,r=.returned (.tuple #[v,.int .i64 0])/\Nt 2001 (2^(fN t-1)) v w'/\Below W.heap.size W w':=by
 obtain ⟨f1,f2,f3,f4,f5,f6⟩:=bin_fields hb
 have h2:=fN_two hb
 have h240:=(bin_fm hb).f240
 rw [f2,f6,show (fN t:Int)-1=((fN t-1:Nat):Int) by omega]
 exact npow2z (fN t-1) W (by omega)
theorem crn_v (m t d:Int)(B:Nat)(w:World)(hT:Tab w)(hB:B<2^256) :
  CB 9 #[.int .i64 m,.int .i64 t,.int .i64 d,A4 B] w (.tuple #[A4 (xiV m t d B),.int .i64 (xiF m t d B),.int .i64 (xiE m t d B)]):=by
 have c1:∀ W,Tab W->CB 28 #[.int .i64 m,A4 B] W (.tuple #[DV (vUD m B).c (vUD m B).s (vUD m B).g (vUD m B).x (vUD m B).k,.bool (vUC m B),.int .i64 (vUE m B)]):=fun W h=>dunpk14 m B hB W h
 unfold xiV xiF xiE
 by_cases h1:goodD m B
 ·rw [show vUE m B=0 from if_pos h1,show vUD m B=vM (fD m) B from if_pos h1] at c1
  by_cases h2:binN t/\knB d
  ·obtain ⟨hb,hd⟩:=h2
   obtain ⟨f1,f2,f3,f4,f5,f6⟩:=bin_fields hb
   have c2:=fun W h=>starg_y W h f1 f2 hd
   have hc:xiG m t d B:=⟨h1,hb,hd⟩
   rw [if_pos hc,if_pos hc,if_pos hc]
   have hi:=vM_is (fD_ok m) B
   have hkk:=vI_k (fD_ok m) hi
   have hxx:=vI_x (fD_ok m) hi
   generalize vM (fD m) B=D at *
   obtain ⟨c,s,g,x,k⟩:=D
   dsimp only at c1 hkk hxx
   have cC:=fun c W=>sconv_v t _ (bin_bound hb) c x s g hkk W
   rcases hi with ⟨i1,i2,i3,i4,i5⟩|⟨i1,i2,i3,i4⟩|⟨i1,i2,i3⟩
   ·dsimp only at i1 i2
    subst i1
    exact cvi_1 m t d 1 x s g _ k B w hT c1 c2 rfl _ _ (fun W h=>crd_v 1 s g hkk W h hb hd hxx)
   ·dsimp only at i1 i2 i3 i4
    subst i1 i2 i3 i4
    have hE:pkE t ⟨2,s,false,0,0⟩=0:=by
     unfold pkE
     rw [if_pos hb]
     exact if_pos (Or.inr (Or.inl ⟨rfl,rfl,rfl,rfl⟩))
    have cP:=fun W h=>pack_any t ⟨2,s,false,0,0⟩ W h (show 0<2^256 by decide)
    rw [hE] at cP
    refine cvi_3 m t d 2 0 s false _ 0 B w hT c1 c2 (Or.inl rfl) _ _ _ (cC 2) ?_
    rw [ite_self]
    exact cP
   ·dsimp only at i1 i2
    subst i1 i2
    have hk':(if k<2^(fN t-1) then k else 0)<2^256:=by split<;>omega
    have hE:pkE t ⟨3,s,false,0,if k<2^(fN t-1) then k else 0⟩=0:=by
     unfold pkE
     rw [if_pos hb]
     refine if_pos (Or.inr (Or.inr ⟨rfl,rfl,?_,Or.inr rfl⟩))
     dsimp only
     split
     ·assumption
     ·exact Nat.two_pow_pos _
    have cP:=fun W h=>pack_any t ⟨3,s,false,0,if k<2^(fN t-1) then k else 0⟩ W h hk'
    rw [hE] at cP
    exact cvi_3 m t d 3 0 s g _ k B w hT c1 c2 (Or.inr rfl) _ _ _ (cC 3) cP
  ·have hc:¬ xiG m t d B:=fun q=>h2 q.2
   rw [if_neg hc,if_neg hc,if_neg hc]
   refine cvi_e2 m t d _ _ _ _ _ _ B w hT c1 (fun W h=>starg_n W h ?_)
   rintro ⟨a1,a2,a3⟩
   refine h2 ⟨?_,a3⟩
   apply Classical.byContradiction
   intro hn
   rcases not_bin hn with ⟨q1,q2⟩|q1
   ·rw [a2] at q2;exact absurd q2 (by decide)
   ·exact q1 a1
 ·rw [show vUE m B=1 from if_neg h1] at c1
  have hc:¬ xiG m t d B:=fun q=>h1 q.1
  rw [if_neg hc,if_neg hc,if_neg hc]
  exact cvi_e1 m t d _ _ _ _ _ _ B w hT c1
end
section
attribute [local irreducible] W4
attribute [local irreducible] Nz Nt
section
variable (c:Int)(s g:Bool)(x:Int)(k:Nat)(w:World)(T:List UInt8)
theorem dwd_0 (h0:k=0)(c31:∀ W,Below w.heap.size w W->CB 82 #[.agg #[.int .i64 c,.bool s,.bool g,.string ⟨#[]⟩,.int .i64 0]] W (.tuple #[.string (B T),.int .i64 0])) :
  CB 50 #[DV c s g x k] w (.string (B T)):=by
 subst h0
 have e1:=eq24 0 0 0 0 0 0 0 0
 rw [decide_eq_true ⟨rfl,rfl,rfl,rfl⟩] at e1
 have hsm:=cell_set_map
 unfold DV
 simp only [W4_zero]
 go_enter Tryz.func50,Tryz.ntmps50
 go_wp2_with (first
  | (go_at_call 82;refine (c31 _ bgo).mono ?_;rintro r w1 ⟨rfl,hb1⟩;obtain ⟨_,_,_,_,hA1,_⟩:=wz w hb1;clear hb1))
 exact bodyPost_ret (v:=.string (B T)) (by simp only [results,Tryz.results50];go_simp) rfl ⟨rfl,bgo⟩
theorem dwd_k (D:List UInt8)(hk:k<2^256)(h0:k≠0)
  (c20:∀ W v,Nt 4 k v W->CB 51 #[v] W (.tuple #[.string (B D),.int .i64 0]))
  (c31:∀ W,Below w.heap.size w W->CB 82 #[.agg #[.int .i64 c,.bool s,.bool g,.string (B D),.int .i64 0]] W (.tuple #[.string (B T),.int .i64 0])) :
  CB 50 #[DV c s g x k] w (.string (B T)):=by
 have e1:=eq24 (W4 k 0) (W4 k 1) (W4 k 2) (W4 k 3) 0 0 0 0
 rw [W4_none hk,decide_eq_false h0] at e1
 clear h0
 have hsm:=cell_set_map
 unfold DV
 go_enter Tryz.func50,Tryz.ntmps50
 go_wp2_with (first
  | (go_at_call 51;refine (c20 _ _ (nt_at hk (by first|(simp;done)|(simp;omega)) (by go_simp) (by go_simp) (by go_simp) (by go_simp))).mono ?_;rintro r w1 ⟨rfl,hb1⟩;obtain ⟨_,_,_,_,hA1,_⟩:=wz w hb1;obtain ⟨_,_⟩:=zf hb1 (w.heap.size+1);clear hb1)
  | (go_at_call 82;refine (c31 _ bgo).mono ?_;rintro r w2 ⟨rfl,hb2⟩;obtain ⟨_,_,_,_,hA2,_⟩:=wz w hb2;obtain ⟨_,_⟩:=zf hb2 (w.heap.size+1);clear hb2))
 exact bodyPost_ret (v:=.string (B T)) (by simp only [results,Tryz.results50];go_simp) rfl ⟨rfl,bgo⟩
end
end
section
attribute [local irreducible] W4 Nz Nt
section
variable (n:Int)(Bp:Nat)(c:Int)(s g ok:Bool)(x:Int)(k:Nat)(w:World)(hT:Tab w)
include hT
theorem dwx_e (E:Int)(hE:(E != 0)=true)(c21:∀ W,Tab W->CB 28 #[.int .i64 n,A4 Bp] W (.tuple #[DV c s g x k,.bool ok,.int .i64 E])) :
  CB 24 #[.int .i64 n,A4 Bp] w (.tuple #[.string (B []),.int .i64 E]):=by
 have hsm:=cell_set_map
 unfold DV A4 at *
 go_enter Tryz.func24,Tryz.ntmps24
 go_wp2_with (go_at_call 28;refine (c21 _ (hT.go bgo)).mono ?_;rintro r w1 ⟨rfl,hb1⟩;obtain ⟨_,_,_,_,hA1,_⟩:=wz w hb1;clear hb1)
 exact bodyPost_ret (v:=.tuple #[.string (B []),.int .i64 E]) (by simp only [results,Tryz.results24];go_simp;rfl) rfl ⟨rfl,bgo⟩
variable (hT10:Tb10 w)(c21:∀ W,Tab W->CB 28 #[.int .i64 n,A4 Bp] W (.tuple #[DV c s g x k,.bool ok,.int .i64 0]))
include hT10 c21
theorem dwx_o (hc:(c != 1)=true)(T:List UInt8)(c28:∀ W,Tb10 W->CB 50 #[DV c s g x k] W (.string (B T))) :
  CB 24 #[.int .i64 n,A4 Bp] w (.tuple #[.string (B T),.int .i64 0]):=by
 have hsm:=cell_set_map
 unfold DV A4 at *
 go_enter Tryz.func24,Tryz.ntmps24
 go_wp2_with (first
  | (go_at_call 28;refine (c21 _ (hT.go bgo)).mono ?_;rintro r w1 ⟨rfl,hb1⟩;obtain ⟨_,_,_,_,hA1,_⟩:=wz w hb1;clear hb1)
  | (go_at_call 50;refine (c28 _ (hT10.next bgo)).mono ?_;rintro r w2 ⟨rfl,hb2⟩;obtain ⟨_,_,_,_,hA2,_⟩:=wz w hb2;obtain ⟨_,_⟩:=zf hb2 w1.heap.size;clear hb2))
 exact bodyPost_ret (v:=.tuple #[.string (B T),.int .i64 0]) (by simp only [results,Tryz.results24];go_simp) rfl ⟨rfl,bgo⟩
variable (hc:c=1)(hk:k<2^256)(hx:-10000<=x/\x<=10000)(D:List UInt8)(hD:D.length<=660)(T:List UInt8)(hTl:T.length<=4000)
 (c20:∀ W v,Nt 4 k v W->CB 51 #[v] W (.tuple #[.string (B D),.int .i64 0]))
 (c29:∀ W,Tb10 W->CB 52 #[.string (B D),.int .i64 (x+((B D).size:Int)-1)] W (.string (B T)))
include hc hk hx hD hTl c20 c29
theorem dwx_f (hs:s=false) :
  CB 24 #[.int .i64 n,A4 Bp] w (.tuple #[.string (B T),.int .i64 0]):=by
 subst hc hs
 have hsz:((B D).size:Int)<=660:=by rw [B_size];omega
 clear hD
 have hsm:=cell_set_map
 unfold DV A4 at *
 go_enter Tryz.func24,Tryz.ntmps24
 go_wp2_with (first
  | (go_at_call 28;refine (c21 _ (hT.go bgo)).mono ?_;rintro r w1 ⟨rfl,hb1⟩;obtain ⟨_,_,_,_,hA1,_⟩:=wz w hb1;clear hb1)
  | (go_at_call 51;refine (c20 _ _ (nt_at hk (by first|(simp;done)|(simp;omega)) (by go_simp) (by go_simp) (by go_simp) (by go_simp))).mono ?_;rintro r w2 ⟨rfl,hb2⟩;obtain ⟨_,_,_,_,hA2,_⟩:=wz w hb2;obtain ⟨_,_⟩:=zf hb2 w1.heap.size;clear hb2)
  | (go_at_call 52;refine (c29 _ (hT10.next bgo)).mono ?_;rintro r w3 ⟨rfl,hb3⟩;obtain ⟨_,_,_,_,hA3,_⟩:=wz w hb3;obtain ⟨_,_⟩:=zf hb3 w1.heap.size;clear hb3))
 exact bodyPost_ret (v:=.tuple #[.string (B T),.int .i64 0]) (by simp only [results,Tryz.results24];go_simp) rfl ⟨rfl,bgo⟩
theorem dwx_t (hs:s=true) :
  CB 24 #[.int .i64 n,A4 Bp] w (.tuple #[.string (B (45::T)),.int .i64 0]):=by
 subst hc hs
 have hsz:((B D).size:Int)<=660:=by rw [B_size];omega
 have hst:((B T).size:Int)<=4000:=by rw [B_size];omega
 have eB:(⟨#[45]⟩:ByteArray)++B T=B (45::T):=B_app [45] T
 rw [← eB]
 clear hD hTl eB
 have hsm:=cell_set_map
 unfold DV A4 at *
 go_enter Tryz.func24,Tryz.ntmps24
 go_wp2_with (first
  | (go_at_call 28;refine (c21 _ (hT.go bgo)).mono ?_;rintro r w1 ⟨rfl,hb1⟩;obtain ⟨_,_,_,_,hA1,_⟩:=wz w hb1;clear hb1)
  | (go_at_call 51;refine (c20 _ _ (nt_at hk (by first|(simp;done)|(simp;omega)) (by go_simp) (by go_simp) (by go_simp) (by go_simp))).mono ?_;rintro r w2 ⟨rfl,hb2⟩;obtain ⟨_,_,_,_,hA2,_⟩:=wz w hb2;obtain ⟨_,_⟩:=zf hb2 w1.heap.size;clear hb2)
  | (go_at_call 52;refine (c29 _ (hT10.next bgo)).mono ?_;rintro r w3 ⟨rfl,hb3⟩;obtain ⟨_,_,_,_,hA3,_⟩:=wz w hb3;obtain ⟨_,_⟩:=zf hb3 w1.heap.size;clear hb3))
 exact bodyPost_ret (v:=.tuple #[.string ((⟨#[45]⟩:ByteArray)++B T),.int .i64 0]) (by simp only [results,Tryz.results24];go_simp) rfl ⟨rfl,bgo⟩
end
end
theorem ndig_z {K:Nat}{v:Value}{w:World}(hK:K<=1000)(h:Nt K 0 v w):CB 51 #[v] w (.tuple #[.string (B [48]),.int .i64 0]):=by
 obtain ⟨a,n,c,z,rfl,hn,hN,hz⟩:=h
 have hle:=sizeL_le z n
 refine (ndigits_any a n c z w (by omega) hN (by omega)).mono fun r w' ⟨L,hL,he,hB⟩=>⟨?_,hB⟩
 rw [he,hz] at *
 rw [decL_more (L':=0) (by decide) hL (by decide)]
 rfl
theorem ndig_wt {K k:Nat}{v:Value}{w:World}(hK:K<=1000)(hk:k<2^256)(h:Nt K k v w):CB 51 #[v] w (.tuple #[.string (B (wtD k)),.int .i64 0]):=by
 unfold wtD
 by_cases h0:k=0
 ·rw [if_pos h0]
  subst h0
  exact ndig_z hK h
 ·rw [if_neg h0]
  exact ndig_v hK hk h0 h
theorem jn_word {f:DF}(hf:f.ok){v:Dat}(h:vI f v)(hc:¬ v.c=1):jnP ⟨v.c,v.s,v.g,dcL v.k,0⟩:=by
 obtain ⟨h1,h2⟩:=xt_cut hf h
 obtain ⟨f1,f2,f3⟩:=dcL_facts (vI_k hf h)
 unfold xtT xtP at h1
 rw [if_neg hc,if_neg hc] at h1
 exact ⟨by show (dcL v.k).length<=4000;omega,h1⟩
theorem dword {f:DF}(hf:f.ok){v:Dat}(h:vI f v)(hc:¬ v.c=1)(w:World)(hT10:Tb10 w) :
  CB 50 #[v.v] w (.string (B (xtT v))):=by
 have hk:=vI_k hf h
 have hj:=jn_word hf h hc
 have c31:=fun W (hb:Below w.heap.size w W)=>join_y ⟨v.c,v.s,v.g,dcL v.k,0⟩ W (hT10.next hb) ⟨by show (-9223372036854775808:Int)<=0;decide,by show (0:Int)<=9223372036854775807;decide⟩ hj
 have e:xtT v=texT v.c v.s v.g (dcL v.k) 0:=if_neg hc
 rw [e]
 obtain ⟨c,s,g,x,k⟩:=v
 dsimp only at *
 by_cases h0:k=0
 ·have ed:dcL k=[]:=by rw [h0];kernel_rfl
  rw [ed] at c31 ⊢
  exact dwd_0 c s g x k w _ h0 c31
 ·exact dwd_k c s g x k w _ (dcL k) hk h0 (fun W v hv=>ndig_v (by decide) hk h0 hv) c31
theorem dwr16 (n:Int)(Bp:Nat)(w:World)(hB:Bp<2^256)(hT:Tab w)(hT10:Tb10 w) :
  CB 24 #[.int .i64 n,A4 Bp] w (.tuple #[.string (B (dwT n Bp)),.int .i64 (vUE n Bp)]):=by
 have c21:=fun W hW=>dunpk14 n Bp hB W hW
 have hk:=vUD_256 n Bp
 unfold dwT
 by_cases hg:goodD n Bp
 ·have e1:vUE n Bp=0:=if_pos hg
  have e2:vUD n Bp=vM (fD n) Bp:=if_pos hg
  rw [if_pos hg,e1]
  rw [e1] at c21
  have hi:=vM_is (fD_ok n) Bp
  rw [← e2] at hi ⊢
  obtain ⟨m0,m1,l0,l1,lm,j0,j1⟩:=ok_m (fD_ok n)
  generalize vUD n Bp=v at *
  by_cases hc:v.c=1
  ·have hx:-10000<=v.x/\v.x<=10000:=by
    rcases hi with ⟨_,_,_,a,b⟩|⟨a,_⟩|⟨a,_⟩
    ·unfold DF.m at *
     omega
    ·rw [hc] at a;exact absurd a (by decide)
    ·rw [hc] at a;exact absurd a (by decide)
   have eT:xtT v=sgL v.s++unT (wtD v.k) (v.x+(wtD v.k).length-1):=if_pos hc
   rw [eT]
   have hl:1<=(wtD v.k).length/\(wtD v.k).length<=660:=by
    unfold wtD
    by_cases h0:v.k=0
    ·rw [if_pos h0];decide
    ·rw [if_neg h0]
     exact ⟨List.length_pos_iff.2 (dcL_ne h0 hk),(dcL_facts hk).2.2⟩
   have hu:=unT_brief (D:=wtD v.k) (e:=v.x+(wtD v.k).length-1) (by omega)
   have c20:=fun W u (h:Nt 4 v.k u W)=>ndig_wt (by decide) hk h
   have c29:=fun W hW=>ltext_v (wtD v.k) (v.x+(wtD v.k).length-1) W hW (by omega) hl.1 (by omega)
   rw [show ((wtD v.k).length:Int)=((B (wtD v.k)).size:Int) by rw [B_size]] at c29 hu ⊢
   obtain ⟨c,s,g,x,k⟩:=v
   dsimp only at *
   cases s
   ·exact dwx_f n Bp c false g _ x k w hT hT10 c21 hc hk hx (wtD k) hl.2 (unT (wtD k) (x+((B (wtD k)).size:Int)-1)) (by omega) c20 c29 rfl
   ·exact dwx_t n Bp c true g _ x k w hT hT10 c21 hc hk hx (wtD k) hl.2 (unT (wtD k) (x+((B (wtD k)).size:Int)-1)) (by omega) c20 c29 rfl
  ·have c28:=fun W hW=>dword (fD_ok n) hi hc W hW
   obtain ⟨c,s,g,x,k⟩:=v
   exact dwx_o n Bp c s g _ x k w hT hT10 c21 (by simpa using hc) _ c28
 ·have e1:vUE n Bp=1:=if_neg hg
  rw [if_neg hg,e1]
  rw [e1] at c21
  exact dwx_e n Bp _ _ _ _ _ _ w hT 1 (by decide) c21
def TTb (w:World):Prop:=Tab w/\Tb10 w
theorem dtxC:DtxC TTb where
 next:=fun w w' hT hb=>⟨hT.1.go hb,hT.2.next hb⟩
 t10:=fun w hT=>hT.2
 wr:=fun n Bp W hB hT=>dwr16 n Bp W hB hT.1 hT.2
theorem crnB:CrnC TTb:=⟨dtxC.next,fun m t d Bp W hB hT=>crn_v m t d Bp W hT.1 hB⟩
theorem rdbB:RdbC TTb:=⟨fun n d l p W hb hk hc hl hT=>read_v hb hk hc hl W hT.1 hT.2⟩
theorem crossinTexts_any (m t d:Int)(Bp:Nat)(w:World)(hT:Tab w)(hT10:Tb10 w)(hB:Bp<2^256) :
  CB 6 #[.int .i64 m,.int .i64 t,.int .i64 d,A4 Bp] w (.bool true) :=
 texts18_v crnB m t d Bp w ⟨hT,hT10⟩ hB dtxC rdbB
end Go.Proofs.YtjfeaiaafbaobaaGreatDoor
