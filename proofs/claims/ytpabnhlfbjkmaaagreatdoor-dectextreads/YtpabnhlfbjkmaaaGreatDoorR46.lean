/-
  Texts that the proof leans on.
-/
import Derived.Test.YtpabnhlfbjkmaaaGreatDoorR38
import Derived.Test.YtpabnhlfbjkmaaaGreatDoorR39
import Derived.Test.YtpabnhlfbjkmaaaGreatDoorR1
import Derived.Test.YtpabnhlfbjkmaaaGreatDoorR33
import Derived.Test.YtpabnhlfbjkmaaaGreatDoorR41
import Derived.Test.YtpabnhlfbjkmaaaGreatDoorR24
import Derived.Test.YtpabnhlfbjkmaaaGreatDoorR35
import Derived.Test.YtpabnhlfbjkmaaaGreatDoorR45
import Derived.Test.YtpabnhlfbjkmaaaGreatDoorR20
import Derived.Test.YtpabnhlfbjkmaaaGreatDoorR29
import Derived.Test.YtpabnhlfbjkmaaaGreatDoorR6
import Derived.Test.YtpabnhlfbjkmaaaGreatDoorR27
import Derived.Test.YtpabnhlfbjkmaaaGreatDoorR3
import Derived.Deep.MidRow
import Derived.Test.YtpabnhlfbjkmaaaGreatDoorR18
import Derived.Test.YtpabnhlfbjkmaaaGreatDoorR28
import Derived.Test.YtpabnhlfbjkmaaaGreatDoorR34
import Derived.Test.YtpabnhlfbjkmaaaGreatDoorR36
import Derived.Test.YtpabnhlfbjkmaaaGreatDoorR40
import Derived.Test.YtpabnhlfbjkmaaaGreatDoorR43
import Derived.Test.YtpabnhlfbjkmaaaGreatDoorR42
import Derived.Test.YtpabnhlfbjkmaaaGreatDoorR37
import Derived.Test.YtpabnhlfbjkmaaaGreatDoorR44
set_option maxHeartbeats 8000000
set_option linter.unusedVariables false
set_option linter.unusedSectionVars false
set_option linter.unusedSimpArgs false
set_option maxRecDepth 20000
namespace Go.Proofs.YtpabnhlfbjkmaaaGreatDoor
open Go.RowKit
section
def vPV (n:Int)(d:Dat):Nat:=if zRd n/\vI (fD n) d then vP (fD n) d else 0
def vPE (n:Int)(d:Dat):Int:=if zRd n then (if vI (fD n) d then 0 else 3) else 1
theorem zO8 (n:Int)(d:Dat):vPV n d<2^256:=by
 unfold vPV
 split
 ·rename_i h;exact zI6 (zKd n) h.2
 ·decide
theorem zBd (y b r:Nat)(hb:b<2^r)(h:y*2^r+b<18446744073709551616):bits .or .u64 ((y*2^r:Nat):Int) (b:Int)=((y*2^r+b:Nat):Int):=by
 have e:=zJg ((y*2^r:Nat):Int) (b:Int) (by omega) (by omega)
 unfold orW at e
 rw [e,Int.toNat_natCast,Int.toNat_natCast,Nat.mul_comm y,← Nat.two_pow_add_eq_or_of_lt hb]
theorem zMn (y r:Nat)(hr:r<64)(hy:y<18446744073709551616):bits .and .u64 (y:Int) ((2^r:Nat)-1:Int)=((y%2^r:Nat):Int):=by
 have e:=zUh (y:=(y:Int)) (r:=r) (by omega) hr
 rw [← zPb] at e
 rw [e,Int.natCast_emod]
theorem lay_z (A at_ K:Nat)(v:Value)(w:World)(hK:K<900)(ha:at_<=600)(h:NV K A v w) :
  CB 53 #[Z4,v,.int .i64 at_] w (A4 (A*2^at_)):=by
 have:=zIq 0 A at_ K v w (by decide) hK ha h
 rw [zVd,Nat.zero_add] at this
 exact this
section
variable (n:Int)(C:Int)(s g:Bool)(x:Int)(k:Nat)(w:World)
theorem vpk_n (c35:∀ W,CQ 17 #[.int .i64 n] W (.bool false)) :
  CB 27 #[.int .i64 n,DV C s g x k] w (.tuple #[Z4,.int .i64 1]):=by
 have hsm:=zAa
 go_enter Tryz.func27,Tryz.ntmps27
 go_wp2_with (go_at_call 17;refine (c35 _).mono ?_;rintro r w0 ⟨rfl,rfl⟩)
 exact bodyPost_ret (v:=.tuple #[Z4,.int .i64 1]) (by simp only [results,Tryz.results27];go_simp) rfl ⟨rfl,bgo⟩
theorem vpk_i (nm:ByteArray)(wd pr ex le mo pa:Int)(dn:Bool)
  (c35:∀ W,CQ 17 #[.int .i64 n] W (.bool true))
  (cO:∀ W,CB 19 #[.int .i64 n] W (.tuple #[zAb n nm wd pr ex le mo pa dn,.int .i64 0]))
  (cI:∀ W,CB 26 #[zAb n nm wd pr ex le mo pa dn,DV C s g x k] W (.bool false)) :
  CB 27 #[.int .i64 n,DV C s g x k] w (.tuple #[Z4,.int .i64 3]):=by
 have hsm:=zAa
 go_enter Tryz.func27,Tryz.ntmps27
 go_wp2_with (first
  | (go_at_call 17;refine (c35 _).mono ?_;rintro r w0 ⟨rfl,rfl⟩)
  | (go_at_call 19;refine wk w (cO _) ?_;intro w1 hb1 _ _ _ _ hA1 _;obtain ⟨_,_⟩:=zf hb1 (w.heap.size+1);clear hb1)
  | (go_at_call 26;refine wk w (cI _) ?_;intro w2 hb2 _ _ _ _ hA2 _;obtain ⟨_,_,_,_⟩:=zg hb2 (w.heap.size+1) w1.heap.size;clear hb2))
 exact bodyPost_ret (v:=.tuple #[Z4,.int .i64 3]) (by simp only [results,Tryz.results27];go_simp) rfl ⟨rfl,bgo⟩
end
structure VB (n:Int) (C:Int) (s g:Bool) (x:Int) (k:Nat):Prop where
 cD:∀ W,CQ 17 #[.int .i64 n] W (.bool true)
 cO:∀ W,CB 19 #[.int .i64 n] W (.tuple #[zAb n (zJd n) (((fD n).t+((fD n).w+6):Nat):Int) (3*((fD n).j:Int)+1) (zWi n) (fD n).l ((fD n).l+3*2^(fD n).w-1) (3*((fD n).j:Int)) (fD n).dn,.int .i64 0])
 cI:∀ W,CB 26 #[zAb n (zJd n) (((fD n).t+((fD n).w+6):Nat):Int) (3*((fD n).j:Int)+1) (zWi n) (fD n).l ((fD n).l+3*2^(fD n).w-1) (3*((fD n).j:Int)) (fD n).dn,DV C s g x k] W (.bool true)
 cS:∀ W,CB 52 #[zAb n (zJd n) (((fD n).t+((fD n).w+6):Nat):Int) (3*((fD n).j:Int)+1) (zWi n) (fD n).l ((fD n).l+3*2^(fD n).w-1) (3*((fD n).j:Int)) (fD n).dn] W (.tuple #[.int .i64 (((fD n).w:Int)+5),.int .i64 ((fD n).t:Int),.int .i64 ((fD n).j:Int)])
 cN:∀ W,Calls Tryz.prog 54 #[A4 k] W fun r w'=>∃ g n cap,r=.returned (.slice (some ⟨g,0,none⟩) n cap)/\W.heap.size<g/\NT 4 k (.slice (some ⟨g,0,none⟩) n cap) w'/\Below W.heap.size W w'
theorem zJ2 {n:Int}(h:zRd n){d:Dat}(hk:d.k<2^256)(hi:vI (fD n) d):VB n d.c d.s d.g d.x d.k:=by
 refine ⟨fun W=>?_,fun W=>zVj h W,fun W=>?_,fun W=>zE0 h _ _ _ _ _ _ W,fun W=>zP6 _ W hk⟩
 ·have:=zAd n W
  rw [decide_eq_true h] at this
  exact this
 ·have:=ris14 (fD n) (zKd n) n (zJd n) (((fD n).t+((fD n).w+6):Nat):Int) (zWi n) (fD n).dn d W hk
  rw [decide_eq_true hi] at this
  exact this
theorem zDh {f:DF}(h:f.ok):6<=f.w/\f.w<=12/\20<=f.t/\f.t<=110/\2<=f.j/\f.j<=11/\f.t%64≠0/\-6176<=f.l/\f.l<=-101/\64<=2^f.w/\2^f.w<=4096:=by
 rcases h with ⟨h1,h2,h3,h4⟩|⟨h1,h2,h3,h4⟩|⟨h1,h2,h3,h4⟩<;>rw [h1,h2,h3,h4]<;>decide
theorem zNb {B A at_ K R:Nat}{T:Int}{v:Value}{w:World}(hB:B<2^256)(hK:K<900)(ha:at_<=600)(h:NV K A v w)(hT:(at_:Int)=T)(hR:B+A*2^at_=R) :
  CB 53 #[A4 B,v,.int .i64 T] w (A4 R):=by
 subst hT hR
 exact zIq B A at_ K v w hB hK ha h
theorem zYb {A at_ K R:Nat}{T:Int}{v:Value}{w:World}(hK:K<900)(ha:at_<=600)(h:NV K A v w)(hT:(at_:Int)=T)(hR:A*2^at_=R) :
  CB 53 #[Z4,v,.int .i64 T] w (A4 R):=by
 subst hT hR
 exact lay_z A at_ K v w hK ha h
theorem zEq {a:Nat}(h:a<=200):2^a<2^220:=Nat.pow_lt_pow_right (by decide) (by omega)
theorem zK8 {n:Int}(h:zRd n){s:Bool}(w:World)(hi:vI (fD n) ⟨2,s,false,0,0⟩) :
  CB 27 #[.int .i64 n,DV 2 s false 0 0] w (.tuple #[A4 (vP (fD n) ⟨2,s,false,0,0⟩),.int .i64 0]):=by
 have B:=zJ2 h (d:=⟨2,s,false,0,0⟩) (show (0:Nat)<2^256 by decide) hi
 obtain ⟨w6,w12,t20,t110,j2,j11,t64,l0,l1,H0,H1⟩:=zDh (zKd n)
 have e:vP (fD n) ⟨2,s,false,0,0⟩=(if s then 2^((fD n).t+((fD n).w+5)) else 0)+30*2^((fD n).t+(fD n).w):=by
  unfold vP vPG vPR
  simp only [if_true,Nat.add_zero]
  rw [Nat.mul_assoc,← Nat.pow_add,Nat.add_comm (fD n).w (fD n).t]
 rw [e]
 have p1:=zEq (a:=(fD n).t+((fD n).w+5)) (by omega)
 have p2:(2:Nat)^220<2^256:=by decide
 cases s
 ·exact vpk2_f n _ _ _ _ _ _ _ _ _ _ 0 0 w B.cD (by omega) (by omega) (by omega) (by omega) (by omega) (by omega) B.cN _ false _ B.cO B.cI B.cS (fun W v hv=>zYb (at_:=(fD n).t+(fD n).w) (by decide) (by omega) hv (by omega) (by simp))
 ·exact vpk2_t n _ _ _ _ _ _ _ _ _ _ 0 0 (2^((fD n).t+((fD n).w+5))) w B.cD (by omega) (by omega) (by omega) (by omega) (by omega) (by omega) B.cN _ false _ B.cO B.cI B.cS (fun W v hv=>zYb (at_:=(fD n).t+((fD n).w+5)) (by decide) (by omega) hv (by omega) (by omega)) (fun W v hv=>zNb (at_:=(fD n).t+(fD n).w) (by omega) (by decide) (by omega) hv (by omega) (by simp))
theorem zJ8 {n:Int}(h:zRd n){s g:Bool}{k:Nat}(w:World)(hk:k<10^(3*(fD n).j)) :
  CB 27 #[.int .i64 n,DV 3 s g 0 k] w (.tuple #[A4 (vP (fD n) ⟨3,s,g,0,k⟩),.int .i64 0]):=by
 have ho:=zKd n
 obtain ⟨w6,w12,t20,t110,j2,j11,t64,l0,l1,H0,H1⟩:=zDh ho
 have p2:(2:Nat)^220<2^256:=by decide
 have hk2:k<2^(fD n).t:=by
  refine Nat.lt_of_lt_of_le hk ?_
  rcases ho with ⟨h1,h2,h3,h4⟩|⟨h1,h2,h3,h4⟩|⟨h1,h2,h3,h4⟩<;>rw [h1,h3]<;>decide
 have pt:=zEq (a:=(fD n).t) (by omega)
 have p1:=zEq (a:=(fD n).t+((fD n).w+5)) (by omega)
 have x5:2^((fD n).t+((fD n).w+5))=32*2^((fD n).t+(fD n).w):=by rw [← Nat.add_assoc,Nat.pow_add,Nat.mul_comm]
 have x0:2^((fD n).t+(fD n).w)=2*2^((fD n).t+(fD n).w-1):=by rw [← Nat.pow_succ'];congr 1;omega
 have hpl:dlP (fD n).j k<2^(fD n).t:=by rw [ho.pt];exact zOl _ _
 have hp:dlP (fD n).j k<2^256:=by omega
 have B:=zJ2 h (d:=⟨3,s,g,0,k⟩) (show k<2^256 by omega) (Or.inr (Or.inr ⟨rfl,rfl,hk⟩))
 have cP:∀ W,CB 55 #[A4 k,.int .i64 ((fD n).j:Int)] W (.tuple #[A4 (dlP (fD n).j k),.int .i64 0]):=fun W=>by
  have:=zGr k ((fD n).j:Int) W (by omega)
  have c1:(0:Int)<=((fD n).j:Int)/\((fD n).j:Int)<=11:=by omega
  rw [ten3] at hk
  unfold dPv dPe at this
  rw [if_pos c1,if_pos c1,Int.toNat_natCast,if_pos hk,if_pos hk] at this
  exact this
 have e:vP (fD n) ⟨3,s,g,0,k⟩=(if s then 2^((fD n).t+((fD n).w+5)) else 0)+31*2^((fD n).t+(fD n).w)+(if g then 2^((fD n).t+(fD n).w-1) else 0)+(if (fD n).dn then dlP (fD n).j k else k):=by
  unfold vP vPG vPR
  simp only [show ¬ (3:Int)=2 by decide,if_false,if_true]
  rw [Nat.add_mul,Nat.mul_assoc,← Nat.pow_add,Nat.add_comm (fD n).w (fD n).t]
  have e2:(if g then 2^((fD n).w-1) else 0)*2^(fD n).t=(if g then 2^((fD n).t+(fD n).w-1) else 0):=by
   cases g
   ·simp
   ·simp only [if_true]
    rw [← Nat.pow_add];congr 1;omega
  rw [e2]
  simp only [Nat.add_assoc]
 rw [e]
 have cO:=B.cO
 have cI:=B.cI
 have cS:=B.cS
 cases hdn:(fD n).dn<;>rw [hdn] at cO cI cS<;>cases s<;>cases g<;>simp only [Bool.false_eq_true,if_false,if_true,Nat.zero_add,Nat.add_zero]
 ·exact zA2 n _ _ _ _ _ _ _ _ _ _ 0 k w B.cD (by omega) (by omega) (by omega) (by omega) (by omega) (by omega) B.cN _ (31*2^((fD n).t+(fD n).w)) cO cI cS (fun W v hv=>zYb (at_:=(fD n).t+(fD n).w) (by decide) (by omega) hv (by omega) rfl) (fun W v hv=>zNb (at_:=0) (by omega) (by decide) (by omega) hv rfl (by omega))
 ·exact zY1 n _ _ _ _ _ _ _ _ _ _ 0 k w B.cD (by omega) (by omega) (by omega) (by omega) (by omega) (by omega) B.cN _ (31*2^((fD n).t+(fD n).w)) (31*2^((fD n).t+(fD n).w)+2^((fD n).t+(fD n).w-1)) cO cI cS (fun W v hv=>zYb (at_:=(fD n).t+(fD n).w) (by decide) (by omega) hv (by omega) rfl) (fun W v hv=>zNb (at_:=(fD n).t+(fD n).w-1) (by omega) (by decide) (by omega) hv (by omega) (by omega)) (fun W v hv=>zNb (at_:=0) (by omega) (by decide) (by omega) hv rfl (by omega))
 ·exact zW1 n _ _ _ _ _ _ _ _ _ _ 0 k (2^((fD n).t+((fD n).w+5))) w B.cD (by omega) (by omega) (by omega) (by omega) (by omega) (by omega) B.cN _ (2^((fD n).t+((fD n).w+5))+31*2^((fD n).t+(fD n).w)) cO cI cS (fun W v hv=>zYb (at_:=(fD n).t+((fD n).w+5)) (by decide) (by omega) hv (by omega) (by omega)) (fun W v hv=>zNb (at_:=(fD n).t+(fD n).w) (by omega) (by decide) (by omega) hv (by omega) rfl) (fun W v hv=>zNb (at_:=0) (by omega) (by decide) (by omega) hv rfl (by omega))
 ·exact zU1 n _ _ _ _ _ _ _ _ _ _ 0 k (2^((fD n).t+((fD n).w+5))) w B.cD (by omega) (by omega) (by omega) (by omega) (by omega) (by omega) B.cN _ (2^((fD n).t+((fD n).w+5))+31*2^((fD n).t+(fD n).w)) (2^((fD n).t+((fD n).w+5))+31*2^((fD n).t+(fD n).w)+2^((fD n).t+(fD n).w-1)) cO cI cS (fun W v hv=>zYb (at_:=(fD n).t+((fD n).w+5)) (by decide) (by omega) hv (by omega) (by omega)) (fun W v hv=>zNb (at_:=(fD n).t+(fD n).w) (by omega) (by decide) (by omega) hv (by omega) rfl) (fun W v hv=>zNb (at_:=(fD n).t+(fD n).w-1) (by omega) (by decide) (by omega) hv (by omega) (by omega)) (fun W v hv=>zNb (at_:=0) (by omega) (by decide) (by omega) hv rfl (by omega))
 ·exact zZ1 n _ _ _ _ _ _ _ _ _ _ 0 k w B.cD (by omega) (by omega) (by omega) (by omega) (by omega) (by omega) B.cN _ (31*2^((fD n).t+(fD n).w)) (dlP (fD n).j k) cO cI cS (fun W v hv=>zYb (at_:=(fD n).t+(fD n).w) (by decide) (by omega) hv (by omega) rfl) hp cP (fun W v hv=>zNb (at_:=0) (by omega) (by decide) (by omega) hv rfl (by omega))
 ·exact zX1 n _ _ _ _ _ _ _ _ _ _ 0 k w B.cD (by omega) (by omega) (by omega) (by omega) (by omega) (by omega) B.cN _ (31*2^((fD n).t+(fD n).w)) (31*2^((fD n).t+(fD n).w)+2^((fD n).t+(fD n).w-1)) (dlP (fD n).j k) cO cI cS (fun W v hv=>zYb (at_:=(fD n).t+(fD n).w) (by decide) (by omega) hv (by omega) rfl) (fun W v hv=>zNb (at_:=(fD n).t+(fD n).w-1) (by omega) (by decide) (by omega) hv (by omega) (by omega)) hp cP (fun W v hv=>zNb (at_:=0) (by omega) (by decide) (by omega) hv rfl (by omega))
 ·exact zV1 n _ _ _ _ _ _ _ _ _ _ 0 k (2^((fD n).t+((fD n).w+5))) w B.cD (by omega) (by omega) (by omega) (by omega) (by omega) (by omega) B.cN _ (2^((fD n).t+((fD n).w+5))+31*2^((fD n).t+(fD n).w)) (dlP (fD n).j k) cO cI cS (fun W v hv=>zYb (at_:=(fD n).t+((fD n).w+5)) (by decide) (by omega) hv (by omega) (by omega)) (fun W v hv=>zNb (at_:=(fD n).t+(fD n).w) (by omega) (by decide) (by omega) hv (by omega) rfl) hp cP (fun W v hv=>zNb (at_:=0) (by omega) (by decide) (by omega) hv rfl (by omega))
 ·exact zT1 n _ _ _ _ _ _ _ _ _ _ 0 k (2^((fD n).t+((fD n).w+5))) w B.cD (by omega) (by omega) (by omega) (by omega) (by omega) (by omega) B.cN _ (2^((fD n).t+((fD n).w+5))+31*2^((fD n).t+(fD n).w)) (2^((fD n).t+((fD n).w+5))+31*2^((fD n).t+(fD n).w)+2^((fD n).t+(fD n).w-1)) (dlP (fD n).j k) cO cI cS (fun W v hv=>zYb (at_:=(fD n).t+((fD n).w+5)) (by decide) (by omega) hv (by omega) (by omega)) (fun W v hv=>zNb (at_:=(fD n).t+(fD n).w) (by omega) (by decide) (by omega) hv (by omega) rfl) (fun W v hv=>zNb (at_:=(fD n).t+(fD n).w-1) (by omega) (by decide) (by omega) hv (by omega) (by omega)) hp cP (fun W v hv=>zNb (at_:=0) (by omega) (by decide) (by omega) hv rfl (by omega))
theorem zRu {n:Int}(h:zRd n)(hdn:(fD n).dn=true){s:Bool}{x:Int}{k:Nat}(w:World)(hk:k<10^(3*(fD n).j+1))(hx0:(fD n).l<=x)(hx1:x<=(fD n).l+3*2^(fD n).w-1) :
  CB 27 #[.int .i64 n,DV 1 s false x k] w (.tuple #[A4 (vP (fD n) ⟨1,s,false,x,k⟩),.int .i64 0]):=by
 have ho:=zKd n
 obtain ⟨w6,w12,t20,t110,j2,j11,t64,l0,l1,H0,H1⟩:=zDh ho
 have hI:vI (fD n) ⟨1,s,false,x,k⟩:=Or.inl ⟨rfl,rfl,hk,hx0,hx1⟩
 have hPG:=zQn ho hI
 have p2:(2:Nat)^220<2^256:=by decide
 have pt:=zEq (a:=(fD n).t) (by omega)
 have p1:=zEq (a:=(fD n).t+((fD n).w+5)) (by omega)
 have hk34:k<2^256:=by
  have e:(10:Nat)^(3*(fD n).j+1)<=10^34:=Nat.pow_le_pow_right (by decide) (by omega)
  have e2:(10:Nat)^34<2^256:=by decide
  omega
 have B:=zJ2 h (d:=⟨1,s,false,x,k⟩) hk34 hI
 have cO:=B.cO
 have cI:=B.cI
 have cS:=B.cS
 rw [hdn] at cO cI cS
 have hD:0<(10:Nat)^(3*(fD n).j):=Nat.pow_pos (by decide)
 have ha:k/10^(3*(fD n).j)<=9:=by
  have:k/10^(3*(fD n).j)<10:=by
   rw [Nat.div_lt_iff_lt_mul hD,← Nat.pow_succ']
   exact hk
  omega
 have hr:k%10^(3*(fD n).j)<1000^(fD n).j:=by rw [← ten3];exact Nat.mod_lt _ hD
 have hpl:dlP (fD n).j (k%10^(3*(fD n).j))<2^(fD n).t:=by rw [ho.pt];exact zOl _ _
 have e:vP (fD n) ⟨1,s,false,x,k⟩=(if s then 2^((fD n).t+((fD n).w+5)) else 0)+dlP (fD n).j (k%10^(3*(fD n).j))+vN true (fD n).w (x-(fD n).l).toNat (k/10^(3*(fD n).j))*2^(fD n).t:=by
  unfold vP vPG vPR vQ
  simp only [show ¬ (1:Int)=2 by decide,show ¬ (1:Int)=3 by decide,if_false,hdn,if_true]
  omega
 rw [e]
 have hrr:k%10^(3*(fD n).j)<2^256:=by have:=Nat.mod_le k (10^(3*(fD n).j));omega
 generalize hka:k/10^(3*(fD n).j)=a at *
 generalize hkr:k%10^(3*(fD n).j)=rr at *
 obtain ⟨E,hE⟩:∃ E:Nat,(x-(fD n).l).toNat=E:=⟨_,rfl⟩
 have hEx:x-(fD n).l=(E:Int):=by omega
 have hE3:E<3*2^(fD n).w:=by
  have e3:((3*2^(fD n).w:Nat):Int)=3*2^(fD n).w:=by simp
  omega
 rw [hE]
 have cW:∀ W,CE 25 #[.int .u64 10,.int .i64 (3*((fD n).j:Int))] W (NT 200 (10^(3*(fD n).j))):=fun W=>by
  have:=zLw 10 (3*(fD n).j) W (by decide) (by decide) (by omega)
  rw [show ((3*(fD n).j:Nat):Int)=3*((fD n).j:Int) by omega] at this
  exact this.mono fun r w' ⟨v,e1,e2,e3⟩=>⟨v,e1,e2.more (by omega),e3⟩
 have cV:∀ W vn vd,NT 4 k vn W->NT 200 (10^(3*(fD n).j)) vd W->Calls Tryz.prog 56 #[vn,vd] W fun r w'=>∃ g k cap v,r=.returned (.tuple #[.slice (some ⟨g,0,none⟩) k cap,v])/\W.heap.size<=g/\NV 41000 a (.slice (some ⟨g,0,none⟩) k cap) w'/\NT 41000 rr v w'/\Below W.heap.size W w':=fun W vn vd h1 h2=>by
  have:=zNw (K:=200) (by decide) (h1.more (by decide)) h2 (by omega)
  rw [hka,hkr] at this
  exact this
 have cP:∀ W,CB 55 #[A4 rr,.int .i64 ((fD n).j:Int)] W (.tuple #[A4 (dlP (fD n).j rr),.int .i64 0]):=fun W=>by
  have:=zGr rr ((fD n).j:Int) W hrr
  have c1:(0:Int)<=((fD n).j:Int)/\((fD n).j:Int)<=11:=by omega
  unfold dPv dPe at this
  rw [if_pos c1,if_pos c1,Int.toNat_natCast,if_pos hr,if_pos hr] at this
  exact this
 have cM:∀ W v,NV 41000 a v W->CQ 57 #[v] W (.int .i64 (a:Int)):=fun W v hv=>(zYj hv (by decide) (by omega)).mono fun r w' ⟨e1,e2⟩=>⟨e1,e2.symm⟩
 have hp:dlP (fD n).j rr<2^256:=by omega
 have hQ2:E/2^(fD n).w<=2:=by
  have:E/2^(fD n).w<3:=by rw [Nat.div_lt_iff_lt_mul (Nat.two_pow_pos _)];exact hE3
  omega
 have hLt:E%2^(fD n).w<2^(fD n).w:=Nat.mod_lt _ (Nat.two_pow_pos _)
 have hH:(2:Int)^(fD n).w=((2^(fD n).w:Nat):Int):=(zPb _).symm
 have hL:=zMn E (fD n).w (by omega) (by omega)
 have hQ:(E:Int)/((2^(fD n).w:Nat):Int)=((E/2^(fD n).w:Nat):Int):=by simp
 have hvn:vN true (fD n).w E a=(if 8<=a then 24+E/2^(fD n).w*2+a%2 else E/2^(fD n).w*8+a)*2^(fD n).w+E%2^(fD n).w:=rfl
 have x5:2^((fD n).t+((fD n).w+5))=32*(2^(fD n).w*2^(fD n).t):=by rw [← Nat.pow_add,show (32:Nat)=2^5 by decide,← Nat.pow_add];congr 1;omega
 have hS:(if s then 2^((fD n).t+((fD n).w+5)) else 0)<2^220:=by split<;>omega
 by_cases h8:8<=a
 ·rw [if_pos h8] at hvn
  have o2:=zBd 3 (E/2^(fD n).w*2) 3 (by omega) (by omega)
  rw [show ((3*2^3:Nat):Int)=24 by decide,show ((E/2^(fD n).w*2:Nat):Int)=((E/2^(fD n).w:Nat):Int)*2 by omega] at o2
  have o3:bits .and .u64 (a:Int) 1=((a%2:Nat):Int):=zMn a 1 (by decide) (by omega)
  have o4:=zBd (12+E/2^(fD n).w) (a%2) 1 (by omega) (by omega)
  rw [show (((12+E/2^(fD n).w)*2^1:Nat):Int)=((3*2^3+E/2^(fD n).w*2:Nat):Int) by omega,show (12+E/2^(fD n).w)*2^1+a%2=24+E/2^(fD n).w*2+a%2 by omega] at o4
  generalize hV:24+E/2^(fD n).w*2+a%2=V at *
  have hV1:V<=31:=by omega
  have hVH:V*2^(fD n).w<=31*4096:=Nat.mul_le_mul hV1 H1
  have o5:=zBd V (E%2^(fD n).w) (fD n).w hLt (by omega)
  rw [← hvn,Int.natCast_mul] at o5
  generalize hF:vN true (fD n).w E a=Fw at *
  cases s
  ·exact zI2 n _ _ _ _ _ _ _ _ _ _ x k w B.cD (by omega) (by omega) (by omega) (by omega) (by omega) (by omega) B.cN (E:Int) (fD n).w a _ _ _ hEx (by omega) (by omega) (by omega) (by omega) (by omega) (by omega) (by omega) w12 hH (by omega) (by omega) ha hQ (by omega) (by omega) hL _ (dlP (fD n).j rr) (dlP (fD n).j rr) 200 (10^(3*(fD n).j)) rr Fw _ _ _ _ cO cI cS hp cW cV (fun W v hv=>zSc hv.nv) cP cM (fun W v hv=>zYb (at_:=0) (by decide) (by omega) hv rfl (by omega)) rfl (by omega) o2 o3 o4 (by omega) (by omega) (by rw [← Int.natCast_mul];omega) (by rw [← Int.natCast_mul];omega) o5 (by omega) (fun W v hv=>zNb (at_:=(fD n).t) (by omega) (by decide) (by omega) hv rfl (by simp))
  ·exact zE2 n _ _ _ _ _ _ _ _ _ _ x k (2^((fD n).t+((fD n).w+5))) w B.cD (by omega) (by omega) (by omega) (by omega) (by omega) (by omega) B.cN (E:Int) (fD n).w a _ _ _ hEx (by omega) (by omega) (by omega) (by omega) (by omega) (by omega) (by omega) w12 hH (by omega) (by omega) ha hQ (by omega) (by omega) hL _ (2^((fD n).t+((fD n).w+5))+dlP (fD n).j rr) (dlP (fD n).j rr) 200 (10^(3*(fD n).j)) rr Fw _ _ _ _ cO cI cS (fun W v hv=>zYb (at_:=(fD n).t+((fD n).w+5)) (by decide) (by omega) hv (by omega) (by omega)) hp cW cV (fun W v hv=>zSc hv.nv) cP cM (fun W v hv=>zNb (at_:=0) (by omega) (by decide) (by omega) hv rfl (by omega)) rfl (by omega) o2 o3 o4 (by omega) (by omega) (by rw [← Int.natCast_mul];omega) (by rw [← Int.natCast_mul];omega) o5 (by omega) (fun W v hv=>zNb (at_:=(fD n).t) (by simp only [if_true] at hS;omega) (by decide) (by omega) hv rfl (by simp))
 ·rw [if_neg h8] at hvn
  have o1:=zBd (E/2^(fD n).w) a 3 (by omega) (by omega)
  rw [show ((E/2^(fD n).w*2^3:Nat):Int)=((E/2^(fD n).w:Nat):Int)*8 by omega,show E/2^(fD n).w*2^3+a=E/2^(fD n).w*8+a by omega] at o1
  generalize hV:E/2^(fD n).w*8+a=V at *
  have hV1:V<=31:=by omega
  have hVH:V*2^(fD n).w<=31*4096:=Nat.mul_le_mul hV1 H1
  have o5:=zBd V (E%2^(fD n).w) (fD n).w hLt (by omega)
  rw [← hvn,Int.natCast_mul] at o5
  generalize hF:vN true (fD n).w E a=Fw at *
  cases s
  ·exact zH2 n _ _ _ _ _ _ _ _ _ _ x k w B.cD (by omega) (by omega) (by omega) (by omega) (by omega) (by omega) B.cN (E:Int) (fD n).w a _ _ _ hEx (by omega) (by omega) (by omega) (by omega) (by omega) (by omega) (by omega) w12 hH (by omega) (by omega) ha hQ (by omega) (by omega) hL _ (dlP (fD n).j rr) (dlP (fD n).j rr) 200 (10^(3*(fD n).j)) rr Fw _ cO cI cS hp cW cV (fun W v hv=>zSc hv.nv) cP cM (fun W v hv=>zYb (at_:=0) (by decide) (by omega) hv rfl (by omega)) o1 (by omega) (by omega) (by omega) (by rw [← Int.natCast_mul];omega) (by rw [← Int.natCast_mul];omega) o5 (by omega) (fun W v hv=>zNb (at_:=(fD n).t) (by omega) (by decide) (by omega) hv rfl (by simp))
  ·exact zD2 n _ _ _ _ _ _ _ _ _ _ x k (2^((fD n).t+((fD n).w+5))) w B.cD (by omega) (by omega) (by omega) (by omega) (by omega) (by omega) B.cN (E:Int) (fD n).w a _ _ _ hEx (by omega) (by omega) (by omega) (by omega) (by omega) (by omega) (by omega) w12 hH (by omega) (by omega) ha hQ (by omega) (by omega) hL _ (2^((fD n).t+((fD n).w+5))+dlP (fD n).j rr) (dlP (fD n).j rr) 200 (10^(3*(fD n).j)) rr Fw _ cO cI cS (fun W v hv=>zYb (at_:=(fD n).t+((fD n).w+5)) (by decide) (by omega) hv (by omega) (by omega)) hp cW cV (fun W v hv=>zSc hv.nv) cP cM (fun W v hv=>zNb (at_:=0) (by omega) (by decide) (by omega) hv rfl (by omega)) o1 (by omega) (by omega) (by omega) (by rw [← Int.natCast_mul];omega) (by rw [← Int.natCast_mul];omega) o5 (by omega) (fun W v hv=>zNb (at_:=(fD n).t) (by simp only [if_true] at hS;omega) (by decide) (by omega) hv rfl (by simp))
theorem vpk_plain {n:Int}(h:zRd n)(hdn:(fD n).dn=false){s:Bool}{x:Int}{k:Nat}(w:World)(hk:k<10^(3*(fD n).j+1))(hx0:(fD n).l<=x)(hx1:x<=(fD n).l+3*2^(fD n).w-1) :
  CB 27 #[.int .i64 n,DV 1 s false x k] w (.tuple #[A4 (vP (fD n) ⟨1,s,false,x,k⟩),.int .i64 0]):=by
 have ho:=zKd n
 obtain ⟨w6,w12,t20,t110,j2,j11,t64,l0,l1,H0,H1⟩:=zDh ho
 have hI:vI (fD n) ⟨1,s,false,x,k⟩:=Or.inl ⟨rfl,rfl,hk,hx0,hx1⟩
 have p2:(2:Nat)^220<2^256:=by decide
 have pt:=zEq (a:=(fD n).t) (by omega)
 have p1:=zEq (a:=(fD n).t+((fD n).w+5)) (by omega)
 have hk34:k<2^256:=by
  have e:(10:Nat)^(3*(fD n).j+1)<=10^34:=Nat.pow_le_pow_right (by decide) (by omega)
  have e2:(10:Nat)^34<2^256:=by decide
  omega
 have B:=zJ2 h (d:=⟨1,s,false,x,k⟩) hk34 hI
 have cO:=B.cO
 have cI:=B.cI
 have cS:=B.cS
 rw [hdn] at cO cI cS
 have ha:k/2^(fD n).t<=9:=by
  rcases ho with ⟨h1,h2,h3,h4⟩|⟨h1,h2,h3,h4⟩|⟨h1,h2,h3,h4⟩<;>rw [h3] at hk<;>rw [h1]<;>simp only [Nat.reducePow,Nat.reduceAdd,Nat.reduceMul] at*<;> omega
 have hrl:k%2^(fD n).t<2^(fD n).t:=Nat.mod_lt _ (Nat.two_pow_pos _)
 have e:vP (fD n) ⟨1,s,false,x,k⟩=(if s then 2^((fD n).t+((fD n).w+5)) else 0)+k%2^(fD n).t+vN false (fD n).w (x-(fD n).l).toNat (k/2^(fD n).t)*2^(fD n).t:=by
  unfold vP vPG vPR vQ
  simp only [show ¬ (1:Int)=2 by decide,show ¬ (1:Int)=3 by decide,if_false,hdn,Bool.false_eq_true]
  omega
 rw [e]
 have cR:∀ W vn,NT 4 k vn W->Calls Tryz.prog 58 #[vn,.int .i64 ((fD n).t:Int)] W fun r w'=>∃ g k' cap b,r=.returned (.tuple #[.slice (some ⟨g,0,none⟩) k' cap,.bool b])/\W.heap.size<=g/\NV 4 (k/2^(fD n).t) (.slice (some ⟨g,0,none⟩) k' cap) w'/\Below W.heap.size W w':=fun W vn hv=>zKt (fD n).t (by decide) (by omega) t64 hv.nv
 have cF:∀ W,CE 59 #[A4 k,.int .i64 0,.int .i64 ((fD n).t:Int)] W (NT 19 (k%2^(fD n).t)):=fun W=>by
  have:=zKz k 0 (fD n).t W hk34 (by decide) (by omega)
  rw [Nat.pow_zero,Nat.div_one] at this
  exact this
 generalize k/2^(fD n).t=a at *
 generalize k%2^(fD n).t=rr at *
 obtain ⟨E,hE⟩:∃ E:Nat,(x-(fD n).l).toNat=E:=⟨_,rfl⟩
 have hEx:x-(fD n).l=(E:Int):=by omega
 have hE3:E<3*2^(fD n).w:=by
  have e3:((3*2^(fD n).w:Nat):Int)=3*2^(fD n).w:=by simp
  omega
 rw [hE]
 have cM:∀ W v,NV 4 a v W->CQ 57 #[v] W (.int .i64 (a:Int)):=fun W v hv=>(zYj hv (by decide) (by omega)).mono fun r w' ⟨e1,e2⟩=>⟨e1,e2.symm⟩
 have hH:(2:Int)^(fD n).w=((2^(fD n).w:Nat):Int):=(zPb _).symm
 have hvn:vN false (fD n).w E a=(if 8<=a then 3*2^((fD n).w+3)+E*2+a%2 else E*8+a):=rfl
 have hS:(if s then 2^((fD n).t+((fD n).w+5)) else 0)<2^220:=by split<;>omega
 have w3:2^((fD n).w+3)=8*2^(fD n).w:=by rw [Nat.pow_add,Nat.mul_comm]
 have w2:2^((fD n).w+2)=4*2^(fD n).w:=by rw [Nat.pow_add,Nat.mul_comm]
 by_cases h8:8<=a
 ·rw [if_pos h8] at hvn
  have o2:=zBd 3 (E*2) ((fD n).w+3) (by omega) (by omega)
  rw [Int.natCast_mul 3,show ((E*2:Nat):Int)=(E:Int)*2 by omega] at o2
  have o3:bits .and .u64 (a:Int) 1=((a%2:Nat):Int):=zMn a 1 (by decide) (by omega)
  have o4:=zBd (3*2^((fD n).w+2)+E) (a%2) 1 (by omega) (by omega)
  rw [show (3*2^((fD n).w+2)+E)*2^1=3*2^((fD n).w+3)+E*2 by omega,← hvn] at o4
  have hH8:(2:Int)^((fD n).w+3)=((2^((fD n).w+3):Nat):Int):=(zPb _).symm
  generalize hF:vN false (fD n).w E a=Fw at *
  cases s
  ·exact zG2 n _ _ _ _ _ _ _ _ _ _ x k w B.cD (by omega) (by omega) (by omega) (by omega) (by omega) (by omega) B.cN (E:Int) (fD n).w a _ hEx (by omega) (by omega) (by omega) (by omega) (by omega) (by omega) (by omega) w12 hH (by omega) (by omega) ha _ rr rr Fw _ _ _ _ cO cI cS cR cF cM (fun W v hv=>zYb (at_:=0) (by decide) (by omega) hv rfl (by omega)) rfl (by omega) hH8 (by omega) (by omega) o2 o3 o4 (by omega) (fun W v hv=>zNb (at_:=(fD n).t) (by omega) (by decide) (by omega) hv rfl (by simp))
  ·exact zC2 n _ _ _ _ _ _ _ _ _ _ x k (2^((fD n).t+((fD n).w+5))) w B.cD (by omega) (by omega) (by omega) (by omega) (by omega) (by omega) B.cN (E:Int) (fD n).w a _ hEx (by omega) (by omega) (by omega) (by omega) (by omega) (by omega) (by omega) w12 hH (by omega) (by omega) ha _ (2^((fD n).t+((fD n).w+5))+rr) rr Fw _ _ _ _ cO cI cS (fun W v hv=>zYb (at_:=(fD n).t+((fD n).w+5)) (by decide) (by omega) hv (by omega) (by omega)) cR cF cM (fun W v hv=>zNb (at_:=0) (by omega) (by decide) (by omega) hv rfl (by omega)) rfl (by omega) hH8 (by omega) (by omega) o2 o3 o4 (by omega) (fun W v hv=>zNb (at_:=(fD n).t) (by simp only [if_true] at hS;omega) (by decide) (by omega) hv rfl (by simp))
 ·rw [if_neg h8] at hvn
  have o1:=zBd E a 3 (by omega) (by omega)
  rw [show ((E*2^3:Nat):Int)=(E:Int)*8 by omega,show E*2^3+a=E*8+a by omega,← hvn] at o1
  generalize hF:vN false (fD n).w E a=Fw at *
  cases s
  ·exact zF2 n _ _ _ _ _ _ _ _ _ _ x k w B.cD (by omega) (by omega) (by omega) (by omega) (by omega) (by omega) B.cN (E:Int) (fD n).w a _ hEx (by omega) (by omega) (by omega) (by omega) (by omega) (by omega) (by omega) w12 hH (by omega) (by omega) ha _ rr rr Fw cO cI cS cR cF cM (fun W v hv=>zYb (at_:=0) (by decide) (by omega) hv rfl (by omega)) o1 (by omega) (by omega) (fun W v hv=>zNb (at_:=(fD n).t) (by omega) (by decide) (by omega) hv rfl (by simp))
  ·exact zB2 n _ _ _ _ _ _ _ _ _ _ x k (2^((fD n).t+((fD n).w+5))) w B.cD (by omega) (by omega) (by omega) (by omega) (by omega) (by omega) B.cN (E:Int) (fD n).w a _ hEx (by omega) (by omega) (by omega) (by omega) (by omega) (by omega) (by omega) w12 hH (by omega) (by omega) ha _ (2^((fD n).t+((fD n).w+5))+rr) rr Fw cO cI cS (fun W v hv=>zYb (at_:=(fD n).t+((fD n).w+5)) (by decide) (by omega) hv (by omega) (by omega)) cR cF cM (fun W v hv=>zNb (at_:=0) (by omega) (by decide) (by omega) hv rfl (by omega)) o1 (by omega) (by omega) (fun W v hv=>zNb (at_:=(fD n).t) (by simp only [if_true] at hS;omega) (by decide) (by omega) hv rfl (by simp))
theorem rpk14 (n:Int)(d:Dat)(w:World)(hk:d.k<2^256) :
  CB 27 #[.int .i64 n,d.v] w (.tuple #[A4 (vPV n d),.int .i64 (vPE n d)]):=by
 unfold vPV vPE
 by_cases h:zRd n
 ·rw [if_pos h]
  by_cases hi:vI (fD n) d
  ·rw [if_pos ⟨h,hi⟩,if_pos hi]
   obtain ⟨c,s,g,x,k⟩:=d
   rcases id hi with ⟨c1,g1,k1,x1,x2⟩|⟨c1,g1,k1,x1⟩|⟨c1,x1,k1⟩
   ·simp only at c1 g1 k1 x1 x2
    subst c1 g1
    cases hdn:(fD n).dn
    ·exact vpk_plain h hdn w k1 x1 x2
    ·exact zRu h hdn w k1 x1 x2
   ·simp only at c1 g1 k1 x1
    subst c1 g1 k1 x1
    exact zK8 h w hi
   ·simp only at c1 k1 x1
    subst c1 x1
    exact zJ8 h w k1
  ·rw [if_neg (fun q=>hi q.2),if_neg hi,zVd]
   refine vpk_i n d.c d.s d.g d.x d.k w (zJd n) _ _ (zWi n) _ _ _ _ (fun W=>?_) (fun W=>zVj h W) (fun W=>?_)
   ·have:=zAd n W
    rw [decide_eq_true h] at this
    exact this
   ·have:=ris14 (fD n) (zKd n) n (zJd n) (((fD n).t+((fD n).w+6):Nat):Int) (zWi n) (fD n).dn d W hk
    rw [decide_eq_false hi] at this
    exact this
 ·rw [if_neg (fun q=>h q.1),if_neg h,zVd]
  refine vpk_n n d.c d.s d.g d.x d.k w (fun W=>?_)
  have:=zAd n W
  rw [decide_eq_false h] at this
  exact this
end
section
def vUD (n:Int)(B:Nat):Dat:=if zCj n B then vM (fD n) B else ⟨0,false,false,0,0⟩
def vUC (n:Int)(B:Nat):Bool:=decide (zCj n B/\vP (fD n) (vM (fD n) B)=B)
def vUE (n:Int)(B:Nat):Int:=if zCj n B then 0 else 1
theorem zN8 (n:Int)(B:Nat):(vUD n B).k<2^256:=by
 unfold vUD
 split
 ·exact zJ6 (zKd n) B
 ·decide
theorem zD5 {X Y:Nat}(hX:X<2^256)(hY:Y<2^256):decide (W4 X 0=W4 Y 0/\W4 X 1=W4 Y 1/\W4 X 2=W4 Y 2/\W4 X 3=W4 Y 3)=decide (X=Y):=by
 refine decide_eq_decide.2 ⟨fun ⟨h0,h1,h2,h3⟩=>zXs hX hY fun i hi=>?_,fun h=>by rw [h];exact ⟨rfl,rfl,rfl,rfl⟩⟩
 have:i=0∨i=1∨i=2∨i=3:=by omega
 rcases this with rfl|rfl|rfl|rfl
 ·exact h0
 ·exact h1
 ·exact h2
 ·exact h3
attribute [local irreducible] W4
section
variable (n:Int)(B:Nat)(w:World)
end
theorem zero_v:(Dat.mk 0 false false 0 0).v=.agg #[.int .i64 0,.bool false,.bool false,.int .i64 0,.int .u64 0,.int .u64 0,.int .u64 0,.int .u64 0]:=by unfold Dat.v DV;simp only [zPa]
end
section
theorem tnX_eq {N D:Nat}{E:Int}(hN:0<N)(hD:0<D)(h:TnE N D E):tnX N D=E:=(zAr hN hD).only h
theorem third:rqD 7 0 false 1 3 0 0=⟨1,false,false,-7,3333333⟩/\rqF 7 0 false 1 3 0=8/\rqE 7 0 1 3=0:=by
 have e0:rqE 7 0 1 3=0:=by
  have b1:bl 1<=2:=bl_le.2 (by decide)
  have b3:bl 3<=2:=bl_le.2 (by decide)
  unfold rqE
  rw [if_pos ⟨by unfold zRd;omega,by unfold knB;omega,by decide⟩,if_neg (by omega)]
 have eX:tnX (1*10^(clT 0).toNat) (3*10^(-(clT 0)).toNat)=-1:=tnX_eq (by decide) (by decide) ⟨by decide,by decide⟩
 refine ⟨?_,?_,e0⟩
 ·unfold rqD
  rw [if_pos e0,if_neg (by decide),eX]
  have h1:(dkD (fD 7) 0 false (1*10^(clT 0).toNat) (3*10^(-(clT 0)).toNat) (-1) 0).c=1/\(dkD (fD 7) 0 false (1*10^(clT 0).toNat) (3*10^(-(clT 0)).toNat) (-1) 0).s=false/\(dkD (fD 7) 0 false (1*10^(clT 0).toNat) (3*10^(-(clT 0)).toNat) (-1) 0).g=false/\(dkD (fD 7) 0 false (1*10^(clT 0).toNat) (3*10^(-(clT 0)).toNat) (-1) 0).x=-7/\(dkD (fD 7) 0 false (1*10^(clT 0).toNat) (3*10^(-(clT 0)).toNat) (-1) 0).k=3333333:=by decide +kernel
  generalize dkD (fD 7) 0 false (1*10^(clT 0).toNat) (3*10^(-(clT 0)).toNat) (-1) 0=R at h1 ⊢
  obtain ⟨c,s,g,x,k⟩:=R
  simp only at h1
  obtain ⟨rfl,rfl,rfl,rfl,rfl⟩:=h1
  rfl
 ·unfold rqF
  rw [if_pos e0,if_neg (by decide),eX]
  decide +kernel
attribute [local irreducible] W4 Nt
end
def i6 (x:Int):Prop:=-9223372036854775808<=x/\x<=9223372036854775807
section
theorem zQg {n:Int}(h:zRd n)(w:World)(hT:Tab w):CB 70 #[.int .i64 n] w (.tuple #[zAb n (zJd n) (zLb n) (3*((fD n).j:Int)+1) (zWi n) (fD n).l (fD n).m (zMo n) (zEc n),.int .i64 0]):=by
 obtain ⟨hok,h1,h2,h3,h4,h5,h6,h7,h8⟩:=zMe h
 have c:=zNf n w hT
 rw [show zQf n=0 from if_pos hok,h1,h2,h4,h5,h6] at c
 exact c
theorem zRr {n:Int}(hok:okN n)(h:¬ zRd n):(zTf n != 10)=true:=by
 unfold okN at hok
 unfold zRd at h
 have:n=1∨n=2∨n=3∨n=4∨n=5∨n=6:=by omega
 rcases this with rfl|rfl|rfl|rfl|rfl|rfl<;>decide
section
variable {n d:Int}{N D:Nat}{vn vd:Value}{w:World}(hT:Tab w)(hn:Nt 2001 N vn w)(hd:Nt 2001 D vd w)
include hT hn hd
theorem zN5 (hE:rqE n d N D≠0):CB 158 #[.int .i64 n,.int .i64 d,vn,vd] w (.tuple #[IZ,.int .i64 (rqE n d N D)]):=by
 have c66:=fun W (hb:Below w.heap.size w W)=>zUi (by decide) (hn.next hb)
 have c66d:=fun W (hb:Below w.heap.size w W)=>zUi (by decide) (hd.next hb)
 unfold rqE at hE ⊢
 by_cases h1:zRd n
 ·by_cases h2:knB d
  ·by_cases h3:D=0
   ·rw [if_neg (fun h=>h.2.2 h3)]
    exact zO5 n d _ _ _ _ _ _ _ _ N D vn vd w hT c66 c66d (decide_eq_true h2) (by rw [h3];rfl) (fun W hT'=>zQg h1 W hT')
   ·rw [if_pos ⟨h1,h2,h3⟩] at hE ⊢
    have hD0:(((bl D:Nat):Int)==0)=false:=by rw [zTh];exact decide_eq_false h3
    by_cases h4:25600<bl N
    ·rw [if_pos (Or.inl h4)]
     exact zP5 n d _ _ _ _ _ _ _ _ N D vn vd w hT c66 c66d (decide_eq_true h2) hD0 (by omega) (fun W hT'=>zQg h1 W hT')
    ·by_cases h5:25600<bl D
     ·rw [if_pos (Or.inr h5)]
      exact zQ5 n d _ _ _ _ _ _ _ _ N D vn vd w hT c66 c66d (decide_eq_true h2) hD0 (by omega) (by omega) (fun W hT'=>zQg h1 W hT')
     ·exact absurd (if_neg (fun h=>h.elim h4 h5)) hE
  ·rw [if_neg (fun h=>h2 h.2.1)]
   exact zT5 n d _ _ _ _ _ _ _ _ N D vn vd w hT c66 c66d (decide_eq_false h2) (fun W hT'=>zQg h1 W hT')
 ·rw [if_neg (fun h=>h1 h.1)]
  by_cases hok:okN n
  ·refine zU5 n d (zJd n) (zLb n) (zFf n) (zWi n) (zNd n) (zOg n) (zMo n) (zTf n) (zEc n) N D vn vd w hT c66 c66d (zK1 n) (zRr hok h1) (fun W hT'=>?_)
   have c:=zNf n W hT'
   rw [show zQf n=0 from if_pos hok] at c
   exact c
  ·refine zS5 n d (zJd n) (zLb n) (zFf n) (zWi n) (zNd n) (zOg n) (zMo n) (zTf n) (zEc n) N D vn vd w hT c66 c66d (zK1 n) 1 (by decide) (fun W hT'=>?_)
   have c:=zNf n W hT'
   rw [show zQf n=1 from if_neg hok] at c
   exact c
theorem yFd (hE:rqE n d N D=0):CB 158 #[.int .i64 n,.int .i64 d,vn,vd] w (.tuple #[zAb n (zJd n) (zLb n) (3*((fD n).j:Int)+1) (zWi n) (fD n).l (fD n).m (zMo n) (zEc n),.int .i64 0]):=by
 have c66:=fun W (hb:Below w.heap.size w W)=>zUi (by decide) (hn.next hb)
 have c66d:=fun W (hb:Below w.heap.size w W)=>zUi (by decide) (hd.next hb)
 obtain ⟨h1,h2,h3,h4,h5⟩:=zAq hE
 exact zR5 n d _ _ _ _ _ _ _ _ N D vn vd w hT c66 c66d (decide_eq_true h2) (by rw [zTh];exact decide_eq_false h3) (by omega) (by omega) (fun W hT'=>zQg h1 W hT')
end
theorem zY8 {f:DF}(hf:f.ok):(10:Nat)^(3*f.j+1)<2^256:=by
 obtain ⟨m0,m1,l0,l1,lm,j0,j1⟩:=zWx hf
 exact Nat.lt_of_le_of_lt (Nat.pow_le_pow_right (by decide) (show 3*f.j+1<=34 by omega)) (by decide)
theorem drd_v {n d x y:Int}{s:Bool}{N D:Nat}{vn vd:Value}{w:World}(hT:Tab w)(hn:Nt 2001 N vn w)(hd:Nt 2001 D vd w) :
  CB 126 #[.int .i64 n,.int .i64 d,.bool s,vn,vd,.int .i64 x,.int .i64 y] w (.tuple #[(rqD n d s N D x y).v,.int .i64 (rqF n d s N D x),.int .i64 (rqE n d N D)]):=by
 by_cases hE:rqE n d N D=0
 ·have c17:=fun W (hb:Below w.heap.size w W)=>yFd (hT.go hb) (hn.next hb) (hd.next hb) hE
  have c18:=fun W (hb:Below w.heap.size w W)=>zUi (by decide) (hn.next hb)
  obtain ⟨h1,h2,h3,h4,h5⟩:=zAq hE
  have hf:=zKd n
  obtain ⟨m0,m1,l0,l1,lm,j0,j1⟩:=zWx hf
  by_cases hN:N=0
  ·have e1:rqD n d s N D x y=⟨1,s,false,min (max y (fD n).l) (fD n).m,0⟩:=by unfold rqD;rw [if_pos hE,if_pos hN]
   have e2:rqF n d s N D x=0:=by unfold rqF;rw [if_pos hE,if_pos hN]
   rw [e1,e2,hE]
   have ev:(Dat.mk 1 s false (min (max y (fD n).l) (fD n).m) 0).v=.agg #[.int .i64 1,.bool s,.bool false,.int .i64 (min (max y (fD n).l) (fD n).m),.int .u64 0,.int .u64 0,.int .u64 0,.int .u64 0]:=by
    unfold Dat.v DV
    simp only [zPa]
   rw [ev]
   exact ddec_z n d x y s vn vd w _ _ _ _ _ _ _ _ N _ _ _ _ _ _ _ _ c17 c18 (by rw [hN];rfl) _ rfl (fun W=>zP7 s _ W)
  ·obtain ⟨L,hL,_⟩:=zTz hn hd hN h3 h4 h5
   have c20:∀ W,Below w.heap.size w W->CB 160 #[vn,vd] W (.int .i64 L):=fun W hb=>by
    obtain ⟨L',hL',c⟩:=zTz (hn.next hb) (hd.next hb) hN h3 h4 h5
    rw [hL'.only hL] at c
    exact c
   obtain ⟨b1,b2⟩:=tn_bd (by omega) (by omega) h4 h5 hL
   obtain ⟨r1,r2⟩:=yDc (s:=s) (x:=x) (y:=y) hE hN hL
   have hTn:=zVs hL (pX (fD n) L x)
   have c21:∀ W,CB 161 #[zAb n (zJd n) (zLb n) (3*((fD n).j:Int)+1) (zWi n) (fD n).l (fD n).m (zMo n) (zEc n),.int .i64 L,.int .i64 x] W (.int .i64 (pX (fD n) L x)):=fun W =>
    zOz n _ _ _ _ _ _ _ _ L x W (by omega) (by omega) (by omega) (by omega)
   have hXb:(fD n).l-2-L<=pX (fD n) L x/\pX (fD n) L x<=(fD n).m+(3*(fD n).j+1)-L:=by unfold pX;omega
   have hC0:=yTc (fD n) d s N D (pX (fD n) L x) (L+pX (fD n) L x)
   have hX0:=dkX_at (fD n) N D (pX (fD n) L x) (L+pX (fD n) L x)
   have hle:=zYz (f:=fD n) (d:=d) (s:=s) (Nat.mul_pos (show 0<D by omega) (zBb (-(pX (fD n) L x)).toNat)) hTn
   have hCl:=zN7 (f:=fD n) (d:=d) (s:=s) (Nat.mul_pos (show 0<D by omega) (zBb (-(pX (fD n) L x)).toNat)) hTn
   have h256:=zY8 hf
   have hql:=zM7 (fD n) d s (N*10^(pX (fD n) L x).toNat) (D*10^(-(pX (fD n) L x)).toNat) (L+pX (fD n) L x)
   have hqq:max (fD n).l (L+pX (fD n) L x-(3*((fD n).j:Int)+1)+1)=dkQ (fD n) (L+pX (fD n) L x):=by unfold dkQ;omega
   have hqb:-20000<=dkQ (fD n) (L+pX (fD n) L x)/\dkQ (fD n) (L+pX (fD n) L x)<=20000:=by unfold dkQ;omega
   have hdf:-9100<=pX (fD n) L x-dkQ (fD n) (L+pX (fD n) L x)/\pX (fD n) L x-dkQ (fD n) (L+pX (fD n) L x)<=9100:=by unfold dkQ;omega
   rw [r1,r2,hE]
   clear r1 r2 hL
   unfold dkD dkF
   unfold dkM at *
   generalize hEq:dkE (fD n) d s (N*10^(pX (fD n) L x).toNat) (D*10^(-(pX (fD n) L x)).toNat) (L+pX (fD n) L x)=qe at *
   generalize hCq:dkC (fD n) d s (N*10^(pX (fD n) L x).toNat) (D*10^(-(pX (fD n) L x)).toNat) (L+pX (fD n) L x)=ce at *
   unfold dkE at hEq
   unfold dkC at hCq
   rw [hX0]
   generalize dkC0 (fD n) d s (N*10^(pX (fD n) L x).toNat) (D*10^(-(pX (fD n) L x)).toNat) (L+pX (fD n) L x)=C at *
   clear hX0 hTn
   generalize dkQ (fD n) (L+pX (fD n) L x)=q0 at *
   generalize pX (fD n) L x=X at *
   have c22:∀ W,Below w.heap.size w W->Calls Tryz.prog 162 #[vn,vd,.int .i64 (X-q0)] W fun r w'=>∃ va vb,r=.returned (.tuple #[va,vb])/\Below W.heap.size W w'/\(Calls Tryz.prog 163 #[.int .i64 d,.bool s,va,vb] w' fun r w''=>∃ v,r=.returned (.tuple #[v,.bool (decide (N*10^(X-q0).toNat%(D*10^(-(X-q0)).toNat)=0))])/\Nz 2003 C v w''/\Below w'.heap.size w' w''):=fun W hb=>by
    refine (zGp (X-q0) (hn.next hb) (hd.next hb) (by omega) (by omega) (by omega)).mono ?_
    rintro r w' ⟨va,vb,e1,e2,e3,e4⟩
    refine ⟨va,vb,e1,e4,?_⟩
    rw [hC0]
    have t1:=zSl N (10^(X-q0).toNat)
    have t2:=zSl D (10^(-(X-q0)).toNat)
    have t3:=zKf (X-q0).toNat
    have t4:=zKf (-(X-q0)).toNat
    exact zR1 d s e2 e3 (Nat.ne_of_gt (Nat.mul_pos (by omega) (zBb _))) (by omega) (by omega)
   have c25:∀ W,CE 165 #[.int .i64 (3*((fD n).j:Int)+1)] W (NT 2001 (10^(3*(fD n).j+1))):=fun W=>by
    have:=zBn (3*(fD n).j+1) W (by omega)
    rw [show ((3*(fD n).j+1:Nat):Int)=3*((fD n).j:Int)+1 by omega] at this
    exact this
   have c25b:∀ W,CE 165 #[.int .i64 (3*((fD n).j:Int)+1-1)] W (NT 2001 (10^(3*(fD n).j))):=fun W=>by
    have:=zBn (3*(fD n).j) W (by omega)
    rw [show ((3*(fD n).j:Nat):Int)=3*((fD n).j:Int)+1-1 by omega] at this
    exact this
   have c24:∀ W v u,Nz 2003 C v W->NT 2001 (10^(3*(fD n).j+1)) u W->CB 164 #[v,u] W (.int .i64 (sgn (C:Int) ((10^(3*(fD n).j+1):Nat):Int))):=fun W v u hv hu=>zGy (by decide) (by decide) hv.nt hu.nt
   have hcm:(sgn (C:Int) ((10^(3*(fD n).j+1):Nat):Int)==0)=decide (10^(3*(fD n).j+1)<=C):=by
    rcases zUc (C:Int) ((10^(3*(fD n).j+1):Nat):Int) with ⟨a,e⟩|⟨a,e⟩|⟨a,e⟩
    ·rw [e,decide_eq_false (by omega)];rfl
    ·rw [e,decide_eq_true (by omega)];rfl
    ·exact absurd a (by omega)
   have c26:∀ W,CB 166 #[zAb n (zJd n) (zLb n) (3*((fD n).j:Int)+1) (zWi n) (fD n).l (fD n).m (zMo n) (zEc n),.int .i64 d,.bool s] W ((if inB d s then (⟨2,s,false,0,0⟩:Dat) else ⟨1,s,false,(fD n).m,10^(3*(fD n).j+1)-1⟩).v):=fun W=>by
    by_cases hi:inB d s=true
    ·rw [if_pos hi]
     have:=yKc n (zJd n) (zLb n) (3*((fD n).j:Int)+1) (zWi n) (fD n).l (fD n).m (zMo n) (zEc n) d s W hi
     unfold Dat.v DV
     simp only [zPa]
     exact this
    ·rw [if_neg hi]
     exact yJc n (zJd n) (zLb n) (3*((fD n).j:Int)+1) (zWi n) (fD n).l (fD n).m (zMo n) (zEc n) d s W (by simpa using hi) _ (10^(3*(fD n).j+1)-1) _ _ _ _ _ _ _ _ c25 (fun W v u hv hu=>yWa (by decide) (by decide) hv hu (zBb _)) (fun W v hv=>zJp (C:=10^(3*(fD n).j+1)-1) s (fD n).m hv (by omega))
   have hN0:(((bl N:Nat):Int)==0)=false:=by rw [zTh];exact decide_eq_false hN
   have hfl:∀ ex:Bool,∀ W,CQ 168 #[.bool ex,.bool (decide (L+X<3*((fD n).j:Int)+1-1+(fD n).l))] W (.int .i64 (if ex then 0 else if L+X<(fD n).l+3*(fD n).j then 12 else 8)):=fun ex W=>by
    have:=zMt ex (decide (L+X<3*((fD n).j:Int)+1-1+(fD n).l)) W
    have e:(L+X<3*((fD n).j:Int)+1-1+(fD n).l)↔(L+X<(fD n).l+3*(fD n).j):=by omega
    simp only [decide_eq_true_eq,e] at this
    simpa only [e] using this
   generalize hxa:decide (N*10^(X-q0).toNat%(D*10^(-(X-q0)).toNat)=0)=exa at *
   have hfx:=hfl exa
   clear hfl hxa hC0
   by_cases hu:10^(3*(fD n).j+1)<=C
   ·rw [if_pos hu] at hEq hCq
    subst hEq hCq
    rw [decide_eq_true hu] at hcm
    by_cases ho:(fD n).m<q0+1
    ·rw [if_pos ho,if_pos ho]
     exact yAd n d x y s vn vd w _ _ _ _ _ _ _ _ N _ _ _ _ _ _ _ _ c17 c18 (by omega) (by omega) (by omega) hN0 L X q0 (by omega) (by omega) hqq (by omega) C _ _ _ c20 c21 c22 c25 c24 hcm _ c25b ho c26
    ·rw [if_neg ho,if_neg ho]
     cases exa
     ·exact yBd n d x y s vn vd w _ _ _ _ _ _ _ _ N _ _ _ _ _ _ _ _ c17 c18 (by omega) (by omega) (by omega) hN0 L X q0 (by omega) (by omega) hqq (by omega) C _ _ _ c20 c21 c22 c25 c24 hcm _ c25b ho rfl _ (fun W v hv=>zJp (C:=10^(3*(fD n).j)) s (q0+1) hv (by omega)) hfx
     ·obtain ⟨k1,k2,k3,k4⟩:=zRm (want:=y) ((fD n).m-(q0+1)).toNat (10^(3*(fD n).j)) (q0+1) (show q0+1<=(fD n).m by omega)
      exact yZc n d x y s vn vd w _ _ _ _ _ _ _ _ N _ _ _ _ _ _ _ _ c17 c18 (by omega) (by omega) (by omega) hN0 L X q0 (by omega) (by omega) hqq (by omega) C _ _ _ c20 c21 c22 c25 c24 hcm _ c25b ho rfl _ _ _ rfl (fun W v hv=>zHp (fD n).m y (by omega) (by omega) hv (by omega)) (fun W v hv=>zJp (C:=(mbr (fD n).m y ((fD n).m-(q0+1)).toNat (10^(3*(fD n).j)) (q0+1)).1) s _ hv (by omega)) hfx
   ·rw [if_neg hu] at hEq hCq
    subst hEq hCq
    rw [decide_eq_false hu] at hcm
    by_cases ho:(fD n).m<q0
    ·rw [if_pos ho,if_pos ho]
     exact yDd n d x y s vn vd w _ _ _ _ _ _ _ _ N _ _ _ _ _ _ _ _ c17 c18 (by omega) (by omega) (by omega) hN0 L X q0 (by omega) (by omega) hqq (by omega) C _ _ _ c20 c21 c22 c25 c24 hcm ho c26
    ·rw [if_neg ho,if_neg ho]
     cases exa
     ·exact yEd n d x y s vn vd w _ _ _ _ _ _ _ _ N _ _ _ _ _ _ _ _ c17 c18 (by omega) (by omega) (by omega) hN0 L X q0 (by omega) (by omega) hqq (by omega) C _ _ _ c20 c21 c22 c25 c24 hcm ho rfl _ (fun W v hv=>zJp (C:=C) s q0 hv (by omega)) hfx
     ·obtain ⟨k1,k2,k3,k4⟩:=zRm (want:=y) ((fD n).m-q0).toNat C q0 (show q0<=(fD n).m by omega)
      exact yCd n d x y s vn vd w _ _ _ _ _ _ _ _ N _ _ _ _ _ _ _ _ c17 c18 (by omega) (by omega) (by omega) hN0 L X q0 (by omega) (by omega) hqq (by omega) C _ _ _ c20 c21 c22 c25 c24 hcm ho rfl _ _ _ rfl (fun W v hv=>zHp (fD n).m y (by omega) (by omega) hv (by omega)) (fun W v hv=>zJp (C:=(mbr (fD n).m y ((fD n).m-q0).toNat C q0).1) s _ hv (by omega)) hfx
 ·obtain ⟨q1,q2⟩:=rq_not (s:=s) (x:=x) (y:=y) hE
  rw [q1,q2]
  exact ddec_e n d x y s vn vd w _ (by simpa using hE) (fun W hb=>zN5 (hT.go hb) (hn.next hb) (hd.next hb) hE)
theorem drk_v {n d x:Int}{s:Bool}{N:Nat}{vn:Value}{w:World}(hT:Tab w)(hn:Nt 2001 N vn w) :
  CB 81 #[.int .i64 n,.int .i64 d,.bool s,vn,.int .i64 x] w (.tuple #[(rqD n d s N 1 x x).v,.int .i64 (rqF n d s N 1 x),.int .i64 (rqE n d N 1)]) :=
 ySc n d x s vn w _ _ _ _ _ _ _ _ _ _ fun W v hb hv=>drd_v (hT.go hb) (hn.next hb) (hv.more (by decide))
end
theorem zN1 (s:Bool){e:Int}(he:-100000<=e/\e<=100000):zOk (sgL s++unT [48] e)=some ⟨1,s,false,[],e⟩:=by
 have hlen:(unT [48] e).length<=26:=by have:=zIf (D:=[48]) he;rw [List.length_cons,List.length_nil] at this;omega
 obtain ⟨x1,x2,x3,x4,x5⟩:=zI7 e (by omega)
 have hu:unT [48] e=[48]++(101::Lib.itoa e):=rfl
 have key:zEg (unT [48] e)=true/\finD (unT [48] e)=[]/\finE (unT [48] e)=e/\∃ t,unT [48] e=48::t:=by
  rw [hu]
  obtain ⟨d1,d2⟩:=zGg (l:=[48]) (m:=101::Lib.itoa e) (by decide) x4
  have f1:zWh ([48]++101::Lib.itoa e)=[]:=by unfold zWh;rw [d2,x3];rfl
  have f2:zFc ([48]++101::Lib.itoa e)=101::Lib.itoa e:=by unfold zFc;rw [d2,x3];rfl
  refine ⟨?_,?_,?_,_,rfl⟩
  ·unfold zEg;rw [f1,f2,x1,d1];rfl
  ·unfold finD;rw [f1,d1];rfl
  ·unfold finE;rw [f1,f2,x2]
   rw [show e-((([]:List UInt8).length:Nat):Int)=e by simp]
   exact zHn (by omega)
 obtain ⟨k1,k2,k3,t,k4⟩:=key
 unfold zOk
 have hs:(sgL s++unT [48] e).length<=4000:=by
  rw [List.length_append]
  have:(sgL s).length<=1:=by cases s<;>decide
  omega
 rw [if_neg (by omega)]
 have hsg:gsgB (sgL s++unT [48] e)=s/\sgR (sgL s++unT [48] e)=unT [48] e:=by
  rw [k4]
  exact zRj s 48 t ⟨by decide,by decide⟩
 rw [hsg.1,hsg.2]
 unfold zNu
 rw [if_pos k1,k2,k3]
def wtD (k:Nat):List UInt8:=if k=0 then [48] else dcL k
def xtT (v:Dat):List UInt8:=if v.c=1 then sgL v.s++unT (wtD v.k) (v.x+(wtD v.k).length-1) else zCf v.c v.s v.g (dcL v.k) 0
def xtP (v:Dat):Prt:=⟨v.c,v.s,v.g,dcL v.k,if v.c=1 then v.x else 0⟩
theorem zU7 {k:Nat}(h0:k≠0)(hk:k<2^256):dcL k≠[]:=by
 obtain ⟨f1,f2,f3⟩:=zQh hk
 intro e
 rw [e,zM0] at f2
 exact h0 f2.symm
theorem vI_k {f:DF}(hf:f.ok){v:Dat}(h:vI f v):v.k<2^256:=by
 obtain ⟨m0,m1,l0,l1,lm,j0,j1⟩:=zWx hf
 have h1:(10:Nat)^(3*f.j+1)<=10^34:=Nat.pow_le_pow_right (by decide) (by omega)
 have h2:(10:Nat)^(3*f.j)<=10^34:=Nat.pow_le_pow_right (by decide) (by omega)
 have h3:(10:Nat)^34<2^256:=by decide
 rcases h with ⟨_,_,a,_⟩|⟨_,_,a,_⟩|⟨_,_,a⟩
 ·omega
 ·rw [a];decide
 ·omega
theorem xt_cut {f:DF}(hf:f.ok){v:Dat}(h:vI f v):zOk (xtT v)=some (xtP v)/\(xtT v).length<=3001:=by
 obtain ⟨m0,m1,l0,l1,lm,j0,j1⟩:=zWx hf
 have hk:=vI_k hf h
 obtain ⟨f1,f2,f3⟩:=zQh hk
 obtain ⟨c,s,g,x,k⟩:=v
 unfold xtT xtP
 dsimp only at *
 rcases h with ⟨h1,h2,h3,h4,h5⟩|⟨h1,h2,h3,h4⟩|⟨h1,h2,h3⟩
 ·dsimp only at h1 h2 h3 h4 h5
  subst h1 h2
  have hx:-10000<=x/\x<=10000:=by unfold DF.m at *;omega
  rw [if_pos rfl,if_pos rfl]
  unfold wtD
  by_cases h0:k=0
  ·rw [if_pos h0,h0,show dcL 0=[] by kernel_rfl,show x+((([48]:List UInt8).length:Nat):Int)-1=x by simp]
   refine ⟨zN1 s (by omega),?_⟩
   have hlen:(unT [48] x).length<=26:=by have:=zIf (D:=[48]) (e:=x) (by omega);rw [List.length_cons,List.length_nil] at this;omega
   rw [List.length_append]
   have:(sgL s).length<=1:=by cases s<;>decide
   omega
  ·rw [if_neg h0]
   refine ⟨yYc s f1 (zU7 h0 hk) (by omega) (by omega) rfl,?_⟩
   have hlen:=zIf (D:=dcL k) (e:=x+(dcL k).length-1) (by omega)
   rw [List.length_append]
   have:(sgL s).length<=1:=by cases s<;>decide
   omega
 ·dsimp only at h1 h2 h3 h4
  subst h1 h2 h3 h4
  have e0:dcL 0=[]:=by kernel_rfl
  rw [e0]
  exact ⟨by cases s<;>kernel_rfl,by cases s<;>decide⟩
 ·dsimp only at h1 h2 h3
  subst h1 h2
  have hlen:(zCf 3 s g (dcL k) 0).length<=3001:=by
   have:=zM2 (c:=3) (s:=s) (g:=g) (d:=dcL k) (e:=0) (by decide)
   omega
  have hj:=(zUm (p:=⟨3,s,g,dcL k,0⟩) ⟨f1,Or.inr (Or.inr ⟨rfl,rfl,by show (zCf 3 s g (dcL k) 0).length<=4000;omega⟩)⟩).2
  exact ⟨hj,hlen⟩
noncomputable def dmD (n d:Int)(p:Prt):Dat :=
 if p.cls=1 then rqD n d p.sg (dV p.dig) 1 p.ex p.ex else ⟨p.cls,p.sg,p.sn,0,if p.cls=3 then (if 10^(3*(fD n).j)<=dV p.dig then 0 else dV p.dig) else 0⟩
noncomputable def dmF (n d:Int)(p:Prt):Int:=if p.cls=1 then rqF n d p.sg (dV p.dig) 1 p.ex else 0
theorem yPc {n d:Int}(hn:zRd n)(hd:knB d){p:Prt}(hg:gdP p)(hb:bl (dV p.dig)<=25600):vI (fD n) (dmD n d p):=by
 obtain ⟨m0,m1,l0,l1,lm,j0,j1⟩:=zWx (zKd n)
 obtain ⟨_,hp⟩:=hg
 unfold dmD
 rcases hp with ⟨h1,_⟩|⟨h1,h2,h3,h4⟩|⟨h1,h2,h3⟩
 ·rw [if_pos h1]
  have hE:rqE n d (dV p.dig) 1=0:=by
   unfold rqE
   rw [if_pos ⟨hn,hd,by decide⟩,if_neg]
   have:bl 1<=1:=bl_le.2 (by decide)
   omega
  unfold rqD
  rw [if_pos hE]
  by_cases h0:dV p.dig=0
  ·rw [if_pos h0]
   exact Or.inl ⟨rfl,rfl,zBb _,by show (fD n).l<=min (max p.ex (fD n).l) (fD n).m;omega,by show min (max p.ex (fD n).l) (fD n).m<=(fD n).m;omega⟩
  ·rw [if_neg h0]
   have hp:0<1*10^(-(clT p.ex)).toNat:=Nat.mul_pos (by decide) (zBb _)
   exact dkD_is (zKd n) hp (zAr (Nat.mul_pos (by omega) (zBb _)) hp)
 ·rw [if_neg (by rw [h1];decide)]
  exact Or.inr (Or.inl ⟨h1,h2,by show (if p.cls=3 then _ else 0)=0;rw [if_neg (by rw [h1];decide)],rfl⟩)
 ·rw [if_neg (by rw [h1];decide)]
  refine Or.inr (Or.inr ⟨h1,rfl,?_⟩)
  show (if p.cls=3 then _ else 0)<_
  rw [if_pos h1]
  split
  ·exact zBb _
  ·omega
section
abbrev zd:Array Value:=#[.int .i64 0,.bool false,.bool false,.int .i64 0,.int .u64 0,.int .u64 0,.int .u64 0,.int .u64 0]
abbrev dvc (c:Int)(s g:Bool)(x:Int)(k:Nat):Array Value:=#[.int .i64 c,.bool s,.bool g,.int .i64 x,.int .u64 (W4 k 0),.int .u64 (W4 k 1),.int .u64 (W4 k 2),.int .u64 (W4 k 3)]
theorem zEd {n b:Nat}{a:World}(hb:n<=b):∀ (vs:List Value) (o:Nat) (W:World),Below n a W->Below n a (W.setCells b o vs)
 | [],_,_,h=>h
 | v::r,o,W,h=>zEd hb r (o+1) _ (h.setCell hb v)
def D8 (g:Nat)(cs:Array Value)(w:World):Prop:=g<w.heap.size/\cs.size=8/\(∀ i,i<8->w.cell? ⟨g,i,none⟩=cs[i]?)/\∀ i,w.frozen? ⟨g,i,none⟩=false
theorem D8.next {g:Nat}{cs:Array Value}{w w':World}(h:D8 g cs w)(hb:Below w.heap.size w w'):D8 g cs w' :=
 ⟨Nat.lt_of_lt_of_le h.1 hb.size,h.2.1,fun i hi=>(hb.cell (p:=⟨g,i,none⟩) h.1).trans (h.2.2.1 i hi),fun i=>(hb.frozen (p:=⟨g,i,none⟩) h.1).trans (h.2.2.2 i)⟩
theorem D8.new (w:World):D8 w.heap.size zd (w.alloc (.cells zd 50)):=by
 refine ⟨by simp,rfl,fun i hi=>?_,fun i=>?_⟩
 ·rw [World.cell?_alloc_new]
 ·simp [go_sem]
theorem D8.put {g:Nat}{cs cs':Array Value}{w:World}(h:D8 g cs w)(hs:cs'.size=8):D8 g cs' (w.setCells g 0 cs'.toList):=by
 have hin:=World.cell?_setCells_in g cs'.toList 0 w (fun j hj=>by
  rw [Nat.zero_add,h.2.2.1 j (by simpa [hs] using hj),Array.getElem?_eq_getElem (by rw [h.2.1];simpa [hs] using hj)];rfl)
 refine ⟨Nat.lt_of_lt_of_le h.1 (zEd (n:=0) (Nat.zero_le _) _ _ _ (Below.refl 0 w)).size,hs,fun i hi=>?_,fun i=>?_⟩
 ·have:=hin i (by simpa [hs] using hi)
  rw [Nat.zero_add] at this
  rw [this,Array.getElem?_eq_getElem (by rw [hs];exact hi)]
  simp
 ·rw [World.frozen?_setCells];exact h.2.2.2 i
attribute [local irreducible] W4 Nt NT
section
variable {a:Act}{w:World}{K:Act->World->Prop}{Q:Exit->Act->World->Prop}{d p q:Nat}{ty:TypeId}{pos:String}{after:Array Edge}{gd:Option (Nat×Bool)}
theorem zT6 {g i:Nat}{v:Value}(h1:slot a p=.pointer (some ⟨g,i,none⟩))(h2:w.cell? ⟨g,i,none⟩=some v)(hK:K (a.put (some d) v) w):Oper.wp Tryz.prog { dst:=some d,op:=Op.load 4 (Operand.tmp p),type:=ty,pos:=pos,after:=after,guard:=gd } a w K Q:=by
 unfold slot at h1
 simp [go_sem,h1,h2]
 exact hK
theorem od_alc (hK:K (a.put (some d) (.pointer (some ⟨w.heap.size,0,none⟩))) (w.alloc (.cells zd 50))):Oper.wp Tryz.prog { dst:=some d,op:=Op.alloc 50,type:=ty,pos:=pos,after:=after,guard:=gd } a w K Q:=by
 simp [go_sem]
 exact hK
theorem od_st {g:Nat}{c x:Int}{s b:Bool}{k:Nat}{cs:Array Value}(h1:slot a p=.pointer (some ⟨g,0,none⟩))(h2:slot a q=DV c s b x k)(hB:D8 g cs w)(hK:K (a.put none undef) (w.setCells g 0 (dvc c s b x k).toList)):Oper.wp Tryz.prog { dst:=none,op:=Op.store 50 (Operand.tmp p) (Operand.tmp q),type:=ty,pos:=pos,after:=after,guard:=gd } a w K Q:=by
 refine wp_store_mid 50 (.tmp p) (.tmp q) rfl g 0 (dvc c s b x k) (by unfold slot at h1;simp [go_sem,h1]) (by unfold slot at h2;simp [go_sem,h2]) (fun j hj=>?_) (by kernel_rfl) (by simp [Value.oneCell']) hK
 rw [Nat.zero_add,hB.2.2.1 j hj,Array.getElem?_eq_getElem (by rw [hB.2.1];exact hj)]
 exact ⟨rfl,hB.2.2.2 j⟩
theorem od_bs1 (hK:K (a.put (some d) (.slice (some ⟨w.heap.size,0,none⟩) 1 1)) (w.alloc (.cells #[.int .u64 1] 22))):Oper.wp Tryz.prog { dst:=some d,op:=Op.buildSlice 48 1 #[(0,Operand.const (.int .u64 1))],type:=ty,pos:=pos,after:=after,guard:=gd } a w K Q:=by
 simp [go_sem]
 exact hK
theorem og_c7 {F:Nat}{p0 p1 p2 p3 p4 p5 p6:Nat}{u0 u1 u2 u3 u4 u5 u6:Value}{ts:Array TypeId}(hr:Sem.run Tryz.prog (callFunc F #[u0,u1,u2,u3,u4,u5,u6]) w=.ok (.enter F #[u0,u1,u2,u3,u4,u5,u6]) w)(h0:slot a p0=u0)(h1:slot a p1=u1)(h2:slot a p2=u2)(h3:slot a p3=u3)(h4:slot a p4=u4)(h5:slot a p5=u5)(h6:slot a p6=u6)(hc:Calls Tryz.prog F #[u0,u1,u2,u3,u4,u5,u6] w fun e w'=>∃ v,e=.returned v/\K (a.put (some d) v) w'):Oper.wp Tryz.prog { dst:=some d,op:=Op.call { callee:=Callee.value (Operand.func F),args:=#[Operand.tmp p0,Operand.tmp p1,Operand.tmp p2,Operand.tmp p3,Operand.tmp p4,Operand.tmp p5,Operand.tmp p6],argTypes:=ts },type:=ty,pos:=pos,after:=after,guard:=gd } a w K Q:=by
 unfold slot at h0 h1 h2 h3 h4 h5 h6
 simp [go_sem,h0,h1,h2,h3,h4,h5,h6,hr]
 refine hc.mono ?_
 rintro e w' ⟨v,rfl,hK⟩
 exact hK
end
theorem zU3 (w:World):Below w.heap.size w (w.alloc (.cells #[.int .u64 1] 22)):=zEa w _
def M7 (ws:World)(cv:Array Value)(L:Nat->Prop)(f:Nat->Value)(w:World):Prop :=
 Below ws.heap.size ws w/\(L 6->L 10∨Nt 1 1 (f 61) w)/\(L 15->∃ g cs,f 14=.pointer (some ⟨g,0,none⟩)/\ws.heap.size<=g/\D8 g cs w/\(L 16->cs=cv))
theorem M7.step {ws w:World}{cv:Array Value}{k t:Nat}{L:Nat->Prop}{f:Nat->Value}{v:Value}(h:M7 ws cv L f w)(h1:t≠61)(h2:t≠14)(h3:k≠6)(h4:k≠15)(h5:k≠16)(h6:k≠10):M7 ws cv (fun j=>L j∨j=k) (fun u=>if some t=some u then v else f u) w:=by
 obtain ⟨a1,a2,a3⟩:=h
 have e61:(if some t=some 61 then v else f 61)=f 61:=if_neg (fun e=>h1 (Option.some.inj e))
 have e14:(if some t=some 14 then v else f 14)=f 14:=if_neg (fun e=>h2 (Option.some.inj e))
 refine ⟨a1,fun h=>?_,fun h=>?_⟩
 ·rcases a2 (h.resolve_right (fun e=>h3 e.symm)) with q|q
  ·exact Or.inl (Or.inl q)
  ·right;show Nt 1 1 (if some t=some 61 then v else f 61) w;rw [e61];exact q
 ·obtain ⟨g,cs,b1,b2,b3,b4⟩:=a3 (h.resolve_right (fun e=>h4 e.symm))
  exact ⟨g,cs,e14.trans b1,b2,b3,fun h=>b4 (h.resolve_right (fun e=>h5 e.symm))⟩
end
section
attribute [local irreducible] W4 Nt NT
section
variable {a:Act}{w:World}{K:Act->World->Prop}{Q:Exit->Act->World->Prop}{d p q:Nat}{ty:TypeId}{pos:String}{after:Array Edge}{gd:Option (Nat×Bool)}
theorem opt_f1 {g:Nat}(h1:slot a p=.pointer (some ⟨g,0,none⟩))(hK:K (a.put (some d) (.pointer (some ⟨g,1,none⟩))) w):Oper.wp Tryz.prog { dst:=some d,op:=Op.fieldAddr 31 (Operand.tmp p) 1,type:=ty,pos:=pos,after:=after,guard:=gd } a w K Q:=by
 unfold slot at h1
 simp [go_sem,h1]
 exact hK
theorem opt_f3 {g:Nat}(h1:slot a p=.pointer (some ⟨g,0,none⟩))(hK:K (a.put (some d) (.pointer (some ⟨g,3,none⟩))) w):Oper.wp Tryz.prog { dst:=some d,op:=Op.fieldAddr 31 (Operand.tmp p) 3,type:=ty,pos:=pos,after:=after,guard:=gd } a w K Q:=by
 unfold slot at h1
 simp [go_sem,h1]
 exact hK
theorem zS6 {g:Nat}(h1:slot a p=.pointer (some ⟨g,0,none⟩))(hK:K (a.put (some d) (.pointer (some ⟨g,4,none⟩))) w):Oper.wp Tryz.prog { dst:=some d,op:=Op.fieldAddr 31 (Operand.tmp p) 4,type:=ty,pos:=pos,after:=after,guard:=gd } a w K Q:=by
 unfold slot at h1
 simp [go_sem,h1]
 exact hK
theorem opt_l9 {g i:Nat}{v:Value}(h1:slot a p=.pointer (some ⟨g,i,none⟩))(h2:w.cell? ⟨g,i,none⟩=some v)(hK:K (a.put (some d) v) w):Oper.wp Tryz.prog { dst:=some d,op:=Op.load 9 (Operand.tmp p),type:=ty,pos:=pos,after:=after,guard:=gd } a w K Q:=by
 unfold slot at h1
 simp [go_sem,h1,h2]
 exact hK
end
theorem zF6 {g:Nat}{c x:Int}{s b:Bool}{k:Nat}{w:World}(h:D8 g (dvc c s b x k) w):w.cell? ⟨g,0,none⟩=some (.int .i64 c)/\w.cell? ⟨g,1,none⟩=some (.bool s)/\w.cell? ⟨g,2,none⟩=some (.bool b)/\w.cell? ⟨g,3,none⟩=some (.int .i64 x)/\w.cell? ⟨g,4,none⟩=some (.int .u64 (W4 k 0))/\w.cell? ⟨g,5,none⟩=some (.int .u64 (W4 k 1))/\w.cell? ⟨g,6,none⟩=some (.int .u64 (W4 k 2))/\w.cell? ⟨g,7,none⟩=some (.int .u64 (W4 k 3)) :=
 ⟨h.2.2.1 0 (by decide),h.2.2.1 1 (by decide),h.2.2.1 2 (by decide),h.2.2.1 3 (by decide),h.2.2.1 4 (by decide),h.2.2.1 5 (by decide),h.2.2.1 6 (by decide),h.2.2.1 7 (by decide)⟩
noncomputable def zIb:List Oper:=(Tryz.f14.body.bind (zXm 10)).getD []
def zQ2:List Nat:=[46,47,48,49,50,51,52,53,54,55,56,57,58,45,59,60,81]
def zZn:List Nat:=[46,47,48,49,50,51,52,53,54,55,56,57,58,45,59,60,81,12]
def K10 (ws:World)(gd N:Nat)(c0 cv:Array Value)(L:Nat->Prop)(f:Nat->Value)(w:World):Prop :=
 (L 6->L 12∨NT 1001 N (f 52) w)/\(L 7->L 12∨NT 1 1 (f 53) w)/\(¬ L 16->Below ws.heap.size ws w/\D8 gd c0 w)/\(L 16->∃ w0,Below ws.heap.size ws w0/\w=w0.setCells gd 0 cv.toList)
theorem K10.step {ws w:World}{gd N:Nat}{c0 cv:Array Value}{k t:Nat}{L:Nat->Prop}{f:Nat->Value}{v:Value}(h:K10 ws gd N c0 cv L f w)(n16:¬ L 16)(h1:t≠52)(h2:t≠53)(h3:k≠6)(h4:k≠7)(h5:k≠16)(h6:k≠12):K10 ws gd N c0 cv (fun j=>L j∨j=k) (fun u=>if some t=some u then v else f u) w:=by
 obtain ⟨a1,a2,a3,a4⟩:=h
 have e52:(if some t=some 52 then v else f 52)=f 52:=if_neg (fun e=>h1 (Option.some.inj e))
 have e53:(if some t=some 53 then v else f 53)=f 53:=if_neg (fun e=>h2 (Option.some.inj e))
 refine ⟨fun h=>?_,fun h=>?_,fun _=>a3 n16,fun h=>absurd (h.resolve_right (fun e=>h5 e.symm)) n16⟩
 ·rcases a1 (h.resolve_right (fun e=>h3 e.symm)) with q|q
  ·exact Or.inl (Or.inl q)
  ·right;show NT 1001 N (if some t=some 52 then v else f 52) w;rw [e52];exact q
 ·rcases a2 (h.resolve_right (fun e=>h4 e.symm)) with q|q
  ·exact Or.inl (Or.inl q)
  ·right;show NT 1 1 (if some t=some 53 then v else f 53) w;rw [e53];exact q
theorem K10.stepE {ws w:World}{gd N:Nat}{c0 cv:Array Value}{L:Nat->Prop}{f:Nat->Value}{v:Value}(h:K10 ws gd N c0 cv L f w):K10 ws gd N c0 cv (fun j=>L j∨j=15) (fun u=>if some 60=some u then v else f u) w:=by
 obtain ⟨a1,a2,a3,a4⟩:=h
 refine ⟨fun h=>?_,fun h=>?_,fun h=>a3 (fun q=>h (Or.inl q)),fun h=>a4 (h.resolve_right (by decide))⟩
 ·rcases a1 (h.resolve_right (by decide)) with q|q
  ·exact Or.inl (Or.inl q)
  ·exact Or.inr q
 ·rcases a2 (h.resolve_right (by decide)) with q|q
  ·exact Or.inl (Or.inl q)
  ·exact Or.inr q
theorem regK10 {g5 gd N vk:Nat}{n d ux vc vx F:Int}{us vs vg:Bool}{bs:ByteArray}{c0:Array Value}{a0:Act}{ws:World}{Q:Exit->Act->World->Prop}(hs:a0.tmps.size=83)
  (g0:slot a0 0=.int .i64 n) (g1:slot a0 1=.int .i64 d) (gg5:slot a0 5=.pointer (some ⟨g5,0,none⟩)) (g11:slot a0 11=.pointer (some ⟨gd,0,none⟩)) (hlt:g5<ws.heap.size)
  (q1:ws.cell? ⟨g5,1,none⟩=some (.bool us)) (q3:ws.cell? ⟨g5,3,none⟩=some (.string bs)) (q4:ws.cell? ⟨g5,4,none⟩=some (.int .i64 ux)) (hD0:D8 gd c0 ws)
  (cN:∀ W,CE 23 #[.string bs] W (NT 1001 N))
  (cR:∀ W v v',NT 1001 N v W->NT 1 1 v' W->CB 41 #[.int .i64 n,.int .i64 d,.bool us,v,v',.int .i64 ux,.int .i64 ux] W (.tuple #[DV vc vs vg vx vk,.int .i64 F]))
  (hQ:∀ (a:Act) (w:World),slot a 12=.int .i64 F->a.tmps.size=83->a.defers=a0.defers->(∀ t,(∀ i,i<18->zZn.getD i 0≠t)->slot a t=slot a0 t)->(∃ w0,Below ws.heap.size ws w0/\w=w0.setCells gd 0 (dvc vc vs vg vx vk).toList/\D8 gd (dvc vc vs vg vx vk) w)->Q .normal a w) :
  (Code.region 10 zIb.toArray true).wp Tryz.prog Q a0 ws:=by
 refine zIg 17 83 zQ2 [iW (.int .i64 n),iW (.int .i64 d),iW (.pointer (some ⟨g5,1,none⟩)),iW (.bool us),iW (.pointer (some ⟨g5,3,none⟩)),iW (.string bs),(fun _ _=>True),(fun _ _=>True),iW (.pointer (some ⟨g5,4,none⟩)),iW (.int .i64 ux),iW (.pointer (some ⟨g5,4,none⟩)),iW (.int .i64 ux),iW (.tuple #[DV vc vs vg vx vk,.int .i64 F]),iW (.tuple #[DV vc vs vg vx vk,.int .i64 F]),iW (DV vc vs vg vx vk),iW (.int .i64 F),(fun _ _=>True)] (fun _ _=>True) (K10 ws gd N c0 (dvc vc vs vg vx vk)) [] [] (by kernel_rfl) (by kernel_rfl) (by kernel_rfl) (by kernel_rfl) hs ?_ (fun _=>trivial) ?_ ?_ ⟨fun h=>h.elim,fun h=>h.elim,fun _=>⟨(Below.refl _ _).drew,hD0.next (Below.refl _ _).drew⟩,fun h=>h.elim⟩ ?_ ?_ ?_
 ·intro j c hj hc
  cases hc
 ·intro p hp
  simp only [List.mem_cons,List.not_mem_nil,or_false] at hp
  rcases hp with rfl|rfl|rfl|rfl|rfl|rfl|rfl|rfl|rfl|rfl|rfl|rfl|rfl|rfl|rfl|rfl|rfl
  all_goals exact fun _ _ _ h _=>h
 ·intro i hi hG
  cases hG
 ·intro L i o a w hi ho hG
  cases hG
 ·intro L i o a w hi ho hG hL hcl he hM hF hv
  have f0:slot a 0=.int .i64 n:=(hF 0 (by decide)).trans g0
  have f1:slot a 1=.int .i64 d:=(hF 1 (by decide)).trans g1
  have f5:slot a 5=.pointer (some ⟨g5,0,none⟩):=(hF 5 (by decide)).trans gg5
  have hor:i=0∨i=1∨i=2∨i=3∨i=4∨i=5∨i=6∨i=7∨i=8∨i=9∨i=10∨i=11∨i=12∨i=13∨i=14∨i=15∨i=16:=by omega
  rcases hor with rfl|rfl|rfl|rfl|rfl|rfl|rfl|rfl|rfl|rfl|rfl|rfl|rfl|rfl|rfl|rfl|rfl
  ·have n16:¬ L 16:=(fun h=>hL (hcl 16 _ (show zIb[16]?=some _ from rfl) h ⟨0,.phase⟩ (by simp) rfl))
   have hB:=(hM.2.2.1 n16).1
   obtain rfl:=Option.some.inj (show zIb[0]?=some o from ho)
   exact zFq f0 ⟨_,rfl,rfl,trivial,hM.step n16 (by decide) (by decide) (by decide) (by decide) (by decide) (by decide)⟩
  ·have n16:¬ L 16:=(fun h=>hL (hcl 16 _ (show zIb[16]?=some _ from rfl) h ⟨1,.phase⟩ (by simp) rfl))
   have hB:=(hM.2.2.1 n16).1
   obtain rfl:=Option.some.inj (show zIb[1]?=some o from ho)
   exact zFq f1 ⟨_,rfl,rfl,trivial,hM.step n16 (by decide) (by decide) (by decide) (by decide) (by decide) (by decide)⟩
  ·have n16:¬ L 16:=(fun h=>hL (hcl 16 _ (show zIb[16]?=some _ from rfl) h ⟨2,.phase⟩ (by simp) rfl))
   have hB:=(hM.2.2.1 n16).1
   obtain rfl:=Option.some.inj (show zIb[2]?=some o from ho)
   exact opt_f1 f5 ⟨_,rfl,rfl,trivial,hM.step n16 (by decide) (by decide) (by decide) (by decide) (by decide) (by decide)⟩
  ·have n16:¬ L 16:=(fun h=>hL (hcl 16 _ (show zIb[16]?=some _ from rfl) h ⟨3,.phase⟩ (by simp) rfl))
   have hB:=(hM.2.2.1 n16).1
   obtain rfl:=Option.some.inj (show zIb[3]?=some o from ho)
   have k1:w.cell? ⟨g5,1,none⟩=some (.bool us):=(hB.cell (p:=⟨g5,1,none⟩) hlt).trans q1
   have k3:w.cell? ⟨g5,3,none⟩=some (.string bs):=(hB.cell (p:=⟨g5,3,none⟩) hlt).trans q3
   have k4:w.cell? ⟨g5,4,none⟩=some (.int .i64 ux):=(hB.cell (p:=⟨g5,4,none⟩) hlt).trans q4
   exact zT6 (hv 2 (by decide) rfl (he ⟨2,.data⟩ (by simp) rfl):slot a 48=.pointer (some ⟨g5,1,none⟩)) k1 ⟨_,rfl,rfl,trivial,hM.step n16 (by decide) (by decide) (by decide) (by decide) (by decide) (by decide)⟩
  ·have n16:¬ L 16:=(fun h=>hL (hcl 16 _ (show zIb[16]?=some _ from rfl) h ⟨4,.phase⟩ (by simp) rfl))
   have hB:=(hM.2.2.1 n16).1
   obtain rfl:=Option.some.inj (show zIb[4]?=some o from ho)
   exact opt_f3 f5 ⟨_,rfl,rfl,trivial,hM.step n16 (by decide) (by decide) (by decide) (by decide) (by decide) (by decide)⟩
  ·have n16:¬ L 16:=(fun h=>hL (hcl 16 _ (show zIb[16]?=some _ from rfl) h ⟨5,.phase⟩ (by simp) rfl))
   have hB:=(hM.2.2.1 n16).1
   obtain rfl:=Option.some.inj (show zIb[5]?=some o from ho)
   have k1:w.cell? ⟨g5,1,none⟩=some (.bool us):=(hB.cell (p:=⟨g5,1,none⟩) hlt).trans q1
   have k3:w.cell? ⟨g5,3,none⟩=some (.string bs):=(hB.cell (p:=⟨g5,3,none⟩) hlt).trans q3
   have k4:w.cell? ⟨g5,4,none⟩=some (.int .i64 ux):=(hB.cell (p:=⟨g5,4,none⟩) hlt).trans q4
   exact opt_l9 (hv 4 (by decide) rfl (he ⟨4,.data⟩ (by simp) rfl):slot a 50=.pointer (some ⟨g5,3,none⟩)) k3 ⟨_,rfl,rfl,trivial,hM.step n16 (by decide) (by decide) (by decide) (by decide) (by decide) (by decide)⟩
  ·have n16:¬ L 16:=(fun h=>hL (hcl 16 _ (show zIb[16]?=some _ from rfl) h ⟨6,.phase⟩ (by simp) rfl))
   have hB:=(hM.2.2.1 n16).1
   obtain rfl:=Option.some.inj (show zIb[6]?=some o from ho)
   obtain ⟨a1,a2,a3,a4⟩:=hM
   refine zT3 (by simp [go_sem]) (hv 5 (by decide) rfl (he ⟨5,.data⟩ (by simp) rfl):slot a 51=.string bs) ((cN w).mono ?_)
   rintro e w' ⟨v,rfl,hNv,hb⟩
   refine ⟨v,rfl,_,rfl,trivial,trivial,fun _=>Or.inr hNv,fun h7=>?_,fun _=>⟨bnx hB hb,(a3 n16).2.next hb⟩,fun h=>absurd (h.resolve_right (by decide)) n16⟩
   rcases a2 (h7.resolve_right (by decide)) with q|q
   ·exact Or.inl (Or.inl q)
   ·exact Or.inr (q.next hb)
  ·have n16:¬ L 16:=(fun h=>hL (hcl 16 _ (show zIb[16]?=some _ from rfl) h ⟨7,.phase⟩ (by simp) rfl))
   have hB:=(hM.2.2.1 n16).1
   obtain rfl:=Option.some.inj (show zIb[7]?=some o from ho)
   have hb:=zU3 w
   obtain ⟨a1,a2,a3,a4⟩:=hM
   refine od_bs1 ⟨_,rfl,trivial,trivial,fun h6=>?_,fun _=>Or.inr (zGi rfl rfl (by decide) (by decide)),fun _=>⟨bnx hB hb,(a3 n16).2.next hb⟩,fun h=>absurd (h.resolve_right (by decide)) n16⟩
   rcases a1 (h6.resolve_right (by decide)) with q|q
   ·exact Or.inl (Or.inl q)
   ·exact Or.inr (q.next hb)
  ·have n16:¬ L 16:=(fun h=>hL (hcl 16 _ (show zIb[16]?=some _ from rfl) h ⟨8,.phase⟩ (by simp) rfl))
   have hB:=(hM.2.2.1 n16).1
   obtain rfl:=Option.some.inj (show zIb[8]?=some o from ho)
   exact zS6 f5 ⟨_,rfl,rfl,trivial,hM.step n16 (by decide) (by decide) (by decide) (by decide) (by decide) (by decide)⟩
  ·have n16:¬ L 16:=(fun h=>hL (hcl 16 _ (show zIb[16]?=some _ from rfl) h ⟨9,.phase⟩ (by simp) rfl))
   have hB:=(hM.2.2.1 n16).1
   obtain rfl:=Option.some.inj (show zIb[9]?=some o from ho)
   have k1:w.cell? ⟨g5,1,none⟩=some (.bool us):=(hB.cell (p:=⟨g5,1,none⟩) hlt).trans q1
   have k3:w.cell? ⟨g5,3,none⟩=some (.string bs):=(hB.cell (p:=⟨g5,3,none⟩) hlt).trans q3
   have k4:w.cell? ⟨g5,4,none⟩=some (.int .i64 ux):=(hB.cell (p:=⟨g5,4,none⟩) hlt).trans q4
   exact zEh (hv 8 (by decide) rfl (he ⟨8,.data⟩ (by simp) rfl):slot a 54=.pointer (some ⟨g5,4,none⟩)) k4 ⟨_,rfl,rfl,trivial,hM.step n16 (by decide) (by decide) (by decide) (by decide) (by decide) (by decide)⟩
  ·have n16:¬ L 16:=(fun h=>hL (hcl 16 _ (show zIb[16]?=some _ from rfl) h ⟨10,.phase⟩ (by simp) rfl))
   have hB:=(hM.2.2.1 n16).1
   obtain rfl:=Option.some.inj (show zIb[10]?=some o from ho)
   exact zS6 f5 ⟨_,rfl,rfl,trivial,hM.step n16 (by decide) (by decide) (by decide) (by decide) (by decide) (by decide)⟩
  ·have n16:¬ L 16:=(fun h=>hL (hcl 16 _ (show zIb[16]?=some _ from rfl) h ⟨11,.phase⟩ (by simp) rfl))
   have hB:=(hM.2.2.1 n16).1
   obtain rfl:=Option.some.inj (show zIb[11]?=some o from ho)
   have k1:w.cell? ⟨g5,1,none⟩=some (.bool us):=(hB.cell (p:=⟨g5,1,none⟩) hlt).trans q1
   have k3:w.cell? ⟨g5,3,none⟩=some (.string bs):=(hB.cell (p:=⟨g5,3,none⟩) hlt).trans q3
   have k4:w.cell? ⟨g5,4,none⟩=some (.int .i64 ux):=(hB.cell (p:=⟨g5,4,none⟩) hlt).trans q4
   exact zEh (hv 10 (by decide) rfl (he ⟨10,.data⟩ (by simp) rfl):slot a 56=.pointer (some ⟨g5,4,none⟩)) k4 ⟨_,rfl,rfl,trivial,hM.step n16 (by decide) (by decide) (by decide) (by decide) (by decide) (by decide)⟩
  ·have n16:¬ L 16:=(fun h=>hL (hcl 16 _ (show zIb[16]?=some _ from rfl) h ⟨12,.phase⟩ (by simp) rfl))
   have hB:=(hM.2.2.1 n16).1
   obtain rfl:=Option.some.inj (show zIb[12]?=some o from ho)
   obtain ⟨a1,a2,a3,a4⟩:=hM
   have l6:=he ⟨6,.data⟩ (by simp) rfl
   have l7:=he ⟨7,.data⟩ (by simp) rfl
   have h6:NT 1001 N (slot a 52) w:=(a1 l6).resolve_left hL
   have h7:NT 1 1 (slot a 53) w:=(a2 l7).resolve_left hL
   refine og_c7 (by simp [go_sem]) (hv 0 (by decide) rfl (he ⟨0,.data⟩ (by simp) rfl):slot a 46=.int .i64 n) (hv 1 (by decide) rfl (he ⟨1,.data⟩ (by simp) rfl):slot a 47=.int .i64 d) (hv 3 (by decide) rfl (he ⟨3,.data⟩ (by simp) rfl):slot a 49=.bool us) rfl rfl (hv 9 (by decide) rfl (he ⟨9,.data⟩ (by simp) rfl):slot a 55=.int .i64 ux) (hv 11 (by decide) rfl (he ⟨11,.data⟩ (by simp) rfl):slot a 57=.int .i64 ux) ((cR w _ _ h6 h7).mono ?_)
   rintro e w' ⟨rfl,hb⟩
   exact ⟨_,rfl,_,rfl,rfl,trivial,fun _=>Or.inl (Or.inr rfl),fun _=>Or.inl (Or.inr rfl),fun _=>⟨bnx hB hb,(a3 n16).2.next hb⟩,fun h=>absurd (h.resolve_right (by decide)) n16⟩
  ·have n16:¬ L 16:=(fun h=>hL (hcl 16 _ (show zIb[16]?=some _ from rfl) h ⟨13,.phase⟩ (by simp) rfl))
   have hB:=(hM.2.2.1 n16).1
   obtain rfl:=Option.some.inj (show zIb[13]?=some o from ho)
   exact zFq (hv 12 (by decide) rfl (he ⟨12,.data⟩ (by simp) rfl):slot a 58=.tuple #[DV vc vs vg vx vk,.int .i64 F]) ⟨_,rfl,rfl,trivial,hM.step n16 (by decide) (by decide) (by decide) (by decide) (by decide) (by decide)⟩
  ·have n16:¬ L 16:=(fun h=>hL (hcl 16 _ (show zIb[16]?=some _ from rfl) h ⟨14,.phase⟩ (by simp) rfl))
   have hB:=(hM.2.2.1 n16).1
   obtain rfl:=Option.some.inj (show zIb[14]?=some o from ho)
   exact zNo (hv 13 (by decide) rfl (he ⟨13,.data⟩ (by simp) rfl):slot a 45=.tuple #[DV vc vs vg vx vk,.int .i64 F]) rfl ⟨_,rfl,rfl,trivial,hM.step n16 (by decide) (by decide) (by decide) (by decide) (by decide) (by decide)⟩
  ·obtain rfl:=Option.some.inj (show zIb[15]?=some o from ho)
   exact zNo (hv 13 (by decide) rfl (he ⟨13,.data⟩ (by simp) rfl):slot a 45=.tuple #[DV vc vs vg vx vk,.int .i64 F]) rfl ⟨_,rfl,rfl,trivial,hM.stepE⟩
  ·obtain rfl:=Option.some.inj (show zIb[16]?=some o from ho)
   obtain ⟨a1,a2,a3,a4⟩:=hM
   have l14:=he ⟨14,.data⟩ (by simp) rfl
   have l12:=he ⟨12,.chain⟩ (by simp) rfl
   have f11:slot a 11=.pointer (some ⟨gd,0,none⟩):=(hF 11 (by decide)).trans g11
   obtain ⟨hB,hD⟩:=a3 hL
   exact od_st f11 (hv 14 (by decide) rfl l14:slot a 59=DV vc vs vg vx vk) hD ⟨.bool false,rfl,trivial,trivial,fun _=>Or.inl (Or.inl l12),fun _=>Or.inl (Or.inl l12),fun h=>absurd (Or.inr rfl) h,fun _=>⟨w,hB,rfl⟩⟩
 ·intro L a w hL hM hsz hdf hF hv
  obtain ⟨a1,a2,a3,a4⟩:=hM
  have h60:slot a 60=.int .i64 F:=hv 15 (by decide) rfl
  refine BigFrame.wpList_want rfl fun K hK=>yOa h60 (hK _ _ ?_)
  clear K hK
  refine hQ _ _ (zVf (by omega)) (by simp only [zJo];exact hsz) hdf (fun t ht=>?_) (by obtain ⟨w0,b1,b2⟩:=a4 (hL 16 (by decide));exact ⟨w0,b1,b2,by rw [b2];exact (hD0.next b1).put rfl⟩)
  rw [zOb (show 12≠t from ht 17 (by decide))]
  exact hF t fun i hi=>by
   have hor:i=0∨i=1∨i=2∨i=3∨i=4∨i=5∨i=6∨i=7∨i=8∨i=9∨i=10∨i=11∨i=12∨i=13∨i=14∨i=15∨i=16:=by omega
   rcases hor with rfl|rfl|rfl|rfl|rfl|rfl|rfl|rfl|rfl|rfl|rfl|rfl|rfl|rfl|rfl|rfl|rfl
   ·exact ht 0 (by decide)
   ·exact ht 1 (by decide)
   ·exact ht 2 (by decide)
   ·exact ht 3 (by decide)
   ·exact ht 4 (by decide)
   ·exact ht 5 (by decide)
   ·exact ht 6 (by decide)
   ·exact ht 7 (by decide)
   ·exact ht 8 (by decide)
   ·exact ht 9 (by decide)
   ·exact ht 10 (by decide)
   ·exact ht 11 (by decide)
   ·exact ht 12 (by decide)
   ·exact ht 13 (by decide)
   ·exact ht 14 (by decide)
   ·exact ht 15 (by decide)
   ·exact ht 16 (by decide)
end
section
attribute [local irreducible] W4 Nt NT NV
section
variable (n d c:Int)(s g:Bool)(l:List UInt8)(x:Int)(w:World)
theorem rmx_a (c17:∀ W,CQ 17 #[.int .i64 n] W (.bool false)) :
  CB 14 #[.int .i64 n,.int .i64 d,PV c s g l x] w (.tuple #[Z4,.int .i64 0,.int .i64 1]):=by
 have hsm:=zAa
 unfold PV
 go_enter Tryz.func14,Tryz.ntmps14
 go_wp2_with (go_at_call 17;refine (c17 _).mono ?_;rintro r w1 ⟨rfl,rfl⟩)
 exact bodyPost_ret (v:=.tuple #[Z4,.int .i64 0,.int .i64 1]) (by simp only [results,Tryz.results14];go_simp) rfl ⟨rfl,bgo⟩
variable (c17:∀ W,CQ 17 #[.int .i64 n] W (.bool true))
include c17
theorem rmx_d (c18:∀ W,CQ 18 #[.int .i64 d] W (.bool false)) :
  CB 14 #[.int .i64 n,.int .i64 d,PV c s g l x] w (.tuple #[Z4,.int .i64 0,.int .i64 1]):=by
 have hsm:=zAa
 unfold PV
 go_enter Tryz.func14,Tryz.ntmps14
 go_wp2_with (first
  | (go_at_call 17;refine (c17 _).mono ?_;rintro r w1 ⟨rfl,rfl⟩)
  | (go_at_call 18;refine (c18 _).mono ?_;rintro r w1 ⟨rfl,rfl⟩))
 exact bodyPost_ret (v:=.tuple #[Z4,.int .i64 0,.int .i64 1]) (by simp only [results,Tryz.results14];go_simp) rfl ⟨rfl,bgo⟩
variable (c18:∀ W,CQ 18 #[.int .i64 d] W (.bool true))
include c18
theorem rmx_f (c31:∀ W,Below w.heap.size w W->CB 40 #[PV c s g l x] W (.bool false)) :
  CB 14 #[.int .i64 n,.int .i64 d,PV c s g l x] w (.tuple #[Z4,.int .i64 0,.int .i64 2]):=by
 have hsm:=zAa
 unfold PV at *
 go_enter Tryz.func14,Tryz.ntmps14
 go_wp2_with (first
  | (go_at_call 17;refine (c17 _).mono ?_;rintro r w1 ⟨rfl,rfl⟩)
  | (go_at_call 18;refine (c18 _).mono ?_;rintro r w1 ⟨rfl,rfl⟩)
  | (go_at_call 40;refine wk w (c31 _ bgo) ?_;intro w1 hb1 _ _ _ _ hA1 _;obtain ⟨_,_⟩:=zf hb1 (w.heap.size+1);clear hb1))
 exact bodyPost_ret (v:=.tuple #[Z4,.int .i64 0,.int .i64 2]) (by simp only [results,Tryz.results14];go_simp) rfl ⟨rfl,bgo⟩
variable (c31:∀ W,Below w.heap.size w W->CB 40 #[PV c s g l x] W (.bool true))
 (i0 i2 i3 i4 i5 i6 i7 pay:Int) (nm:ByteArray) (i9:Bool) (R:Nat) (E:Int)
 (c19:∀ W,CB 19 #[.int .i64 n] W (.tuple #[.agg #[.int .i64 i0,.string nm,.int .i64 i2,.int .i64 i3,.int .i64 i4,.int .i64 i5,.int .i64 i6,.int .i64 i7,.int .i64 pay,.bool i9],.int .i64 0]))
include c31 c19
theorem rmx_2 (hc:c=2)
  (c27:∀ W,CB 27 #[.int .i64 n,.agg #[.int .i64 2,.bool s,.bool g,.int .i64 0,.int .u64 0,.int .u64 0,.int .u64 0,.int .u64 0]] W (.tuple #[A4 R,.int .i64 E])) :
  CB 14 #[.int .i64 n,.int .i64 d,PV c s g l x] w (.tuple #[A4 R,.int .i64 0,.int .i64 0]):=by
 subst hc
 have hsm:=zAa
 unfold PV at *
 go_enter Tryz.func14,Tryz.ntmps14
 go_wp2_with (first
  | (go_at_call 17;refine (c17 _).mono ?_;rintro r w1 ⟨rfl,rfl⟩)
  | (go_at_call 18;refine (c18 _).mono ?_;rintro r w1 ⟨rfl,rfl⟩)
  | (go_at_call 40;refine wk w (c31 _ bgo) ?_;intro w0 hb0 _ _ _ _ hA0 _;obtain ⟨_,_⟩:=zf hb0 (w.heap.size+1);clear hb0)
  | (go_at_call 19;refine wk w (c19 _) ?_;intro w1 hb1 _ _ _ _ hA1 _;obtain ⟨_,_⟩:=zf hb1 (w.heap.size+1);clear hb1)
  | (go_at_call 27;refine wk w (c27 _) ?_;intro w2 hb2 _ _ _ _ hA2 _;obtain ⟨_,_,_,_,_,_⟩:=zh hb2 (w.heap.size+1) w1.heap.size (w1.heap.size+1);clear hb2))
 exact bodyPost_ret (v:=.tuple #[A4 R,.int .i64 0,.int .i64 0]) (by simp only [results,Tryz.results14];go_simp) rfl ⟨rfl,bgo⟩
theorem rmx_3g (hc:c=3)(N P:Nat)(sg:Int)(hsg:0<=sg)
  (c23:∀ W,CE 23 #[.string (B l)] W (NT 1001 N))
  (c25:∀ W,CE 25 #[.int .u64 10,.int .i64 pay] W (NT 1001 P))
  (c33:∀ W v v',NT 1001 N v W->NT 1001 P v' W->CB 42 #[v,v'] W (.int .i64 sg))
  (c22:∀ W,CB 22 #[.slice none 0 0] W Z4)
  (c27:∀ W,CB 27 #[.int .i64 n,.agg #[.int .i64 3,.bool s,.bool g,.int .i64 0,.int .u64 0,.int .u64 0,.int .u64 0,.int .u64 0]] W (.tuple #[A4 R,.int .i64 E])) :
  CB 14 #[.int .i64 n,.int .i64 d,PV c s g l x] w (.tuple #[A4 R,.int .i64 0,.int .i64 0]):=by
 subst hc
 have hsm:=zAa
 unfold PV at *
 go_enter Tryz.func14,Tryz.ntmps14
 go_wp2_with (first
  | (go_at_call 17;refine (c17 _).mono ?_;rintro r w1 ⟨rfl,rfl⟩)
  | (go_at_call 18;refine (c18 _).mono ?_;rintro r w1 ⟨rfl,rfl⟩)
  | (go_at_call 40;refine wk w (c31 _ bgo) ?_;intro w0 hb0 _ _ _ _ hA0 _;obtain ⟨_,_⟩:=zf hb0 (w.heap.size+1);clear hb0)
  | (go_at_call 19;refine wk w (c19 _) ?_;intro w1 hb1 _ _ _ _ hA1 _;obtain ⟨_,_⟩:=zf hb1 (w.heap.size+1);clear hb1)
  | (go_at_call 23;refine (c23 _).mono ?_;rintro r w3 ⟨v3,rfl,hn3,hb3⟩;obtain ⟨_,_,_,_,hA3,_⟩:=wz w hb3;obtain ⟨_,_,_,_,_,_⟩:=zh hb3 (w.heap.size+1) w1.heap.size (w1.heap.size+1);clear hb3)
  | (go_at_call 25;refine (c25 _).mono ?_;rintro r w4 ⟨v4,rfl,hn4,hb4⟩;replace hn3:=hn3.next hb4;obtain ⟨_,_,_,_,hA4,_⟩:=wz w hb4;obtain ⟨_,_,_,_,_,_⟩:=zh hb4 (w.heap.size+1) w1.heap.size (w1.heap.size+1);clear hb4)
  | (go_at_call 42;refine (c33 _ _ _ hn3 hn4).mono ?_;rintro r w5 ⟨rfl,hb5⟩;have hn5:=hn3.next hb5;obtain ⟨_,_,_,_,hA5,_⟩:=wz w hb5;obtain ⟨_,_,_,_,_,_⟩:=zh hb5 (w.heap.size+1) w1.heap.size (w1.heap.size+1);clear hb5)
  | (go_at_call 22;refine wk w (c22 _) ?_;intro w6 hb6 _ _ _ _ hA6 _;obtain ⟨_,_,_,_,_,_⟩:=zh hb6 (w.heap.size+1) w1.heap.size (w1.heap.size+1);clear hb6)
  | (go_at_call 27;refine wk w (c27 _) ?_;intro w2 hb2 _ _ _ _ hA2 _;obtain ⟨_,_,_,_,_,_⟩:=zh hb2 (w.heap.size+1) w1.heap.size (w1.heap.size+1);clear hb2))
 exact bodyPost_ret (v:=.tuple #[A4 R,.int .i64 0,.int .i64 0]) (by simp only [results,Tryz.results14];go_simp) rfl ⟨rfl,bgo⟩
theorem rmx_3l (hc:c=3)(N P:Nat)(sg:Int)(hsg:¬ 0<=sg)
  (c23:∀ W,CE 23 #[.string (B l)] W (NT 1001 N))
  (c25:∀ W,CE 25 #[.int .u64 10,.int .i64 pay] W (NT 1001 P))
  (c33:∀ W v v',NT 1001 N v W->NT 1001 P v' W->CB 42 #[v,v'] W (.int .i64 sg))
  (c22:∀ W v,NT 1001 N v W->CB 22 #[v] W (A4 N))
  (c27:∀ W,CB 27 #[.int .i64 n,.agg #[.int .i64 3,.bool s,.bool g,.int .i64 0,.int .u64 (W4 N 0),.int .u64 (W4 N 1),.int .u64 (W4 N 2),.int .u64 (W4 N 3)]] W (.tuple #[A4 R,.int .i64 E])) :
  CB 14 #[.int .i64 n,.int .i64 d,PV c s g l x] w (.tuple #[A4 R,.int .i64 0,.int .i64 0]):=by
 subst hc
 have hsm:=zAa
 unfold PV at *
 go_enter Tryz.func14,Tryz.ntmps14
 go_wp2_with (first
  | (go_at_call 17;refine (c17 _).mono ?_;rintro r w1 ⟨rfl,rfl⟩)
  | (go_at_call 18;refine (c18 _).mono ?_;rintro r w1 ⟨rfl,rfl⟩)
  | (go_at_call 40;refine wk w (c31 _ bgo) ?_;intro w0 hb0 _ _ _ _ hA0 _;obtain ⟨_,_⟩:=zf hb0 (w.heap.size+1);clear hb0)
  | (go_at_call 19;refine wk w (c19 _) ?_;intro w1 hb1 _ _ _ _ hA1 _;obtain ⟨_,_⟩:=zf hb1 (w.heap.size+1);clear hb1)
  | (go_at_call 23;refine (c23 _).mono ?_;rintro r w3 ⟨v3,rfl,hn3,hb3⟩;obtain ⟨_,_,_,_,hA3,_⟩:=wz w hb3;obtain ⟨_,_,_,_,_,_⟩:=zh hb3 (w.heap.size+1) w1.heap.size (w1.heap.size+1);clear hb3)
  | (go_at_call 25;refine (c25 _).mono ?_;rintro r w4 ⟨v4,rfl,hn4,hb4⟩;replace hn3:=hn3.next hb4;obtain ⟨_,_,_,_,hA4,_⟩:=wz w hb4;obtain ⟨_,_,_,_,_,_⟩:=zh hb4 (w.heap.size+1) w1.heap.size (w1.heap.size+1);clear hb4)
  | (go_at_call 42;refine (c33 _ _ _ hn3 hn4).mono ?_;rintro r w5 ⟨rfl,hb5⟩;have hn5:=hn3.next hb5;obtain ⟨_,_,_,_,hA5,_⟩:=wz w hb5;obtain ⟨_,_,_,_,_,_⟩:=zh hb5 (w.heap.size+1) w1.heap.size (w1.heap.size+1);clear hb5)
  | (go_at_call 22;refine wk w (c22 _ _ hn5) ?_;intro w6 hb6 _ _ _ _ hA6 _;obtain ⟨_,_,_,_,_,_⟩:=zh hb6 (w.heap.size+1) w1.heap.size (w1.heap.size+1);clear hb6)
  | (go_at_call 27;refine wk w (c27 _) ?_;intro w2 hb2 _ _ _ _ hA2 _;obtain ⟨_,_,_,_,_,_⟩:=zh hb2 (w.heap.size+1) w1.heap.size (w1.heap.size+1);clear hb2))
 exact bodyPost_ret (v:=.tuple #[A4 R,.int .i64 0,.int .i64 0]) (by simp only [results,Tryz.results14];go_simp) rfl ⟨rfl,bgo⟩
theorem rmx_1 (hc:c=1)(N:Nat)(vc vx F:Int)(vs vg:Bool)(vk:Nat)
  (c23:∀ W,CE 23 #[.string (B l)] W (NT 1001 N))
  (c32:∀ W v v',NT 1001 N v W->NT 1 1 v' W->CB 41 #[.int .i64 n,.int .i64 d,.bool s,v,v',.int .i64 x,.int .i64 x] W (.tuple #[DV vc vs vg vx vk,.int .i64 F]))
  (c27:∀ W,CB 27 #[.int .i64 n,DV vc vs vg vx vk] W (.tuple #[A4 R,.int .i64 E])) :
  CB 14 #[.int .i64 n,.int .i64 d,PV c s g l x] w (.tuple #[A4 R,.int .i64 F,.int .i64 0]):=by
 subst hc
 have hsm:=zAa
 unfold PV at *
 go_enter Tryz.func14,Tryz.ntmps14
 go_upto_region 10 with (first
  | (go_at_call 17;refine (c17 _).mono ?_;rintro r w1 ⟨rfl,rfl⟩)
  | (go_at_call 18;refine (c18 _).mono ?_;rintro r w1 ⟨rfl,rfl⟩)
  | (go_at_call 40;refine wk w (c31 _ bgo) ?_;intro w0 hb0 _ _ _ _ hA0 _;obtain ⟨_,_⟩:=zf hb0 (w.heap.size+1);clear hb0)
  | (go_at_call 19;refine wk w (c19 _) ?_;intro w1 hb1 _ _ _ _ hA1 _;obtain ⟨_,_⟩:=zf hb1 (w.heap.size+1);clear hb1)
  | fail)
 refine regK10 (g5:=w.heap.size) (gd:=w1.heap.size+1) (c0:=#[.int .i64 1,.bool s,.bool g,.int .i64 0,.int .u64 0,.int .u64 0,.int .u64 0,.int .u64 0]) rfl rfl rfl rfl rfl (by simp;omega) (by go_simp) (by go_simp) (by go_simp) ⟨by simp,rfl,fun i hi=>?_,fun i=>by go_simp⟩ c23 c32 ?_
 ·have hor:i=0∨i=1∨i=2∨i=3∨i=4∨i=5∨i=6∨i=7:=by omega
  rcases hor with rfl|rfl|rfl|rfl|rfl|rfl|rfl|rfl<;>go_simp
 intro a' w3 e12 hsz hdf hFr hw
 obtain ⟨w4,hb4,rfl,hD⟩:=hw
 have ha:=zTs zZn 18 rfl hsz hdf hFr
 rw [ha]
 simp only [zZn,List.foldl_cons,List.foldl_nil,Act.put,List.setIfInBounds_toArray,List.set_cons_succ,List.set_cons_zero,e12]
 generalize slot a' 46=s46
 generalize slot a' 47=s47
 generalize slot a' 48=s48
 generalize slot a' 49=s49
 generalize slot a' 50=s50
 generalize slot a' 51=s51
 generalize slot a' 52=s52
 generalize slot a' 53=s53
 generalize slot a' 54=s54
 generalize slot a' 55=s55
 generalize slot a' 56=s56
 generalize slot a' 57=s57
 generalize slot a' 58=s58
 generalize slot a' 45=s45
 generalize slot a' 59=s59
 generalize slot a' 60=s60
 generalize slot a' 81=s81
 clear ha e12 hsz hdf hFr
 obtain ⟨_,_,_,_,hA4,_⟩:=wz w hb4;obtain ⟨_,_,_,_,_,_⟩:=zh hb4 (w.heap.size+1) w1.heap.size (w1.heap.size+1);clear hb4
 have hA5:Below w.heap.size w (w4.setCells (w1.heap.size+1) 0 (dvc vc vs vg vx vk).toList):=zEd (by omega) _ _ _ hA4
 have r0:(w4.setCells (w1.heap.size+1) 0 (dvc vc vs vg vx vk).toList).cell? ⟨w.heap.size+1,0,none⟩=some (.int .u64 0):=(World.cell?_setCells_out (w1.heap.size+1) _ 0 w4 ⟨w.heap.size+1,0,none⟩ (fun e=>absurd e (by show ¬ w.heap.size+1=w1.heap.size+1;omega))).trans (by go_simp)
 have r1:(w4.setCells (w1.heap.size+1) 0 (dvc vc vs vg vx vk).toList).cell? ⟨w.heap.size+1,1,none⟩=some (.int .u64 0):=(World.cell?_setCells_out (w1.heap.size+1) _ 0 w4 ⟨w.heap.size+1,1,none⟩ (fun e=>absurd e (by show ¬ w.heap.size+1=w1.heap.size+1;omega))).trans (by go_simp)
 have r2:(w4.setCells (w1.heap.size+1) 0 (dvc vc vs vg vx vk).toList).cell? ⟨w.heap.size+1,2,none⟩=some (.int .u64 0):=(World.cell?_setCells_out (w1.heap.size+1) _ 0 w4 ⟨w.heap.size+1,2,none⟩ (fun e=>absurd e (by show ¬ w.heap.size+1=w1.heap.size+1;omega))).trans (by go_simp)
 have r3:(w4.setCells (w1.heap.size+1) 0 (dvc vc vs vg vx vk).toList).cell? ⟨w.heap.size+1,3,none⟩=some (.int .u64 0):=(World.cell?_setCells_out (w1.heap.size+1) _ 0 w4 ⟨w.heap.size+1,3,none⟩ (fun e=>absurd e (by show ¬ w.heap.size+1=w1.heap.size+1;omega))).trans (by go_simp)
 have rf:∀ i,(w4.setCells (w1.heap.size+1) 0 (dvc vc vs vg vx vk).toList).frozen? ⟨w.heap.size+1,i,none⟩=false:=fun i=>by rw [World.frozen?_setCells];go_simp
 generalize w4.setCells (w1.heap.size+1) 0 (dvc vc vs vg vx vk).toList=w5 at *
 have hl5:=hD.1
 have hl6:w.heap.size+1<w5.heap.size:=by omega
 obtain ⟨g0,g1,g2,g3,g4,g5,g6,g7⟩:=(zF6 hD)
 clear hD
 go_wp2_with (go_at_call 27;refine (c27 _).mono ?_;rintro r w6 ⟨rfl,hb6⟩;obtain ⟨_,_,_,_,hA6,_⟩:=wz w hb6 (w.heap.size+1);obtain ⟨_,_⟩:=zf hb6 (w1.heap.size+1);clear hb6)
 exact bodyPost_ret (v:=.tuple #[A4 R,.int .i64 F,.int .i64 0]) (by simp only [results,Tryz.results14];go_simp) rfl ⟨rfl,bgo⟩
end
end
theorem rr16 {n d:Int}(hn:zRd n)(hd:knB d)(s:Bool){N:Nat}(x:Int)(hb:bl N<=25600){v v':Value}{w:World}(h:NT 1001 N v w)(h':NT 1 1 v' w) :
  CB 41 #[.int .i64 n,.int .i64 d,.bool s,v,v',.int .i64 x,.int .i64 x] w (.tuple #[(rqD n d s N 1 x x).v,.int .i64 (rqF n d s N 1 x)]):=by
 have b1:bl 1<=1:=bl_le.2 (by decide)
 have e:rqE n d N 1=0:=by
  unfold rqE
  rw [if_pos ⟨hn,hd,by decide⟩,if_neg (by omega)]
 unfold rqD rqF
 rw [if_pos e,if_pos e]
 by_cases hN:N=0
 ·rw [if_pos hN,if_pos hN]
  obtain ⟨gv,kv,cv,rfl,hkv,hzv⟩:=h.zero
  have hk0:kv=0:=hzv.2 hN
  subst hk0
  have cO:=fun W=>zVj hn W
  rw [zR7 hn] at cO
  have hj:=zWx (zKd n)
  have:=rnd_z n _ _ (3*((fD n).j:Int)+1) _ _ _ _ _ d s v' x x w (by omega) (by omega) hj.2.2.1 hj.2.2.2.1 hj.1 hj.2.1 cO _ _ rfl rfl gv cv
  rw [show (Dat.mk 1 s false (min (max x (fD n).l) (fD n).m) 0).v=.agg #[.int .i64 1,.bool s,.bool false,.int .i64 (min (max x (fD n).l) (fD n).m),.int .u64 0,.int .u64 0,.int .u64 0,.int .u64 0] by unfold Dat.v DV;simp only [zPa]]
  exact this
 ·rw [if_neg hN,if_neg hN]
  exact zV2 hn hd s x x (Nat.pos_of_ne_zero hN) (by decide) (h.fitU (by omega)) (h'.fitU (by omega)) (zAr (Nat.mul_pos (Nat.pos_of_ne_zero hN) (zBb _)) (Nat.mul_pos (by decide) (zBb _)))
noncomputable def kmE (n d:Int)(p:Prt):Int:=open Classical in if zRd n/\knB d then (if gdP p then 0 else 2) else 1
noncomputable def kmV (n d:Int)(p:Prt):Nat:=if kmE n d p=0 then vPV n (dmD n d p) else 0
noncomputable def kmF (n d:Int)(p:Prt):Int:=if kmE n d p=0 then dmF n d p else 0
theorem zEz {p:Prt}(h:gdP p):p.dig.all dg=true/\p.dig.length<=4000:=by
 refine ⟨zPg h.1,(zUm h).1⟩
theorem zA0 {l:List UInt8}(h:l.all dg=true)(hl:l.length<=4000):bl (dV l)<=16001:=by
 have h1:=(zPq h).1
 have h2:=zKf l.length
 have h3:=bl_le.1 h2
 have h4:bl (dV l)<=4*l.length+1:=bl_le.2 (Nat.lt_trans h1 h3)
 omega
theorem rmk16 (n d:Int)(p:Prt)(w:World)(hl:p.dig.length<100000)(he:-9223372036854775808<=p.ex/\p.ex<=9223372036854775807)(hT10:Tb10 w) :
  CB 14 #[.int .i64 n,.int .i64 d,p.v] w (.tuple #[A4 (kmV n d p),.int .i64 (kmF n d p),.int .i64 (kmE n d p)]):=by
 have c17:=fun W=>zAd n W
 have c18:=fun W=>zKr d W
 have hZ:A4 0=Z4:=by unfold A4;simp only [zPa]
 unfold kmV kmF
 by_cases h1:zRd n
 ·rw [decide_eq_true h1] at c17
  by_cases h2:knB d
  ·rw [decide_eq_true h2] at c18
   by_cases h3:gdP p
   ·have e:kmE n d p=0:=by unfold kmE;rw [if_pos ⟨h1,h2⟩,if_pos h3]
    rw [if_pos e,if_pos e,e]
    have c31:=fun W (hb:Below w.heap.size w W)=>good_y p W hl he (hT10.next hb) h3
    obtain ⟨g1,g2⟩:=zEz h3
    have hbl:=zA0 g1 g2
    have hi:=yPc (d:=d) h1 h2 h3 (by omega)
    have hk:=vI_k (zKd n) hi
    have c19:=fun W=>zVj h1 W
    have c23:=fun W=>yTa p.dig W g1 g2
    have c27:=fun W=>rpk14 n (dmD n d p) W hk
    obtain ⟨m0,m1,l0,l1,lm,j0,j1⟩:=zWx (zKd n)
    obtain ⟨c,s,g,l,x⟩:=p
    obtain ⟨hg,hp⟩:=h3
    unfold dmF
    unfold dmD at c27 ⊢
    dsimp only at *
    rcases hp with ⟨q1,q2,q3,q4⟩|⟨q1,q2,q3,q4⟩|⟨q1,q2,q3⟩
    ·skip
     rw [if_pos q1] at c27 ⊢
     rw [if_pos q1]
     exact rmx_1 n d c s g l x w c17 c18 c31 _ _ _ _ _ _ _ _ _ _ _ _ c19 q1 (dV l) _ _ _ _ _ _ c23 (fun W v v' hv hv'=>rr16 h1 h2 s x (by omega) hv hv') c27
    ·skip
     rw [if_neg (show ¬ c=1 by rw [q1];decide),if_neg (show ¬ c=3 by rw [q1];decide)] at c27 ⊢
     rw [if_neg (show ¬ c=1 by rw [q1];decide)]
     subst q1
     unfold Dat.v DV at c27
     simp only [zPa] at c27
     exact rmx_2 n d 2 s g l x w c17 c18 c31 _ _ _ _ _ _ _ _ _ _ _ _ c19 rfl c27
    ·skip
     rw [if_neg (show ¬ c=1 by rw [q1];decide),if_pos q1] at c27 ⊢
     rw [if_neg (show ¬ c=1 by rw [q1];decide)]
     have c25:∀ W,CE 25 #[.int .u64 10,.int .i64 (3*((fD n).j:Int))] W (NT 1001 (10^(3*(fD n).j))):=fun W=>by
      have:=zLw 10 (3*(fD n).j) W (by decide) (by decide) (by omega)
      rw [show ((3*(fD n).j:Nat):Int)=3*((fD n).j:Int) by omega] at this
      exact this.mono fun r w' ⟨v,e1,e2,e3⟩=>⟨v,e1,e2.more (by omega),e3⟩
     have c33:=fun W v v' (hv:NT 1001 (dV l) v W) (hv':NT 1001 (10^(3*(fD n).j)) v' W)=>(zWj (by decide) (by decide) hv.nv hv'.nv).mono (fun e w' ⟨e1,e2⟩=>(⟨e1,e2▸Below.refl _ _⟩:_/\Below W.heap.size W w'))
     by_cases h10:10^(3*(fD n).j)<=dV l
     ·rw [if_pos h10] at c27 ⊢
      subst q1
      unfold Dat.v DV at c27
      simp only [zPa] at c27
      exact rmx_3g n d 3 s g l x w c17 c18 c31 _ _ _ _ _ _ _ _ _ _ _ _ c19 rfl (dV l) _ _ (zPv h10) c23 c25 c33 (fun W=>by have q:=zA6 W;rw [hZ] at q;exact q) c27
     ·rw [if_neg h10] at c27 ⊢
      subst q1
      exact rmx_3l n d 3 s g l x w c17 c18 c31 _ _ _ _ _ _ _ _ _ _ _ _ c19 rfl (dV l) _ _ (zOv h10) c23 c25 c33 (fun W v hv=>zSc hv.nv) c27
   ·have e:kmE n d p=2:=by unfold kmE;rw [if_pos ⟨h1,h2⟩,if_neg h3]
    rw [if_neg (by omega),if_neg (by omega),e,hZ]
    have c31:=fun W (hb:Below w.heap.size w W)=>good_n p W hl he (hT10.next hb) h3
    obtain ⟨c,s,g,l,x⟩:=p
    exact rmx_f n d c s g l x w c17 c18 c31
  ·rw [decide_eq_false h2] at c18
   have e:kmE n d p=1:=if_neg fun h=>h2 h.2
   rw [if_neg (by omega),if_neg (by omega),e,hZ]
   obtain ⟨c,s,g,l,x⟩:=p
   exact rmx_d n d c s g l x w c17 c18
 ·rw [decide_eq_false h1] at c17
  have e:kmE n d p=1:=if_neg fun h=>h1 h.1
  rw [if_neg (by omega),if_neg (by omega),e,hZ]
  obtain ⟨c,s,g,l,x⟩:=p
  exact rmx_a n d c s g l x w c17
section
attribute [local irreducible] W4
section
variable (n d:Int)(nm:ByteArray)(wd P ex l m pa b:Int)(dn:Bool)(w:World)(hT:Tab w)
include hT
theorem dck_e (i0 E:Int)(hE:(E != 0)=true)
  (c52:∀ W,Tab W->CB 70 #[.int .i64 n] W (.tuple #[.agg #[.int .i64 i0,.string nm,.int .i64 b,.int .i64 wd,.int .i64 P,.int .i64 ex,.int .i64 l,.int .i64 m,.int .i64 pa,.bool dn],.int .i64 E])) :
  CB 34 #[.int .i64 n,.int .i64 d] w (.tuple #[IZ,.int .i64 1]):=by
 have hsm:=zAa
 go_enter Tryz.func34,Tryz.ntmps34
 go_wp2_with (first
  | (go_at_call 70;refine wk w (c52 _ (hT.go bgo)) ?_;intro w1 hb1 _ _ _ _ hA1 _;clear hb1))
 exact bodyPost_ret (v:=.tuple #[IZ,.int .i64 1]) (by simp only [results,Tryz.results34];go_simp) rfl ⟨rfl,bgo⟩
theorem dck_b (i0:Int)(hE:(b != 10)=true)
  (c52:∀ W,Tab W->CB 70 #[.int .i64 n] W (.tuple #[.agg #[.int .i64 i0,.string nm,.int .i64 b,.int .i64 wd,.int .i64 P,.int .i64 ex,.int .i64 l,.int .i64 m,.int .i64 pa,.bool dn],.int .i64 0])) :
  CB 34 #[.int .i64 n,.int .i64 d] w (.tuple #[IZ,.int .i64 1]):=by
 have hsm:=zAa
 go_enter Tryz.func34,Tryz.ntmps34
 go_wp2_with (first
  | (go_at_call 70;refine wk w (c52 _ (hT.go bgo)) ?_;intro w1 hb1 _ _ _ _ hA1 _;clear hb1))
 exact bodyPost_ret (v:=.tuple #[IZ,.int .i64 1]) (by simp only [results,Tryz.results34];go_simp) rfl ⟨rfl,bgo⟩
variable (c52:∀ W,Tab W->CB 70 #[.int .i64 n] W (.tuple #[zAb n nm wd P ex l m pa dn,.int .i64 0]))
include c52
theorem dck_d (hd:decide (knB d)=false) :
  CB 34 #[.int .i64 n,.int .i64 d] w (.tuple #[IZ,.int .i64 1]):=by
 have hsm:=zAa
 have c53:=zSd d
 rw [hd] at c53
 go_enter Tryz.func34,Tryz.ntmps34
 go_wp2_with (first
  | (go_at_call 70;refine wk w (c52 _ (hT.go bgo)) ?_;intro w1 hb1 _ _ _ _ hA1 _;clear hb1)
  | (go_at_call 71;refine (c53 _).mono ?_;rintro r w2 ⟨rfl,rfl⟩))
 exact bodyPost_ret (v:=.tuple #[IZ,.int .i64 1]) (by simp only [results,Tryz.results34];go_simp) rfl ⟨rfl,bgo⟩
theorem dck_k (hd:decide (knB d)=true) :
  CB 34 #[.int .i64 n,.int .i64 d] w (.tuple #[zAb n nm wd P ex l m pa dn,.int .i64 0]):=by
 have hsm:=zAa
 have c53:=zSd d
 rw [hd] at c53
 go_enter Tryz.func34,Tryz.ntmps34
 go_wp2_with (first
  | (go_at_call 70;refine wk w (c52 _ (hT.go bgo)) ?_;intro w1 hb1 _ _ _ _ hA1 _;clear hb1)
  | (go_at_call 71;refine (c53 _).mono ?_;rintro r w2 ⟨rfl,rfl⟩))
 exact bodyPost_ret (v:=.tuple #[zAb n nm wd P ex l m pa dn,.int .i64 0]) (by simp only [results,Tryz.results34];go_simp) rfl ⟨rfl,bgo⟩
end
theorem zI0 {n d:Int}{w:World}(hT:Tab w)(h:¬ (zRd n/\knB d)):CB 34 #[.int .i64 n,.int .i64 d] w (.tuple #[IZ,.int .i64 1]):=by
 by_cases h1:zRd n
 ·exact dck_d n d _ _ _ _ _ _ _ _ w hT (fun W hT'=>zQg h1 W hT') (decide_eq_false fun h2=>h ⟨h1,h2⟩)
 ·by_cases hok:okN n
  ·refine dck_b n d (zJd n) (zLb n) (zFf n) (zWi n) (zNd n) (zOg n) (zMo n) (zTf n) (zEc n) w hT (zK1 n) (zRr hok h1) (fun W hT'=>?_)
   have c:=zNf n W hT'
   rw [show zQf n=0 from if_pos hok] at c
   exact c
  ·refine dck_e n d (zJd n) (zLb n) (zFf n) (zWi n) (zNd n) (zOg n) (zMo n) (zTf n) (zEc n) w hT (zK1 n) 1 (by decide) (fun W hT'=>?_)
   have c:=zNf n W hT'
   rw [show zQf n=1 from if_neg hok] at c
   exact c
theorem zMs {n d:Int}{w:World}(hT:Tab w)(h1:zRd n)(h2:knB d):CB 34 #[.int .i64 n,.int .i64 d] w (.tuple #[zAb n (zJd n) (zLb n) (3*((fD n).j:Int)+1) (zWi n) (fD n).l (fD n).m (3*((fD n).j:Int)) (zEc n),.int .i64 0]):=by
 obtain ⟨hok,q1,q2,q3,q4,q5,q6,q7,q8⟩:=zMe h1
 have c:=dck_k n d _ _ _ _ _ _ _ _ w hT (fun W hT'=>zQg h1 W hT') (decide_eq_true h2)
 rw [q7] at c
 exact c
theorem zRo (l:List UInt8)(w:World)(hd:l.all dg=true)(hl:l.length<=4000):CE 82 #[.string (B l)] w (Nz 251 (dV l)):=by
 have h48:(48::l).all dg=true:=by rw [List.all_cons,hd];rfl
 have c100:=zY3 (B (48::l)) w (by unfold zHe;rw [zL5 h48];simp [zCa]) (by rw [zCa,List.length_cons];omega)
 rw [zW3] at c100
 obtain ⟨hlt,he⟩:=zPq hd
 rw [← he] at c100
 have hbl:bl (dV l)<=64*251:=bl_10 hlt (by omega)
 have eB:(⟨#[48]⟩:ByteArray)++B l=B (48::l):=zTa [48] l
 have hsz:(B l).size<=4000:=by rw [zCa];exact hl
 have hs2:((B (48::l)).size:Int)<=9223372036854775807:=by rw [zCa,List.length_cons];omega
 generalize dV l=A at *
 rw [← eB] at c100 hs2
 clear hd h48 hlt he eB
 go_enter Tryz.func82,Tryz.ntmps82
 go_wp2_with (go_at_call 127;refine c100.mono ?_;rintro e w1 ⟨o,k,cap,z,rfl,hk,hN,hv,hs,hB⟩)
 go_ret
 exact ⟨_,rfl,nz_of hN hv hs hbl,hB⟩
attribute [local irreducible] Nz Nt
section
variable (c:Int)(s g:Bool)(x:Int)(k:Nat)(w:World)(T:List UInt8)
theorem dwd_0 (h0:k=0)(c31:∀ W,Below w.heap.size w W->CB 37 #[.agg #[.int .i64 c,.bool s,.bool g,.string ⟨#[]⟩,.int .i64 0]] W (.tuple #[.string (B T),.int .i64 0])) :
  CB 29 #[DV c s g x k] w (.string (B T)):=by
 subst h0
 have e1:=zE5 0 0 0 0 0 0 0 0
 rw [decide_eq_true ⟨rfl,rfl,rfl,rfl⟩] at e1
 have hsm:=zAa
 unfold DV
 simp only [zPa]
 go_enter Tryz.func29,Tryz.ntmps29
 go_wp2_with (first
  | (go_at_call 37;refine wk w (c31 _ bgo) ?_;intro w1 hb1 _ _ _ _ hA1 _;clear hb1))
 exact bodyPost_ret (v:=.string (B T)) (by simp only [results,Tryz.results29];go_simp) rfl ⟨rfl,bgo⟩
theorem dwd_k (D:List UInt8)(hk:k<2^256)(h0:k≠0)
  (c20:∀ W v,Nt 4 k v W->CB 30 #[v] W (.tuple #[.string (B D),.int .i64 0]))
  (c31:∀ W,Below w.heap.size w W->CB 37 #[.agg #[.int .i64 c,.bool s,.bool g,.string (B D),.int .i64 0]] W (.tuple #[.string (B T),.int .i64 0])) :
  CB 29 #[DV c s g x k] w (.string (B T)):=by
 have e1:=zE5 (W4 k 0) (W4 k 1) (W4 k 2) (W4 k 3) 0 0 0 0
 rw [yQd hk,decide_eq_false h0] at e1
 clear h0
 have hsm:=zAa
 unfold DV
 go_enter Tryz.func29,Tryz.ntmps29
 go_wp2_with (first
  | (go_at_call 30;refine wk w (c20 _ _ (yVa hk (by first|(simp;done)|(simp;omega)) (by go_simp) (by go_simp) (by go_simp) (by go_simp))) ?_;intro w1 hb1 _ _ _ _ hA1 _;obtain ⟨_,_⟩:=zf hb1 (w.heap.size+1);clear hb1)
  | (go_at_call 37;refine wk w (c31 _ bgo) ?_;intro w2 hb2 _ _ _ _ hA2 _;obtain ⟨_,_⟩:=zf hb2 (w.heap.size+1);clear hb2))
 exact bodyPost_ret (v:=.string (B T)) (by simp only [results,Tryz.results29];go_simp) rfl ⟨rfl,bgo⟩
end
end
section
def vB (f:DF):Nat:=if f.dn then f.w else 0
def LF (f:DF):Value:=LD f.dn ((f.w+5:Nat):Int) (f.t:Int) (vB f:Int) (vQ f) (10^(3*f.j+1)) (10^(3*f.j)) f.l (f.l+3*2^f.w-1)
theorem DF.ok.w12 {f:DF}(h:f.ok):6<=f.w/\f.w<=12/\f.t<=110/\20<=f.t/\f.j<=11:=by
 rcases h with ⟨h1,h2,h3,h4⟩|⟨h1,h2,h3,h4⟩|⟨h1,h2,h3,h4⟩<;>omega
theorem zH6 {f:DF}(h:f.ok):vQ f<2^128:=by
 unfold vQ
 rcases h with ⟨h1,h2,h3,h4⟩|⟨h1,h2,h3,h4⟩|⟨h1,h2,h3,h4⟩<;>rw [h1,h3]<;>cases f.dn<;>decide
theorem zVp {f:DF}(h:f.ok):10^(3*f.j+1)<2^128/\10^(3*f.j)<2^128:=by
 rcases h with ⟨h1,h2,h3,h4⟩|⟨h1,h2,h3,h4⟩|⟨h1,h2,h3,h4⟩<;>rw [h3]<;>decide
theorem zTk (n:Nat):(2:Int)^n=((2^n:Nat):Int):=by simp
theorem zXo (x n:Nat):(x:Int)/2^n=((x/2^n:Nat):Int):=by rw [zTk,Int.natCast_ediv]
theorem zJq (x n:Nat):(x:Int)%2^n=((x%2^n:Nat):Int):=by rw [zTk,Int.natCast_emod]
theorem zQi (x y:Nat):(((x:Nat):Int)==(y:Int))=decide (x=y):=by
 by_cases h:x=y
 ·subst h;simp
 ·rw [decide_eq_false h];simp;omega
section
variable {f:DF}(h:f.ok)
include h
theorem fsplit (B:Nat)(w:World)(hB:B<2^256):CB 100 #[LF f,A4 B] w (.tuple #[.bool (vS f B),.int .u64 (vG f B:Int),A4 (vR f B)]):=by
 have hw:=h.w12
 have hd:B/2^f.t<2^256:=Nat.lt_of_le_of_lt (Nat.div_le_self _ _) hB
 have hle:B/2^f.t*2^f.t<=B:=Nat.div_mul_le_self _ _
 have c3:=fun W=>sub4 B (B/2^f.t*2^f.t) W hB (Nat.lt_of_le_of_lt hle hB)
 rw [zB8 hle,show B-B/2^f.t*2^f.t=vR f B by unfold vR;have:=Nat.div_add_mod' B (2^f.t);omega] at c3
 have c5:=fun W=>zCn (W4 (B/2^f.t) 0) (f.w+5) (zLa _ 0) (by omega) W
 have e5:W4 (B/2^f.t) 0%2^(f.w+5)=(vG f B:Int):=by
  unfold W4 vG
  rw [Nat.mul_zero,Nat.pow_zero,Nat.div_one,zJq]
  congr 1
  rw [show (18446744073709551616:Nat)=2^(f.w+5)*2^(64-(f.w+5)) by rw [← Nat.pow_add,show f.w+5+(64-(f.w+5))=64 by omega]]
  exact Nat.mod_mul_right_mod _ _ _
 rw [e5] at c5
 have e4:(((B/2^f.t/2^(f.w+5)%2:Nat):Int)==1)=vS f B:=by
  unfold vS
  rw [Nat.div_div_eq_div_mul,← Nat.pow_add]
  exact zQi _ 1
 rw [← e4]
 exact zZ8 _ _ _ _ _ _ _ _ _ w B _ _ _ _ _ _ (fun W=>shr4 B f.t W hB (by omega)) (fun W=>shl4 (B/2^f.t) f.t W hd (by omega)) c3 (fun W=>bit4 (B/2^f.t) (f.w+5) W hd (by omega)) c5
theorem fkind (G:Nat)(w:World)(hG:G<2^(f.w+5)):CB 101 #[LF f,.int .u64 (G:Int)] w (.int .u64 (vV f.w G:Int)):=by
 have hw:=h.w12
 have hp:2^(f.w+5)<=2^17:=Nat.pow_le_pow_right (by decide) (by omega)
 exact kind_v _ _ _ _ _ _ _ _ _ w (G:Int) _ f.w (by omega) (by omega) (by omega) (by omega) (zXo G f.w)
theorem fsig (G:Nat)(w:World)(hG:G<2^(f.w+5)):CB 102 #[LF f,.int .u64 (G:Int)] w (.bool (decide (G/2^(f.w-1)%2=1))):=by
 have hw:=h.w12
 have hp:2^(f.w+5)<=2^17:=Nat.pow_le_pow_right (by decide) (by omega)
 have hd:G/2^(f.w-1)<=G:=Nat.div_le_self _ _
 have e:=zMn (G/2^(f.w-1)) 1 (by decide) (by omega)
 have e1:bits .and .u64 ((G:Int)/2^(f.w-1)) 1=((G/2^(f.w-1)%2:Nat):Int):=by rw [zXo];exact e
 have c:=zJv f.dn ((f.w+5:Nat):Int) (f.t:Int) (vB f:Int) (vQ f) (10^(3*f.j+1)) (10^(3*f.j)) f.l (f.l+3*2^f.w-1) w (G:Int) _ (f.w-1) (by omega) (by omega) (by omega) (by omega) e1
 rw [show (((G/2^(f.w-1)%2:Nat):Int)==1)=decide (G/2^(f.w-1)%2=1) from zQi _ 1] at c
 exact c
theorem fspec (k:Nat)(s:Bool)(w:World)(hk:k<=31):CB 148 #[LF f,.int .u64 (k:Int),.bool s] w (.int .u64 ((k*2^f.w+(if s then 2^(f.w-1) else 0):Nat):Int)):=by
 have hw:=h.w12
 have ho:=zBd k 1 1 (by decide) (by omega)
 have hp:2^(f.w-1)<=2^11:=Nat.pow_le_pow_right (by decide) (by omega)
 have hp0:1<=2^(f.w-1):=Nat.one_le_two_pow
 have e2:2^f.w=2*2^(f.w-1):=by rw [← Nat.pow_succ'];congr 1;omega
 refine zHv _ _ _ _ _ _ _ _ _ w (k:Int) _ s (f.w-1) (by omega) (by omega) (by omega) (by omega) (by omega) ((2^(f.w-1):Nat):Int) (zTk _) (by omega) (by omega) ?_ ?_ ?_
 ·rw [show ((k*2^1:Nat):Int)=(k:Int)*2 by omega] at ho
  rw [show (1:Int)=((1:Nat):Int) from rfl,ho];omega
 ·rw [e2]
  generalize 2^(f.w-1)=H at *
  cases s
  ·simp only [Bool.false_eq_true,if_false,Int.add_zero,Nat.add_zero]
   rw [Int.natCast_mul,Int.natCast_mul,Int.mul_assoc];rfl
  ·simp only [if_true]
   rw [Int.natCast_add,Int.natCast_mul,Int.natCast_mul,Int.add_mul,Int.one_mul,Int.mul_assoc];rfl
 ·have:k*2^f.w<=31*2^12:=Nat.mul_le_mul hk (Nat.pow_le_pow_right (by decide) (by omega))
  have:(if s then 2^(f.w-1) else 0)<=2^11:=by split<;>omega
  omega
theorem fread (R:Nat)(w:World)(hR:R<2^f.t):CB 104 #[LF f,A4 R] w (A4 (vT f R)):=by
 have hw:=h.w12
 have h256:R<2^256:=Nat.lt_of_lt_of_le hR (Nat.pow_le_pow_right (by decide) (by omega))
 unfold LF vT
 have ht:=h.t10
 cases hd:f.dn
 ·simp only [Bool.false_eq_true,if_false]
  exact read_p _ _ _ _ _ _ _ _ w R
 ·simp only [if_true]
  have c:=fun W=>zF5 R (f.j:Int) W h256
  have e:dUv R (f.j:Int)=dlU f.j R:=by
   unfold dUv
   rw [if_pos (by omega),Int.toNat_natCast,if_pos (by rw [← h.pt];exact hR)]
  rw [e] at c
  exact read_d _ _ _ _ _ _ _ _ w R _ _ (f.j:Int) (by omega) (by omega) (by omega) c
theorem zF7 (C:Nat)(w:World)(hC:C<2^256)(hd:f.dn=true->C<1000^f.j):CB 147 #[LF f,A4 C] w (A4 (if f.dn then dlP f.j C else C)):=by
 have hw:=h.w12
 unfold LF
 have ht:=h.t10
 cases e:f.dn
 ·simp only [Bool.false_eq_true,if_false]
  exact zD8 _ _ _ _ _ _ _ _ w C
 ·simp only [if_true]
  have c:=fun W=>zG5 C (f.j:Int) W hC
  have e:dPv C (f.j:Int)=dlP f.j C:=by
   unfold dPv
   rw [if_pos (by omega),Int.toNat_natCast,if_pos (hd e)]
  rw [e] at c
  exact zE8 _ _ _ _ _ _ _ _ w C _ _ (f.j:Int) (by omega) (by omega) (by omega) c
theorem yXb (s:Bool)(G R:Nat)(w:World)(hG:G<2^(f.w+5))(hR:R<2^f.t):CB 145 #[LF f,.bool s,.int .u64 (G:Int),A4 R] w (A4 ((if s then 2^(f.t+(f.w+5)) else 0)+G*2^f.t+R)):=by
 have hw:=h.w12
 have hp:2^(f.w+5)<=2^17:=Nat.pow_le_pow_right (by decide) (by omega)
 have hp0:1<=2^(f.w+5):=Nat.one_le_two_pow
 have hpt:2^f.t<=2^110:=Nat.pow_le_pow_right (by decide) (by omega)
 have key:∀ E:Nat,E<2^18->(∀ W,CB 130 #[.int .u64 (E:Int)] W (A4 E))/\(∀ W,CB 129 #[A4 E,.int .i64 (f.t:Int)] W (A4 (E*2^f.t)))/\(∀ W,CB 107 #[A4 (E*2^f.t),A4 R] W (.tuple #[A4 (E*2^f.t+R),.int .u64 (((E*2^f.t+R)/2^256:Nat):Int)])):=by
  intro E hE
  have hm:E*2^f.t<=2^18*2^110:=Nat.mul_le_mul (by omega) hpt
  have e:(2:Nat)^18*2^110<2^256:=by decide
  exact ⟨fun W=>of4 E W (by omega),fun W=>shl4 E f.t W (by omega) (by omega),fun W=>add4 _ _ W (by omega) (Nat.lt_of_lt_of_le hR (by omega))⟩
 cases s
 ·obtain ⟨k1,k2,k3⟩:=key G (by omega)
  simp only [Bool.false_eq_true,if_false,Nat.zero_add]
  exact yVc _ _ _ _ _ _ _ _ _ w _ _ _ _ _ _ k1 k2 k3
 ·obtain ⟨k1,k2,k3⟩:=key (2^(f.w+5)+G) (by omega)
  have ho:=zBd 1 G (f.w+5) hG (by omega)
  rw [Nat.one_mul] at ho
  have hc:bits .or .u64 (G:Int) ((2^(f.w+5):Nat):Int)=((2^(f.w+5)+G:Nat):Int):=by
   rw [← ho]
   have e1:=zJg ((2^(f.w+5):Nat):Int) (G:Int) (by omega) (by omega)
   have e2:=zJg (G:Int) ((2^(f.w+5):Nat):Int) (by omega) (by omega)
   unfold orW at e1 e2
   rw [e1,e2,Nat.or_comm]
  simp only [if_true]
  rw [show 2^(f.t+(f.w+5))+G*2^f.t+R=(2^(f.w+5)+G)*2^f.t+R by rw [Nat.add_mul,← Nat.pow_add,Nat.add_comm (f.w+5) f.t]]
  exact yUc _ _ _ _ _ _ _ _ _ w (G:Int) _ _ _ _ _ _ k1 k2 k3 (f.w+5) _ rfl (by omega) (zTk _) (by omega) (by omega) hc
theorem fpart (G:Nat)(w:World)(hG:G<2^(f.w+5)):CB 105 #[LF f,.int .u64 (G:Int)] w (.tuple #[.int .u64 (vF f.dn f.w G:Int),.int .u64 (vL f.dn f.w G:Int)]):=by
 have hw:=h.w12
 have hp:2^(f.w+5)<=2^17:=Nat.pow_le_pow_right (by decide) (by omega)
 have hB:vB f<=12:=by unfold vB;split<;>omega
 have hA:G/2^vB f<=G:=Nat.div_le_self _ _
 have cl:=fun W=>zCn (G:Int) (vB f) (by omega) (by omega) W
 rw [zJq] at cl
 have hX:G%2^vB f<2^vB f:=Nat.mod_lt _ (Nat.two_pow_pos _)
 have hpb:2^vB f<=2^12:=Nat.pow_le_pow_right (by decide) hB
 have e8:2^(f.w+5)=32*2^f.w:=by rw [Nat.pow_add,Nat.mul_comm]
 have e3:2^(f.w+3)=8*2^f.w:=by rw [Nat.pow_add,Nat.mul_comm]
 have hV8:G/2^(f.w+3)=vV f.w G/8:=by unfold vV;rw [Nat.div_div_eq_div_mul,e3,Nat.mul_comm]
 have hV32:vV f.w G<32:=by unfold vV;rw [Nat.div_lt_iff_lt_mul (Nat.two_pow_pos _),← e8];exact hG
 have hone:1<=2^f.w:=Nat.one_le_two_pow
 by_cases h24:vV f.w G<24
 ·have hF:∃ F:Nat,F=G/2^vB f/8/\vF f.dn f.w G=F*2^vB f+G%2^vB f:=by
   refine ⟨_,rfl,?_⟩
   unfold vF vB
   cases f.dn
   ·simp only [Bool.false_eq_true,if_false,Nat.pow_zero,Nat.div_one,Nat.mod_one,Nat.mul_one,Nat.add_zero,if_pos h24]
   ·simp only [if_true,if_pos h24];rfl
  obtain ⟨F,hF1,hF2⟩:=hF
  have hFl:F<=G:=by rw [hF1];exact Nat.le_trans (Nat.div_le_self _ _) hA
  have hFm:F*2^vB f<=2^17*2^12:=Nat.mul_le_mul (by omega) hpb
  have ho:=zBd F (G%2^vB f) (vB f) hX (by omega)
  rw [hF2]
  have hL:vL f.dn f.w G=G/2^vB f%8:=by
   unfold vL vB
   cases f.dn
   ·simp only [Bool.false_eq_true,if_false,Nat.pow_zero,Nat.div_one,if_pos h24]
   ·simp only [if_true,if_pos h24];rfl
  rw [hL]
  have c3:=fun W=>zIs ((G/2^vB f:Nat):Int) 3 (by omega) (by decide) W
  rw [zJq] at c3
  refine part_s f.dn _ _ _ _ _ _ _ w (G:Int) ((G/2^vB f:Nat):Int) ((G/2^(f.w+3):Nat):Int) (F:Int) ((F*2^vB f:Nat):Int) ((G%2^vB f:Nat):Int) _ _ (vB f) (f.w+3) (by omega) (by omega) (by omega) (by omega) (by omega) (zXo _ _) (by omega) (by omega) (zXo _ _) (by omega) (by omega) (by rw [zTk,Int.natCast_mul]) (by omega) (by omega) cl ho ?_ (by omega) c3
  rw [show (3:Int)=((3:Nat):Int) from rfl,zQi,hV8]
  exact decide_eq_false (by omega)
 ·have e2:2^(f.w+2)=4*2^f.w:=by rw [Nat.pow_add,Nat.mul_comm]
  have hk:∃ k:Nat,((f.w+3:Nat):Int)-(vB f:Int)=(k:Int)/\k<=15/\vF f.dn f.w G=G/2^vB f%2^k/2*2^vB f+G%2^vB f/\vL f.dn f.w G=8+G/2^vB f%2^k%2:=by
   unfold vF vL vB
   cases f.dn
   ·refine ⟨f.w+3,by simp,by omega,?_,?_⟩
    ·simp only [Bool.false_eq_true,if_false,Nat.pow_zero,Nat.div_one,Nat.mod_one,Nat.mul_one,Nat.add_zero,if_neg h24]
     rw [e2,e3];generalize 2^f.w=H at *;rw [show 8*H=2*(4*H) by omega,Nat.mod_mul_right_div_self]
    ·simp only [Bool.false_eq_true,if_false,Nat.pow_zero,Nat.div_one,if_neg h24]
     rw [e3,show 8*2^f.w=2*(4*2^f.w) by omega,Nat.mod_mul_right_mod]
   ·refine ⟨3,by simp only [if_true];omega,by omega,?_,?_⟩
    ·simp only [if_true,if_neg h24]
     show vV f.w G/2%4*_+_=vV f.w G%2^3/2*_+_
     rw [show (2:Nat)^3=2*4 by decide,Nat.mod_mul_right_div_self]
    ·simp only [if_true,if_neg h24]
     show 8+vV f.w G%2=8+vV f.w G%2^3%2
     rw [show (2:Nat)^3=2*4 by decide,Nat.mod_mul_right_mod]
  obtain ⟨k,hk,hk15,hF2,hL⟩:=hk
  rw [hF2,hL]
  have hAi:(G:Int)/2^vB f=((G/2^vB f:Nat):Int):=zXo _ _
  have hMi:(G:Int)/2^(f.w+3)=((G/2^(f.w+3):Nat):Int):=zXo _ _
  have hq:(((G/2^(f.w+3):Nat):Int)==3)=true:=by
   rw [show (3:Int)=((3:Nat):Int) from rfl,zQi,hV8]
   exact decide_eq_true (by omega)
  generalize G/2^vB f=A at *
  generalize G/2^(f.w+3)=M at *
  generalize G%2^vB f=X at *
  have c3:=fun W=>zIs (A:Int) k (by omega) (by omega) W
  rw [zJq] at c3
  have hAk:A%2^k<=A:=Nat.mod_le _ _
  generalize A%2^k=A' at *
  have hFm:A'/2*2^vB f<=2^17*2^12:=Nat.mul_le_mul (by omega) hpb
  have ho:=zBd (A'/2) X (vB f) hX (by omega)
  have c4:=fun W=>zIs (A':Int) 1 (by omega) (by omega) W
  rw [zJq] at c4
  exact part_g f.dn _ _ _ _ _ _ _ w (G:Int) (A:Int) (M:Int) ((A'/2:Nat):Int) ((A'/2*2^vB f:Nat):Int) (X:Int) _ _ (vB f) (f.w+3) (by omega) (by omega) (by omega) (by omega) (by omega) hAi (by omega) (by omega) hMi (by omega) (by omega) (by rw [zTk,Int.natCast_mul]) (by omega) (by omega) cl ho (A':Int) ((A'%2^1:Nat):Int) k hq hk (by omega) (by omega) (by omega) (by omega) (by omega) (by omega) c3 c4
theorem funite (E a:Nat)(w:World)(hE:E<3*2^f.w)(ha:a<=9):CB 146 #[LF f,.int .u64 (E:Int),.int .u64 (a:Int)] w (.int .u64 (vN f.dn f.w E a:Int)):=by
 have hw:=h.w12
 have hp:2^f.w<=2^12:=Nat.pow_le_pow_right (by decide) (by omega)
 have hB:vB f<=12:=by unfold vB;split<;>omega
 have hA:E/2^vB f<=E:=Nat.div_le_self _ _
 have cl:=fun W=>zCn (E:Int) (vB f) (by omega) (by omega) W
 rw [zJq] at cl
 have hX:E%2^vB f<2^vB f:=Nat.mod_lt _ (Nat.two_pow_pos _)
 have hpb:2^vB f<=2^12:=Nat.pow_le_pow_right (by decide) hB
 have hone:1<=2^f.w:=Nat.one_le_two_pow
 by_cases h8:8<=a
 ·have hk:∃ k:Nat,((f.w+5:Nat):Int)-2-(vB f:Int)=(k:Int)/\1<=k/\k<=15/\E/2^vB f*2<2^k/\vN f.dn f.w E a=(3*2^k+E/2^vB f*2+a%2)*2^vB f+E%2^vB f:=by
   unfold vN vB
   have e3:2^(f.w+3)=8*2^f.w:=by rw [Nat.pow_add,Nat.mul_comm]
   cases f.dn
   ·refine ⟨f.w+3,by simp only [Bool.false_eq_true,if_false];omega,by omega,by omega,?_,?_⟩
    ·simp only [Bool.false_eq_true,if_false,Nat.pow_zero,Nat.div_one];omega
    ·simp only [Bool.false_eq_true,if_false,Nat.pow_zero,Nat.div_one,Nat.mod_one,Nat.mul_one,Nat.add_zero,if_pos h8]
   ·refine ⟨3,by simp only [if_true];omega,by omega,by omega,?_,?_⟩
    ·simp only [if_true]
     have:E/2^f.w<3:=by rw [Nat.div_lt_iff_lt_mul (Nat.two_pow_pos _)];exact hE
     omega
    ·simp only [if_true,if_pos h8]
  obtain ⟨k,hk,hk1,hk15,hAk,hN⟩:=hk
  rw [hN]
  have hAi:(E:Int)/2^vB f=((E/2^vB f:Nat):Int):=zXo _ _
  have hpk:2^k<=2^15:=Nat.pow_le_pow_right (by decide) hk15
  have hpk1:1<=2^k:=Nat.one_le_two_pow
  have ek:2^k=2^(k-1)*2:=by rw [← Nat.pow_succ];congr 1;omega
  have hki:(2:Int)^k=((2^k:Nat):Int):=zTk k
  generalize E/2^vB f=A at *
  generalize E%2^vB f=X at *
  have hU:=zBd 3 (A*2) k hAk (by omega)
  have hY:=zBd (3*2^(k-1)+A) (a%2) 1 (Nat.mod_lt _ (by decide)) (by omega)
  rw [show (3*2^(k-1)+A)*2^1=3*2^k+A*2 by omega] at hY
  have c1:=fun W=>zCn (a:Int) 1 (by omega) (by omega) W
  rw [zJq,Nat.pow_one] at c1
  have hU':bits .or .u64 (3*((2^k:Nat):Int)) ((A:Int)*2)=((3*2^k+A*2:Nat):Int):=by
   rw [← hU,Int.natCast_mul,Int.natCast_mul];rfl
  clear hU
  generalize 2^k=H at *
  have hYm:(3*H+A*2+a%2)*2^vB f<=2^18*2^12:=Nat.mul_le_mul (by omega) hpb
  have ho:=zBd (3*H+A*2+a%2) X (vB f) hX (by omega)
  exact zQ8 f.dn _ _ _ _ _ _ _ w (E:Int) (a:Int) (A:Int) ((3*H+A*2+a%2:Nat):Int) (((3*H+A*2+a%2)*2^vB f:Nat):Int) (X:Int) _ (vB f) (by omega) (by omega) (by omega) (by omega) (by omega) hAi (by omega) (by omega) (by omega) (by omega) (by rw [zTk,Int.natCast_mul]) (by omega) (by omega) cl ho k (H:Int) ((3*H+A*2:Nat):Int) ((a%2:Nat):Int) (by omega) hk hki (by omega) (by omega) hU' hY c1
 ·have hN:vN f.dn f.w E a=(E/2^vB f*8+a)*2^vB f+E%2^vB f:=by
   unfold vN vB
   cases f.dn
   ·simp only [Bool.false_eq_true,if_false,Nat.pow_zero,Nat.div_one,Nat.mod_one,Nat.mul_one,Nat.add_zero,if_neg h8]
   ·simp only [if_true,if_neg h8]
  rw [hN]
  have hAi:(E:Int)/2^vB f=((E/2^vB f:Nat):Int):=zXo _ _
  generalize E/2^vB f=A at *
  generalize E%2^vB f=X at *
  have hY:=zBd A a 3 (by omega) (by omega)
  have hY':bits .or .u64 ((A:Int)*8) (a:Int)=((A*8+a:Nat):Int):=hY
  have hYm:(A*8+a)*2^vB f<=2^18*2^12:=Nat.mul_le_mul (by omega) hpb
  have ho:=zBd (A*8+a) X (vB f) hX (by omega)
  exact zP8 f.dn _ _ _ _ _ _ _ w (E:Int) (a:Int) (A:Int) ((A*8+a:Nat):Int) (((A*8+a)*2^vB f:Nat):Int) (X:Int) _ (vB f) (by omega) (by omega) (by omega) (by omega) (by omega) hAi (by omega) (by omega) (by omega) (by omega) (by rw [zTk,Int.natCast_mul]) (by omega) (by omega) cl ho (by omega) hY'
end
end
section
theorem vT_256 {f:DF}(h:f.ok){R:Nat}(hR:R<2^f.t):vT f R<2^128:=by
 have hw:=h.w12
 have:=zVp h
 cases hd:f.dn
 ·unfold vT;rw [hd,if_neg (by decide)];exact Nat.lt_of_lt_of_le hR (Nat.pow_le_pow_right (by decide) (by omega))
 ·exact Nat.lt_trans (vT_lt h hd R) this.2
theorem vL_9 {f:DF}(dn:Bool)(w G:Nat):vL dn w G<=9:=by
 unfold vL
 cases dn<;>simp only [Bool.false_eq_true,if_false,if_true]<;>split<;>omega
theorem zNi (A B:Nat):0<=sgn (A:Int) (B:Int)↔¬ A<B:=by
 unfold sgn
 by_cases h:(A:Int)<(B:Int)
 ·rw [if_pos h];constructor
  ·intro q;exact absurd q (by decide)
  ·intro q;omega
 ·rw [if_neg h];constructor
  ·intro _;omega
  ·intro _;split<;>decide
section
variable {f:DF}(h:f.ok)
include h
theorem fmean (B:Nat)(w:World)(hB:B<2^256):Calls Tryz.prog 61 #[LF f,A4 B] w fun r w'=>r=.returned (vM f B).v/\Below w.heap.size w w':=by
 have hw:=h.w12
 have hG:=vG_lt f B
 have hR:=vR_lt f B
 have cs:=fun W=>fsplit h B W hB
 have ck:=fun W=>fkind h (vG f B) W hG
 have cr:=fun W=>fread h (vR f B) W hR
 have hU:=vT_256 h hR
 have h10:=zVp h
 have e256:(2:Nat)^128*2^4<2^256:=by decide
 unfold vM vD
 generalize vG f B=G at *
 generalize vR f B=R at *
 generalize vS f B=s at *
 by_cases h30:vV f.w G=30
 ·rw [if_pos h30]
  exact yNc _ _ _ _ _ _ _ _ _ w B R s (G:Int) _ cs ck (by rw [h30];rfl)
 ·rw [if_neg h30]
  have e30:(((vV f.w G:Nat):Int)==30)=false:=by rw [show (30:Int)=((30:Nat):Int) from rfl,zQi];exact decide_eq_false h30
  by_cases h31:vV f.w G=31
  ·rw [if_pos h31]
   exact yMc _ _ _ _ _ _ _ _ _ w B R s (G:Int) _ cs ck (vT f R) _ cr _ e30 (by rw [h31];rfl) (fun W=>fsig h G W hG) (fun W=>zQr (vT f R) (10^(3*f.j)) W (by omega) (by omega))
  ·rw [if_neg h31]
   have e31:(((vV f.w G:Nat):Int)==31)=false:=by rw [show (31:Int)=((31:Nat):Int) from rfl,zQi];exact decide_eq_false h31
   have hL:=vL_9 (f:=f) f.dn f.w G
   have hq:=zH6 h
   have hm:vL f.dn f.w G*vQ f<=2^4*2^128:=Nat.mul_le_mul (by omega) (by omega)
   have cm:=fun W=>mul4 (vQ f) (vL f.dn f.w G) W (by omega) (by omega)
   rw [Nat.mul_comm (vQ f)] at cm
   have hF:vF f.dn f.w G<1000000:=by
    unfold vF vV
    rcases h with ⟨h1,h2,h3,h4⟩|⟨h1,h2,h3,h4⟩|⟨h1,h2,h3,h4⟩<;>rw [h2] at hG ⊢<;>cases f.dn<;>simp only [Bool.false_eq_true,if_false,if_true]<;>simp only [Nat.reducePow,Nat.reduceAdd] at*<;> split<;>omega
   have hl:-1000000<=f.l/\f.l<=1000000:=by rcases h with ⟨h1,h2,h3,h4⟩|⟨h1,h2,h3,h4⟩|⟨h1,h2,h3,h4⟩<;>omega
   have e5:(2:Nat)^4*2^128+2^128<2^256:=by decide
   exact yOc _ _ _ _ _ _ _ _ _ w B R s (G:Int) _ cs ck (vT f R) _ cr _ _ _ _ _ _ e30 e31 (by omega) (by omega) hl.1 hl.2 (fun W=>fpart h G W hG) cm (fun W=>add4 _ _ W (by omega) (by omega)) (fun W=>zQr _ (10^(3*f.j+1)) W (by omega) (by omega))
theorem fpack (d:Dat)(w:World)(hk:d.k<2^256):CB 62 #[LF f,d.v] w (.tuple #[A4 (if vI f d then vP f d else 0),.int .i64 (if vI f d then 0 else 3)]):=by
 have hw:=h.w12
 have h10:=zVp h
 have hq:=zH6 h
 have e256:(2:Nat)^128<2^256:=by decide
 have hl:-1000000<=f.l/\f.l<=0:=by rcases h with ⟨h1,h2,h3,h4⟩|⟨h1,h2,h3,h4⟩|⟨h1,h2,h3,h4⟩<;>omega
 have hw3:(3*2^f.w:Nat)<=3*2^12:=Nat.mul_le_mul (Nat.le_refl _) (Nat.pow_le_pow_right (by decide) (by omega))
 have ei:((3*2^f.w:Nat):Int)=3*2^f.w:=by rw [Int.natCast_mul,zTk];rfl
 obtain ⟨c,s,g,x,k⟩:=d
 simp only at hk
 by_cases h1:c=1
 ·subst h1
  refine yGc _ _ _ _ _ _ _ _ _ w x s g k _ _ ?_
  intro W
  by_cases hi:vI f ⟨1,s,g,x,k⟩
  ·rw [if_pos hi,if_pos hi]
   have hPG:=zQn h hi
   have hPR:=zTu h hi
   obtain ⟨_,hg,hk10,hx0,hx1⟩:(1:Int)=1/\g=false/\k<10^(3*f.j+1)/\f.l<=x/\x<=f.l+3*2^f.w-1:=by
    rcases hi with hi|hi|hi
    ·exact hi
    ·exact absurd (show (1:Int)=2 from hi.1) (by decide)
    ·exact absurd (show (1:Int)=3 from hi.1) (by decide)
   subst hg
   have hqp:0<vQ f:=by
    unfold vQ;cases f.dn<;>simp only [Bool.false_eq_true,if_false,if_true]
    ·exact Nat.two_pow_pos _
    ·exact Nat.pow_pos (by decide)
   have hm9:k/vQ f<=9:=by
    unfold vQ
    rcases h with ⟨h1,h2,h3,h4⟩|⟨h1,h2,h3,h4⟩|⟨h1,h2,h3,h4⟩<;>rw [h3] at hk10 ⊢<;>rw [h1]<;>cases f.dn<;>simp only [Bool.false_eq_true,if_false,if_true]<;>simp only [Nat.reducePow,Nat.reduceAdd,Nat.reduceMul] at*<;> omega
   have hmod:k-k/vQ f*vQ f=k%vQ f:=by have:=Nat.div_add_mod' k (vQ f);omega
   have hlt:=Nat.mod_lt k hqp
   have hE:(x-f.l).toNat<3*2^f.w:=by omega
   have hEi:x-f.l=(((x-f.l).toNat:Nat):Int):=by omega
   have cn:=fun W=>funite h (x-f.l).toNat (k/vQ f) W hE hm9
   rw [← hEi] at cn
   have hvN:vPG f ⟨1,s,false,x,k⟩=vN f.dn f.w (x-f.l).toNat (k/vQ f):=rfl
   rw [← hvN] at cn
   have hR0:∀ i,k-i*vQ f<2^256:=fun i=>by omega
   have cw:=fun W=>zF7 h (k-k/vQ f*vQ f) W (hR0 _) (fun hd=>by
    rw [hmod,← ten3]
    have:vQ f=10^(3*f.j):=by unfold vQ;rw [hd,if_pos rfl]
    rw [this] at hlt ⊢
    exact hlt)
   have ew:(if f.dn=true then dlP f.j (k-k/vQ f*vQ f) else k-k/vQ f*vQ f)=vPR f ⟨1,s,false,x,k⟩:=by
    rw [hmod]
    unfold vPR vQ
    simp only [show ¬ ((1:Int)=2) by decide,show ¬ ((1:Int)=3) by decide,if_false]
    cases f.dn<;>simp
   rw [ew] at cw
   have cj:=fun W=>yXb h s _ _ W hPG hPR
   refine dfin_y _ _ _ _ _ _ _ _ _ W x s k _ _ (fun W=>cmp4 k _ W hk (by omega)) (by omega) (by omega) (by rw [zNi];omega) (k/vQ f) (by omega) (fun i=>k-i*vQ f) (fun i=>sgn ((k-i*vQ f:Nat):Int) (vQ f:Int)) (fun i=>if k-i*vQ f<vQ f then 1 else 0) (by simp) _ hl.1 (by omega) (by omega) _ ?_ ?_ ?_ ?_ cn cw cj
   ·show ∀ _,_
    intro i hi W
    exact cmp4 _ _ W (hR0 i) (by omega)
   ·show ∀ _,_
    intro i hi
    rw [zNi]
    have:(i+1)*vQ f<=k:=Nat.le_trans (Nat.mul_le_mul_right _ hi) (Nat.div_mul_le_self _ _)
    rw [Nat.add_mul,Nat.one_mul] at this
    omega
   ·show ¬ _
    rw [zNi,hmod];omega
   ·show ∀ _,_
    intro i hi W
    have:(i+1)*vQ f<=k:=Nat.le_trans (Nat.mul_le_mul_right _ hi) (Nat.div_mul_le_self _ _)
    have e:k-(i+1)*vQ f=k-i*vQ f-vQ f:=by rw [Nat.add_mul,Nat.one_mul];omega
    rw [Nat.add_mul,Nat.one_mul] at this
    have c:=sub4 (k-i*vQ f) (vQ f) W (hR0 i) (by omega)
    rw [zB8 (by omega),← e] at c
    exact c
  ·rw [if_neg hi,if_neg hi]
   cases g
   ·by_cases a1:x<f.l
    ·exact dfin_l _ _ _ _ _ _ _ _ _ W x s k a1
    ·by_cases a2:f.l+3*2^f.w-1<x
     ·exact dfin_m _ _ _ _ _ _ _ _ _ W x s k a1 a2
     ·have a3:¬ k<10^(3*f.j+1):=fun q=>hi (Or.inl ⟨rfl,rfl,q,(by omega:f.l<=x),(by omega:x<=f.l+3*2^f.w-1)⟩)
      exact dfin_k _ _ _ _ _ _ _ _ _ W x s k _ (fun W=>cmp4 k _ W hk (by omega)) a1 a2 ((zNi _ _).2 a3)
   ·exact dfin_s _ _ _ _ _ _ _ _ _ W x s k
 ·by_cases h2:c=2
  ·subst h2
   refine yFc _ _ _ _ _ _ _ _ _ w x s g k _ _ ?_
   intro W
   by_cases hi:vI f ⟨2,s,g,x,k⟩
   ·rw [if_pos hi,if_pos hi]
    have hPG:=zQn h hi
    obtain ⟨_,hg,hk0,hx0⟩:(2:Int)=2/\g=false/\k=0/\x=0:=by
     rcases hi with hi|hi|hi
     ·exact absurd (show (2:Int)=1 from hi.1) (by decide)
     ·exact hi
     ·exact absurd (show (2:Int)=3 from hi.1) (by decide)
    subst hg hk0 hx0
    have cp:=fun W=>fspec h 30 false W (by decide)
    have cj:=fun W=>yXb h s _ 0 W hPG (Nat.two_pow_pos _)
    rw [zVd] at cj
    exact dinf_y _ _ _ _ _ _ _ _ _ W s _ _ cp cj
   ·rw [if_neg hi,if_neg hi]
    cases g
    ·by_cases a1:x=0
     ·subst a1
      refine dinf_k _ _ _ _ _ _ _ _ _ W s k (decide_eq_false fun q=>hi (Or.inr (Or.inl ⟨rfl,rfl,?_,rfl⟩)))
      refine zXs hk (by decide) fun i hi=>?_
      rw [zPa]
      rcases (show i=0∨i=1∨i=2∨i=3 by omega) with e|e|e|e<;>subst e
      ·exact q.1
      ·exact q.2.1
      ·exact q.2.2.1
      ·exact q.2.2.2
     ·exact dinf_x _ _ _ _ _ _ _ _ _ W x s k (by simp [a1])
    ·exact dinf_s _ _ _ _ _ _ _ _ _ W x s k
  ·by_cases h3:c=3
   ·subst h3
    refine yEc _ _ _ _ _ _ _ _ _ w x s g k _ _ ?_
    intro W
    by_cases hi:vI f ⟨3,s,g,x,k⟩
    ·rw [if_pos hi,if_pos hi]
     have hPG:=zQn h hi
     have hPR:=zTu h hi
     obtain ⟨_,hx0,hk10⟩:(3:Int)=3/\x=0/\k<10^(3*f.j):=by
      rcases hi with hi|hi|hi
      ·exact absurd (show (3:Int)=1 from hi.1) (by decide)
      ·exact absurd (show (3:Int)=2 from hi.1) (by decide)
      ·exact hi
     subst hx0
     have cp:=fun W=>fspec h 31 g W (by decide)
     have cw:=fun W=>zF7 h k W hk (fun _=>by rw [← ten3];exact hk10)
     have cj:=fun W=>yXb h s _ _ W hPG hPR
     exact dnan_y _ _ _ _ _ _ _ _ _ W s g k _ _ _ (fun W=>cmp4 k _ W hk (by omega)) _ (by rw [zNi];omega) cp cw cj
    ·rw [if_neg hi,if_neg hi]
     by_cases a1:x=0
     ·subst a1
      have a3:¬ k<10^(3*f.j):=fun q=>hi (Or.inr (Or.inr ⟨rfl,rfl,q⟩))
      exact dnan_k _ _ _ _ _ _ _ _ _ W s g k _ (fun W=>cmp4 k _ W hk (by omega)) ((zNi _ _).2 a3)
     ·exact dnan_x _ _ _ _ _ _ _ _ _ W x s g k (by simp [a1])
   ·have hi:¬ vI f ⟨c,s,g,x,k⟩:=by
     rintro (q|q|q)
     ·exact h1 q.1
     ·exact h2 q.1
     ·exact h3 q.1
    rw [if_neg hi,if_neg hi]
    exact yHc _ _ _ _ _ _ _ _ _ w c x s g k (by simp [h1]) (by simp [h2]) (by simp [h3])
end
end
section
attribute [local irreducible] W4
theorem zM8 {n:Int}{B:Nat}(h:zCj n B):vUD n B=vM (fD n) B/\vUC n B=decide (vP (fD n) (vM (fD n) B)=B)/\vUE n B=0:=by
 unfold vUD vUC vUE
 exact ⟨if_pos h,decide_eq_decide.2 ⟨fun q=>q.2,fun q=>⟨h,q⟩⟩,if_pos h⟩
theorem vU_bad {n:Int}{B:Nat}(h:¬ zCj n B):vUD n B=⟨0,false,false,0,0⟩/\vUC n B=false/\vUE n B=1:=by
 unfold vUD vUC vUE
 exact ⟨if_neg h,decide_eq_false fun q=>h q.1,if_neg h⟩
end
theorem zAs (n:Int)(w:World)(hT:Tab w)(hd:zRd n):CB 83 #[.int .i64 n] w (.tuple #[LF (fD n),.int .i64 0]):=by
 obtain ⟨hok,f1,f2,f3,f4,f5,f6,f7,f8⟩:=zMe hd
 have c1:=fun W hW=>zNf n W hW
 rw [show zQf n=0 from if_pos hok,f1,f2,f3,f4,f5,f6,f7,f8] at c1
 have h:=zKd n
 have hw:=h.w12
 generalize fD n=f at *
 have hG:((f.t+(f.w+6):Nat):Int)/16+9=((f.w+5:Nat):Int):=by rcases h with ⟨h1,h2,h3,h4⟩|⟨h1,h2,h3,h4⟩|⟨h1,h2,h3,h4⟩<;>rw [h1,h2]<;>rfl
 have cc:=fun W=>zK7 (3*f.j+1) W (by omega)
 have cp:=fun W=>zK7 (3*f.j) W (by omega)
 have e1:((3*f.j+1:Nat):Int)=3*(f.j:Int)+1:=by omega
 have e2:((3*f.j:Nat):Int)=3*(f.j:Int):=by omega
 have cw:=cp
 rw [e1] at cc
 rw [e2] at cp
 unfold LF
 cases e:f.dn
 ·rw [e] at c1
  have eB:vB f=0:=by unfold vB;rw [e,if_neg (by decide)]
  have eQ:vQ f=2^f.t:=by unfold vQ;rw [e,if_neg (by decide)]
  have cs:=fun W=>shl4 1 f.t W (by decide) (by omega)
  rw [Nat.one_mul] at cs
  rw [eB,eQ]
  exact dlay_p n _ n _ _ _ _ _ _ w hT _ _ _ _ (by omega) (by omega) hG (by omega) (by omega) (by omega) (by omega) (by omega) cc cp _ c1 (fun W=>of4 1 W (by decide)) cs
 ·rw [e] at c1
  have eB:vB f=f.w:=by unfold vB;rw [e,if_pos rfl]
  have eQ:vQ f=10^(3*f.j):=by unfold vQ;rw [e,if_pos rfl]
  rw [eB,eQ]
  rw [show ((3*f.j:Nat):Int)=3*(f.j:Int)+1-1 by omega] at cw
  exact dlay_d n _ n _ _ _ _ _ _ w hT _ _ _ _ (by omega) (by omega) hG (by omega) (by omega) (by omega) (by omega) (by omega) cc cp _ _ (by omega) (by omega) (by omega) c1 cw
theorem yYa {n:Int}(h:¬ zRd n):(okN n/\(zTf n != 10)=true)∨¬ okN n:=by
 by_cases hk:okN n
 ·left
  refine ⟨hk,?_⟩
  unfold zRd at h
  rcases zMf hk with rfl|rfl|rfl|rfl|rfl|rfl|rfl|rfl|rfl|rfl|rfl|rfl<;>first|rfl|omega
 ·exact Or.inr hk
theorem zWo (n:Int)(w:World)(hT:Tab w)(hd:¬ zRd n):CB 83 #[.int .i64 n] w (.tuple #[ZL,.int .i64 1]):=by
 have c1:=fun W hW=>zNf n W hW
 rcases yYa hd with ⟨hk,hb⟩|hk
 ·rw [show zQf n=0 from if_pos hk] at c1
  exact dlay_b n _ _ _ _ _ _ _ _ _ _ w hT hb c1
 ·rw [show zQf n=1 from if_neg hk] at c1
  exact dlay_e n _ _ _ _ _ _ _ _ _ _ w hT 1 rfl c1
theorem zDs {n:Int}(B:Nat)(hd:zRd n):(okN n/\B<2^(zLb n).toNat)↔zCj n B:=by
 have hF:=zMe hd
 rw [hF.2.2.2.1,Int.toNat_natCast]
 exact ⟨fun h=>⟨hd,h.2⟩,fun h=>⟨hF.1,h.2⟩⟩
theorem zPy (n:Int)(B:Nat)(w:World)(hT:Tab w)(hB:B<2^256)(hg:zCj n B):CB 60 #[.int .i64 n,A4 B] w (.tuple #[LF (fD n),.int .i64 0]):=by
 have c1:=fun W hW=>fits4 n B hB W hW
 rw [decide_eq_true ((zDs B hg.1).2 hg)] at c1
 exact dfor_y n B w hT c1 _ _ _ _ _ _ _ _ _ (fun W hW=>zAs n W hW hg.1)
theorem zWt (n:Int)(B:Nat)(w:World)(hT:Tab w)(hB:B<2^256)(hg:¬ zCj n B):CB 60 #[.int .i64 n,A4 B] w (.tuple #[ZL,.int .i64 1]):=by
 have c1:=fun W hW=>fits4 n B hB W hW
 by_cases hd:zRd n
 ·rw [decide_eq_false (fun q=>hg ((zDs B hd).1 q))] at c1
  exact zO7 n B w hT c1
 ·by_cases hf:okN n/\B<2^(zLb n).toNat
  ·rw [decide_eq_true hf] at c1
   exact dfor_b n B w hT c1 (fun W hW=>zWo n W hW hd)
  ·rw [decide_eq_false hf] at c1
   exact zO7 n B w hT c1
theorem yIc (n:Int)(d:Dat)(hk:d.k<2^256)(W:World)(hT:Tab W):CB 39 #[.int .i64 n,d.v] W (.tuple #[A4 (vPV n d),.int .i64 (vPE n d)]):=by
 unfold vPV vPE
 by_cases hd:zRd n
 ·have c2:=fun W=>fpack (zKd n) d W hk
  have e1:(if zRd n/\vI (fD n) d then vP (fD n) d else 0)=(if vI (fD n) d then vP (fD n) d else 0):=by
   by_cases hi:vI (fD n) d
   ·rw [if_pos ⟨hd,hi⟩,if_pos hi]
   ·rw [if_neg (fun q=>hi q.2),if_neg hi]
  rw [e1,if_pos hd]
  exact zH5 n W hT _ _ _ _ _ _ _ _ _ _ _ _ _ _ _ _ (fun W hW=>zAs n W hW hd) c2
 ·rw [if_neg (fun q=>hd q.1),if_neg hd]
  exact zI5 n W hT _ _ _ _ _ (fun W hW=>zWo n W hW hd)
theorem yBc (n:Int)(B:Nat)(hB:B<2^256)(W:World)(hT:Tab W):CB 28 #[.int .i64 n,A4 B] W (.tuple #[(vUD n B).v,.bool (vUC n B),.int .i64 (vUE n B)]):=by
 by_cases hg:zCj n B
 ·obtain ⟨e1,e2,e3⟩:=zM8 hg
  rw [e1,e2,e3]
  have h:=zKd n
  have c3:=fun W=>fpack h (vM (fD n) B) W (zJ6 h B)
  rw [if_pos (zUu h B),if_pos (zUu h B)] at c3
  refine dunp_y n W hT _ _ _ _ _ _ _ _ _ B (fun W hW=>zPy n B W hW hB hg) _ _ _ _ _ _ _ (fun W=>fmean h B W hB) c3 _ ?_
  exact zD5 (zI6 h (zUu h B)) hB
 ·obtain ⟨e1,e2,e3⟩:=vU_bad hg
  rw [e1,e2,e3,zero_v]
  exact dunp_n n W hT B (fun W hW=>zWt n B W hW hB hg)
section
attribute [local irreducible] W4 Nt
section
variable (n:Int)(Bp:Nat)(c:Int)(s g ok:Bool)(x:Int)(k:Nat)(w:World)
variable (hT10:Tb10 w)(c21:∀ W,CB 21 #[.int .i64 n,A4 Bp] W (.tuple #[DV c s g x k,.bool ok,.int .i64 0]))
include hT10 c21
variable (hc:c=1)(hk:k<2^256)(D D' T:List UInt8)
 (c20:∀ W v,Nt 4 k v W->CB 20 #[v] W (.string (B D)))
 (c29:∀ W,Tb10 W->CB 33 #[.bool s,.string (B D'),.int .i64 x] W (.string (B T)))
include hc hk c20 c29
end
def dwT (n:Int)(Bp:Nat):List UInt8:=if zCj n Bp then xtT (vM (fD n) Bp) else []
end
section
def TUD (A B:Nat)(v:Value)(w:World):Prop:=∃ q r,v=.tuple #[q,r]/\NT 7000 A q w/\NT 7000 B r w
theorem TUD.next {A B:Nat}{v:Value}{w w':World}(h:TUD A B v w)(hb:Below w.heap.size w w'):TUD A B v w':=by
 obtain ⟨q,r,e,hq,hr⟩:=h
 exact ⟨q,r,e,hq.next hb,hr.next hb⟩
attribute [local irreducible] W4 Nt NT
section
variable {a:Act}{w:World}{K:Act->World->Prop}{Q:Exit->Act->World->Prop}{d p q:Nat}{ty:TypeId}{pos:String}{after:Array Edge}{gd:Option (Nat×Bool)}
end
end
section
theorem D8.other {g h:Nat}{cs:Array Value}{vs:List Value}{w:World}(hD:D8 h cs w)(hne:g≠h):D8 h cs (w.setCells g 0 vs):=by
 refine ⟨Nat.lt_of_lt_of_le hD.1 (zEd (n:=0) (Nat.zero_le _) _ _ _ (Below.refl 0 w)).size,hD.2.1,fun i hi=>?_,fun i=>?_⟩
 ·rw [World.cell?_setCells_out g vs 0 w ⟨h,i,none⟩ (fun e=>absurd e.symm hne)]
  exact hD.2.2.1 i hi
 ·rw [World.frozen?_setCells];exact hD.2.2.2 i
attribute [local irreducible] W4 Nt NT
section
variable {a:Act}{w:World}{K:Act->World->Prop}{Q:Exit->Act->World->Prop}{d p q:Nat}{ty:TypeId}{pos:String}{after:Array Edge}{gd:Option (Nat×Bool)}
end
def M14 (ws:World)(cv:Array Value)(L:Nat->Prop)(f:Nat->Value)(w:World):Prop :=
 Below ws.heap.size ws w/\(L 4->∃ g cs,f 17=.pointer (some ⟨g,0,none⟩)/\ws.heap.size<=g/\D8 g cs w/\(L 6->cs=cv))/\(L 5->∃ h cs,f 18=.pointer (some ⟨h,0,none⟩)/\ws.heap.size<=h/\D8 h cs w)/\(L 4->L 5->f 17≠f 18)
theorem M14.step {ws w:World}{cv:Array Value}{k t:Nat}{L:Nat->Prop}{f:Nat->Value}{v:Value}(h:M14 ws cv L f w)(h1:t≠17)(h2:t≠18)(h3:k≠4)(h4:k≠5)(h5:k≠6):M14 ws cv (fun j=>L j∨j=k) (fun u=>if some t=some u then v else f u) w:=by
 obtain ⟨a1,a2,a3,a4⟩:=h
 have e17:(if some t=some 17 then v else f 17)=f 17:=if_neg (fun e=>h1 (Option.some.inj e))
 have e18:(if some t=some 18 then v else f 18)=f 18:=if_neg (fun e=>h2 (Option.some.inj e))
 refine ⟨a1,fun h=>?_,fun h=>?_,fun h h'=>?_⟩
 ·obtain ⟨g,cs,b1,b2,b3,b4⟩:=a2 (h.resolve_right (fun e=>h3 e.symm))
  exact ⟨g,cs,e17.trans b1,b2,b3,fun h=>b4 (h.resolve_right (fun e=>h5 e.symm))⟩
 ·obtain ⟨g,cs,b1,b2,b3⟩:=a3 (h.resolve_right (fun e=>h4 e.symm))
  exact ⟨g,cs,e18.trans b1,b2,b3⟩
 ·show (if some t=some 17 then v else f 17)≠(if some t=some 18 then v else f 18)
  rw [e17,e18]
  exact a4 (h.resolve_right (fun e=>h3 e.symm)) (h'.resolve_right (fun e=>h4 e.symm))
end
end Go.Proofs.YtpabnhlfbjkmaaaGreatDoor
