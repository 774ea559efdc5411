/-
  Texts that the proof leans on.
-/
import Derived.Test.YtahfkpjhlbiamaaGreatDoorR40
import Derived.Test.YtahfkpjhlbiamaaGreatDoorR39
import Derived.Test.YtahfkpjhlbiamaaGreatDoorR1
import Derived.Test.YtahfkpjhlbiamaaGreatDoorR24
import Derived.Test.YtahfkpjhlbiamaaGreatDoorR23
import Derived.Test.YtahfkpjhlbiamaaGreatDoorR6
import Derived.Test.YtahfkpjhlbiamaaGreatDoorR2
import Derived.Test.YtahfkpjhlbiamaaGreatDoorR20
set_option maxHeartbeats 8000000
set_option linter.unusedVariables false
set_option linter.unusedSectionVars false
set_option linter.unusedSimpArgs false
set_option maxRecDepth 20000
namespace Go.Proofs.YtahfkpjhlbiamaaGreatDoor
open Go.RowKit
section
def vPV (n:Int)(d:Dat):Nat:=if zPd n/\vI (fD n) d then vP (fD n) d else 0
def vPE (n:Int)(d:Dat):Int:=if zPd n then (if vI (fD n) d then 0 else 3) else 1
theorem zTc (y b r:Nat)(hb:b<2^r)(h:y*2^r+b<18446744073709551616):bits .or .u64 ((y*2^r:Nat):Int) (b:Int)=((y*2^r+b:Nat):Int):=by
 have e:=zEg ((y*2^r:Nat):Int) (b:Int) (by omega) (by omega)
 unfold orW at e
 rw [e,Int.toNat_natCast,Int.toNat_natCast,Nat.mul_comm y,← Nat.two_pow_add_eq_or_of_lt hb]
theorem zMm (y r:Nat)(hr:r<64)(hy:y<18446744073709551616):bits .and .u64 (y:Int) ((2^r:Nat)-1:Int)=((y%2^r:Nat):Int):=by
 have e:=zXf (y:=(y:Int)) (r:=r) (by omega) hr
 rw [← zKb] at e
 rw [e,Int.natCast_emod]
theorem lay_z (A at_ K:Nat)(v:Value)(w:World)(hK:K<900)(ha:at_<=600)(h:NV K A v w) :
  CB 90 #[Z4,v,.int .i64 at_] w (A4 (A*2^at_)):=by
 have:=zQp 0 A at_ K v w (by decide) hK ha h
 rw [zEd,Nat.zero_add] at this
 exact this
section
variable (n:Int)(C:Int)(s g:Bool)(x:Int)(k:Nat)(w:World)
theorem vpk_n (c35:∀ W,CQ 15 #[.int .i64 n] W (.bool false)) :
  CB 43 #[.int .i64 n,DV C s g x k] w (.tuple #[Z4,.int .i64 1]):=by
 have hsm:=zAa
 go_enter Tryz.func43,Tryz.ntmps43
 go_wp2_with (go_at_call 15;refine (c35 _).mono ?_;rintro r w0 ⟨rfl,rfl⟩)
 exact bodyPost_ret (v:=.tuple #[Z4,.int .i64 1]) (by simp only [results,Tryz.results43];go_simp) rfl ⟨rfl,bgo⟩
theorem vpk_i (nm:ByteArray)(wd pr ex le mo pa:Int)(dn:Bool)
  (c35:∀ W,CQ 15 #[.int .i64 n] W (.bool true))
  (cO:∀ W,CB 20 #[.int .i64 n] W (.tuple #[zEb n nm wd pr ex le mo pa dn,.int .i64 0]))
  (cI:∀ W,CB 89 #[zEb n nm wd pr ex le mo pa dn,DV C s g x k] W (.bool false)) :
  CB 43 #[.int .i64 n,DV C s g x k] w (.tuple #[Z4,.int .i64 3]):=by
 have hsm:=zAa
 go_enter Tryz.func43,Tryz.ntmps43
 go_wp2_with (first
  | (go_at_call 15;refine (c35 _).mono ?_;rintro r w0 ⟨rfl,rfl⟩)
  | (go_at_call 20;refine wk w (cO _) ?_;intro w1 hb1 _ _ _ _ hA1 _;obtain ⟨_,_⟩:=zf hb1 (w.heap.size+1);clear hb1)
  | (go_at_call 89;refine wk w (cI _) ?_;intro w2 hb2 _ _ _ _ hA2 _;obtain ⟨_,_,_,_⟩:=zg hb2 (w.heap.size+1) w1.heap.size;clear hb2))
 exact bodyPost_ret (v:=.tuple #[Z4,.int .i64 3]) (by simp only [results,Tryz.results43];go_simp) rfl ⟨rfl,bgo⟩
end
structure VB (n:Int) (C:Int) (s g:Bool) (x:Int) (k:Nat):Prop where
 cD:∀ W,CQ 15 #[.int .i64 n] W (.bool true)
 cO:∀ W,CB 20 #[.int .i64 n] W (.tuple #[zEb n (zMd n) (((fD n).t+((fD n).w+6):Nat):Int) (3*((fD n).j:Int)+1) (zKi n) (fD n).l ((fD n).l+3*2^(fD n).w-1) (3*((fD n).j:Int)) (fD n).dn,.int .i64 0])
 cI:∀ W,CB 89 #[zEb n (zMd n) (((fD n).t+((fD n).w+6):Nat):Int) (3*((fD n).j:Int)+1) (zKi n) (fD n).l ((fD n).l+3*2^(fD n).w-1) (3*((fD n).j:Int)) (fD n).dn,DV C s g x k] W (.bool true)
 cS:∀ W,CB 83 #[zEb n (zMd n) (((fD n).t+((fD n).w+6):Nat):Int) (3*((fD n).j:Int)+1) (zKi n) (fD n).l ((fD n).l+3*2^(fD n).w-1) (3*((fD n).j:Int)) (fD n).dn] W (.tuple #[.int .i64 (((fD n).w:Int)+5),.int .i64 ((fD n).t:Int),.int .i64 ((fD n).j:Int)])
 cN:∀ W,Calls Tryz.prog 66 #[A4 k] W fun r w'=>∃ g n cap,r=.returned (.slice (some ⟨g,0,none⟩) n cap)/\W.heap.size<g/\NT 4 k (.slice (some ⟨g,0,none⟩) n cap) w'/\Below W.heap.size W w'
theorem zB0 {n:Int}(h:zPd n){d:Dat}(hk:d.k<2^256)(hi:vI (fD n) d):VB n d.c d.s d.g d.x d.k:=by
 refine ⟨fun W=>?_,fun W=>zAj h W,fun W=>?_,fun W=>zBy h _ _ _ _ _ _ W,fun W=>zX3 _ W hk⟩
 ·have:=zUd n W
  rw [decide_eq_true h] at this
  exact this
 ·have:=ris14 (fD n) (zCd n) n (zMd n) (((fD n).t+((fD n).w+6):Nat):Int) (zKi n) (fD n).dn d W hk
  rw [decide_eq_true hi] at this
  exact this
theorem zWg {f:DF}(h:f.ok):6<=f.w/\f.w<=12/\20<=f.t/\f.t<=110/\2<=f.j/\f.j<=11/\f.t%64≠0/\-6176<=f.l/\f.l<=-101/\64<=2^f.w/\2^f.w<=4096:=by
 rcases h with ⟨h1,h2,h3,h4⟩|⟨h1,h2,h3,h4⟩|⟨h1,h2,h3,h4⟩<;>rw [h1,h2,h3,h4]<;>decide
theorem zIb {B A at_ K R:Nat}{T:Int}{v:Value}{w:World}(hB:B<2^256)(hK:K<900)(ha:at_<=600)(h:NV K A v w)(hT:(at_:Int)=T)(hR:B+A*2^at_=R) :
  CB 90 #[A4 B,v,.int .i64 T] w (A4 R):=by
 subst hT hR
 exact zQp B A at_ K v w hB hK ha h
theorem zQb {A at_ K R:Nat}{T:Int}{v:Value}{w:World}(hK:K<900)(ha:at_<=600)(h:NV K A v w)(hT:(at_:Int)=T)(hR:A*2^at_=R) :
  CB 90 #[Z4,v,.int .i64 T] w (A4 R):=by
 subst hT hR
 exact lay_z A at_ K v w hK ha h
theorem zMp {a:Nat}(h:a<=200):2^a<2^220:=Nat.pow_lt_pow_right (by decide) (by omega)
theorem zP5 {n:Int}(h:zPd n){s:Bool}(w:World)(hi:vI (fD n) ⟨2,s,false,0,0⟩) :
  CB 43 #[.int .i64 n,DV 2 s false 0 0] w (.tuple #[A4 (vP (fD n) ⟨2,s,false,0,0⟩),.int .i64 0]):=by
 have B:=zB0 h (d:=⟨2,s,false,0,0⟩) (show (0:Nat)<2^256 by decide) hi
 obtain ⟨w6,w12,t20,t110,j2,j11,t64,l0,l1,H0,H1⟩:=zWg (zCd n)
 have e:vP (fD n) ⟨2,s,false,0,0⟩=(if s then 2^((fD n).t+((fD n).w+5)) else 0)+30*2^((fD n).t+(fD n).w):=by
  unfold vP vPG vPR
  simp only [if_true,Nat.add_zero]
  rw [Nat.mul_assoc,← Nat.pow_add,Nat.add_comm (fD n).w (fD n).t]
 rw [e]
 have p1:=zMp (a:=(fD n).t+((fD n).w+5)) (by omega)
 have p2:(2:Nat)^220<2^256:=by decide
 cases s
 ·exact vpk2_f n _ _ _ _ _ _ _ _ _ _ 0 0 w B.cD (by omega) (by omega) (by omega) (by omega) (by omega) (by omega) B.cN _ false _ B.cO B.cI B.cS (fun W v hv=>zQb (at_:=(fD n).t+(fD n).w) (by decide) (by omega) hv (by omega) (by simp))
 ·exact vpk2_t n _ _ _ _ _ _ _ _ _ _ 0 0 (2^((fD n).t+((fD n).w+5))) w B.cD (by omega) (by omega) (by omega) (by omega) (by omega) (by omega) B.cN _ false _ B.cO B.cI B.cS (fun W v hv=>zQb (at_:=(fD n).t+((fD n).w+5)) (by decide) (by omega) hv (by omega) (by omega)) (fun W v hv=>zIb (at_:=(fD n).t+(fD n).w) (by omega) (by decide) (by omega) hv (by omega) (by simp))
theorem zO5 {n:Int}(h:zPd n){s g:Bool}{k:Nat}(w:World)(hk:k<10^(3*(fD n).j)) :
  CB 43 #[.int .i64 n,DV 3 s g 0 k] w (.tuple #[A4 (vP (fD n) ⟨3,s,g,0,k⟩),.int .i64 0]):=by
 have ho:=zCd n
 obtain ⟨w6,w12,t20,t110,j2,j11,t64,l0,l1,H0,H1⟩:=zWg ho
 have p2:(2:Nat)^220<2^256:=by decide
 have hk2:k<2^(fD n).t:=by
  refine Nat.lt_of_lt_of_le hk ?_
  rcases ho with ⟨h1,h2,h3,h4⟩|⟨h1,h2,h3,h4⟩|⟨h1,h2,h3,h4⟩<;>rw [h1,h3]<;>decide
 have pt:=zMp (a:=(fD n).t) (by omega)
 have p1:=zMp (a:=(fD n).t+((fD n).w+5)) (by omega)
 have x5:2^((fD n).t+((fD n).w+5))=32*2^((fD n).t+(fD n).w):=by rw [← Nat.add_assoc,Nat.pow_add,Nat.mul_comm]
 have x0:2^((fD n).t+(fD n).w)=2*2^((fD n).t+(fD n).w-1):=by rw [← Nat.pow_succ'];congr 1;omega
 have hpl:dlP (fD n).j k<2^(fD n).t:=by rw [ho.pt];exact zTk _ _
 have hp:dlP (fD n).j k<2^256:=by omega
 have B:=zB0 h (d:=⟨3,s,g,0,k⟩) (show k<2^256 by omega) (Or.inr (Or.inr ⟨rfl,rfl,hk⟩))
 have cP:∀ W,CB 91 #[A4 k,.int .i64 ((fD n).j:Int)] W (.tuple #[A4 (dlP (fD n).j k),.int .i64 0]):=fun W=>by
  have:=zPq k ((fD n).j:Int) W (by omega)
  have c1:(0:Int)<=((fD n).j:Int)/\((fD n).j:Int)<=11:=by omega
  rw [ten3] at hk
  unfold dPv dPe at this
  rw [if_pos c1,if_pos c1,Int.toNat_natCast,if_pos hk,if_pos hk] at this
  exact this
 have e:vP (fD n) ⟨3,s,g,0,k⟩=(if s then 2^((fD n).t+((fD n).w+5)) else 0)+31*2^((fD n).t+(fD n).w)+(if g then 2^((fD n).t+(fD n).w-1) else 0)+(if (fD n).dn then dlP (fD n).j k else k):=by
  unfold vP vPG vPR
  simp only [show ¬ (3:Int)=2 by decide,if_false,if_true]
  rw [Nat.add_mul,Nat.mul_assoc,← Nat.pow_add,Nat.add_comm (fD n).w (fD n).t]
  have e2:(if g then 2^((fD n).w-1) else 0)*2^(fD n).t=(if g then 2^((fD n).t+(fD n).w-1) else 0):=by
   cases g
   ·simp
   ·simp only [if_true]
    rw [← Nat.pow_add];congr 1;omega
  rw [e2]
  simp only [Nat.add_assoc]
 rw [e]
 have cO:=B.cO
 have cI:=B.cI
 have cS:=B.cS
 cases hdn:(fD n).dn<;>rw [hdn] at cO cI cS<;>cases s<;>cases g<;>simp only [Bool.false_eq_true,if_false,if_true,Nat.zero_add,Nat.add_zero]
 ·exact zSz n _ _ _ _ _ _ _ _ _ _ 0 k w B.cD (by omega) (by omega) (by omega) (by omega) (by omega) (by omega) B.cN _ (31*2^((fD n).t+(fD n).w)) cO cI cS (fun W v hv=>zQb (at_:=(fD n).t+(fD n).w) (by decide) (by omega) hv (by omega) rfl) (fun W v hv=>zIb (at_:=0) (by omega) (by decide) (by omega) hv rfl (by omega))
 ·exact zQz n _ _ _ _ _ _ _ _ _ _ 0 k w B.cD (by omega) (by omega) (by omega) (by omega) (by omega) (by omega) B.cN _ (31*2^((fD n).t+(fD n).w)) (31*2^((fD n).t+(fD n).w)+2^((fD n).t+(fD n).w-1)) cO cI cS (fun W v hv=>zQb (at_:=(fD n).t+(fD n).w) (by decide) (by omega) hv (by omega) rfl) (fun W v hv=>zIb (at_:=(fD n).t+(fD n).w-1) (by omega) (by decide) (by omega) hv (by omega) (by omega)) (fun W v hv=>zIb (at_:=0) (by omega) (by decide) (by omega) hv rfl (by omega))
 ·exact zOz n _ _ _ _ _ _ _ _ _ _ 0 k (2^((fD n).t+((fD n).w+5))) w B.cD (by omega) (by omega) (by omega) (by omega) (by omega) (by omega) B.cN _ (2^((fD n).t+((fD n).w+5))+31*2^((fD n).t+(fD n).w)) cO cI cS (fun W v hv=>zQb (at_:=(fD n).t+((fD n).w+5)) (by decide) (by omega) hv (by omega) (by omega)) (fun W v hv=>zIb (at_:=(fD n).t+(fD n).w) (by omega) (by decide) (by omega) hv (by omega) rfl) (fun W v hv=>zIb (at_:=0) (by omega) (by decide) (by omega) hv rfl (by omega))
 ·exact zMz n _ _ _ _ _ _ _ _ _ _ 0 k (2^((fD n).t+((fD n).w+5))) w B.cD (by omega) (by omega) (by omega) (by omega) (by omega) (by omega) B.cN _ (2^((fD n).t+((fD n).w+5))+31*2^((fD n).t+(fD n).w)) (2^((fD n).t+((fD n).w+5))+31*2^((fD n).t+(fD n).w)+2^((fD n).t+(fD n).w-1)) cO cI cS (fun W v hv=>zQb (at_:=(fD n).t+((fD n).w+5)) (by decide) (by omega) hv (by omega) (by omega)) (fun W v hv=>zIb (at_:=(fD n).t+(fD n).w) (by omega) (by decide) (by omega) hv (by omega) rfl) (fun W v hv=>zIb (at_:=(fD n).t+(fD n).w-1) (by omega) (by decide) (by omega) hv (by omega) (by omega)) (fun W v hv=>zIb (at_:=0) (by omega) (by decide) (by omega) hv rfl (by omega))
 ·exact zRz n _ _ _ _ _ _ _ _ _ _ 0 k w B.cD (by omega) (by omega) (by omega) (by omega) (by omega) (by omega) B.cN _ (31*2^((fD n).t+(fD n).w)) (dlP (fD n).j k) cO cI cS (fun W v hv=>zQb (at_:=(fD n).t+(fD n).w) (by decide) (by omega) hv (by omega) rfl) hp cP (fun W v hv=>zIb (at_:=0) (by omega) (by decide) (by omega) hv rfl (by omega))
 ·exact zPz n _ _ _ _ _ _ _ _ _ _ 0 k w B.cD (by omega) (by omega) (by omega) (by omega) (by omega) (by omega) B.cN _ (31*2^((fD n).t+(fD n).w)) (31*2^((fD n).t+(fD n).w)+2^((fD n).t+(fD n).w-1)) (dlP (fD n).j k) cO cI cS (fun W v hv=>zQb (at_:=(fD n).t+(fD n).w) (by decide) (by omega) hv (by omega) rfl) (fun W v hv=>zIb (at_:=(fD n).t+(fD n).w-1) (by omega) (by decide) (by omega) hv (by omega) (by omega)) hp cP (fun W v hv=>zIb (at_:=0) (by omega) (by decide) (by omega) hv rfl (by omega))
 ·exact zNz n _ _ _ _ _ _ _ _ _ _ 0 k (2^((fD n).t+((fD n).w+5))) w B.cD (by omega) (by omega) (by omega) (by omega) (by omega) (by omega) B.cN _ (2^((fD n).t+((fD n).w+5))+31*2^((fD n).t+(fD n).w)) (dlP (fD n).j k) cO cI cS (fun W v hv=>zQb (at_:=(fD n).t+((fD n).w+5)) (by decide) (by omega) hv (by omega) (by omega)) (fun W v hv=>zIb (at_:=(fD n).t+(fD n).w) (by omega) (by decide) (by omega) hv (by omega) rfl) hp cP (fun W v hv=>zIb (at_:=0) (by omega) (by decide) (by omega) hv rfl (by omega))
 ·exact zLz n _ _ _ _ _ _ _ _ _ _ 0 k (2^((fD n).t+((fD n).w+5))) w B.cD (by omega) (by omega) (by omega) (by omega) (by omega) (by omega) B.cN _ (2^((fD n).t+((fD n).w+5))+31*2^((fD n).t+(fD n).w)) (2^((fD n).t+((fD n).w+5))+31*2^((fD n).t+(fD n).w)+2^((fD n).t+(fD n).w-1)) (dlP (fD n).j k) cO cI cS (fun W v hv=>zQb (at_:=(fD n).t+((fD n).w+5)) (by decide) (by omega) hv (by omega) (by omega)) (fun W v hv=>zIb (at_:=(fD n).t+(fD n).w) (by omega) (by decide) (by omega) hv (by omega) rfl) (fun W v hv=>zIb (at_:=(fD n).t+(fD n).w-1) (by omega) (by decide) (by omega) hv (by omega) (by omega)) hp cP (fun W v hv=>zIb (at_:=0) (by omega) (by decide) (by omega) hv rfl (by omega))
theorem zZt {n:Int}(h:zPd n)(hdn:(fD n).dn=true){s:Bool}{x:Int}{k:Nat}(w:World)(hk:k<10^(3*(fD n).j+1))(hx0:(fD n).l<=x)(hx1:x<=(fD n).l+3*2^(fD n).w-1) :
  CB 43 #[.int .i64 n,DV 1 s false x k] w (.tuple #[A4 (vP (fD n) ⟨1,s,false,x,k⟩),.int .i64 0]):=by
 have ho:=zCd n
 obtain ⟨w6,w12,t20,t110,j2,j11,t64,l0,l1,H0,H1⟩:=zWg ho
 have hI:vI (fD n) ⟨1,s,false,x,k⟩:=Or.inl ⟨rfl,rfl,hk,hx0,hx1⟩
 have hPG:=zSm ho hI
 have p2:(2:Nat)^220<2^256:=by decide
 have pt:=zMp (a:=(fD n).t) (by omega)
 have p1:=zMp (a:=(fD n).t+((fD n).w+5)) (by omega)
 have hk34:k<2^256:=by
  have e:(10:Nat)^(3*(fD n).j+1)<=10^34:=Nat.pow_le_pow_right (by decide) (by omega)
  have e2:(10:Nat)^34<2^256:=by decide
  omega
 have B:=zB0 h (d:=⟨1,s,false,x,k⟩) hk34 hI
 have cO:=B.cO
 have cI:=B.cI
 have cS:=B.cS
 rw [hdn] at cO cI cS
 have hD:0<(10:Nat)^(3*(fD n).j):=Nat.pow_pos (by decide)
 have ha:k/10^(3*(fD n).j)<=9:=by
  have:k/10^(3*(fD n).j)<10:=by
   rw [Nat.div_lt_iff_lt_mul hD,← Nat.pow_succ']
   exact hk
  omega
 have hr:k%10^(3*(fD n).j)<1000^(fD n).j:=by rw [← ten3];exact Nat.mod_lt _ hD
 have hpl:dlP (fD n).j (k%10^(3*(fD n).j))<2^(fD n).t:=by rw [ho.pt];exact zTk _ _
 have e:vP (fD n) ⟨1,s,false,x,k⟩=(if s then 2^((fD n).t+((fD n).w+5)) else 0)+dlP (fD n).j (k%10^(3*(fD n).j))+vN true (fD n).w (x-(fD n).l).toNat (k/10^(3*(fD n).j))*2^(fD n).t:=by
  unfold vP vPG vPR vQ
  simp only [show ¬ (1:Int)=2 by decide,show ¬ (1:Int)=3 by decide,if_false,hdn,if_true]
  omega
 rw [e]
 have hrr:k%10^(3*(fD n).j)<2^256:=by have:=Nat.mod_le k (10^(3*(fD n).j));omega
 generalize hka:k/10^(3*(fD n).j)=a at *
 generalize hkr:k%10^(3*(fD n).j)=rr at *
 obtain ⟨E,hE⟩:∃ E:Nat,(x-(fD n).l).toNat=E:=⟨_,rfl⟩
 have hEx:x-(fD n).l=(E:Int):=by omega
 have hE3:E<3*2^(fD n).w:=by
  have e3:((3*2^(fD n).w:Nat):Int)=3*2^(fD n).w:=by simp
  omega
 rw [hE]
 have cW:∀ W,CE 64 #[.int .u64 10,.int .i64 (3*((fD n).j:Int))] W (NT 200 (10^(3*(fD n).j))):=fun W=>by
  have:=zP6 10 (3*(fD n).j) W (by decide) (by decide) (by omega)
  rw [show ((3*(fD n).j:Nat):Int)=3*((fD n).j:Int) by omega] at this
  exact this.mono fun r w' ⟨v,e1,e2,e3⟩=>⟨v,e1,e2.more (by omega),e3⟩
 have cV:∀ W vn vd,NT 4 k vn W->NT 200 (10^(3*(fD n).j)) vd W->Calls Tryz.prog 92 #[vn,vd] W fun r w'=>∃ g k cap v,r=.returned (.tuple #[.slice (some ⟨g,0,none⟩) k cap,v])/\W.heap.size<=g/\NV 41000 a (.slice (some ⟨g,0,none⟩) k cap) w'/\NT 41000 rr v w'/\Below W.heap.size W w':=fun W vn vd h1 h2=>by
  have:=zKv (K:=200) (by decide) (h1.more (by decide)) h2 (by omega)
  rw [hka,hkr] at this
  exact this
 have cP:∀ W,CB 91 #[A4 rr,.int .i64 ((fD n).j:Int)] W (.tuple #[A4 (dlP (fD n).j rr),.int .i64 0]):=fun W=>by
  have:=zPq rr ((fD n).j:Int) W hrr
  have c1:(0:Int)<=((fD n).j:Int)/\((fD n).j:Int)<=11:=by omega
  unfold dPv dPe at this
  rw [if_pos c1,if_pos c1,Int.toNat_natCast,if_pos hr,if_pos hr] at this
  exact this
 have cM:∀ W v,NV 41000 a v W->CQ 61 #[v] W (.int .i64 (a:Int)):=fun W v hv=>(zDj hv (by decide) (by omega)).mono fun r w' ⟨e1,e2⟩=>⟨e1,e2.symm⟩
 have hp:dlP (fD n).j rr<2^256:=by omega
 have hQ2:E/2^(fD n).w<=2:=by
  have:E/2^(fD n).w<3:=by rw [Nat.div_lt_iff_lt_mul (Nat.two_pow_pos _)];exact hE3
  omega
 have hLt:E%2^(fD n).w<2^(fD n).w:=Nat.mod_lt _ (Nat.two_pow_pos _)
 have hH:(2:Int)^(fD n).w=((2^(fD n).w:Nat):Int):=(zKb _).symm
 have hL:=zMm E (fD n).w (by omega) (by omega)
 have hQ:(E:Int)/((2^(fD n).w:Nat):Int)=((E/2^(fD n).w:Nat):Int):=by simp
 have hvn:vN true (fD n).w E a=(if 8<=a then 24+E/2^(fD n).w*2+a%2 else E/2^(fD n).w*8+a)*2^(fD n).w+E%2^(fD n).w:=rfl
 have x5:2^((fD n).t+((fD n).w+5))=32*(2^(fD n).w*2^(fD n).t):=by rw [← Nat.pow_add,show (32:Nat)=2^5 by decide,← Nat.pow_add];congr 1;omega
 have hS:(if s then 2^((fD n).t+((fD n).w+5)) else 0)<2^220:=by split<;>omega
 by_cases h8:8<=a
 ·rw [if_pos h8] at hvn
  have o2:=zTc 3 (E/2^(fD n).w*2) 3 (by omega) (by omega)
  rw [show ((3*2^3:Nat):Int)=24 by decide,show ((E/2^(fD n).w*2:Nat):Int)=((E/2^(fD n).w:Nat):Int)*2 by omega] at o2
  have o3:bits .and .u64 (a:Int) 1=((a%2:Nat):Int):=zMm a 1 (by decide) (by omega)
  have o4:=zTc (12+E/2^(fD n).w) (a%2) 1 (by omega) (by omega)
  rw [show (((12+E/2^(fD n).w)*2^1:Nat):Int)=((3*2^3+E/2^(fD n).w*2:Nat):Int) by omega,show (12+E/2^(fD n).w)*2^1+a%2=24+E/2^(fD n).w*2+a%2 by omega] at o4
  generalize hV:24+E/2^(fD n).w*2+a%2=V at *
  have hV1:V<=31:=by omega
  have hVH:V*2^(fD n).w<=31*4096:=Nat.mul_le_mul hV1 H1
  have o5:=zTc V (E%2^(fD n).w) (fD n).w hLt (by omega)
  rw [← hvn,Int.natCast_mul] at o5
  generalize hF:vN true (fD n).w E a=Fw at *
  cases s
  ·exact zA0 n _ _ _ _ _ _ _ _ _ _ x k w B.cD (by omega) (by omega) (by omega) (by omega) (by omega) (by omega) B.cN (E:Int) (fD n).w a _ _ _ hEx (by omega) (by omega) (by omega) (by omega) (by omega) (by omega) (by omega) w12 hH (by omega) (by omega) ha hQ (by omega) (by omega) hL _ (dlP (fD n).j rr) (dlP (fD n).j rr) 200 (10^(3*(fD n).j)) rr Fw _ _ _ _ cO cI cS hp cW cV (fun W v hv=>zDc hv.nv) cP cM (fun W v hv=>zQb (at_:=0) (by decide) (by omega) hv rfl (by omega)) rfl (by omega) o2 o3 o4 (by omega) (by omega) (by rw [← Int.natCast_mul];omega) (by rw [← Int.natCast_mul];omega) o5 (by omega) (fun W v hv=>zIb (at_:=(fD n).t) (by omega) (by decide) (by omega) hv rfl (by simp))
  ·exact zWz n _ _ _ _ _ _ _ _ _ _ x k (2^((fD n).t+((fD n).w+5))) w B.cD (by omega) (by omega) (by omega) (by omega) (by omega) (by omega) B.cN (E:Int) (fD n).w a _ _ _ hEx (by omega) (by omega) (by omega) (by omega) (by omega) (by omega) (by omega) w12 hH (by omega) (by omega) ha hQ (by omega) (by omega) hL _ (2^((fD n).t+((fD n).w+5))+dlP (fD n).j rr) (dlP (fD n).j rr) 200 (10^(3*(fD n).j)) rr Fw _ _ _ _ cO cI cS (fun W v hv=>zQb (at_:=(fD n).t+((fD n).w+5)) (by decide) (by omega) hv (by omega) (by omega)) hp cW cV (fun W v hv=>zDc hv.nv) cP cM (fun W v hv=>zIb (at_:=0) (by omega) (by decide) (by omega) hv rfl (by omega)) rfl (by omega) o2 o3 o4 (by omega) (by omega) (by rw [← Int.natCast_mul];omega) (by rw [← Int.natCast_mul];omega) o5 (by omega) (fun W v hv=>zIb (at_:=(fD n).t) (by simp only [if_true] at hS;omega) (by decide) (by omega) hv rfl (by simp))
 ·rw [if_neg h8] at hvn
  have o1:=zTc (E/2^(fD n).w) a 3 (by omega) (by omega)
  rw [show ((E/2^(fD n).w*2^3:Nat):Int)=((E/2^(fD n).w:Nat):Int)*8 by omega,show E/2^(fD n).w*2^3+a=E/2^(fD n).w*8+a by omega] at o1
  generalize hV:E/2^(fD n).w*8+a=V at *
  have hV1:V<=31:=by omega
  have hVH:V*2^(fD n).w<=31*4096:=Nat.mul_le_mul hV1 H1
  have o5:=zTc V (E%2^(fD n).w) (fD n).w hLt (by omega)
  rw [← hvn,Int.natCast_mul] at o5
  generalize hF:vN true (fD n).w E a=Fw at *
  cases s
  ·exact zZz n _ _ _ _ _ _ _ _ _ _ x k w B.cD (by omega) (by omega) (by omega) (by omega) (by omega) (by omega) B.cN (E:Int) (fD n).w a _ _ _ hEx (by omega) (by omega) (by omega) (by omega) (by omega) (by omega) (by omega) w12 hH (by omega) (by omega) ha hQ (by omega) (by omega) hL _ (dlP (fD n).j rr) (dlP (fD n).j rr) 200 (10^(3*(fD n).j)) rr Fw _ cO cI cS hp cW cV (fun W v hv=>zDc hv.nv) cP cM (fun W v hv=>zQb (at_:=0) (by decide) (by omega) hv rfl (by omega)) o1 (by omega) (by omega) (by omega) (by rw [← Int.natCast_mul];omega) (by rw [← Int.natCast_mul];omega) o5 (by omega) (fun W v hv=>zIb (at_:=(fD n).t) (by omega) (by decide) (by omega) hv rfl (by simp))
  ·exact zVz n _ _ _ _ _ _ _ _ _ _ x k (2^((fD n).t+((fD n).w+5))) w B.cD (by omega) (by omega) (by omega) (by omega) (by omega) (by omega) B.cN (E:Int) (fD n).w a _ _ _ hEx (by omega) (by omega) (by omega) (by omega) (by omega) (by omega) (by omega) w12 hH (by omega) (by omega) ha hQ (by omega) (by omega) hL _ (2^((fD n).t+((fD n).w+5))+dlP (fD n).j rr) (dlP (fD n).j rr) 200 (10^(3*(fD n).j)) rr Fw _ cO cI cS (fun W v hv=>zQb (at_:=(fD n).t+((fD n).w+5)) (by decide) (by omega) hv (by omega) (by omega)) hp cW cV (fun W v hv=>zDc hv.nv) cP cM (fun W v hv=>zIb (at_:=0) (by omega) (by decide) (by omega) hv rfl (by omega)) o1 (by omega) (by omega) (by omega) (by rw [← Int.natCast_mul];omega) (by rw [← Int.natCast_mul];omega) o5 (by omega) (fun W v hv=>zIb (at_:=(fD n).t) (by simp only [if_true] at hS;omega) (by decide) (by omega) hv rfl (by simp))
theorem vpk_plain {n:Int}(h:zPd n)(hdn:(fD n).dn=false){s:Bool}{x:Int}{k:Nat}(w:World)(hk:k<10^(3*(fD n).j+1))(hx0:(fD n).l<=x)(hx1:x<=(fD n).l+3*2^(fD n).w-1) :
  CB 43 #[.int .i64 n,DV 1 s false x k] w (.tuple #[A4 (vP (fD n) ⟨1,s,false,x,k⟩),.int .i64 0]):=by
 have ho:=zCd n
 obtain ⟨w6,w12,t20,t110,j2,j11,t64,l0,l1,H0,H1⟩:=zWg ho
 have hI:vI (fD n) ⟨1,s,false,x,k⟩:=Or.inl ⟨rfl,rfl,hk,hx0,hx1⟩
 have p2:(2:Nat)^220<2^256:=by decide
 have pt:=zMp (a:=(fD n).t) (by omega)
 have p1:=zMp (a:=(fD n).t+((fD n).w+5)) (by omega)
 have hk34:k<2^256:=by
  have e:(10:Nat)^(3*(fD n).j+1)<=10^34:=Nat.pow_le_pow_right (by decide) (by omega)
  have e2:(10:Nat)^34<2^256:=by decide
  omega
 have B:=zB0 h (d:=⟨1,s,false,x,k⟩) hk34 hI
 have cO:=B.cO
 have cI:=B.cI
 have cS:=B.cS
 rw [hdn] at cO cI cS
 have ha:k/2^(fD n).t<=9:=by
  rcases ho with ⟨h1,h2,h3,h4⟩|⟨h1,h2,h3,h4⟩|⟨h1,h2,h3,h4⟩<;>rw [h3] at hk<;>rw [h1]<;>simp only [Nat.reducePow,Nat.reduceAdd,Nat.reduceMul] at*<;> omega
 have hrl:k%2^(fD n).t<2^(fD n).t:=Nat.mod_lt _ (Nat.two_pow_pos _)
 have e:vP (fD n) ⟨1,s,false,x,k⟩=(if s then 2^((fD n).t+((fD n).w+5)) else 0)+k%2^(fD n).t+vN false (fD n).w (x-(fD n).l).toNat (k/2^(fD n).t)*2^(fD n).t:=by
  unfold vP vPG vPR vQ
  simp only [show ¬ (1:Int)=2 by decide,show ¬ (1:Int)=3 by decide,if_false,hdn,Bool.false_eq_true]
  omega
 rw [e]
 have cR:∀ W vn,NT 4 k vn W->Calls Tryz.prog 93 #[vn,.int .i64 ((fD n).t:Int)] W fun r w'=>∃ g k' cap b,r=.returned (.tuple #[.slice (some ⟨g,0,none⟩) k' cap,.bool b])/\W.heap.size<=g/\NV 4 (k/2^(fD n).t) (.slice (some ⟨g,0,none⟩) k' cap) w'/\Below W.heap.size W w':=fun W vn hv=>zXs (fD n).t (by decide) (by omega) t64 hv.nv
 have cF:∀ W,CE 60 #[A4 k,.int .i64 0,.int .i64 ((fD n).t:Int)] W (NT 19 (k%2^(fD n).t)):=fun W=>by
  have:=zKe k 0 (fD n).t W hk34 (by decide) (by omega)
  rw [Nat.pow_zero,Nat.div_one] at this
  exact this
 generalize k/2^(fD n).t=a at *
 generalize k%2^(fD n).t=rr at *
 obtain ⟨E,hE⟩:∃ E:Nat,(x-(fD n).l).toNat=E:=⟨_,rfl⟩
 have hEx:x-(fD n).l=(E:Int):=by omega
 have hE3:E<3*2^(fD n).w:=by
  have e3:((3*2^(fD n).w:Nat):Int)=3*2^(fD n).w:=by simp
  omega
 rw [hE]
 have cM:∀ W v,NV 4 a v W->CQ 61 #[v] W (.int .i64 (a:Int)):=fun W v hv=>(zDj hv (by decide) (by omega)).mono fun r w' ⟨e1,e2⟩=>⟨e1,e2.symm⟩
 have hH:(2:Int)^(fD n).w=((2^(fD n).w:Nat):Int):=(zKb _).symm
 have hvn:vN false (fD n).w E a=(if 8<=a then 3*2^((fD n).w+3)+E*2+a%2 else E*8+a):=rfl
 have hS:(if s then 2^((fD n).t+((fD n).w+5)) else 0)<2^220:=by split<;>omega
 have w3:2^((fD n).w+3)=8*2^(fD n).w:=by rw [Nat.pow_add,Nat.mul_comm]
 have w2:2^((fD n).w+2)=4*2^(fD n).w:=by rw [Nat.pow_add,Nat.mul_comm]
 by_cases h8:8<=a
 ·rw [if_pos h8] at hvn
  have o2:=zTc 3 (E*2) ((fD n).w+3) (by omega) (by omega)
  rw [Int.natCast_mul 3,show ((E*2:Nat):Int)=(E:Int)*2 by omega] at o2
  have o3:bits .and .u64 (a:Int) 1=((a%2:Nat):Int):=zMm a 1 (by decide) (by omega)
  have o4:=zTc (3*2^((fD n).w+2)+E) (a%2) 1 (by omega) (by omega)
  rw [show (3*2^((fD n).w+2)+E)*2^1=3*2^((fD n).w+3)+E*2 by omega,← hvn] at o4
  have hH8:(2:Int)^((fD n).w+3)=((2^((fD n).w+3):Nat):Int):=(zKb _).symm
  generalize hF:vN false (fD n).w E a=Fw at *
  cases s
  ·exact zYz n _ _ _ _ _ _ _ _ _ _ x k w B.cD (by omega) (by omega) (by omega) (by omega) (by omega) (by omega) B.cN (E:Int) (fD n).w a _ hEx (by omega) (by omega) (by omega) (by omega) (by omega) (by omega) (by omega) w12 hH (by omega) (by omega) ha _ rr rr Fw _ _ _ _ cO cI cS cR cF cM (fun W v hv=>zQb (at_:=0) (by decide) (by omega) hv rfl (by omega)) rfl (by omega) hH8 (by omega) (by omega) o2 o3 o4 (by omega) (fun W v hv=>zIb (at_:=(fD n).t) (by omega) (by decide) (by omega) hv rfl (by simp))
  ·exact zUz n _ _ _ _ _ _ _ _ _ _ x k (2^((fD n).t+((fD n).w+5))) w B.cD (by omega) (by omega) (by omega) (by omega) (by omega) (by omega) B.cN (E:Int) (fD n).w a _ hEx (by omega) (by omega) (by omega) (by omega) (by omega) (by omega) (by omega) w12 hH (by omega) (by omega) ha _ (2^((fD n).t+((fD n).w+5))+rr) rr Fw _ _ _ _ cO cI cS (fun W v hv=>zQb (at_:=(fD n).t+((fD n).w+5)) (by decide) (by omega) hv (by omega) (by omega)) cR cF cM (fun W v hv=>zIb (at_:=0) (by omega) (by decide) (by omega) hv rfl (by omega)) rfl (by omega) hH8 (by omega) (by omega) o2 o3 o4 (by omega) (fun W v hv=>zIb (at_:=(fD n).t) (by simp only [if_true] at hS;omega) (by decide) (by omega) hv rfl (by simp))
 ·rw [if_neg h8] at hvn
  have o1:=zTc E a 3 (by omega) (by omega)
  rw [show ((E*2^3:Nat):Int)=(E:Int)*8 by omega,show E*2^3+a=E*8+a by omega,← hvn] at o1
  generalize hF:vN false (fD n).w E a=Fw at *
  cases s
  ·exact zXz n _ _ _ _ _ _ _ _ _ _ x k w B.cD (by omega) (by omega) (by omega) (by omega) (by omega) (by omega) B.cN (E:Int) (fD n).w a _ hEx (by omega) (by omega) (by omega) (by omega) (by omega) (by omega) (by omega) w12 hH (by omega) (by omega) ha _ rr rr Fw cO cI cS cR cF cM (fun W v hv=>zQb (at_:=0) (by decide) (by omega) hv rfl (by omega)) o1 (by omega) (by omega) (fun W v hv=>zIb (at_:=(fD n).t) (by omega) (by decide) (by omega) hv rfl (by simp))
  ·exact zTz n _ _ _ _ _ _ _ _ _ _ x k (2^((fD n).t+((fD n).w+5))) w B.cD (by omega) (by omega) (by omega) (by omega) (by omega) (by omega) B.cN (E:Int) (fD n).w a _ hEx (by omega) (by omega) (by omega) (by omega) (by omega) (by omega) (by omega) w12 hH (by omega) (by omega) ha _ (2^((fD n).t+((fD n).w+5))+rr) rr Fw cO cI cS (fun W v hv=>zQb (at_:=(fD n).t+((fD n).w+5)) (by decide) (by omega) hv (by omega) (by omega)) cR cF cM (fun W v hv=>zIb (at_:=0) (by omega) (by decide) (by omega) hv rfl (by omega)) o1 (by omega) (by omega) (fun W v hv=>zIb (at_:=(fD n).t) (by simp only [if_true] at hS;omega) (by decide) (by omega) hv rfl (by simp))
theorem rpk14 (n:Int)(d:Dat)(w:World)(hk:d.k<2^256) :
  CB 43 #[.int .i64 n,d.v] w (.tuple #[A4 (vPV n d),.int .i64 (vPE n d)]):=by
 unfold vPV vPE
 by_cases h:zPd n
 ·rw [if_pos h]
  by_cases hi:vI (fD n) d
  ·rw [if_pos ⟨h,hi⟩,if_pos hi]
   obtain ⟨c,s,g,x,k⟩:=d
   rcases id hi with ⟨c1,g1,k1,x1,x2⟩|⟨c1,g1,k1,x1⟩|⟨c1,x1,k1⟩
   ·simp only at c1 g1 k1 x1 x2
    subst c1 g1
    cases hdn:(fD n).dn
    ·exact vpk_plain h hdn w k1 x1 x2
    ·exact zZt h hdn w k1 x1 x2
   ·simp only at c1 g1 k1 x1
    subst c1 g1 k1 x1
    exact zP5 h w hi
   ·simp only at c1 k1 x1
    subst c1 x1
    exact zO5 h w k1
  ·rw [if_neg (fun q=>hi q.2),if_neg hi,zEd]
   refine vpk_i n d.c d.s d.g d.x d.k w (zMd n) _ _ (zKi n) _ _ _ _ (fun W=>?_) (fun W=>zAj h W) (fun W=>?_)
   ·have:=zUd n W
    rw [decide_eq_true h] at this
    exact this
   ·have:=ris14 (fD n) (zCd n) n (zMd n) (((fD n).t+((fD n).w+6):Nat):Int) (zKi n) (fD n).dn d W hk
    rw [decide_eq_false hi] at this
    exact this
 ·rw [if_neg (fun q=>h q.1),if_neg h,zEd]
  refine vpk_n n d.c d.s d.g d.x d.k w (fun W=>?_)
  have:=zUd n W
  rw [decide_eq_false h] at this
  exact this
end
section
def vUD (n:Int)(B:Nat):Dat:=if zWh n B then vM (fD n) B else ⟨0,false,false,0,0⟩
def vUC (n:Int)(B:Nat):Bool:=decide (zWh n B/\vP (fD n) (vM (fD n) B)=B)
def vUE (n:Int)(B:Nat):Int:=if zWh n B then 0 else 1
theorem zR5 (n:Int)(B:Nat):(vUD n B).k<2^256:=by
 unfold vUD
 split
 ·exact zR3 (zCd n) B
 ·decide
theorem zS2 {X Y:Nat}(hX:X<2^256)(hY:Y<2^256):decide (W4 X 0=W4 Y 0/\W4 X 1=W4 Y 1/\W4 X 2=W4 Y 2/\W4 X 3=W4 Y 3)=decide (X=Y):=by
 refine decide_eq_decide.2 ⟨fun ⟨h0,h1,h2,h3⟩=>zEs hX hY fun i hi=>?_,fun h=>by rw [h];exact ⟨rfl,rfl,rfl,rfl⟩⟩
 have:i=0∨i=1∨i=2∨i=3:=by omega
 rcases this with rfl|rfl|rfl|rfl
 ·exact h0
 ·exact h1
 ·exact h2
 ·exact h3
attribute [local irreducible] W4
section
variable (n:Int)(B:Nat)(w:World)
end
theorem zero_v:(Dat.mk 0 false false 0 0).v=.agg #[.int .i64 0,.bool false,.bool false,.int .i64 0,.int .u64 0,.int .u64 0,.int .u64 0,.int .u64 0]:=by unfold Dat.v DV;simp only [zNa]
end
end Go.Proofs.YtahfkpjhlbiamaaGreatDoor
