/-
  Texts that the proof leans on.
-/
import Derived.Test.YtahfkpjhlbiamaaGreatDoorJ33
import Derived.Test.YtahfkpjhlbiamaaGreatDoorJ31
import Derived.Test.YtahfkpjhlbiamaaGreatDoorJ1
import Derived.Test.YtahfkpjhlbiamaaGreatDoorJ35
import Derived.Test.YtahfkpjhlbiamaaGreatDoorJ37
import Derived.Test.YtahfkpjhlbiamaaGreatDoorJ34
import Derived.Test.YtahfkpjhlbiamaaGreatDoorJ16
import Derived.Test.YtahfkpjhlbiamaaGreatDoorJ26
import Derived.Test.YtahfkpjhlbiamaaGreatDoorJ18
import Derived.Test.YtahfkpjhlbiamaaGreatDoorJ11
import Derived.Test.YtahfkpjhlbiamaaGreatDoorJ13
import Derived.Test.YtahfkpjhlbiamaaGreatDoorJ24
import Derived.Test.YtahfkpjhlbiamaaGreatDoorJ21
import Derived.Test.YtahfkpjhlbiamaaGreatDoorJ3
import Derived.Test.YtahfkpjhlbiamaaGreatDoorJ19
import Derived.Test.YtahfkpjhlbiamaaGreatDoorJ22
import Derived.Test.YtahfkpjhlbiamaaGreatDoorJ36
import Derived.Deep.MidRow
import Derived.Test.YtahfkpjhlbiamaaGreatDoorJ8
import Derived.RegionTactic
import Derived.ChangeAlike
import Derived.BigRegion
import Derived.Laws.Strings2
import Derived.Test.YtahfkpjhlbiamaaGreatDoorJ23
import Derived.Test.YtahfkpjhlbiamaaGreatDoorJ17
import Derived.Test.YtahfkpjhlbiamaaGreatDoorJ20
import Derived.Test.YtahfkpjhlbiamaaGreatDoorJ27
import Derived.Test.YtahfkpjhlbiamaaGreatDoorJ30
import Derived.Test.YtahfkpjhlbiamaaGreatDoorJ29
import Derived.Test.YtahfkpjhlbiamaaGreatDoorJ32
import Derived.Test.YtahfkpjhlbiamaaGreatDoorJ28
set_option maxHeartbeats 8000000
set_option linter.unusedVariables false
set_option linter.unusedSectionVars false
set_option linter.unusedSimpArgs false
set_option maxRecDepth 20000
namespace Go.Proofs.YtahfkpjhlbiamaaGreatDoor
open Go.RowKit
section
def vPV (n:Int)(d:Dat):Nat:=if zYb n/\vI (fD n) d then vP (fD n) d else 0
def vPE (n:Int)(d:Dat):Int:=if zYb n then (if vI (fD n) d then 0 else 3) else 1
theorem zJc (y b r:Nat)(hb:b<2^r)(h:y*2^r+b<18446744073709551616):bits .or .u64 ((y*2^r:Nat):Int) (b:Int)=((y*2^r+b:Nat):Int):=by
 have e:=zYf ((y*2^r:Nat):Int) (b:Int) (by omega) (by omega)
 unfold orW at e
 rw [e,Int.toNat_natCast,Int.toNat_natCast,Nat.mul_comm y,← Nat.two_pow_add_eq_or_of_lt hb]
theorem zDd (y r:Nat)(hr:r<64)(hy:y<18446744073709551616):bits .and .u64 (y:Int) ((2^r:Nat)-1:Int)=((y%2^r:Nat):Int):=by
 have e:=zUf (y:=(y:Int)) (r:=r) (by omega) hr
 rw [← zCb] at e
 rw [e,Int.natCast_emod]
theorem lay_z (A at_ K:Nat)(v:Value)(w:World)(hK:K<900)(ha:at_<=600)(h:NV K A v w) :
  CB 90 #[Z4,v,.int .i64 at_] w (A4 (A*2^at_)):=by
 have:=zFq 0 A at_ K v w (by decide) hK ha h
 rw [zBc,Nat.zero_add] at this
 exact this
section
variable (n:Int)(C:Int)(s g:Bool)(x:Int)(k:Nat)(w:World)
theorem vpk_n (c35:∀ W,CQ 15 #[.int .i64 n] W (.bool false)) :
  CB 43 #[.int .i64 n,DV C s g x k] w (.tuple #[Z4,.int .i64 1]):=by
 have hsm:=zAa
 go_enter Tryz.func43,Tryz.ntmps43
 go_wp2_with (go_at_call 15;refine (c35 _).mono ?_;rintro r w0 ⟨rfl,rfl⟩)
 exact bodyPost_ret (v:=.tuple #[Z4,.int .i64 1]) (by simp only [results,Tryz.results43];go_simp) rfl ⟨rfl,bgo⟩
theorem vpk_i (nm:ByteArray)(wd pr ex le mo pa:Int)(dn:Bool)
  (c35:∀ W,CQ 15 #[.int .i64 n] W (.bool true))
  (cO:∀ W,CB 20 #[.int .i64 n] W (.tuple #[zYa n nm wd pr ex le mo pa dn,.int .i64 0]))
  (cI:∀ W,CB 89 #[zYa n nm wd pr ex le mo pa dn,DV C s g x k] W (.bool false)) :
  CB 43 #[.int .i64 n,DV C s g x k] w (.tuple #[Z4,.int .i64 3]):=by
 have hsm:=zAa
 go_enter Tryz.func43,Tryz.ntmps43
 go_wp2_with (first
  | (go_at_call 15;refine (c35 _).mono ?_;rintro r w0 ⟨rfl,rfl⟩)
  | (go_at_call 20;refine wk w (cO _) ?_;intro w1 hb1 _ _ _ _ hA1 _;obtain ⟨_,_⟩:=zf hb1 (w.heap.size+1);clear hb1)
  | (go_at_call 89;refine wk w (cI _) ?_;intro w2 hb2 _ _ _ _ hA2 _;obtain ⟨_,_,_,_⟩:=zg hb2 (w.heap.size+1) w1.heap.size;clear hb2))
 exact bodyPost_ret (v:=.tuple #[Z4,.int .i64 3]) (by simp only [results,Tryz.results43];go_simp) rfl ⟨rfl,bgo⟩
end
structure VB (n:Int) (C:Int) (s g:Bool) (x:Int) (k:Nat):Prop where
 cD:∀ W,CQ 15 #[.int .i64 n] W (.bool true)
 cO:∀ W,CB 20 #[.int .i64 n] W (.tuple #[zYa n (zBd n) (((fD n).t+((fD n).w+6):Nat):Int) (3*((fD n).j:Int)+1) (zYh n) (fD n).l ((fD n).l+3*2^(fD n).w-1) (3*((fD n).j:Int)) (fD n).dn,.int .i64 0])
 cI:∀ W,CB 89 #[zYa n (zBd n) (((fD n).t+((fD n).w+6):Nat):Int) (3*((fD n).j:Int)+1) (zYh n) (fD n).l ((fD n).l+3*2^(fD n).w-1) (3*((fD n).j:Int)) (fD n).dn,DV C s g x k] W (.bool true)
 cS:∀ W,CB 83 #[zYa n (zBd n) (((fD n).t+((fD n).w+6):Nat):Int) (3*((fD n).j:Int)+1) (zYh n) (fD n).l ((fD n).l+3*2^(fD n).w-1) (3*((fD n).j:Int)) (fD n).dn] W (.tuple #[.int .i64 (((fD n).w:Int)+5),.int .i64 ((fD n).t:Int),.int .i64 ((fD n).j:Int)])
 cN:∀ W,Calls Tryz.prog 66 #[A4 k] W fun r w'=>∃ g n cap,r=.returned (.slice (some ⟨g,0,none⟩) n cap)/\W.heap.size<g/\NT 4 k (.slice (some ⟨g,0,none⟩) n cap) w'/\Below W.heap.size W w'
theorem zW1 {n:Int}(h:zYb n){d:Dat}(hk:d.k<2^256)(hi:vI (fD n) d):VB n d.c d.s d.g d.x d.k:=by
 refine ⟨fun W=>?_,fun W=>zTp h W,fun W=>?_,fun W=>zXo h _ _ _ _ _ _ W,fun W=>zX5 _ W hk⟩
 ·have:=zWb n W
  rw [decide_eq_true h] at this
  exact this
 ·have:=ris14 (fD n) (zTb n) n (zBd n) (((fD n).t+((fD n).w+6):Nat):Int) (zYh n) (fD n).dn d W hk
  rw [decide_eq_true hi] at this
  exact this
theorem zKc {f:DF}(h:f.ok):6<=f.w/\f.w<=12/\20<=f.t/\f.t<=110/\2<=f.j/\f.j<=11/\f.t%64≠0/\-6176<=f.l/\f.l<=-101/\64<=2^f.w/\2^f.w<=4096:=by
 rcases h with ⟨h1,h2,h3,h4⟩|⟨h1,h2,h3,h4⟩|⟨h1,h2,h3,h4⟩<;>rw [h1,h2,h3,h4]<;>decide
theorem zHb {B A at_ K R:Nat}{T:Int}{v:Value}{w:World}(hB:B<2^256)(hK:K<900)(ha:at_<=600)(h:NV K A v w)(hT:(at_:Int)=T)(hR:B+A*2^at_=R) :
  CB 90 #[A4 B,v,.int .i64 T] w (A4 R):=by
 subst hT hR
 exact zFq B A at_ K v w hB hK ha h
theorem zPb {A at_ K R:Nat}{T:Int}{v:Value}{w:World}(hK:K<900)(ha:at_<=600)(h:NV K A v w)(hT:(at_:Int)=T)(hR:A*2^at_=R) :
  CB 90 #[Z4,v,.int .i64 T] w (A4 R):=by
 subst hT hR
 exact lay_z A at_ K v w hK ha h
theorem zTj {a:Nat}(h:a<=200):2^a<2^220:=Nat.pow_lt_pow_right (by decide) (by omega)
theorem zL7 {n:Int}(h:zYb n){s:Bool}(w:World)(hi:vI (fD n) ⟨2,s,false,0,0⟩) :
  CB 43 #[.int .i64 n,DV 2 s false 0 0] w (.tuple #[A4 (vP (fD n) ⟨2,s,false,0,0⟩),.int .i64 0]):=by
 have B:=zW1 h (d:=⟨2,s,false,0,0⟩) (show (0:Nat)<2^256 by decide) hi
 obtain ⟨w6,w12,t20,t110,j2,j11,t64,l0,l1,H0,H1⟩:=zKc (zTb n)
 have e:vP (fD n) ⟨2,s,false,0,0⟩=(if s then 2^((fD n).t+((fD n).w+5)) else 0)+30*2^((fD n).t+(fD n).w):=by
  unfold vP vPG vPR
  simp only [if_true,Nat.add_zero]
  rw [Nat.mul_assoc,← Nat.pow_add,Nat.add_comm (fD n).w (fD n).t]
 rw [e]
 have p1:=zTj (a:=(fD n).t+((fD n).w+5)) (by omega)
 have p2:(2:Nat)^220<2^256:=by decide
 cases s
 ·exact vpk2_f n _ _ _ _ _ _ _ _ _ _ 0 0 w B.cD (by omega) (by omega) (by omega) (by omega) (by omega) (by omega) B.cN _ false _ B.cO B.cI B.cS (fun W v hv=>zPb (at_:=(fD n).t+(fD n).w) (by decide) (by omega) hv (by omega) (by simp))
 ·exact vpk2_t n _ _ _ _ _ _ _ _ _ _ 0 0 (2^((fD n).t+((fD n).w+5))) w B.cD (by omega) (by omega) (by omega) (by omega) (by omega) (by omega) B.cN _ false _ B.cO B.cI B.cS (fun W v hv=>zPb (at_:=(fD n).t+((fD n).w+5)) (by decide) (by omega) hv (by omega) (by omega)) (fun W v hv=>zHb (at_:=(fD n).t+(fD n).w) (by omega) (by decide) (by omega) hv (by omega) (by simp))
theorem zK7 {n:Int}(h:zYb n){s g:Bool}{k:Nat}(w:World)(hk:k<10^(3*(fD n).j)) :
  CB 43 #[.int .i64 n,DV 3 s g 0 k] w (.tuple #[A4 (vP (fD n) ⟨3,s,g,0,k⟩),.int .i64 0]):=by
 have ho:=zTb n
 obtain ⟨w6,w12,t20,t110,j2,j11,t64,l0,l1,H0,H1⟩:=zKc ho
 have p2:(2:Nat)^220<2^256:=by decide
 have hk2:k<2^(fD n).t:=by
  refine Nat.lt_of_lt_of_le hk ?_
  rcases ho with ⟨h1,h2,h3,h4⟩|⟨h1,h2,h3,h4⟩|⟨h1,h2,h3,h4⟩<;>rw [h1,h3]<;>decide
 have pt:=zTj (a:=(fD n).t) (by omega)
 have p1:=zTj (a:=(fD n).t+((fD n).w+5)) (by omega)
 have x5:2^((fD n).t+((fD n).w+5))=32*2^((fD n).t+(fD n).w):=by rw [← Nat.add_assoc,Nat.pow_add,Nat.mul_comm]
 have x0:2^((fD n).t+(fD n).w)=2*2^((fD n).t+(fD n).w-1):=by rw [← Nat.pow_succ'];congr 1;omega
 have hpl:dlP (fD n).j k<2^(fD n).t:=by rw [ho.pt];exact zMl _ _
 have hp:dlP (fD n).j k<2^256:=by omega
 have B:=zW1 h (d:=⟨3,s,g,0,k⟩) (show k<2^256 by omega) (Or.inr (Or.inr ⟨rfl,rfl,hk⟩))
 have cP:∀ W,CB 91 #[A4 k,.int .i64 ((fD n).j:Int)] W (.tuple #[A4 (dlP (fD n).j k),.int .i64 0]):=fun W=>by
  have:=zLr k ((fD n).j:Int) W (by omega)
  have c1:(0:Int)<=((fD n).j:Int)/\((fD n).j:Int)<=11:=by omega
  rw [zC2] at hk
  unfold dPv dPe at this
  rw [if_pos c1,if_pos c1,Int.toNat_natCast,if_pos hk,if_pos hk] at this
  exact this
 have e:vP (fD n) ⟨3,s,g,0,k⟩=(if s then 2^((fD n).t+((fD n).w+5)) else 0)+31*2^((fD n).t+(fD n).w)+(if g then 2^((fD n).t+(fD n).w-1) else 0)+(if (fD n).dn then dlP (fD n).j k else k):=by
  unfold vP vPG vPR
  simp only [show ¬ (3:Int)=2 by decide,if_false,if_true]
  rw [Nat.add_mul,Nat.mul_assoc,← Nat.pow_add,Nat.add_comm (fD n).w (fD n).t]
  have e2:(if g then 2^((fD n).w-1) else 0)*2^(fD n).t=(if g then 2^((fD n).t+(fD n).w-1) else 0):=by
   cases g
   ·simp
   ·simp only [if_true]
    rw [← Nat.pow_add];congr 1;omega
  rw [e2]
  simp only [Nat.add_assoc]
 rw [e]
 have cO:=B.cO
 have cI:=B.cI
 have cS:=B.cS
 cases hdn:(fD n).dn<;>rw [hdn] at cO cI cS<;>cases s<;>cases g<;>simp only [Bool.false_eq_true,if_false,if_true,Nat.zero_add,Nat.add_zero]
 ·exact zN1 n _ _ _ _ _ _ _ _ _ _ 0 k w B.cD (by omega) (by omega) (by omega) (by omega) (by omega) (by omega) B.cN _ (31*2^((fD n).t+(fD n).w)) cO cI cS (fun W v hv=>zPb (at_:=(fD n).t+(fD n).w) (by decide) (by omega) hv (by omega) rfl) (fun W v hv=>zHb (at_:=0) (by omega) (by decide) (by omega) hv rfl (by omega))
 ·exact zL1 n _ _ _ _ _ _ _ _ _ _ 0 k w B.cD (by omega) (by omega) (by omega) (by omega) (by omega) (by omega) B.cN _ (31*2^((fD n).t+(fD n).w)) (31*2^((fD n).t+(fD n).w)+2^((fD n).t+(fD n).w-1)) cO cI cS (fun W v hv=>zPb (at_:=(fD n).t+(fD n).w) (by decide) (by omega) hv (by omega) rfl) (fun W v hv=>zHb (at_:=(fD n).t+(fD n).w-1) (by omega) (by decide) (by omega) hv (by omega) (by omega)) (fun W v hv=>zHb (at_:=0) (by omega) (by decide) (by omega) hv rfl (by omega))
 ·exact zJ1 n _ _ _ _ _ _ _ _ _ _ 0 k (2^((fD n).t+((fD n).w+5))) w B.cD (by omega) (by omega) (by omega) (by omega) (by omega) (by omega) B.cN _ (2^((fD n).t+((fD n).w+5))+31*2^((fD n).t+(fD n).w)) cO cI cS (fun W v hv=>zPb (at_:=(fD n).t+((fD n).w+5)) (by decide) (by omega) hv (by omega) (by omega)) (fun W v hv=>zHb (at_:=(fD n).t+(fD n).w) (by omega) (by decide) (by omega) hv (by omega) rfl) (fun W v hv=>zHb (at_:=0) (by omega) (by decide) (by omega) hv rfl (by omega))
 ·exact zH1 n _ _ _ _ _ _ _ _ _ _ 0 k (2^((fD n).t+((fD n).w+5))) w B.cD (by omega) (by omega) (by omega) (by omega) (by omega) (by omega) B.cN _ (2^((fD n).t+((fD n).w+5))+31*2^((fD n).t+(fD n).w)) (2^((fD n).t+((fD n).w+5))+31*2^((fD n).t+(fD n).w)+2^((fD n).t+(fD n).w-1)) cO cI cS (fun W v hv=>zPb (at_:=(fD n).t+((fD n).w+5)) (by decide) (by omega) hv (by omega) (by omega)) (fun W v hv=>zHb (at_:=(fD n).t+(fD n).w) (by omega) (by decide) (by omega) hv (by omega) rfl) (fun W v hv=>zHb (at_:=(fD n).t+(fD n).w-1) (by omega) (by decide) (by omega) hv (by omega) (by omega)) (fun W v hv=>zHb (at_:=0) (by omega) (by decide) (by omega) hv rfl (by omega))
 ·exact zM1 n _ _ _ _ _ _ _ _ _ _ 0 k w B.cD (by omega) (by omega) (by omega) (by omega) (by omega) (by omega) B.cN _ (31*2^((fD n).t+(fD n).w)) (dlP (fD n).j k) cO cI cS (fun W v hv=>zPb (at_:=(fD n).t+(fD n).w) (by decide) (by omega) hv (by omega) rfl) hp cP (fun W v hv=>zHb (at_:=0) (by omega) (by decide) (by omega) hv rfl (by omega))
 ·exact zK1 n _ _ _ _ _ _ _ _ _ _ 0 k w B.cD (by omega) (by omega) (by omega) (by omega) (by omega) (by omega) B.cN _ (31*2^((fD n).t+(fD n).w)) (31*2^((fD n).t+(fD n).w)+2^((fD n).t+(fD n).w-1)) (dlP (fD n).j k) cO cI cS (fun W v hv=>zPb (at_:=(fD n).t+(fD n).w) (by decide) (by omega) hv (by omega) rfl) (fun W v hv=>zHb (at_:=(fD n).t+(fD n).w-1) (by omega) (by decide) (by omega) hv (by omega) (by omega)) hp cP (fun W v hv=>zHb (at_:=0) (by omega) (by decide) (by omega) hv rfl (by omega))
 ·exact zI1 n _ _ _ _ _ _ _ _ _ _ 0 k (2^((fD n).t+((fD n).w+5))) w B.cD (by omega) (by omega) (by omega) (by omega) (by omega) (by omega) B.cN _ (2^((fD n).t+((fD n).w+5))+31*2^((fD n).t+(fD n).w)) (dlP (fD n).j k) cO cI cS (fun W v hv=>zPb (at_:=(fD n).t+((fD n).w+5)) (by decide) (by omega) hv (by omega) (by omega)) (fun W v hv=>zHb (at_:=(fD n).t+(fD n).w) (by omega) (by decide) (by omega) hv (by omega) rfl) hp cP (fun W v hv=>zHb (at_:=0) (by omega) (by decide) (by omega) hv rfl (by omega))
 ·exact zG1 n _ _ _ _ _ _ _ _ _ _ 0 k (2^((fD n).t+((fD n).w+5))) w B.cD (by omega) (by omega) (by omega) (by omega) (by omega) (by omega) B.cN _ (2^((fD n).t+((fD n).w+5))+31*2^((fD n).t+(fD n).w)) (2^((fD n).t+((fD n).w+5))+31*2^((fD n).t+(fD n).w)+2^((fD n).t+(fD n).w-1)) (dlP (fD n).j k) cO cI cS (fun W v hv=>zPb (at_:=(fD n).t+((fD n).w+5)) (by decide) (by omega) hv (by omega) (by omega)) (fun W v hv=>zHb (at_:=(fD n).t+(fD n).w) (by omega) (by decide) (by omega) hv (by omega) rfl) (fun W v hv=>zHb (at_:=(fD n).t+(fD n).w-1) (by omega) (by decide) (by omega) hv (by omega) (by omega)) hp cP (fun W v hv=>zHb (at_:=0) (by omega) (by decide) (by omega) hv rfl (by omega))
theorem zFv {n:Int}(h:zYb n)(hdn:(fD n).dn=true){s:Bool}{x:Int}{k:Nat}(w:World)(hk:k<10^(3*(fD n).j+1))(hx0:(fD n).l<=x)(hx1:x<=(fD n).l+3*2^(fD n).w-1) :
  CB 43 #[.int .i64 n,DV 1 s false x k] w (.tuple #[A4 (vP (fD n) ⟨1,s,false,x,k⟩),.int .i64 0]):=by
 have ho:=zTb n
 obtain ⟨w6,w12,t20,t110,j2,j11,t64,l0,l1,H0,H1⟩:=zKc ho
 have hI:vI (fD n) ⟨1,s,false,x,k⟩:=Or.inl ⟨rfl,rfl,hk,hx0,hx1⟩
 have hPG:=zXk ho hI
 have p2:(2:Nat)^220<2^256:=by decide
 have pt:=zTj (a:=(fD n).t) (by omega)
 have p1:=zTj (a:=(fD n).t+((fD n).w+5)) (by omega)
 have hk34:k<2^256:=by
  have e:(10:Nat)^(3*(fD n).j+1)<=10^34:=Nat.pow_le_pow_right (by decide) (by omega)
  have e2:(10:Nat)^34<2^256:=by decide
  omega
 have B:=zW1 h (d:=⟨1,s,false,x,k⟩) hk34 hI
 have cO:=B.cO
 have cI:=B.cI
 have cS:=B.cS
 rw [hdn] at cO cI cS
 have hD:0<(10:Nat)^(3*(fD n).j):=Nat.pow_pos (by decide)
 have ha:k/10^(3*(fD n).j)<=9:=by
  have:k/10^(3*(fD n).j)<10:=by
   rw [Nat.div_lt_iff_lt_mul hD,← Nat.pow_succ']
   exact hk
  omega
 have hr:k%10^(3*(fD n).j)<1000^(fD n).j:=by rw [← zC2];exact Nat.mod_lt _ hD
 have hpl:dlP (fD n).j (k%10^(3*(fD n).j))<2^(fD n).t:=by rw [ho.pt];exact zMl _ _
 have e:vP (fD n) ⟨1,s,false,x,k⟩=(if s then 2^((fD n).t+((fD n).w+5)) else 0)+dlP (fD n).j (k%10^(3*(fD n).j))+vN true (fD n).w (x-(fD n).l).toNat (k/10^(3*(fD n).j))*2^(fD n).t:=by
  unfold vP vPG vPR vQ
  simp only [show ¬ (1:Int)=2 by decide,show ¬ (1:Int)=3 by decide,if_false,hdn,if_true]
  omega
 rw [e]
 have hrr:k%10^(3*(fD n).j)<2^256:=by have:=Nat.mod_le k (10^(3*(fD n).j));omega
 generalize hka:k/10^(3*(fD n).j)=a at *
 generalize hkr:k%10^(3*(fD n).j)=rr at *
 obtain ⟨E,hE⟩:∃ E:Nat,(x-(fD n).l).toNat=E:=⟨_,rfl⟩
 have hEx:x-(fD n).l=(E:Int):=by omega
 have hE3:E<3*2^(fD n).w:=by
  have e3:((3*2^(fD n).w:Nat):Int)=3*2^(fD n).w:=by simp
  omega
 rw [hE]
 have cW:∀ W,CE 64 #[.int .u64 10,.int .i64 (3*((fD n).j:Int))] W (NT 200 (10^(3*(fD n).j))):=fun W=>by
  have:=zY8 10 (3*(fD n).j) W (by decide) (by decide) (by omega)
  rw [show ((3*(fD n).j:Nat):Int)=3*((fD n).j:Int) by omega] at this
  exact this.mono fun r w' ⟨v,e1,e2,e3⟩=>⟨v,e1,e2.more (by omega),e3⟩
 have cV:∀ W vn vd,NT 4 k vn W->NT 200 (10^(3*(fD n).j)) vd W->Calls Tryz.prog 92 #[vn,vd] W fun r w'=>∃ g k cap v,r=.returned (.tuple #[.slice (some ⟨g,0,none⟩) k cap,v])/\W.heap.size<=g/\NV 41000 a (.slice (some ⟨g,0,none⟩) k cap) w'/\NT 41000 rr v w'/\Below W.heap.size W w':=fun W vn vd h1 h2=>by
  have:=zQw (K:=200) (by decide) (h1.more (by decide)) h2 (by omega)
  rw [hka,hkr] at this
  exact this
 have cP:∀ W,CB 91 #[A4 rr,.int .i64 ((fD n).j:Int)] W (.tuple #[A4 (dlP (fD n).j rr),.int .i64 0]):=fun W=>by
  have:=zLr rr ((fD n).j:Int) W hrr
  have c1:(0:Int)<=((fD n).j:Int)/\((fD n).j:Int)<=11:=by omega
  unfold dPv dPe at this
  rw [if_pos c1,if_pos c1,Int.toNat_natCast,if_pos hr,if_pos hr] at this
  exact this
 have cM:∀ W v,NV 41000 a v W->CQ 61 #[v] W (.int .i64 (a:Int)):=fun W v hv=>(zQe hv (by decide) (by omega)).mono fun r w' ⟨e1,e2⟩=>⟨e1,e2.symm⟩
 have hp:dlP (fD n).j rr<2^256:=by omega
 have hQ2:E/2^(fD n).w<=2:=by
  have:E/2^(fD n).w<3:=by rw [Nat.div_lt_iff_lt_mul (Nat.two_pow_pos _)];exact hE3
  omega
 have hLt:E%2^(fD n).w<2^(fD n).w:=Nat.mod_lt _ (Nat.two_pow_pos _)
 have hH:(2:Int)^(fD n).w=((2^(fD n).w:Nat):Int):=(zCb _).symm
 have hL:=zDd E (fD n).w (by omega) (by omega)
 have hQ:(E:Int)/((2^(fD n).w:Nat):Int)=((E/2^(fD n).w:Nat):Int):=by simp
 have hvn:vN true (fD n).w E a=(if 8<=a then 24+E/2^(fD n).w*2+a%2 else E/2^(fD n).w*8+a)*2^(fD n).w+E%2^(fD n).w:=rfl
 have x5:2^((fD n).t+((fD n).w+5))=32*(2^(fD n).w*2^(fD n).t):=by rw [← Nat.pow_add,show (32:Nat)=2^5 by decide,← Nat.pow_add];congr 1;omega
 have hS:(if s then 2^((fD n).t+((fD n).w+5)) else 0)<2^220:=by split<;>omega
 by_cases h8:8<=a
 ·rw [if_pos h8] at hvn
  have o2:=zJc 3 (E/2^(fD n).w*2) 3 (by omega) (by omega)
  rw [show ((3*2^3:Nat):Int)=24 by decide,show ((E/2^(fD n).w*2:Nat):Int)=((E/2^(fD n).w:Nat):Int)*2 by omega] at o2
  have o3:bits .and .u64 (a:Int) 1=((a%2:Nat):Int):=zDd a 1 (by decide) (by omega)
  have o4:=zJc (12+E/2^(fD n).w) (a%2) 1 (by omega) (by omega)
  rw [show (((12+E/2^(fD n).w)*2^1:Nat):Int)=((3*2^3+E/2^(fD n).w*2:Nat):Int) by omega,show (12+E/2^(fD n).w)*2^1+a%2=24+E/2^(fD n).w*2+a%2 by omega] at o4
  generalize hV:24+E/2^(fD n).w*2+a%2=V at *
  have hV1:V<=31:=by omega
  have hVH:V*2^(fD n).w<=31*4096:=Nat.mul_le_mul hV1 H1
  have o5:=zJc V (E%2^(fD n).w) (fD n).w hLt (by omega)
  rw [← hvn,Int.natCast_mul] at o5
  generalize hF:vN true (fD n).w E a=Fw at *
  cases s
  ·exact zV1 n _ _ _ _ _ _ _ _ _ _ x k w B.cD (by omega) (by omega) (by omega) (by omega) (by omega) (by omega) B.cN (E:Int) (fD n).w a _ _ _ hEx (by omega) (by omega) (by omega) (by omega) (by omega) (by omega) (by omega) w12 hH (by omega) (by omega) ha hQ (by omega) (by omega) hL _ (dlP (fD n).j rr) (dlP (fD n).j rr) 200 (10^(3*(fD n).j)) rr Fw _ _ _ _ cO cI cS hp cW cV (fun W v hv=>zTd hv.nv) cP cM (fun W v hv=>zPb (at_:=0) (by decide) (by omega) hv rfl (by omega)) rfl (by omega) o2 o3 o4 (by omega) (by omega) (by rw [← Int.natCast_mul];omega) (by rw [← Int.natCast_mul];omega) o5 (by omega) (fun W v hv=>zHb (at_:=(fD n).t) (by omega) (by decide) (by omega) hv rfl (by simp))
  ·exact zR1 n _ _ _ _ _ _ _ _ _ _ x k (2^((fD n).t+((fD n).w+5))) w B.cD (by omega) (by omega) (by omega) (by omega) (by omega) (by omega) B.cN (E:Int) (fD n).w a _ _ _ hEx (by omega) (by omega) (by omega) (by omega) (by omega) (by omega) (by omega) w12 hH (by omega) (by omega) ha hQ (by omega) (by omega) hL _ (2^((fD n).t+((fD n).w+5))+dlP (fD n).j rr) (dlP (fD n).j rr) 200 (10^(3*(fD n).j)) rr Fw _ _ _ _ cO cI cS (fun W v hv=>zPb (at_:=(fD n).t+((fD n).w+5)) (by decide) (by omega) hv (by omega) (by omega)) hp cW cV (fun W v hv=>zTd hv.nv) cP cM (fun W v hv=>zHb (at_:=0) (by omega) (by decide) (by omega) hv rfl (by omega)) rfl (by omega) o2 o3 o4 (by omega) (by omega) (by rw [← Int.natCast_mul];omega) (by rw [← Int.natCast_mul];omega) o5 (by omega) (fun W v hv=>zHb (at_:=(fD n).t) (by simp only [if_true] at hS;omega) (by decide) (by omega) hv rfl (by simp))
 ·rw [if_neg h8] at hvn
  have o1:=zJc (E/2^(fD n).w) a 3 (by omega) (by omega)
  rw [show ((E/2^(fD n).w*2^3:Nat):Int)=((E/2^(fD n).w:Nat):Int)*8 by omega,show E/2^(fD n).w*2^3+a=E/2^(fD n).w*8+a by omega] at o1
  generalize hV:E/2^(fD n).w*8+a=V at *
  have hV1:V<=31:=by omega
  have hVH:V*2^(fD n).w<=31*4096:=Nat.mul_le_mul hV1 H1
  have o5:=zJc V (E%2^(fD n).w) (fD n).w hLt (by omega)
  rw [← hvn,Int.natCast_mul] at o5
  generalize hF:vN true (fD n).w E a=Fw at *
  cases s
  ·exact zU1 n _ _ _ _ _ _ _ _ _ _ x k w B.cD (by omega) (by omega) (by omega) (by omega) (by omega) (by omega) B.cN (E:Int) (fD n).w a _ _ _ hEx (by omega) (by omega) (by omega) (by omega) (by omega) (by omega) (by omega) w12 hH (by omega) (by omega) ha hQ (by omega) (by omega) hL _ (dlP (fD n).j rr) (dlP (fD n).j rr) 200 (10^(3*(fD n).j)) rr Fw _ cO cI cS hp cW cV (fun W v hv=>zTd hv.nv) cP cM (fun W v hv=>zPb (at_:=0) (by decide) (by omega) hv rfl (by omega)) o1 (by omega) (by omega) (by omega) (by rw [← Int.natCast_mul];omega) (by rw [← Int.natCast_mul];omega) o5 (by omega) (fun W v hv=>zHb (at_:=(fD n).t) (by omega) (by decide) (by omega) hv rfl (by simp))
  ·exact zQ1 n _ _ _ _ _ _ _ _ _ _ x k (2^((fD n).t+((fD n).w+5))) w B.cD (by omega) (by omega) (by omega) (by omega) (by omega) (by omega) B.cN (E:Int) (fD n).w a _ _ _ hEx (by omega) (by omega) (by omega) (by omega) (by omega) (by omega) (by omega) w12 hH (by omega) (by omega) ha hQ (by omega) (by omega) hL _ (2^((fD n).t+((fD n).w+5))+dlP (fD n).j rr) (dlP (fD n).j rr) 200 (10^(3*(fD n).j)) rr Fw _ cO cI cS (fun W v hv=>zPb (at_:=(fD n).t+((fD n).w+5)) (by decide) (by omega) hv (by omega) (by omega)) hp cW cV (fun W v hv=>zTd hv.nv) cP cM (fun W v hv=>zHb (at_:=0) (by omega) (by decide) (by omega) hv rfl (by omega)) o1 (by omega) (by omega) (by omega) (by rw [← Int.natCast_mul];omega) (by rw [← Int.natCast_mul];omega) o5 (by omega) (fun W v hv=>zHb (at_:=(fD n).t) (by simp only [if_true] at hS;omega) (by decide) (by omega) hv rfl (by simp))
theorem vpk_plain {n:Int}(h:zYb n)(hdn:(fD n).dn=false){s:Bool}{x:Int}{k:Nat}(w:World)(hk:k<10^(3*(fD n).j+1))(hx0:(fD n).l<=x)(hx1:x<=(fD n).l+3*2^(fD n).w-1) :
  CB 43 #[.int .i64 n,DV 1 s false x k] w (.tuple #[A4 (vP (fD n) ⟨1,s,false,x,k⟩),.int .i64 0]):=by
 have ho:=zTb n
 obtain ⟨w6,w12,t20,t110,j2,j11,t64,l0,l1,H0,H1⟩:=zKc ho
 have hI:vI (fD n) ⟨1,s,false,x,k⟩:=Or.inl ⟨rfl,rfl,hk,hx0,hx1⟩
 have p2:(2:Nat)^220<2^256:=by decide
 have pt:=zTj (a:=(fD n).t) (by omega)
 have p1:=zTj (a:=(fD n).t+((fD n).w+5)) (by omega)
 have hk34:k<2^256:=by
  have e:(10:Nat)^(3*(fD n).j+1)<=10^34:=Nat.pow_le_pow_right (by decide) (by omega)
  have e2:(10:Nat)^34<2^256:=by decide
  omega
 have B:=zW1 h (d:=⟨1,s,false,x,k⟩) hk34 hI
 have cO:=B.cO
 have cI:=B.cI
 have cS:=B.cS
 rw [hdn] at cO cI cS
 have ha:k/2^(fD n).t<=9:=by
  rcases ho with ⟨h1,h2,h3,h4⟩|⟨h1,h2,h3,h4⟩|⟨h1,h2,h3,h4⟩<;>rw [h3] at hk<;>rw [h1]<;>simp only [Nat.reducePow,Nat.reduceAdd,Nat.reduceMul] at*<;> omega
 have hrl:k%2^(fD n).t<2^(fD n).t:=Nat.mod_lt _ (Nat.two_pow_pos _)
 have e:vP (fD n) ⟨1,s,false,x,k⟩=(if s then 2^((fD n).t+((fD n).w+5)) else 0)+k%2^(fD n).t+vN false (fD n).w (x-(fD n).l).toNat (k/2^(fD n).t)*2^(fD n).t:=by
  unfold vP vPG vPR vQ
  simp only [show ¬ (1:Int)=2 by decide,show ¬ (1:Int)=3 by decide,if_false,hdn,Bool.false_eq_true]
  omega
 rw [e]
 have cR:∀ W vn,NT 4 k vn W->Calls Tryz.prog 93 #[vn,.int .i64 ((fD n).t:Int)] W fun r w'=>∃ g k' cap b,r=.returned (.tuple #[.slice (some ⟨g,0,none⟩) k' cap,.bool b])/\W.heap.size<=g/\NV 4 (k/2^(fD n).t) (.slice (some ⟨g,0,none⟩) k' cap) w'/\Below W.heap.size W w':=fun W vn hv=>zXt (fD n).t (by decide) (by omega) t64 hv.nv
 have cF:∀ W,CE 60 #[A4 k,.int .i64 0,.int .i64 ((fD n).t:Int)] W (NT 19 (k%2^(fD n).t)):=fun W=>by
  have:=zGf k 0 (fD n).t W hk34 (by decide) (by omega)
  rw [Nat.pow_zero,Nat.div_one] at this
  exact this
 generalize k/2^(fD n).t=a at *
 generalize k%2^(fD n).t=rr at *
 obtain ⟨E,hE⟩:∃ E:Nat,(x-(fD n).l).toNat=E:=⟨_,rfl⟩
 have hEx:x-(fD n).l=(E:Int):=by omega
 have hE3:E<3*2^(fD n).w:=by
  have e3:((3*2^(fD n).w:Nat):Int)=3*2^(fD n).w:=by simp
  omega
 rw [hE]
 have cM:∀ W v,NV 4 a v W->CQ 61 #[v] W (.int .i64 (a:Int)):=fun W v hv=>(zQe hv (by decide) (by omega)).mono fun r w' ⟨e1,e2⟩=>⟨e1,e2.symm⟩
 have hH:(2:Int)^(fD n).w=((2^(fD n).w:Nat):Int):=(zCb _).symm
 have hvn:vN false (fD n).w E a=(if 8<=a then 3*2^((fD n).w+3)+E*2+a%2 else E*8+a):=rfl
 have hS:(if s then 2^((fD n).t+((fD n).w+5)) else 0)<2^220:=by split<;>omega
 have w3:2^((fD n).w+3)=8*2^(fD n).w:=by rw [Nat.pow_add,Nat.mul_comm]
 have w2:2^((fD n).w+2)=4*2^(fD n).w:=by rw [Nat.pow_add,Nat.mul_comm]
 by_cases h8:8<=a
 ·rw [if_pos h8] at hvn
  have o2:=zJc 3 (E*2) ((fD n).w+3) (by omega) (by omega)
  rw [Int.natCast_mul 3,show ((E*2:Nat):Int)=(E:Int)*2 by omega] at o2
  have o3:bits .and .u64 (a:Int) 1=((a%2:Nat):Int):=zDd a 1 (by decide) (by omega)
  have o4:=zJc (3*2^((fD n).w+2)+E) (a%2) 1 (by omega) (by omega)
  rw [show (3*2^((fD n).w+2)+E)*2^1=3*2^((fD n).w+3)+E*2 by omega,← hvn] at o4
  have hH8:(2:Int)^((fD n).w+3)=((2^((fD n).w+3):Nat):Int):=(zCb _).symm
  generalize hF:vN false (fD n).w E a=Fw at *
  cases s
  ·exact zT1 n _ _ _ _ _ _ _ _ _ _ x k w B.cD (by omega) (by omega) (by omega) (by omega) (by omega) (by omega) B.cN (E:Int) (fD n).w a _ hEx (by omega) (by omega) (by omega) (by omega) (by omega) (by omega) (by omega) w12 hH (by omega) (by omega) ha _ rr rr Fw _ _ _ _ cO cI cS cR cF cM (fun W v hv=>zPb (at_:=0) (by decide) (by omega) hv rfl (by omega)) rfl (by omega) hH8 (by omega) (by omega) o2 o3 o4 (by omega) (fun W v hv=>zHb (at_:=(fD n).t) (by omega) (by decide) (by omega) hv rfl (by simp))
  ·exact zP1 n _ _ _ _ _ _ _ _ _ _ x k (2^((fD n).t+((fD n).w+5))) w B.cD (by omega) (by omega) (by omega) (by omega) (by omega) (by omega) B.cN (E:Int) (fD n).w a _ hEx (by omega) (by omega) (by omega) (by omega) (by omega) (by omega) (by omega) w12 hH (by omega) (by omega) ha _ (2^((fD n).t+((fD n).w+5))+rr) rr Fw _ _ _ _ cO cI cS (fun W v hv=>zPb (at_:=(fD n).t+((fD n).w+5)) (by decide) (by omega) hv (by omega) (by omega)) cR cF cM (fun W v hv=>zHb (at_:=0) (by omega) (by decide) (by omega) hv rfl (by omega)) rfl (by omega) hH8 (by omega) (by omega) o2 o3 o4 (by omega) (fun W v hv=>zHb (at_:=(fD n).t) (by simp only [if_true] at hS;omega) (by decide) (by omega) hv rfl (by simp))
 ·rw [if_neg h8] at hvn
  have o1:=zJc E a 3 (by omega) (by omega)
  rw [show ((E*2^3:Nat):Int)=(E:Int)*8 by omega,show E*2^3+a=E*8+a by omega,← hvn] at o1
  generalize hF:vN false (fD n).w E a=Fw at *
  cases s
  ·exact zS1 n _ _ _ _ _ _ _ _ _ _ x k w B.cD (by omega) (by omega) (by omega) (by omega) (by omega) (by omega) B.cN (E:Int) (fD n).w a _ hEx (by omega) (by omega) (by omega) (by omega) (by omega) (by omega) (by omega) w12 hH (by omega) (by omega) ha _ rr rr Fw cO cI cS cR cF cM (fun W v hv=>zPb (at_:=0) (by decide) (by omega) hv rfl (by omega)) o1 (by omega) (by omega) (fun W v hv=>zHb (at_:=(fD n).t) (by omega) (by decide) (by omega) hv rfl (by simp))
  ·exact zO1 n _ _ _ _ _ _ _ _ _ _ x k (2^((fD n).t+((fD n).w+5))) w B.cD (by omega) (by omega) (by omega) (by omega) (by omega) (by omega) B.cN (E:Int) (fD n).w a _ hEx (by omega) (by omega) (by omega) (by omega) (by omega) (by omega) (by omega) w12 hH (by omega) (by omega) ha _ (2^((fD n).t+((fD n).w+5))+rr) rr Fw cO cI cS (fun W v hv=>zPb (at_:=(fD n).t+((fD n).w+5)) (by decide) (by omega) hv (by omega) (by omega)) cR cF cM (fun W v hv=>zHb (at_:=0) (by omega) (by decide) (by omega) hv rfl (by omega)) o1 (by omega) (by omega) (fun W v hv=>zHb (at_:=(fD n).t) (by simp only [if_true] at hS;omega) (by decide) (by omega) hv rfl (by simp))
theorem rpk14 (n:Int)(d:Dat)(w:World)(hk:d.k<2^256) :
  CB 43 #[.int .i64 n,d.v] w (.tuple #[A4 (vPV n d),.int .i64 (vPE n d)]):=by
 unfold vPV vPE
 by_cases h:zYb n
 ·rw [if_pos h]
  by_cases hi:vI (fD n) d
  ·rw [if_pos ⟨h,hi⟩,if_pos hi]
   obtain ⟨c,s,g,x,k⟩:=d
   rcases id hi with ⟨c1,g1,k1,x1,x2⟩|⟨c1,g1,k1,x1⟩|⟨c1,x1,k1⟩
   ·simp only at c1 g1 k1 x1 x2
    subst c1 g1
    cases hdn:(fD n).dn
    ·exact vpk_plain h hdn w k1 x1 x2
    ·exact zFv h hdn w k1 x1 x2
   ·simp only at c1 g1 k1 x1
    subst c1 g1 k1 x1
    exact zL7 h w hi
   ·simp only at c1 k1 x1
    subst c1 x1
    exact zK7 h w k1
  ·rw [if_neg (fun q=>hi q.2),if_neg hi,zBc]
   refine vpk_i n d.c d.s d.g d.x d.k w (zBd n) _ _ (zYh n) _ _ _ _ (fun W=>?_) (fun W=>zTp h W) (fun W=>?_)
   ·have:=zWb n W
    rw [decide_eq_true h] at this
    exact this
   ·have:=ris14 (fD n) (zTb n) n (zBd n) (((fD n).t+((fD n).w+6):Nat):Int) (zYh n) (fD n).dn d W hk
    rw [decide_eq_false hi] at this
    exact this
 ·rw [if_neg (fun q=>h q.1),if_neg h,zBc]
  refine vpk_n n d.c d.s d.g d.x d.k w (fun W=>?_)
  have:=zWb n W
  rw [decide_eq_false h] at this
  exact this
end
structure VC (n:Int) (B:Nat):Prop where
 cO:∀ W,CB 20 #[.int .i64 n] W (.tuple #[zYa n (zBd n) (((fD n).t+((fD n).w+6):Nat):Int) (3*((fD n).j:Int)+1) (zYh n) (fD n).l ((fD n).l+3*2^(fD n).w-1) (3*((fD n).j:Int)) (fD n).dn,.int .i64 0])
 cS:∀ W,CB 83 #[zYa n (zBd n) (((fD n).t+((fD n).w+6):Nat):Int) (3*((fD n).j:Int)+1) (zYh n) (fD n).l ((fD n).l+3*2^(fD n).w-1) (3*((fD n).j:Int)) (fD n).dn] W (.tuple #[.int .i64 (((fD n).w:Int)+5),.int .i64 ((fD n).t:Int),.int .i64 ((fD n).j:Int)])
 cF1:∀ W,CE 60 #[A4 B,.int .i64 ((fD n).t:Int),.int .i64 (((fD n).w:Int)+5)] W (NT 19 (vG (fD n) B))
 cF2:∀ W,CE 60 #[A4 B,.int .i64 0,.int .i64 ((fD n).t:Int)] W (NT 19 (vR (fD n) B))
 cF3:∀ W,CE 60 #[A4 B,.int .i64 (((fD n).t:Int)+(((fD n).w:Int)+5)),.int .i64 1] W (NT 19 (B/2^((fD n).t+((fD n).w+5))%2))
 cM1:∀ W v,NT 19 (vG (fD n) B) v W->CQ 61 #[v] W (.int .i64 (vG (fD n) B:Int))
 cM3:∀ W v,NT 19 (B/2^((fD n).t+((fD n).w+5))%2) v W->CQ 61 #[v] W (.int .i64 ((B/2^((fD n).t+((fD n).w+5))%2:Nat):Int))
 cB2:∀ W v,NT 19 (vR (fD n) B) v W->CB 62 #[v] W (A4 (vR (fD n) B))
 hAb:(vG (fD n) B:Int)<=200000
 hV:(vG (fD n) B:Int)/2^(fD n).w=((vV (fD n).w (vG (fD n) B):Nat):Int)
 hV1:vV (fD n).w (vG (fD n) B)<=31
 hsg:(((B/2^((fD n).t+((fD n).w+5))%2:Nat):Int)==1)=vS (fD n) B
theorem zB4 {f:DF}(h:f.ok)(B:Nat):vG f B<131072:=by
 have:=zMv f B
 rcases h with ⟨h1,h2,h3,h4⟩|⟨h1,h2,h3,h4⟩|⟨h1,h2,h3,h4⟩<;>rw [h2] at this<;>simp only [Nat.reducePow,Nat.reduceAdd] at this<;>omega
theorem zU7 {n:Int}(h:zYb n)(B:Nat)(hB:B<2^256):VC n B:=by
 have ho:=zTb n
 obtain ⟨w6,w12,t20,t110,j2,j11,t64,l0,l1,H0,H1⟩:=zKc ho
 have hg:=zB4 ho B
 refine ⟨fun W=>zTp h W,fun W=>zXo h _ _ _ _ _ _ W,fun W=>?_,fun W=>?_,fun W=>?_,fun W v hv=>?_,fun W v hv=>?_,fun W v hv=>zTd hv.nv,by omega,?_,?_,?_⟩
 ·have:=zGf B (fD n).t ((fD n).w+5) W hB (by omega) (by omega)
  rw [show (((fD n).w+5:Nat):Int)=((fD n).w:Int)+5 by omega] at this
  exact this
 ·have:=zGf B 0 (fD n).t W hB (by decide) (by omega)
  rw [Nat.pow_zero,Nat.div_one] at this
  exact this
 ·have:=zGf B ((fD n).t+((fD n).w+5)) 1 W hB (by omega) (by decide)
  rw [show (((fD n).t+((fD n).w+5):Nat):Int)=((fD n).t:Int)+(((fD n).w:Int)+5) by omega,Nat.pow_one] at this
  exact this
 ·exact (zQe hv.nv (by decide) (by omega)).mono fun r w' ⟨e1,e2⟩=>⟨e1,e2.symm⟩
 ·exact (zQe hv.nv (by decide) (by omega)).mono fun r w' ⟨e1,e2⟩=>⟨e1,e2.symm⟩
 ·unfold vV
  rw [← zCb,Int.natCast_ediv]
 ·have:=zMv (fD n) B
  rw [Nat.pow_add] at this
  unfold vV
  have:vG (fD n) B/2^(fD n).w<32:=by rw [Nat.div_lt_iff_lt_mul (Nat.two_pow_pos _),Nat.mul_comm];exact this
  omega
 ·unfold vS
  rw [Bool.eq_iff_iff]
  simp only [beq_iff_eq,decide_eq_true_eq]
  omega
theorem cU_of {n:Int}(B:Nat):∀ W,CB 84 #[A4 (vR (fD n) B),.int .i64 ((fD n).j:Int)] W (.tuple #[A4 (dlU (fD n).j (vR (fD n) B)),.int .i64 0]):=fun W=>by
 have ho:=zTb n
 obtain ⟨w6,w12,t20,t110,j2,j11,t64,l0,l1,H0,H1⟩:=zKc ho
 have hr:=zHt (fD n) B
 have p2:=zTj (a:=(fD n).t) (by omega)
 have p3:(2:Nat)^220<2^256:=by decide
 have:=zK2 (vR (fD n) B) ((fD n).j:Int) W (by omega)
 have c1:(0:Int)<=((fD n).j:Int)/\((fD n).j:Int)<=11:=by omega
 rw [ho.pt] at hr
 unfold dUv dUe at this
 rw [if_pos c1,if_pos c1,Int.toNat_natCast,if_pos hr,if_pos hr] at this
 exact this
theorem zR7 {n:Int}(h:zYb n)(B:Nat)(w:World)(hB:B<2^256)(h30:vV (fD n).w (vG (fD n) B)=30∨vV (fD n).w (vG (fD n) B)=31) :
  Calls Tryz.prog 42 #[.int .i64 n,A4 B] w fun r w'=>r=.returned (vM (fD n) B).v/\Below w.heap.size w w':=by
 have ho:=zTb n
 obtain ⟨w6,w12,t20,t110,j2,j11,t64,l0,l1,H0,H1⟩:=zKc ho
 have C:=zU7 h B hB
 have hg:=zB4 ho B
 have hr:=zHt (fD n) B
 have p2:=zTj (a:=(fD n).t) (by omega)
 have p3:(2:Nat)^220<2^256:=by decide
 unfold vM vD
 by_cases e30:vV (fD n).w (vG (fD n) B)=30
 ·rw [if_pos e30]
  have:=vmn_i n _ _ _ _ _ _ _ _ _ _ B _ _ _ _ _ (fD n).w w (by omega) (by omega) (by omega) (by omega) (by omega) (by omega) C.hAb C.cF1 C.cF2 C.cF3 C.cM1 C.cM3 C.cB2 (by omega) w12 C.hV (by omega) (by have:=C.hV1;omega) C.hsg _ C.cO C.cS (by rw [e30];rfl)
  rw [show (Dat.mk 2 (vS (fD n) B) false 0 0).v=.agg #[.int .i64 2,.bool (vS (fD n) B),.bool false,.int .i64 0,.int .u64 0,.int .u64 0,.int .u64 0,.int .u64 0] by unfold Dat.v DV;simp only [zOa]]
  exact this
 ·have e31:vV (fD n).w (vG (fD n) B)=31:=by omega
  rw [if_neg e30,if_pos e31]
  have hgg:(bits .and .u64 ((vG (fD n) B:Int)/2^((fD n).w-1)) 1==1)=decide (vG (fD n) B/2^((fD n).w-1)%2=1):=by
   have hle:vG (fD n) B/2^((fD n).w-1)<=vG (fD n) B:=Nat.div_le_self _ _
   have:=zDd (vG (fD n) B/2^((fD n).w-1)) 1 (by decide) (by omega)
   rw [Int.natCast_ediv,zCb] at this
   rw [show (((2^1:Nat):Int)-1)=1 by decide] at this
   rw [this,Nat.pow_one,Bool.eq_iff_iff]
   simp only [beq_iff_eq,decide_eq_true_eq]
   omega
  have b30:(((vV (fD n).w (vG (fD n) B):Nat):Int)==30)=false:=by rw [e31];rfl
  have b31:(((vV (fD n).w (vG (fD n) B):Nat):Int)==31)=true:=by rw [e31];rfl
  have cO:=C.cO
  have cS:=C.cS
  cases hdn:(fD n).dn
  ·rw [hdn] at cO cS
   have eT:vT (fD n) (vR (fD n) B)=vR (fD n) B:=by unfold vT;rw [hdn];rfl
   rw [eT]
   have cW:=fun W=>zIm (vR (fD n) B) (3*(fD n).j) W (by omega) (by omega)
   rw [show ((3*(fD n).j:Nat):Int)=3*((fD n).j:Int) by omega] at cW
   by_cases hlt:vR (fD n) B<10^(3*(fD n).j)
   ·rw [decide_eq_true hlt] at cW
    rw [if_pos hlt]
    exact zP7 n _ _ _ _ _ _ _ _ _ _ B _ _ _ _ _ (fD n).w w (by omega) (by omega) (by omega) (by omega) (by omega) (by omega) C.hAb C.cF1 C.cF2 C.cF3 C.cM1 C.cM3 C.cB2 (by omega) w12 C.hV (by omega) (by have:=C.hV1;omega) C.hsg ((fD n).w-1) _ cO cS b30 b31 (by omega) (by omega) hgg cW
   ·rw [decide_eq_false hlt] at cW
    rw [if_neg hlt]
    have:=zQ7 n _ _ _ _ _ _ _ _ _ _ B _ _ _ _ _ (fD n).w w (by omega) (by omega) (by omega) (by omega) (by omega) (by omega) C.hAb C.cF1 C.cF2 C.cF3 C.cM1 C.cM3 C.cB2 (by omega) w12 C.hV (by omega) (by have:=C.hV1;omega) C.hsg ((fD n).w-1) _ cO cS b30 b31 (by omega) (by omega) hgg cW
    rw [show (Dat.mk 3 (vS (fD n) B) (decide (vG (fD n) B/2^((fD n).w-1)%2=1)) 0 0).v=.agg #[.int .i64 3,.bool (vS (fD n) B),.bool (decide (vG (fD n) B/2^((fD n).w-1)%2=1)),.int .i64 0,.int .u64 0,.int .u64 0,.int .u64 0,.int .u64 0] by unfold Dat.v DV;simp only [zOa]]
    exact this
  ·rw [hdn] at cO cS
   have eT:vT (fD n) (vR (fD n) B)=dlU (fD n).j (vR (fD n) B):=by unfold vT;rw [hdn];rfl
   have hlt:dlU (fD n).j (vR (fD n) B)<10^(3*(fD n).j):=by rw [zC2];exact zLl _ _
   rw [eT,if_pos hlt]
   have hU:=zFz (fD n).j (vR (fD n) B) j11
   have cW:=fun W=>zIm (dlU (fD n).j (vR (fD n) B)) (3*(fD n).j) W hU (by omega)
   rw [show ((3*(fD n).j:Nat):Int)=3*((fD n).j:Int) by omega,decide_eq_true hlt] at cW
   exact zO7 n _ _ _ _ _ _ _ _ _ _ B _ _ _ _ _ (fD n).w w (by omega) (by omega) (by omega) (by omega) (by omega) (by omega) C.hAb C.cF1 C.cF2 C.cF3 C.cM1 C.cM3 C.cB2 (by omega) w12 C.hV (by omega) (by have:=C.hV1;omega) C.hsg ((fD n).w-1) _ _ cO cS b30 b31 (by omega) (by omega) hgg (cU_of B) cW
theorem zSg {A B:Nat}(h:A<B):¬ (0:Int)<=sgn (A:Int) (B:Int):=by
 rcases zFd (A:Int) (B:Int) with ⟨a,e⟩|⟨a,e⟩|⟨a,e⟩<;>omega
theorem zSn {A B:Nat}(h:¬ A<B):(0:Int)<=sgn (A:Int) (B:Int):=by
 rcases zFd (A:Int) (B:Int) with ⟨a,e⟩|⟨a,e⟩|⟨a,e⟩<;>omega
theorem zT7 {n:Int}(h:zYb n)(hdn:(fD n).dn=true)(B:Nat)(w:World)(hB:B<2^256)(h30:vV (fD n).w (vG (fD n) B)≠30)(h31:vV (fD n).w (vG (fD n) B)≠31) :
  Calls Tryz.prog 42 #[.int .i64 n,A4 B] w fun r w'=>r=.returned (vM (fD n) B).v/\Below w.heap.size w w':=by
 have ho:=zTb n
 obtain ⟨w6,w12,t20,t110,j2,j11,t64,l0,l1,H0,H1⟩:=zKc ho
 have Cc:=zU7 h B hB
 have hg:=zB4 ho B
 have hr:=zHt (fD n) B
 have p2:=zTj (a:=(fD n).t) (by omega)
 have p3:(2:Nat)^220<2^256:=by decide
 have cO:=Cc.cO
 have cS:=Cc.cS
 rw [hdn] at cO cS
 have b30:(((vV (fD n).w (vG (fD n) B):Nat):Int)==30)=false:=by rw [beq_eq_false_iff_ne];omega
 have b31:(((vV (fD n).w (vG (fD n) B):Nat):Int)==31)=false:=by rw [beq_eq_false_iff_ne];omega
 have hH:(2:Int)^(fD n).w=((2^(fD n).w:Nat):Int):=(zCb _).symm
 have hV1:=Cc.hV1
 have hVe:=Cc.hV
 have hvv:vV (fD n).w (vG (fD n) B)=vG (fD n) B/2^(fD n).w:=rfl
 have hlow:vG (fD n) B%2^(fD n).w<2^(fD n).w:=Nat.mod_lt _ (Nat.two_pow_pos _)
 have cQ:∀ W,CE 64 #[.int .u64 10,.int .i64 (3*((fD n).j:Int)+1)] W (NV 50000 (10^(3*(fD n).j+1))):=fun W=>by
  have:=zFj (3*(fD n).j+1) W (by omega)
  rw [show ((3*(fD n).j+1:Nat):Int)=3*((fD n).j:Int)+1 by omega] at this
  exact this
 have hU:=zFz (fD n).j (vR (fD n) B) j11
 have hUt:dlU (fD n).j (vR (fD n) B)<10^(3*(fD n).j):=by rw [zC2];exact zLl _ _
 have cU:=cU_of (n:=n) B
 have hL:=zDd (vG (fD n) B) (fD n).w (by omega) (by omega)
 have cP:∀ W,CE 64 #[.int .u64 10,.int .i64 (3*((fD n).j:Int))] W (NV 50000 (10^(3*(fD n).j))):=fun W=>by
  have:=zFj (3*(fD n).j) W (by omega)
  rw [show ((3*(fD n).j:Nat):Int)=3*((fD n).j:Int) by omega] at this
  exact this
 have eM:vM (fD n) B=⟨1,vS (fD n) B,false,(vF true (fD n).w (vG (fD n) B):Int)+(fD n).l,vL true (fD n).w (vG (fD n) B)*10^(3*(fD n).j)+dlU (fD n).j (vR (fD n) B)⟩:=by
  have hq:vQ (fD n)=10^(3*(fD n).j):=by unfold vQ;rw [hdn];rfl
  have ht:vT (fD n) (vR (fD n) B)=dlU (fD n).j (vR (fD n) B):=by unfold vT;rw [hdn];rfl
  unfold vM vD
  rw [if_neg h30,if_neg h31,hdn,hq,ht,if_pos]
  have h9:vL true (fD n).w (vG (fD n) B)<=9:=by unfold vL;simp only [if_true];split<;>omega
  have:=Nat.mul_le_mul_right (10^(3*(fD n).j)) h9
  rw [Nat.pow_succ]
  omega
 have hClt:vL true (fD n).w (vG (fD n) B)*10^(3*(fD n).j)+dlU (fD n).j (vR (fD n) B)<10^(3*(fD n).j+1):=by
  have h9:vL true (fD n).w (vG (fD n) B)<=9:=by unfold vL;simp only [if_true];split<;>omega
  have:=Nat.mul_le_mul_right (10^(3*(fD n).j)) h9
  rw [Nat.pow_succ]
  omega
 rw [eM]
 generalize vV (fD n).w (vG (fD n) B)=V at *
 have hF0:∀ q,q<=2->q*2^(fD n).w<=2*4096:=fun q hq=>Nat.mul_le_mul hq H1
 by_cases h24:V<24
 ·have eF:vF true (fD n).w (vG (fD n) B)=V/8*2^(fD n).w+vG (fD n) B%2^(fD n).w:=by unfold vF vV;simp only [if_true];rw [← hvv,if_pos h24]
  have eL:vL true (fD n).w (vG (fD n) B)=V%8:=by unfold vL vV;simp only [if_true];rw [← hvv,if_pos h24]
  rw [eF,eL]
  rw [eL] at hClt
  have q8:=hF0 (V/8) (by omega)
  have o1:=zJc (V/8) (vG (fD n) B%2^(fD n).w) (fD n).w hlow (by omega)
  rw [Int.natCast_mul] at o1
  have o2:=zDd V 3 (by decide) (by omega)
  rw [show (((2^3:Nat):Int)-1)=7 by decide,show V%2^3=V%8 from rfl] at o2
  exact vmn_ds n _ _ _ _ _ _ _ _ _ _ B _ _ _ _ _ (fD n).w w (by omega) (by omega) (by omega) (by omega) (by omega) (by omega) Cc.hAb Cc.cF1 Cc.cF2 Cc.cF3 Cc.cM1 Cc.cM3 Cc.cB2 (by omega) w12 hVe (by omega) (by omega) Cc.hsg _ _ _ _ hH (by omega) (by omega) (by omega) (by omega) (by omega) (by omega) (by omega) (by omega) ((V/8:Nat):Int) 0 0 _ (dlU (fD n).j (vR (fD n) B)) (10^(3*(fD n).j)) (V%8*10^(3*(fD n).j)) (V%8*10^(3*(fD n).j)+dlU (fD n).j (vR (fD n) B)) (10^(3*(fD n).j+1)) (V%8) cO cS b30 b31 (by omega) cU hU hL (by rw [← Int.natCast_mul];omega) (by rw [← Int.natCast_mul];omega) o1 (by omega) o2 cP (fun W v v' h1 h2=>(zCf (by decide) (by decide) h1 h2).mono fun r w' ⟨v,e1,e2,e3⟩=>⟨v,e1,e2.more (by decide),e3⟩) (fun W v v' h1 h2=>(zHg (by decide) (by decide) h1.nv h2).mono fun r w' ⟨v,e1,e2,e3⟩=>⟨v,e1,e2.more (by decide),e3⟩) rfl cQ (fun W v v' h1 h2=>zGg (by decide) (by decide) h1 h2) (zSg hClt) (fun W v hv=>zTd hv)
 ·have eF:vF true (fD n).w (vG (fD n) B)=V/2%4*2^(fD n).w+vG (fD n) B%2^(fD n).w:=by unfold vF vV;simp only [if_true];rw [← hvv,if_neg h24]
  have eL:vL true (fD n).w (vG (fD n) B)=8+V%2:=by unfold vL vV;simp only [if_true];rw [← hvv,if_neg h24]
  rw [eF,eL]
  rw [eL] at hClt
  have q8:=hF0 (V/2%4) (by omega)
  have o1:=zJc (V/2%4) (vG (fD n) B%2^(fD n).w) (fD n).w hlow (by omega)
  rw [Int.natCast_mul] at o1
  have o2:=zDd (V/2) 2 (by decide) (by omega)
  rw [show (((2^2:Nat):Int)-1)=3 by decide,show V/2%2^2=V/2%4 from rfl,show ((V/2:Nat):Int)=(V:Int)/2 by omega] at o2
  have o3:=zDd V 1 (by decide) (by omega)
  rw [show (((2^1:Nat):Int)-1)=1 by decide,show V%2^1=V%2 from rfl] at o3
  exact vmn_db n _ _ _ _ _ _ _ _ _ _ B _ _ _ _ _ (fD n).w w (by omega) (by omega) (by omega) (by omega) (by omega) (by omega) Cc.hAb Cc.cF1 Cc.cF2 Cc.cF3 Cc.cM1 Cc.cM3 Cc.cB2 (by omega) w12 hVe (by omega) (by omega) Cc.hsg _ _ _ ((8+V%2:Nat):Int) hH (by omega) (by omega) (by omega) (by omega) (by omega) (by omega) (by omega) (by omega) ((V/2%4:Nat):Int) ((V%2:Nat):Int) 0 _ (dlU (fD n).j (vR (fD n) B)) (10^(3*(fD n).j)) ((8+V%2)*10^(3*(fD n).j)) ((8+V%2)*10^(3*(fD n).j)+dlU (fD n).j (vR (fD n) B)) (10^(3*(fD n).j+1)) (8+V%2) cO cS b30 b31 (by omega) cU hU hL (by rw [← Int.natCast_mul];omega) (by rw [← Int.natCast_mul];omega) o1 o2 o3 (by omega) (by omega) (by omega) cP (fun W v v' h1 h2=>(zCf (by decide) (by decide) h1 h2).mono fun r w' ⟨v,e1,e2,e3⟩=>⟨v,e1,e2.more (by decide),e3⟩) (fun W v v' h1 h2=>(zHg (by decide) (by decide) h1.nv h2).mono fun r w' ⟨v,e1,e2,e3⟩=>⟨v,e1,e2.more (by decide),e3⟩) rfl cQ (fun W v v' h1 h2=>zGg (by decide) (by decide) h1 h2) (zSg hClt) (fun W v hv=>zTd hv)
theorem zS7 {n:Int}(h:zYb n)(hdn:(fD n).dn=false)(B:Nat)(w:World)(hB:B<2^256)(h30:vV (fD n).w (vG (fD n) B)≠30)(h31:vV (fD n).w (vG (fD n) B)≠31) :
  Calls Tryz.prog 42 #[.int .i64 n,A4 B] w fun r w'=>r=.returned (vM (fD n) B).v/\Below w.heap.size w w':=by
 have ho:=zTb n
 obtain ⟨w6,w12,t20,t110,j2,j11,t64,l0,l1,H0,H1⟩:=zKc ho
 have Cc:=zU7 h B hB
 have hg:=zB4 ho B
 have hr:=zHt (fD n) B
 have p2:=zTj (a:=(fD n).t) (by omega)
 have p3:(2:Nat)^220<2^256:=by decide
 have cO:=Cc.cO
 have cS:=Cc.cS
 rw [hdn] at cO cS
 have b30:(((vV (fD n).w (vG (fD n) B):Nat):Int)==30)=false:=by rw [beq_eq_false_iff_ne];omega
 have b31:(((vV (fD n).w (vG (fD n) B):Nat):Int)==31)=false:=by rw [beq_eq_false_iff_ne];omega
 have hH:(2:Int)^(fD n).w=((2^(fD n).w:Nat):Int):=(zCb _).symm
 have hV1:=Cc.hV1
 have hVe:=Cc.hV
 have hvv:vV (fD n).w (vG (fD n) B)=vG (fD n) B/2^(fD n).w:=rfl
 have hlow:vG (fD n) B%2^(fD n).w<2^(fD n).w:=Nat.mod_lt _ (Nat.two_pow_pos _)
 have cQ:∀ W,CE 64 #[.int .u64 10,.int .i64 (3*((fD n).j:Int)+1)] W (NV 50000 (10^(3*(fD n).j+1))):=fun W=>by
  have:=zFj (3*(fD n).j+1) W (by omega)
  rw [show ((3*(fD n).j+1:Nat):Int)=3*((fD n).j:Int)+1 by omega] at this
  exact this
 have hU:vR (fD n) B<2^256:=by omega
 have hgl:=zMv (fD n) B
 have w5:2^((fD n).w+5)=32*2^(fD n).w:=by rw [Nat.pow_add,Nat.mul_comm]
 have w2:2^((fD n).w+2)=4*2^(fD n).w:=by rw [Nat.pow_add,Nat.mul_comm]
 have eM:vM (fD n) B=⟨1,vS (fD n) B,false,(vF false (fD n).w (vG (fD n) B):Int)+(fD n).l,if vL false (fD n).w (vG (fD n) B)*2^(fD n).t+vR (fD n) B<10^(3*(fD n).j+1) then vL false (fD n).w (vG (fD n) B)*2^(fD n).t+vR (fD n) B else 0⟩:=by
  have hq:vQ (fD n)=2^(fD n).t:=by unfold vQ;rw [hdn];rfl
  have ht:vT (fD n) (vR (fD n) B)=vR (fD n) B:=by unfold vT;rw [hdn];rfl
  unfold vM vD
  rw [if_neg h30,if_neg h31,hdn,hq,ht]
 rw [eM]
 have hDV:∀ x:Int,(Dat.mk 1 (vS (fD n) B) false x 0).v=.agg #[.int .i64 1,.bool (vS (fD n) B),.bool false,.int .i64 x,.int .u64 0,.int .u64 0,.int .u64 0,.int .u64 0]:=fun x=>by unfold Dat.v DV;simp only [zOa]
 generalize vV (fD n).w (vG (fD n) B)=V at *
 by_cases h24:V<24
 ·have eF:vF false (fD n).w (vG (fD n) B)=vG (fD n) B/8:=by unfold vF vV;simp only [Bool.false_eq_true,if_false];rw [← hvv,if_pos h24]
  have eL:vL false (fD n).w (vG (fD n) B)=vG (fD n) B%8:=by unfold vL vV;simp only [Bool.false_eq_true,if_false];rw [← hvv,if_pos h24]
  rw [eF,eL]
  have o2:=zDd (vG (fD n) B) 3 (by decide) (by omega)
  rw [show (((2^3:Nat):Int)-1)=7 by decide,show vG (fD n) B%2^3=vG (fD n) B%8 from rfl] at o2
  have hF:(vG (fD n) B:Int)/8=((vG (fD n) B/8:Nat):Int):=by omega
  by_cases hlt:vG (fD n) B%8*2^(fD n).t+vR (fD n) B<10^(3*(fD n).j+1)
  ·rw [if_pos hlt]
   exact vmn_ps n _ _ _ _ _ _ _ _ _ _ B _ _ _ _ _ (fD n).w w (by omega) (by omega) (by omega) (by omega) (by omega) (by omega) Cc.hAb Cc.cF1 Cc.cF2 Cc.cF3 Cc.cM1 Cc.cM3 Cc.cB2 (by omega) w12 hVe (by omega) (by omega) Cc.hsg _ _ _ hH (by omega) (by omega) (by omega) (by omega) (by omega) (by omega) (by omega) (by omega) 0 0 0 _ 0 0 (vG (fD n) B%8*2^(fD n).t) _ (10^(3*(fD n).j+1)) (vG (fD n) B%8) cO cS b30 b31 (by omega) hF o2 hU (fun W v h1=>(zHj (fD n).t (by decide) (by omega) h1).mono fun r w' ⟨v,e1,e2,e3⟩=>⟨v,e1,e2.more (by omega),e3⟩) (fun W v v' h1 h2=>(zHg (by decide) (by decide) h1.nv h2).mono fun r w' ⟨v,e1,e2,e3⟩=>⟨v,e1,e2.more (by decide),e3⟩) rfl cQ (fun W v v' h1 h2=>zGg (by decide) (by decide) h1 h2) (zSg hlt) (fun W v hv=>zTd hv)
  ·rw [if_neg hlt,hDV]
   exact zM7 n _ _ _ _ _ _ _ _ _ _ B _ _ _ _ _ (fD n).w w (by omega) (by omega) (by omega) (by omega) (by omega) (by omega) Cc.hAb Cc.cF1 Cc.cF2 Cc.cF3 Cc.cM1 Cc.cM3 Cc.cB2 (by omega) w12 hVe (by omega) (by omega) Cc.hsg _ _ _ hH (by omega) (by omega) (by omega) (by omega) (by omega) (by omega) (by omega) (by omega) 0 0 0 _ 0 0 (vG (fD n) B%8*2^(fD n).t) (vG (fD n) B%8*2^(fD n).t+vR (fD n) B) (10^(3*(fD n).j+1)) (vG (fD n) B%8) cO cS b30 b31 (by omega) hF o2 hU (fun W v h1=>(zHj (fD n).t (by decide) (by omega) h1).mono fun r w' ⟨v,e1,e2,e3⟩=>⟨v,e1,e2.more (by omega),e3⟩) (fun W v v' h1 h2=>(zHg (by decide) (by decide) h1.nv h2).mono fun r w' ⟨v,e1,e2,e3⟩=>⟨v,e1,e2.more (by decide),e3⟩) rfl cQ (fun W v v' h1 h2=>zGg (by decide) (by decide) h1 h2) (zSn hlt) (fun W=>zHk W)
 ·have eF:vF false (fD n).w (vG (fD n) B)=vG (fD n) B/2%2^((fD n).w+2):=by unfold vF vV;simp only [Bool.false_eq_true,if_false];rw [← hvv,if_neg h24]
  have eL:vL false (fD n).w (vG (fD n) B)=8+vG (fD n) B%2:=by unfold vL vV;simp only [Bool.false_eq_true,if_false];rw [← hvv,if_neg h24]
  rw [eF,eL]
  have hm:vG (fD n) B/2%2^((fD n).w+2)<2^((fD n).w+2):=Nat.mod_lt _ (Nat.two_pow_pos _)
  have hH4:(2:Int)^((fD n).w+2)=((2^((fD n).w+2):Nat):Int):=(zCb _).symm
  have o1:=zDd (vG (fD n) B/2) ((fD n).w+2) (by omega) (by omega)
  rw [show ((vG (fD n) B/2:Nat):Int)=(vG (fD n) B:Int)/2 by omega] at o1
  have o3:=zDd (vG (fD n) B) 1 (by decide) (by omega)
  rw [show (((2^1:Nat):Int)-1)=1 by decide,show vG (fD n) B%2^1=vG (fD n) B%2 from rfl] at o3
  by_cases hlt:(8+vG (fD n) B%2)*2^(fD n).t+vR (fD n) B<10^(3*(fD n).j+1)
  ·rw [if_pos hlt]
   exact vmn_pb n _ _ _ _ _ _ _ _ _ _ B _ _ _ _ _ (fD n).w w (by omega) (by omega) (by omega) (by omega) (by omega) (by omega) Cc.hAb Cc.cF1 Cc.cF2 Cc.cF3 Cc.cM1 Cc.cM3 Cc.cB2 (by omega) w12 hVe (by omega) (by omega) Cc.hsg _ _ ((8+vG (fD n) B%2:Nat):Int) hH (by omega) (by omega) (by omega) (by omega) (by omega) (by omega) (by omega) (by omega) 0 ((vG (fD n) B%2:Nat):Int) ((2^((fD n).w+2):Nat):Int) _ 0 0 ((8+vG (fD n) B%2)*2^(fD n).t) _ (10^(3*(fD n).j+1)) (8+vG (fD n) B%2) cO cS b30 b31 (by omega) hH4 (by omega) (by omega) o1 o3 (by omega) (by omega) (by omega) hU (fun W v h1=>(zHj (fD n).t (by decide) (by omega) h1).mono fun r w' ⟨v,e1,e2,e3⟩=>⟨v,e1,e2.more (by omega),e3⟩) (fun W v v' h1 h2=>(zHg (by decide) (by decide) h1.nv h2).mono fun r w' ⟨v,e1,e2,e3⟩=>⟨v,e1,e2.more (by decide),e3⟩) rfl cQ (fun W v v' h1 h2=>zGg (by decide) (by decide) h1 h2) (zSg hlt) (fun W v hv=>zTd hv)
  ·rw [if_neg hlt,hDV]
   exact zN7 n _ _ _ _ _ _ _ _ _ _ B _ _ _ _ _ (fD n).w w (by omega) (by omega) (by omega) (by omega) (by omega) (by omega) Cc.hAb Cc.cF1 Cc.cF2 Cc.cF3 Cc.cM1 Cc.cM3 Cc.cB2 (by omega) w12 hVe (by omega) (by omega) Cc.hsg _ _ ((8+vG (fD n) B%2:Nat):Int) hH (by omega) (by omega) (by omega) (by omega) (by omega) (by omega) (by omega) (by omega) 0 ((vG (fD n) B%2:Nat):Int) ((2^((fD n).w+2):Nat):Int) _ 0 0 ((8+vG (fD n) B%2)*2^(fD n).t) ((8+vG (fD n) B%2)*2^(fD n).t+vR (fD n) B) (10^(3*(fD n).j+1)) (8+vG (fD n) B%2) cO cS b30 b31 (by omega) hH4 (by omega) (by omega) o1 o3 (by omega) (by omega) (by omega) hU (fun W v h1=>(zHj (fD n).t (by decide) (by omega) h1).mono fun r w' ⟨v,e1,e2,e3⟩=>⟨v,e1,e2.more (by omega),e3⟩) (fun W v v' h1 h2=>(zHg (by decide) (by decide) h1.nv h2).mono fun r w' ⟨v,e1,e2,e3⟩=>⟨v,e1,e2.more (by decide),e3⟩) rfl cQ (fun W v v' h1 h2=>zGg (by decide) (by decide) h1 h2) (zSn hlt) (fun W=>zHk W)
theorem zA9 {n:Int}(h:zYb n)(B:Nat)(w:World)(hB:B<2^256) :
  Calls Tryz.prog 42 #[.int .i64 n,A4 B] w fun r w'=>r=.returned (vM (fD n) B).v/\Below w.heap.size w w':=by
 by_cases e:vV (fD n).w (vG (fD n) B)=30∨vV (fD n).w (vG (fD n) B)=31
 ·exact zR7 h B w hB e
 ·cases hdn:(fD n).dn
  ·exact zS7 h hdn B w hB (fun q=>e (Or.inl q)) (fun q=>e (Or.inr q))
  ·exact zT7 h hdn B w hB (fun q=>e (Or.inl q)) (fun q=>e (Or.inr q))
section
def vUD (n:Int)(B:Nat):Dat:=if zSd n B then vM (fD n) B else ⟨0,false,false,0,0⟩
def vUC (n:Int)(B:Nat):Bool:=decide (zSd n B/\vP (fD n) (vM (fD n) B)=B)
def vUE (n:Int)(B:Nat):Int:=if zSd n B then 0 else 1
theorem zJv (n:Int)(B:Nat):(vUD n B).k<2^256:=by
 unfold vUD
 split
 ·exact zLv (zTb n) B
 ·decide
theorem zOs {X Y:Nat}(hX:X<2^256)(hY:Y<2^256):decide (W4 X 0=W4 Y 0/\W4 X 1=W4 Y 1/\W4 X 2=W4 Y 2/\W4 X 3=W4 Y 3)=decide (X=Y):=by
 refine decide_eq_decide.2 ⟨fun ⟨h0,h1,h2,h3⟩=>zDp hX hY fun i hi=>?_,fun h=>by rw [h];exact ⟨rfl,rfl,rfl,rfl⟩⟩
 have:i=0∨i=1∨i=2∨i=3:=by omega
 rcases this with rfl|rfl|rfl|rfl
 ·exact h0
 ·exact h1
 ·exact h2
 ·exact h3
attribute [local irreducible] W4
section
variable (n:Int)(B:Nat)(w:World)
theorem vun_n (c16:∀ W,CB 41 #[.int .i64 n,A4 B] W (.bool false)) :
  CB 19 #[.int .i64 n,A4 B] w (.tuple #[.agg #[.int .i64 0,.bool false,.bool false,.int .i64 0,.int .u64 0,.int .u64 0,.int .u64 0,.int .u64 0],.bool false,.int .i64 1]):=by
 have hsm:=zAa
 go_enter Tryz.func19,Tryz.ntmps19
 go_wp2_with (go_at_call 41;refine wk w (c16 _) ?_;intro w1 hb1 _ _ _ _ hA1 _;obtain ⟨_,_⟩:=zf hb1 (w.heap.size+1);clear hb1)
 exact bodyPost_ret (by simp only [results,Tryz.results19];go_simp) rfl ⟨rfl,bgo⟩
theorem vun_y (c x:Int)(s g:Bool)(k P:Nat)(E:Int)(R:Bool)(hR:decide (W4 P 0=W4 B 0/\W4 P 1=W4 B 1/\W4 P 2=W4 B 2/\W4 P 3=W4 B 3)=R)
  (c16:∀ W,CB 41 #[.int .i64 n,A4 B] W (.bool true))
  (c17:∀ W,CB 42 #[.int .i64 n,A4 B] W (DV c s g x k))
  (c13:∀ W,CB 43 #[.int .i64 n,DV c s g x k] W (.tuple #[A4 P,.int .i64 E])) :
  CB 19 #[.int .i64 n,A4 B] w (.tuple #[DV c s g x k,.bool R,.int .i64 0]):=by
 have h24:=zPs (W4 P 0) (W4 P 1) (W4 P 2) (W4 P 3) (W4 B 0) (W4 B 1) (W4 B 2) (W4 B 3)
 rw [hR] at h24
 clear hR
 have hsm:=zAa
 unfold DV A4 at *
 go_enter Tryz.func19,Tryz.ntmps19
 go_wp2_with (first
  | (go_at_call 41;refine wk w (c16 _) ?_;intro w1 hb1 _ _ _ _ hA1 _;obtain ⟨_,_⟩:=zf hb1 (w.heap.size+1);clear hb1)
  | (go_at_call 42;refine wk w (c17 _) ?_;intro w2 hb2 _ _ _ _ hA2 _;obtain ⟨_,_⟩:=zf hb2 (w.heap.size+1);clear hb2)
  | (go_at_call 43;refine wk w (c13 _) ?_;intro w3 hb3 _ _ _ _ hA3 _;obtain ⟨_,_,_,_⟩:=zg hb3 (w.heap.size+1) w2.heap.size;clear hb3))
 go_region_with (fail)
 all_goals go_wp2
 all_goals exact bodyPost_ret (by simp only [results,Tryz.results19];go_simp) rfl ⟨rfl,bgo⟩
end
theorem zN5:(Dat.mk 0 false false 0 0).v=.agg #[.int .i64 0,.bool false,.bool false,.int .i64 0,.int .u64 0,.int .u64 0,.int .u64 0,.int .u64 0]:=by unfold Dat.v DV;simp only [zOa]
theorem vPV_of {n:Int}{B:Nat}(h:zSd n B):vPV n (vM (fD n) B)=vP (fD n) (vM (fD n) B)/\vPE n (vM (fD n) B)=0:=by
 have hi:=zHn (zTb n) B
 unfold vPV vPE
 exact ⟨if_pos ⟨h.1,hi⟩,by rw [if_pos h.1,if_pos hi]⟩
theorem zKr (n:Int)(B:Nat)(w:World)(hB:B<2^256) :
  CB 19 #[.int .i64 n,A4 B] w (.tuple #[(vUD n B).v,.bool (vUC n B),.int .i64 (vUE n B)]):=by
 have c16:=fun W=>zD9 n B hB W
 unfold vUD vUC vUE
 by_cases h:zSd n B
 ·rw [if_pos h,if_pos h]
  rw [decide_eq_true h] at c16
  obtain ⟨e1,e2⟩:=vPV_of h
  have c13:=fun W=>rpk14 n (vM (fD n) B) W (zLv (zTb n) B)
  rw [e1] at c13
  refine vun_y n B w _ _ _ _ _ _ _ _ ?_ c16 (fun W=>zA9 h.1 B W hB) c13
  rw [zOs (zKv (zTb n) (zHn (zTb n) B)) hB]
  exact decide_eq_decide.2 ⟨fun q=>⟨h,q⟩,fun q=>q.2⟩
 ·rw [if_neg h,if_neg h,decide_eq_false (fun q=>h q.1),zN5]
  rw [decide_eq_false h] at c16
  exact vun_n n B w c16
end
section
theorem tnX_eq {N D:Nat}{E:Int}(hN:0<N)(hD:0<D)(h:TnE N D E):tnX N D=E:=(zJn hN hD).only h
theorem third:rqD 7 0 false 1 3 0 0=⟨1,false,false,-7,3333333⟩/\rqF 7 0 false 1 3 0=8/\rqE 7 0 1 3=0:=by
 have e0:rqE 7 0 1 3=0:=by
  have b1:bl 1<=2:=bl_le.2 (by decide)
  have b3:bl 3<=2:=bl_le.2 (by decide)
  unfold rqE
  rw [if_pos ⟨by unfold zYb;omega,by unfold knB;omega,by decide⟩,if_neg (by omega)]
 have eX:tnX (1*10^(clT 0).toNat) (3*10^(-(clT 0)).toNat)=-1:=tnX_eq (by decide) (by decide) ⟨by decide,by decide⟩
 refine ⟨?_,?_,e0⟩
 ·unfold rqD
  rw [if_pos e0,if_neg (by decide),eX]
  have h1:(dkD (fD 7) 0 false (1*10^(clT 0).toNat) (3*10^(-(clT 0)).toNat) (-1) 0).c=1/\(dkD (fD 7) 0 false (1*10^(clT 0).toNat) (3*10^(-(clT 0)).toNat) (-1) 0).s=false/\(dkD (fD 7) 0 false (1*10^(clT 0).toNat) (3*10^(-(clT 0)).toNat) (-1) 0).g=false/\(dkD (fD 7) 0 false (1*10^(clT 0).toNat) (3*10^(-(clT 0)).toNat) (-1) 0).x=-7/\(dkD (fD 7) 0 false (1*10^(clT 0).toNat) (3*10^(-(clT 0)).toNat) (-1) 0).k=3333333:=by decide +kernel
  generalize dkD (fD 7) 0 false (1*10^(clT 0).toNat) (3*10^(-(clT 0)).toNat) (-1) 0=R at h1 ⊢
  obtain ⟨c,s,g,x,k⟩:=R
  simp only at h1
  obtain ⟨rfl,rfl,rfl,rfl,rfl⟩:=h1
  rfl
 ·unfold rqF
  rw [if_pos e0,if_neg (by decide),eX]
  decide +kernel
attribute [local irreducible] W4 Nt
end
section
theorem zL2 (n d:Int)(N D:Nat):rqE n (swD d) N D=rqE n d N D:=by
 unfold rqE
 have h:knB (swD d)↔knB d:=by
  unfold knB swD
  split<;>omega
 simp only [h]
attribute [local irreducible] W4 Nt
end
section
theorem zWm {w0 w:World}{c x:Int}{s g:Bool}{k:Nat}{t:TypeId}(hk:k<2^256)
  (hb:Below (w0.alloc (.cells #[.int .i64 c,.bool s,.bool g,.int .i64 x,.int .u64 (W4 k 0),.int .u64 (W4 k 1),.int .u64 (W4 k 2),.int .u64 (W4 k 3)] t)).heap.size (w0.alloc (.cells #[.int .i64 c,.bool s,.bool g,.int .i64 x,.int .u64 (W4 k 0),.int .u64 (W4 k 1),.int .u64 (W4 k 2),.int .u64 (W4 k 3)] t)) w) :
  Nt 4 k (.slice (some ⟨w0.heap.size,4,none⟩) 4 4) w:=by
 have hs:w0.heap.size<(w0.alloc (.cells #[.int .i64 c,.bool s,.bool g,.int .i64 x,.int .u64 (W4 k 0),.int .u64 (W4 k 1),.int .u64 (W4 k 2),.int .u64 (W4 k 3)] t)).heap.size:=by simp
 refine ⟨_,4,4,zVe (W4 k) 4,rfl,Nat.le_refl _,⟨Nat.le_refl _,by unfold maxLen;omega,?_,?_,Or.inr ⟨w0.heap.size,4,rfl,Nat.lt_of_lt_of_le hs hb.size,?_⟩⟩,?_⟩
 ·intro i
  by_cases hi:i<4
  ·rw [zLb hi];exact zJa k i
  ·rw [show zVe (W4 k) 4 i=0 from if_neg hi];exact ⟨Int.le_refl _,by decide⟩
 ·intro i hi
  exact if_neg (by omega)
 ·intro i hi
  rw [zLb hi,hb.cell (p:=⟨w0.heap.size,4+i,none⟩) hs]
  have:i=0∨i=1∨i=2∨i=3:=by omega
  rw [World.cell?_alloc_new]
  rcases this with rfl|rfl|rfl|rfl<;>rfl
 ·rw [zKa (x:=zVe (W4 k) 4) (y:=W4 k) 4 (fun i hi=>zLb hi),zRb hk]
attribute [local irreducible] W4 Nt
end
section
attribute [local irreducible] W4 Nz Nt NT
section
variable (t ba d:Int)(num wi pr ex le mo pa:Int)(nm:ByteArray)(de:Bool)(w:World)(hT:Tab w)
include hT
theorem stg_e (b0:Int)
  (c2:∀ W,Tab W->CB 53 #[.int .i64 t] W (.tuple #[.agg #[.int .i64 num,.string nm,.int .i64 b0,.int .i64 wi,.int .i64 pr,.int .i64 ex,.int .i64 le,.int .i64 mo,.int .i64 pa,.bool de],.int .i64 1])) :
  CB 24 #[.int .i64 t,.int .i64 ba,.int .i64 d] w (.tuple #[IZ,.int .i64 1]):=by
 have hsm:=zAa
 go_enter Tryz.func24,Tryz.ntmps24
 go_wp2_with (go_at_call 53;refine wk w (c2 _ (hT.go bgo)) ?_;intro w1 hb1 _ _ _ _ hA1 _;clear hb1)
 exact bodyPost_ret (v:=.tuple #[IZ,.int .i64 1]) (by simp only [results,Tryz.results24];go_simp) rfl ⟨rfl,bgo⟩
theorem stg_b (b0:Int)(hba:(b0 != ba)=true)
  (c2:∀ W,Tab W->CB 53 #[.int .i64 t] W (.tuple #[.agg #[.int .i64 num,.string nm,.int .i64 b0,.int .i64 wi,.int .i64 pr,.int .i64 ex,.int .i64 le,.int .i64 mo,.int .i64 pa,.bool de],.int .i64 0])) :
  CB 24 #[.int .i64 t,.int .i64 ba,.int .i64 d] w (.tuple #[IZ,.int .i64 1]):=by
 have hsm:=zAa
 go_enter Tryz.func24,Tryz.ntmps24
 go_wp2_with (go_at_call 53;refine wk w (c2 _ (hT.go bgo)) ?_;intro w1 hb1 _ _ _ _ hA1 _;clear hb1)
 exact bodyPost_ret (v:=.tuple #[IZ,.int .i64 1]) (by simp only [results,Tryz.results24];go_simp) rfl ⟨rfl,bgo⟩
variable (c2:∀ W,Tab W->CB 53 #[.int .i64 t] W (.tuple #[.agg #[.int .i64 num,.string nm,.int .i64 ba,.int .i64 wi,.int .i64 pr,.int .i64 ex,.int .i64 le,.int .i64 mo,.int .i64 pa,.bool de],.int .i64 0]))
include c2
theorem stg_k (c3:∀ W,CQ 44 #[.int .i64 d] W (.bool false)) :
  CB 24 #[.int .i64 t,.int .i64 ba,.int .i64 d] w (.tuple #[IZ,.int .i64 1]):=by
 have hsm:=zAa
 have hbb:(ba != ba)=false:=bne_self_eq_false ba
 go_enter Tryz.func24,Tryz.ntmps24
 go_wp2_with (first
  | (go_at_call 53;refine wk w (c2 _ (hT.go bgo)) ?_;intro w1 hb1 _ _ _ _ hA1 _;clear hb1)
  | (go_at_call 44;refine (c3 _).mono ?_;rintro r w2 ⟨rfl,rfl⟩))
 exact bodyPost_ret (v:=.tuple #[IZ,.int .i64 1]) (by simp only [results,Tryz.results24];go_simp) rfl ⟨rfl,bgo⟩
theorem stg_y (c3:∀ W,CQ 44 #[.int .i64 d] W (.bool true)) :
  CB 24 #[.int .i64 t,.int .i64 ba,.int .i64 d] w (.tuple #[.agg #[.int .i64 num,.string nm,.int .i64 ba,.int .i64 wi,.int .i64 pr,.int .i64 ex,.int .i64 le,.int .i64 mo,.int .i64 pa,.bool de],.int .i64 0]):=by
 have hsm:=zAa
 have hbb:(ba != ba)=false:=bne_self_eq_false ba
 go_enter Tryz.func24,Tryz.ntmps24
 go_wp2_with (first
  | (go_at_call 53;refine wk w (c2 _ (hT.go bgo)) ?_;intro w1 hb1 _ _ _ _ hA1 _;clear hb1)
  | (go_at_call 44;refine (c3 _).mono ?_;rintro r w2 ⟨rfl,rfl⟩))
 exact bodyPost_ret (v:=.tuple #[.agg #[.int .i64 num,.string nm,.int .i64 ba,.int .i64 wi,.int .i64 pr,.int .i64 ex,.int .i64 le,.int .i64 mo,.int .i64 pa,.bool de],.int .i64 0]) (by simp only [results,Tryz.results24];go_simp) rfl ⟨rfl,bgo⟩
end
abbrev InfV (t:Int):Value:=.agg #[.int .i64 (zZ0 t),.string (zBd t),.int .i64 (zId t),.int .i64 (zUa t),.int .i64 (zNe t),.int .i64 (zYh t),.int .i64 (zNa t),.int .i64 (zIb t),.int .i64 (zEl t),.bool (zFc t)]
theorem zN8 {t ba d:Int}(w:World)(hT:Tab w)(h1:okN t)(h2:zId t=ba)(h3:knB d) :
  CB 24 #[.int .i64 t,.int .i64 ba,.int .i64 d] w (.tuple #[InfV t,.int .i64 0]):=by
 have c2:=fun W h=>zAe t W h
 have c3:=fun W=>zPd d W
 rw [decide_eq_true h3] at c3
 rw [show zQd t=0 from if_pos h1,h2] at c2
 unfold InfV
 rw [h2]
 exact stg_y t ba d _ _ _ _ _ _ _ _ _ w hT c2 c3
theorem zO8 {t ba d:Int}(w:World)(hT:Tab w)(h:¬ (okN t/\zId t=ba/\knB d)) :
  CB 24 #[.int .i64 t,.int .i64 ba,.int .i64 d] w (.tuple #[IZ,.int .i64 1]):=by
 have c2:=fun W h=>zAe t W h
 have c3:=fun W=>zPd d W
 by_cases h1:okN t
 ·rw [show zQd t=0 from if_pos h1] at c2
  by_cases h2:zId t=ba
  ·rw [h2] at c2
   by_cases h3:knB d
   ·exact absurd ⟨h1,h2,h3⟩ h
   ·rw [decide_eq_false h3] at c3
    exact stg_k t ba d _ _ _ _ _ _ _ _ _ w hT c2 c3
  ·exact stg_b t ba d _ _ _ _ _ _ _ _ _ w hT _ (by rw [bne_iff_ne];exact h2) c2
 ·rw [show zQd t=1 from if_neg h1] at c2
  exact stg_e t ba d _ _ _ _ _ _ _ _ _ w hT _ c2
section
variable (num ba wi pr ex le mo pa c x:Int)(nm:ByteArray)(de s g:Bool)(k Q:Nat)(hk:k<2^256)(w:World)(cm:Int)
 (c61:∀ W,Calls Tryz.prog 56 #[.int .i64 ba,.int .i64 pa] W fun r w'=>∃ v,r=.returned (.tuple #[v,.int .i64 0])/\Nt 2001 Q v w'/\Below W.heap.size W w')
 (c64:∀ W v u,Nt 4 k v W->Nt 2001 Q u W->CB 57 #[v,u] W (.int .i64 cm))
include hk c61 c64
theorem scnv_l (h:cm<0) :
  CB 26 #[.agg #[.int .i64 num,.string nm,.int .i64 ba,.int .i64 wi,.int .i64 pr,.int .i64 ex,.int .i64 le,.int .i64 mo,.int .i64 pa,.bool de],DV c s g x k] w (.tuple #[DV c s false x k,.int .i64 (if g then 1 else 0)]):=by
 have hbx:=fun W hW=>zWm (w0:=w.alloc (.cells #[.int .i64 num,.string nm,.int .i64 ba,.int .i64 wi,.int .i64 pr,.int .i64 ex,.int .i64 le,.int .i64 mo,.int .i64 pa,.bool de] 55)) (w:=W) (c:=c) (s:=s) (g:=g) (x:=x) (t:=32) hk hW
 have h':¬ 0<=cm:=by omega
 have h'':decide (0<=cm)=false:=decide_eq_false h'
 have hsm:=zAa
 cases g
 all_goals (
  go_enter Tryz.func26,Tryz.ntmps26
  go_wp2_with (first
   | (go_at_call 56;refine (c61 _).mono ?_;rintro r w1 ⟨v1,rfl,hv1,hb1⟩;have hv0:=hbx _ (bnx (zEa _ _) hb1);obtain ⟨_,_,_,_,hA1,_⟩:=wz w hb1;obtain ⟨_,_,_,_⟩:=zg hb1 (w.heap.size+1) (w.heap.size+1+1);clear hb1)
   | (go_at_call 57;refine wk w (c64 _ _ _ (by simpa using hv0) hv1) ?_;intro w2 hb2 _ _ _ _ hA2 _;obtain ⟨_,_,_,_⟩:=zg hb2 (w.heap.size+1) (w.heap.size+1+1);clear hb2))
  exact bodyPost_ret (by simp only [results,Tryz.results26];go_simp) rfl ⟨rfl,bgo⟩)
theorem scnv_g (h:0<=cm) :
  CB 26 #[.agg #[.int .i64 num,.string nm,.int .i64 ba,.int .i64 wi,.int .i64 pr,.int .i64 ex,.int .i64 le,.int .i64 mo,.int .i64 pa,.bool de],DV c s g x k] w (.tuple #[DV c s false x 0,.int .i64 (if g then 1 else 0)]):=by
 have hbx:=fun W hW=>zWm (w0:=w.alloc (.cells #[.int .i64 num,.string nm,.int .i64 ba,.int .i64 wi,.int .i64 pr,.int .i64 ex,.int .i64 le,.int .i64 mo,.int .i64 pa,.bool de] 55)) (w:=W) (c:=c) (s:=s) (g:=g) (x:=x) (t:=32) hk hW
 have h'':decide (0<=cm)=true:=decide_eq_true h
 have hz:DV c s false x 0=.agg #[.int .i64 c,.bool s,.bool false,.int .i64 x,.int .u64 0,.int .u64 0,.int .u64 0,.int .u64 0]:=by unfold DV;simp only [zOa]
 rw [hz]
 clear hz
 have hsm:=zAa
 cases g
 all_goals (
  go_enter Tryz.func26,Tryz.ntmps26
  go_wp2_with (first
   | (go_at_call 56;refine (c61 _).mono ?_;rintro r w1 ⟨v1,rfl,hv1,hb1⟩;have hv0:=hbx _ (bnx (zEa _ _) hb1);obtain ⟨_,_,_,_,hA1,_⟩:=wz w hb1;obtain ⟨_,_,_,_⟩:=zg hb1 (w.heap.size+1) (w.heap.size+1+1);clear hb1)
   | (go_at_call 57;refine wk w (c64 _ _ _ (by simpa using hv0) hv1) ?_;intro w2 hb2 _ _ _ _ hA2 _;obtain ⟨_,_,_,_⟩:=zg hb2 (w.heap.size+1) (w.heap.size+1+1);clear hb2))
  exact bodyPost_ret (by simp only [results,Tryz.results26];go_simp) rfl ⟨rfl,bgo⟩)
end
theorem zW8 (t:Int)(Q:Nat)(hQ:∀ W,Calls Tryz.prog 56 #[.int .i64 (zId t),.int .i64 (zEl t)] W fun r w'=>∃ v,r=.returned (.tuple #[v,.int .i64 0])/\Nt 2001 Q v w'/\Below W.heap.size W w')(c x:Int)(s g:Bool){k:Nat}(hk:k<2^256)(w:World) :
  CB 26 #[InfV t,DV c s g x k] w (.tuple #[DV c s false x (if k<Q then k else 0),.int .i64 (if g then 1 else 0)]):=by
 have c64:∀ W v u,Nt 4 k v W->Nt 2001 Q u W->CB 57 #[v,u] W (.int .i64 (sgn (k:Int) (Q:Int))):=fun W v u h1 h2=>zWr (by decide) (by decide) h1 h2
 by_cases h:k<Q
 ·rw [if_pos h]
  refine scnv_l _ _ _ _ _ _ _ _ c x _ _ s g k Q hk w _ hQ c64 ?_
  rcases zFd (k:Int) (Q:Int) with ⟨x,e⟩|⟨x,e⟩|⟨x,e⟩<;>omega
 ·rw [if_neg h]
  refine scnv_g _ _ _ _ _ _ _ _ c x _ _ s g k Q hk w _ hQ c64 ?_
  rcases zFd (k:Int) (Q:Int) with ⟨x,e⟩|⟨x,e⟩|⟨x,e⟩<;>omega
end
theorem zB1 (s:Bool){e:Int}(he:-100000<=e/\e<=100000):zYs (sgL s++unT [48] e)=some ⟨1,s,false,[],e⟩:=by
 have hlen:(unT [48] e).length<=26:=by have:=zZe (D:=[48]) he;rw [List.length_cons,List.length_nil] at this;omega
 obtain ⟨x1,x2,x3,x4,x5⟩:=zL6 e (by omega)
 have hu:unT [48] e=[48]++(101::Lib.itoa e):=rfl
 have key:zKl (unT [48] e)=true/\finD (unT [48] e)=[]/\finE (unT [48] e)=e/\∃ t,unT [48] e=48::t:=by
  rw [hu]
  obtain ⟨d1,d2⟩:=zRf (l:=[48]) (m:=101::Lib.itoa e) (by decide) x4
  have f1:zOo ([48]++101::Lib.itoa e)=[]:=by unfold zOo;rw [d2,x3];rfl
  have f2:zNc ([48]++101::Lib.itoa e)=101::Lib.itoa e:=by unfold zNc;rw [d2,x3];rfl
  refine ⟨?_,?_,?_,_,rfl⟩
  ·unfold zKl;rw [f1,f2,x1,d1];rfl
  ·unfold finD;rw [f1,d1];rfl
  ·unfold finE;rw [f1,f2,x2]
   rw [show e-((([]:List UInt8).length:Nat):Int)=e by simp]
   exact zYm (by omega)
 obtain ⟨k1,k2,k3,t,k4⟩:=key
 unfold zYs
 have hs:(sgL s++unT [48] e).length<=4000:=by
  rw [List.length_append]
  have:(sgL s).length<=1:=by cases s<;>decide
  omega
 rw [if_neg (by omega)]
 have hsg:gsgB (sgL s++unT [48] e)=s/\sgR (sgL s++unT [48] e)=unT [48] e:=by
  rw [k4]
  exact zQj s 48 t ⟨by decide,by decide⟩
 rw [hsg.1,hsg.2]
 unfold zB7
 rw [if_pos k1,k2,k3]
def wtD (k:Nat):List UInt8:=if k=0 then [48] else dcL k
def xtT (v:Dat):List UInt8:=if v.c=1 then sgL v.s++unT (wtD v.k) (v.x+(wtD v.k).length-1) else zOh v.c v.s v.g (dcL v.k) 0
def xtP (v:Dat):Prt:=⟨v.c,v.s,v.g,dcL v.k,if v.c=1 then v.x else 0⟩
theorem zY6 {k:Nat}(h0:k≠0)(hk:k<2^256):dcL k≠[]:=by
 obtain ⟨f1,f2,f3⟩:=zCh hk
 intro e
 rw [e,zZ6] at f2
 exact h0 f2.symm
theorem vI_k {f:DF}(hf:f.ok){v:Dat}(h:vI f v):v.k<2^256:=by
 obtain ⟨m0,m1,l0,l1,lm,j0,j1⟩:=zKx hf
 have h1:(10:Nat)^(3*f.j+1)<=10^34:=Nat.pow_le_pow_right (by decide) (by omega)
 have h2:(10:Nat)^(3*f.j)<=10^34:=Nat.pow_le_pow_right (by decide) (by omega)
 have h3:(10:Nat)^34<2^256:=by decide
 rcases h with ⟨_,_,a,_⟩|⟨_,_,a,_⟩|⟨_,_,a⟩
 ·omega
 ·rw [a];decide
 ·omega
theorem xt_cut {f:DF}(hf:f.ok){v:Dat}(h:vI f v):zYs (xtT v)=some (xtP v)/\(xtT v).length<=3001:=by
 obtain ⟨m0,m1,l0,l1,lm,j0,j1⟩:=zKx hf
 have hk:=vI_k hf h
 obtain ⟨f1,f2,f3⟩:=zCh hk
 obtain ⟨c,s,g,x,k⟩:=v
 unfold xtT xtP
 dsimp only at *
 rcases h with ⟨h1,h2,h3,h4,h5⟩|⟨h1,h2,h3,h4⟩|⟨h1,h2,h3⟩
 ·dsimp only at h1 h2 h3 h4 h5
  subst h1 h2
  have hx:-10000<=x/\x<=10000:=by unfold DF.m at *;omega
  rw [if_pos rfl,if_pos rfl]
  unfold wtD
  by_cases h0:k=0
  ·rw [if_pos h0,h0,show dcL 0=[] by kernel_rfl,show x+((([48]:List UInt8).length:Nat):Int)-1=x by simp]
   refine ⟨zB1 s (by omega),?_⟩
   have hlen:(unT [48] x).length<=26:=by have:=zZe (D:=[48]) (e:=x) (by omega);rw [List.length_cons,List.length_nil] at this;omega
   rw [List.length_append]
   have:(sgL s).length<=1:=by cases s<;>decide
   omega
  ·rw [if_neg h0]
   refine ⟨yQb s f1 (zY6 h0 hk) (by omega) (by omega) rfl,?_⟩
   have hlen:=zZe (D:=dcL k) (e:=x+(dcL k).length-1) (by omega)
   rw [List.length_append]
   have:(sgL s).length<=1:=by cases s<;>decide
   omega
 ·dsimp only at h1 h2 h3 h4
  subst h1 h2 h3 h4
  have e0:dcL 0=[]:=by kernel_rfl
  rw [e0]
  exact ⟨by cases s<;>kernel_rfl,by cases s<;>decide⟩
 ·dsimp only at h1 h2 h3
  subst h1 h2
  have hlen:(zOh 3 s g (dcL k) 0).length<=3001:=by
   have:=zA2 (c:=3) (s:=s) (g:=g) (d:=dcL k) (e:=0) (by decide)
   omega
  have hj:=(zS3 (p:=⟨3,s,g,dcL k,0⟩) ⟨f1,Or.inr (Or.inr ⟨rfl,rfl,by show (zOh 3 s g (dcL k) 0).length<=4000;omega⟩)⟩).2
  exact ⟨hj,hlen⟩
section
abbrev zd:Array Value:=#[.int .i64 0,.bool false,.bool false,.int .i64 0,.int .u64 0,.int .u64 0,.int .u64 0,.int .u64 0]
theorem zYi {n b:Nat}{a:World}(hb:n<=b):∀ (vs:List Value) (o:Nat) (W:World),Below n a W->Below n a (W.setCells b o vs)
 | [],_,_,h=>h
 | v::r,o,W,h=>zYi hb r (o+1) _ (h.setCell hb v)
def D8 (g:Nat)(cs:Array Value)(w:World):Prop:=g<w.heap.size/\cs.size=8/\(∀ i,i<8->w.cell? ⟨g,i,none⟩=cs[i]?)/\∀ i,w.frozen? ⟨g,i,none⟩=false
theorem D8.next {g:Nat}{cs:Array Value}{w w':World}(h:D8 g cs w)(hb:Below w.heap.size w w'):D8 g cs w' :=
 ⟨Nat.lt_of_lt_of_le h.1 hb.size,h.2.1,fun i hi=>(hb.cell (p:=⟨g,i,none⟩) h.1).trans (h.2.2.1 i hi),fun i=>(hb.frozen (p:=⟨g,i,none⟩) h.1).trans (h.2.2.2 i)⟩
theorem D8.new (w:World):D8 w.heap.size zd (w.alloc (.cells zd 32)):=by
 refine ⟨by simp,rfl,fun i hi=>?_,fun i=>?_⟩
 ·rw [World.cell?_alloc_new]
 ·simp [go_sem]
theorem D8.put {g:Nat}{cs cs':Array Value}{w:World}(h:D8 g cs w)(hs:cs'.size=8):D8 g cs' (w.setCells g 0 cs'.toList):=by
 have hin:=World.cell?_setCells_in g cs'.toList 0 w (fun j hj=>by
  rw [Nat.zero_add,h.2.2.1 j (by simpa [hs] using hj),Array.getElem?_eq_getElem (by rw [h.2.1];simpa [hs] using hj)];rfl)
 refine ⟨Nat.lt_of_lt_of_le h.1 (zYi (n:=0) (Nat.zero_le _) _ _ _ (Below.refl 0 w)).size,hs,fun i hi=>?_,fun i=>?_⟩
 ·have:=hin i (by simpa [hs] using hi)
  rw [Nat.zero_add] at this
  rw [this,Array.getElem?_eq_getElem (by rw [hs];exact hi)]
  simp
 ·rw [World.frozen?_setCells];exact h.2.2.2 i
attribute [local irreducible] W4 Nt NT
section
variable {a:Act}{w:World}{K:Act->World->Prop}{Q:Exit->Act->World->Prop}{d p q:Nat}{ty:TypeId}{pos:String}{after:Array Edge}{gd:Option (Nat×Bool)}
end
end
section
attribute [local irreducible] W4 Nt
def dwT (n:Int)(Bp:Nat):List UInt8:=if zSd n Bp then xtT (vM (fD n) Bp) else []
end
def twN (n:Int):Int:=if n<=9 then n+3 else n-3
def twV (n:Int):Int:=if zYb n then twN n else 0
def twE (n:Int):Int:=if zYb n then 0 else 1
theorem zDr {n:Int}(h:zYb n):zYb (twN n):=by
 unfold twN
 unfold zYb at *
 split<;>omega
theorem zP4 {n:Int}(h:zYb n):∃ b,fD (twN n)={ fD n with dn:=b }:=by
 rcases zFk h with rfl|rfl|rfl|rfl|rfl|rfl<;>exact ⟨_,rfl⟩
theorem vI_tw {n:Int}(h:zYb n)(v:Dat):vI (fD (twN n)) v↔vI (fD n) v:=by
 obtain ⟨b,e⟩:=zP4 h
 rw [e]
 exact Iff.rfl
theorem tw_w {n:Int}(h:zYb n):(fD (twN n)).t=(fD n).t/\(fD (twN n)).w=(fD n).w/\(fD (twN n)).j=(fD n).j:=by
 obtain ⟨b,e⟩:=zP4 h
 rw [e]
 exact ⟨rfl,rfl,rfl⟩
theorem zW5 {n:Int}(h:zYb n)(d:Int)(N D:Nat):rqE (twN n) d N D=rqE n d N D:=by
 unfold rqE
 have e:(zYb (twN n)/\knB d/\D≠0)=(zYb n/\knB d/\D≠0):=by
  rw [eq_true (zDr h),eq_true h]
 simp only [e]
theorem rqD_tw {n:Int}(h:zYb n)(d:Int)(s:Bool)(N D:Nat)(x y:Int):rqD (twN n) d s N D x y=rqD n d s N D x y:=by
 obtain ⟨b,e⟩:=zP4 h
 unfold rqD
 rw [zW5 h,e]
 rfl
theorem rqF_tw {n:Int}(h:zYb n)(d:Int)(s:Bool)(N D:Nat)(x:Int):rqF (twN n) d s N D x=rqF n d s N D x:=by
 obtain ⟨b,e⟩:=zP4 h
 unfold rqF
 rw [zW5 h,e]
 rfl
def tcV (n:Int)(B:Nat):Nat:=if zSd n B then vP (fD (twN n)) (vM (fD n) B) else 0
theorem zM8 {n:Int}{B:Nat}(h:zSd n B):vPV (twN n) (vM (fD n) B)=tcV n B/\vPE (twN n) (vM (fD n) B)=0:=by
 have hi:=(vI_tw h.1 _).2 (zHn (zTb n) B)
 unfold vPV vPE tcV
 rw [if_pos ⟨zDr h.1,hi⟩,if_pos (zDr h.1),if_pos hi,if_pos h]
 exact ⟨rfl,rfl⟩
section
structure DtxC (TT:World->Prop):Prop where
 next:∀ w w',TT w->Below w.heap.size w w'->TT w'
 t10:∀ w,TT w->Tb10 w
 wr:∀ n Bp W,Bp<2^256->TT W->CB 22 #[.int .i64 n,A4 Bp] W (.tuple #[.string (B (dwT n Bp)),.int .i64 (vUE n Bp)])
attribute [local irreducible] W4
end
section
def vB (f:DF):Nat:=if f.dn then f.w else 0
def LF (f:DF):Value:=LD f.dn ((f.w+5:Nat):Int) (f.t:Int) (vB f:Int) (vQ f) (10^(3*f.j+1)) (10^(3*f.j)) f.l (f.l+3*2^f.w-1)
theorem DF.ok.w12 {f:DF}(h:f.ok):6<=f.w/\f.w<=12/\f.t<=110/\20<=f.t/\f.j<=11:=by
 rcases h with ⟨h1,h2,h3,h4⟩|⟨h1,h2,h3,h4⟩|⟨h1,h2,h3,h4⟩<;>omega
theorem zR5 {f:DF}(h:f.ok):vQ f<2^128:=by
 unfold vQ
 rcases h with ⟨h1,h2,h3,h4⟩|⟨h1,h2,h3,h4⟩|⟨h1,h2,h3,h4⟩<;>rw [h1,h3]<;>cases f.dn<;>decide
theorem zNp {f:DF}(h:f.ok):10^(3*f.j+1)<2^128/\10^(3*f.j)<2^128:=by
 rcases h with ⟨h1,h2,h3,h4⟩|⟨h1,h2,h3,h4⟩|⟨h1,h2,h3,h4⟩<;>rw [h3]<;>decide
theorem zQk (n:Nat):(2:Int)^n=((2^n:Nat):Int):=by simp
theorem zIo (x n:Nat):(x:Int)/2^n=((x/2^n:Nat):Int):=by rw [zQk,Int.natCast_ediv]
theorem zHq (x n:Nat):(x:Int)%2^n=((x%2^n:Nat):Int):=by rw [zQk,Int.natCast_emod]
theorem zQi (x y:Nat):(((x:Nat):Int)==(y:Int))=decide (x=y):=by
 by_cases h:x=y
 ·subst h;simp
 ·rw [decide_eq_false h];simp;omega
section
variable {f:DF}(h:f.ok)
include h
theorem fsplit (B:Nat)(w:World)(hB:B<2^256):CB 137 #[LF f,A4 B] w (.tuple #[.bool (vS f B),.int .u64 (vG f B:Int),A4 (vR f B)]):=by
 have hw:=h.w12
 have hd:B/2^f.t<2^256:=Nat.lt_of_le_of_lt (Nat.div_le_self _ _) hB
 have hle:B/2^f.t*2^f.t<=B:=Nat.div_mul_le_self _ _
 have c3:=fun W=>sub4 B (B/2^f.t*2^f.t) W hB (Nat.lt_of_le_of_lt hle hB)
 rw [zFt hle,show B-B/2^f.t*2^f.t=vR f B by unfold vR;have:=Nat.div_add_mod' B (2^f.t);omega] at c3
 have c5:=fun W=>zSm (W4 (B/2^f.t) 0) (f.w+5) (zJa _ 0) (by omega) W
 have e5:W4 (B/2^f.t) 0%2^(f.w+5)=(vG f B:Int):=by
  unfold W4 vG
  rw [Nat.mul_zero,Nat.pow_zero,Nat.div_one,zHq]
  congr 1
  rw [show (18446744073709551616:Nat)=2^(f.w+5)*2^(64-(f.w+5)) by rw [← Nat.pow_add,show f.w+5+(64-(f.w+5))=64 by omega]]
  exact Nat.mod_mul_right_mod _ _ _
 rw [e5] at c5
 have e4:(((B/2^f.t/2^(f.w+5)%2:Nat):Int)==1)=vS f B:=by
  unfold vS
  rw [Nat.div_div_eq_div_mul,← Nat.pow_add]
  exact zQi _ 1
 rw [← e4]
 exact zP8 _ _ _ _ _ _ _ _ _ w B _ _ _ _ _ _ (fun W=>shr4 B f.t W hB (by omega)) (fun W=>zS8 (B/2^f.t) f.t W hd (by omega)) c3 (fun W=>bit4 (B/2^f.t) (f.w+5) W hd (by omega)) c5
theorem fkind (G:Nat)(w:World)(hG:G<2^(f.w+5)):CB 138 #[LF f,.int .u64 (G:Int)] w (.int .u64 (vV f.w G:Int)):=by
 have hw:=h.w12
 have hp:2^(f.w+5)<=2^17:=Nat.pow_le_pow_right (by decide) (by omega)
 exact kind_v _ _ _ _ _ _ _ _ _ w (G:Int) _ f.w (by omega) (by omega) (by omega) (by omega) (zIo G f.w)
theorem fsig (G:Nat)(w:World)(hG:G<2^(f.w+5)):CB 139 #[LF f,.int .u64 (G:Int)] w (.bool (decide (G/2^(f.w-1)%2=1))):=by
 have hw:=h.w12
 have hp:2^(f.w+5)<=2^17:=Nat.pow_le_pow_right (by decide) (by omega)
 have hd:G/2^(f.w-1)<=G:=Nat.div_le_self _ _
 have e:=zDd (G/2^(f.w-1)) 1 (by decide) (by omega)
 have e1:bits .and .u64 ((G:Int)/2^(f.w-1)) 1=((G/2^(f.w-1)%2:Nat):Int):=by rw [zIo];exact e
 have c:=zFw f.dn ((f.w+5:Nat):Int) (f.t:Int) (vB f:Int) (vQ f) (10^(3*f.j+1)) (10^(3*f.j)) f.l (f.l+3*2^f.w-1) w (G:Int) _ (f.w-1) (by omega) (by omega) (by omega) (by omega) e1
 rw [show (((G/2^(f.w-1)%2:Nat):Int)==1)=decide (G/2^(f.w-1)%2=1) from zQi _ 1] at c
 exact c
theorem fspec (k:Nat)(s:Bool)(w:World)(hk:k<=31):CB 185 #[LF f,.int .u64 (k:Int),.bool s] w (.int .u64 ((k*2^f.w+(if s then 2^(f.w-1) else 0):Nat):Int)):=by
 have hw:=h.w12
 have ho:=zJc k 1 1 (by decide) (by omega)
 have hp:2^(f.w-1)<=2^11:=Nat.pow_le_pow_right (by decide) (by omega)
 have hp0:1<=2^(f.w-1):=Nat.one_le_two_pow
 have e2:2^f.w=2*2^(f.w-1):=by rw [← Nat.pow_succ'];congr 1;omega
 refine zEw _ _ _ _ _ _ _ _ _ w (k:Int) _ s (f.w-1) (by omega) (by omega) (by omega) (by omega) (by omega) ((2^(f.w-1):Nat):Int) (zQk _) (by omega) (by omega) ?_ ?_ ?_
 ·rw [show ((k*2^1:Nat):Int)=(k:Int)*2 by omega] at ho
  rw [show (1:Int)=((1:Nat):Int) from rfl,ho];omega
 ·rw [e2]
  generalize 2^(f.w-1)=H at *
  cases s
  ·simp only [Bool.false_eq_true,if_false,Int.add_zero,Nat.add_zero]
   rw [Int.natCast_mul,Int.natCast_mul,Int.mul_assoc];rfl
  ·simp only [if_true]
   rw [Int.natCast_add,Int.natCast_mul,Int.natCast_mul,Int.add_mul,Int.one_mul,Int.mul_assoc];rfl
 ·have:k*2^f.w<=31*2^12:=Nat.mul_le_mul hk (Nat.pow_le_pow_right (by decide) (by omega))
  have:(if s then 2^(f.w-1) else 0)<=2^11:=by split<;>omega
  omega
theorem fread (R:Nat)(w:World)(hR:R<2^f.t):CB 141 #[LF f,A4 R] w (A4 (vT f R)):=by
 have hw:=h.w12
 have h256:R<2^256:=Nat.lt_of_lt_of_le hR (Nat.pow_le_pow_right (by decide) (by omega))
 unfold LF vT
 have ht:=h.t10
 cases hd:f.dn
 ·simp only [Bool.false_eq_true,if_false]
  exact read_p _ _ _ _ _ _ _ _ w R
 ·simp only [if_true]
  have c:=fun W=>zQ4 R (f.j:Int) W h256
  have e:dUv R (f.j:Int)=dlU f.j R:=by
   unfold dUv
   rw [if_pos (by omega),Int.toNat_natCast,if_pos (by rw [← h.pt];exact hR)]
  rw [e] at c
  exact read_d _ _ _ _ _ _ _ _ w R _ _ (f.j:Int) (by omega) (by omega) (by omega) c
theorem zJ6 (C:Nat)(w:World)(hC:C<2^256)(hd:f.dn=true->C<1000^f.j):CB 184 #[LF f,A4 C] w (A4 (if f.dn then dlP f.j C else C)):=by
 have hw:=h.w12
 unfold LF
 have ht:=h.t10
 cases e:f.dn
 ·simp only [Bool.false_eq_true,if_false]
  exact zG7 _ _ _ _ _ _ _ _ w C
 ·simp only [if_true]
  have c:=fun W=>zS4 C (f.j:Int) W hC
  have e:dPv C (f.j:Int)=dlP f.j C:=by
   unfold dPv
   rw [if_pos (by omega),Int.toNat_natCast,if_pos (hd e)]
  rw [e] at c
  exact zH7 _ _ _ _ _ _ _ _ w C _ _ (f.j:Int) (by omega) (by omega) (by omega) c
theorem yQa (s:Bool)(G R:Nat)(w:World)(hG:G<2^(f.w+5))(hR:R<2^f.t):CB 182 #[LF f,.bool s,.int .u64 (G:Int),A4 R] w (A4 ((if s then 2^(f.t+(f.w+5)) else 0)+G*2^f.t+R)):=by
 have hw:=h.w12
 have hp:2^(f.w+5)<=2^17:=Nat.pow_le_pow_right (by decide) (by omega)
 have hp0:1<=2^(f.w+5):=Nat.one_le_two_pow
 have hpt:2^f.t<=2^110:=Nat.pow_le_pow_right (by decide) (by omega)
 have key:∀ E:Nat,E<2^18->(∀ W,CB 78 #[.int .u64 (E:Int)] W (A4 E))/\(∀ W,CB 74 #[A4 E,.int .i64 (f.t:Int)] W (A4 (E*2^f.t)))/\(∀ W,CB 37 #[A4 (E*2^f.t),A4 R] W (.tuple #[A4 (E*2^f.t+R),.int .u64 (((E*2^f.t+R)/2^256:Nat):Int)])):=by
  intro E hE
  have hm:E*2^f.t<=2^18*2^110:=Nat.mul_le_mul (by omega) hpt
  have e:(2:Nat)^18*2^110<2^256:=by decide
  exact ⟨fun W=>of4 E W (by omega),fun W=>zS8 E f.t W (by omega) (by omega),fun W=>zE7 _ _ W (by omega) (Nat.lt_of_lt_of_le hR (by omega))⟩
 cases s
 ·obtain ⟨k1,k2,k3⟩:=key G (by omega)
  simp only [Bool.false_eq_true,if_false,Nat.zero_add]
  exact yOb _ _ _ _ _ _ _ _ _ w _ _ _ _ _ _ k1 k2 k3
 ·obtain ⟨k1,k2,k3⟩:=key (2^(f.w+5)+G) (by omega)
  have ho:=zJc 1 G (f.w+5) hG (by omega)
  rw [Nat.one_mul] at ho
  have hc:bits .or .u64 (G:Int) ((2^(f.w+5):Nat):Int)=((2^(f.w+5)+G:Nat):Int):=by
   rw [← ho]
   have e1:=zYf ((2^(f.w+5):Nat):Int) (G:Int) (by omega) (by omega)
   have e2:=zYf (G:Int) ((2^(f.w+5):Nat):Int) (by omega) (by omega)
   unfold orW at e1 e2
   rw [e1,e2,Nat.or_comm]
  simp only [if_true]
  rw [show 2^(f.t+(f.w+5))+G*2^f.t+R=(2^(f.w+5)+G)*2^f.t+R by rw [Nat.add_mul,← Nat.pow_add,Nat.add_comm (f.w+5) f.t]]
  exact yNb _ _ _ _ _ _ _ _ _ w (G:Int) _ _ _ _ _ _ k1 k2 k3 (f.w+5) _ rfl (by omega) (zQk _) (by omega) (by omega) hc
theorem fpart (G:Nat)(w:World)(hG:G<2^(f.w+5)):CB 142 #[LF f,.int .u64 (G:Int)] w (.tuple #[.int .u64 (vF f.dn f.w G:Int),.int .u64 (vL f.dn f.w G:Int)]):=by
 have hw:=h.w12
 have hp:2^(f.w+5)<=2^17:=Nat.pow_le_pow_right (by decide) (by omega)
 have hB:vB f<=12:=by unfold vB;split<;>omega
 have hA:G/2^vB f<=G:=Nat.div_le_self _ _
 have cl:=fun W=>zSm (G:Int) (vB f) (by omega) (by omega) W
 rw [zHq] at cl
 have hX:G%2^vB f<2^vB f:=Nat.mod_lt _ (Nat.two_pow_pos _)
 have hpb:2^vB f<=2^12:=Nat.pow_le_pow_right (by decide) hB
 have e8:2^(f.w+5)=32*2^f.w:=by rw [Nat.pow_add,Nat.mul_comm]
 have e3:2^(f.w+3)=8*2^f.w:=by rw [Nat.pow_add,Nat.mul_comm]
 have hV8:G/2^(f.w+3)=vV f.w G/8:=by unfold vV;rw [Nat.div_div_eq_div_mul,e3,Nat.mul_comm]
 have hV32:vV f.w G<32:=by unfold vV;rw [Nat.div_lt_iff_lt_mul (Nat.two_pow_pos _),← e8];exact hG
 have hone:1<=2^f.w:=Nat.one_le_two_pow
 by_cases h24:vV f.w G<24
 ·have hF:∃ F:Nat,F=G/2^vB f/8/\vF f.dn f.w G=F*2^vB f+G%2^vB f:=by
   refine ⟨_,rfl,?_⟩
   unfold vF vB
   cases f.dn
   ·simp only [Bool.false_eq_true,if_false,Nat.pow_zero,Nat.div_one,Nat.mod_one,Nat.mul_one,Nat.add_zero,if_pos h24]
   ·simp only [if_true,if_pos h24];rfl
  obtain ⟨F,hF1,hF2⟩:=hF
  have hFl:F<=G:=by rw [hF1];exact Nat.le_trans (Nat.div_le_self _ _) hA
  have hFm:F*2^vB f<=2^17*2^12:=Nat.mul_le_mul (by omega) hpb
  have ho:=zJc F (G%2^vB f) (vB f) hX (by omega)
  rw [hF2]
  have hL:vL f.dn f.w G=G/2^vB f%8:=by
   unfold vL vB
   cases f.dn
   ·simp only [Bool.false_eq_true,if_false,Nat.pow_zero,Nat.div_one,if_pos h24]
   ·simp only [if_true,if_pos h24];rfl
  rw [hL]
  have c3:=fun W=>zSs ((G/2^vB f:Nat):Int) 3 (by omega) (by decide) W
  rw [zHq] at c3
  refine part_s f.dn _ _ _ _ _ _ _ w (G:Int) ((G/2^vB f:Nat):Int) ((G/2^(f.w+3):Nat):Int) (F:Int) ((F*2^vB f:Nat):Int) ((G%2^vB f:Nat):Int) _ _ (vB f) (f.w+3) (by omega) (by omega) (by omega) (by omega) (by omega) (zIo _ _) (by omega) (by omega) (zIo _ _) (by omega) (by omega) (by rw [zQk,Int.natCast_mul]) (by omega) (by omega) cl ho ?_ (by omega) c3
  rw [show (3:Int)=((3:Nat):Int) from rfl,zQi,hV8]
  exact decide_eq_false (by omega)
 ·have e2:2^(f.w+2)=4*2^f.w:=by rw [Nat.pow_add,Nat.mul_comm]
  have hk:∃ k:Nat,((f.w+3:Nat):Int)-(vB f:Int)=(k:Int)/\k<=15/\vF f.dn f.w G=G/2^vB f%2^k/2*2^vB f+G%2^vB f/\vL f.dn f.w G=8+G/2^vB f%2^k%2:=by
   unfold vF vL vB
   cases f.dn
   ·refine ⟨f.w+3,by simp,by omega,?_,?_⟩
    ·simp only [Bool.false_eq_true,if_false,Nat.pow_zero,Nat.div_one,Nat.mod_one,Nat.mul_one,Nat.add_zero,if_neg h24]
     rw [e2,e3];generalize 2^f.w=H at *;rw [show 8*H=2*(4*H) by omega,Nat.mod_mul_right_div_self]
    ·simp only [Bool.false_eq_true,if_false,Nat.pow_zero,Nat.div_one,if_neg h24]
     rw [e3,show 8*2^f.w=2*(4*2^f.w) by omega,Nat.mod_mul_right_mod]
   ·refine ⟨3,by simp only [if_true];omega,by omega,?_,?_⟩
    ·simp only [if_true,if_neg h24]
     show vV f.w G/2%4*_+_=vV f.w G%2^3/2*_+_
     rw [show (2:Nat)^3=2*4 by decide,Nat.mod_mul_right_div_self]
    ·simp only [if_true,if_neg h24]
     show 8+vV f.w G%2=8+vV f.w G%2^3%2
     rw [show (2:Nat)^3=2*4 by decide,Nat.mod_mul_right_mod]
  obtain ⟨k,hk,hk15,hF2,hL⟩:=hk
  rw [hF2,hL]
  have hAi:(G:Int)/2^vB f=((G/2^vB f:Nat):Int):=zIo _ _
  have hMi:(G:Int)/2^(f.w+3)=((G/2^(f.w+3):Nat):Int):=zIo _ _
  have hq:(((G/2^(f.w+3):Nat):Int)==3)=true:=by
   rw [show (3:Int)=((3:Nat):Int) from rfl,zQi,hV8]
   exact decide_eq_true (by omega)
  generalize G/2^vB f=A at *
  generalize G/2^(f.w+3)=M at *
  generalize G%2^vB f=X at *
  have c3:=fun W=>zSs (A:Int) k (by omega) (by omega) W
  rw [zHq] at c3
  have hAk:A%2^k<=A:=Nat.mod_le _ _
  generalize A%2^k=A' at *
  have hFm:A'/2*2^vB f<=2^17*2^12:=Nat.mul_le_mul (by omega) hpb
  have ho:=zJc (A'/2) X (vB f) hX (by omega)
  have c4:=fun W=>zSs (A':Int) 1 (by omega) (by omega) W
  rw [zHq] at c4
  exact part_g f.dn _ _ _ _ _ _ _ w (G:Int) (A:Int) (M:Int) ((A'/2:Nat):Int) ((A'/2*2^vB f:Nat):Int) (X:Int) _ _ (vB f) (f.w+3) (by omega) (by omega) (by omega) (by omega) (by omega) hAi (by omega) (by omega) hMi (by omega) (by omega) (by rw [zQk,Int.natCast_mul]) (by omega) (by omega) cl ho (A':Int) ((A'%2^1:Nat):Int) k hq hk (by omega) (by omega) (by omega) (by omega) (by omega) (by omega) c3 c4
theorem funite (E a:Nat)(w:World)(hE:E<3*2^f.w)(ha:a<=9):CB 183 #[LF f,.int .u64 (E:Int),.int .u64 (a:Int)] w (.int .u64 (vN f.dn f.w E a:Int)):=by
 have hw:=h.w12
 have hp:2^f.w<=2^12:=Nat.pow_le_pow_right (by decide) (by omega)
 have hB:vB f<=12:=by unfold vB;split<;>omega
 have hA:E/2^vB f<=E:=Nat.div_le_self _ _
 have cl:=fun W=>zSm (E:Int) (vB f) (by omega) (by omega) W
 rw [zHq] at cl
 have hX:E%2^vB f<2^vB f:=Nat.mod_lt _ (Nat.two_pow_pos _)
 have hpb:2^vB f<=2^12:=Nat.pow_le_pow_right (by decide) hB
 have hone:1<=2^f.w:=Nat.one_le_two_pow
 by_cases h8:8<=a
 ·have hk:∃ k:Nat,((f.w+5:Nat):Int)-2-(vB f:Int)=(k:Int)/\1<=k/\k<=15/\E/2^vB f*2<2^k/\vN f.dn f.w E a=(3*2^k+E/2^vB f*2+a%2)*2^vB f+E%2^vB f:=by
   unfold vN vB
   have e3:2^(f.w+3)=8*2^f.w:=by rw [Nat.pow_add,Nat.mul_comm]
   cases f.dn
   ·refine ⟨f.w+3,by simp only [Bool.false_eq_true,if_false];omega,by omega,by omega,?_,?_⟩
    ·simp only [Bool.false_eq_true,if_false,Nat.pow_zero,Nat.div_one];omega
    ·simp only [Bool.false_eq_true,if_false,Nat.pow_zero,Nat.div_one,Nat.mod_one,Nat.mul_one,Nat.add_zero,if_pos h8]
   ·refine ⟨3,by simp only [if_true];omega,by omega,by omega,?_,?_⟩
    ·simp only [if_true]
     have:E/2^f.w<3:=by rw [Nat.div_lt_iff_lt_mul (Nat.two_pow_pos _)];exact hE
     omega
    ·simp only [if_true,if_pos h8]
  obtain ⟨k,hk,hk1,hk15,hAk,hN⟩:=hk
  rw [hN]
  have hAi:(E:Int)/2^vB f=((E/2^vB f:Nat):Int):=zIo _ _
  have hpk:2^k<=2^15:=Nat.pow_le_pow_right (by decide) hk15
  have hpk1:1<=2^k:=Nat.one_le_two_pow
  have ek:2^k=2^(k-1)*2:=by rw [← Nat.pow_succ];congr 1;omega
  have hki:(2:Int)^k=((2^k:Nat):Int):=zQk k
  generalize E/2^vB f=A at *
  generalize E%2^vB f=X at *
  have hU:=zJc 3 (A*2) k hAk (by omega)
  have hY:=zJc (3*2^(k-1)+A) (a%2) 1 (Nat.mod_lt _ (by decide)) (by omega)
  rw [show (3*2^(k-1)+A)*2^1=3*2^k+A*2 by omega] at hY
  have c1:=fun W=>zSm (a:Int) 1 (by omega) (by omega) W
  rw [zHq,Nat.pow_one] at c1
  have hU':bits .or .u64 (3*((2^k:Nat):Int)) ((A:Int)*2)=((3*2^k+A*2:Nat):Int):=by
   rw [← hU,Int.natCast_mul,Int.natCast_mul];rfl
  clear hU
  generalize 2^k=H at *
  have hYm:(3*H+A*2+a%2)*2^vB f<=2^18*2^12:=Nat.mul_le_mul (by omega) hpb
  have ho:=zJc (3*H+A*2+a%2) X (vB f) hX (by omega)
  exact zA8 f.dn _ _ _ _ _ _ _ w (E:Int) (a:Int) (A:Int) ((3*H+A*2+a%2:Nat):Int) (((3*H+A*2+a%2)*2^vB f:Nat):Int) (X:Int) _ (vB f) (by omega) (by omega) (by omega) (by omega) (by omega) hAi (by omega) (by omega) (by omega) (by omega) (by rw [zQk,Int.natCast_mul]) (by omega) (by omega) cl ho k (H:Int) ((3*H+A*2:Nat):Int) ((a%2:Nat):Int) (by omega) hk hki (by omega) (by omega) hU' hY c1
 ·have hN:vN f.dn f.w E a=(E/2^vB f*8+a)*2^vB f+E%2^vB f:=by
   unfold vN vB
   cases f.dn
   ·simp only [Bool.false_eq_true,if_false,Nat.pow_zero,Nat.div_one,Nat.mod_one,Nat.mul_one,Nat.add_zero,if_neg h8]
   ·simp only [if_true,if_neg h8]
  rw [hN]
  have hAi:(E:Int)/2^vB f=((E/2^vB f:Nat):Int):=zIo _ _
  generalize E/2^vB f=A at *
  generalize E%2^vB f=X at *
  have hY:=zJc A a 3 (by omega) (by omega)
  have hY':bits .or .u64 ((A:Int)*8) (a:Int)=((A*8+a:Nat):Int):=hY
  have hYm:(A*8+a)*2^vB f<=2^18*2^12:=Nat.mul_le_mul (by omega) hpb
  have ho:=zJc (A*8+a) X (vB f) hX (by omega)
  exact zZ7 f.dn _ _ _ _ _ _ _ w (E:Int) (a:Int) (A:Int) ((A*8+a:Nat):Int) (((A*8+a)*2^vB f:Nat):Int) (X:Int) _ (vB f) (by omega) (by omega) (by omega) (by omega) (by omega) hAi (by omega) (by omega) (by omega) (by omega) (by rw [zQk,Int.natCast_mul]) (by omega) (by omega) cl ho (by omega) hY'
end
end
section
theorem vT_256 {f:DF}(h:f.ok){R:Nat}(hR:R<2^f.t):vT f R<2^128:=by
 have hw:=h.w12
 have:=zNp h
 cases hd:f.dn
 ·unfold vT;rw [hd,if_neg (by decide)];exact Nat.lt_of_lt_of_le hR (Nat.pow_le_pow_right (by decide) (by omega))
 ·exact Nat.lt_trans (vT_lt h hd R) this.2
theorem vL_9 {f:DF}(dn:Bool)(w G:Nat):vL dn w G<=9:=by
 unfold vL
 cases dn<;>simp only [Bool.false_eq_true,if_false,if_true]<;>split<;>omega
theorem zZh (A B:Nat):0<=sgn (A:Int) (B:Int)↔¬ A<B:=by
 unfold sgn
 by_cases h:(A:Int)<(B:Int)
 ·rw [if_pos h];constructor
  ·intro q;exact absurd q (by decide)
  ·intro q;omega
 ·rw [if_neg h];constructor
  ·intro _;omega
  ·intro _;split<;>decide
section
variable {f:DF}(h:f.ok)
include h
theorem fmean (B:Nat)(w:World)(hB:B<2^256):Calls Tryz.prog 80 #[LF f,A4 B] w fun r w'=>r=.returned (vM f B).v/\Below w.heap.size w w':=by
 have hw:=h.w12
 have hG:=zMv f B
 have hR:=zHt f B
 have cs:=fun W=>fsplit h B W hB
 have ck:=fun W=>fkind h (vG f B) W hG
 have cr:=fun W=>fread h (vR f B) W hR
 have hU:=vT_256 h hR
 have h10:=zNp h
 have e256:(2:Nat)^128*2^4<2^256:=by decide
 unfold vM vD
 generalize vG f B=G at *
 generalize vR f B=R at *
 generalize vS f B=s at *
 by_cases h30:vV f.w G=30
 ·rw [if_pos h30]
  exact yEb _ _ _ _ _ _ _ _ _ w B R s (G:Int) _ cs ck (by rw [h30];rfl)
 ·rw [if_neg h30]
  have e30:(((vV f.w G:Nat):Int)==30)=false:=by rw [show (30:Int)=((30:Nat):Int) from rfl,zQi];exact decide_eq_false h30
  by_cases h31:vV f.w G=31
  ·rw [if_pos h31]
   exact yDb _ _ _ _ _ _ _ _ _ w B R s (G:Int) _ cs ck (vT f R) _ cr _ e30 (by rw [h31];rfl) (fun W=>fsig h G W hG) (fun W=>zUr (vT f R) (10^(3*f.j)) W (by omega) (by omega))
  ·rw [if_neg h31]
   have e31:(((vV f.w G:Nat):Int)==31)=false:=by rw [show (31:Int)=((31:Nat):Int) from rfl,zQi];exact decide_eq_false h31
   have hL:=vL_9 (f:=f) f.dn f.w G
   have hq:=zR5 h
   have hm:vL f.dn f.w G*vQ f<=2^4*2^128:=Nat.mul_le_mul (by omega) (by omega)
   have cm:=fun W=>mul4 (vQ f) (vL f.dn f.w G) W (by omega) (by omega)
   rw [Nat.mul_comm (vQ f)] at cm
   have hF:vF f.dn f.w G<1000000:=by
    unfold vF vV
    rcases h with ⟨h1,h2,h3,h4⟩|⟨h1,h2,h3,h4⟩|⟨h1,h2,h3,h4⟩<;>rw [h2] at hG ⊢<;>cases f.dn<;>simp only [Bool.false_eq_true,if_false,if_true]<;>simp only [Nat.reducePow,Nat.reduceAdd] at*<;> split<;>omega
   have hl:-1000000<=f.l/\f.l<=1000000:=by rcases h with ⟨h1,h2,h3,h4⟩|⟨h1,h2,h3,h4⟩|⟨h1,h2,h3,h4⟩<;>omega
   have e5:(2:Nat)^4*2^128+2^128<2^256:=by decide
   exact yFb _ _ _ _ _ _ _ _ _ w B R s (G:Int) _ cs ck (vT f R) _ cr _ _ _ _ _ _ e30 e31 (by omega) (by omega) hl.1 hl.2 (fun W=>fpart h G W hG) cm (fun W=>zE7 _ _ W (by omega) (by omega)) (fun W=>zUr _ (10^(3*f.j+1)) W (by omega) (by omega))
theorem fpack (d:Dat)(w:World)(hk:d.k<2^256):CB 59 #[LF f,d.v] w (.tuple #[A4 (if vI f d then vP f d else 0),.int .i64 (if vI f d then 0 else 3)]):=by
 have hw:=h.w12
 have h10:=zNp h
 have hq:=zR5 h
 have e256:(2:Nat)^128<2^256:=by decide
 have hl:-1000000<=f.l/\f.l<=0:=by rcases h with ⟨h1,h2,h3,h4⟩|⟨h1,h2,h3,h4⟩|⟨h1,h2,h3,h4⟩<;>omega
 have hw3:(3*2^f.w:Nat)<=3*2^12:=Nat.mul_le_mul (Nat.le_refl _) (Nat.pow_le_pow_right (by decide) (by omega))
 have ei:((3*2^f.w:Nat):Int)=3*2^f.w:=by rw [Int.natCast_mul,zQk];rfl
 obtain ⟨c,s,g,x,k⟩:=d
 simp only at hk
 by_cases h1:c=1
 ·subst h1
  refine yYa _ _ _ _ _ _ _ _ _ w x s g k _ _ ?_
  intro W
  by_cases hi:vI f ⟨1,s,g,x,k⟩
  ·rw [if_pos hi,if_pos hi]
   have hPG:=zXk h hi
   have hPR:=zAr h hi
   obtain ⟨_,hg,hk10,hx0,hx1⟩:(1:Int)=1/\g=false/\k<10^(3*f.j+1)/\f.l<=x/\x<=f.l+3*2^f.w-1:=by
    rcases hi with hi|hi|hi
    ·exact hi
    ·exact absurd (show (1:Int)=2 from hi.1) (by decide)
    ·exact absurd (show (1:Int)=3 from hi.1) (by decide)
   subst hg
   have hqp:0<vQ f:=by
    unfold vQ;cases f.dn<;>simp only [Bool.false_eq_true,if_false,if_true]
    ·exact Nat.two_pow_pos _
    ·exact Nat.pow_pos (by decide)
   have hm9:k/vQ f<=9:=by
    unfold vQ
    rcases h with ⟨h1,h2,h3,h4⟩|⟨h1,h2,h3,h4⟩|⟨h1,h2,h3,h4⟩<;>rw [h3] at hk10 ⊢<;>rw [h1]<;>cases f.dn<;>simp only [Bool.false_eq_true,if_false,if_true]<;>simp only [Nat.reducePow,Nat.reduceAdd,Nat.reduceMul] at*<;> omega
   have hmod:k-k/vQ f*vQ f=k%vQ f:=by have:=Nat.div_add_mod' k (vQ f);omega
   have hlt:=Nat.mod_lt k hqp
   have hE:(x-f.l).toNat<3*2^f.w:=by omega
   have hEi:x-f.l=(((x-f.l).toNat:Nat):Int):=by omega
   have cn:=fun W=>funite h (x-f.l).toNat (k/vQ f) W hE hm9
   rw [← hEi] at cn
   have hvN:vPG f ⟨1,s,false,x,k⟩=vN f.dn f.w (x-f.l).toNat (k/vQ f):=rfl
   rw [← hvN] at cn
   have hR0:∀ i,k-i*vQ f<2^256:=fun i=>by omega
   have cw:=fun W=>zJ6 h (k-k/vQ f*vQ f) W (hR0 _) (fun hd=>by
    rw [hmod,← zC2]
    have:vQ f=10^(3*f.j):=by unfold vQ;rw [hd,if_pos rfl]
    rw [this] at hlt ⊢
    exact hlt)
   have ew:(if f.dn=true then dlP f.j (k-k/vQ f*vQ f) else k-k/vQ f*vQ f)=vPR f ⟨1,s,false,x,k⟩:=by
    rw [hmod]
    unfold vPR vQ
    simp only [show ¬ ((1:Int)=2) by decide,show ¬ ((1:Int)=3) by decide,if_false]
    cases f.dn<;>simp
   rw [ew] at cw
   have cj:=fun W=>yQa h s _ _ W hPG hPR
   refine dfin_y _ _ _ _ _ _ _ _ _ W x s k _ _ (fun W=>cmp4 k _ W hk (by omega)) (by omega) (by omega) (by rw [zZh];omega) (k/vQ f) (by omega) (fun i=>k-i*vQ f) (fun i=>sgn ((k-i*vQ f:Nat):Int) (vQ f:Int)) (fun i=>if k-i*vQ f<vQ f then 1 else 0) (by simp) _ hl.1 (by omega) (by omega) _ ?_ ?_ ?_ ?_ cn cw cj
   ·show ∀ _,_
    intro i hi W
    exact cmp4 _ _ W (hR0 i) (by omega)
   ·show ∀ _,_
    intro i hi
    rw [zZh]
    have:(i+1)*vQ f<=k:=Nat.le_trans (Nat.mul_le_mul_right _ hi) (Nat.div_mul_le_self _ _)
    rw [Nat.add_mul,Nat.one_mul] at this
    omega
   ·show ¬ _
    rw [zZh,hmod];omega
   ·show ∀ _,_
    intro i hi W
    have:(i+1)*vQ f<=k:=Nat.le_trans (Nat.mul_le_mul_right _ hi) (Nat.div_mul_le_self _ _)
    have e:k-(i+1)*vQ f=k-i*vQ f-vQ f:=by rw [Nat.add_mul,Nat.one_mul];omega
    rw [Nat.add_mul,Nat.one_mul] at this
    have c:=sub4 (k-i*vQ f) (vQ f) W (hR0 i) (by omega)
    rw [zFt (by omega),← e] at c
    exact c
  ·rw [if_neg hi,if_neg hi]
   cases g
   ·by_cases a1:x<f.l
    ·exact dfin_l _ _ _ _ _ _ _ _ _ W x s k a1
    ·by_cases a2:f.l+3*2^f.w-1<x
     ·exact dfin_m _ _ _ _ _ _ _ _ _ W x s k a1 a2
     ·have a3:¬ k<10^(3*f.j+1):=fun q=>hi (Or.inl ⟨rfl,rfl,q,(by omega:f.l<=x),(by omega:x<=f.l+3*2^f.w-1)⟩)
      exact dfin_k _ _ _ _ _ _ _ _ _ W x s k _ (fun W=>cmp4 k _ W hk (by omega)) a1 a2 ((zZh _ _).2 a3)
   ·exact dfin_s _ _ _ _ _ _ _ _ _ W x s k
 ·by_cases h2:c=2
  ·subst h2
   refine yXa _ _ _ _ _ _ _ _ _ w x s g k _ _ ?_
   intro W
   by_cases hi:vI f ⟨2,s,g,x,k⟩
   ·rw [if_pos hi,if_pos hi]
    have hPG:=zXk h hi
    obtain ⟨_,hg,hk0,hx0⟩:(2:Int)=2/\g=false/\k=0/\x=0:=by
     rcases hi with hi|hi|hi
     ·exact absurd (show (2:Int)=1 from hi.1) (by decide)
     ·exact hi
     ·exact absurd (show (2:Int)=3 from hi.1) (by decide)
    subst hg hk0 hx0
    have cp:=fun W=>fspec h 30 false W (by decide)
    have cj:=fun W=>yQa h s _ 0 W hPG (Nat.two_pow_pos _)
    rw [zBc] at cj
    exact dinf_y _ _ _ _ _ _ _ _ _ W s _ _ cp cj
   ·rw [if_neg hi,if_neg hi]
    cases g
    ·by_cases a1:x=0
     ·subst a1
      refine dinf_k _ _ _ _ _ _ _ _ _ W s k (decide_eq_false fun q=>hi (Or.inr (Or.inl ⟨rfl,rfl,?_,rfl⟩)))
      refine zDp hk (by decide) fun i hi=>?_
      rw [zOa]
      rcases (show i=0∨i=1∨i=2∨i=3 by omega) with e|e|e|e<;>subst e
      ·exact q.1
      ·exact q.2.1
      ·exact q.2.2.1
      ·exact q.2.2.2
     ·exact dinf_x _ _ _ _ _ _ _ _ _ W x s k (by simp [a1])
    ·exact dinf_s _ _ _ _ _ _ _ _ _ W x s k
  ·by_cases h3:c=3
   ·subst h3
    refine yWa _ _ _ _ _ _ _ _ _ w x s g k _ _ ?_
    intro W
    by_cases hi:vI f ⟨3,s,g,x,k⟩
    ·rw [if_pos hi,if_pos hi]
     have hPG:=zXk h hi
     have hPR:=zAr h hi
     obtain ⟨_,hx0,hk10⟩:(3:Int)=3/\x=0/\k<10^(3*f.j):=by
      rcases hi with hi|hi|hi
      ·exact absurd (show (3:Int)=1 from hi.1) (by decide)
      ·exact absurd (show (3:Int)=2 from hi.1) (by decide)
      ·exact hi
     subst hx0
     have cp:=fun W=>fspec h 31 g W (by decide)
     have cw:=fun W=>zJ6 h k W hk (fun _=>by rw [← zC2];exact hk10)
     have cj:=fun W=>yQa h s _ _ W hPG hPR
     exact dnan_y _ _ _ _ _ _ _ _ _ W s g k _ _ _ (fun W=>cmp4 k _ W hk (by omega)) _ (by rw [zZh];omega) cp cw cj
    ·rw [if_neg hi,if_neg hi]
     by_cases a1:x=0
     ·subst a1
      have a3:¬ k<10^(3*f.j):=fun q=>hi (Or.inr (Or.inr ⟨rfl,rfl,q⟩))
      exact dnan_k _ _ _ _ _ _ _ _ _ W s g k _ (fun W=>cmp4 k _ W hk (by omega)) ((zZh _ _).2 a3)
     ·exact dnan_x _ _ _ _ _ _ _ _ _ W x s g k (by simp [a1])
   ·have hi:¬ vI f ⟨c,s,g,x,k⟩:=by
     rintro (q|q|q)
     ·exact h1 q.1
     ·exact h2 q.1
     ·exact h3 q.1
    rw [if_neg hi,if_neg hi]
    exact yZa _ _ _ _ _ _ _ _ _ w c x s g k (by simp [h1]) (by simp [h2]) (by simp [h3])
end
end
section
attribute [local irreducible] W4
theorem zX7 {n:Int}{B:Nat}(h:zSd n B):vUD n B=vM (fD n) B/\vUC n B=decide (vP (fD n) (vM (fD n) B)=B)/\vUE n B=0:=by
 unfold vUD vUC vUE
 exact ⟨if_pos h,decide_eq_decide.2 ⟨fun q=>q.2,fun q=>⟨h,q⟩⟩,if_pos h⟩
theorem vU_bad {n:Int}{B:Nat}(h:¬ zSd n B):vUD n B=⟨0,false,false,0,0⟩/\vUC n B=false/\vUE n B=1:=by
 unfold vUD vUC vUE
 exact ⟨if_neg h,decide_eq_false fun q=>h q.1,if_neg h⟩
end
theorem zFs (n:Int)(w:World)(hT:Tab w)(hd:zYb n):CB 58 #[.int .i64 n] w (.tuple #[LF (fD n),.int .i64 0]):=by
 obtain ⟨hok,f1,f2,f3,f4,f5,f6,f7,f8⟩:=zPc hd
 have c1:=fun W hW=>zAe n W hW
 rw [show zQd n=0 from if_pos hok,f1,f2,f3,f4,f5,f6,f7,f8] at c1
 have h:=zTb n
 have hw:=h.w12
 generalize fD n=f at *
 have hG:((f.t+(f.w+6):Nat):Int)/16+9=((f.w+5:Nat):Int):=by rcases h with ⟨h1,h2,h3,h4⟩|⟨h1,h2,h3,h4⟩|⟨h1,h2,h3,h4⟩<;>rw [h1,h2]<;>rfl
 have cc:=fun W=>zN6 (3*f.j+1) W (by omega)
 have cp:=fun W=>zN6 (3*f.j) W (by omega)
 have e1:((3*f.j+1:Nat):Int)=3*(f.j:Int)+1:=by omega
 have e2:((3*f.j:Nat):Int)=3*(f.j:Int):=by omega
 have cw:=cp
 rw [e1] at cc
 rw [e2] at cp
 unfold LF
 cases e:f.dn
 ·rw [e] at c1
  have eB:vB f=0:=by unfold vB;rw [e,if_neg (by decide)]
  have eQ:vQ f=2^f.t:=by unfold vQ;rw [e,if_neg (by decide)]
  have cs:=fun W=>zS8 1 f.t W (by decide) (by omega)
  rw [Nat.one_mul] at cs
  rw [eB,eQ]
  exact dlay_p n _ n _ _ _ _ _ _ w hT _ _ _ _ (by omega) (by omega) hG (by omega) (by omega) (by omega) (by omega) (by omega) cc cp _ c1 (fun W=>of4 1 W (by decide)) cs
 ·rw [e] at c1
  have eB:vB f=f.w:=by unfold vB;rw [e,if_pos rfl]
  have eQ:vQ f=10^(3*f.j):=by unfold vQ;rw [e,if_pos rfl]
  rw [eB,eQ]
  rw [show ((3*f.j:Nat):Int)=3*(f.j:Int)+1-1 by omega] at cw
  exact dlay_d n _ n _ _ _ _ _ _ w hT _ _ _ _ (by omega) (by omega) hG (by omega) (by omega) (by omega) (by omega) (by omega) cc cp _ _ (by omega) (by omega) (by omega) c1 cw
theorem zRx {n:Int}(h:¬ zYb n):(okN n/\(zId n != 10)=true)∨¬ okN n:=by
 by_cases hk:okN n
 ·left
  refine ⟨hk,?_⟩
  unfold zYb at h
  rcases zEe hk with rfl|rfl|rfl|rfl|rfl|rfl|rfl|rfl|rfl|rfl|rfl|rfl<;>first|rfl|omega
 ·exact Or.inr hk
theorem zHo (n:Int)(w:World)(hT:Tab w)(hd:¬ zYb n):CB 58 #[.int .i64 n] w (.tuple #[ZL,.int .i64 1]):=by
 have c1:=fun W hW=>zAe n W hW
 rcases zRx hd with ⟨hk,hb⟩|hk
 ·rw [show zQd n=0 from if_pos hk] at c1
  exact dlay_b n _ _ _ _ _ _ _ _ _ _ w hT hb c1
 ·rw [show zQd n=1 from if_neg hk] at c1
  exact dlay_e n _ _ _ _ _ _ _ _ _ _ w hT 1 rfl c1
theorem zMs {n:Int}(B:Nat)(hd:zYb n):(okN n/\B<2^(zUa n).toNat)↔zSd n B:=by
 have hF:=zPc hd
 rw [hF.2.2.2.1,Int.toNat_natCast]
 exact ⟨fun h=>⟨hd,h.2⟩,fun h=>⟨hF.1,h.2⟩⟩
theorem zFy (n:Int)(B:Nat)(w:World)(hT:Tab w)(hB:B<2^256)(hg:zSd n B):CB 79 #[.int .i64 n,A4 B] w (.tuple #[LF (fD n),.int .i64 0]):=by
 have c1:=fun W hW=>zD4 n B hB W hW
 rw [decide_eq_true ((zMs B hg.1).2 hg)] at c1
 exact dfor_y n B w hT c1 _ _ _ _ _ _ _ _ _ (fun W hW=>zFs n W hW hg.1)
theorem zLu (n:Int)(B:Nat)(w:World)(hT:Tab w)(hB:B<2^256)(hg:¬ zSd n B):CB 79 #[.int .i64 n,A4 B] w (.tuple #[ZL,.int .i64 1]):=by
 have c1:=fun W hW=>zD4 n B hB W hW
 by_cases hd:zYb n
 ·rw [decide_eq_false (fun q=>hg ((zMs B hd).1 q))] at c1
  exact zT6 n B w hT c1
 ·by_cases hf:okN n/\B<2^(zUa n).toNat
  ·rw [decide_eq_true hf] at c1
   exact dfor_b n B w hT c1 (fun W hW=>zHo n W hW hd)
  ·rw [decide_eq_false hf] at c1
   exact zT6 n B w hT c1
theorem zCz (n:Int)(d:Dat)(hk:d.k<2^256)(W:World)(hT:Tab W):CB 27 #[.int .i64 n,d.v] W (.tuple #[A4 (vPV n d),.int .i64 (vPE n d)]):=by
 unfold vPV vPE
 by_cases hd:zYb n
 ·have c2:=fun W=>fpack (zTb n) d W hk
  have e1:(if zYb n/\vI (fD n) d then vP (fD n) d else 0)=(if vI (fD n) d then vP (fD n) d else 0):=by
   by_cases hi:vI (fD n) d
   ·rw [if_pos ⟨hd,hi⟩,if_pos hi]
   ·rw [if_neg (fun q=>hi q.2),if_neg hi]
  rw [e1,if_pos hd]
  exact zT4 n W hT _ _ _ _ _ _ _ _ _ _ _ _ _ _ _ _ (fun W hW=>zFs n W hW hd) c2
 ·rw [if_neg (fun q=>hd q.1),if_neg hd]
  exact zU4 n W hT _ _ _ _ _ (fun W hW=>zHo n W hW hd)
theorem zXy (n:Int)(B:Nat)(hB:B<2^256)(W:World)(hT:Tab W):CB 39 #[.int .i64 n,A4 B] W (.tuple #[(vUD n B).v,.bool (vUC n B),.int .i64 (vUE n B)]):=by
 by_cases hg:zSd n B
 ·obtain ⟨e1,e2,e3⟩:=zX7 hg
  rw [e1,e2,e3]
  have h:=zTb n
  have c3:=fun W=>fpack h (vM (fD n) B) W (zLv h B)
  rw [if_pos (zHn h B),if_pos (zHn h B)] at c3
  refine dunp_y n W hT _ _ _ _ _ _ _ _ _ B (fun W hW=>zFy n B W hW hB hg) _ _ _ _ _ _ _ (fun W=>fmean h B W hB) c3 _ ?_
  exact zOs (zKv h (zHn h B)) hB
 ·obtain ⟨e1,e2,e3⟩:=vU_bad hg
  rw [e1,e2,e3,zN5]
  exact dunp_n n W hT B (fun W hW=>zLu n B W hW hB hg)
section
theorem zDk {n:Int}(h:zYb n)(w:World)(hT:Tab w):CB 53 #[.int .i64 n] w (.tuple #[zYa n (zBd n) (zUa n) (3*((fD n).j:Int)+1) (zYh n) (fD n).l (fD n).m (zEl n) (zFc n),.int .i64 0]):=by
 obtain ⟨hok,h1,h2,h3,h4,h5,h6,h7,h8⟩:=zPc h
 have c:=zAe n w hT
 rw [show zQd n=0 from if_pos hok,h1,h2,h4,h5,h6] at c
 exact c
theorem zH3 {n:Int}(hok:okN n)(h:¬ zYb n):(zId n != 10)=true:=by
 unfold okN at hok
 unfold zYb at h
 have:n=1∨n=2∨n=3∨n=4∨n=5∨n=6:=by omega
 rcases this with rfl|rfl|rfl|rfl|rfl|rfl<;>decide
section
variable {n d:Int}{N D:Nat}{vn vd:Value}{w:World}(hT:Tab w)(hn:Nt 2001 N vn w)(hd:Nt 2001 D vd w)
include hT hn hd
theorem zY4 (hE:rqE n d N D≠0):CB 109 #[.int .i64 n,.int .i64 d,vn,vd] w (.tuple #[IZ,.int .i64 (rqE n d N D)]):=by
 have c66:=fun W (hb:Below w.heap.size w W)=>zTi (by decide) (hn.next hb)
 have c66d:=fun W (hb:Below w.heap.size w W)=>zTi (by decide) (hd.next hb)
 unfold rqE at hE ⊢
 by_cases h1:zYb n
 ·by_cases h2:knB d
  ·by_cases h3:D=0
   ·rw [if_neg (fun h=>h.2.2 h3)]
    exact zZ4 n d _ _ _ _ _ _ _ _ N D vn vd w hT c66 c66d (decide_eq_true h2) (by rw [h3];rfl) (fun W hT'=>zDk h1 W hT')
   ·rw [if_pos ⟨h1,h2,h3⟩] at hE ⊢
    have hD0:(((bl D:Nat):Int)==0)=false:=by rw [zFh];exact decide_eq_false h3
    by_cases h4:25600<bl N
    ·rw [if_pos (Or.inl h4)]
     exact zA5 n d _ _ _ _ _ _ _ _ N D vn vd w hT c66 c66d (decide_eq_true h2) hD0 (by omega) (fun W hT'=>zDk h1 W hT')
    ·by_cases h5:25600<bl D
     ·rw [if_pos (Or.inr h5)]
      exact zB5 n d _ _ _ _ _ _ _ _ N D vn vd w hT c66 c66d (decide_eq_true h2) hD0 (by omega) (by omega) (fun W hT'=>zDk h1 W hT')
     ·exact absurd (if_neg (fun h=>h.elim h4 h5)) hE
  ·rw [if_neg (fun h=>h2 h.2.1)]
   exact zE5 n d _ _ _ _ _ _ _ _ N D vn vd w hT c66 c66d (decide_eq_false h2) (fun W hT'=>zDk h1 W hT')
 ·rw [if_neg (fun h=>h1 h.1)]
  by_cases hok:okN n
  ·refine zF5 n d (zBd n) (zUa n) (zNe n) (zYh n) (zNa n) (zIb n) (zEl n) (zId n) (zFc n) N D vn vd w hT c66 c66d (zZ0 n) (zH3 hok h1) (fun W hT'=>?_)
   have c:=zAe n W hT'
   rw [show zQd n=0 from if_pos hok] at c
   exact c
  ·refine zD5 n d (zBd n) (zUa n) (zNe n) (zYh n) (zNa n) (zIb n) (zEl n) (zId n) (zFc n) N D vn vd w hT c66 c66d (zZ0 n) 1 (by decide) (fun W hT'=>?_)
   have c:=zAe n W hT'
   rw [show zQd n=1 from if_neg hok] at c
   exact c
theorem yXb (hE:rqE n d N D=0):CB 109 #[.int .i64 n,.int .i64 d,vn,vd] w (.tuple #[zYa n (zBd n) (zUa n) (3*((fD n).j:Int)+1) (zYh n) (fD n).l (fD n).m (zEl n) (zFc n),.int .i64 0]):=by
 have c66:=fun W (hb:Below w.heap.size w W)=>zTi (by decide) (hn.next hb)
 have c66d:=fun W (hb:Below w.heap.size w W)=>zTi (by decide) (hd.next hb)
 obtain ⟨h1,h2,h3,h4,h5⟩:=zSp hE
 exact zC5 n d _ _ _ _ _ _ _ _ N D vn vd w hT c66 c66d (decide_eq_true h2) (by rw [zFh];exact decide_eq_false h3) (by omega) (by omega) (fun W hT'=>zDk h1 W hT')
end
theorem zK8 {f:DF}(hf:f.ok):(10:Nat)^(3*f.j+1)<2^256:=by
 obtain ⟨m0,m1,l0,l1,lm,j0,j1⟩:=zKx hf
 exact Nat.lt_of_le_of_lt (Nat.pow_le_pow_right (by decide) (show 3*f.j+1<=34 by omega)) (by decide)
theorem drd_v {n d x y:Int}{s:Bool}{N D:Nat}{vn vd:Value}{w:World}(hT:Tab w)(hn:Nt 2001 N vn w)(hd:Nt 2001 D vd w) :
  CB 55 #[.int .i64 n,.int .i64 d,.bool s,vn,vd,.int .i64 x,.int .i64 y] w (.tuple #[(rqD n d s N D x y).v,.int .i64 (rqF n d s N D x),.int .i64 (rqE n d N D)]):=by
 by_cases hE:rqE n d N D=0
 ·have c17:=fun W (hb:Below w.heap.size w W)=>yXb (hT.go hb) (hn.next hb) (hd.next hb) hE
  have c18:=fun W (hb:Below w.heap.size w W)=>zTi (by decide) (hn.next hb)
  obtain ⟨h1,h2,h3,h4,h5⟩:=zSp hE
  have hf:=zTb n
  obtain ⟨m0,m1,l0,l1,lm,j0,j1⟩:=zKx hf
  by_cases hN:N=0
  ·have e1:rqD n d s N D x y=⟨1,s,false,min (max y (fD n).l) (fD n).m,0⟩:=by unfold rqD;rw [if_pos hE,if_pos hN]
   have e2:rqF n d s N D x=0:=by unfold rqF;rw [if_pos hE,if_pos hN]
   rw [e1,e2,hE]
   have ev:(Dat.mk 1 s false (min (max y (fD n).l) (fD n).m) 0).v=.agg #[.int .i64 1,.bool s,.bool false,.int .i64 (min (max y (fD n).l) (fD n).m),.int .u64 0,.int .u64 0,.int .u64 0,.int .u64 0]:=by
    unfold Dat.v DV
    simp only [zOa]
   rw [ev]
   exact ddec_z n d x y s vn vd w _ _ _ _ _ _ _ _ N _ _ _ _ _ _ _ _ c17 c18 (by rw [hN];rfl) _ rfl (fun W=>zU6 s _ W)
  ·obtain ⟨L,hL,_⟩:=zEz hn hd hN h3 h4 h5
   have c20:∀ W,Below w.heap.size w W->CB 112 #[vn,vd] W (.int .i64 L):=fun W hb=>by
    obtain ⟨L',hL',c⟩:=zEz (hn.next hb) (hd.next hb) hN h3 h4 h5
    rw [hL'.only hL] at c
    exact c
   obtain ⟨b1,b2⟩:=tn_bd (by omega) (by omega) h4 h5 hL
   obtain ⟨r1,r2⟩:=yVa (s:=s) (x:=x) (y:=y) hE hN hL
   have hTn:=zDt hL (pX (fD n) L x)
   have c21:∀ W,CB 113 #[zYa n (zBd n) (zUa n) (3*((fD n).j:Int)+1) (zYh n) (fD n).l (fD n).m (zEl n) (zFc n),.int .i64 L,.int .i64 x] W (.int .i64 (pX (fD n) L x)):=fun W =>
    zWy n _ _ _ _ _ _ _ _ L x W (by omega) (by omega) (by omega) (by omega)
   have hXb:(fD n).l-2-L<=pX (fD n) L x/\pX (fD n) L x<=(fD n).m+(3*(fD n).j+1)-L:=by unfold pX;omega
   have hC0:=yMb (fD n) d s N D (pX (fD n) L x) (L+pX (fD n) L x)
   have hX0:=dkX_at (fD n) N D (pX (fD n) L x) (L+pX (fD n) L x)
   have hle:=zNz (f:=fD n) (d:=d) (s:=s) (Nat.mul_pos (show 0<D by omega) (zTa (-(pX (fD n) L x)).toNat)) hTn
   have hCl:=zQ6 (f:=fD n) (d:=d) (s:=s) (Nat.mul_pos (show 0<D by omega) (zTa (-(pX (fD n) L x)).toNat)) hTn
   have h256:=zK8 hf
   have hql:=zP6 (fD n) d s (N*10^(pX (fD n) L x).toNat) (D*10^(-(pX (fD n) L x)).toNat) (L+pX (fD n) L x)
   have hqq:max (fD n).l (L+pX (fD n) L x-(3*((fD n).j:Int)+1)+1)=dkQ (fD n) (L+pX (fD n) L x):=by unfold dkQ;omega
   have hqb:-20000<=dkQ (fD n) (L+pX (fD n) L x)/\dkQ (fD n) (L+pX (fD n) L x)<=20000:=by unfold dkQ;omega
   have hdf:-9100<=pX (fD n) L x-dkQ (fD n) (L+pX (fD n) L x)/\pX (fD n) L x-dkQ (fD n) (L+pX (fD n) L x)<=9100:=by unfold dkQ;omega
   rw [r1,r2,hE]
   clear r1 r2 hL
   unfold dkD dkF
   unfold dkM at *
   generalize hEq:dkE (fD n) d s (N*10^(pX (fD n) L x).toNat) (D*10^(-(pX (fD n) L x)).toNat) (L+pX (fD n) L x)=qe at *
   generalize hCq:dkC (fD n) d s (N*10^(pX (fD n) L x).toNat) (D*10^(-(pX (fD n) L x)).toNat) (L+pX (fD n) L x)=ce at *
   unfold dkE at hEq
   unfold dkC at hCq
   rw [hX0]
   generalize dkC0 (fD n) d s (N*10^(pX (fD n) L x).toNat) (D*10^(-(pX (fD n) L x)).toNat) (L+pX (fD n) L x)=C at *
   clear hX0 hTn
   generalize dkQ (fD n) (L+pX (fD n) L x)=q0 at *
   generalize pX (fD n) L x=X at *
   have c22:∀ W,Below w.heap.size w W->Calls Tryz.prog 114 #[vn,vd,.int .i64 (X-q0)] W fun r w'=>∃ va vb,r=.returned (.tuple #[va,vb])/\Below W.heap.size W w'/\(Calls Tryz.prog 99 #[.int .i64 d,.bool s,va,vb] w' fun r w''=>∃ v,r=.returned (.tuple #[v,.bool (decide (N*10^(X-q0).toNat%(D*10^(-(X-q0)).toNat)=0))])/\Nz 2003 C v w''/\Below w'.heap.size w' w''):=fun W hb=>by
    refine (zTo (X-q0) (hn.next hb) (hd.next hb) (by omega) (by omega) (by omega)).mono ?_
    rintro r w' ⟨va,vb,e1,e2,e3,e4⟩
    refine ⟨va,vb,e1,e4,?_⟩
    rw [hC0]
    have t1:=zG0 N (10^(X-q0).toNat)
    have t2:=zG0 D (10^(-(X-q0)).toNat)
    have t3:=zGr (X-q0).toNat
    have t4:=zGr (-(X-q0)).toNat
    exact zF1 d s e2 e3 (Nat.ne_of_gt (Nat.mul_pos (by omega) (zTa _))) (by omega) (by omega)
   have c25:∀ W,CE 115 #[.int .i64 (3*((fD n).j:Int)+1)] W (NT 2001 (10^(3*(fD n).j+1))):=fun W=>by
    have:=zRm (3*(fD n).j+1) W (by omega)
    rw [show ((3*(fD n).j+1:Nat):Int)=3*((fD n).j:Int)+1 by omega] at this
    exact this
   have c25b:∀ W,CE 115 #[.int .i64 (3*((fD n).j:Int)+1-1)] W (NT 2001 (10^(3*(fD n).j))):=fun W=>by
    have:=zRm (3*(fD n).j) W (by omega)
    rw [show ((3*(fD n).j:Nat):Int)=3*((fD n).j:Int)+1-1 by omega] at this
    exact this
   have c24:∀ W v u,Nz 2003 C v W->NT 2001 (10^(3*(fD n).j+1)) u W->CB 57 #[v,u] W (.int .i64 (sgn (C:Int) ((10^(3*(fD n).j+1):Nat):Int))):=fun W v u hv hu=>zWr (by decide) (by decide) hv.nt hu.nt
   have hcm:(sgn (C:Int) ((10^(3*(fD n).j+1):Nat):Int)==0)=decide (10^(3*(fD n).j+1)<=C):=by
    rcases zFd (C:Int) ((10^(3*(fD n).j+1):Nat):Int) with ⟨a,e⟩|⟨a,e⟩|⟨a,e⟩
    ·rw [e,decide_eq_false (by omega)];rfl
    ·rw [e,decide_eq_true (by omega)];rfl
    ·exact absurd a (by omega)
   have c26:∀ W,CB 116 #[zYa n (zBd n) (zUa n) (3*((fD n).j:Int)+1) (zYh n) (fD n).l (fD n).m (zEl n) (zFc n),.int .i64 d,.bool s] W ((if inB d s then (⟨2,s,false,0,0⟩:Dat) else ⟨1,s,false,(fD n).m,10^(3*(fD n).j+1)-1⟩).v):=fun W=>by
    by_cases hi:inB d s=true
    ·rw [if_pos hi]
     have:=yBb n (zBd n) (zUa n) (3*((fD n).j:Int)+1) (zYh n) (fD n).l (fD n).m (zEl n) (zFc n) d s W hi
     unfold Dat.v DV
     simp only [zOa]
     exact this
    ·rw [if_neg hi]
     exact yAb n (zBd n) (zUa n) (3*((fD n).j:Int)+1) (zYh n) (fD n).l (fD n).m (zEl n) (zFc n) d s W (by simpa using hi) _ (10^(3*(fD n).j+1)-1) _ _ _ _ _ _ _ _ c25 (fun W v u hv hu=>zQ9 (by decide) (by decide) hv hu (zTa _)) (fun W v hv=>zWo (C:=10^(3*(fD n).j+1)-1) s (fD n).m hv (by omega))
   have hN0:(((bl N:Nat):Int)==0)=false:=by rw [zFh];exact decide_eq_false hN
   have hfl:∀ ex:Bool,∀ W,CQ 118 #[.bool ex,.bool (decide (L+X<3*((fD n).j:Int)+1-1+(fD n).l))] W (.int .i64 (if ex then 0 else if L+X<(fD n).l+3*(fD n).j then 12 else 8)):=fun ex W=>by
    have:=zAu ex (decide (L+X<3*((fD n).j:Int)+1-1+(fD n).l)) W
    have e:(L+X<3*((fD n).j:Int)+1-1+(fD n).l)↔(L+X<(fD n).l+3*(fD n).j):=by omega
    simp only [decide_eq_true_eq,e] at this
    simpa only [e] using this
   generalize hxa:decide (N*10^(X-q0).toNat%(D*10^(-(X-q0)).toNat)=0)=exa at *
   have hfx:=hfl exa
   clear hfl hxa hC0
   by_cases hu:10^(3*(fD n).j+1)<=C
   ·rw [if_pos hu] at hEq hCq
    subst hEq hCq
    rw [decide_eq_true hu] at hcm
    by_cases ho:(fD n).m<q0+1
    ·rw [if_pos ho,if_pos ho]
     exact ySb n d x y s vn vd w _ _ _ _ _ _ _ _ N _ _ _ _ _ _ _ _ c17 c18 (by omega) (by omega) (by omega) hN0 L X q0 (by omega) (by omega) hqq (by omega) C _ _ _ c20 c21 c22 c25 c24 hcm _ c25b ho c26
    ·rw [if_neg ho,if_neg ho]
     cases exa
     ·exact yTb n d x y s vn vd w _ _ _ _ _ _ _ _ N _ _ _ _ _ _ _ _ c17 c18 (by omega) (by omega) (by omega) hN0 L X q0 (by omega) (by omega) hqq (by omega) C _ _ _ c20 c21 c22 c25 c24 hcm _ c25b ho rfl _ (fun W v hv=>zWo (C:=10^(3*(fD n).j)) s (q0+1) hv (by omega)) hfx
     ·obtain ⟨k1,k2,k3,k4⟩:=zVj (want:=y) ((fD n).m-(q0+1)).toNat (10^(3*(fD n).j)) (q0+1) (show q0+1<=(fD n).m by omega)
      exact yRb n d x y s vn vd w _ _ _ _ _ _ _ _ N _ _ _ _ _ _ _ _ c17 c18 (by omega) (by omega) (by omega) hN0 L X q0 (by omega) (by omega) hqq (by omega) C _ _ _ c20 c21 c22 c25 c24 hcm _ c25b ho rfl _ _ _ rfl (fun W v hv=>zUo (fD n).m y (by omega) (by omega) hv (by omega)) (fun W v hv=>zWo (C:=(mbr (fD n).m y ((fD n).m-(q0+1)).toNat (10^(3*(fD n).j)) (q0+1)).1) s _ hv (by omega)) hfx
   ·rw [if_neg hu] at hEq hCq
    subst hEq hCq
    rw [decide_eq_false hu] at hcm
    by_cases ho:(fD n).m<q0
    ·rw [if_pos ho,if_pos ho]
     exact yVb n d x y s vn vd w _ _ _ _ _ _ _ _ N _ _ _ _ _ _ _ _ c17 c18 (by omega) (by omega) (by omega) hN0 L X q0 (by omega) (by omega) hqq (by omega) C _ _ _ c20 c21 c22 c25 c24 hcm ho c26
    ·rw [if_neg ho,if_neg ho]
     cases exa
     ·exact yWb n d x y s vn vd w _ _ _ _ _ _ _ _ N _ _ _ _ _ _ _ _ c17 c18 (by omega) (by omega) (by omega) hN0 L X q0 (by omega) (by omega) hqq (by omega) C _ _ _ c20 c21 c22 c25 c24 hcm ho rfl _ (fun W v hv=>zWo (C:=C) s q0 hv (by omega)) hfx
     ·obtain ⟨k1,k2,k3,k4⟩:=zVj (want:=y) ((fD n).m-q0).toNat C q0 (show q0<=(fD n).m by omega)
      exact yUb n d x y s vn vd w _ _ _ _ _ _ _ _ N _ _ _ _ _ _ _ _ c17 c18 (by omega) (by omega) (by omega) hN0 L X q0 (by omega) (by omega) hqq (by omega) C _ _ _ c20 c21 c22 c25 c24 hcm ho rfl _ _ _ rfl (fun W v hv=>zUo (fD n).m y (by omega) (by omega) hv (by omega)) (fun W v hv=>zWo (C:=(mbr (fD n).m y ((fD n).m-q0).toNat C q0).1) s _ hv (by omega)) hfx
 ·obtain ⟨q1,q2⟩:=rq_not (s:=s) (x:=x) (y:=y) hE
  rw [q1,q2]
  exact ddec_e n d x y s vn vd w _ (by simpa using hE) (fun W hb=>zY4 (hT.go hb) (hn.next hb) (hd.next hb) hE)
end
section
attribute [local irreducible] W4
attribute [local irreducible] Nz Nt
section
variable (c:Int)(s g:Bool)(x:Int)(k:Nat)(w:World)(T:List UInt8)
theorem dwd_0 (h0:k=0)(c31:∀ W,Below w.heap.size w W->CB 101 #[.agg #[.int .i64 c,.bool s,.bool g,.string ⟨#[]⟩,.int .i64 0]] W (.tuple #[.string (B T),.int .i64 0])) :
  CB 47 #[DV c s g x k] w (.string (B T)):=by
 subst h0
 have e1:=zPs 0 0 0 0 0 0 0 0
 rw [decide_eq_true ⟨rfl,rfl,rfl,rfl⟩] at e1
 have hsm:=zAa
 unfold DV
 simp only [zOa]
 go_enter Tryz.func47,Tryz.ntmps47
 go_wp2_with (first
  | (go_at_call 101;refine wk w (c31 _ bgo) ?_;intro w1 hb1 _ _ _ _ hA1 _;clear hb1))
 exact bodyPost_ret (v:=.string (B T)) (by simp only [results,Tryz.results47];go_simp) rfl ⟨rfl,bgo⟩
theorem dwd_k (D:List UInt8)(hk:k<2^256)(h0:k≠0)
  (c20:∀ W v,Nt 4 k v W->CB 48 #[v] W (.tuple #[.string (B D),.int .i64 0]))
  (c31:∀ W,Below w.heap.size w W->CB 101 #[.agg #[.int .i64 c,.bool s,.bool g,.string (B D),.int .i64 0]] W (.tuple #[.string (B T),.int .i64 0])) :
  CB 47 #[DV c s g x k] w (.string (B T)):=by
 have e1:=zPs (W4 k 0) (W4 k 1) (W4 k 2) (W4 k 3) 0 0 0 0
 rw [yLc hk,decide_eq_false h0] at e1
 clear h0
 have hsm:=zAa
 unfold DV
 go_enter Tryz.func47,Tryz.ntmps47
 go_wp2_with (first
  | (go_at_call 48;refine wk w (c20 _ _ (zP9 hk (by first|(simp;done)|(simp;omega)) (by go_simp) (by go_simp) (by go_simp) (by go_simp))) ?_;intro w1 hb1 _ _ _ _ hA1 _;obtain ⟨_,_⟩:=zf hb1 (w.heap.size+1);clear hb1)
  | (go_at_call 101;refine wk w (c31 _ bgo) ?_;intro w2 hb2 _ _ _ _ hA2 _;obtain ⟨_,_⟩:=zf hb2 (w.heap.size+1);clear hb2))
 exact bodyPost_ret (v:=.string (B T)) (by simp only [results,Tryz.results47];go_simp) rfl ⟨rfl,bgo⟩
end
end
end Go.Proofs.YtahfkpjhlbiamaaGreatDoor
