/-
  Texts that the proof leans on.
-/
import Derived.Test.YtjfeaiaafbaobaaGreatDoorL28
import Derived.Test.YtjfeaiaafbaobaaGreatDoorL1
import Derived.Test.YtjfeaiaafbaobaaGreatDoorL4
import Derived.Test.YtjfeaiaafbaobaaGreatDoorL23
import Derived.Test.YtjfeaiaafbaobaaGreatDoorL29
import Derived.Test.YtjfeaiaafbaobaaGreatDoorL17
import Derived.Test.YtjfeaiaafbaobaaGreatDoorL21
import Derived.Deep.Cut
import Derived.Deep.CutRange
import Derived.Test.YtjfeaiaafbaobaaGreatDoorL13
set_option maxHeartbeats 8000000
set_option linter.unusedVariables false
set_option linter.unusedSectionVars false
set_option linter.unusedSimpArgs false
set_option maxRecDepth 20000
namespace Go.Proofs.YtjfeaiaafbaobaaGreatDoor
open Go.RowKit
section
theorem payload8 (n:Int)(nm:ByteArray)(wd:Int)(f e:Nat)(l m:Int)(c:Int)(s g:Bool)(d:List UInt8)(x:Int)(w:World)(hf:f<=240)(hd:d.all dg=true)(hl:d.length<=4000) :
  CB 93 #[DI n nm wd f e l m,PV c s g d x] w (A4 (plV f g (dV d))) :=
 payload_w n nm wd f e l m c s g d x (dV d) w hf (fun W=>natural8 d W hd hl) (fun W v V h=>nlen_v (by decide) h.nt)
theorem five_bl (k:Nat):bl (5^k)<=3*k+1:=by
 refine bl_le.2 ?_
 have h1:5^k<=8^k:=Nat.pow_le_pow_left (by decide) k
 have h2:(8:Nat)^k=2^(3*k):=by rw [Nat.pow_mul]
 have h3:(2:Nat)^(3*k)<2^(3*k+1):=Nat.pow_lt_pow_right (by decide) (by omega)
 omega
theorem bl_mul (a b:Nat):bl (a*b)<=bl a+bl b:=by
 refine bl_le.2 ?_
 rw [Nat.pow_add]
 have h1:=bl_le.1 (Nat.le_refl (bl a))
 have h2:=bl_le.1 (Nat.le_refl (bl b))
 exact Nat.mul_lt_mul'' h1 h2
theorem npow5 (m:Nat)(w:World)(hm:m<=12000):Calls Tryz.prog 61 #[.int .i64 5,.int .i64 (m:Int)] w fun r w'=>∃ v,r=.returned (.tuple #[v,.int .i64 0])/\Nt 2001 (5^m) v w'/\Below w.heap.size w w':=by
 refine (npow_any 5 m w (Or.inl rfl) hm).mono fun r w' ⟨g,k,cap,z,e1,hk,hN,hv,hs,hB⟩=>⟨_,e1,⟨_,k,cap,z,rfl,hk,hN,?_⟩,hB⟩
 rw [hv];simp
theorem nmul_v {A P:Nat}{v v':Value}{w:World}(h:Nz 251 A v w)(h':Nt 2001 P v' w)(hA:bl A<=64*251)(hP:bl P<=64*1500) :
  Calls Tryz.prog 62 #[v,v'] w fun r w'=>∃ q,r=.returned (.tuple #[q,.int .i64 0])/\Nt 2001 (A*P) q w'/\Below w.heap.size w w':=by
 obtain ⟨a,k,cap,z,rfl,hk,hN,hv,hs⟩:=h
 obtain ⟨a',k',cap',z',rfl,hk',hN',hv'⟩:=h'
 have s1:=(size_bl (m:=251) hN.2.2.1 hv).2 hA
 have s2:=(size_bl (m:=1500) hN'.2.2.1 hv').2 hP
 have hm:¬ 2000<sizeL z k+sizeL z' k':=by omega
 have c:=nmul_all a a' k cap k' cap' z z' w (by omega) (by omega) hN hN'
 unfold mulE mulV at c
 rw [if_neg hm,if_neg hm] at c
 refine c.mono fun r w' ⟨o,q,cp,y,e1,hq,hNq,hvq,hsq,hB⟩=>⟨_,e1,⟨_,q,cp,y,rfl,by omega,hNq,?_⟩,hB⟩
 rw [hvq,hv,hv'];simp
attribute [local irreducible] W4 Nz Nt
section
variable (n d:Int)(c:Int)(s g:Bool)(l:List UInt8)(x e:Int)(A P R:Nat)(F E:Int)(w:World)(hT:Tab w)(heb:-20000<=e/\e<=20000)
 (c65:∀ W,CB 152 #[PV c s g l x] W (.int .i64 e))
 (c66:∀ W,CE 153 #[.string (B l)] W (Nz 251 A))
include hT heb c65 c66
theorem fin8_neg (he:e<0)
  (c67:∀ W k,k=-e->Calls Tryz.prog 61 #[.int .i64 5,.int .i64 k] W fun r w'=>∃ v,r=.returned (.tuple #[v,.int .i64 0])/\Nt 2001 P v w'/\Below W.heap.size W w')
  (c69:∀ W v v',Tab W->Nz 251 A v W->Nt 2001 P v' W->CB 63 #[.int .i64 n,.int .i64 d,.bool s,v,v',.int .i64 e] W (.tuple #[A4 R,.int .i64 F,.int .i64 E])) :
  CB 92 #[.int .i64 n,.int .i64 d,PV c s g l x] w (.tuple #[A4 R,.int .i64 F,.int .i64 E]):=by
 have hsm:=cell_set_map
 unfold PV at *
 go_enter Tryz.func92,Tryz.ntmps92
 go_wp2_with (first
  | (go_at_call 152;refine (c65 _).mono ?_;rintro r w1 ⟨rfl,hb1⟩;obtain ⟨_,_,_,_,hA1,_⟩:=wz w hb1;obtain ⟨_,_⟩:=zf hb1 (w.heap.size+1);clear hb1)
  | (go_at_call 153;refine (c66 _).mono ?_;rintro r w2 ⟨v2,rfl,hv2,hb2⟩;obtain ⟨_,_,_,_,hA2,_⟩:=wz w hb2;obtain ⟨_,_⟩:=zf hb2 (w.heap.size+1);clear hb2)
  | (go_at_call 61;refine (c67 _ _ (by omega)).mono ?_;rintro r w3 ⟨v3,rfl,hv3,hb3⟩;have hv2':=hv2.next ((below1 w2 _).trans (hb3.mono (by simp)));obtain ⟨_,_,_,_,hA3,_⟩:=wz w hb3;obtain ⟨_,_⟩:=zf hb3 (w.heap.size+1);clear hb3)
  | (go_at_call 63;refine (c69 _ _ _ (hT.go bgo) hv2' hv3).mono ?_;rintro r w4 ⟨rfl,hb4⟩;obtain ⟨_,_,_,_,hA4,_⟩:=wz w hb4;obtain ⟨_,_⟩:=zf hb4 (w.heap.size+1);clear hb4))
 exact bodyPost_ret (v:=.tuple #[A4 R,.int .i64 F,.int .i64 E]) (by simp only [results,Tryz.results92];go_simp) rfl ⟨rfl,bgo⟩
theorem fin8_pos (he:¬ e<0)
  (c67:∀ W,Calls Tryz.prog 61 #[.int .i64 5,.int .i64 e] W fun r w'=>∃ v,r=.returned (.tuple #[v,.int .i64 0])/\Nt 2001 P v w'/\Below W.heap.size W w')
  (c68:∀ W v v',Nz 251 A v W->Nt 2001 P v' W->Calls Tryz.prog 62 #[v,v'] W fun r w'=>∃ q,r=.returned (.tuple #[q,.int .i64 0])/\Nt 2001 (A*P) q w'/\Below W.heap.size W w')
  (c69:∀ W v v',Tab W->Nt 2001 (A*P) v W->Nt 2001 1 v' W->CB 63 #[.int .i64 n,.int .i64 d,.bool s,v,v',.int .i64 e] W (.tuple #[A4 R,.int .i64 F,.int .i64 E])) :
  CB 92 #[.int .i64 n,.int .i64 d,PV c s g l x] w (.tuple #[A4 R,.int .i64 F,.int .i64 E]):=by
 have hsm:=cell_set_map
 unfold PV at *
 go_enter Tryz.func92,Tryz.ntmps92
 go_wp2_with (first
  | (go_at_call 152;refine (c65 _).mono ?_;rintro r w1 ⟨rfl,hb1⟩;obtain ⟨_,_,_,_,hA1,_⟩:=wz w hb1;obtain ⟨_,_⟩:=zf hb1 (w.heap.size+1);clear hb1)
  | (go_at_call 153;refine (c66 _).mono ?_;rintro r w2 ⟨v2,rfl,hv2,hb2⟩;obtain ⟨_,_,_,_,hA2,_⟩:=wz w hb2;obtain ⟨_,_⟩:=zf hb2 (w.heap.size+1);clear hb2;have hone:Nt 2001 1 (.slice (some ⟨w2.heap.size,0,none⟩) 1 1) (w2.alloc (.cells #[.int .u64 1] 22)):=(nt_one rfl rfl (by decide)).more (by decide);have hv2a:=hv2.next (below1 w2 (.cells #[.int .u64 1] 22)))
  | (go_at_call 61;refine (c67 _).mono ?_;rintro r w3 ⟨v3,rfl,hv3,hb3⟩;have hv2':=hv2a.next hb3;have hone':=hone.next hb3;obtain ⟨_,_,_,_,hA3,_⟩:=wz w hb3;obtain ⟨_,_⟩:=zf hb3 (w.heap.size+1);clear hb3)
  | (go_at_call 62;refine (c68 _ _ _ hv2' hv3).mono ?_;rintro r w5 ⟨v5,rfl,hv5,hb5⟩;have hone2:=hone'.next hb5;obtain ⟨_,_,_,_,hA5,_⟩:=wz w hb5;obtain ⟨_,_⟩:=zf hb5 (w.heap.size+1);clear hb5)
  | (go_at_call 63;refine (c69 _ _ _ (hT.go bgo) hv5 hone2).mono ?_;rintro r w4 ⟨rfl,hb4⟩;obtain ⟨_,_,_,_,hA4,_⟩:=wz w hb4;obtain ⟨_,_⟩:=zf hb4 (w.heap.size+1);clear hb4))
 exact bodyPost_ret (v:=.tuple #[A4 R,.int .i64 F,.int .i64 E]) (by simp only [results,Tryz.results92];go_simp) rfl ⟨rfl,bgo⟩
end
theorem nz_nt {K V:Nat}{v:Value}{w:World}(h:Nz K V v w)(hK:K<=2001):Nt 2001 V v w:=h.nt.more hK
theorem finite8 (n d:Int)(c:Int)(s g:Bool)(l:List UInt8)(x:Int)(w:World)(hT:Tab w)(hb:binN n)(hk:knB d)(hd:l.all dg=true)(hl:l.length<=4000) :
  CB 92 #[.int .i64 n,.int .i64 d,PV c s g l x] w (.tuple #[A4 (rdV n d s (tN (dV l) (pwE l.length x)) (tD (pwE l.length x)) (pwE l.length x)),.int .i64 (rdF n d s (tN (dV l) (pwE l.length x)) (tD (pwE l.length x)) (pwE l.length x)),.int .i64 0]):=by
 have hpw:-10000<=pwE l.length x/\pwE l.length x<=6000:=by unfold pwE;omega
 have c65:=fun W=>within8 c s g l x W hl
 have c66:=fun W=>natural8 l W hd hl
 have hA:bl (dV l)<=64*250:=bl_10 (dV_lt hd).1 (by omega)
 generalize pwE l.length x=e at *
 by_cases he:e<0
 ·have hm:=five_bl (-e).toNat
  have e1:tN (dV l) e=dV l:=by unfold tN;rw [show e.toNat=0 by omega,Nat.pow_zero,Nat.mul_one]
  have e2:tD e=5^(-e).toNat:=rfl
  rw [e1,e2]
  refine fin8_neg n d c s g l x e (dV l) (5^(-e).toNat) _ _ _ w hT (by omega) c65 c66 he (fun W k hk'=>?_) (fun W v v' hT' hv hv'=>?_)
  ·have:=npow5 (-e).toNat W (by omega)
   rw [show (((-e).toNat:Nat):Int)=k by omega] at this
   exact this
  ·exact rnd_good n d e s hT' (nz_nt hv (by decide)) hv' hb hk (Nat.pos_iff_ne_zero.1 (Nat.pow_pos (by decide))) (by omega) (by omega)
 ·have hm:=five_bl e.toNat
  have e1:tD e=1:=by unfold tD;rw [show (-e).toNat=0 by omega,Nat.pow_zero]
  have e2:tN (dV l) e=dV l*5^e.toNat:=rfl
  rw [e1,e2]
  have hbm:=bl_mul (dV l) (5^e.toNat)
  refine fin8_pos n d c s g l x e (dV l) (5^e.toNat) _ _ _ w hT (by omega) c65 c66 he (fun W=>?_) (fun W v v' hv hv'=>nmul_v hv hv' (by omega) (by omega)) (fun W v v' hT' hv hv'=>?_)
  ·have:=npow5 e.toNat W (by omega)
   rw [show ((e.toNat:Nat):Int)=e by omega] at this
   exact this
  ·exact rnd_good n d e s hT' hv hv' hb hk (by decide) (by omega) (by decide)
section
variable (n d:Int)(c:Int)(s g:Bool)(l:List UInt8)(x:Int)(T:List UInt8)(nm:ByteArray)(wd:Int)(f e:Nat)(lo m:Int)(w:World)(hT:Tab w)
include hT
variable (c28:∀ W,Tab W->CB 53 #[.int .i64 n,.int .i64 d] W (.tuple #[DI n nm wd f e lo m,.int .i64 0]))
include c28
variable (c31:∀ W,Below w.heap.size w W->CB 82 #[PV c s g l x] W (.tuple #[.string (B T),.int .i64 0]))
include c31
theorem make_1 (hc:c=1)(R:Nat)(F E:Int)(c32:∀ W,Tab W->CB 92 #[.int .i64 n,.int .i64 d,PV 1 s g l x] W (.tuple #[A4 R,.int .i64 F,.int .i64 E])) :
  CB 55 #[.int .i64 n,.int .i64 d,PV c s g l x] w (.tuple #[A4 R,.int .i64 F,.int .i64 E]):=by
 subst hc
 have hsm:=cell_set_map
 unfold PV at *
 go_enter Tryz.func55,Tryz.ntmps55
 go_wp2_with (first
  | (go_at_call 53;refine (c28 _ (hT.go bgo)).mono ?_;rintro r w1 ⟨rfl,hb1⟩;obtain ⟨_,_,_,_,hA1,_⟩:=wz w hb1;obtain ⟨_,_⟩:=zf hb1 (w.heap.size+1);clear hb1)
  | (go_at_call 82;refine (c31 _ bgo).mono ?_;rintro r w2 ⟨rfl,hb2⟩;obtain ⟨_,_,_,_,hA2,_⟩:=wz w hb2;obtain ⟨_,_⟩:=zf hb2 (w.heap.size+1);obtain ⟨_,_⟩:=zf hb2 w1.heap.size;clear hb2)
  | (go_at_call 92;refine (c32 _ (hT.go bgo)).mono ?_;rintro r w3 ⟨rfl,hb3⟩;obtain ⟨_,_,_,_,hA3,_⟩:=wz w hb3;obtain ⟨_,_⟩:=zf hb3 (w.heap.size+1);obtain ⟨_,_⟩:=zf hb3 w1.heap.size;clear hb3))
 exact bodyPost_ret (v:=.tuple #[A4 R,.int .i64 F,.int .i64 E]) (by simp only [results,Tryz.results55];go_simp) rfl ⟨rfl,bgo⟩
theorem make_2 (hc:c=2)(R:Nat)(E:Int)(c34:∀ W,Tab W->CB 32 #[.int .i64 n,.agg #[.int .i64 2,.bool s,.bool g,.int .i64 0,.int .u64 0,.int .u64 0,.int .u64 0,.int .u64 0]] W (.tuple #[A4 R,.int .i64 E])) :
  CB 55 #[.int .i64 n,.int .i64 d,PV c s g l x] w (.tuple #[A4 R,.int .i64 0,.int .i64 E]):=by
 subst hc
 have hsm:=cell_set_map
 unfold PV at *
 go_enter Tryz.func55,Tryz.ntmps55
 go_wp2_with (first
  | (go_at_call 53;refine (c28 _ (hT.go bgo)).mono ?_;rintro r w1 ⟨rfl,hb1⟩;obtain ⟨_,_,_,_,hA1,_⟩:=wz w hb1;obtain ⟨_,_⟩:=zf hb1 (w.heap.size+1);clear hb1)
  | (go_at_call 82;refine (c31 _ bgo).mono ?_;rintro r w2 ⟨rfl,hb2⟩;obtain ⟨_,_,_,_,hA2,_⟩:=wz w hb2;obtain ⟨_,_⟩:=zf hb2 (w.heap.size+1);obtain ⟨_,_⟩:=zf hb2 w1.heap.size;clear hb2)
  | (go_at_call 32;refine (c34 _ (hT.go bgo)).mono ?_;rintro r w3 ⟨rfl,hb3⟩;obtain ⟨_,_,_,_,hA3,_⟩:=wz w hb3;obtain ⟨_,_⟩:=zf hb3 (w.heap.size+1);obtain ⟨_,_⟩:=zf hb3 w1.heap.size;obtain ⟨_,_⟩:=zf hb3 w2.heap.size;clear hb3))
 exact bodyPost_ret (v:=.tuple #[A4 R,.int .i64 0,.int .i64 E]) (by simp only [results,Tryz.results55];go_simp) rfl ⟨rfl,bgo⟩
theorem make_3 (hc:c=3)(P R:Nat)(E:Int)(c33:∀ W,CB 93 #[DI n nm wd f e lo m,PV 3 s g l x] W (A4 P))
  (c34:∀ W,Tab W->CB 32 #[.int .i64 n,DV 3 s g 0 P] W (.tuple #[A4 R,.int .i64 E])) :
  CB 55 #[.int .i64 n,.int .i64 d,PV c s g l x] w (.tuple #[A4 R,.int .i64 0,.int .i64 E]):=by
 subst hc
 have hsm:=cell_set_map
 unfold PV at *
 go_enter Tryz.func55,Tryz.ntmps55
 go_wp2_with (first
  | (go_at_call 53;refine (c28 _ (hT.go bgo)).mono ?_;rintro r w1 ⟨rfl,hb1⟩;obtain ⟨_,_,_,_,hA1,_⟩:=wz w hb1;obtain ⟨_,_⟩:=zf hb1 (w.heap.size+1);clear hb1)
  | (go_at_call 82;refine (c31 _ bgo).mono ?_;rintro r w2 ⟨rfl,hb2⟩;obtain ⟨_,_,_,_,hA2,_⟩:=wz w hb2;obtain ⟨_,_⟩:=zf hb2 (w.heap.size+1);obtain ⟨_,_⟩:=zf hb2 w1.heap.size;clear hb2)
  | (go_at_call 93;refine (c33 _).mono ?_;rintro r w3 ⟨rfl,hb3⟩;obtain ⟨_,_,_,_,hA3,_⟩:=wz w hb3;obtain ⟨_,_⟩:=zf hb3 (w.heap.size+1);obtain ⟨_,_⟩:=zf hb3 w1.heap.size;obtain ⟨_,_⟩:=zf hb3 w2.heap.size;clear hb3)
  | (go_at_call 32;refine (c34 _ (hT.go bgo)).mono ?_;rintro r w4 ⟨rfl,hb4⟩;obtain ⟨_,_,_,_,hA4,_⟩:=wz w hb4;obtain ⟨_,_⟩:=zf hb4 (w.heap.size+1);obtain ⟨_,_⟩:=zf hb4 w1.heap.size;obtain ⟨_,_⟩:=zf hb4 w2.heap.size;clear hb4))
 exact bodyPost_ret (v:=.tuple #[A4 R,.int .i64 0,.int .i64 E]) (by simp only [results,Tryz.results55];go_simp) rfl ⟨rfl,bgo⟩
end
end
section
theorem NT.nz {K V:Nat}{v:Value}{w:World}(h:NT K V v w):Nz K V v w:=by
 obtain ⟨g,k,cap,z,h1,h2,h3,h4,h5⟩:=h
 exact ⟨_,k,cap,z,h1,h2,h3,h4,h5⟩
theorem NT.nt {K V:Nat}{v:Value}{w:World}(h:NT K V v w):Nt K V v w:=h.nz.nt
theorem nmul_w {K K' A P:Nat}{v v':Value}{w:World}(hK:K<100000000)(hK':K'<100000000)(h:Nt K A v w)(h':Nt K' P v' w)(hb:bl A+bl P<=127000) :
  Calls Tryz.prog 62 #[v,v'] w fun r w'=>∃ q,r=.returned (.tuple #[q,.int .i64 0])/\NT 2001 (A*P) q w'/\Below w.heap.size w w':=by
 obtain ⟨a,k,cap,z,rfl,hk,hN,hv⟩:=h
 obtain ⟨a',k',cap',z',rfl,hk',hN',hv'⟩:=h'
 have s1:=(size_bl (m:=(bl A+63)/64) hN.2.2.1 hv).2 (by omega)
 have s2:=(size_bl (m:=(bl P+63)/64) hN'.2.2.1 hv').2 (by omega)
 refine (nmul_any a a' k cap k' cap' z z' w (by omega) (by omega) hN hN' (by omega)).mono fun r w' ⟨g,q,cp,y,e1,hq,hNq,hvq,hsq,hB⟩=>⟨_,e1,⟨g,q,cp,y,rfl,by omega,hNq,?_,hsq⟩,hB⟩
 rw [hvq,hv,hv'];simp
theorem nt_un1 {W:World}{g V:Nat}{vi:Int}(hg:g=W.heap.size)(hv:vi=(V:Int))(hb:V<18446744073709551616)(h0:V≠0):NT 1 V (.slice (some ⟨g,0,none⟩) 1 1) (W.alloc (.cells #[.int .u64 vi] 22)):=by
 subst hg hv
 refine ⟨_,1,1,oneW V,rfl,Nat.le_refl _,num_one W V (by omega),val_one1 V,?_⟩
 have:oneW (V:Int) 0≠0:=by simp [oneW];omega
 simp [sizeL,this]
theorem npow2z (m:Nat)(w:World)(hm:m<=12000):Calls Tryz.prog 61 #[.int .i64 2,.int .i64 (m:Int)] w fun r w'=>∃ v,r=.returned (.tuple #[v,.int .i64 0])/\Nt 2001 (2^m) v w'/\Below w.heap.size w w':=by
 refine (npow_two m w hm).mono fun r w' ⟨g,k,cap,z,e1,hk,hN,hv,hs,hB⟩=>⟨_,e1,⟨_,k,cap,z,rfl,hk,hN,?_⟩,hB⟩
 rw [hv];simp
attribute [local irreducible] W4 Nz Nt NT
theorem nt_at {W:World}{g k:Nat}(hk:k<2^256)(hg:g<W.heap.size)(h0:W.cell? ⟨g,4,none⟩=some (.int .u64 (W4 k 0)))(h1:W.cell? ⟨g,5,none⟩=some (.int .u64 (W4 k 1)))(h2:W.cell? ⟨g,6,none⟩=some (.int .u64 (W4 k 2)))(h3:W.cell? ⟨g,7,none⟩=some (.int .u64 (W4 k 3))) :
  Nt 4 k (.slice (some ⟨g,4,none⟩) 4 4) W:=by
 unfold Nt
 refine ⟨some ⟨g,4,none⟩,4,4,fun i=>if i<4 then W4 k i else 0,rfl,Nat.le_refl _,⟨Nat.le_refl _,by unfold maxLen;omega,fun i=>?_,fun i hi=>if_neg (by omega),Or.inr ⟨g,4,rfl,hg,fun i hi=>?_⟩⟩,?_⟩
 ·dsimp only
  split
  ·exact W4_words k i
  ·exact ⟨Int.le_refl _,by decide⟩
 ·have:i=0∨i=1∨i=2∨i=3:=by omega
  rcases this with rfl|rfl|rfl|rfl
  ·exact h0
  ·exact h1
  ·exact h2
  ·exact h3
 ·have e:=W4_val4 hk
  rw [← e]
  simp [val]
def gsP (k:Nat)(x:Int):Int:=(((bl k:Int)-1+x)*30103).tdiv 100000-1
end
section
attribute [local irreducible] W4 Nz Nt NT
def nbB (n x:Int)(k:Nat):Bool:=decide (leastN n<x)&&decide (k=2^fN n)
end
section
structure Mut (g:Nat) (w w':World):Prop where
 os:w'.os=w.os
 tape:w'.tape=w.tape
 output:w'.output=w.output
 size:w.heap.size<=w'.heap.size
 block:∀ k,k<w.heap.size->k≠g->w'.heap[k]?=w.heap[k]?
theorem Mut.refl (g:Nat)(w:World):Mut g w w:=⟨rfl,rfl,rfl,Nat.le_refl _,fun _ _ _=>rfl⟩
theorem Mut.trans {g:Nat}{a b c:World}(h:Mut g a b)(k:Mut g b c):Mut g a c :=
 ⟨k.os.trans h.os,k.tape.trans h.tape,k.output.trans h.output,Nat.le_trans h.size k.size,fun i hi hg=>(k.block i (Nat.lt_of_lt_of_le hi h.size) hg).trans (h.block i hi hg)⟩
theorem Mut.below {g:Nat}{a b:World}(h:Below a.heap.size a b):Mut g a b:=⟨h.os,h.tape,h.output,h.size,fun k hk _=>h.block k hk⟩
theorem Mut.set {g:Nat}{a b:World}(h:Mut g a b)(i:Nat)(v:Value):Mut g a (b.setCell ⟨g,i,none⟩ v) :=
 h.trans ⟨rfl,rfl,rfl,by simp [World.setCell],fun k _ hk=>Below.heap_setCell _ _ _ _ hk⟩
theorem Mut.out {g B:Nat}{w0 w w':World}(h:Mut g w w')(h0:Below B w0 w)(hB:B<=g)(hs:B<=w0.heap.size):Below B w0 w' :=
 h0.trans ⟨h.os,h.tape,h.output,h.size,fun k hk=>h.block k (by have:=h0.size;omega) (by omega)⟩
attribute [local irreducible] W4 Nz Nt NT
end
section
attribute [local irreducible] W4 NT NV
theorem nt_oneB {W:World}{g:Nat}(hg:g=W.heap.size):NT 900 1 (.slice (some ⟨g,0,none⟩) 1 1) (W.alloc (.cells #[.int .u64 1] 22)):=by
 have h:=nt_un1 (W:=W) (V:=1) (vi:=1) hg rfl (by decide) (by decide)
 unfold NT at h ⊢
 obtain ⟨g',k',c',z,h1,h2,h3⟩:=h
 exact ⟨g',k',c',z,h1,Nat.le_trans h2 (by decide),h3⟩
section
variable (t d:Int)(c x:Int)(s g:Bool)(k:Nat)(w:World)
end
end
end Go.Proofs.YtjfeaiaafbaobaaGreatDoor
