/-
  Texts that the proof leans on.
-/
import Derived.Test.YtjfeaiaafbaobaaGreatDoorJ26
import Derived.Test.YtjfeaiaafbaobaaGreatDoorJ1
import Derived.Test.YtjfeaiaafbaobaaGreatDoorJ35
import Derived.Test.YtjfeaiaafbaobaaGreatDoorJ28
import Derived.Test.YtjfeaiaafbaobaaGreatDoorJ36
set_option maxHeartbeats 8000000
set_option linter.unusedVariables false
set_option linter.unusedSectionVars false
set_option linter.unusedSimpArgs false
set_option maxRecDepth 20000
namespace Go.Proofs.YtjfeaiaafbaobaaGreatDoor
open Go.RowKit
section
theorem rless_wide {K K' A B:Nat}{v v':Value}{w:World}(hK:K<1000000)(hK':K'<1000000)(h:NV K A v w)(h':NV K' B v' w)(hv:B<=A) :
  CE 79 #[v,v'] w (NT (K+K') (A-B)):=by
 obtain ⟨g,k,c,z,rfl,hk,hN,hz⟩:=h
 obtain ⟨g2,k2,c2,z2,rfl,hk2,hN2,hz2⟩:=h'
 refine (rless_tr _ _ k c k2 c2 z z2 w (by omega) (by omega) hN hN2).mono fun e w' ⟨g3,k3,cap3,e1,hk3,hN3,ht,hB⟩=>⟨_,e1,⟨g3,k3,cap3,_,rfl,by omega,hN3,?_,ht⟩,hB⟩
 have ex:=val_more hN.2.2.2.1 (max k k2) (by omega)
 have ey:=val_more hN2.2.2.2.1 (max k k2) (by omega)
 have e:=dif_val hN.2.2.1 hN2.2.2.1 (max k k2)
 rw [borW_end hN.2.2.1 hN2.2.2.1 (by omega),ex,ey] at e
 rw [← val_more hN3.2.2.2.1 _ hk3,val_congr (y:=difW z z2) (max k k2) fun i hi=>by unfold difZ;rw [if_pos hi]]
 omega
attribute [local irreducible] W4 NT NV
theorem rlargest_bad (n:Int)(s:Bool)(w:World)(h:¬ binN n) :
  CB 129 #[.int .i64 n,.bool s] w (.tuple #[Z4,.int .i64 1]):=by
 have c35:=fun w=>rbinary_any n w
 rw [decide_eq_false h] at c35
 have hsm:=cell_set_map
 clear h
 go_enter Tryz.func129,Tryz.ntmps129
 go_wp2_with (go_at_call 12;refine (c35 _).mono ?_;rintro r w0 ⟨rfl,rfl⟩)
 exact bodyPost_ret (v:=.tuple #[Z4,.int .i64 1]) (by simp only [results,Tryz.results129];go_simp) rfl ⟨rfl,bgo⟩
theorem rlargest_any (n:Int)(s:Bool)(w:World) :
  CB 129 #[.int .i64 n,.bool s] w (.tuple #[A4 (lgV n s),.int .i64 (lgE n)]):=by
 by_cases hb:binN n
 ·have hF:=bin_fm hb
  have c25:=fun w=>rof_bin hb w
  have c35:∀ w,CQ 12 #[.int .i64 n] w (.bool true):=fun w=>by
   have:=rbinary_any n w
   rw [decide_eq_true hb] at this
   exact this.mono fun _ _ ⟨h1,h2⟩=>⟨h1,h2.symm⟩
  have hf:=hF.f240
  have hp1:1<=2^(fN n+1):=Nat.one_le_two_pow
  have h256:2^(fN n+1)<2^256:=Nat.pow_lt_pow_right (by decide) (by omega)
  have c30:=fun w=>rpow_nv (fN n+1) w (by omega)
  have c13:=fun w=>rpack_any n ⟨1,s,false,mostN n,2^(fN n+1)-1⟩ w (by show 2^(fN n+1)-1<_;omega)
  have hpf:2^(fN n+1)=2^fN n+2^fN n:=by rw [Nat.pow_succ];omega
  have hpp:1<=2^fN n:=Nat.one_le_two_pow
  have hpc:((2:Int)^eN n)=((2^eN n:Nat):Int):=by simp
  have hp:=pow_e hF.e2 hF.e15
  have hm:=hF.m
  rw [hpc] at hp hm
  have hi:isD (fN n) (leastN n) (mostN n) ⟨1,s,false,mostN n,2^(fN n+1)-1⟩:=Or.inl ⟨rfl,rfl,by show 2^(fN n+1)-1<_;omega,by show leastN n<=mostN n;omega,Int.le_refl _,Or.inl (by show 2^fN n<=2^(fN n+1)-1;omega)⟩
  have e1:pkE n ⟨1,s,false,mostN n,2^(fN n+1)-1⟩=lgE n:=by unfold pkE lgE;rw [if_pos hb,if_pos hi,if_pos hb]
  have e2:pkV n ⟨1,s,false,mostN n,2^(fN n+1)-1⟩=lgV n s:=by
   unfold pkV lgV pk
   rw [if_pos ⟨hb,hi⟩,if_pos hb]
   dsimp only
   rw [if_pos rfl,show (mostN n-leastN n).toNat=2^eN n-3 by omega]
   obtain ⟨q,hq⟩:∃ q,2^eN n=q+3:=⟨2^eN n-3,by omega⟩
   rw [hq,show q+3-3=q by omega,show q+3-2=q+1 by omega,Nat.add_mul]
   omega
  rw [e1,e2] at c13
  refine rlargest_ok n _ _ _ _ _ _ _ _ _ _ s w hp1 c35 c25 c30 (fun W v v' h h'=>?_) c13
  exact (rless_wide (by decide) (by decide) h h' hp1).mono fun _ _ ⟨r,a1,a2,a3⟩=>⟨r,a1,a2.nv,a3⟩
 ·unfold lgV lgE
  rw [if_neg hb,if_neg hb,Z4_eq]
  exact rlargest_bad n s w hb
end
section
theorem DV_zero (c:Int)(s g:Bool)(x:Int):DV c s g x 0=.agg #[.int .i64 c,.bool s,.bool g,.int .i64 x,.int .u64 0,.int .u64 0,.int .u64 0,.int .u64 0]:=by
 unfold DV;simp only [W4_zero]
theorem sN_bl {N:Nat}(h:N≠0)(x:Int):bl (sN N x)<=bl N+200000:=by
 unfold sN;rw [bl_shift h];unfold clZ;omega
theorem sD_bl {N:Nat}(h:N≠0)(x:Int):bl (sD N x)<=bl N+200000:=by
 unfold sD;rw [bl_shift h];unfold clZ;omega
theorem round_v (n d x:Int)(s:Bool){N D:Nat}{vn vd:Value}{w:World}(hn:NT 2001 N vn w)(hd:NT 2001 D vd w)(hb:binN n)(hk:knB d)(hD:D≠0)(h1:bl N<=120000)(h2:bl D<=120000) :
  CB 72 #[.int .i64 n,.int .i64 d,.bool s,vn,vd,.int .i64 x] w (.tuple #[A4 (doV n d s N D x),.int .i64 (doF n d s N D x)]):=by
 obtain ⟨f1,f2,f3,f4,f5⟩:=fld_bd hb
 have c47:=fun W=>rof_bin hb W
 obtain ⟨gn,kn,cn,rfl,hkn,hz⟩:=hn.zero
 by_cases hN:N=0
 ·have hk0:=hz.2 hN
  subst hk0
  unfold doV doF
  rw [if_pos hN,if_pos hN]
  have c66:=fun W=>rpack_any n ⟨1,s,false,leastN n,0⟩ W (show 0<2^256 by decide)
  rw [show (Dat.v ⟨1,s,false,leastN n,0⟩)=_ from DV_zero 1 s false (leastN n)] at c66
  exact round_z n d x s gn cn vd w _ _ _ _ _ _ _ _ c47 c66
 ·have hk0:((kn:Int)==0)=false:=by
   rw [beq_eq_false_iff_ne]
   intro e
   exact hN (hz.1 (by omega))
  have hw:=dlow_ways hN hD x
  have hlb:=low_bd (sN N x) (sD D x)
  have b1:=sN_bl hN x
  have b2:=sD_bl hD x
  have hld:-3000000<=dLow N D x/\dLow N D x<=3000000:=by unfold dLow;omega
  have c67:=fun W (hb':Below w.heap.size w W)=>rscale_nt x (by decide) (hn.next hb') (hd.next hb')
  have c68:=fun W a b (ha:NT (2001+3130) (sN N x) a W) (hb':NT (2001+3130) (sD D x) b W)=>rexp_nt (by decide) ha hb' (by omega) (by omega)
  have c67b:∀ W a b k,k=-(dQ n N D x)->NT (2001+3130) (sN N x) a W->NT (2001+3130) (sD D x) b W->Calls Tryz.prog 71 #[a,b,.int .u64 2,.int .i64 k] W fun r w'=>∃ a' b',r=.returned (.tuple #[a',b'])/\NT (2001+3130+3130) (dA n N D x) a' w'/\NT (2001+3130+3130) (dB n N D x) b' w'/\Below W.heap.size W w':=by
   rintro W a b k rfl ha hb'
   exact rscale_nt _ (by decide) ha hb'
  have hB0:dB n N D x≠0:=sD_ne (sD_ne hD x) _
  have c69:=fun W a b (ha:NT (2001+3130+3130) (dA n N D x) a W) (hb':NT (2001+3130+3130) (dB n N D x) b W)=>whole_nt d s hk (by decide) ha hb' hB0
  have c70:=fun W v (hv:NV 41002 (dC n d s N D x) v W)=>rlen_nv (by decide) hv
  have c71:=fun W v (hv:NV 41002 (dC n d s N D x) v W)=>rright1_nv (by decide) hv
  have c66i:=fun W=>rpack_any n ⟨2,s,false,0,0⟩ W (show 0<2^256 by decide)
  rw [show (Dat.v ⟨2,s,false,0,0⟩)=_ from DV_zero 2 s false 0] at c66i
  have hf3:fN n<=300:=by omega
  have hl3:-100000<=leastN n/\leastN n<=100000:=by omega
  have hm3:-100000<=mostN n/\mostN n<=100000:=by omega
  refine round_w n d x s gn kn cn vd w (nameN n) (widthN n) (fN n) (eN n) (leastN n) (mostN n) (sN N x) (sD D x) (dA n N D x) (dB n N D x) (dC n d s N D x) _ _ (pkV n ⟨2,s,false,0,0⟩) (lgV n s) (pkV n ⟨1,s,false,dQ' n d s N D x,dC' n d s N D x⟩) _ _ _ (dLow N D x) (dQ n N D x) (decide (dA n N D x%dB n N D x=0)) (inB d s) c47 hf3 hl3 hm3 hld rfl hk0 c67 c68 c67b c69 c70 c71 (dC' n d s N D x) (dQ' n d s N D x) (fun h=>⟨if_pos h,if_pos h⟩) (fun h=>⟨if_neg h,if_neg h⟩) _ _ (fun ho=>?_) (fun ho=>?_) (fun W=>rlargest_any n s W) (fun W=>rfar_kn d s W hk) c66i (fun ho W=>rpack_any n ⟨1,s,false,dQ' n d s N D x,dC' n d s N D x⟩ W (do_lt d s x hb hN hD h1 h2 ho))
  ·unfold doV doF
   rw [if_neg hN,if_neg hN,if_pos ho,if_pos ho]
   exact ⟨rfl,rfl⟩
  ·unfold doV doF
   rw [if_neg hN,if_neg hN,if_neg ho,if_neg ho]
   refine ⟨rfl,?_⟩
   simp only [decide_eq_true_eq]
attribute [local irreducible] W4 NT NV Nt
end
section
theorem NT.tight {K K' V:Nat}{v:Value}{w:World}(h:NT K V v w)(hb:bl V<=64*K'):NT K' V v w:=by
 obtain ⟨g,k,cap,z,h1,h2,h3,h4,h5⟩:=h
 exact ⟨g,k,cap,z,h1,by have:=(size_bl (m:=K') h3.2.2.1 h4).2 hb;omega,h3,h4,h5⟩
theorem rpow10_nv (n:Nat)(w:World)(hn:n<=12000):CE 17 #[.int .u64 10,.int .i64 (n:Int)] w (NV 50000 (10^n)):=by
 refine (rpow_any 10 n w (by decide) (by omega)).mono ?_
 rintro r w' ⟨g,k,cap,z,rfl,hk,hN,hv,hb⟩
 exact ⟨_,rfl,⟨g,k,cap,z,rfl,by omega,hN,by rw [hv];simp⟩,hb⟩
theorem rpower10 (n:Nat)(w:World)(hn:n<=12000):CE 126 #[.int .u64 10,.int .i64 (n:Int)] w (NV 50000 (10^n)):=by
 have c19:=rpow10_nv n w hn
 go_enter Tryz.func126,Tryz.ntmps126
 go_wp2_with (go_at_call 17;refine c19.mono ?_;rintro r w1 ⟨v,rfl,hv,hb1⟩)
 go_ret
 exact ⟨v,rfl,hv,hb1⟩
section
variable (x:Int)(vn vd:Value)(A KK:Nat)(w:World)(hx:-12000<=x/\x<=12000)
include hx
theorem rsc10_pos (h:0<=x)
  (c79:Calls Tryz.prog 126 #[.int .u64 10,.int .i64 x] w fun e w'=>∃ p,e=.returned p/\Below w.heap.size w w'/\Calls Tryz.prog 16 #[vn,p] w' fun e w''=>∃ r,e=.returned r/\NT KK A r w''/\Below w'.heap.size w' w'') :
  Calls Tryz.prog 71 #[vn,vd,.int .u64 10,.int .i64 x] w fun e w'=>∃ r,e=.returned (.tuple #[r,vd])/\NT KK A r w'/\Below w.heap.size w w':=by
 have e1:max x (-60000)=x:=by omega
 have e2:min x 60000=x:=by omega
 go_enter Tryz.func71,Tryz.ntmps71
 go_wp2_with (first
  | (go_at_call 126;refine c79.mono ?_;rintro e w1 ⟨p,rfl,hb1,c17⟩)
  | (go_at_call 16;refine c17.mono ?_;rintro e w2 ⟨r,rfl,hr,hb2⟩))
 exact bodyPost_ret (v:=.tuple #[r,vd]) (by simp only [results,Tryz.results71];go_simp) rfl ⟨_,rfl,hr,hb1.trans (hb2.mono hb1.size)⟩
theorem rsc10_neg (m:Int)(hm:m=-x)(h:¬ 0<=x)
  (c79:Calls Tryz.prog 126 #[.int .u64 10,.int .i64 m] w fun e w'=>∃ p,e=.returned p/\Below w.heap.size w w'/\Calls Tryz.prog 16 #[vd,p] w' fun e w''=>∃ r,e=.returned r/\NT KK A r w''/\Below w'.heap.size w' w'') :
  Calls Tryz.prog 71 #[vn,vd,.int .u64 10,.int .i64 x] w fun e w'=>∃ r,e=.returned (.tuple #[vn,r])/\NT KK A r w'/\Below w.heap.size w w':=by
 have e1:max x (-60000)=x:=by omega
 have e2:min x 60000=x:=by omega
 subst hm
 go_enter Tryz.func71,Tryz.ntmps71
 go_wp2_with (first
  | (go_at_call 126;refine c79.mono ?_;rintro e w1 ⟨p,rfl,hb1,c17⟩)
  | (go_at_call 16;refine c17.mono ?_;rintro e w2 ⟨r,rfl,hr,hb2⟩))
 exact bodyPost_ret (v:=.tuple #[vn,r]) (by simp only [results,Tryz.results71];go_simp) rfl ⟨_,rfl,hr,hb1.trans (hb2.mono hb1.size)⟩
end
theorem ten_bl (k:Nat):bl (10^k)<=4*k+1:=by
 refine bl_le.2 ?_
 have h1:10^k<=16^k:=Nat.pow_le_pow_left (by decide) k
 have h2:(16:Nat)^k=2^(4*k):=by rw [Nat.pow_mul]
 have h3:(2:Nat)^(4*k)<2^(4*k+1):=Nat.pow_lt_pow_right (by decide) (by omega)
 omega
theorem rscale10 {N D:Nat}{vn vd:Value}{w:World}(x:Int)(hx:-12000<=x/\x<=12000)(h:NT 1001 N vn w)(h':NT 1001 D vd w)(hN:bl N<=16100)(hD:bl D<=100) :
  Calls Tryz.prog 71 #[vn,vd,.int .u64 10,.int .i64 x] w fun e w'=>∃ a b,e=.returned (.tuple #[a,b])/\NT 2001 (N*10^x.toNat) a w'/\NT 2001 (D*10^(-x).toNat) b w'/\Below w.heap.size w w':=by
 by_cases hp:0<=x
 ·have c79:=rpower10 x.toNat w (by omega)
  rw [show ((x.toNat:Nat):Int)=x by omega] at c79
  rw [show (-x).toNat=0 by omega,Nat.pow_zero,Nat.mul_one]
  have b1:=bl_mul N (10^x.toNat)
  have b2:=ten_bl x.toNat
  refine (rsc10_pos x vn vd (N*10^x.toNat) 2001 w hx hp (c79.mono fun e w' ⟨p,e1,e2,e3⟩=>⟨p,e1,e3,(rtimes_nt (by decide) (by decide) (h.next e3).nv e2).mono fun e w'' ⟨r,f1,f2,f3⟩=>⟨r,f1,f2.tight (by omega),f3⟩⟩)).mono fun e w' ⟨r,e1,e2,e3⟩=>⟨_,_,e1,e2,(h'.next e3).more (by decide),e3⟩
 ·have c79:=rpower10 (-x).toNat w (by omega)
  rw [show (((-x).toNat:Nat):Int)=-x by omega] at c79
  rw [show x.toNat=0 by omega,Nat.pow_zero,Nat.mul_one]
  have b1:=bl_mul D (10^(-x).toNat)
  have b2:=ten_bl (-x).toNat
  refine (rsc10_neg x vn vd (D*10^(-x).toNat) 2001 w hx (-x) rfl hp (c79.mono fun e w' ⟨p,e1,e2,e3⟩=>⟨p,e1,e3,(rtimes_nt (by decide) (by decide) (h'.next e3).nv e2).mono fun e w'' ⟨r,f1,f2,f3⟩=>⟨r,f1,f2.tight (by omega),f3⟩⟩)).mono fun e w' ⟨r,e1,e2,e3⟩=>⟨_,_,e1,(h.next e3).more (by decide),e2,e3⟩
attribute [local irreducible] W4 NT NV
end
end Go.Proofs.YtjfeaiaafbaobaaGreatDoor
