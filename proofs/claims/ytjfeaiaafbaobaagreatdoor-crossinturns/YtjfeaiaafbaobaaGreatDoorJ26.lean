/-
  Texts that the proof leans on.
-/
import Derived.Test.YtjfeaiaafbaobaaGreatDoorJ24
import Derived.Test.YtjfeaiaafbaobaaGreatDoorJ25
import Derived.Test.YtjfeaiaafbaobaaGreatDoorJ1
set_option maxHeartbeats 8000000
set_option linter.unusedVariables false
set_option linter.unusedSectionVars false
set_option linter.unusedSimpArgs false
set_option maxRecDepth 20000
namespace Go.Proofs.YtjfeaiaafbaobaaGreatDoor
open Go.RowKit
theorem rpack_bad (n:Int)(d:Dat)(w:World)(h:¬ binN n) :
  CB 69 #[.int .i64 n,d.v] w (.tuple #[Z4,.int .i64 1]):=by
 have c35:=fun w=>rbinary_any n w
 rw [decide_eq_false h] at c35
 obtain ⟨c,s,g,x,k⟩:=d
 unfold Dat.v
 dsimp only
 have hsm:=cell_set_map
 clear h
 go_enter Tryz.func69,Tryz.ntmps69
 go_wp2_with (go_at_call 12;refine (c35 _).mono ?_;rintro r w0 ⟨rfl,rfl⟩)
 exact bodyPost_ret (v:=.tuple #[Z4,.int .i64 1]) (by simp only [results,Tryz.results69];go_simp) rfl ⟨rfl,bgo⟩
theorem rpack_none (n:Int)(nm:ByteArray)(wd:Int)(f e:Nat)(l m:Int)(c x:Int)(s g:Bool)(k:Nat)(w:World)
  (c35:∀ w,CQ 12 #[.int .i64 n] w (.bool true))
  (c25:∀ w,CB 14 #[.int .i64 n] w (.tuple #[IV n nm wd f e l m,.int .i64 0]))
  (c36:∀ w,CB 125 #[IV n nm wd f e l m,DV c s g x k] w (.bool false)) :
  CB 69 #[.int .i64 n,DV c s g x k] w (.tuple #[Z4,.int .i64 3]):=by
 have hsm:=cell_set_map
 go_enter Tryz.func69,Tryz.ntmps69
 go_wp2_with (first
  | (go_at_call 12;refine (c35 _).mono ?_;rintro r w0 ⟨rfl,rfl⟩)
  | (go_at_call 14;refine (c25 _).mono ?_;rintro x w1 ⟨rfl,hb1⟩;obtain ⟨_,_,_,_,hA1,_⟩:=wz w hb1;obtain ⟨_,_⟩:=zf hb1 (w.heap.size+1);clear hb1)
  | (go_at_call 125;refine (c36 _).mono ?_;rintro x w2 ⟨rfl,hb2⟩;obtain ⟨_,_,_,_,hA2,_⟩:=wz w hb2;obtain ⟨_,_⟩:=zf hb2 (w.heap.size+1);obtain ⟨_,_⟩:=zf hb2 w1.heap.size;clear hb2))
 exact bodyPost_ret (v:=.tuple #[Z4,.int .i64 3]) (by simp only [results,Tryz.results69];go_simp) rfl ⟨rfl,bgo⟩
theorem rof_bin {n:Int}(hb:binN n)(w:World):CB 14 #[.int .i64 n] w (.tuple #[IV n (nameN n) (widthN n) (fN n) (eN n) (leastN n) (mostN n),.int .i64 0]):=by
 obtain ⟨hok,hb2,hpr,hex,hwd,hpy⟩:=bin_fields hb
 obtain ⟨hnum,hden⟩:=bin_more hb
 have c25:=rofv_any n w
 rw [show infoE n=0 from if_pos hok,hnum,hb2,hpr,hex,hden,hpy] at c25
 exact c25
theorem rpack_any (n:Int)(d:Dat)(w:World)(hk:d.k<2^256) :
  CB 69 #[.int .i64 n,d.v] w (.tuple #[A4 (pkV n d),.int .i64 (pkE n d)]):=by
 by_cases hb:binN n
 ·have hF:=bin_fm hb
  have c25:=fun w=>rof_bin hb w
  have c35:∀ w,CQ 12 #[.int .i64 n] w (.bool true):=fun w=>by
   have:=rbinary_any n w
   rw [decide_eq_true hb] at this
   exact this.mono fun _ _ ⟨h1,h2⟩=>⟨h1,h2.symm⟩
  have c36:=fun w=>ris_any n (nameN n) (widthN n) (fN n) (eN n) (leastN n) (mostN n) d w hF hk
  by_cases hi:isD (fN n) (leastN n) (mostN n) d
  ·rw [decide_eq_true hi] at c36
   have e1:pkE n d=0:=by unfold pkE;rw [if_pos hb,if_pos hi]
   have e2:pkV n d=pk (fN n) (eN n) (leastN n) d:=by unfold pkV;rw [if_pos ⟨hb,hi⟩]
   have h256:=pkV_256 n d
   rw [e2] at h256
   rw [e1,e2]
   clear e1 e2
   have hf:2<=fN n/\fN n<=240:=⟨hF.f2,hF.f240⟩
   have he:=hF.e15
   have hfe:=hF.fe
   have hpc:((2:Int)^eN n)=((2^eN n:Nat):Int):=by simp
   have hp:=pow_e hF.e2 hF.e15
   rw [hpc] at hp
   have hAll:(2:Int)^eN n-1=((2^eN n-1:Nat):Int):=by rw [hpc];omega
   have hl1:=hF.l1
   have hl0:=hF.l0
   have hm:=hF.m
   rw [hpc] at hm
   generalize fN n=f at *
   generalize eN n=e at *
   generalize leastN n=l at *
   generalize mostN n=m at *
   obtain ⟨c,s,g,x,k⟩:=d
   unfold Dat.v at *
   dsimp only at hk c36 ⊢
   have hBs:(if s then 2^(f+e) else 0)<2^256:=by
    cases s
    ·rw [if_neg (by decide)];decide
    ·exact Nat.pow_lt_pow_right (by decide) (by omega)
   have cS:s=true->∀ W v,NV 1 1 v W->CB 40 #[Z4,v,.int .i64 ((f:Int)+e)] W (A4 (if s then 2^(f+e) else 0)):=fun hs W v hv=>by
    have:=lay_any 0 1 (f+e) 1 v W (by decide) (by decide) (by omega) hv
    rw [Z4_eq,Int.natCast_add,Nat.zero_add,Nat.one_mul] at this
    rw [hs,if_pos rfl];exact this
   have hB0:s=false->∀ i,W4 (if s then 2^(f+e) else 0) i=0:=fun hs i=>by rw [hs,if_neg (by decide),W4_zero]
   have hNv:val (lowW (W4 k) 4) 4=(k:Int):=by
    rw [val_congr (x:=lowW (W4 k) 4) (y:=W4 k) 4 (fun i hi=>lowW_lt hi),W4_val4 hk]
   unfold pk at h256 ⊢
   dsimp only at h256 ⊢
   rcases hi with ⟨hc,hg,hk1,hx1,hx2,hx3⟩|⟨hc,hg,hx,hk0⟩|⟨hc,hx,hk1,hg⟩
   ·dsimp only at hc hg hk1 hx1 hx2 hx3
    subst hc
    rw [if_pos rfl] at h256 ⊢
    generalize (if s then 2^(f+e) else 0)=Bs at *
    have hL:=len4_le (k:=f) hk
    have hpf:2^(f+1)=2^f+2^f:=by rw [Nat.pow_succ];omega
    have hFr:k%2^f<2^f:=Nat.mod_lt _ (Nat.two_pow_pos _)
    have hFk:k%2^f<=k:=Nat.mod_le _ _
    have c26:∀ W,CE 46 #[A4 k,.int .i64 0,.int .i64 f] W (NV 19 (k%2^f)):=fun W=>by
     have:=field_any k 0 f W hk (by decide) (by omega)
     rw [show ((0:Nat):Int)=0 from rfl,Nat.pow_zero,Nat.div_one] at this
     exact this.mono fun _ _ ⟨r,h1,h2,h3⟩=>⟨r,h1,h2.nv,h3⟩
    have cF:∀ W v,NV 19 (k%2^f) v W->CB 40 #[A4 Bs,v,.int .i64 0] W (A4 (Bs+k%2^f)):=fun W v hv=>by
     have:=lay_any Bs (k%2^f) 0 19 v W hBs (by decide) (by decide) hv
     rw [show ((0:Nat):Int)=0 from rfl,Nat.pow_zero,Nat.mul_one] at this
     exact this
    have c38:∀ W,Num W (some ⟨w.heap.size,4,none⟩) 4 4 (lowW (W4 k) 4)->CQ 78 #[.slice (some ⟨w.heap.size,4,none⟩) 4 4] W (.int .i64 (lenL (W4 k) 4)):=fun W hN=>by
     have:=rlen_num (some ⟨w.heap.size,4,none⟩) 4 4 (lowW (W4 k) 4) W (by decide) hN
     rw [lenL_low] at this
     exact this
    have hmul:((x-l).toNat+1)*2^f=(x-l).toNat*2^f+2^f:=by rw [Nat.add_mul,Nat.one_mul]
    refine rpack1 n _ _ f e (2^e-1) _ Bs l m x s g k w hf he hAll c35 c25 cS hB0 c36 (Bs+k%2^f) (k%2^f) ((x-l).toNat+1) (lenL (W4 k) 4) (by omega) (by omega) (by omega) c38 ?_ c26 cF ?_
    ·intro hlt W hN
     have hkf:k<2^f:=hL.1 (by omega)
     obtain rfl:x=l:=by omega
     have:=lay_off Bs k 0 4 w.heap.size 4 4 _ W hBs (by decide) (by decide) hN hNv
     rw [show ((0:Nat):Int)=0 from rfl,Nat.pow_zero,Nat.mul_one] at this
     rw [Int.sub_self,Int.toNat_zero,Nat.zero_mul,Nat.zero_add,Nat.add_comm k]
     exact this
    ·intro hlt W v hv
     have hkf:2^f<=k:=by
      rcases Nat.lt_or_ge k (2^f) with hh|hh
      ·have:=hL.2 hh;omega
      ·exact hh
     have hke:k%2^f+2^f=k:=by
      rw [Nat.mod_eq_sub_mod hkf,Nat.mod_eq_of_lt (by omega)];omega
     have:=lay_any (Bs+k%2^f) ((x-l).toNat+1) f 1 v W (by omega) (by decide) (by omega) hv
     rw [show Bs+k%2^f+((x-l).toNat+1)*2^f=(x-l).toNat*2^f+k+Bs by omega] at this
     exact this
   ·dsimp only at hc hg hx hk0
    subst hc
    rw [if_neg (by decide),if_pos rfl,Nat.add_zero] at h256 ⊢
    generalize (if s then 2^(f+e) else 0)=Bs at *
    refine rpack2 n _ _ f e (2^e-1) _ Bs l m x s g k w hf he hAll c35 c25 cS hB0 c36 fun W v hv=>?_
    have:=lay_any Bs (2^e-1) f 1 v W hBs (by decide) (by omega) hv
    rw [Nat.add_comm Bs] at this
    exact this
   ·dsimp only at hc hx hk1 hg
    subst hc
    rw [if_neg (by decide),if_neg (by decide)] at h256 ⊢
    generalize (if s then 2^(f+e) else 0)=Bs at *
    generalize hA:(2^e-1)*2^f=A at *
    have hlt:A+k+Bs<2^256:=by cases g<;>simp at h256<;>omega
    refine rpack3 n _ _ f e (2^e-1) _ Bs l m x s g k w hf he hAll c35 c25 cS hB0 c36 (Bs+A) (Bs+A+k) ?_ ?_ ?_ ?_
    ·intro W v hv
     have:=lay_any Bs (2^e-1) f 1 v W hBs (by decide) (by omega) hv
     rw [hA] at this
     exact this
    ·intro W hN
     have:=lay_off (Bs+A) k 0 4 w.heap.size 4 4 _ W (by omega) (by decide) (by decide) hN hNv
     rw [show ((0:Nat):Int)=0 from rfl,Nat.pow_zero,Nat.mul_one] at this
     exact this
    ·intro hg W v hv
     have:=lay_any (Bs+A+k) 1 (f-1) 1 v W (by omega) (by decide) (by omega) hv
     rw [show ((f-1:Nat):Int)=(f:Int)-1 by omega,Nat.one_mul] at this
     subst hg
     rw [if_neg (by decide),show A+(k+2^(f-1))+Bs=Bs+A+k+2^(f-1) by omega]
     exact this
    ·intro hg
     subst hg
     rw [if_pos rfl];omega
  ·rw [decide_eq_false hi] at c36
   have e1:pkE n d=3:=by unfold pkE;rw [if_pos hb,if_neg hi]
   have e2:pkV n d=0:=by unfold pkV;exact if_neg fun h=>hi h.2
   rw [e1,e2,Z4_eq]
   exact rpack_none n _ _ _ _ _ _ _ _ _ _ _ w c35 c25 c36
 ·have e1:pkV n d=0:=if_neg fun h=>hb h.1
  have e2:pkE n d=1:=if_neg hb
  rw [e1,e2,Z4_eq]
  exact rpack_bad n d w hb
section
theorem nv_one_drew {W:World}{g V:Nat}{vi:Int}(hg:g=W.heap.size)(hv:vi=(V:Int))(hb:V<18446744073709551616):NV 1 V (.slice (some ⟨g,0,none⟩) 1 1) (W.alloc (.cells #[.int .u64 vi] 22)).drew :=
 (nv_one hg hv hb).next (Below.refl _ _).drew
attribute [local irreducible] W4 NT NV
end
section
attribute [local irreducible] W4 NT NV
theorem rlargest_ok (n:Int)(nm:ByteArray)(wd:Int)(f e P K R:Nat)(l m Er:Int)(s:Bool)(w:World)(hP:1<=P)
  (c35:∀ w,CQ 12 #[.int .i64 n] w (.bool true))
  (c25:∀ w,CB 14 #[.int .i64 n] w (.tuple #[IV n nm wd f e l m,.int .i64 0]))
  (c30:∀ w,CE 17 #[.int .u64 2,.int .i64 ((f:Int)+1)] w (NV K P))
  (c41:∀ W v v',NV K P v W->NV 1 1 v' W->CE 79 #[v,v'] W (NV (K+1) (P-1)))
  (c13:∀ w,CB 69 #[.int .i64 n,DV 1 s false m (P-1)] w (.tuple #[A4 R,.int .i64 Er]))
  : CB 129 #[.int .i64 n,.bool s] w (.tuple #[A4 R,.int .i64 Er]):=by
 have hsm:=cell_set_map
 have hds:∀ W:World,W.drew.heap.size=W.heap.size:=fun W=>by simp
 go_enter Tryz.func129,Tryz.ntmps129
 go_wp2_with (first
  | (go_at_call 12;refine (c35 _).mono ?_;rintro r w0 ⟨rfl,rfl⟩)
  | (go_at_call 14;refine (c25 _).mono ?_;rintro x w1 ⟨rfl,hb1⟩;obtain ⟨_,_,_,_,hA1,_⟩:=wz w hb1;clear hb1))
 have hm0:w.heap.size<w1.heap.size+1+1:=by omega
 have hm2:w.heap.size<w1.heap.size+2:=by omega
 go_region_with (first
  | (go_at_call 17;refine (c30 _).mono ?_;rintro r w3 ⟨v3,rfl,h3,hb3⟩;(try have hone:NV 1 1 (.slice (some ⟨w1.heap.size+1,0,none⟩) 1 1) w3:=(nv_one_drew (by simp) rfl (by decide)).next hb3);obtain ⟨_,_,_,_,hA3,_⟩:=wz w hb3;obtain ⟨_,_⟩:=zf hb3 w1.heap.size;clear hb3)
  | (go_at_call 79;refine (c41 _ _ _ (by first|exact h3|exact h3.next bgo) (by first|exact hone|exact nv_one (by simp) rfl (by decide))).mono ?_;rintro r w4 ⟨v4,rfl,h4,hb4⟩;obtain ⟨_,_,_,_,hA4,_⟩:=wz w hb4;obtain ⟨_,_⟩:=zf hb4 w1.heap.size;clear hb4)
  | (go_at_call 15;refine (bits_nv h4).mono ?_;rintro r w5 ⟨rfl,hb5⟩;obtain ⟨_,_,_,_,hA5,_⟩:=wz w hb5;obtain ⟨_,_⟩:=zf hb5 w1.heap.size;clear hb5)
  | (go_at_call 69;refine (c13 _).mono ?_;rintro r w6 ⟨rfl,hb6⟩;obtain ⟨_,_,_,_,hA6,_⟩:=wz w hb6;obtain ⟨_,_⟩:=zf hb6 w1.heap.size;clear hb6))
 all_goals (
  go_wp2_with fail
  exact bodyPost_ret (v:=.tuple #[A4 R,.int .i64 Er]) (by simp only [results,Tryz.results129];go_simp) rfl ⟨rfl,bgo⟩)
end
end Go.Proofs.YtjfeaiaafbaobaaGreatDoor
