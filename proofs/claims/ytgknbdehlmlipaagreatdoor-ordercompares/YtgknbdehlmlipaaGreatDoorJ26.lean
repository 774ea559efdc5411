/-
  Texts that the proof leans on.
-/
import Derived.Test.YtgknbdehlmlipaaGreatDoorJ21
import Derived.Test.YtgknbdehlmlipaaGreatDoorJ14
import Derived.Test.YtgknbdehlmlipaaGreatDoorJ19
import Derived.Test.YtgknbdehlmlipaaGreatDoorJ2
import Derived.Test.YtgknbdehlmlipaaGreatDoorJ20
import Derived.Test.YtgknbdehlmlipaaGreatDoorJ17
set_option maxHeartbeats 8000000
set_option linter.unusedVariables false
set_option linter.unusedSectionVars false
set_option linter.unusedSimpArgs false
set_option maxRecDepth 20000
namespace Go.Proofs.YtgknbdehlmlipaaGreatDoor
open Go.RowKit
section
structure C4 (g X:Nat) (w:World):Prop where
 lt:g<w.heap.size
 c0:w.cell? ⟨g,0,none⟩=some (.int .u64 (W4 X 0))
 c1:w.cell? ⟨g,1,none⟩=some (.int .u64 (W4 X 1))
 c2:w.cell? ⟨g,2,none⟩=some (.int .u64 (W4 X 2))
 c3:w.cell? ⟨g,3,none⟩=some (.int .u64 (W4 X 3))
 f0:w.frozen? ⟨g,0,none⟩=false
 f1:w.frozen? ⟨g,1,none⟩=false
 f2:w.frozen? ⟨g,2,none⟩=false
 f3:w.frozen? ⟨g,3,none⟩=false
theorem C4.next {g X:Nat}{w w':World}(h:C4 g X w)(hb:Below w.heap.size w w'):C4 g X w' :=
 ⟨Nat.lt_of_lt_of_le h.lt hb.size,(hb.cell (p:=⟨g,0,none⟩) h.lt).trans h.c0,(hb.cell (p:=⟨g,1,none⟩) h.lt).trans h.c1,(hb.cell (p:=⟨g,2,none⟩) h.lt).trans h.c2,(hb.cell (p:=⟨g,3,none⟩) h.lt).trans h.c3,
  (hb.frozen (p:=⟨g,0,none⟩) h.lt).trans h.f0,(hb.frozen (p:=⟨g,1,none⟩) h.lt).trans h.f1,(hb.frozen (p:=⟨g,2,none⟩) h.lt).trans h.f2,(hb.frozen (p:=⟨g,3,none⟩) h.lt).trans h.f3⟩
theorem C4.new (w:World)(t:TypeId):C4 w.heap.size 0 (w.alloc (.cells #[.int .u64 0,.int .u64 0,.int .u64 0,.int .u64 0] t)):=by
 refine ⟨by simp,?_,?_,?_,?_,?_,?_,?_,?_⟩<;>first|(rw [W4_zero];go_simp)|go_simp
abbrev put4C (w:World)(g X:Nat):World:=(((w.setCell ⟨g,0,none⟩ (.int .u64 (W4 X 0))).setCell ⟨g,1,none⟩ (.int .u64 (W4 X 1))).setCell ⟨g,2,none⟩ (.int .u64 (W4 X 2))).setCell ⟨g,3,none⟩ (.int .u64 (W4 X 3))
theorem C4.put {g X Y:Nat}{w:World}(h:C4 g X w):C4 g Y (put4C w g Y):=by
 have hsm:=cell_set_map
 obtain ⟨h0,h1,h2,h3,h4,h5,h6,h7,h8⟩:=h
 refine ⟨by simp;exact h0,?_,?_,?_,?_,?_,?_,?_,?_⟩<;>go_simp
theorem put4C_upd (w:World)(g X:Nat):Upd g w (put4C w g X):=((((Upd.refl g w).set 0 _).set 1 _).set 2 _).set 3 _
theorem NT.upd {K V g b k c:Nat}{w w':World}(h:NT K V (.slice (some ⟨b,0,none⟩) k c) w)(hne:b≠g)(hU:Upd g w w'):NT K V (.slice (some ⟨b,0,none⟩) k c) w':=by
 obtain ⟨g',k',c',z,e,hk,hN,hv,hs⟩:=h
 cases e
 exact ⟨b,k,c,z,rfl,hk,hU.num hne hN,hv,hs⟩
theorem NT.lt {K V b k c:Nat}{w:World}(h:NT K V (.slice (some ⟨b,0,none⟩) k c) w):b<w.heap.size:=by
 obtain ⟨g',k',c',z,e,hk,hN,hv,hs⟩:=h
 cases e
 rcases hN.2.2.2.2 with ⟨h,_⟩|⟨b',off',h,hbs,_⟩
 ·cases h
 ·cases h;exact hbs
theorem nt_thou {W:World}{g:Nat}(hg:g=W.heap.size):NT 1 1000 (.slice (some ⟨g,0,none⟩) 1 1) (W.alloc (.cells #[.int .u64 1000] 22)):=by
 subst hg
 exact ⟨_,1,1,oneW 1000,rfl,Nat.le_refl _,num_one W 1000 (by omega),by simp [val,oneW],by simp [sizeL,oneW]⟩
theorem nv_dec {W:World}{g V:Nat}{vi:Int}(hg:g=W.heap.size)(hv:vi=(V:Int))(hb:V<18446744073709551616):NV 1 V (.slice (some ⟨g,0,none⟩) 1 1) (W.alloc (.cells #[.int .u64 vi] 22)):=by
 subst hg hv
 exact ⟨_,1,1,oneW V,rfl,Nat.le_refl _,num_one W V (by omega),by simp [val,oneW]⟩
attribute [local irreducible] W4 NT NV
theorem rnat13 (k:Nat)(w:World)(hk:k<2^256) :
  Calls Tryz.prog 48 #[A4 k] w fun r w'=>∃ g n cap,r=.returned (.slice (some ⟨g,0,none⟩) n cap)/\w.heap.size<g/\NT 4 k (.slice (some ⟨g,0,none⟩) n cap) w'/\Below w.heap.size w w':=by
 have hn0:=box_nv (w0:=w) (B:=k) (t:=24) hk (Below.refl _ _)
 have c49:Calls Tryz.prog 56 #[.slice (some ⟨w.heap.size,0,none⟩) 4 4] (w.alloc (.cells #[.int .u64 (W4 k 0),.int .u64 (W4 k 1),.int .u64 (W4 k 2),.int .u64 (W4 k 3)] 24)) fun r w'=>∃ g n cap,r=.returned (.slice (some ⟨g,0,none⟩) n cap)/\w.heap.size<g/\NT 4 k (.slice (some ⟨g,0,none⟩) n cap) w'/\Below (w.alloc (.cells #[.int .u64 (W4 k 0),.int .u64 (W4 k 1),.int .u64 (W4 k 2),.int .u64 (W4 k 3)] 24)).heap.size (w.alloc (.cells #[.int .u64 (W4 k 0),.int .u64 (W4 k 1),.int .u64 (W4 k 2),.int .u64 (W4 k 3)] 24)) w':=by
  unfold NV at hn0
  obtain ⟨g,n,cap,z,e,hn,hN,hv⟩:=hn0
  cases e
  refine (trimf_any _ 4 4 z _ (by decide) hN).mono ?_
  rintro r w' ⟨g,cap,rfl,hN',hB,hG⟩
  refine ⟨g,_,cap,rfl,by simp at hG;omega,?_,hB⟩
  unfold NT
  exact ⟨g,_,cap,z,rfl,sizeL_le _ _,hN',by rw [val_bare,hv],sizeL_sizeL _ _⟩
 have hb0:=below1 w (.cells #[.int .u64 (W4 k 0),.int .u64 (W4 k 1),.int .u64 (W4 k 2),.int .u64 (W4 k 3)] 24)
 clear hn0
 unfold A4
 go_enter Tryz.func48,Tryz.ntmps48
 go_wp2_with (go_at_call 56;refine c49.mono ?_;rintro r w1 ⟨g,n,cap,rfl,hg,hv,hb1⟩)
 go_ret
 exact ⟨g,n,cap,rfl,hg,hv,hb0.trans (hb1.mono hb0.size)⟩
theorem rpck_bad (C:Nat)(n:Int)(h:n<0∨11<n)(w:World):CB 64 #[A4 C,.int .i64 n] w (.tuple #[A4 0,.int .i64 1]):=by
 rw [Z4_eq]
 have hsm:=cell_set_map
 by_cases h0:n<0
 ·go_enter Tryz.func64,Tryz.ntmps64
  go_wp2
  exact bodyPost_ret (by simp only [results,Tryz.results64];go_simp) rfl ⟨rfl,bgo⟩
 ·have h1:11<n:=by omega
  go_enter Tryz.func64,Tryz.ntmps64
  go_wp2
  exact bodyPost_ret (by simp only [results,Tryz.results64];go_simp) rfl ⟨rfl,bgo⟩
section
variable (C c:Nat)(w:World)(A P D:Nat->Nat)(hc:c<=11)
 (c22:∀ W,Calls Tryz.prog 48 #[A4 C] W fun r w'=>∃ g n cap,r=.returned (.slice (some ⟨g,0,none⟩) n cap)/\W.heap.size<g/\NT 4 (A 0) (.slice (some ⟨g,0,none⟩) n cap) w'/\Below W.heap.size W w')
 (c23:Hid (∀ i,i<c->∀ W vn vd,NT 4 (A i) vn W->NT 1 1000 vd W->Calls Tryz.prog 65 #[vn,vd] W fun r w'=>∃ g k cap v,r=.returned (.tuple #[.slice (some ⟨g,0,none⟩) k cap,v])/\W.heap.size<=g/\NT 4 (A (i+1)) (.slice (some ⟨g,0,none⟩) k cap) w'/\NT 1 (A i%1000) v w'/\Below W.heap.size W w'))
 (c24:Hid (∀ i W v,NT 1 (A i%1000) v W->CQ 53 #[v] W (.int .i64 ((A i%1000:Nat):Int))))
 (c10:Hid (∀ i W,CB 90 #[.int .i64 ((A i%1000:Nat):Int)] W (.tuple #[.int .i64 (D i:Int),.int .i64 0])))
 (hD:Hid (∀ i,D i<1024))
 (c25:Hid (∀ i,i<c->∀ W v,NV 1 (D i) v W->CB 63 #[A4 (P i),v,.int .i64 (10*(i:Int))] W (A4 (P (i+1)))))
 (hP:P 0=0)
include hc c22 c23 c24 c10 hD c25 hP
theorem rpck_w (R:Nat)(E:Int)(hR:(A c=0/\R=P c/\E=0)∨(A c≠0/\R=0/\E=3)):CB 64 #[A4 C,.int .i64 (c:Int)] w (.tuple #[A4 R,.int .i64 E]):=by
 have h0:¬ (c:Int)<0:=by omega
 have h9:¬ 11<(c:Int):=by omega
 have hsm:=cell_set_map
 go_enter Tryz.func64,Tryz.ntmps64
 go_wp2_with (go_at_call 48;refine (c22 _).mono ?_;rintro r w1 ⟨ga,na,ca,rfl,hga,hna,hb1⟩;obtain ⟨_,_,_,_,hA1,_⟩:=wz w hb1;obtain ⟨_,_⟩:=zf hb1 (w.heap.size+1);clear hb1)
 go_loopw [6,9,10,11,12,8,23] (fun t6 _ _ _ _ _ t wr=>∃ (i g k cap:Nat),i<=c/\t=.int .i64 (i:Int)/\t6=.slice (some ⟨g,0,none⟩) k cap/\g≠w1.heap.size/\NT 4 (A i) (.slice (some ⟨g,0,none⟩) k cap) wr/\C4 w1.heap.size (P i) wr/\C4 (w.heap.size+1) 0 wr/\Below w.heap.size w wr) (fun _ _ _ _ _ _ t _=>c-(intOf t).toNat)
 case atStart =>
  have hga1:=hna.lt
  exact ⟨0,ga,na,ca,Nat.zero_le _,rfl,rfl,by omega,hna.next (below1 _ _),by rw [hP];exact C4.new _ _,by refine ⟨by simp;omega,?_,?_,?_,?_,?_,?_,?_,?_⟩<;>first|(rw [W4_zero];go_simp)|go_simp,bgo⟩
 case round =>
  obtain ⟨i,g,k,cap,hi,rfl,rfl,hg,hn,h4,h5,hbw⟩:=hrel
  have hl4:=h4.lt
  have hl5:=h5.lt
  have hl6:w.heap.size<wr.heap.size:=by omega
  have hge:w.heap.size<=w1.heap.size:=hA1.size
  obtain ⟨_,p0,p1,p2,p3,f0,f1,f2,f3⟩:=id h4
  obtain ⟨_,q0,q1,q2,q3,e0,e1,e2,e3⟩:=id h5
  by_cases hic:i<c
  ·have hl:(i:Int)<(c:Int):=by omega
   have d23:=c23.out i hic
   have d24:=c24.out i
   have d10:=c10.out i
   have dD:=hD.out i
   have d25:=c25.out i hic
   have dd0:(0:Int)<=(D i:Int):=by omega
   have dd1:(D i:Int)<=1023:=by omega
   clear hR
   generalize D i=Di at *
   generalize A i%1000=Xi at *
   generalize P i=Pi at *
   go_wp2_with (first
    | (go_at_call 65;refine (d23 _ _ _ (hn.next (below1 _ _)) (nt_thou rfl)).mono ?_;rintro r w2 ⟨g2,k2,cap2,v2,rfl,hg2,hn2,hr2,hb2⟩;have hq2:=(h4.next (below1 _ _)).next hb2;have ho2:=(h5.next (below1 _ _)).next hb2;obtain ⟨_,_,_,_,hA2,_⟩:=wz w hb2 w1.heap.size;obtain ⟨_,_⟩:=zf hb2 w.heap.size;obtain ⟨_,_⟩:=zf hb2 (w.heap.size+1);clear hb2)
    | (go_at_call 53;refine (d24 _ _ hr2).mono ?_;rintro r w3 ⟨rfl,rfl⟩)
    | (go_at_call 90;refine (d10 _).mono ?_;rintro r w4 ⟨rfl,hb4⟩;have hn4:=hn2.next hb4;have hq4:=hq2.next hb4;have ho4:=ho2.next hb4;obtain ⟨_,_,_,_,hA4,_⟩:=wz w hb4 w1.heap.size;obtain ⟨_,_⟩:=zf hb4 w.heap.size;obtain ⟨_,_⟩:=zf hb4 (w.heap.size+1);clear hb4)
    | (go_at_call 63;refine (d25 _ _ (nv_dec rfl rfl (by omega))).mono ?_;rintro r w5 ⟨rfl,hb5⟩;have hn5:=(hn4.next (below1 _ _)).next hb5;have hq5:=(hq4.next (below1 _ _)).next hb5;have ho5:=(ho4.next (below1 _ _)).next hb5;obtain ⟨_,_,_,_,hA5,_⟩:=wz w hb5 w1.heap.size;obtain ⟨_,_⟩:=zf hb5 w.heap.size;obtain ⟨_,_⟩:=zf hb5 (w.heap.size+1);clear hb5))
   have hgs:w1.heap.size<g2:=by simp at hg2;omega
   go_roundw
   case rel=>exact ⟨i+1,g2,k2,cap2,by omega,by go_num,rfl,by omega,hn5.upd (by omega) (put4C_upd _ _ _),hq5.put,⟨by simp;exact ho5.lt,by go_simp,by go_simp,by go_simp,by go_simp,by go_simp,by go_simp,by go_simp,by go_simp⟩,bgo⟩
   case measure=>simp [intOf];omega
  ·have hl:¬ (i:Int)<(c:Int):=by omega
   obtain rfl:i=c:=by omega
   obtain ⟨g',k',cap',e',hk',hz⟩:=hn.zero
   cases e'
   rcases hR with ⟨hA0,rfl,rfl⟩|⟨hA0,rfl,rfl⟩
   ·obtain rfl:k=0:=hz.2 hA0
    clear hz hA0 hn hk'
    go_wp2
    exact bodyPost_ret (by simp only [results,Tryz.results64];go_simp) rfl ⟨rfl,bgo⟩
   ·have hk0:(0:Int)<(k:Int):=by
     have:k≠0:=fun e=>hA0 (hz.1 e)
     omega
    clear hz hA0 hn hk'
    go_wp2
    exact bodyPost_ret (v:=.tuple #[A4 0,.int .i64 3]) (by rw [Z4_eq];simp only [results,Tryz.results64];go_simp) rfl ⟨rfl,bgo⟩
end
theorem rpck_any (C:Nat)(n:Int)(w:World)(hC:C<2^256):CB 64 #[A4 C,.int .i64 n] w (.tuple #[A4 (dPv C n),.int .i64 (dPe C n)]):=by
 unfold dPv dPe
 by_cases h:0<=n/\n<=11
 ·obtain ⟨c,rfl⟩:=Int.eq_ofNat_of_zero_le h.1
  have hc:c<=11:=by omega
  rw [if_pos h,if_pos h,Int.toNat_natCast]
  refine rpck_w C c w (fun i=>C/1000^i) (fun i=>dlP i C) (fun i=>dlE (C/1000^i%1000)) hc (fun W=>?_) (fun i hi W vn vd h1 h2=>?_) (fun i W v h1=>?_) (fun i W=>?_) (fun i=>?_) (fun i hi W v h1=>?_) rfl _ _ ?_
  ·have:=rnat13 C W hC
   simpa only [Nat.pow_zero,Nat.div_one] using this
  ·have:=over_new (by decide) h1 h2 (by decide)
   rw [Nat.div_div_eq_div_mul,← Nat.pow_succ] at this
   exact this
  ·refine (number_nv h1.nv (by decide) (by have:=Nat.mod_lt (C/1000^i) (show 0<1000 by decide);omega)).mono ?_
   rintro r w' ⟨rfl,rfl⟩
   exact ⟨rfl,rfl⟩
  ·exact enc_v _ (Nat.mod_lt _ (by decide)) W
  ·exact (dl_back _ (Nat.mod_lt _ (by decide))).2
  ·have:=lay_any (dlP i C) (dlE (C/1000^i%1000)) (10*i) 1 v W (dlP_256 i C (by omega)) (by decide) (by omega) h1
   rw [show ((10*i:Nat):Int)=10*(i:Int) by omega,Nat.pow_mul,show (2:Nat)^10=1024 from rfl,← dlP_snoc] at this
   exact this
  ·by_cases hq:C<1000^c
   ·rw [if_pos hq,if_pos hq]
    exact Or.inl ⟨Nat.div_eq_of_lt hq,rfl,rfl⟩
   ·rw [if_neg hq,if_neg hq]
    refine Or.inr ⟨?_,rfl,rfl⟩
    have:=(Nat.div_pos_iff (a:=C) (b:=1000^c)).2 ⟨Nat.pow_pos (by decide),by omega⟩
    omega
 ·rw [if_neg h,if_neg h]
  exact rpck_bad C n (by omega) w
end
section
theorem val_nought:∀ M,val (fun _=>0) M=0:=fun M=>by
 induction M with
 | zero=>rfl
 | succ M ih=>simp only [val];rw [ih];simp
def NN (K X:Nat)(v:Value)(w:World):Prop:=(v=.slice none 0 0/\X=0)∨NT K X v w
theorem NN.next {K X:Nat}{v:Value}{w w':World}(h:NN K X v w)(hb:Below w.heap.size w w'):NN K X v w':=by
 rcases h with h|h
 ·exact Or.inl h
 ·exact Or.inr (h.next hb)
theorem trim13 {K V:Nat}{v:Value}{w:World}(hK:K<1000000)(h:NV K V v w):Calls Tryz.prog 56 #[v] w fun r w'=>∃ v',r=.returned v'/\NT K V v' w'/\Below w.heap.size w w':=by
 obtain ⟨g,n,cap,z,rfl,hn,hN,hv⟩:=h
 refine (trimf_any _ n cap z _ (by omega) hN).mono ?_
 rintro r w' ⟨g,cap,rfl,hN',hB,hG⟩
 have:=sizeL_le z n
 exact ⟨_,rfl,⟨g,_,cap,z,rfl,by omega,hN',by rw [val_bare,hv],sizeL_sizeL _ _⟩,hB⟩
theorem times_none (g:Nat)(w:World):CE 24 #[.slice none 0 0,.slice (some ⟨g,0,none⟩) 1 1] w (NT 2 0):=by
 have hmk:=fun w=>make_any 2 2 rfl (by omega) w
 have hNt:NV 2 0 (.slice (some ⟨w.heap.size,0,none⟩) 2 2) (w.alloc (.cells (arrOf (fun _=>0) 2) 22)):=by
  refine ⟨_,2,2,fun _=>0,rfl,Nat.le_refl _,num_of_block (by omega) (fun _=>⟨Int.le_refl _,show (0:Int)<=_ by decide⟩) (fun _ _=>rfl) (arrOf_size _ _) (fun j h=>arrOf_get _ _ _ _),?_⟩
  rw [val_nought]
  rfl
 have c40:=trim13 (by decide) hNt
 have hb0:=below1 w (.cells (arrOf (fun _=>0) 2) 22)
 clear hNt
 generalize arrOf (fun _=>0) 2=zz at *
 go_enter Tryz.func24,Tryz.ntmps24
 go_wp2
 go_loopw [22] (fun t22 wr=>t22=.int .i64 0/\wr=w.alloc (.cells zz 22)) (fun _ _=>0)
 case atStart=>exact ⟨rfl,rfl⟩
 case round =>
  obtain ⟨rfl,rfl⟩:=hrel
  go_wp2_with (go_at_call 56;refine c40.mono ?_;rintro r w1 ⟨v1,rfl,hv1,hb1⟩)
  go_ret
  exact ⟨v1,rfl,hv1,hb0.trans (hb1.mono hb0.size)⟩
theorem times13 {K X g:Nat}{v:Value}{w:World}(hK:K<1000)(h:NN K X v w)(h':NT 1 1000 (.slice (some ⟨g,0,none⟩) 1 1) w):CE 24 #[v,.slice (some ⟨g,0,none⟩) 1 1] w (NT (K+2) (X*1000)):=by
 rcases h with ⟨rfl,rfl⟩|h
 ·refine (times_none g w).mono ?_
  rintro r w' ⟨v,rfl,⟨g1,k1,c1,z1,rfl,hk1,hN1,hv1,hs1⟩,hb⟩
  exact ⟨_,rfl,⟨g1,k1,c1,z1,rfl,by omega,hN1,by rw [hv1],hs1⟩,hb⟩
 ·obtain ⟨ga,k,c,z,rfl,hk,hN,hz,_⟩:=h
  obtain ⟨gb,k2,c2,z2,e,hk2,hN2,hz2,_⟩:=h'
  cases e
  refine (times_tr ga 0 k c g 0 1 1 z z2 w (by omega) (by omega) hN hN2).mono fun e w' ⟨g3,k3,cap3,z3,e1,hk3,hN3,hv3,hB,ht⟩=>⟨_,e1,⟨g3,k3,cap3,z3,rfl,by omega,hN3,?_,ht⟩,hB⟩
  have:=val_more hN3.2.2.2.1 (k+1+1) hk3
  rw [hv3,hz,hz2] at this
  rw [← this]
  simp
theorem add13 {K K' X Y:Nat}{v v':Value}{w:World}(hK:K<=100000)(hK':K'<=100000)(h:NT K X v w)(h':NV K' Y v' w):CE 21 #[v,v'] w (NT (K+K'+1) (X+Y)):=by
 obtain ⟨a,k,c,z,rfl,hk,hN,hz,_⟩:=h
 obtain ⟨a',k',c',z',rfl,hk',hN',hz'⟩:=h'
 refine (radd_vt _ _ k c k' c' z z' w (by omega) (by omega) hN hN').mono fun r w' ⟨g,k2,cap,y,e1,e2,e3,e4,e5,e6⟩=>⟨_,e1,⟨g,k2,cap,y,rfl,by omega,e3,?_,e6⟩,e5⟩
 rw [e4,hz,hz']
 omega
theorem bits_numN (a:Option Addr)(k cap:Nat)(z:Nat->Int)(w:World)(h:Num w a k cap z) :
  CB 28 #[.slice a k cap] w (.agg (arrOf z 4)):=by
 have hw:=fun (i:Nat) (o1 o2:Obj)=>word_any a k cap i z ((w.alloc o1).alloc o2) ((h.next (below1 w _)).next (below1 _ _))
 clear h
 go_enter Tryz.func28,Tryz.ntmps28
 go_wp2
 go_loopw [4,5] (fun u4 i wr=>∃ (j:Nat) (ss:Array Value),j<=4/\i=.int .i64 j/\ss.size=4/\(∀ q h,ss[q]'h=Value.int .u64 (if q<j then z q else 0))/\wr=(w.alloc (.cells #[.int .u64 0,.int .u64 0,.int .u64 0,.int .u64 0] 24)).alloc (.cells ss 24)) (fun _ i _=>4-(intOf i).toNat)
 case atStart=>exact ⟨0,_,Nat.zero_le _,rfl,rfl,by intro q h;have h':q<4:=h;match q,h' with|0,_=>rfl|1,_=>rfl|2,_=>rfl|3,_=>rfl,rfl⟩
 case round =>
  obtain ⟨j,ss,hj,rfl,hsz,hss,rfl⟩:=hrel
  by_cases h4:j<4
  ·have h4i:(j:Int)<4:=by omega
   have h4s:j<ss.size:=by omega
   have hsk:ss[j]?=some (.int .u64 0):=by rw [Array.getElem?_eq_getElem h4s,hss j h4s,if_neg (by omega)]
   have HR:Hid (∀ (i:Nat) (h:i<(ss.setIfInBounds j (.int .u64 (z j))).size),(ss.setIfInBounds j (.int .u64 (z j)))[i]'h=Value.int .u64 (if i<j+1 then z i else 0)):=set_next hss
   have hwj:=hw j (.cells #[.int .u64 0,.int .u64 0,.int .u64 0,.int .u64 0] 24) (.cells ss 24)
   clear hss hw
   go_wp2_with (go_at_call 55;refine hwj.mono ?_;rintro e w' ⟨rfl,rfl⟩)
   go_roundw
   case rel=>exact ⟨j+1,ss.setIfInBounds j (.int .u64 (z j)),by omega,by go_num,by simp [hsz],HR.out,rfl⟩
   case measure=>simp [intOf];omega
  ·obtain rfl:j=4:=by omega
   have hss':∀ q h,ss[q]'h=Value.int .u64 (z q):=by
    intro q h;rw [hss q h,if_pos (by omega)]
   clear hss hw
   go_wp2
   exact bodyPost_ret (v:=.agg (arrOf z 4)) (by simp [results,Tryz.results28,go_sem];rfl) rfl ⟨rfl,((Below.refl _ _).alloc (Nat.le_refl _) _).alloc (by simp) _⟩
theorem bits_none (w:World):CB 28 #[.slice none 0 0] w (A4 0):=by
 refine (bits_numN none 0 0 (fun _=>0) w ⟨Nat.le_refl _,by unfold maxLen;omega,fun _=>⟨Int.le_refl _,show (0:Int)<=_ by decide⟩,fun _ _=>rfl,Or.inl ⟨rfl,rfl⟩⟩).mono ?_
 rintro r w' ⟨rfl,hb⟩
 refine ⟨?_,hb⟩
 rw [Z4_eq]
 rfl
theorem bits13 {K X:Nat}{v:Value}{w:World}(h:NN K X v w):CB 28 #[v] w (A4 X):=by
 rcases h with ⟨rfl,rfl⟩|h
 ·exact bits_none w
 ·exact bits_nv h.nv
attribute [local irreducible] W4 NT NV NN
theorem rupk_bad (B:Nat)(n:Int)(h:n<0∨11<n)(w:World):CB 109 #[A4 B,.int .i64 n] w (.tuple #[A4 0,.int .i64 1]):=by
 rw [Z4_eq]
 have hsm:=cell_set_map
 by_cases h0:n<0
 ·go_enter Tryz.func109,Tryz.ntmps109
  go_wp2
  exact bodyPost_ret (by simp only [results,Tryz.results109];go_simp) rfl ⟨rfl,bgo⟩
 ·have h1:11<n:=by omega
  go_enter Tryz.func109,Tryz.ntmps109
  go_wp2
  exact bodyPost_ret (by simp only [results,Tryz.results109];go_simp) rfl ⟨rfl,bgo⟩
section
variable (B c:Nat)(w:World)(L:Int)(hc:c<=11)
 (c26:∀ W,NV 4 B (.slice (some ⟨w.heap.size,0,none⟩) 4 4) W->CQ 23 #[.slice (some ⟨w.heap.size,0,none⟩) 4 4] W (.int .i64 L)) (hB:B<2^256)
include hc c26 hB
theorem rupk_l (hL:10*(c:Int)<L):CB 109 #[A4 B,.int .i64 (c:Int)] w (.tuple #[A4 0,.int .i64 3]):=by
 rw [Z4_eq]
 have h0:¬ (c:Int)<0:=by omega
 have h9:¬ 11<(c:Int):=by omega
 have hsm:=cell_set_map
 have hbx:=fun W hW=>box_nv (w0:=w) (w:=W) (B:=B) (t:=24) hB hW
 go_enter Tryz.func109,Tryz.ntmps109
 go_wp2_with (go_at_call 23;refine (c26 _ (hbx _ bgo)).mono ?_;rintro r w1 ⟨rfl,rfl⟩)
 exact bodyPost_ret (by simp only [results,Tryz.results109];go_simp) rfl ⟨rfl,bgo⟩
variable (U X D:Nat->Nat)
 (c27:Hid (∀ i,i<c->∀ W,CE 52 #[A4 B,.int .i64 (10*((c:Int)-1-(i:Int))),.int .i64 10] W (NT 19 (X i))))
 (c24:Hid (∀ i W v,NT 19 (X i) v W->CQ 53 #[v] W (.int .i64 (X i:Int))))
 (c12:Hid (∀ i W,CB 147 #[.int .i64 (X i:Int)] W (.tuple #[.int .i64 (D i:Int),.int .i64 0])))
 (hD:Hid (∀ i,D i<1000))
 (c29:Hid (∀ i,i<c->∀ W v g,NN (4*i) (U i) v W->NT 1 1000 (.slice (some ⟨g,0,none⟩) 1 1) W->CE 24 #[v,.slice (some ⟨g,0,none⟩) 1 1] W (NT (4*i+2) (U i*1000))))
 (c28:Hid (∀ i,i<c->∀ W v v',NT (4*i+2) (U i*1000) v W->NV 1 (D i) v' W->Calls Tryz.prog 21 #[v,v'] W fun r w'=>∃ v,r=.returned v/\NN (4*(i+1)) (U (i+1)) v w'/\Below W.heap.size W w'))
 (c30:Hid (∀ W v,NN (4*c) (U c) v W->CB 28 #[v] W (A4 (U c))))
 (hU:NN (4*0) (U 0) (.slice none 0 0) w)
include c27 c24 c12 hD c29 c28 c30 hU
theorem rupk_w (hL:¬ 10*(c:Int)<L):CB 109 #[A4 B,.int .i64 (c:Int)] w (.tuple #[A4 (U c),.int .i64 0]):=by
 have h0:¬ (c:Int)<0:=by omega
 have h9:¬ 11<(c:Int):=by omega
 have hsm:=cell_set_map
 have hbx:=fun W hW=>box_nv (w0:=w) (w:=W) (B:=B) (t:=24) hB hW
 go_enter Tryz.func109,Tryz.ntmps109
 go_wp2_with (go_at_call 23;refine (c26 _ (hbx _ bgo)).mono ?_;rintro r w1 ⟨rfl,rfl⟩)
 clear hbx
 go_loopw [6,7,8,9,24] (fun t6 _ _ _ t wr=>∃ (i:Nat),i<=c/\t=.int .i64 (i:Int)/\NN (4*i) (U i) t6 wr/\C4 w.heap.size B wr/\C4 (w.heap.size+1) 0 wr/\Below w.heap.size w wr) (fun _ _ _ _ t _=>c-(intOf t).toNat)
 case atStart =>
  exact ⟨0,Nat.zero_le _,rfl,hU.next bgo,by refine ⟨by (simp<;>omega),?_,?_,?_,?_,?_,?_,?_,?_⟩<;>go_simp,by refine ⟨by (simp<;>omega),?_,?_,?_,?_,?_,?_,?_,?_⟩<;>first|(rw [W4_zero];go_simp)|go_simp,bgo⟩
 case round =>
  obtain ⟨i,hi,rfl,hn,h4,h5,hbw⟩:=hrel
  have hl4:=h4.lt
  have hl5:=h5.lt
  obtain ⟨_,p0,p1,p2,p3,f0,f1,f2,f3⟩:=id h4
  obtain ⟨_,q0,q1,q2,q3,e0,e1,e2,e3⟩:=id h5
  by_cases hic:i<c
  ·have hl:(i:Int)<(c:Int):=by omega
   have hci:(c:Int)<=11:=by omega
   have d27:=c27.out i hic
   have d24:=c24.out i
   have d12:=c12.out i
   have dD:=hD.out i
   have d29:=c29.out i hic
   have d28:=c28.out i hic
   have dd0:(0:Int)<=(D i:Int):=by omega
   have dd1:(D i:Int)<=999:=by omega
   generalize D i=Di at *
   generalize X i=Xi at *
   go_wp2_with (first
    | (go_at_call 52;refine (d27 _).mono ?_;rintro r w2 ⟨v2,rfl,hr2,hb2⟩;have hn2:=hn.next hb2;have hq2:=h4.next hb2;have ho2:=h5.next hb2;obtain ⟨_,_,_,_,hA2,_⟩:=wz w hb2;obtain ⟨_,_⟩:=zf hb2 (w.heap.size+1);clear hb2)
    | (go_at_call 53;refine (d24 _ _ hr2).mono ?_;rintro r w3 ⟨rfl,rfl⟩)
    | (go_at_call 147;refine (d12 _).mono ?_;rintro r w4 ⟨rfl,hb4⟩;have hn4:=hn2.next hb4;have hq4:=hq2.next hb4;have ho4:=ho2.next hb4;obtain ⟨_,_,_,_,hA4,_⟩:=wz w hb4;obtain ⟨_,_⟩:=zf hb4 (w.heap.size+1);clear hb4)
    | (go_at_call 24;refine (d29 _ _ _ (hn4.next (below1 _ _)) (nt_thou rfl)).mono ?_;rintro r w5 ⟨v5,rfl,hr5,hb5⟩;have hq5:=(hq4.next (below1 _ _)).next hb5;have ho5:=(ho4.next (below1 _ _)).next hb5;obtain ⟨_,_,_,_,hA5,_⟩:=wz w hb5;obtain ⟨_,_⟩:=zf hb5 (w.heap.size+1);clear hb5)
    | (go_at_call 21;refine (d28 _ _ _ (hr5.next (below1 _ _)) (nv_dec rfl rfl (by omega))).mono ?_;rintro r w6 ⟨v6,rfl,hr6,hb6⟩;have hq6:=(hq5.next (below1 _ _)).next hb6;have ho6:=(ho5.next (below1 _ _)).next hb6;obtain ⟨_,_,_,_,hA6,_⟩:=wz w hb6;obtain ⟨_,_⟩:=zf hb6 (w.heap.size+1);clear hb6))
   go_roundw
   case rel=>exact ⟨i+1,by omega,by go_num,hr6,hq6,ho6,bgo⟩
   case measure=>simp [intOf];omega
  ·have hl:¬ (i:Int)<(c:Int):=by omega
   obtain rfl:i=c:=by omega
   have d30:=c30.out
   go_wp2_with (go_at_call 28;refine (d30 _ _ hn).mono ?_;rintro r w2 ⟨rfl,hb2⟩;obtain ⟨_,_,_,_,hA2,_⟩:=wz w hb2;obtain ⟨_,_⟩:=zf hb2 (w.heap.size+1);clear hb2)
   exact bodyPost_ret (by simp only [results,Tryz.results109];go_simp) rfl ⟨rfl,bgo⟩
end
theorem rupk_any (B:Nat)(n:Int)(w:World)(hB:B<2^256):CB 109 #[A4 B,.int .i64 n] w (.tuple #[A4 (dUv B n),.int .i64 (dUe B n)]):=by
 unfold dUv dUe
 by_cases h:0<=n/\n<=11
 ·obtain ⟨c,rfl⟩:=Int.eq_ofNat_of_zero_le h.1
  have hc:c<=11:=by omega
  rw [if_pos h,if_pos h,Int.toNat_natCast]
  have c26:∀ W,NV 4 B (.slice (some ⟨w.heap.size,0,none⟩) 4 4) W->CQ 23 #[.slice (some ⟨w.heap.size,0,none⟩) 4 4] W (.int .i64 (bl B:Int)):=fun W hN=>by
   unfold NV at hN
   obtain ⟨g,k,cap,z,e,hk,hN,hv⟩:=hN
   cases e
   have:=rlen_num _ 4 4 z W (by decide) hN
   rw [len_bl hN.2.2.1 hv] at this
   exact this
  have hp:(1024:Nat)^c=2^(10*c):=by rw [Nat.pow_mul]
  have hbl:=bl_le (V:=B) (k:=10*c)
  rw [← hp] at hbl
  by_cases hq:B<1024^c
  ·rw [if_pos hq,if_pos hq]
   have:=rupk_w B c w (bl B:Int) hc c26 hB (fun i=>dlU i (B/1024^(c-i))) (fun i=>B/2^(10*(c-1-i))%1024) (fun i=>dlD (B/2^(10*(c-1-i))%1024))
    (fun i hi W=>?_) (fun i W v hv=>?_) (fun i W=>?_) (fun i=>?_) (fun i hi W v g h1 h2=>?_) (fun i hi W v v' h1 h2=>?_) (fun W v hv=>?_) ?_ (by have:=hbl.2 hq;omega)
   ·simp only [Nat.sub_self,Nat.pow_zero,Nat.div_one] at this
    exact this
   ·have:=field_any B (10*(c-1-i)) 10 W hB (by omega) (by decide)
    rw [show ((10*(c-1-i):Nat):Int)=10*((c:Int)-1-(i:Int)) by omega] at this
    exact this
   ·refine (number_nv hv.nv (by decide) (by have:=Nat.mod_lt (B/2^(10*(c-1-i))) (show 0<1024 by decide);omega)).mono ?_
    rintro r w' ⟨rfl,rfl⟩
    exact ⟨rfl,rfl⟩
   ·exact dcd_v _ (Nat.mod_lt _ (by decide)) W
   ·exact (dl_means _ (Nat.mod_lt _ (by decide))).1
   ·exact times13 (by omega) h1 h2
   ·refine (add13 (by omega) (by decide) h1 h2).mono ?_
    rintro r w' ⟨v,rfl,hv,hb⟩
    refine ⟨v,rfl,?_,hb⟩
    have e:dlU i (B/1024^(c-i))*1000+dlD (B/2^(10*(c-1-i))%1024)=dlU (i+1) (B/1024^(c-(i+1))):=by
     have e2:(2:Nat)^(10*(c-1-i))=1024^(c-(i+1)):=by
      rw [Nat.pow_mul,show c-1-i=c-(i+1) by omega]
     have e1:B/1024^(c-i)=B/1024^(c-(i+1))/1024:=by
      rw [Nat.div_div_eq_div_mul,← Nat.pow_succ,show (c-(i+1)).succ=c-i by omega]
     rw [dlU_step,e1,e2]
    rw [e,show 4*i+2+1+1=4*(i+1) by omega] at hv
    unfold NN
    exact Or.inr hv
   ·exact bits13 hv
   ·unfold NN
    exact Or.inl ⟨rfl,rfl⟩
  ·rw [if_neg hq,if_neg hq]
   exact rupk_l B c w (bl B:Int) hc c26 hB (by
    have:¬ bl B<=10*c:=fun q=>hq (hbl.1 q)
    omega)
 ·rw [if_neg h,if_neg h]
  exact rupk_bad B n (by omega) w
end
section
theorem C4.other {g g' X Y:Nat}{w:World}(h:C4 g X w)(hne:g≠g'):C4 g X (put4C w g' Y):=by
 have hU:=put4C_upd w g' Y
 have hb:=hU.block g hne
 have hl:g<(put4C w g' Y).heap.size:=by rw [hU.size];exact h.lt
 exact ⟨hl,(World.cell?_of_block (a:=⟨g,0,none⟩) hb).trans h.c0,(World.cell?_of_block (a:=⟨g,1,none⟩) hb).trans h.c1,(World.cell?_of_block (a:=⟨g,2,none⟩) hb).trans h.c2,(World.cell?_of_block (a:=⟨g,3,none⟩) hb).trans h.c3,(World.frozen?_of_block (a:=⟨g,0,none⟩) hb).trans h.f0,(World.frozen?_of_block (a:=⟨g,1,none⟩) hb).trans h.f1,(World.frozen?_of_block (a:=⟨g,2,none⟩) hb).trans h.f2,(World.frozen?_of_block (a:=⟨g,3,none⟩) hb).trans h.f3⟩
attribute [local irreducible] W4
section
variable (C c:Nat)(n:Int)(w:World)
theorem dpck_n (ck:∀ W,CQ 170 #[.int .i64 n] W (.bool false)) :
  CB 172 #[A4 C,.int .i64 n] w (.tuple #[A4 0,.int .i64 1]):=by
 rw [Z4_eq]
 have hsm:=cell_set_map
 go_enter Tryz.func172,Tryz.ntmps172
 go_wp2_with (go_at_call 170;refine (ck _).mono ?_;rintro r w1 ⟨rfl,rfl⟩)
 exact bodyPost_ret (by simp only [results,Tryz.results172];go_simp) rfl ⟨rfl,bgo⟩
theorem dupk_n (ck:∀ W,CQ 170 #[.int .i64 n] W (.bool false)) :
  CB 155 #[A4 C,.int .i64 n] w (.tuple #[A4 0,.int .i64 1]):=by
 rw [Z4_eq]
 have hsm:=cell_set_map
 go_enter Tryz.func155,Tryz.ntmps155
 go_wp2_with (go_at_call 170;refine (ck _).mono ?_;rintro r w1 ⟨rfl,rfl⟩)
 exact bodyPost_ret (by simp only [results,Tryz.results155];go_simp) rfl ⟨rfl,bgo⟩
end
section
variable (C c:Nat)(w:World)(A P X D T:Nat->Nat)(cr:Nat->Int)(L:Int)(hc:c<=11)
 (ck:∀ W,CQ 170 #[.int .i64 (c:Int)] W (.bool true))
 (cd:Hid (∀ i,i<c->∀ W,CB 178 #[A4 (A i),.int .u64 1000] W (.tuple #[A4 (A (i+1)),.int .u64 (X i:Int)])))
 (hX:Hid (∀ i,X i<1000))
 (ce:Hid (∀ i W,CQ 179 #[.int .i64 (X i:Int)] W (.tuple #[.int .i64 (D i:Int),.int .i64 0])))
 (hD:Hid (∀ i,D i<1024))
 (co:Hid (∀ i W,CB 84 #[.int .u64 (D i:Int)] W (A4 (D i))))
 (cs:Hid (∀ i,i<c->∀ W,CB 150 #[A4 (D i),.int .i64 (10*(i:Int))] W (A4 (T i))))
 (ca:Hid (∀ i,i<c->∀ W,CB 86 #[A4 (P i),A4 (T i)] W (.tuple #[A4 (P (i+1)),.int .u64 (cr i)])))
 (cl:∀ W,CB 143 #[A4 (A c)] W (.int .i64 L))
 (hA:A 0=C) (hP:P 0=0)
include hc ck cd hX ce hD co cs ca cl hA hP
theorem dpck_w (R:Nat)(E:Int)(hR:(¬ 0<L/\R=P c/\E=0)∨(0<L/\R=0/\E=3)):CB 172 #[A4 C,.int .i64 (c:Int)] w (.tuple #[A4 R,.int .i64 E]):=by
 have hsm:=cell_set_map
 go_enter Tryz.func172,Tryz.ntmps172
 go_wp2_with (go_at_call 170;refine (ck _).mono ?_;rintro r w1 ⟨rfl,rfl⟩)
 go_loopw [8,9,10,11,18] (fun _ _ _ _ t wr=>∃ (i:Nat),i<=c/\t=.int .i64 (i:Int)/\C4 (w.heap.size+1+1) (A i) wr/\C4 (w.heap.size+1+1+1) (P i) wr/\C4 (w.heap.size+1) 0 wr/\Below w.heap.size w wr) (fun _ _ _ _ t _=>c-(intOf t).toNat)
 case atStart =>
  refine ⟨0,Nat.zero_le _,rfl,?_,?_,?_,bgo⟩
  ·rw [hA];refine ⟨by simp,?_,?_,?_,?_,?_,?_,?_,?_⟩<;>go_simp
  ·rw [hP];refine ⟨by simp,?_,?_,?_,?_,?_,?_,?_,?_⟩<;>first|(rw [W4_zero];go_simp)|go_simp
  ·refine ⟨by simp,?_,?_,?_,?_,?_,?_,?_,?_⟩<;>first|(rw [W4_zero];go_simp)|go_simp
 case round =>
  obtain ⟨i,hi,rfl,h3,h4,h5,hbw⟩:=hrel
  have hl3:=h3.lt
  have hl4:=h4.lt
  have hl5:=h5.lt
  have hl6:w.heap.size<wr.heap.size:=by omega
  obtain ⟨_,o0,o1,o2,o3,g0,g1,g2,g3⟩:=id h3
  obtain ⟨_,p0,p1,p2,p3,f0,f1,f2,f3⟩:=id h4
  obtain ⟨_,q0,q1,q2,q3,e0,e1,e2,e3⟩:=id h5
  by_cases hic:i<c
  ·have hl:(i:Int)<(c:Int):=by omega
   have dd:=cd.out i hic
   have de:=ce.out i
   have do':=co.out i
   have ds:=cs.out i hic
   have da:=ca.out i hic
   have dX:=hX.out i
   have dD:=hD.out i
   have x0:(0:Int)<=(X i:Int):=by omega
   have x1:(X i:Int)<1000:=by omega
   have d0:(0:Int)<=(D i:Int):=by omega
   have d1:(D i:Int)<1024:=by omega
   clear hR cl dX dD
   generalize D i=Di at *
   generalize X i=Xi at *
   generalize P i=Pi at *
   generalize A i=Ai at *
   generalize T i=Ti at *
   go_wp2_with (first
    | (go_at_call 178;refine (dd _).mono ?_;rintro r w2 ⟨rfl,hb2⟩;have hn3:=h3.next hb2;have hn4:=h4.next hb2;have hn5:=h5.next hb2;obtain ⟨_,_,_,_,hA2,_⟩:=wz w hb2;obtain ⟨_,_⟩:=zf hb2 (w.heap.size+1);obtain ⟨_,_⟩:=zf hb2 (w.heap.size+1+1);obtain ⟨_,_⟩:=zf hb2 (w.heap.size+1+1+1);clear hb2)
    | (go_at_call 179;refine (de _).mono ?_;rintro r w3 ⟨rfl,rfl⟩))
   have hn3':=hn3.put (Y:=A (i+1))
   have hn4':=hn4.other (g':=w.heap.size+1+1) (Y:=A (i+1)) (by omega)
   have hn5':=hn5.other (g':=w.heap.size+1+1) (Y:=A (i+1)) (by omega)
   refine wp_tail 8 (by kernel_rfl) (by kernel_rfl) (by kernel_rfl) (fun _ _ d _ _ h=>by cases d<;>exact h) fun hne hcell=>?_
   simp only [List.take_succ_cons,List.take_zero,List.drop_succ_cons,List.drop_zero]
   repeat go_big_quiet_step (fail)
   go_big_quiet_step ((go_at_call 84;exact calls_wd _ bk_next (do' _)))
   repeat go_big_quiet_step (fail)
   go_big_quiet_step ((go_at_call 150;exact calls_wd _ bk_next (ds _)))
   repeat go_big_quiet_step (fail)
   go_big_quiet_step ((go_at_call 86;exact calls_wd _ bk_next (da _)))
   refine wpQuiet_nil fun w4 hb4=>?_
   have hm3:=hn3'.next hb4
   have hm4:=hn4'.next hb4
   have hm5:=hn5'.next hb4
   obtain ⟨_,_,_,_,hA4,_⟩:=wz w hb4;obtain ⟨_,_⟩:=zf hb4 (w.heap.size+1);obtain ⟨_,_⟩:=zf hb4 (w.heap.size+1+1);obtain ⟨_,_⟩:=zf hb4 (w.heap.size+1+1+1);clear hb4
   go_wp2
   go_roundw
   case rel=>exact ⟨i+1,by omega,by go_num,hm3.other (by omega),hm4.put,hm5.other (by omega),bgo⟩
   case measure=>simp [intOf];omega
  ·have hl:¬ (i:Int)<(c:Int):=by omega
   obtain rfl:i=c:=by omega
   rcases hR with ⟨hA0,rfl,rfl⟩|⟨hA0,rfl,rfl⟩
   ·go_wp2_with (go_at_call 143;refine (cl _).mono ?_;rintro r w2 ⟨rfl,hb2⟩;obtain ⟨_,_,_,_,hA2,_⟩:=wz w hb2;obtain ⟨_,_⟩:=zf hb2 (w.heap.size+1);obtain ⟨_,_⟩:=zf hb2 (w.heap.size+1+1);obtain ⟨_,_⟩:=zf hb2 (w.heap.size+1+1+1);clear hb2)
    exact bodyPost_ret (by simp only [results,Tryz.results172];go_simp) rfl ⟨rfl,bgo⟩
   ·go_wp2_with (go_at_call 143;refine (cl _).mono ?_;rintro r w2 ⟨rfl,hb2⟩;obtain ⟨_,_,_,_,hA2,_⟩:=wz w hb2;obtain ⟨_,_⟩:=zf hb2 (w.heap.size+1);obtain ⟨_,_⟩:=zf hb2 (w.heap.size+1+1);obtain ⟨_,_⟩:=zf hb2 (w.heap.size+1+1+1);clear hb2)
    exact bodyPost_ret (v:=.tuple #[A4 0,.int .i64 3]) (by rw [Z4_eq];simp only [results,Tryz.results172];go_simp) rfl ⟨rfl,bgo⟩
end
section
variable (B c:Nat)(w:World)(L:Int)(hc:c<=11)
 (ck:∀ W,CQ 170 #[.int .i64 (c:Int)] W (.bool true))
 (cl:∀ W,CB 143 #[A4 B] W (.int .i64 L))
include hc ck cl
theorem dupk_l (hL:10*(c:Int)<L):CB 155 #[A4 B,.int .i64 (c:Int)] w (.tuple #[A4 0,.int .i64 3]):=by
 rw [Z4_eq]
 have hsm:=cell_set_map
 have hc0:(0:Int)<=(c:Int):=by omega
 have hc1:(c:Int)<=11:=by omega
 go_enter Tryz.func155,Tryz.ntmps155
 go_wp2_with (first
  | (go_at_call 170;refine (ck _).mono ?_;rintro r w1 ⟨rfl,rfl⟩)
  | (go_at_call 143;refine (cl _).mono ?_;rintro r w2 ⟨rfl,hb2⟩;obtain ⟨_,_,_,_,hA2,_⟩:=wz w hb2;obtain ⟨_,_⟩:=zf hb2 (w.heap.size+1);clear hb2))
 exact bodyPost_ret (by simp only [results,Tryz.results155];go_simp) rfl ⟨rfl,bgo⟩
variable (U X D S M:Nat->Nat)(cr cm:Nat->Int)
 (cs:Hid (∀ k,k<c->∀ W,CB 149 #[A4 B,.int .i64 (10*(k:Int))] W (A4 (S k))))
 (hX:Hid (∀ k,W4 (S k) 0%1024=(X k:Int)/\X k<1024/\0<=W4 (S k) 0))
 (ce:Hid (∀ k W,CQ 171 #[.int .i64 (X k:Int)] W (.tuple #[.int .i64 (D k:Int),.int .i64 0])))
 (hD:Hid (∀ k,D k<1000))
 (cu:Hid (∀ k,k<c->∀ W,CB 127 #[A4 (U (k+1)),.int .u64 1000] W (.tuple #[A4 (M k),.int .u64 (cm k)])))
 (co:Hid (∀ k W,CB 84 #[.int .u64 (D k:Int)] W (A4 (D k))))
 (ca:Hid (∀ k,k<c->∀ W,CB 86 #[A4 (M k),A4 (D k)] W (.tuple #[A4 (U k),.int .u64 (cr k)])))
 (hU:U c=0)
include cs hX ce hD cu co ca hU
theorem dupk_w (hL:¬ 10*(c:Int)<L):CB 155 #[A4 B,.int .i64 (c:Int)] w (.tuple #[A4 (U 0),.int .i64 0]):=by
 have hsm:=cell_set_map
 have hc0:(0:Int)<=(c:Int):=by omega
 have hc1:(c:Int)<=11:=by omega
 go_enter Tryz.func155,Tryz.ntmps155
 go_wp2_with (first
  | (go_at_call 170;refine (ck _).mono ?_;rintro r w1 ⟨rfl,rfl⟩)
  | (go_at_call 143;refine (cl _).mono ?_;rintro r w2 ⟨rfl,hb2⟩;obtain ⟨_,_,_,_,hA2,_⟩:=wz w hb2;obtain ⟨_,_⟩:=zf hb2 (w.heap.size+1);clear hb2))
 go_loopw [7,8,9,10] (fun t _ _ _ wr=>∃ (k:Nat),k<=c/\t=.int .i64 ((k:Int)-1)/\C4 w2.heap.size (U k) wr/\C4 w.heap.size B wr/\C4 (w.heap.size+1) 0 wr/\Below w.heap.size w wr) (fun t _ _ _ _=>(intOf t+1).toNat)
 case atStart =>
  refine ⟨c,Nat.le_refl _,rfl,?_,?_,?_,bgo⟩
  ·rw [hU];exact C4.new _ _
  ·refine ⟨by simp;omega,?_,?_,?_,?_,?_,?_,?_,?_⟩<;>go_simp
  ·refine ⟨by simp;omega,?_,?_,?_,?_,?_,?_,?_,?_⟩<;>first|(rw [W4_zero];go_simp)|go_simp
 case round =>
  obtain ⟨k,hk,rfl,h3,h4,h5,hbw⟩:=hrel
  have hl3:=h3.lt
  have hl4:=h4.lt
  have hl5:=h5.lt
  have hz3:w.heap.size+1<w2.heap.size:=by omega
  obtain ⟨_,o0,o1,o2,o3,g0,g1,g2,g3⟩:=id h3
  obtain ⟨_,p0,p1,p2,p3,f0,f1,f2,f3⟩:=id h4
  obtain ⟨_,q0,q1,q2,q3,e0,e1,e2,e3⟩:=id h5
  by_cases hk0:k=0
  ·subst hk0
   go_wp2
   exact bodyPost_ret (by simp only [results,Tryz.results155];go_simp) rfl ⟨rfl,bgo⟩
  ·obtain ⟨j,rfl⟩:∃ j,k=j+1:=⟨k-1,by omega⟩
   have ej:((j+1:Nat):Int)-1=(j:Int):=by omega
   rw [ej]
   have hj:j<c:=by omega
   have hj0:¬ (j:Int)<0:=by omega
   have hj1:(j:Int)<=11:=by omega
   have ds:=cs.out j hj
   obtain ⟨x2,x3,x4⟩:=hX.out j
   have de:=ce.out j
   have du:=cu.out j hj
   have do':=co.out j
   have da:=ca.out j hj
   have dD:=hD.out j
   have d0:(0:Int)<=(D j:Int):=by omega
   have d1:(D j:Int)<1000:=by omega
   have x0:(0:Int)<=(X j:Int):=by omega
   have x1:(X j:Int)<1024:=by omega
   clear ej dD x3 hL ck cl
   generalize D j=Dj at *
   generalize X j=Xj at *
   generalize S j=Sj at *
   generalize M j=Mj at *
   generalize U (j+1)=Uj at *
   go_wp2_with (first
    | (go_at_call 149;refine (ds _).mono ?_;rintro r w3 ⟨rfl,hb3⟩;have hn3:=h3.next hb3;have hn4:=h4.next hb3;have hn5:=h5.next hb3;obtain ⟨_,_,_,_,hA3,_⟩:=wz w hb3;obtain ⟨_,_⟩:=zf hb3 (w.heap.size+1);obtain ⟨_,_⟩:=zf hb3 w2.heap.size;clear hb3)
    | (go_at_call 171;refine (de _).mono ?_;rintro r w4 ⟨rfl,rfl⟩)
    | (go_at_call 127;refine (du _).mono ?_;rintro r w5 ⟨rfl,hb5⟩;obtain ⟨_,_,_,_,hA5,_⟩:=wz w hb5;obtain ⟨_,_⟩:=zf hb5 (w.heap.size+1);obtain ⟨_,_⟩:=zf hb5 w2.heap.size;clear hb5))
   refine wp_tail 5 (by kernel_rfl) (by kernel_rfl) (by kernel_rfl) (fun _ _ d _ _ h=>by cases d<;>exact h) fun hne hcell=>?_
   simp only [List.take_succ_cons,List.take_zero,List.drop_succ_cons,List.drop_zero]
   repeat go_big_quiet_step (fail)
   go_big_quiet_step ((go_at_call 84;exact calls_wd _ bk_next (do' _)))
   repeat go_big_quiet_step (fail)
   go_big_quiet_step ((go_at_call 86;exact calls_wd _ bk_next (da _)))
   refine wpQuiet_nil fun w6 hb6=>?_
   obtain ⟨_,_,_,_,hA6,_⟩:=wz w hb6;obtain ⟨_,_⟩:=zf hb6 (w.heap.size+1);obtain ⟨_,_⟩:=zf hb6 w2.heap.size;clear hb6
   go_wp2
   go_roundw
   case rel =>
    refine ⟨j,by omega,by go_num,?_,?_,?_,bgo⟩
    ·refine ⟨by simp;omega,?_,?_,?_,?_,?_,?_,?_,?_⟩<;>go_simp
    ·refine ⟨by simp;omega,?_,?_,?_,?_,?_,?_,?_,?_⟩<;>go_simp
    ·refine ⟨by simp;omega,?_,?_,?_,?_,?_,?_,?_,?_⟩<;>go_simp
   case measure=>simp [intOf]
end
theorem p1024 (i:Nat):(1024:Nat)^i=2^(10*i):=by rw [Nat.pow_mul]
theorem dpck_any (C:Nat)(n:Int)(w:World)(hC:C<2^256):CB 172 #[A4 C,.int .i64 n] w (.tuple #[A4 (dPv C n),.int .i64 (dPe C n)]):=by
 unfold dPv dPe
 by_cases h:0<=n/\n<=11
 ·obtain ⟨c,rfl⟩:=Int.eq_ofNat_of_zero_le h.1
  have hc:c<=11:=by omega
  rw [if_pos h,if_pos h,Int.toNat_natCast]
  have hA:∀ i,C/1000^i<2^256:=fun i=>Nat.lt_of_le_of_lt (Nat.div_le_self _ _) hC
  have hL0:=len4_zero (hA c)
  have hL1:0<=lenL (W4 (C/1000^c)) 4:=by
   by_cases h0:0<sizeL (W4 (C/1000^c)) 4
   ·obtain ⟨L,h1,_⟩:=len_bd (W4_words _) h0
    omega
   ·unfold lenL;rw [if_pos (by omega)];exact Int.le_refl _
  refine dpck_w C c w (fun i=>C/1000^i) (fun i=>dlP i C) (fun i=>C/1000^i%1000) (fun i=>dlE (C/1000^i%1000)) (fun i=>dlE (C/1000^i%1000)*2^(10*i)) (fun i=>(((dlP i C+dlE (C/1000^i%1000)*2^(10*i))/2^256:Nat):Int)) (lenL (W4 (C/1000^c)) 4) hc ?_ ?_ ?_ ?_ ?_ ?_ ?_ ?_ (fun W=>len4' _ W) (by simp) rfl _ _ ?_
  ·intro W
   have:=known_v (c:Int) W
   rw [decide_eq_true h] at this
   exact this
  ·intro i hi W
   have:=div4 (C/1000^i) 1000 W (hA i) (by decide) (by decide)
   rw [Nat.div_div_eq_div_mul,← Nat.pow_succ] at this
   exact this
  ·intro i
   exact Nat.mod_lt _ (by decide)
  ·intro i W
   exact denc_v _ (Nat.mod_lt _ (by decide)) W
  ·intro i
   exact (dl_back _ (Nat.mod_lt _ (by decide))).2
  ·intro i W
   have:=(dl_back (C/1000^i%1000) (Nat.mod_lt _ (by decide))).2
   exact of4 _ W (by omega)
  ·intro i hi W
   have h2:=(dl_back (C/1000^i%1000) (Nat.mod_lt _ (by decide))).2
   have:=shl4 (dlE (C/1000^i%1000)) (10*i) W (Nat.lt_trans h2 (by decide)) (by omega)
   rw [show ((10*i:Nat):Int)=10*(i:Int) by omega] at this
   exact this
  ·intro i hi W
   have e:=dlP_snoc i C
   rw [p1024] at e
   have h1:=dlP_256 (i+1) C (by omega)
   have:=add4 (dlP i C) (dlE (C/1000^i%1000)*2^(10*i)) W (by omega) (by omega)
   rw [show A4 (dlP i C+dlE (C/1000^i%1000)*2^(10*i))=A4 (dlP (i+1) C) by rw [e]] at this
   exact this
  ·by_cases hlt:C<1000^c
   ·rw [if_pos hlt,if_pos hlt]
    exact Or.inl ⟨by rw [hL0.2 (Nat.div_eq_of_lt hlt)];decide,rfl,rfl⟩
   ·rw [if_neg hlt,if_neg hlt]
    have h1:C/1000^c≠0:=by
     have:=(Nat.le_div_iff_mul_le (Nat.pow_pos (n:=c) (show 0<1000 by decide))).2 (show 1*1000^c<=C by omega)
     omega
    have h2:lenL (W4 (C/1000^c)) 4≠0:=fun e=>h1 (hL0.1 e)
    exact Or.inr ⟨by omega,rfl,rfl⟩
 ·rw [if_neg h,if_neg h]
  refine dpck_n C n w fun W=>?_
  have:=known_v n W
  rw [decide_eq_false h] at this
  exact this
theorem dupk_any (B:Nat)(n:Int)(w:World)(hB:B<2^256):CB 155 #[A4 B,.int .i64 n] w (.tuple #[A4 (dUv B n),.int .i64 (dUe B n)]):=by
 unfold dUv dUe
 by_cases h:0<=n/\n<=11
 ·obtain ⟨c,rfl⟩:=Int.eq_ofNat_of_zero_le h.1
  have hc:c<=11:=by omega
  rw [if_pos h,if_pos h,Int.toNat_natCast]
  have hk:∀ W,CQ 170 #[.int .i64 (c:Int)] W (.bool true):=fun W=>by
   have:=known_v (c:Int) W
   rw [decide_eq_true h] at this
   exact this
  have hL:=len4_le (k:=10*c) hB
  rw [← p1024] at hL
  by_cases hlt:B<1024^c
  ·rw [if_pos hlt,if_pos hlt]
   have hU:∀ k,dlU (c-k) (B/1024^k)<1000^11:=fun k=>Nat.lt_of_lt_of_le (dlU_lt _ _) (Nat.pow_le_pow_right (by decide) (by omega))
   have e11:(1000:Nat)^11=1000000000000000000000000000000000:=by decide
   have e256:(2:Nat)^256=115792089237316195423570985008687907853269984665640564039457584007913129639936:=by decide
   have:=dupk_w B c w (lenL (W4 B) 4) hc hk (fun W=>len4' _ W) (fun k=>dlU (c-k) (B/1024^k)) (fun k=>B/1024^k%1024) (fun k=>dlD (B/1024^k%1024)) (fun k=>B/2^(10*k)) (fun k=>dlU (c-(k+1)) (B/1024^(k+1))*1000) (fun k=>(((dlU (c-(k+1)) (B/1024^(k+1))*1000+dlD (B/1024^k%1024))/2^256:Nat):Int)) (fun k=>((dlU (c-(k+1)) (B/1024^(k+1))*1000/2^256:Nat):Int)) (fun k hk W=>?_) (fun k=>?_) (fun k W=>?_) (fun k=>?_) (fun k hk W=>?_) (fun k W=>?_) (fun k hk W=>?_) (by rw [Nat.sub_self];rfl) (by have:=hL.2 hlt;omega)
   ·simp only [Nat.sub_zero,Nat.pow_zero,Nat.div_one] at this
    exact this
   ·have:=shr4 B (10*k) W hB (by omega)
    rw [show ((10*k:Nat):Int)=10*(k:Int) by omega] at this
    exact this
   ·refine ⟨?_,Nat.mod_lt _ (by decide),(W4_words _ 0).1⟩
    unfold W4
    rw [← p1024,Nat.mul_zero,Nat.pow_zero,Nat.div_one]
    omega
   ·exact ddcd_v _ (Nat.mod_lt _ (by decide)) W
   ·exact (dl_means _ (Nat.mod_lt _ (by decide))).1
   ·have h1:=hU (k+1)
    exact mul4 _ 1000 W (by omega) (by decide)
   ·have:=(dl_means (B/1024^k%1024) (Nat.mod_lt _ (by decide))).1
    exact of4 _ W (by omega)
   ·have h1:=hU (k+1)
    have h2:=(dl_means (B/1024^k%1024) (Nat.mod_lt _ (by decide))).1
    have e:=dlU_step (c-(k+1)) (B/1024^k)
    rw [Nat.div_div_eq_div_mul,← Nat.pow_succ,show c-(k+1)+1=c-k by omega] at e
    have:=add4 (dlU (c-(k+1)) (B/1024^(k+1))*1000) (dlD (B/1024^k%1024)) W (by omega) (by omega)
    rw [show A4 (dlU (c-(k+1)) (B/1024^(k+1))*1000+dlD (B/1024^k%1024))=A4 (dlU (c-k) (B/1024^k)) by rw [e]] at this
    exact this
  ·rw [if_neg hlt,if_neg hlt]
   exact dupk_l B c w (lenL (W4 B) 4) hc hk (fun W=>len4' _ W) (by
    have:¬ lenL (W4 B) 4<=((10*c:Nat):Int):=fun q=>hlt (hL.1 q)
    omega)
 ·rw [if_neg h,if_neg h]
  refine dupk_n B n w fun W=>?_
  have:=known_v n W
  rw [decide_eq_false h] at this
  exact this
end
end Go.Proofs.YtgknbdehlmlipaaGreatDoor
