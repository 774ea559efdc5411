/-
  Texts that the proof leans on.
-/
import Derived.Test.YtpabnhlfbjkmaaaGreatDoorR28
import Derived.Test.YtpabnhlfbjkmaaaGreatDoorR22
import Derived.Test.YtpabnhlfbjkmaaaGreatDoorR30
import Derived.Test.YtpabnhlfbjkmaaaGreatDoorR1
import Derived.Test.YtpabnhlfbjkmaaaGreatDoorR25
import Derived.Test.YtpabnhlfbjkmaaaGreatDoorR6
import Derived.Test.YtpabnhlfbjkmaaaGreatDoorR20
import Derived.Deep.MidRow
set_option maxHeartbeats 8000000
set_option linter.unusedVariables false
set_option linter.unusedSectionVars false
set_option linter.unusedSimpArgs false
set_option maxRecDepth 20000
namespace Go.Proofs.YtpabnhlfbjkmaaaGreatDoor
open Go.RowKit
section
theorem C4.other {g g' X Y:Nat}{w:World}(h:C4 g X w)(hne:g≠g'):C4 g X (zOx w g' Y):=by
 have hU:=zFb w g' Y
 have hb:=hU.block g hne
 have hl:g<(zOx w g' Y).heap.size:=by rw [hU.size];exact h.lt
 exact ⟨hl,(World.cell?_of_block (a:=⟨g,0,none⟩) hb).trans h.c0,(World.cell?_of_block (a:=⟨g,1,none⟩) hb).trans h.c1,(World.cell?_of_block (a:=⟨g,2,none⟩) hb).trans h.c2,(World.cell?_of_block (a:=⟨g,3,none⟩) hb).trans h.c3,(World.frozen?_of_block (a:=⟨g,0,none⟩) hb).trans h.f0,(World.frozen?_of_block (a:=⟨g,1,none⟩) hb).trans h.f1,(World.frozen?_of_block (a:=⟨g,2,none⟩) hb).trans h.f2,(World.frozen?_of_block (a:=⟨g,3,none⟩) hb).trans h.f3⟩
attribute [local irreducible] W4
section
variable (C c:Nat)(n:Int)(w:World)
theorem dpck_n (ck:∀ W,CQ 171 #[.int .i64 n] W (.bool false)) :
  CB 174 #[A4 C,.int .i64 n] w (.tuple #[A4 0,.int .i64 1]):=by
 rw [zVd]
 have hsm:=zAa
 go_enter Tryz.func174,Tryz.ntmps174
 go_wp2_with (go_at_call 171;refine (ck _).mono ?_;rintro r w1 ⟨rfl,rfl⟩)
 exact bodyPost_ret (by simp only [results,Tryz.results174];go_simp) rfl ⟨rfl,bgo⟩
theorem dupk_n (ck:∀ W,CQ 171 #[.int .i64 n] W (.bool false)) :
  CB 144 #[A4 C,.int .i64 n] w (.tuple #[A4 0,.int .i64 1]):=by
 rw [zVd]
 have hsm:=zAa
 go_enter Tryz.func144,Tryz.ntmps144
 go_wp2_with (go_at_call 171;refine (ck _).mono ?_;rintro r w1 ⟨rfl,rfl⟩)
 exact bodyPost_ret (by simp only [results,Tryz.results144];go_simp) rfl ⟨rfl,bgo⟩
end
section
variable (C c:Nat)(w:World)(A P X D T:Nat->Nat)(cr:Nat->Int)(L:Int)(hc:c<=11)
 (ck:∀ W,CQ 171 #[.int .i64 (c:Int)] W (.bool true))
 (cd:Hid (∀ i,i<c->∀ W,CB 200 #[A4 (A i),.int .u64 1000] W (.tuple #[A4 (A (i+1)),.int .u64 (X i:Int)])))
 (hX:Hid (∀ i,X i<1000))
 (ce:Hid (∀ i W,CQ 201 #[.int .i64 (X i:Int)] W (.tuple #[.int .i64 (D i:Int),.int .i64 0])))
 (hD:Hid (∀ i,D i<1024))
 (co:Hid (∀ i W,CB 130 #[.int .u64 (D i:Int)] W (A4 (D i))))
 (cs:Hid (∀ i,i<c->∀ W,CB 129 #[A4 (D i),.int .i64 (10*(i:Int))] W (A4 (T i))))
 (ca:Hid (∀ i,i<c->∀ W,CB 107 #[A4 (P i),A4 (T i)] W (.tuple #[A4 (P (i+1)),.int .u64 (cr i)])))
 (cl:∀ W,CB 172 #[A4 (A c)] W (.int .i64 L))
 (hA:A 0=C) (hP:P 0=0)
include hc ck cd hX ce hD co cs ca cl hA hP
theorem dpck_w (R:Nat)(E:Int)(hR:(¬ 0<L/\R=P c/\E=0)∨(0<L/\R=0/\E=3)):CB 174 #[A4 C,.int .i64 (c:Int)] w (.tuple #[A4 R,.int .i64 E]):=by
 have hsm:=zAa
 go_enter Tryz.func174,Tryz.ntmps174
 go_wp2_with (go_at_call 171;refine (ck _).mono ?_;rintro r w1 ⟨rfl,rfl⟩)
 go_loopw [8,9,10,11,18] (fun _ _ _ _ t wr=>∃ (i:Nat),i<=c/\t=.int .i64 (i:Int)/\C4 (w.heap.size+1+1) (A i) wr/\C4 (w.heap.size+1+1+1) (P i) wr/\C4 (w.heap.size+1) 0 wr/\Below w.heap.size w wr) (fun _ _ _ _ t _=>c-(intOf t).toNat)
 case atStart =>
  refine ⟨0,Nat.zero_le _,rfl,?_,?_,?_,bgo⟩
  ·rw [hA];refine ⟨by simp,?_,?_,?_,?_,?_,?_,?_,?_⟩<;>go_simp
  ·rw [hP];refine ⟨by simp,?_,?_,?_,?_,?_,?_,?_,?_⟩<;>first|(rw [zPa];go_simp)|go_simp
  ·refine ⟨by simp,?_,?_,?_,?_,?_,?_,?_,?_⟩<;>first|(rw [zPa];go_simp)|go_simp
 case round =>
  obtain ⟨i,hi,rfl,h3,h4,h5,hbw⟩:=hrel
  have hl3:=h3.lt
  have hl4:=h4.lt
  have hl5:=h5.lt
  have hl6:w.heap.size<wr.heap.size:=by omega
  obtain ⟨_,o0,o1,o2,o3,g0,g1,g2,g3⟩:=id h3
  obtain ⟨_,p0,p1,p2,p3,f0,f1,f2,f3⟩:=id h4
  obtain ⟨_,q0,q1,q2,q3,e0,e1,e2,e3⟩:=id h5
  by_cases hic:i<c
  ·have hl:(i:Int)<(c:Int):=by omega
   have dd:=cd.out i hic
   have de:=ce.out i
   have do':=co.out i
   have ds:=cs.out i hic
   have da:=ca.out i hic
   have dX:=hX.out i
   have dD:=hD.out i
   have x0:(0:Int)<=(X i:Int):=by omega
   have x1:(X i:Int)<1000:=by omega
   have d0:(0:Int)<=(D i:Int):=by omega
   have d1:(D i:Int)<1024:=by omega
   clear hR cl dX dD
   generalize D i=Di at *
   generalize X i=Xi at *
   generalize P i=Pi at *
   generalize A i=Ai at *
   generalize T i=Ti at *
   go_wp2_with (first
    | (go_at_call 200;refine (dd _).mono ?_;rintro r w2 ⟨rfl,hb2⟩;have hn3:=h3.next hb2;have hn4:=h4.next hb2;have hn5:=h5.next hb2;obtain ⟨_,_,_,_,hA2,_⟩:=wz w hb2;obtain ⟨_,_,_,_,_,_⟩:=zh hb2 (w.heap.size+1) (w.heap.size+1+1) (w.heap.size+1+1+1);clear hb2)
    | (go_at_call 201;refine (de _).mono ?_;rintro r w3 ⟨rfl,rfl⟩))
   have hn3':=hn3.put (Y:=A (i+1))
   have hn4':=hn4.other (g':=w.heap.size+1+1) (Y:=A (i+1)) (by omega)
   have hn5':=hn5.other (g':=w.heap.size+1+1) (Y:=A (i+1)) (by omega)
   refine zSb 8 (by kernel_rfl) (by kernel_rfl) (by kernel_rfl) (fun _ _ d _ _ h=>by cases d<;>exact h) fun hne hcell=>?_
   simp only [List.take_succ_cons,List.take_zero,List.drop_succ_cons,List.drop_zero]
   repeat go_big_quiet_step (fail)
   go_big_quiet_step ((go_at_call 130;exact zKa _ zQa (do' _)))
   repeat go_big_quiet_step (fail)
   go_big_quiet_step ((go_at_call 129;exact zKa _ zQa (ds _)))
   repeat go_big_quiet_step (fail)
   go_big_quiet_step ((go_at_call 107;exact zKa _ zQa (da _)))
   refine wpQuiet_nil fun w4 hb4=>?_
   have hm3:=hn3'.next hb4
   have hm4:=hn4'.next hb4
   have hm5:=hn5'.next hb4
   obtain ⟨_,_,_,_,hA4,_⟩:=wz w hb4;obtain ⟨_,_,_,_,_,_⟩:=zh hb4 (w.heap.size+1) (w.heap.size+1+1) (w.heap.size+1+1+1);clear hb4
   go_wp2
   go_roundw
   case rel=>exact ⟨i+1,by omega,by go_num,hm3.other (by omega),hm4.put,hm5.other (by omega),bgo⟩
   case measure=>simp [intOf];omega
  ·have hl:¬ (i:Int)<(c:Int):=by omega
   obtain rfl:i=c:=by omega
   rcases hR with ⟨hA0,rfl,rfl⟩|⟨hA0,rfl,rfl⟩
   ·go_wp2_with (go_at_call 172;refine wk w (cl _) ?_;intro w2 hb2 _ _ _ _ hA2 _;obtain ⟨_,_,_,_,_,_⟩:=zh hb2 (w.heap.size+1) (w.heap.size+1+1) (w.heap.size+1+1+1);clear hb2)
    exact bodyPost_ret (by simp only [results,Tryz.results174];go_simp) rfl ⟨rfl,bgo⟩
   ·go_wp2_with (go_at_call 172;refine wk w (cl _) ?_;intro w2 hb2 _ _ _ _ hA2 _;obtain ⟨_,_,_,_,_,_⟩:=zh hb2 (w.heap.size+1) (w.heap.size+1+1) (w.heap.size+1+1+1);clear hb2)
    exact bodyPost_ret (v:=.tuple #[A4 0,.int .i64 3]) (by rw [zVd];simp only [results,Tryz.results174];go_simp) rfl ⟨rfl,bgo⟩
end
section
variable (B c:Nat)(w:World)(L:Int)(hc:c<=11)
 (ck:∀ W,CQ 171 #[.int .i64 (c:Int)] W (.bool true))
 (cl:∀ W,CB 172 #[A4 B] W (.int .i64 L))
include hc ck cl
theorem dupk_l (hL:10*(c:Int)<L):CB 144 #[A4 B,.int .i64 (c:Int)] w (.tuple #[A4 0,.int .i64 3]):=by
 rw [zVd]
 have hsm:=zAa
 have hc0:(0:Int)<=(c:Int):=by omega
 have hc1:(c:Int)<=11:=by omega
 go_enter Tryz.func144,Tryz.ntmps144
 go_wp2_with (first
  | (go_at_call 171;refine (ck _).mono ?_;rintro r w1 ⟨rfl,rfl⟩)
  | (go_at_call 172;refine wk w (cl _) ?_;intro w2 hb2 _ _ _ _ hA2 _;obtain ⟨_,_⟩:=zf hb2 (w.heap.size+1);clear hb2))
 exact bodyPost_ret (by simp only [results,Tryz.results144];go_simp) rfl ⟨rfl,bgo⟩
variable (U X D S M:Nat->Nat)(cr cm:Nat->Int)
 (cs:Hid (∀ k,k<c->∀ W,CB 139 #[A4 B,.int .i64 (10*(k:Int))] W (A4 (S k))))
 (hX:Hid (∀ k,W4 (S k) 0%1024=(X k:Int)/\X k<1024/\0<=W4 (S k) 0))
 (ce:Hid (∀ k W,CQ 173 #[.int .i64 (X k:Int)] W (.tuple #[.int .i64 (D k:Int),.int .i64 0])))
 (hD:Hid (∀ k,D k<1000))
 (cu:Hid (∀ k,k<c->∀ W,CB 106 #[A4 (U (k+1)),.int .u64 1000] W (.tuple #[A4 (M k),.int .u64 (cm k)])))
 (co:Hid (∀ k W,CB 130 #[.int .u64 (D k:Int)] W (A4 (D k))))
 (ca:Hid (∀ k,k<c->∀ W,CB 107 #[A4 (M k),A4 (D k)] W (.tuple #[A4 (U k),.int .u64 (cr k)])))
 (hU:U c=0)
include cs hX ce hD cu co ca hU
theorem dupk_w (hL:¬ 10*(c:Int)<L):CB 144 #[A4 B,.int .i64 (c:Int)] w (.tuple #[A4 (U 0),.int .i64 0]):=by
 have hsm:=zAa
 have hc0:(0:Int)<=(c:Int):=by omega
 have hc1:(c:Int)<=11:=by omega
 go_enter Tryz.func144,Tryz.ntmps144
 go_wp2_with (first
  | (go_at_call 171;refine (ck _).mono ?_;rintro r w1 ⟨rfl,rfl⟩)
  | (go_at_call 172;refine wk w (cl _) ?_;intro w2 hb2 _ _ _ _ hA2 _;obtain ⟨_,_⟩:=zf hb2 (w.heap.size+1);clear hb2))
 go_loopw [7,8,9,10] (fun t _ _ _ wr=>∃ (k:Nat),k<=c/\t=.int .i64 ((k:Int)-1)/\C4 w2.heap.size (U k) wr/\C4 w.heap.size B wr/\C4 (w.heap.size+1) 0 wr/\Below w.heap.size w wr) (fun t _ _ _ _=>(intOf t+1).toNat)
 case atStart =>
  refine ⟨c,Nat.le_refl _,rfl,?_,?_,?_,bgo⟩
  ·rw [hU];exact C4.new _ _
  ·refine ⟨by simp;omega,?_,?_,?_,?_,?_,?_,?_,?_⟩<;>go_simp
  ·refine ⟨by simp;omega,?_,?_,?_,?_,?_,?_,?_,?_⟩<;>first|(rw [zPa];go_simp)|go_simp
 case round =>
  obtain ⟨k,hk,rfl,h3,h4,h5,hbw⟩:=hrel
  have hl3:=h3.lt
  have hl4:=h4.lt
  have hl5:=h5.lt
  have hz3:w.heap.size+1<w2.heap.size:=by omega
  obtain ⟨_,o0,o1,o2,o3,g0,g1,g2,g3⟩:=id h3
  obtain ⟨_,p0,p1,p2,p3,f0,f1,f2,f3⟩:=id h4
  obtain ⟨_,q0,q1,q2,q3,e0,e1,e2,e3⟩:=id h5
  by_cases hk0:k=0
  ·subst hk0
   go_wp2
   exact bodyPost_ret (by simp only [results,Tryz.results144];go_simp) rfl ⟨rfl,bgo⟩
  ·obtain ⟨j,rfl⟩:∃ j,k=j+1:=⟨k-1,by omega⟩
   have ej:((j+1:Nat):Int)-1=(j:Int):=by omega
   rw [ej]
   have hj:j<c:=by omega
   have hj0:¬ (j:Int)<0:=by omega
   have hj1:(j:Int)<=11:=by omega
   have ds:=cs.out j hj
   obtain ⟨x2,x3,x4⟩:=hX.out j
   have de:=ce.out j
   have du:=cu.out j hj
   have do':=co.out j
   have da:=ca.out j hj
   have dD:=hD.out j
   have d0:(0:Int)<=(D j:Int):=by omega
   have d1:(D j:Int)<1000:=by omega
   have x0:(0:Int)<=(X j:Int):=by omega
   have x1:(X j:Int)<1024:=by omega
   clear ej dD x3 hL ck cl
   generalize D j=Dj at *
   generalize X j=Xj at *
   generalize S j=Sj at *
   generalize M j=Mj at *
   generalize U (j+1)=Uj at *
   go_wp2_with (first
    | (go_at_call 139;refine (ds _).mono ?_;rintro r w3 ⟨rfl,hb3⟩;have hn3:=h3.next hb3;have hn4:=h4.next hb3;have hn5:=h5.next hb3;obtain ⟨_,_,_,_,hA3,_⟩:=wz w hb3;obtain ⟨_,_,_,_⟩:=zg hb3 (w.heap.size+1) w2.heap.size;clear hb3)
    | (go_at_call 173;refine (de _).mono ?_;rintro r w4 ⟨rfl,rfl⟩)
    | (go_at_call 106;refine wk w (du _) ?_;intro w5 hb5 _ _ _ _ hA5 _;obtain ⟨_,_,_,_⟩:=zg hb5 (w.heap.size+1) w2.heap.size;clear hb5))
   refine zSb 5 (by kernel_rfl) (by kernel_rfl) (by kernel_rfl) (fun _ _ d _ _ h=>by cases d<;>exact h) fun hne hcell=>?_
   simp only [List.take_succ_cons,List.take_zero,List.drop_succ_cons,List.drop_zero]
   repeat go_big_quiet_step (fail)
   go_big_quiet_step ((go_at_call 130;exact zKa _ zQa (do' _)))
   repeat go_big_quiet_step (fail)
   go_big_quiet_step ((go_at_call 107;exact zKa _ zQa (da _)))
   refine wpQuiet_nil fun w6 hb6=>?_
   obtain ⟨_,_,_,_,hA6,_⟩:=wz w hb6;obtain ⟨_,_,_,_⟩:=zg hb6 (w.heap.size+1) w2.heap.size;clear hb6
   go_wp2
   go_roundw
   case rel =>
    refine ⟨j,by omega,by go_num,?_,?_,?_,bgo⟩
    ·refine ⟨by simp;omega,?_,?_,?_,?_,?_,?_,?_,?_⟩<;>go_simp
    ·refine ⟨by simp;omega,?_,?_,?_,?_,?_,?_,?_,?_⟩<;>go_simp
    ·refine ⟨by simp;omega,?_,?_,?_,?_,?_,?_,?_,?_⟩<;>go_simp
   case measure=>simp [intOf]
end
theorem yNa (i:Nat):(1024:Nat)^i=2^(10*i):=by rw [Nat.pow_mul]
theorem zG5 (C:Nat)(n:Int)(w:World)(hC:C<2^256):CB 174 #[A4 C,.int .i64 n] w (.tuple #[A4 (dPv C n),.int .i64 (dPe C n)]):=by
 unfold dPv dPe
 by_cases h:0<=n/\n<=11
 ·obtain ⟨c,rfl⟩:=Int.eq_ofNat_of_zero_le h.1
  have hc:c<=11:=by omega
  rw [if_pos h,if_pos h,Int.toNat_natCast]
  have hA:∀ i,C/1000^i<2^256:=fun i=>Nat.lt_of_le_of_lt (Nat.div_le_self _ _) hC
  have hL0:=zOy (hA c)
  have hL1:0<=lenL (W4 (C/1000^c)) 4:=by
   by_cases h0:0<sizeL (W4 (C/1000^c)) 4
   ·obtain ⟨L,h1,_⟩:=zKg (zLa _) h0
    omega
   ·unfold lenL;rw [if_pos (by omega)];exact Int.le_refl _
  refine dpck_w C c w (fun i=>C/1000^i) (fun i=>dlP i C) (fun i=>C/1000^i%1000) (fun i=>dlE (C/1000^i%1000)) (fun i=>dlE (C/1000^i%1000)*2^(10*i)) (fun i=>(((dlP i C+dlE (C/1000^i%1000)*2^(10*i))/2^256:Nat):Int)) (lenL (W4 (C/1000^c)) 4) hc ?_ ?_ ?_ ?_ ?_ ?_ ?_ ?_ (fun W=>yPb _ W) (by simp) rfl _ _ ?_
  ·intro W
   have:=zTm (c:Int) W
   rw [decide_eq_true h] at this
   exact this
  ·intro i hi W
   have:=div4 (C/1000^i) 1000 W (hA i) (by decide) (by decide)
   rw [Nat.div_div_eq_div_mul,← Nat.pow_succ] at this
   exact this
  ·intro i
   exact Nat.mod_lt _ (by decide)
  ·intro i W
   exact denc_v _ (Nat.mod_lt _ (by decide)) W
  ·intro i
   exact (zFk _ (Nat.mod_lt _ (by decide))).2
  ·intro i W
   have:=(zFk (C/1000^i%1000) (Nat.mod_lt _ (by decide))).2
   exact of4 _ W (by omega)
  ·intro i hi W
   have h2:=(zFk (C/1000^i%1000) (Nat.mod_lt _ (by decide))).2
   have:=shl4 (dlE (C/1000^i%1000)) (10*i) W (Nat.lt_trans h2 (by decide)) (by omega)
   rw [show ((10*i:Nat):Int)=10*(i:Int) by omega] at this
   exact this
  ·intro i hi W
   have e:=zDn i C
   rw [yNa] at e
   have h1:=zVz (i+1) C (by omega)
   have:=add4 (dlP i C) (dlE (C/1000^i%1000)*2^(10*i)) W (by omega) (by omega)
   rw [show A4 (dlP i C+dlE (C/1000^i%1000)*2^(10*i))=A4 (dlP (i+1) C) by rw [e]] at this
   exact this
  ·by_cases hlt:C<1000^c
   ·rw [if_pos hlt,if_pos hlt]
    exact Or.inl ⟨by rw [hL0.2 (Nat.div_eq_of_lt hlt)];decide,rfl,rfl⟩
   ·rw [if_neg hlt,if_neg hlt]
    have h1:C/1000^c≠0:=by
     have:=(Nat.le_div_iff_mul_le (Nat.pow_pos (n:=c) (show 0<1000 by decide))).2 (show 1*1000^c<=C by omega)
     omega
    have h2:lenL (W4 (C/1000^c)) 4≠0:=fun e=>h1 (hL0.1 e)
    exact Or.inr ⟨by omega,rfl,rfl⟩
 ·rw [if_neg h,if_neg h]
  refine dpck_n C n w fun W=>?_
  have:=zTm n W
  rw [decide_eq_false h] at this
  exact this
theorem zF5 (B:Nat)(n:Int)(w:World)(hB:B<2^256):CB 144 #[A4 B,.int .i64 n] w (.tuple #[A4 (dUv B n),.int .i64 (dUe B n)]):=by
 unfold dUv dUe
 by_cases h:0<=n/\n<=11
 ·obtain ⟨c,rfl⟩:=Int.eq_ofNat_of_zero_le h.1
  have hc:c<=11:=by omega
  rw [if_pos h,if_pos h,Int.toNat_natCast]
  have hk:∀ W,CQ 171 #[.int .i64 (c:Int)] W (.bool true):=fun W=>by
   have:=zTm (c:Int) W
   rw [decide_eq_true h] at this
   exact this
  have hL:=zHq (k:=10*c) hB
  rw [← yNa] at hL
  by_cases hlt:B<1024^c
  ·rw [if_pos hlt,if_pos hlt]
   have hU:∀ k,dlU (c-k) (B/1024^k)<1000^11:=fun k=>Nat.lt_of_lt_of_le (zUz _ _) (Nat.pow_le_pow_right (by decide) (by omega))
   have e11:(1000:Nat)^11=1000000000000000000000000000000000:=by decide
   have e256:(2:Nat)^256=115792089237316195423570985008687907853269984665640564039457584007913129639936:=by decide
   have:=dupk_w B c w (lenL (W4 B) 4) hc hk (fun W=>yPb _ W) (fun k=>dlU (c-k) (B/1024^k)) (fun k=>B/1024^k%1024) (fun k=>dlD (B/1024^k%1024)) (fun k=>B/2^(10*k)) (fun k=>dlU (c-(k+1)) (B/1024^(k+1))*1000) (fun k=>(((dlU (c-(k+1)) (B/1024^(k+1))*1000+dlD (B/1024^k%1024))/2^256:Nat):Int)) (fun k=>((dlU (c-(k+1)) (B/1024^(k+1))*1000/2^256:Nat):Int)) (fun k hk W=>?_) (fun k=>?_) (fun k W=>?_) (fun k=>?_) (fun k hk W=>?_) (fun k W=>?_) (fun k hk W=>?_) (by rw [Nat.sub_self];rfl) (by have:=hL.2 hlt;omega)
   ·simp only [Nat.sub_zero,Nat.pow_zero,Nat.div_one] at this
    exact this
   ·have:=shr4 B (10*k) W hB (by omega)
    rw [show ((10*k:Nat):Int)=10*(k:Int) by omega] at this
    exact this
   ·refine ⟨?_,Nat.mod_lt _ (by decide),(zLa _ 0).1⟩
    unfold W4
    rw [← yNa,Nat.mul_zero,Nat.pow_zero,Nat.div_one]
    omega
   ·exact ddcd_v _ (Nat.mod_lt _ (by decide)) W
   ·exact (zJj _ (Nat.mod_lt _ (by decide))).1
   ·have h1:=hU (k+1)
    exact mul4 _ 1000 W (by omega) (by decide)
   ·have:=(zJj (B/1024^k%1024) (Nat.mod_lt _ (by decide))).1
    exact of4 _ W (by omega)
   ·have h1:=hU (k+1)
    have h2:=(zJj (B/1024^k%1024) (Nat.mod_lt _ (by decide))).1
    have e:=zJ5 (c-(k+1)) (B/1024^k)
    rw [Nat.div_div_eq_div_mul,← Nat.pow_succ,show c-(k+1)+1=c-k by omega] at e
    have:=add4 (dlU (c-(k+1)) (B/1024^(k+1))*1000) (dlD (B/1024^k%1024)) W (by omega) (by omega)
    rw [show A4 (dlU (c-(k+1)) (B/1024^(k+1))*1000+dlD (B/1024^k%1024))=A4 (dlU (c-k) (B/1024^k)) by rw [e]] at this
    exact this
  ·rw [if_neg hlt,if_neg hlt]
   exact dupk_l B c w (lenL (W4 B) 4) hc hk (fun W=>yPb _ W) (by
    have:¬ lenL (W4 B) 4<=((10*c:Nat):Int):=fun q=>hlt (hL.1 q)
    omega)
 ·rw [if_neg h,if_neg h]
  refine dupk_n B n w fun W=>?_
  have:=zTm n W
  rw [decide_eq_false h] at this
  exact this
end
section
attribute [local irreducible] W4
section
variable (dn:Bool)(g t bl:Int)(wo co pa:Nat)(le mo:Int)(w:World)
theorem zZ8 (B Ab Sh Fr:Nat)(S E cr:Int)
  (c1:∀ W,CB 139 #[A4 B,.int .i64 t] W (A4 Ab))
  (c2:∀ W,CB 129 #[A4 Ab,.int .i64 t] W (A4 Sh))
  (c3:∀ W,CB 140 #[A4 B,A4 Sh] W (.tuple #[A4 Fr,.int .u64 cr]))
  (c4:∀ W,CB 141 #[A4 Ab,.int .i64 g] W (.int .u64 S))
  (c5:∀ W,CB 142 #[.int .u64 (W4 Ab 0),.int .i64 g] W (.int .u64 E)) :
  CB 100 #[LD dn g t bl wo co pa le mo,A4 B] w (.tuple #[.bool (S==1),.int .u64 E,A4 Fr]):=by
 have hsm:=zAa
 go_enter Tryz.func100,Tryz.ntmps100
 go_wp2_with (go_at_call 139;refine wk w (c1 _) ?_;intro w1 hb1 _ _ _ _ hA1 _;obtain ⟨_,_,_,_⟩:=zg hb1 (w.heap.size+1) (w.heap.size+1+1);clear hb1)
 refine zSb 6 (by kernel_rfl) (by kernel_rfl) (by kernel_rfl) (fun _ _ d _ _ h=>by cases d<;>exact h) fun hne hcell=>?_
 simp only [List.take_succ_cons,List.take_zero,List.drop_succ_cons,List.drop_zero]
 repeat go_big_quiet_step (fail)
 go_big_quiet_step ((go_at_call 129;exact zKa _ zQa (c2 _)))
 repeat go_big_quiet_step (fail)
 go_big_quiet_step ((go_at_call 140;exact zKa _ zQa (c3 _)))
 repeat go_big_quiet_step (fail)
 refine wpQuiet_nil fun w2 hb2=>?_
 obtain ⟨_,_,_,_,hA2,_⟩:=wz w hb2;obtain ⟨_,_,_,_,_,_⟩:=zh hb2 (w.heap.size+1) (w.heap.size+1+1) w1.heap.size;clear hb2
 go_wp2
 refine zSb 13 (by kernel_rfl) (by kernel_rfl) (by kernel_rfl) (fun _ _ d _ _ h=>by cases d<;>exact h) fun hne hcell=>?_
 simp only [List.take_succ_cons,List.take_zero,List.drop_succ_cons,List.drop_zero]
 repeat go_big_quiet_step (fail)
 go_big_quiet_step ((go_at_call 141;exact zKa _ zQa (c4 _)))
 repeat go_big_quiet_step (fail)
 go_big_quiet_step ((go_at_call 142;exact zKa _ zQa (c5 _)))
 repeat go_big_quiet_step (fail)
 refine wpQuiet_nil fun w3 hb3=>?_
 obtain ⟨_,_,_,_,hA3,_⟩:=wz w hb3;obtain ⟨_,_,_,_,_,_⟩:=zh hb3 (w.heap.size+1) (w.heap.size+1+1) w1.heap.size;clear hb3
 go_wp2
 exact bodyPost_ret (v:=.tuple #[.bool (S==1),.int .u64 E,A4 Fr]) (by simp only [results,Tryz.results100];go_simp) rfl ⟨rfl,bgo⟩
end
section
variable (dn:Bool)(g t bl:Int)(wo co pa:Nat)(le mo:Int)(w:World)(E0 E:Int)(s:Bool)(F En Sh J:Nat)(cr:Int)
 (c49:∀ w,CB 130 #[.int .u64 E] w (A4 En))
 (c45:∀ w,CB 129 #[A4 En,.int .i64 t] w (A4 Sh))
 (c22:∀ w,CB 107 #[A4 Sh,A4 F] w (.tuple #[A4 J,.int .u64 cr]))
include c49 c45 c22
theorem yVc:CB 145 #[LD dn g t bl wo co pa le mo,.bool false,.int .u64 E,A4 F] w (A4 J):=by
 have hsm:=zAa
 go_enter Tryz.func145,Tryz.ntmps145
 go_wp2
 refine zOu 7 10 9 #[.int .u64 0,.int .u64 0,.int .u64 0,.int .u64 0] (by kernel_rfl) (by kernel_rfl) (by kernel_rfl) rfl (fun oa hoa a w=>?_) (by kernel_rfl) (by kernel_rfl) rfl rfl (fun _ _ d _ _ h=>by cases d<;>exact h) ?_
 ·cases hoa;exact ⟨23,by simp [go_sem]⟩
 apply Exists.intro
 refine ⟨fun al hne hcell=>?_,fun w1 hb1=>?_,fun g w1 hb1 hg0 hg1 hg2 hg3=>?_⟩
 ·simp only [List.take_succ_cons,List.take_zero]
  repeat go_big_quiet_step (fail)
  go_big_quiet_step ((go_at_call 130;exact zKa _ zSi (c49 _)))
  repeat go_big_quiet_step (fail)
  go_big_quiet_step ((go_at_call 129;exact zKa _ zSi (c45 _)))
  repeat go_big_quiet_step (fail)
  go_big_quiet_step ((go_at_call 107;exact zKa _ zSi (c22 _)))
  exact wpQuiet_nil rfl
 ·simp only [List.drop_succ_cons,List.drop_zero]
  obtain ⟨_,_,_,_,hA1,_⟩:=wz w hb1;obtain ⟨_,_,_,_⟩:=zg hb1 (w.heap.size+1) (w.heap.size+1+1);clear hb1
  go_wp2
  exact bodyPost_ret (v:=A4 J) (by simp only [results,Tryz.results145];go_simp) rfl ⟨rfl,bgo⟩
 ·simp only [List.drop_succ_cons,List.drop_zero,Nat.reduceSub,List.eraseIdx_cons_succ,List.eraseIdx_cons_zero]
  simp only [World.size_alloc] at hg0
  have hz0:g≠w.heap.size:=by omega
  have hz1:g≠w.heap.size+1:=by omega
  have hz2:g≠w.heap.size+1+1:=by omega
  obtain ⟨_,_,_,_,hA1,_⟩:=wz w hb1;obtain ⟨_,_,_,_⟩:=zg hb1 (w.heap.size+1) (w.heap.size+1+1);clear hb1
  go_wp2
  exact bodyPost_ret (v:=A4 J) (by simp only [results,Tryz.results145];go_simp) rfl ⟨rfl,bgo⟩
theorem yUc (n:Nat)(H:Int)(hg:g=(n:Int))(hn:n<=40)(hH:(2:Int)^n=H)(hH0:1<=H)(hH1:H<=1099511627776)(hE:bits .or .u64 E0 H=E) :
  CB 145 #[LD dn g t bl wo co pa le mo,.bool true,.int .u64 E0,A4 F] w (A4 J):=by
 have hsm:=zAa
 subst hg
 have hn0:(0:Int)<=(n:Int):=by omega
 have hn1:(n:Int)<=40:=by omega
 go_enter Tryz.func145,Tryz.ntmps145
 go_wp2
 refine zOu 7 10 9 #[.int .u64 0,.int .u64 0,.int .u64 0,.int .u64 0] (by kernel_rfl) (by kernel_rfl) (by kernel_rfl) rfl (fun oa hoa a w=>?_) (by kernel_rfl) (by kernel_rfl) rfl rfl (fun _ _ d _ _ h=>by cases d<;>exact h) ?_
 ·cases hoa;exact ⟨23,by simp [go_sem]⟩
 apply Exists.intro
 refine ⟨fun al hne hcell=>?_,fun w1 hb1=>?_,fun g w1 hb1 hg0 hg1 hg2 hg3=>?_⟩
 ·simp only [List.take_succ_cons,List.take_zero]
  repeat go_big_quiet_step (fail)
  go_big_quiet_step ((go_at_call 130;exact zKa _ zSi (c49 _)))
  repeat go_big_quiet_step (fail)
  go_big_quiet_step ((go_at_call 129;exact zKa _ zSi (c45 _)))
  repeat go_big_quiet_step (fail)
  go_big_quiet_step ((go_at_call 107;exact zKa _ zSi (c22 _)))
  exact wpQuiet_nil rfl
 ·simp only [List.drop_succ_cons,List.drop_zero]
  obtain ⟨_,_,_,_,hA1,_⟩:=wz w hb1;obtain ⟨_,_,_,_⟩:=zg hb1 (w.heap.size+1) (w.heap.size+1+1);clear hb1
  go_wp2
  exact bodyPost_ret (v:=A4 J) (by simp only [results,Tryz.results145];go_simp) rfl ⟨rfl,bgo⟩
 ·simp only [List.drop_succ_cons,List.drop_zero,Nat.reduceSub,List.eraseIdx_cons_succ,List.eraseIdx_cons_zero]
  simp only [World.size_alloc] at hg0
  have hz0:g≠w.heap.size:=by omega
  have hz1:g≠w.heap.size+1:=by omega
  have hz2:g≠w.heap.size+1+1:=by omega
  obtain ⟨_,_,_,_,hA1,_⟩:=wz w hb1;obtain ⟨_,_,_,_⟩:=zg hb1 (w.heap.size+1) (w.heap.size+1+1);clear hb1
  go_wp2
  exact bodyPost_ret (v:=A4 J) (by simp only [results,Tryz.results145];go_simp) rfl ⟨rfl,bgo⟩
end
theorem zQr (A B:Nat)(w:World)(hA:A<2^256)(hB:B<2^256):CB 103 #[A4 A,A4 B] w (A4 (if A<B then A else 0)):=by
 have c:=fun W=>cmp4 A B W hA hB
 have hsm:=zAa
 by_cases h:A<B
 ·rw [if_pos h]
  rw [show sgn (A:Int) (B:Int)=-1 by unfold sgn;rw [if_pos (by omega)]] at c
  clear hA hB h
  go_enter Tryz.func103,Tryz.ntmps103
  go_wp2_with (go_at_call 143;refine wk w (c _) ?_;intro w1 hb1 _ _ _ _ hA1 _;obtain ⟨_,_,_,_⟩:=zg hb1 (w.heap.size+1) (w.heap.size+1+1);clear hb1)
  exact bodyPost_ret (v:=A4 A) (by simp only [results,Tryz.results103];go_simp) rfl ⟨rfl,bgo⟩
 ·rw [if_neg h]
  have hs:0<=sgn (A:Int) (B:Int):=by unfold sgn;rw [if_neg (by omega)];split<;>decide
  generalize sgn (A:Int) (B:Int)=q at *
  clear hA hB h
  go_enter Tryz.func103,Tryz.ntmps103
  go_wp2_with (go_at_call 143;refine wk w (c _) ?_;intro w1 hb1 _ _ _ _ hA1 _;obtain ⟨_,_,_,_⟩:=zg hb1 (w.heap.size+1) (w.heap.size+1+1);clear hb1)
  exact bodyPost_ret (v:=A4 0) (by rw [zVd];simp only [results,Tryz.results103];go_simp) rfl ⟨rfl,bgo⟩
theorem dten_w (n:Nat)(w:World)(P:Nat->Nat)(cr:Nat->Int)(hn:n<=60)(hP:P 0=1)
  (c1:∀ W,CB 130 #[.int .u64 1] W (A4 1))
  (cm:Hid (∀ i W,CB 106 #[A4 (P i),.int .u64 10] W (.tuple #[A4 (P (i+1)),.int .u64 (cr i)]))) :
  CB 128 #[.int .i64 (n:Int)] w (A4 (P n)):=by
 have hsm:=zAa
 go_enter Tryz.func128,Tryz.ntmps128
 go_wp2_with (go_at_call 130;refine wk w (c1 _) ?_;intro w1 hb1 _ _ _ _ hA1 _;clear hb1)
 go_loopw [6,7,8,9,10,11,12,13] (fun t _ _ _ _ _ _ _ wr=>∃ (i:Nat),i<=n/\t=.int .i64 (i:Int)/\C4 w1.heap.size (P i) wr/\C4 w.heap.size 0 wr/\Below w.heap.size w wr) (fun t _ _ _ _ _ _ _ _=>n-(intOf t).toNat)
 case atStart =>
  refine ⟨0,Nat.zero_le _,rfl,?_,?_,bgo⟩
  ·rw [hP];refine ⟨by simp,?_,?_,?_,?_,?_,?_,?_,?_⟩<;>go_simp
  ·refine ⟨by simp;omega,?_,?_,?_,?_,?_,?_,?_,?_⟩<;>first|(rw [zPa];go_simp)|go_simp
 case round =>
  obtain ⟨i,hi,rfl,h3,h4,hbw⟩:=hrel
  have hl3:=h3.lt
  have hl4:=h4.lt
  obtain ⟨_,o0,o1,o2,o3,g0,g1,g2,g3⟩:=id h3
  obtain ⟨_,p0,p1,p2,p3,f0,f1,f2,f3⟩:=id h4
  by_cases hic:i<n
  ·have hl:(i:Int)<(n:Int):=by omega
   have hl':(i:Int)<=60:=by omega
   have dm:=cm.out i
   generalize P i=Pi at *
   go_wp2_with (go_at_call 106;refine (dm _).mono ?_;rintro r w2 ⟨rfl,hb2⟩;have hn3:=h3.next hb2;have hn4:=h4.next hb2;obtain ⟨_,_,_,_,hA2,_⟩:=wz w hb2;obtain ⟨_,_⟩:=zf hb2 w1.heap.size;clear hb2)
   go_roundw
   case rel=>exact ⟨i+1,by omega,by go_num,hn3.put,hn4.other (by omega),bgo⟩
   case measure=>simp [intOf];omega
  ·have hl:¬ (i:Int)<(n:Int):=by omega
   obtain rfl:i=n:=by omega
   go_wp2
   exact bodyPost_ret (v:=A4 (P i)) (by simp only [results,Tryz.results128];go_simp) rfl ⟨rfl,bgo⟩
theorem zK7 (n:Nat)(w:World)(hn:n<=60):CB 128 #[.int .i64 (n:Int)] w (A4 (10^n)):=by
 refine (dten_w n w (fun i=>10^i%2^256) (fun i=>((10^i%2^256*10/2^256:Nat):Int)) hn rfl (fun W=>of4 1 W (by decide)) ?_).mono ?_
 ·show ∀ _,_
  intro i W
  refine (mul4 (10^i%2^256) 10 W (Nat.mod_lt _ (by decide)) (by decide)).mono ?_
  rintro r w' ⟨rfl,hb⟩
  refine ⟨?_,hb⟩
  show Ending.returned (.tuple #[A4 (10^i%2^256*10),_])=Ending.returned (.tuple #[A4 (10^(i+1)%2^256),_])
  rw [zWl (10^(i+1)),← zWl (10^i%2^256*10),Nat.mod_mul_mod,zWl,show 10^(i+1)=10^i*10 from Nat.pow_succ _ _]
 ·rintro r w' ⟨rfl,hb⟩
  refine ⟨?_,hb⟩
  show Ending.returned (A4 (10^n%2^256))=_
  rw [zWl]
section
variable (g t bl:Int)(wo co pa:Nat)(le mo:Int)(w:World)
theorem read_p (R:Nat):CB 104 #[LD false g t bl wo co pa le mo,A4 R] w (A4 R):=by
 have hsm:=zAa
 go_enter Tryz.func104,Tryz.ntmps104
 go_wp2
 exact bodyPost_ret (v:=A4 R) (by simp only [results,Tryz.results104];go_simp) rfl ⟨rfl,bgo⟩
theorem read_d (R U:Nat)(E j:Int)(ht0:0<=t)(ht1:t<=256)(hj:t/10=j)
  (c:∀ W,CB 144 #[A4 R,.int .i64 j] W (.tuple #[A4 U,.int .i64 E])) :
  CB 104 #[LD true g t bl wo co pa le mo,A4 R] w (A4 U):=by
 have hsm:=zAa
 go_enter Tryz.func104,Tryz.ntmps104
 go_wp2_with (go_at_call 144;refine wk w (c _) ?_;intro w1 hb1 _ _ _ _ hA1 _;obtain ⟨_,_,_,_⟩:=zg hb1 (w.heap.size+1) (w.heap.size+1+1);clear hb1)
 exact bodyPost_ret (v:=A4 U) (by simp only [results,Tryz.results104];go_simp) rfl ⟨rfl,bgo⟩
theorem zD8 (R:Nat):CB 147 #[LD false g t bl wo co pa le mo,A4 R] w (A4 R):=by
 have hsm:=zAa
 go_enter Tryz.func147,Tryz.ntmps147
 go_wp2
 exact bodyPost_ret (v:=A4 R) (by simp only [results,Tryz.results147];go_simp) rfl ⟨rfl,bgo⟩
theorem zE8 (R U:Nat)(E j:Int)(ht0:0<=t)(ht1:t<=256)(hj:t/10=j)
  (c:∀ W,CB 174 #[A4 R,.int .i64 j] W (.tuple #[A4 U,.int .i64 E])) :
  CB 147 #[LD true g t bl wo co pa le mo,A4 R] w (A4 U):=by
 have hsm:=zAa
 go_enter Tryz.func147,Tryz.ntmps147
 go_wp2_with (go_at_call 174;refine wk w (c _) ?_;intro w1 hb1 _ _ _ _ hA1 _;obtain ⟨_,_,_,_⟩:=zg hb1 (w.heap.size+1) (w.heap.size+1+1);clear hb1)
 exact bodyPost_ret (v:=A4 U) (by simp only [results,Tryz.results147];go_simp) rfl ⟨rfl,bgo⟩
end
end
section
def ld18 (a:Addr):Sem (Array Value):=loadCellsFrom a 0 18 #[]
theorem zBe (a:Addr):loadCellsFrom a 0 18 #[]=ld18 a:=rfl
theorem zG4 {P:Program}(W:World)(b:Nat)(f:Nat->Value)(h:∀ i,i<18->W.cell? ⟨b,i,none⟩=some (f i)) :
  (ld18 ⟨b,0,none⟩).run P W=.ok ((List.range 18).map f).toArray W:=by
 have:=run_loadCellsFrom (P:=P) W ⟨b,0,none⟩ f 18 0 #[] (fun j hj=>by
  have hadd:(⟨b,0,none⟩:Addr).add (0+j)=⟨b,0+j,none⟩:=by unfold Addr.add;split<;>simp_all
  rw [hadd,Nat.zero_add]
  exact h j hj)
 unfold ld18
 rw [this]
 simp
def ld18x (a:Addr):Sem (Array Value):=loadCellsFrom a 0 18 #[]
theorem zVc {P:Program}(W:World)(b:Nat) :
  (ld18 ⟨b,0,none⟩).run P W=if (W.cell? ⟨b,0,none⟩).isSome=true/\(W.cell? ⟨b,1,none⟩).isSome=true/\(W.cell? ⟨b,2,none⟩).isSome=true/\(W.cell? ⟨b,3,none⟩).isSome=true/\(W.cell? ⟨b,4,none⟩).isSome=true/\(W.cell? ⟨b,5,none⟩).isSome=true/\(W.cell? ⟨b,6,none⟩).isSome=true/\(W.cell? ⟨b,7,none⟩).isSome=true/\(W.cell? ⟨b,8,none⟩).isSome=true/\(W.cell? ⟨b,9,none⟩).isSome=true/\(W.cell? ⟨b,10,none⟩).isSome=true/\(W.cell? ⟨b,11,none⟩).isSome=true/\(W.cell? ⟨b,12,none⟩).isSome=true/\(W.cell? ⟨b,13,none⟩).isSome=true/\(W.cell? ⟨b,14,none⟩).isSome=true/\(W.cell? ⟨b,15,none⟩).isSome=true/\(W.cell? ⟨b,16,none⟩).isSome=true/\(W.cell? ⟨b,17,none⟩).isSome=true then .ok #[(W.cell? ⟨b,0,none⟩).getD undef,(W.cell? ⟨b,1,none⟩).getD undef,(W.cell? ⟨b,2,none⟩).getD undef,(W.cell? ⟨b,3,none⟩).getD undef,(W.cell? ⟨b,4,none⟩).getD undef,(W.cell? ⟨b,5,none⟩).getD undef,(W.cell? ⟨b,6,none⟩).getD undef,(W.cell? ⟨b,7,none⟩).getD undef,(W.cell? ⟨b,8,none⟩).getD undef,(W.cell? ⟨b,9,none⟩).getD undef,(W.cell? ⟨b,10,none⟩).getD undef,(W.cell? ⟨b,11,none⟩).getD undef,(W.cell? ⟨b,12,none⟩).getD undef,(W.cell? ⟨b,13,none⟩).getD undef,(W.cell? ⟨b,14,none⟩).getD undef,(W.cell? ⟨b,15,none⟩).getD undef,(W.cell? ⟨b,16,none⟩).getD undef,(W.cell? ⟨b,17,none⟩).getD undef] W else (ld18x ⟨b,0,none⟩).run P W:=by
 split
 ·rename_i hc
  obtain ⟨h0,h1,h2,h3,h4,h5,h6,h7,h8,h9,h10,h11,h12,h13,h14,h15,h16,h17⟩:=hc
  have h:∀ i,i<18->W.cell? ⟨b,i,none⟩=some ((W.cell? ⟨b,i,none⟩).getD undef):=by
   intro i hi
   have hs:(W.cell? ⟨b,i,none⟩).isSome=true:=by
    rcases (show i=0∨i=1∨i=2∨i=3∨i=4∨i=5∨i=6∨i=7∨i=8∨i=9∨i=10∨i=11∨i=12∨i=13∨i=14∨i=15∨i=16∨i=17 by omega) with e|e|e|e|e|e|e|e|e|e|e|e|e|e|e|e|e|e<;>subst e<;>assumption
   cases hc:W.cell? ⟨b,i,none⟩ with
   | none=>rw [hc] at hs;cases hs
   | some v=>rfl
  exact zG4 (P:=P) W b (fun i=>(W.cell? ⟨b,i,none⟩).getD undef) h
 ·rfl
attribute [local irreducible] W4
attribute [local go_sem ↓] zBe
attribute [local go_sem] zVc
section
variable (dn:Bool)(g t bl:Int)(wo co pa:Nat)(le mo:Int)(w:World)(B Fr:Nat)(s:Bool)(G V:Int)
 (cs:∀ W,CB 100 #[LD dn g t bl wo co pa le mo,A4 B] W (.tuple #[.bool s,.int .u64 G,A4 Fr]))
 (ck:∀ W,CB 101 #[LD dn g t bl wo co pa le mo,.int .u64 G] W (.int .u64 V))
include cs ck
theorem yNc (h30:(V==30)=true):CB 61 #[LD dn g t bl wo co pa le mo,A4 B] w (DV 2 s false 0 0):=by
 have hsm:=zAa
 have hz:DV 2 s false 0 0=.agg #[.int .i64 2,.bool s,.bool false,.int .i64 0,.int .u64 0,.int .u64 0,.int .u64 0,.int .u64 0]:=by unfold DV;simp only [zPa]
 rw [hz]
 go_enter Tryz.func61,Tryz.ntmps61
 go_wp2_with (first
  | (go_at_call 100;refine wk w (cs _) ?_;intro w1 hb1 _ _ _ _ hA1 _;obtain ⟨_,_,_,_⟩:=zg hb1 (w.heap.size+1) (w.heap.size+1+1);clear hb1)
  | (go_at_call 101;refine wk w (ck _) ?_;intro w2 hb2 _ _ _ _ hA2 _;obtain ⟨_,_,_,_,_,_⟩:=zh hb2 (w.heap.size+1) (w.heap.size+1+1) w1.heap.size;clear hb2))
 exact bodyPost_ret (by simp only [results,Tryz.results61];go_simp) rfl ⟨rfl,bgo⟩
variable (U K:Nat)
 (cr:∀ W,CB 104 #[LD dn g t bl wo co pa le mo,A4 Fr] W (A4 U))
include cr
theorem yMc (q:Bool)(h30:(V==30)=false)(h31:(V==31)=true)
  (cq:∀ W,CB 102 #[LD dn g t bl wo co pa le mo,.int .u64 G] W (.bool q))
  (co':∀ W,CB 103 #[A4 U,A4 pa] W (A4 K)) :
  CB 61 #[LD dn g t bl wo co pa le mo,A4 B] w (DV 3 s q 0 K):=by
 have hsm:=zAa
 go_enter Tryz.func61,Tryz.ntmps61
 go_wp2_with (first
  | (go_at_call 100;refine wk w (cs _) ?_;intro w1 hb1 _ _ _ _ hA1 _;obtain ⟨_,_,_,_⟩:=zg hb1 (w.heap.size+1) (w.heap.size+1+1);clear hb1)
  | (go_at_call 101;refine wk w (ck _) ?_;intro w2 hb2 _ _ _ _ hA2 _;obtain ⟨_,_,_,_,_,_⟩:=zh hb2 (w.heap.size+1) (w.heap.size+1+1) w1.heap.size;clear hb2))
 refine zSb 10 (by kernel_rfl) (by kernel_rfl) (by kernel_rfl) (fun _ _ d _ _ h=>by cases d<;>exact h) fun hne hcell=>?_
 simp only [List.take_succ_cons,List.take_zero,List.drop_succ_cons,List.drop_zero]
 repeat go_big_quiet_step (fail)
 go_big_quiet_step ((go_at_call 102;exact zKa _ zQa (cq _)))
 repeat go_big_quiet_step (fail)
 go_big_quiet_step ((go_at_call 104;exact zKa _ zQa (cr _)))
 repeat go_big_quiet_step (fail)
 go_big_quiet_step ((go_at_call 103;exact zKa _ zQa (co' _)))
 repeat go_big_quiet_step (fail)
 refine wpQuiet_nil fun w3 hb3=>?_
 obtain ⟨_,_,_,_,hA3,_⟩:=wz w hb3;obtain ⟨_,_,_,_,_,_⟩:=zh hb3 (w.heap.size+1) (w.heap.size+1+1) w1.heap.size;clear hb3
 go_wp2
 exact bodyPost_ret (v:=DV 3 s q 0 K) (by simp only [results,Tryz.results61];go_simp) rfl ⟨rfl,bgo⟩
theorem yOc (F L c1 c2:Int)(M C:Nat)(h30:(V==30)=false)(h31:(V==31)=false)(hF0:0<=F)(hF1:F<=1000000)(hl0:-1000000<=le)(hl1:le<=1000000)
  (cp:∀ W,CB 105 #[LD dn g t bl wo co pa le mo,.int .u64 G] W (.tuple #[.int .u64 F,.int .u64 L]))
  (cm:∀ W,CB 106 #[A4 wo,.int .u64 L] W (.tuple #[A4 M,.int .u64 c1]))
  (ca:∀ W,CB 107 #[A4 M,A4 U] W (.tuple #[A4 C,.int .u64 c2]))
  (co':∀ W,CB 103 #[A4 C,A4 co] W (A4 K)) :
  CB 61 #[LD dn g t bl wo co pa le mo,A4 B] w (DV 1 s false (F+le) K):=by
 have hsm:=zAa
 go_enter Tryz.func61,Tryz.ntmps61
 go_wp2_with (first
  | (go_at_call 100;refine wk w (cs _) ?_;intro w1 hb1 _ _ _ _ hA1 _;obtain ⟨_,_,_,_⟩:=zg hb1 (w.heap.size+1) (w.heap.size+1+1);clear hb1)
  | (go_at_call 101;refine wk w (ck _) ?_;intro w2 hb2 _ _ _ _ hA2 _;obtain ⟨_,_,_,_,_,_⟩:=zh hb2 (w.heap.size+1) (w.heap.size+1+1) w1.heap.size;clear hb2)
  | (go_at_call 105;refine wk w (cp _) ?_;intro w3 hb3 _ _ _ _ hA3 _;obtain ⟨_,_,_,_,_,_⟩:=zh hb3 (w.heap.size+1) (w.heap.size+1+1) w1.heap.size;clear hb3)
  | (go_at_call 106;refine wk w (cm _) ?_;intro w4 hb4 _ _ _ _ hA4 _;obtain ⟨_,_,_,_,_,_⟩:=zh hb4 (w.heap.size+1) (w.heap.size+1+1) w1.heap.size;clear hb4))
 refine zSb 5 (by kernel_rfl) (by kernel_rfl) (by kernel_rfl) (fun _ _ d _ _ h=>by cases d<;>exact h) fun hne hcell=>?_
 simp only [List.take_succ_cons,List.take_zero,List.drop_succ_cons,List.drop_zero]
 repeat go_big_quiet_step (fail)
 go_big_quiet_step ((go_at_call 104;exact zKa _ zQa (cr _)))
 repeat go_big_quiet_step (fail)
 go_big_quiet_step ((go_at_call 107;exact zKa _ zQa (ca _)))
 repeat go_big_quiet_step (fail)
 refine wpQuiet_nil fun w5 hb5=>?_
 obtain ⟨_,_,_,_,hA5,_⟩:=wz w hb5;obtain ⟨_,_,_,_,_,_⟩:=zh hb5 (w.heap.size+1) (w.heap.size+1+1) w1.heap.size;obtain ⟨_,_⟩:=zf hb5 w4.heap.size;clear hb5
 go_wp2
 refine zSb 10 (by kernel_rfl) (by kernel_rfl) (by kernel_rfl) (fun _ _ d _ _ h=>by cases d<;>exact h) fun hne hcell=>?_
 simp only [List.take_succ_cons,List.take_zero,List.drop_succ_cons,List.drop_zero]
 repeat go_big_quiet_step (fail)
 go_big_quiet_step ((go_at_call 103;exact zKa _ zQa (co' _)))
 repeat go_big_quiet_step (fail)
 refine wpQuiet_nil fun w6 hb6=>?_
 obtain ⟨_,_,_,_,hA6,_⟩:=wz w hb6;obtain ⟨_,_,_,_,_,_⟩:=zh hb6 (w.heap.size+1) (w.heap.size+1+1) w1.heap.size;obtain ⟨_,_⟩:=zf hb6 w4.heap.size;clear hb6
 go_wp2
 exact bodyPost_ret (v:=DV 1 s false (F+le) K) (by simp only [results,Tryz.results61];go_simp) rfl ⟨rfl,bgo⟩
end
section
variable (dn:Bool)(g t bl:Int)(wo co pa:Nat)(le mo:Int)(w:World)(c x:Int)(s q:Bool)(k P:Nat)(E:Int)
theorem yGc (h:∀ W,CB 108 #[LD dn g t bl wo co pa le mo,DV 1 s q x k] W (.tuple #[A4 P,.int .i64 E])) :
  CB 62 #[LD dn g t bl wo co pa le mo,DV 1 s q x k] w (.tuple #[A4 P,.int .i64 E]):=by
 have hsm:=zAa
 go_enter Tryz.func62,Tryz.ntmps62
 go_wp2_with (go_at_call 108;refine wk w (h _) ?_;intro w1 hb1 _ _ _ _ hA1 _;obtain ⟨_,_,_,_⟩:=zg hb1 (w.heap.size+1) (w.heap.size+1+1);clear hb1)
 exact bodyPost_ret (v:=.tuple #[A4 P,.int .i64 E]) (by simp only [results,Tryz.results62];go_simp) rfl ⟨rfl,bgo⟩
theorem yFc (h:∀ W,CB 109 #[LD dn g t bl wo co pa le mo,DV 2 s q x k] W (.tuple #[A4 P,.int .i64 E])) :
  CB 62 #[LD dn g t bl wo co pa le mo,DV 2 s q x k] w (.tuple #[A4 P,.int .i64 E]):=by
 have hsm:=zAa
 go_enter Tryz.func62,Tryz.ntmps62
 go_wp2_with (go_at_call 109;refine wk w (h _) ?_;intro w1 hb1 _ _ _ _ hA1 _;obtain ⟨_,_,_,_⟩:=zg hb1 (w.heap.size+1) (w.heap.size+1+1);clear hb1)
 exact bodyPost_ret (v:=.tuple #[A4 P,.int .i64 E]) (by simp only [results,Tryz.results62];go_simp) rfl ⟨rfl,bgo⟩
theorem yEc (h:∀ W,CB 110 #[LD dn g t bl wo co pa le mo,DV 3 s q x k] W (.tuple #[A4 P,.int .i64 E])) :
  CB 62 #[LD dn g t bl wo co pa le mo,DV 3 s q x k] w (.tuple #[A4 P,.int .i64 E]):=by
 have hsm:=zAa
 go_enter Tryz.func62,Tryz.ntmps62
 go_wp2_with (go_at_call 110;refine wk w (h _) ?_;intro w1 hb1 _ _ _ _ hA1 _;obtain ⟨_,_,_,_⟩:=zg hb1 (w.heap.size+1) (w.heap.size+1+1);clear hb1)
 exact bodyPost_ret (v:=.tuple #[A4 P,.int .i64 E]) (by simp only [results,Tryz.results62];go_simp) rfl ⟨rfl,bgo⟩
theorem yHc (h1:(c==1)=false)(h2:(c==2)=false)(h3:(c==3)=false) :
  CB 62 #[LD dn g t bl wo co pa le mo,DV c s q x k] w (.tuple #[A4 0,.int .i64 3]):=by
 have hsm:=zAa
 rw [zVd]
 go_enter Tryz.func62,Tryz.ntmps62
 go_wp2
 exact bodyPost_ret (by simp only [results,Tryz.results62];go_simp) rfl ⟨rfl,bgo⟩
end
section
variable (dn:Bool)(g t bl:Int)(wo co pa:Nat)(le mo:Int)(w:World)(x:Int)(s q:Bool)(k J:Nat)(G:Int)
theorem dinf_s:CB 109 #[LD dn g t bl wo co pa le mo,DV 2 s true x k] w (.tuple #[A4 0,.int .i64 3]):=by
 have hsm:=zAa
 rw [zVd]
 go_enter Tryz.func109,Tryz.ntmps109
 go_wp2
 exact bodyPost_ret (by simp only [results,Tryz.results109];go_simp) rfl ⟨rfl,bgo⟩
theorem dinf_x (hx:(x != 0)=true):CB 109 #[LD dn g t bl wo co pa le mo,DV 2 s false x k] w (.tuple #[A4 0,.int .i64 3]):=by
 have hsm:=zAa
 rw [zVd]
 go_enter Tryz.func109,Tryz.ntmps109
 go_wp2
 exact bodyPost_ret (by simp only [results,Tryz.results109];go_simp) rfl ⟨rfl,bgo⟩
theorem dinf_k (hk:decide (W4 k 0=0/\W4 k 1=0/\W4 k 2=0/\W4 k 3=0)=false):CB 109 #[LD dn g t bl wo co pa le mo,DV 2 s false 0 k] w (.tuple #[A4 0,.int .i64 3]):=by
 have hsm:=zAa
 have hq:=zE5 (W4 k 0) (W4 k 1) (W4 k 2) (W4 k 3) 0 0 0 0
 rw [hk] at hq
 rw [zVd]
 go_enter Tryz.func109,Tryz.ntmps109
 go_wp2
 exact bodyPost_ret (by simp only [results,Tryz.results109];go_simp) rfl ⟨rfl,bgo⟩
theorem dinf_y
  (cp:∀ W,CB 148 #[LD dn g t bl wo co pa le mo,.int .u64 30,.bool false] W (.int .u64 G))
  (cj:∀ W,CB 145 #[LD dn g t bl wo co pa le mo,.bool s,.int .u64 G,Z4] W (A4 J)) :
  CB 109 #[LD dn g t bl wo co pa le mo,DV 2 s false 0 0] w (.tuple #[A4 J,.int .i64 0]):=by
 have hsm:=zAa
 have hz:DV 2 s false 0 0=.agg #[.int .i64 2,.bool s,.bool false,.int .i64 0,.int .u64 0,.int .u64 0,.int .u64 0,.int .u64 0]:=by unfold DV;simp only [zPa]
 rw [hz]
 unfold Z4 at *
 have hq:=zE5 0 0 0 0 0 0 0 0
 simp only [and_self,decide_true] at hq
 go_enter Tryz.func109,Tryz.ntmps109
 go_wp2
 refine zSb 7 (by kernel_rfl) (by kernel_rfl) (by kernel_rfl) (fun _ _ d _ _ h=>by cases d<;>exact h) fun hne hcell=>?_
 simp only [List.take_succ_cons,List.take_zero,List.drop_succ_cons,List.drop_zero]
 repeat go_big_quiet_step (fail)
 go_big_quiet_step ((go_at_call 148;exact zKa _ zQa (cp _)))
 repeat go_big_quiet_step (fail)
 go_big_quiet_step ((go_at_call 145;exact zKa _ zQa (cj _)))
 repeat go_big_quiet_step (fail)
 refine wpQuiet_nil fun w1 hb1=>?_
 obtain ⟨_,_,_,_,hA1,_⟩:=wz w hb1;obtain ⟨_,_,_,_⟩:=zg hb1 (w.heap.size+1) (w.heap.size+1+1);clear hb1
 go_wp2
 exact bodyPost_ret (v:=.tuple #[A4 J,.int .i64 0]) (by simp only [results,Tryz.results109];go_simp) rfl ⟨rfl,bgo⟩
theorem dnan_x (hx:(x != 0)=true):CB 110 #[LD dn g t bl wo co pa le mo,DV 3 s q x k] w (.tuple #[A4 0,.int .i64 3]):=by
 have hsm:=zAa
 rw [zVd]
 go_enter Tryz.func110,Tryz.ntmps110
 go_wp2
 exact bodyPost_ret (by simp only [results,Tryz.results110];go_simp) rfl ⟨rfl,bgo⟩
variable (Q:Int)(cc:∀ W,CB 143 #[A4 k,A4 pa] W (.int .i64 Q))
include cc
theorem dnan_k (hQ:0<=Q):CB 110 #[LD dn g t bl wo co pa le mo,DV 3 s q 0 k] w (.tuple #[A4 0,.int .i64 3]):=by
 have hsm:=zAa
 rw [zVd]
 go_enter Tryz.func110,Tryz.ntmps110
 go_wp2_with (go_at_call 143;refine wk w (cc _) ?_;intro w1 hb1 _ _ _ _ hA1 _;obtain ⟨_,_,_,_,_,_⟩:=zh hb1 (w.heap.size+1) (w.heap.size+1+1) (w.heap.size+1+1+1);clear hb1)
 exact bodyPost_ret (by simp only [results,Tryz.results110];go_simp) rfl ⟨rfl,bgo⟩
theorem dnan_y (R:Nat)(hQ:¬ 0<=Q)
  (cp:∀ W,CB 148 #[LD dn g t bl wo co pa le mo,.int .u64 31,.bool q] W (.int .u64 G))
  (cw:∀ W,CB 147 #[LD dn g t bl wo co pa le mo,A4 k] W (A4 R))
  (cj:∀ W,CB 145 #[LD dn g t bl wo co pa le mo,.bool s,.int .u64 G,A4 R] W (A4 J)) :
  CB 110 #[LD dn g t bl wo co pa le mo,DV 3 s q 0 k] w (.tuple #[A4 J,.int .i64 0]):=by
 have hsm:=zAa
 go_enter Tryz.func110,Tryz.ntmps110
 go_wp2_with (go_at_call 143;refine wk w (cc _) ?_;intro w1 hb1 _ _ _ _ hA1 _;obtain ⟨_,_,_,_,_,_⟩:=zh hb1 (w.heap.size+1) (w.heap.size+1+1) (w.heap.size+1+1+1);clear hb1)
 refine zSb 11 (by kernel_rfl) (by kernel_rfl) (by kernel_rfl) (fun _ _ d _ _ h=>by cases d<;>exact h) fun hne hcell=>?_
 simp only [List.take_succ_cons,List.take_zero,List.drop_succ_cons,List.drop_zero]
 repeat go_big_quiet_step (fail)
 go_big_quiet_step ((go_at_call 148;exact zKa _ zQa (cp _)))
 repeat go_big_quiet_step (fail)
 go_big_quiet_step ((go_at_call 147;exact zKa _ zQa (cw _)))
 repeat go_big_quiet_step (fail)
 go_big_quiet_step ((go_at_call 145;exact zKa _ zQa (cj _)))
 repeat go_big_quiet_step (fail)
 refine wpQuiet_nil fun w2 hb2=>?_
 obtain ⟨_,_,_,_,hA2,_⟩:=wz w hb2;obtain ⟨_,_,_,_,_,_⟩:=zh hb2 (w.heap.size+1) (w.heap.size+1+1) (w.heap.size+1+1+1);clear hb2
 go_wp2
 exact bodyPost_ret (v:=.tuple #[A4 J,.int .i64 0]) (by simp only [results,Tryz.results110];go_simp) rfl ⟨rfl,bgo⟩
end
end
end Go.Proofs.YtpabnhlfbjkmaaaGreatDoor
