/-
  Texts that the proof leans on.
-/
import Derived.Test.YtahfkpjhlbiamaaGreatDoorR16
import Derived.Test.YtahfkpjhlbiamaaGreatDoorR1
import Derived.Test.YtahfkpjhlbiamaaGreatDoorR13
import Derived.Test.YtahfkpjhlbiamaaGreatDoorR4
import Derived.Test.YtahfkpjhlbiamaaGreatDoorR12
import Derived.Test.YtahfkpjhlbiamaaGreatDoorR10
import Derived.Test.YtahfkpjhlbiamaaGreatDoorR7
import Derived.Test.YtahfkpjhlbiamaaGreatDoorR17
import Derived.Test.YtahfkpjhlbiamaaGreatDoorR8
import Derived.Test.YtahfkpjhlbiamaaGreatDoorR11
import Derived.Test.YtahfkpjhlbiamaaGreatDoorRows
import Derived.ProofKit
import Derived.OpenShut
import Derived.Carry
import Derived.Deep.DeepHandedRow
import Derived.LaidLaws
import Derived.ChangeMaps5
set_option linter.unusedVariables false
set_option linter.unusedSectionVars false
set_option linter.unusedSimpArgs false
set_option maxHeartbeats 8000000
set_option maxRecDepth 20000
namespace Go.Proofs.YtahfkpjhlbiamaaGreatDoor
open Go.RowKit
section
attribute [local irreducible] W4
abbrev IV (n:Int)(nm:ByteArray)(wd:Int)(f e:Nat)(l m:Int):Value:=.agg #[.int .i64 n,.string nm,.int .i64 2,.int .i64 wd,.int .i64 ((f:Int)+1),.int .i64 e,.int .i64 l,.int .i64 m,.int .i64 ((f:Int)-1),.bool false]
end
section
structure C4 (g X:Nat) (w:World):Prop where
 lt:g<w.heap.size
 c0:w.cell? ⟨g,0,none⟩=some (.int .u64 (W4 X 0))
 c1:w.cell? ⟨g,1,none⟩=some (.int .u64 (W4 X 1))
 c2:w.cell? ⟨g,2,none⟩=some (.int .u64 (W4 X 2))
 c3:w.cell? ⟨g,3,none⟩=some (.int .u64 (W4 X 3))
 f0:w.frozen? ⟨g,0,none⟩=false
 f1:w.frozen? ⟨g,1,none⟩=false
 f2:w.frozen? ⟨g,2,none⟩=false
 f3:w.frozen? ⟨g,3,none⟩=false
theorem C4.next {g X:Nat}{w w':World}(h:C4 g X w)(hb:Below w.heap.size w w'):C4 g X w' :=
 ⟨Nat.lt_of_lt_of_le h.lt hb.size,(hb.cell (p:=⟨g,0,none⟩) h.lt).trans h.c0,(hb.cell (p:=⟨g,1,none⟩) h.lt).trans h.c1,(hb.cell (p:=⟨g,2,none⟩) h.lt).trans h.c2,(hb.cell (p:=⟨g,3,none⟩) h.lt).trans h.c3,
  (hb.frozen (p:=⟨g,0,none⟩) h.lt).trans h.f0,(hb.frozen (p:=⟨g,1,none⟩) h.lt).trans h.f1,(hb.frozen (p:=⟨g,2,none⟩) h.lt).trans h.f2,(hb.frozen (p:=⟨g,3,none⟩) h.lt).trans h.f3⟩
theorem C4.new (w:World)(t:TypeId):C4 w.heap.size 0 (w.alloc (.cells #[.int .u64 0,.int .u64 0,.int .u64 0,.int .u64 0] t)):=by
 refine ⟨by simp,?_,?_,?_,?_,?_,?_,?_,?_⟩<;>first|(rw [zNa];go_simp)|go_simp
abbrev zRv (w:World)(g X:Nat):World:=(((w.setCell ⟨g,0,none⟩ (.int .u64 (W4 X 0))).setCell ⟨g,1,none⟩ (.int .u64 (W4 X 1))).setCell ⟨g,2,none⟩ (.int .u64 (W4 X 2))).setCell ⟨g,3,none⟩ (.int .u64 (W4 X 3))
theorem C4.put {g X Y:Nat}{w:World}(h:C4 g X w):C4 g Y (zRv w g Y):=by
 have hsm:=zAa
 obtain ⟨h0,h1,h2,h3,h4,h5,h6,h7,h8⟩:=h
 refine ⟨by simp;exact h0,?_,?_,?_,?_,?_,?_,?_,?_⟩<;>go_simp
theorem zBb (w:World)(g X:Nat):Upd g w (zRv w g X):=((((Upd.refl g w).set 0 _).set 1 _).set 2 _).set 3 _
theorem NT.upd {K V g b k c:Nat}{w w':World}(h:NT K V (.slice (some ⟨b,0,none⟩) k c) w)(hne:b≠g)(hU:Upd g w w'):NT K V (.slice (some ⟨b,0,none⟩) k c) w':=by
 obtain ⟨g',k',c',z,e,hk,hN,hv,hs⟩:=h
 cases e
 exact ⟨b,k,c,z,rfl,hk,hU.num hne hN,hv,hs⟩
theorem NT.lt {K V b k c:Nat}{w:World}(h:NT K V (.slice (some ⟨b,0,none⟩) k c) w):b<w.heap.size:=by
 obtain ⟨g',k',c',z,e,hk,hN,hv,hs⟩:=h
 cases e
 rcases hN.2.2.2.2 with ⟨h,_⟩|⟨b',off',h,hbs,_⟩
 ·cases h
 ·cases h;exact hbs
theorem zK7 {W:World}{g:Nat}(hg:g=W.heap.size):NT 1 1000 (.slice (some ⟨g,0,none⟩) 1 1) (W.alloc (.cells #[.int .u64 1000] 22)):=by
 subst hg
 exact ⟨_,1,1,zGc 1000,rfl,Nat.le_refl _,zMc W 1000 (by omega),by simp [val,zGc],by simp [sizeL,zGc]⟩
theorem zYa {W:World}{g V:Nat}{vi:Int}(hg:g=W.heap.size)(hv:vi=(V:Int))(hb:V<18446744073709551616):NV 1 V (.slice (some ⟨g,0,none⟩) 1 1) (W.alloc (.cells #[.int .u64 vi] 22)):=by
 subst hg hv
 exact ⟨_,1,1,zGc V,rfl,Nat.le_refl _,zMc W V (by omega),by simp [val,zGc]⟩
attribute [local irreducible] W4 NT NV
theorem zX3 (k:Nat)(w:World)(hk:k<2^256) :
  Calls Tryz.prog 66 #[A4 k] w fun r w'=>∃ g n cap,r=.returned (.slice (some ⟨g,0,none⟩) n cap)/\w.heap.size<g/\NT 4 k (.slice (some ⟨g,0,none⟩) n cap) w'/\Below w.heap.size w w':=by
 have hn0:=zXr (w0:=w) (B:=k) (t:=24) hk (Below.refl _ _)
 have c49:Calls Tryz.prog 128 #[.slice (some ⟨w.heap.size,0,none⟩) 4 4] (w.alloc (.cells #[.int .u64 (W4 k 0),.int .u64 (W4 k 1),.int .u64 (W4 k 2),.int .u64 (W4 k 3)] 24)) fun r w'=>∃ g n cap,r=.returned (.slice (some ⟨g,0,none⟩) n cap)/\w.heap.size<g/\NT 4 k (.slice (some ⟨g,0,none⟩) n cap) w'/\Below (w.alloc (.cells #[.int .u64 (W4 k 0),.int .u64 (W4 k 1),.int .u64 (W4 k 2),.int .u64 (W4 k 3)] 24)).heap.size (w.alloc (.cells #[.int .u64 (W4 k 0),.int .u64 (W4 k 1),.int .u64 (W4 k 2),.int .u64 (W4 k 3)] 24)) w':=by
  unfold NV at hn0
  obtain ⟨g,n,cap,z,e,hn,hN,hv⟩:=hn0
  cases e
  refine (zQg _ 4 4 z _ (by decide) hN).mono ?_
  rintro r w' ⟨g,cap,rfl,hN',hB,hG⟩
  refine ⟨g,_,cap,rfl,by simp at hG;omega,?_,hB⟩
  unfold NT
  exact ⟨g,_,cap,z,rfl,zCa _ _,hN',by rw [zKa,hv],zFa _ _⟩
 have hb0:=zBa w (.cells #[.int .u64 (W4 k 0),.int .u64 (W4 k 1),.int .u64 (W4 k 2),.int .u64 (W4 k 3)] 24)
 clear hn0
 unfold A4
 go_enter Tryz.func66,Tryz.ntmps66
 go_wp2_with (go_at_call 128;refine c49.mono ?_;rintro r w1 ⟨g,n,cap,rfl,hg,hv,hb1⟩)
 go_ret
 exact ⟨g,n,cap,rfl,hg,hv,hb0.trans (hb1.mono hb0.size)⟩
theorem zT0 (C:Nat)(n:Int)(h:n<0∨11<n)(w:World):CB 91 #[A4 C,.int .i64 n] w (.tuple #[A4 0,.int .i64 1]):=by
 rw [zEd]
 have hsm:=zAa
 by_cases h0:n<0
 ·go_enter Tryz.func91,Tryz.ntmps91
  go_wp2
  exact bodyPost_ret (by simp only [results,Tryz.results91];go_simp) rfl ⟨rfl,bgo⟩
 ·have h1:11<n:=by omega
  go_enter Tryz.func91,Tryz.ntmps91
  go_wp2
  exact bodyPost_ret (by simp only [results,Tryz.results91];go_simp) rfl ⟨rfl,bgo⟩
section
variable (C c:Nat)(w:World)(A P D:Nat->Nat)(hc:c<=11)
 (c22:∀ W,Calls Tryz.prog 66 #[A4 C] W fun r w'=>∃ g n cap,r=.returned (.slice (some ⟨g,0,none⟩) n cap)/\W.heap.size<g/\NT 4 (A 0) (.slice (some ⟨g,0,none⟩) n cap) w'/\Below W.heap.size W w')
 (c23:Hid (∀ i,i<c->∀ W vn vd,NT 4 (A i) vn W->NT 1 1000 vd W->Calls Tryz.prog 92 #[vn,vd] W fun r w'=>∃ g k cap v,r=.returned (.tuple #[.slice (some ⟨g,0,none⟩) k cap,v])/\W.heap.size<=g/\NT 4 (A (i+1)) (.slice (some ⟨g,0,none⟩) k cap) w'/\NT 1 (A i%1000) v w'/\Below W.heap.size W w'))
 (c24:Hid (∀ i W v,NT 1 (A i%1000) v W->CQ 61 #[v] W (.int .i64 ((A i%1000:Nat):Int))))
 (c10:Hid (∀ i W,CB 155 #[.int .i64 ((A i%1000:Nat):Int)] W (.tuple #[.int .i64 (D i:Int),.int .i64 0])))
 (hD:Hid (∀ i,D i<1024))
 (c25:Hid (∀ i,i<c->∀ W v,NV 1 (D i) v W->CB 90 #[A4 (P i),v,.int .i64 (10*(i:Int))] W (A4 (P (i+1)))))
 (hP:P 0=0)
include hc c22 c23 c24 c10 hD c25 hP
theorem rpck_w (R:Nat)(E:Int)(hR:(A c=0/\R=P c/\E=0)∨(A c≠0/\R=0/\E=3)):CB 91 #[A4 C,.int .i64 (c:Int)] w (.tuple #[A4 R,.int .i64 E]):=by
 have h0:¬ (c:Int)<0:=by omega
 have h9:¬ 11<(c:Int):=by omega
 have hsm:=zAa
 go_enter Tryz.func91,Tryz.ntmps91
 go_wp2_with (go_at_call 66;refine (c22 _).mono ?_;rintro r w1 ⟨ga,na,ca,rfl,hga,hna,hb1⟩;obtain ⟨_,_,_,_,hA1,_⟩:=wz w hb1;obtain ⟨_,_⟩:=zf hb1 (w.heap.size+1);clear hb1)
 go_loopw [6,9,10,11,12,8,23] (fun t6 _ _ _ _ _ t wr=>∃ (i g k cap:Nat),i<=c/\t=.int .i64 (i:Int)/\t6=.slice (some ⟨g,0,none⟩) k cap/\g≠w1.heap.size/\NT 4 (A i) (.slice (some ⟨g,0,none⟩) k cap) wr/\C4 w1.heap.size (P i) wr/\C4 (w.heap.size+1) 0 wr/\Below w.heap.size w wr) (fun _ _ _ _ _ _ t _=>c-(intOf t).toNat)
 case atStart =>
  have hga1:=hna.lt
  exact ⟨0,ga,na,ca,Nat.zero_le _,rfl,rfl,by omega,hna.next (zBa _ _),by rw [hP];exact C4.new _ _,by refine ⟨by simp;omega,?_,?_,?_,?_,?_,?_,?_,?_⟩<;>first|(rw [zNa];go_simp)|go_simp,bgo⟩
 case round =>
  obtain ⟨i,g,k,cap,hi,rfl,rfl,hg,hn,h4,h5,hbw⟩:=hrel
  have hl4:=h4.lt
  have hl5:=h5.lt
  have hl6:w.heap.size<wr.heap.size:=by omega
  have hge:w.heap.size<=w1.heap.size:=hA1.size
  obtain ⟨_,p0,p1,p2,p3,f0,f1,f2,f3⟩:=id h4
  obtain ⟨_,q0,q1,q2,q3,e0,e1,e2,e3⟩:=id h5
  by_cases hic:i<c
  ·have hl:(i:Int)<(c:Int):=by omega
   have d23:=c23.out i hic
   have d24:=c24.out i
   have d10:=c10.out i
   have dD:=hD.out i
   have d25:=c25.out i hic
   have dd0:(0:Int)<=(D i:Int):=by omega
   have dd1:(D i:Int)<=1023:=by omega
   clear hR
   generalize D i=Di at *
   generalize A i%1000=Xi at *
   generalize P i=Pi at *
   go_wp2_with (first
    | (go_at_call 92;refine (d23 _ _ _ (hn.next (zBa _ _)) (zK7 rfl)).mono ?_;rintro r w2 ⟨g2,k2,cap2,v2,rfl,hg2,hn2,hr2,hb2⟩;have hq2:=(h4.next (zBa _ _)).next hb2;have ho2:=(h5.next (zBa _ _)).next hb2;obtain ⟨_,_,_,_,hA2,_⟩:=wz w hb2 w1.heap.size;obtain ⟨_,_,_,_⟩:=zg hb2 w.heap.size (w.heap.size+1);clear hb2)
    | (go_at_call 61;refine (d24 _ _ hr2).mono ?_;rintro r w3 ⟨rfl,rfl⟩)
    | (go_at_call 155;refine (d10 _).mono ?_;rintro r w4 ⟨rfl,hb4⟩;have hn4:=hn2.next hb4;have hq4:=hq2.next hb4;have ho4:=ho2.next hb4;obtain ⟨_,_,_,_,hA4,_⟩:=wz w hb4 w1.heap.size;obtain ⟨_,_,_,_⟩:=zg hb4 w.heap.size (w.heap.size+1);clear hb4)
    | (go_at_call 90;refine (d25 _ _ (zYa rfl rfl (by omega))).mono ?_;rintro r w5 ⟨rfl,hb5⟩;have hn5:=(hn4.next (zBa _ _)).next hb5;have hq5:=(hq4.next (zBa _ _)).next hb5;have ho5:=(ho4.next (zBa _ _)).next hb5;obtain ⟨_,_,_,_,hA5,_⟩:=wz w hb5 w1.heap.size;obtain ⟨_,_,_,_⟩:=zg hb5 w.heap.size (w.heap.size+1);clear hb5))
   have hgs:w1.heap.size<g2:=by simp at hg2;omega
   go_roundw
   case rel=>exact ⟨i+1,g2,k2,cap2,by omega,by go_num,rfl,by omega,hn5.upd (by omega) (zBb _ _ _),hq5.put,⟨by simp;exact ho5.lt,by go_simp,by go_simp,by go_simp,by go_simp,by go_simp,by go_simp,by go_simp,by go_simp⟩,bgo⟩
   case measure=>simp [intOf];omega
  ·have hl:¬ (i:Int)<(c:Int):=by omega
   obtain rfl:i=c:=by omega
   obtain ⟨g',k',cap',e',hk',hz⟩:=hn.zero
   cases e'
   rcases hR with ⟨hA0,rfl,rfl⟩|⟨hA0,rfl,rfl⟩
   ·obtain rfl:k=0:=hz.2 hA0
    clear hz hA0 hn hk'
    go_wp2
    exact bodyPost_ret (by simp only [results,Tryz.results91];go_simp) rfl ⟨rfl,bgo⟩
   ·have hk0:(0:Int)<(k:Int):=by
     have:k≠0:=fun e=>hA0 (hz.1 e)
     omega
    clear hz hA0 hn hk'
    go_wp2
    exact bodyPost_ret (v:=.tuple #[A4 0,.int .i64 3]) (by rw [zEd];simp only [results,Tryz.results91];go_simp) rfl ⟨rfl,bgo⟩
end
theorem zPq (C:Nat)(n:Int)(w:World)(hC:C<2^256):CB 91 #[A4 C,.int .i64 n] w (.tuple #[A4 (dPv C n),.int .i64 (dPe C n)]):=by
 unfold dPv dPe
 by_cases h:0<=n/\n<=11
 ·obtain ⟨c,rfl⟩:=Int.eq_ofNat_of_zero_le h.1
  have hc:c<=11:=by omega
  rw [if_pos h,if_pos h,Int.toNat_natCast]
  refine rpck_w C c w (fun i=>C/1000^i) (fun i=>dlP i C) (fun i=>dlE (C/1000^i%1000)) hc (fun W=>?_) (fun i hi W vn vd h1 h2=>?_) (fun i W v h1=>?_) (fun i W=>?_) (fun i=>?_) (fun i hi W v h1=>?_) rfl _ _ ?_
  ·have:=zX3 C W hC
   simpa only [Nat.pow_zero,Nat.div_one] using this
  ·have:=zI1 (by decide) h1 h2 (by decide)
   rw [Nat.div_div_eq_div_mul,← Nat.pow_succ] at this
   exact this
  ·refine (zLd h1.nv (by decide) (by have:=Nat.mod_lt (C/1000^i) (show 0<1000 by decide);omega)).mono ?_
   rintro r w' ⟨rfl,rfl⟩
   exact ⟨rfl,rfl⟩
  ·exact enc_v _ (Nat.mod_lt _ (by decide)) W
  ·exact (zMj _ (Nat.mod_lt _ (by decide))).2
  ·have:=zQp (dlP i C) (dlE (C/1000^i%1000)) (10*i) 1 v W (zSx i C (by omega)) (by decide) (by omega) h1
   rw [show ((10*i:Nat):Int)=10*(i:Int) by omega,Nat.pow_mul,show (2:Nat)^10=1024 from rfl,← zEm] at this
   exact this
  ·by_cases hq:C<1000^c
   ·rw [if_pos hq,if_pos hq]
    exact Or.inl ⟨Nat.div_eq_of_lt hq,rfl,rfl⟩
   ·rw [if_neg hq,if_neg hq]
    refine Or.inr ⟨?_,rfl,rfl⟩
    have:=(Nat.div_pos_iff (a:=C) (b:=1000^c)).2 ⟨Nat.pow_pos (by decide),by omega⟩
    omega
 ·rw [if_neg h,if_neg h]
  exact zT0 C n (by omega) w
end
section
def NN (K X:Nat)(v:Value)(w:World):Prop:=(v=.slice none 0 0/\X=0)∨NT K X v w
theorem NN.next {K X:Nat}{v:Value}{w w':World}(h:NN K X v w)(hb:Below w.heap.size w w'):NN K X v w':=by
 rcases h with h|h
 ·exact Or.inl h
 ·exact Or.inr (h.next hb)
attribute [local irreducible] W4 NT NV NN
section
variable (B c:Nat)(w:World)(L:Int)(hc:c<=11)
 (c26:∀ W,NV 4 B (.slice (some ⟨w.heap.size,0,none⟩) 4 4) W->CQ 69 #[.slice (some ⟨w.heap.size,0,none⟩) 4 4] W (.int .i64 L)) (hB:B<2^256)
include hc c26 hB
variable (U X D:Nat->Nat)
 (c27:Hid (∀ i,i<c->∀ W,CE 60 #[A4 B,.int .i64 (10*((c:Int)-1-(i:Int))),.int .i64 10] W (NT 19 (X i))))
 (c24:Hid (∀ i W v,NT 19 (X i) v W->CQ 61 #[v] W (.int .i64 (X i:Int))))
 (c12:Hid (∀ i W,CB 152 #[.int .i64 (X i:Int)] W (.tuple #[.int .i64 (D i:Int),.int .i64 0])))
 (hD:Hid (∀ i,D i<1000))
 (c29:Hid (∀ i,i<c->∀ W v g,NN (4*i) (U i) v W->NT 1 1000 (.slice (some ⟨g,0,none⟩) 1 1) W->CE 86 #[v,.slice (some ⟨g,0,none⟩) 1 1] W (NT (4*i+2) (U i*1000))))
 (c28:Hid (∀ i,i<c->∀ W v v',NT (4*i+2) (U i*1000) v W->NV 1 (D i) v' W->Calls Tryz.prog 63 #[v,v'] W fun r w'=>∃ v,r=.returned v/\NN (4*(i+1)) (U (i+1)) v w'/\Below W.heap.size W w'))
 (c30:Hid (∀ W v,NN (4*c) (U c) v W->CB 62 #[v] W (A4 (U c))))
 (hU:NN (4*0) (U 0) (.slice none 0 0) w)
include c27 c24 c12 hD c29 c28 c30 hU
end
end
section
theorem C4.other {g g' X Y:Nat}{w:World}(h:C4 g X w)(hne:g≠g'):C4 g X (zRv w g' Y):=by
 have hU:=zBb w g' Y
 have hb:=hU.block g hne
 have hl:g<(zRv w g' Y).heap.size:=by rw [hU.size];exact h.lt
 exact ⟨hl,(World.cell?_of_block (a:=⟨g,0,none⟩) hb).trans h.c0,(World.cell?_of_block (a:=⟨g,1,none⟩) hb).trans h.c1,(World.cell?_of_block (a:=⟨g,2,none⟩) hb).trans h.c2,(World.cell?_of_block (a:=⟨g,3,none⟩) hb).trans h.c3,(World.frozen?_of_block (a:=⟨g,0,none⟩) hb).trans h.f0,(World.frozen?_of_block (a:=⟨g,1,none⟩) hb).trans h.f1,(World.frozen?_of_block (a:=⟨g,2,none⟩) hb).trans h.f2,(World.frozen?_of_block (a:=⟨g,3,none⟩) hb).trans h.f3⟩
attribute [local irreducible] W4
section
variable (C c:Nat)(n:Int)(w:World)
theorem dpck_n (ck:∀ W,CQ 212 #[.int .i64 n] W (.bool false)) :
  CB 211 #[A4 C,.int .i64 n] w (.tuple #[A4 0,.int .i64 1]):=by
 rw [zEd]
 have hsm:=zAa
 go_enter Tryz.func211,Tryz.ntmps211
 go_wp2_with (go_at_call 212;refine (ck _).mono ?_;rintro r w1 ⟨rfl,rfl⟩)
 exact bodyPost_ret (by simp only [results,Tryz.results211];go_simp) rfl ⟨rfl,bgo⟩
theorem dupk_n (ck:∀ W,CQ 212 #[.int .i64 n] W (.bool false)) :
  CB 188 #[A4 C,.int .i64 n] w (.tuple #[A4 0,.int .i64 1]):=by
 rw [zEd]
 have hsm:=zAa
 go_enter Tryz.func188,Tryz.ntmps188
 go_wp2_with (go_at_call 212;refine (ck _).mono ?_;rintro r w1 ⟨rfl,rfl⟩)
 exact bodyPost_ret (by simp only [results,Tryz.results188];go_simp) rfl ⟨rfl,bgo⟩
end
section
variable (C c:Nat)(w:World)(A P X D T:Nat->Nat)(cr:Nat->Int)(L:Int)(hc:c<=11)
 (ck:∀ W,CQ 212 #[.int .i64 (c:Int)] W (.bool true))
 (cd:Hid (∀ i,i<c->∀ W,CB 230 #[A4 (A i),.int .u64 1000] W (.tuple #[A4 (A (i+1)),.int .u64 (X i:Int)])))
 (hX:Hid (∀ i,X i<1000))
 (ce:Hid (∀ i W,CQ 231 #[.int .i64 (X i:Int)] W (.tuple #[.int .i64 (D i:Int),.int .i64 0])))
 (hD:Hid (∀ i,D i<1024))
 (co:Hid (∀ i W,CB 78 #[.int .u64 (D i:Int)] W (A4 (D i))))
 (cs:Hid (∀ i,i<c->∀ W,CB 74 #[A4 (D i),.int .i64 (10*(i:Int))] W (A4 (T i))))
 (ca:Hid (∀ i,i<c->∀ W,CB 37 #[A4 (P i),A4 (T i)] W (.tuple #[A4 (P (i+1)),.int .u64 (cr i)])))
 (cl:∀ W,CB 75 #[A4 (A c)] W (.int .i64 L))
 (hA:A 0=C) (hP:P 0=0)
include hc ck cd hX ce hD co cs ca cl hA hP
theorem dpck_w (R:Nat)(E:Int)(hR:(¬ 0<L/\R=P c/\E=0)∨(0<L/\R=0/\E=3)):CB 211 #[A4 C,.int .i64 (c:Int)] w (.tuple #[A4 R,.int .i64 E]):=by
 have hsm:=zAa
 go_enter Tryz.func211,Tryz.ntmps211
 go_wp2_with (go_at_call 212;refine (ck _).mono ?_;rintro r w1 ⟨rfl,rfl⟩)
 go_loopw [8,9,10,11,18] (fun _ _ _ _ t wr=>∃ (i:Nat),i<=c/\t=.int .i64 (i:Int)/\C4 (w.heap.size+1+1) (A i) wr/\C4 (w.heap.size+1+1+1) (P i) wr/\C4 (w.heap.size+1) 0 wr/\Below w.heap.size w wr) (fun _ _ _ _ t _=>c-(intOf t).toNat)
 case atStart =>
  refine ⟨0,Nat.zero_le _,rfl,?_,?_,?_,bgo⟩
  ·rw [hA];refine ⟨by simp,?_,?_,?_,?_,?_,?_,?_,?_⟩<;>go_simp
  ·rw [hP];refine ⟨by simp,?_,?_,?_,?_,?_,?_,?_,?_⟩<;>first|(rw [zNa];go_simp)|go_simp
  ·refine ⟨by simp,?_,?_,?_,?_,?_,?_,?_,?_⟩<;>first|(rw [zNa];go_simp)|go_simp
 case round =>
  obtain ⟨i,hi,rfl,h3,h4,h5,hbw⟩:=hrel
  have hl3:=h3.lt
  have hl4:=h4.lt
  have hl5:=h5.lt
  have hl6:w.heap.size<wr.heap.size:=by omega
  obtain ⟨_,o0,o1,o2,o3,g0,g1,g2,g3⟩:=id h3
  obtain ⟨_,p0,p1,p2,p3,f0,f1,f2,f3⟩:=id h4
  obtain ⟨_,q0,q1,q2,q3,e0,e1,e2,e3⟩:=id h5
  by_cases hic:i<c
  ·have hl:(i:Int)<(c:Int):=by omega
   have dd:=cd.out i hic
   have de:=ce.out i
   have do':=co.out i
   have ds:=cs.out i hic
   have da:=ca.out i hic
   have dX:=hX.out i
   have dD:=hD.out i
   have x0:(0:Int)<=(X i:Int):=by omega
   have x1:(X i:Int)<1000:=by omega
   have d0:(0:Int)<=(D i:Int):=by omega
   have d1:(D i:Int)<1024:=by omega
   clear hR cl dX dD
   generalize D i=Di at *
   generalize X i=Xi at *
   generalize P i=Pi at *
   generalize A i=Ai at *
   generalize T i=Ti at *
   go_wp2_with (first
    | (go_at_call 230;refine (dd _).mono ?_;rintro r w2 ⟨rfl,hb2⟩;have hn3:=h3.next hb2;have hn4:=h4.next hb2;have hn5:=h5.next hb2;obtain ⟨_,_,_,_,hA2,_⟩:=wz w hb2;obtain ⟨_,_,_,_,_,_⟩:=zh hb2 (w.heap.size+1) (w.heap.size+1+1) (w.heap.size+1+1+1);clear hb2)
    | (go_at_call 231;refine (de _).mono ?_;rintro r w3 ⟨rfl,rfl⟩))
   have hn3':=hn3.put (Y:=A (i+1))
   have hn4':=hn4.other (g':=w.heap.size+1+1) (Y:=A (i+1)) (by omega)
   have hn5':=hn5.other (g':=w.heap.size+1+1) (Y:=A (i+1)) (by omega)
   refine zGb 8 (by kernel_rfl) (by kernel_rfl) (by kernel_rfl) (fun _ _ d _ _ h=>by cases d<;>exact h) fun hne hcell=>?_
   simp only [List.take_succ_cons,List.take_zero,List.drop_succ_cons,List.drop_zero]
   repeat go_big_quiet_step (fail)
   go_big_quiet_step ((go_at_call 78;exact zEa _ zMa (do' _)))
   repeat go_big_quiet_step (fail)
   go_big_quiet_step ((go_at_call 74;exact zEa _ zMa (ds _)))
   repeat go_big_quiet_step (fail)
   go_big_quiet_step ((go_at_call 37;exact zEa _ zMa (da _)))
   refine wpQuiet_nil fun w4 hb4=>?_
   have hm3:=hn3'.next hb4
   have hm4:=hn4'.next hb4
   have hm5:=hn5'.next hb4
   obtain ⟨_,_,_,_,hA4,_⟩:=wz w hb4;obtain ⟨_,_,_,_,_,_⟩:=zh hb4 (w.heap.size+1) (w.heap.size+1+1) (w.heap.size+1+1+1);clear hb4
   go_wp2
   go_roundw
   case rel=>exact ⟨i+1,by omega,by go_num,hm3.other (by omega),hm4.put,hm5.other (by omega),bgo⟩
   case measure=>simp [intOf];omega
  ·have hl:¬ (i:Int)<(c:Int):=by omega
   obtain rfl:i=c:=by omega
   rcases hR with ⟨hA0,rfl,rfl⟩|⟨hA0,rfl,rfl⟩
   ·go_wp2_with (go_at_call 75;refine wk w (cl _) ?_;intro w2 hb2 _ _ _ _ hA2 _;obtain ⟨_,_,_,_,_,_⟩:=zh hb2 (w.heap.size+1) (w.heap.size+1+1) (w.heap.size+1+1+1);clear hb2)
    exact bodyPost_ret (by simp only [results,Tryz.results211];go_simp) rfl ⟨rfl,bgo⟩
   ·go_wp2_with (go_at_call 75;refine wk w (cl _) ?_;intro w2 hb2 _ _ _ _ hA2 _;obtain ⟨_,_,_,_,_,_⟩:=zh hb2 (w.heap.size+1) (w.heap.size+1+1) (w.heap.size+1+1+1);clear hb2)
    exact bodyPost_ret (v:=.tuple #[A4 0,.int .i64 3]) (by rw [zEd];simp only [results,Tryz.results211];go_simp) rfl ⟨rfl,bgo⟩
end
section
variable (B c:Nat)(w:World)(L:Int)(hc:c<=11)
 (ck:∀ W,CQ 212 #[.int .i64 (c:Int)] W (.bool true))
 (cl:∀ W,CB 75 #[A4 B] W (.int .i64 L))
include hc ck cl
theorem dupk_l (hL:10*(c:Int)<L):CB 188 #[A4 B,.int .i64 (c:Int)] w (.tuple #[A4 0,.int .i64 3]):=by
 rw [zEd]
 have hsm:=zAa
 have hc0:(0:Int)<=(c:Int):=by omega
 have hc1:(c:Int)<=11:=by omega
 go_enter Tryz.func188,Tryz.ntmps188
 go_wp2_with (first
  | (go_at_call 212;refine (ck _).mono ?_;rintro r w1 ⟨rfl,rfl⟩)
  | (go_at_call 75;refine wk w (cl _) ?_;intro w2 hb2 _ _ _ _ hA2 _;obtain ⟨_,_⟩:=zf hb2 (w.heap.size+1);clear hb2))
 exact bodyPost_ret (by simp only [results,Tryz.results188];go_simp) rfl ⟨rfl,bgo⟩
variable (U X D S M:Nat->Nat)(cr cm:Nat->Int)
 (cs:Hid (∀ k,k<c->∀ W,CB 72 #[A4 B,.int .i64 (10*(k:Int))] W (A4 (S k))))
 (hX:Hid (∀ k,W4 (S k) 0%1024=(X k:Int)/\X k<1024/\0<=W4 (S k) 0))
 (ce:Hid (∀ k W,CQ 213 #[.int .i64 (X k:Int)] W (.tuple #[.int .i64 (D k:Int),.int .i64 0])))
 (hD:Hid (∀ k,D k<1000))
 (cu:Hid (∀ k,k<c->∀ W,CB 143 #[A4 (U (k+1)),.int .u64 1000] W (.tuple #[A4 (M k),.int .u64 (cm k)])))
 (co:Hid (∀ k W,CB 78 #[.int .u64 (D k:Int)] W (A4 (D k))))
 (ca:Hid (∀ k,k<c->∀ W,CB 37 #[A4 (M k),A4 (D k)] W (.tuple #[A4 (U k),.int .u64 (cr k)])))
 (hU:U c=0)
include cs hX ce hD cu co ca hU
theorem dupk_w (hL:¬ 10*(c:Int)<L):CB 188 #[A4 B,.int .i64 (c:Int)] w (.tuple #[A4 (U 0),.int .i64 0]):=by
 have hsm:=zAa
 have hc0:(0:Int)<=(c:Int):=by omega
 have hc1:(c:Int)<=11:=by omega
 go_enter Tryz.func188,Tryz.ntmps188
 go_wp2_with (first
  | (go_at_call 212;refine (ck _).mono ?_;rintro r w1 ⟨rfl,rfl⟩)
  | (go_at_call 75;refine wk w (cl _) ?_;intro w2 hb2 _ _ _ _ hA2 _;obtain ⟨_,_⟩:=zf hb2 (w.heap.size+1);clear hb2))
 go_loopw [7,8,9,10] (fun t _ _ _ wr=>∃ (k:Nat),k<=c/\t=.int .i64 ((k:Int)-1)/\C4 w2.heap.size (U k) wr/\C4 w.heap.size B wr/\C4 (w.heap.size+1) 0 wr/\Below w.heap.size w wr) (fun t _ _ _ _=>(intOf t+1).toNat)
 case atStart =>
  refine ⟨c,Nat.le_refl _,rfl,?_,?_,?_,bgo⟩
  ·rw [hU];exact C4.new _ _
  ·refine ⟨by simp;omega,?_,?_,?_,?_,?_,?_,?_,?_⟩<;>go_simp
  ·refine ⟨by simp;omega,?_,?_,?_,?_,?_,?_,?_,?_⟩<;>first|(rw [zNa];go_simp)|go_simp
 case round =>
  obtain ⟨k,hk,rfl,h3,h4,h5,hbw⟩:=hrel
  have hl3:=h3.lt
  have hl4:=h4.lt
  have hl5:=h5.lt
  have hz3:w.heap.size+1<w2.heap.size:=by omega
  obtain ⟨_,o0,o1,o2,o3,g0,g1,g2,g3⟩:=id h3
  obtain ⟨_,p0,p1,p2,p3,f0,f1,f2,f3⟩:=id h4
  obtain ⟨_,q0,q1,q2,q3,e0,e1,e2,e3⟩:=id h5
  by_cases hk0:k=0
  ·subst hk0
   go_wp2
   exact bodyPost_ret (by simp only [results,Tryz.results188];go_simp) rfl ⟨rfl,bgo⟩
  ·obtain ⟨j,rfl⟩:∃ j,k=j+1:=⟨k-1,by omega⟩
   have ej:((j+1:Nat):Int)-1=(j:Int):=by omega
   rw [ej]
   have hj:j<c:=by omega
   have hj0:¬ (j:Int)<0:=by omega
   have hj1:(j:Int)<=11:=by omega
   have ds:=cs.out j hj
   obtain ⟨x2,x3,x4⟩:=hX.out j
   have de:=ce.out j
   have du:=cu.out j hj
   have do':=co.out j
   have da:=ca.out j hj
   have dD:=hD.out j
   have d0:(0:Int)<=(D j:Int):=by omega
   have d1:(D j:Int)<1000:=by omega
   have x0:(0:Int)<=(X j:Int):=by omega
   have x1:(X j:Int)<1024:=by omega
   clear ej dD x3 hL ck cl
   generalize D j=Dj at *
   generalize X j=Xj at *
   generalize S j=Sj at *
   generalize M j=Mj at *
   generalize U (j+1)=Uj at *
   go_wp2_with (first
    | (go_at_call 72;refine (ds _).mono ?_;rintro r w3 ⟨rfl,hb3⟩;have hn3:=h3.next hb3;have hn4:=h4.next hb3;have hn5:=h5.next hb3;obtain ⟨_,_,_,_,hA3,_⟩:=wz w hb3;obtain ⟨_,_,_,_⟩:=zg hb3 (w.heap.size+1) w2.heap.size;clear hb3)
    | (go_at_call 213;refine (de _).mono ?_;rintro r w4 ⟨rfl,rfl⟩)
    | (go_at_call 143;refine wk w (du _) ?_;intro w5 hb5 _ _ _ _ hA5 _;obtain ⟨_,_,_,_⟩:=zg hb5 (w.heap.size+1) w2.heap.size;clear hb5))
   refine zGb 5 (by kernel_rfl) (by kernel_rfl) (by kernel_rfl) (fun _ _ d _ _ h=>by cases d<;>exact h) fun hne hcell=>?_
   simp only [List.take_succ_cons,List.take_zero,List.drop_succ_cons,List.drop_zero]
   repeat go_big_quiet_step (fail)
   go_big_quiet_step ((go_at_call 78;exact zEa _ zMa (do' _)))
   repeat go_big_quiet_step (fail)
   go_big_quiet_step ((go_at_call 37;exact zEa _ zMa (da _)))
   refine wpQuiet_nil fun w6 hb6=>?_
   obtain ⟨_,_,_,_,hA6,_⟩:=wz w hb6;obtain ⟨_,_,_,_⟩:=zg hb6 (w.heap.size+1) w2.heap.size;clear hb6
   go_wp2
   go_roundw
   case rel =>
    refine ⟨j,by omega,by go_num,?_,?_,?_,bgo⟩
    ·refine ⟨by simp;omega,?_,?_,?_,?_,?_,?_,?_,?_⟩<;>go_simp
    ·refine ⟨by simp;omega,?_,?_,?_,?_,?_,?_,?_,?_⟩<;>go_simp
    ·refine ⟨by simp;omega,?_,?_,?_,?_,?_,?_,?_,?_⟩<;>go_simp
   case measure=>simp [intOf]
end
theorem zY6 (i:Nat):(1024:Nat)^i=2^(10*i):=by rw [Nat.pow_mul]
theorem zV2 (C:Nat)(n:Int)(w:World)(hC:C<2^256):CB 211 #[A4 C,.int .i64 n] w (.tuple #[A4 (dPv C n),.int .i64 (dPe C n)]):=by
 unfold dPv dPe
 by_cases h:0<=n/\n<=11
 ·obtain ⟨c,rfl⟩:=Int.eq_ofNat_of_zero_le h.1
  have hc:c<=11:=by omega
  rw [if_pos h,if_pos h,Int.toNat_natCast]
  have hA:∀ i,C/1000^i<2^256:=fun i=>Nat.lt_of_le_of_lt (Nat.div_le_self _ _) hC
  have hL0:=zHj (hA c)
  have hL1:0<=lenL (W4 (C/1000^c)) 4:=by
   by_cases h0:0<sizeL (W4 (C/1000^c)) 4
   ·obtain ⟨L,h1,_⟩:=zFg (zHa _) h0
    omega
   ·unfold lenL;rw [if_pos (by omega)];exact Int.le_refl _
  refine dpck_w C c w (fun i=>C/1000^i) (fun i=>dlP i C) (fun i=>C/1000^i%1000) (fun i=>dlE (C/1000^i%1000)) (fun i=>dlE (C/1000^i%1000)*2^(10*i)) (fun i=>(((dlP i C+dlE (C/1000^i%1000)*2^(10*i))/2^256:Nat):Int)) (lenL (W4 (C/1000^c)) 4) hc ?_ ?_ ?_ ?_ ?_ ?_ ?_ ?_ (fun W=>zSw _ W) (by simp) rfl _ _ ?_
  ·intro W
   have:=zAm (c:Int) W
   rw [decide_eq_true h] at this
   exact this
  ·intro i hi W
   have:=div4 (C/1000^i) 1000 W (hA i) (by decide) (by decide)
   rw [Nat.div_div_eq_div_mul,← Nat.pow_succ] at this
   exact this
  ·intro i
   exact Nat.mod_lt _ (by decide)
  ·intro i W
   exact denc_v _ (Nat.mod_lt _ (by decide)) W
  ·intro i
   exact (zMj _ (Nat.mod_lt _ (by decide))).2
  ·intro i W
   have:=(zMj (C/1000^i%1000) (Nat.mod_lt _ (by decide))).2
   exact of4 _ W (by omega)
  ·intro i hi W
   have h2:=(zMj (C/1000^i%1000) (Nat.mod_lt _ (by decide))).2
   have:=shl4 (dlE (C/1000^i%1000)) (10*i) W (Nat.lt_trans h2 (by decide)) (by omega)
   rw [show ((10*i:Nat):Int)=10*(i:Int) by omega] at this
   exact this
  ·intro i hi W
   have e:=zEm i C
   rw [zY6] at e
   have h1:=zSx (i+1) C (by omega)
   have:=add4 (dlP i C) (dlE (C/1000^i%1000)*2^(10*i)) W (by omega) (by omega)
   rw [show A4 (dlP i C+dlE (C/1000^i%1000)*2^(10*i))=A4 (dlP (i+1) C) by rw [e]] at this
   exact this
  ·by_cases hlt:C<1000^c
   ·rw [if_pos hlt,if_pos hlt]
    exact Or.inl ⟨by rw [hL0.2 (Nat.div_eq_of_lt hlt)];decide,rfl,rfl⟩
   ·rw [if_neg hlt,if_neg hlt]
    have h1:C/1000^c≠0:=by
     have:=(Nat.le_div_iff_mul_le (Nat.pow_pos (n:=c) (show 0<1000 by decide))).2 (show 1*1000^c<=C by omega)
     omega
    have h2:lenL (W4 (C/1000^c)) 4≠0:=fun e=>h1 (hL0.1 e)
    exact Or.inr ⟨by omega,rfl,rfl⟩
 ·rw [if_neg h,if_neg h]
  refine dpck_n C n w fun W=>?_
  have:=zAm n W
  rw [decide_eq_false h] at this
  exact this
theorem zT2 (B:Nat)(n:Int)(w:World)(hB:B<2^256):CB 188 #[A4 B,.int .i64 n] w (.tuple #[A4 (dUv B n),.int .i64 (dUe B n)]):=by
 unfold dUv dUe
 by_cases h:0<=n/\n<=11
 ·obtain ⟨c,rfl⟩:=Int.eq_ofNat_of_zero_le h.1
  have hc:c<=11:=by omega
  rw [if_pos h,if_pos h,Int.toNat_natCast]
  have hk:∀ W,CQ 212 #[.int .i64 (c:Int)] W (.bool true):=fun W=>by
   have:=zAm (c:Int) W
   rw [decide_eq_true h] at this
   exact this
  have hL:=zYl (k:=10*c) hB
  rw [← zY6] at hL
  by_cases hlt:B<1024^c
  ·rw [if_pos hlt,if_pos hlt]
   have hU:∀ k,dlU (c-k) (B/1024^k)<1000^11:=fun k=>Nat.lt_of_lt_of_le (zRx _ _) (Nat.pow_le_pow_right (by decide) (by omega))
   have e11:(1000:Nat)^11=1000000000000000000000000000000000:=by decide
   have e256:(2:Nat)^256=115792089237316195423570985008687907853269984665640564039457584007913129639936:=by decide
   have:=dupk_w B c w (lenL (W4 B) 4) hc hk (fun W=>zSw _ W) (fun k=>dlU (c-k) (B/1024^k)) (fun k=>B/1024^k%1024) (fun k=>dlD (B/1024^k%1024)) (fun k=>B/2^(10*k)) (fun k=>dlU (c-(k+1)) (B/1024^(k+1))*1000) (fun k=>(((dlU (c-(k+1)) (B/1024^(k+1))*1000+dlD (B/1024^k%1024))/2^256:Nat):Int)) (fun k=>((dlU (c-(k+1)) (B/1024^(k+1))*1000/2^256:Nat):Int)) (fun k hk W=>?_) (fun k=>?_) (fun k W=>?_) (fun k=>?_) (fun k hk W=>?_) (fun k W=>?_) (fun k hk W=>?_) (by rw [Nat.sub_self];rfl) (by have:=hL.2 hlt;omega)
   ·simp only [Nat.sub_zero,Nat.pow_zero,Nat.div_one] at this
    exact this
   ·have:=shr4 B (10*k) W hB (by omega)
    rw [show ((10*k:Nat):Int)=10*(k:Int) by omega] at this
    exact this
   ·refine ⟨?_,Nat.mod_lt _ (by decide),(zHa _ 0).1⟩
    unfold W4
    rw [← zY6,Nat.mul_zero,Nat.pow_zero,Nat.div_one]
    omega
   ·exact ddcd_v _ (Nat.mod_lt _ (by decide)) W
   ·exact (zOi _ (Nat.mod_lt _ (by decide))).1
   ·have h1:=hU (k+1)
    exact mul4 _ 1000 W (by omega) (by decide)
   ·have:=(zOi (B/1024^k%1024) (Nat.mod_lt _ (by decide))).1
    exact of4 _ W (by omega)
   ·have h1:=hU (k+1)
    have h2:=(zOi (B/1024^k%1024) (Nat.mod_lt _ (by decide))).1
    have e:=zY2 (c-(k+1)) (B/1024^k)
    rw [Nat.div_div_eq_div_mul,← Nat.pow_succ,show c-(k+1)+1=c-k by omega] at e
    have:=add4 (dlU (c-(k+1)) (B/1024^(k+1))*1000) (dlD (B/1024^k%1024)) W (by omega) (by omega)
    rw [show A4 (dlU (c-(k+1)) (B/1024^(k+1))*1000+dlD (B/1024^k%1024))=A4 (dlU (c-k) (B/1024^k)) by rw [e]] at this
    exact this
  ·rw [if_neg hlt,if_neg hlt]
   exact dupk_l B c w (lenL (W4 B) 4) hc hk (fun W=>zSw _ W) (by
    have:¬ lenL (W4 B) 4<=((10*c:Nat):Int):=fun q=>hlt (hL.1 q)
    omega)
 ·rw [if_neg h,if_neg h]
  refine dupk_n B n w fun W=>?_
  have:=zAm n W
  rw [decide_eq_false h] at this
  exact this
end
end Go.Proofs.YtahfkpjhlbiamaaGreatDoor

set_option maxRecDepth 100000
namespace Go.Proofs.YtahfkpjhlbiamaaGreatDoor
open Go.ChangeShapes Go.WideShapes Go.ChangeAt Go.RowKit
def zOt:Array Value:=(((List.replicate 128 240++List.replicate 66 241++List.replicate 30 2++[19]++List.replicate 12 3++[35]++List.replicate 2 3++[52]++List.replicate 3 4++[68]++List.replicate 11 241:List Int)).map fun n=>Value.int .u8 n).toArray
def zYs:Array Value:=((([128,191,160,191,128,159,144,191,128,143]++List.replicate 22 0:List Int)).map fun n=>Value.int .u8 n).toArray
def zIy:Array Value:=(([0,1,28,2,29,14,24,3,30,22,20,15,25,17,4,8,31,27,13,23,21,19,16,7,26,12,18,6,11,5,10,9]:List Int).map fun n=>Value.int .u8 n).toArray
def zHy:Array Value:=((([0,1,56,2,57,49,28,3,61,58,42,50,38,29,17,4,62,47,59,36,45,43,51,22,53,39,33,30,24,18,12,5]++[63,55,48,27,60,41,37,16,46,35,44,21,52,32,23,11,54,26,40,15,34,20,31,10,25,14,19,9,13,8,7,6]:List Int)).map fun n=>Value.int .u8 n).toArray
def zAt:Array Value:=((List.range 20).map fun k=>Value.int .u64 ((10^k:Nat):Int)).toArray
noncomputable def zUh (os:Os):World :=
 { World.holding Tryz.prog os ⟨#[],#[],[]⟩ with heap:=((((((World.holding Tryz.prog os ⟨#[],#[],[]⟩).heap.modify 0 (zTf zJ0)).modify 4 (zTf zAt)).modify 7 (zTf zIy)).modify 8 (zTf zHy)).modify 5 (zTf zOt)).modify 6 (zTf zYs) }
theorem zIe {P:Program}{W:World}{x:String×DataW Unit}{r:List (String×DataW Unit)}(h:laidMet P (x::r) W):laidMet P r W:=by
 obtain ⟨ps,⟨g,t,cs,fuel,p,q,_,_,_,_,hr,rfl⟩,hn,hc⟩:=h
 refine ⟨q,hr,?_,fun b off hm=>hc b off (by simp [hm])⟩
 exact (List.nodup_append.1 hn).2.1
theorem zHn {W:World}{x y:String×DataW Unit}{r:List (String×DataW Unit)}(h:laidMet Tryz.prog (x::y::("internal/strconv.uint64pow10",Lib.tabData .u64 Lib.pow10Tab)::r) W):Tb10 W :=
 Lib.tabIs_of_head (P:=Tryz.prog) (name := "internal/strconv.uint64pow10") (k:=.u64) (zs:=Lib.pow10Tab) (g:=4) (t:=244) (e:=22) (n:=20) (by kernel_rfl) (by kernel_rfl) (by kernel_rfl) (by kernel_rfl) (by kernel_rfl) (by kernel_rfl) (zIe (zIe h))
theorem zVo {W:World}{x0 x1 x2 x3:String×DataW Unit}{r:List (String×DataW Unit)}(h:laidMet Tryz.prog (x0::x1::x2::x3::("caliper/desc.rows",Rows.laid_caliper_desc_rows)::r) W):Tab W :=
 tab_of_laid (zIe (zIe (zIe (zIe h))))
end Go.Proofs.YtahfkpjhlbiamaaGreatDoor
