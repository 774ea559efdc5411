/-
  Texts that the proof leans on.
-/
import Derived.Test.YtahfkpjhlbiamaaGreatDoorL1
import Derived.Test.YtahfkpjhlbiamaaGreatDoorL9
import Derived.Test.YtahfkpjhlbiamaaGreatDoorL19
import Derived.Test.YtahfkpjhlbiamaaGreatDoorL4
import Derived.Test.YtahfkpjhlbiamaaGreatDoorL17
import Derived.Test.YtahfkpjhlbiamaaGreatDoorL15
import Derived.Test.YtahfkpjhlbiamaaGreatDoorL21
import Derived.Test.YtahfkpjhlbiamaaGreatDoorL10
set_option linter.unusedVariables false
set_option linter.unusedSectionVars false
set_option linter.unusedSimpArgs false
set_option maxHeartbeats 8000000
set_option maxRecDepth 20000
namespace Go.Proofs.YtahfkpjhlbiamaaGreatDoor
open Go.RowKit
section
structure C4 (g X:Nat) (w:World):Prop where
 lt:g<w.heap.size
 c0:w.cell? ⟨g,0,none⟩=some (.int .u64 (W4 X 0))
 c1:w.cell? ⟨g,1,none⟩=some (.int .u64 (W4 X 1))
 c2:w.cell? ⟨g,2,none⟩=some (.int .u64 (W4 X 2))
 c3:w.cell? ⟨g,3,none⟩=some (.int .u64 (W4 X 3))
 f0:w.frozen? ⟨g,0,none⟩=false
 f1:w.frozen? ⟨g,1,none⟩=false
 f2:w.frozen? ⟨g,2,none⟩=false
 f3:w.frozen? ⟨g,3,none⟩=false
theorem C4.next {g X:Nat}{w w':World}(h:C4 g X w)(hb:Below w.heap.size w w'):C4 g X w' :=
 ⟨Nat.lt_of_lt_of_le h.lt hb.size,(hb.cell (p:=⟨g,0,none⟩) h.lt).trans h.c0,(hb.cell (p:=⟨g,1,none⟩) h.lt).trans h.c1,(hb.cell (p:=⟨g,2,none⟩) h.lt).trans h.c2,(hb.cell (p:=⟨g,3,none⟩) h.lt).trans h.c3,
  (hb.frozen (p:=⟨g,0,none⟩) h.lt).trans h.f0,(hb.frozen (p:=⟨g,1,none⟩) h.lt).trans h.f1,(hb.frozen (p:=⟨g,2,none⟩) h.lt).trans h.f2,(hb.frozen (p:=⟨g,3,none⟩) h.lt).trans h.f3⟩
theorem C4.new (w:World)(t:TypeId):C4 w.heap.size 0 (w.alloc (.cells #[.int .u64 0,.int .u64 0,.int .u64 0,.int .u64 0] t)):=by
 refine ⟨by simp,?_,?_,?_,?_,?_,?_,?_,?_⟩<;>first|(rw [W4_zero];go_simp)|go_simp
abbrev put4C (w:World)(g X:Nat):World:=(((w.setCell ⟨g,0,none⟩ (.int .u64 (W4 X 0))).setCell ⟨g,1,none⟩ (.int .u64 (W4 X 1))).setCell ⟨g,2,none⟩ (.int .u64 (W4 X 2))).setCell ⟨g,3,none⟩ (.int .u64 (W4 X 3))
theorem C4.put {g X Y:Nat}{w:World}(h:C4 g X w):C4 g Y (put4C w g Y):=by
 have hsm:=cell_set_map
 obtain ⟨h0,h1,h2,h3,h4,h5,h6,h7,h8⟩:=h
 refine ⟨by simp;exact h0,?_,?_,?_,?_,?_,?_,?_,?_⟩<;>go_simp
theorem put4C_upd (w:World)(g X:Nat):Upd g w (put4C w g X):=((((Upd.refl g w).set 0 _).set 1 _).set 2 _).set 3 _
theorem NT.lt {K V b k c:Nat}{w:World}(h:NT K V (.slice (some ⟨b,0,none⟩) k c) w):b<w.heap.size:=by
 obtain ⟨g',k',c',z,e,hk,hN,hv,hs⟩:=h
 cases e
 rcases hN.2.2.2.2 with ⟨h,_⟩|⟨b',off',h,hbs,_⟩
 ·cases h
 ·cases h;exact hbs
attribute [local irreducible] W4 NT NV
section
variable (C c:Nat)(w:World)(A P D:Nat->Nat)(hc:c<=11)
 (c22:∀ W,Calls Tryz.prog 66 #[A4 C] W fun r w'=>∃ g n cap,r=.returned (.slice (some ⟨g,0,none⟩) n cap)/\W.heap.size<g/\NT 4 (A 0) (.slice (some ⟨g,0,none⟩) n cap) w'/\Below W.heap.size W w')
 (c23:Hid (∀ i,i<c->∀ W vn vd,NT 4 (A i) vn W->NT 1 1000 vd W->Calls Tryz.prog 92 #[vn,vd] W fun r w'=>∃ g k cap v,r=.returned (.tuple #[.slice (some ⟨g,0,none⟩) k cap,v])/\W.heap.size<=g/\NT 4 (A (i+1)) (.slice (some ⟨g,0,none⟩) k cap) w'/\NT 1 (A i%1000) v w'/\Below W.heap.size W w'))
 (c24:Hid (∀ i W v,NT 1 (A i%1000) v W->CQ 61 #[v] W (.int .i64 ((A i%1000:Nat):Int))))
 (c10:Hid (∀ i W,CB 155 #[.int .i64 ((A i%1000:Nat):Int)] W (.tuple #[.int .i64 (D i:Int),.int .i64 0])))
 (hD:Hid (∀ i,D i<1024))
 (c25:Hid (∀ i,i<c->∀ W v,NV 1 (D i) v W->CB 90 #[A4 (P i),v,.int .i64 (10*(i:Int))] W (A4 (P (i+1)))))
 (hP:P 0=0)
include hc c22 c23 c24 c10 hD c25 hP
end
end
section
def NN (K X:Nat)(v:Value)(w:World):Prop:=(v=.slice none 0 0/\X=0)∨NT K X v w
theorem NN.next {K X:Nat}{v:Value}{w w':World}(h:NN K X v w)(hb:Below w.heap.size w w'):NN K X v w':=by
 rcases h with h|h
 ·exact Or.inl h
 ·exact Or.inr (h.next hb)
attribute [local irreducible] W4 NT NV NN
section
variable (B c:Nat)(w:World)(L:Int)(hc:c<=11)
 (c26:∀ W,NV 4 B (.slice (some ⟨w.heap.size,0,none⟩) 4 4) W->CQ 69 #[.slice (some ⟨w.heap.size,0,none⟩) 4 4] W (.int .i64 L)) (hB:B<2^256)
include hc c26 hB
variable (U X D:Nat->Nat)
 (c27:Hid (∀ i,i<c->∀ W,CE 60 #[A4 B,.int .i64 (10*((c:Int)-1-(i:Int))),.int .i64 10] W (NT 19 (X i))))
 (c24:Hid (∀ i W v,NT 19 (X i) v W->CQ 61 #[v] W (.int .i64 (X i:Int))))
 (c12:Hid (∀ i W,CB 152 #[.int .i64 (X i:Int)] W (.tuple #[.int .i64 (D i:Int),.int .i64 0])))
 (hD:Hid (∀ i,D i<1000))
 (c29:Hid (∀ i,i<c->∀ W v g,NN (4*i) (U i) v W->NT 1 1000 (.slice (some ⟨g,0,none⟩) 1 1) W->CE 86 #[v,.slice (some ⟨g,0,none⟩) 1 1] W (NT (4*i+2) (U i*1000))))
 (c28:Hid (∀ i,i<c->∀ W v v',NT (4*i+2) (U i*1000) v W->NV 1 (D i) v' W->Calls Tryz.prog 63 #[v,v'] W fun r w'=>∃ v,r=.returned v/\NN (4*(i+1)) (U (i+1)) v w'/\Below W.heap.size W w'))
 (c30:Hid (∀ W v,NN (4*c) (U c) v W->CB 62 #[v] W (A4 (U c))))
 (hU:NN (4*0) (U 0) (.slice none 0 0) w)
include c27 c24 c12 hD c29 c28 c30 hU
end
end
section
theorem C4.other {g g' X Y:Nat}{w:World}(h:C4 g X w)(hne:g≠g'):C4 g X (put4C w g' Y):=by
 have hU:=put4C_upd w g' Y
 have hb:=hU.block g hne
 have hl:g<(put4C w g' Y).heap.size:=by rw [hU.size];exact h.lt
 exact ⟨hl,(World.cell?_of_block (a:=⟨g,0,none⟩) hb).trans h.c0,(World.cell?_of_block (a:=⟨g,1,none⟩) hb).trans h.c1,(World.cell?_of_block (a:=⟨g,2,none⟩) hb).trans h.c2,(World.cell?_of_block (a:=⟨g,3,none⟩) hb).trans h.c3,(World.frozen?_of_block (a:=⟨g,0,none⟩) hb).trans h.f0,(World.frozen?_of_block (a:=⟨g,1,none⟩) hb).trans h.f1,(World.frozen?_of_block (a:=⟨g,2,none⟩) hb).trans h.f2,(World.frozen?_of_block (a:=⟨g,3,none⟩) hb).trans h.f3⟩
attribute [local irreducible] W4
section
variable (C c:Nat)(n:Int)(w:World)
theorem dpck_n (ck:∀ W,CQ 212 #[.int .i64 n] W (.bool false)) :
  CB 211 #[A4 C,.int .i64 n] w (.tuple #[A4 0,.int .i64 1]):=by
 rw [Z4_eq]
 have hsm:=cell_set_map
 go_enter Tryz.func211,Tryz.ntmps211
 go_wp2_with (go_at_call 212;refine (ck _).mono ?_;rintro r w1 ⟨rfl,rfl⟩)
 exact bodyPost_ret (by simp only [results,Tryz.results211];go_simp) rfl ⟨rfl,bgo⟩
theorem dupk_n (ck:∀ W,CQ 212 #[.int .i64 n] W (.bool false)) :
  CB 188 #[A4 C,.int .i64 n] w (.tuple #[A4 0,.int .i64 1]):=by
 rw [Z4_eq]
 have hsm:=cell_set_map
 go_enter Tryz.func188,Tryz.ntmps188
 go_wp2_with (go_at_call 212;refine (ck _).mono ?_;rintro r w1 ⟨rfl,rfl⟩)
 exact bodyPost_ret (by simp only [results,Tryz.results188];go_simp) rfl ⟨rfl,bgo⟩
end
section
variable (C c:Nat)(w:World)(A P X D T:Nat->Nat)(cr:Nat->Int)(L:Int)(hc:c<=11)
 (ck:∀ W,CQ 212 #[.int .i64 (c:Int)] W (.bool true))
 (cd:Hid (∀ i,i<c->∀ W,CB 230 #[A4 (A i),.int .u64 1000] W (.tuple #[A4 (A (i+1)),.int .u64 (X i:Int)])))
 (hX:Hid (∀ i,X i<1000))
 (ce:Hid (∀ i W,CQ 231 #[.int .i64 (X i:Int)] W (.tuple #[.int .i64 (D i:Int),.int .i64 0])))
 (hD:Hid (∀ i,D i<1024))
 (co:Hid (∀ i W,CB 78 #[.int .u64 (D i:Int)] W (A4 (D i))))
 (cs:Hid (∀ i,i<c->∀ W,CB 74 #[A4 (D i),.int .i64 (10*(i:Int))] W (A4 (T i))))
 (ca:Hid (∀ i,i<c->∀ W,CB 37 #[A4 (P i),A4 (T i)] W (.tuple #[A4 (P (i+1)),.int .u64 (cr i)])))
 (cl:∀ W,CB 75 #[A4 (A c)] W (.int .i64 L))
 (hA:A 0=C) (hP:P 0=0)
include hc ck cd hX ce hD co cs ca cl hA hP
theorem dpck_w (R:Nat)(E:Int)(hR:(¬ 0<L/\R=P c/\E=0)∨(0<L/\R=0/\E=3)):CB 211 #[A4 C,.int .i64 (c:Int)] w (.tuple #[A4 R,.int .i64 E]):=by
 have hsm:=cell_set_map
 go_enter Tryz.func211,Tryz.ntmps211
 go_wp2_with (go_at_call 212;refine (ck _).mono ?_;rintro r w1 ⟨rfl,rfl⟩)
 go_loopw [8,9,10,11,18] (fun _ _ _ _ t wr=>∃ (i:Nat),i<=c/\t=.int .i64 (i:Int)/\C4 (w.heap.size+1+1) (A i) wr/\C4 (w.heap.size+1+1+1) (P i) wr/\C4 (w.heap.size+1) 0 wr/\Below w.heap.size w wr) (fun _ _ _ _ t _=>c-(intOf t).toNat)
 case atStart =>
  refine ⟨0,Nat.zero_le _,rfl,?_,?_,?_,bgo⟩
  ·rw [hA];refine ⟨by simp,?_,?_,?_,?_,?_,?_,?_,?_⟩<;>go_simp
  ·rw [hP];refine ⟨by simp,?_,?_,?_,?_,?_,?_,?_,?_⟩<;>first|(rw [W4_zero];go_simp)|go_simp
  ·refine ⟨by simp,?_,?_,?_,?_,?_,?_,?_,?_⟩<;>first|(rw [W4_zero];go_simp)|go_simp
 case round =>
  obtain ⟨i,hi,rfl,h3,h4,h5,hbw⟩:=hrel
  have hl3:=h3.lt
  have hl4:=h4.lt
  have hl5:=h5.lt
  have hl6:w.heap.size<wr.heap.size:=by omega
  obtain ⟨_,o0,o1,o2,o3,g0,g1,g2,g3⟩:=id h3
  obtain ⟨_,p0,p1,p2,p3,f0,f1,f2,f3⟩:=id h4
  obtain ⟨_,q0,q1,q2,q3,e0,e1,e2,e3⟩:=id h5
  by_cases hic:i<c
  ·have hl:(i:Int)<(c:Int):=by omega
   have dd:=cd.out i hic
   have de:=ce.out i
   have do':=co.out i
   have ds:=cs.out i hic
   have da:=ca.out i hic
   have dX:=hX.out i
   have dD:=hD.out i
   have x0:(0:Int)<=(X i:Int):=by omega
   have x1:(X i:Int)<1000:=by omega
   have d0:(0:Int)<=(D i:Int):=by omega
   have d1:(D i:Int)<1024:=by omega
   clear hR cl dX dD
   generalize D i=Di at *
   generalize X i=Xi at *
   generalize P i=Pi at *
   generalize A i=Ai at *
   generalize T i=Ti at *
   go_wp2_with (first
    | (go_at_call 230;refine (dd _).mono ?_;rintro r w2 ⟨rfl,hb2⟩;have hn3:=h3.next hb2;have hn4:=h4.next hb2;have hn5:=h5.next hb2;obtain ⟨_,_,_,_,hA2,_⟩:=wz w hb2;obtain ⟨_,_⟩:=zf hb2 (w.heap.size+1);obtain ⟨_,_⟩:=zf hb2 (w.heap.size+1+1);obtain ⟨_,_⟩:=zf hb2 (w.heap.size+1+1+1);clear hb2)
    | (go_at_call 231;refine (de _).mono ?_;rintro r w3 ⟨rfl,rfl⟩))
   have hn3':=hn3.put (Y:=A (i+1))
   have hn4':=hn4.other (g':=w.heap.size+1+1) (Y:=A (i+1)) (by omega)
   have hn5':=hn5.other (g':=w.heap.size+1+1) (Y:=A (i+1)) (by omega)
   refine wp_tail 8 (by kernel_rfl) (by kernel_rfl) (by kernel_rfl) (fun _ _ d _ _ h=>by cases d<;>exact h) fun hne hcell=>?_
   simp only [List.take_succ_cons,List.take_zero,List.drop_succ_cons,List.drop_zero]
   repeat go_big_quiet_step (fail)
   go_big_quiet_step ((go_at_call 78;exact calls_wd _ bk_next (do' _)))
   repeat go_big_quiet_step (fail)
   go_big_quiet_step ((go_at_call 74;exact calls_wd _ bk_next (ds _)))
   repeat go_big_quiet_step (fail)
   go_big_quiet_step ((go_at_call 37;exact calls_wd _ bk_next (da _)))
   refine wpQuiet_nil fun w4 hb4=>?_
   have hm3:=hn3'.next hb4
   have hm4:=hn4'.next hb4
   have hm5:=hn5'.next hb4
   obtain ⟨_,_,_,_,hA4,_⟩:=wz w hb4;obtain ⟨_,_⟩:=zf hb4 (w.heap.size+1);obtain ⟨_,_⟩:=zf hb4 (w.heap.size+1+1);obtain ⟨_,_⟩:=zf hb4 (w.heap.size+1+1+1);clear hb4
   go_wp2
   go_roundw
   case rel=>exact ⟨i+1,by omega,by go_num,hm3.other (by omega),hm4.put,hm5.other (by omega),bgo⟩
   case measure=>simp [intOf];omega
  ·have hl:¬ (i:Int)<(c:Int):=by omega
   obtain rfl:i=c:=by omega
   rcases hR with ⟨hA0,rfl,rfl⟩|⟨hA0,rfl,rfl⟩
   ·go_wp2_with (go_at_call 75;refine (cl _).mono ?_;rintro r w2 ⟨rfl,hb2⟩;obtain ⟨_,_,_,_,hA2,_⟩:=wz w hb2;obtain ⟨_,_⟩:=zf hb2 (w.heap.size+1);obtain ⟨_,_⟩:=zf hb2 (w.heap.size+1+1);obtain ⟨_,_⟩:=zf hb2 (w.heap.size+1+1+1);clear hb2)
    exact bodyPost_ret (by simp only [results,Tryz.results211];go_simp) rfl ⟨rfl,bgo⟩
   ·go_wp2_with (go_at_call 75;refine (cl _).mono ?_;rintro r w2 ⟨rfl,hb2⟩;obtain ⟨_,_,_,_,hA2,_⟩:=wz w hb2;obtain ⟨_,_⟩:=zf hb2 (w.heap.size+1);obtain ⟨_,_⟩:=zf hb2 (w.heap.size+1+1);obtain ⟨_,_⟩:=zf hb2 (w.heap.size+1+1+1);clear hb2)
    exact bodyPost_ret (v:=.tuple #[A4 0,.int .i64 3]) (by rw [Z4_eq];simp only [results,Tryz.results211];go_simp) rfl ⟨rfl,bgo⟩
end
section
variable (B c:Nat)(w:World)(L:Int)(hc:c<=11)
 (ck:∀ W,CQ 212 #[.int .i64 (c:Int)] W (.bool true))
 (cl:∀ W,CB 75 #[A4 B] W (.int .i64 L))
include hc ck cl
theorem dupk_l (hL:10*(c:Int)<L):CB 188 #[A4 B,.int .i64 (c:Int)] w (.tuple #[A4 0,.int .i64 3]):=by
 rw [Z4_eq]
 have hsm:=cell_set_map
 have hc0:(0:Int)<=(c:Int):=by omega
 have hc1:(c:Int)<=11:=by omega
 go_enter Tryz.func188,Tryz.ntmps188
 go_wp2_with (first
  | (go_at_call 212;refine (ck _).mono ?_;rintro r w1 ⟨rfl,rfl⟩)
  | (go_at_call 75;refine (cl _).mono ?_;rintro r w2 ⟨rfl,hb2⟩;obtain ⟨_,_,_,_,hA2,_⟩:=wz w hb2;obtain ⟨_,_⟩:=zf hb2 (w.heap.size+1);clear hb2))
 exact bodyPost_ret (by simp only [results,Tryz.results188];go_simp) rfl ⟨rfl,bgo⟩
variable (U X D S M:Nat->Nat)(cr cm:Nat->Int)
 (cs:Hid (∀ k,k<c->∀ W,CB 72 #[A4 B,.int .i64 (10*(k:Int))] W (A4 (S k))))
 (hX:Hid (∀ k,W4 (S k) 0%1024=(X k:Int)/\X k<1024/\0<=W4 (S k) 0))
 (ce:Hid (∀ k W,CQ 213 #[.int .i64 (X k:Int)] W (.tuple #[.int .i64 (D k:Int),.int .i64 0])))
 (hD:Hid (∀ k,D k<1000))
 (cu:Hid (∀ k,k<c->∀ W,CB 143 #[A4 (U (k+1)),.int .u64 1000] W (.tuple #[A4 (M k),.int .u64 (cm k)])))
 (co:Hid (∀ k W,CB 78 #[.int .u64 (D k:Int)] W (A4 (D k))))
 (ca:Hid (∀ k,k<c->∀ W,CB 37 #[A4 (M k),A4 (D k)] W (.tuple #[A4 (U k),.int .u64 (cr k)])))
 (hU:U c=0)
include cs hX ce hD cu co ca hU
theorem dupk_w (hL:¬ 10*(c:Int)<L):CB 188 #[A4 B,.int .i64 (c:Int)] w (.tuple #[A4 (U 0),.int .i64 0]):=by
 have hsm:=cell_set_map
 have hc0:(0:Int)<=(c:Int):=by omega
 have hc1:(c:Int)<=11:=by omega
 go_enter Tryz.func188,Tryz.ntmps188
 go_wp2_with (first
  | (go_at_call 212;refine (ck _).mono ?_;rintro r w1 ⟨rfl,rfl⟩)
  | (go_at_call 75;refine (cl _).mono ?_;rintro r w2 ⟨rfl,hb2⟩;obtain ⟨_,_,_,_,hA2,_⟩:=wz w hb2;obtain ⟨_,_⟩:=zf hb2 (w.heap.size+1);clear hb2))
 go_loopw [7,8,9,10] (fun t _ _ _ wr=>∃ (k:Nat),k<=c/\t=.int .i64 ((k:Int)-1)/\C4 w2.heap.size (U k) wr/\C4 w.heap.size B wr/\C4 (w.heap.size+1) 0 wr/\Below w.heap.size w wr) (fun t _ _ _ _=>(intOf t+1).toNat)
 case atStart =>
  refine ⟨c,Nat.le_refl _,rfl,?_,?_,?_,bgo⟩
  ·rw [hU];exact C4.new _ _
  ·refine ⟨by simp;omega,?_,?_,?_,?_,?_,?_,?_,?_⟩<;>go_simp
  ·refine ⟨by simp;omega,?_,?_,?_,?_,?_,?_,?_,?_⟩<;>first|(rw [W4_zero];go_simp)|go_simp
 case round =>
  obtain ⟨k,hk,rfl,h3,h4,h5,hbw⟩:=hrel
  have hl3:=h3.lt
  have hl4:=h4.lt
  have hl5:=h5.lt
  have hz3:w.heap.size+1<w2.heap.size:=by omega
  obtain ⟨_,o0,o1,o2,o3,g0,g1,g2,g3⟩:=id h3
  obtain ⟨_,p0,p1,p2,p3,f0,f1,f2,f3⟩:=id h4
  obtain ⟨_,q0,q1,q2,q3,e0,e1,e2,e3⟩:=id h5
  by_cases hk0:k=0
  ·subst hk0
   go_wp2
   exact bodyPost_ret (by simp only [results,Tryz.results188];go_simp) rfl ⟨rfl,bgo⟩
  ·obtain ⟨j,rfl⟩:∃ j,k=j+1:=⟨k-1,by omega⟩
   have ej:((j+1:Nat):Int)-1=(j:Int):=by omega
   rw [ej]
   have hj:j<c:=by omega
   have hj0:¬ (j:Int)<0:=by omega
   have hj1:(j:Int)<=11:=by omega
   have ds:=cs.out j hj
   obtain ⟨x2,x3,x4⟩:=hX.out j
   have de:=ce.out j
   have du:=cu.out j hj
   have do':=co.out j
   have da:=ca.out j hj
   have dD:=hD.out j
   have d0:(0:Int)<=(D j:Int):=by omega
   have d1:(D j:Int)<1000:=by omega
   have x0:(0:Int)<=(X j:Int):=by omega
   have x1:(X j:Int)<1024:=by omega
   clear ej dD x3 hL ck cl
   generalize D j=Dj at *
   generalize X j=Xj at *
   generalize S j=Sj at *
   generalize M j=Mj at *
   generalize U (j+1)=Uj at *
   go_wp2_with (first
    | (go_at_call 72;refine (ds _).mono ?_;rintro r w3 ⟨rfl,hb3⟩;have hn3:=h3.next hb3;have hn4:=h4.next hb3;have hn5:=h5.next hb3;obtain ⟨_,_,_,_,hA3,_⟩:=wz w hb3;obtain ⟨_,_⟩:=zf hb3 (w.heap.size+1);obtain ⟨_,_⟩:=zf hb3 w2.heap.size;clear hb3)
    | (go_at_call 213;refine (de _).mono ?_;rintro r w4 ⟨rfl,rfl⟩)
    | (go_at_call 143;refine (du _).mono ?_;rintro r w5 ⟨rfl,hb5⟩;obtain ⟨_,_,_,_,hA5,_⟩:=wz w hb5;obtain ⟨_,_⟩:=zf hb5 (w.heap.size+1);obtain ⟨_,_⟩:=zf hb5 w2.heap.size;clear hb5))
   refine wp_tail 5 (by kernel_rfl) (by kernel_rfl) (by kernel_rfl) (fun _ _ d _ _ h=>by cases d<;>exact h) fun hne hcell=>?_
   simp only [List.take_succ_cons,List.take_zero,List.drop_succ_cons,List.drop_zero]
   repeat go_big_quiet_step (fail)
   go_big_quiet_step ((go_at_call 78;exact calls_wd _ bk_next (do' _)))
   repeat go_big_quiet_step (fail)
   go_big_quiet_step ((go_at_call 37;exact calls_wd _ bk_next (da _)))
   refine wpQuiet_nil fun w6 hb6=>?_
   obtain ⟨_,_,_,_,hA6,_⟩:=wz w hb6;obtain ⟨_,_⟩:=zf hb6 (w.heap.size+1);obtain ⟨_,_⟩:=zf hb6 w2.heap.size;clear hb6
   go_wp2
   go_roundw
   case rel =>
    refine ⟨j,by omega,by go_num,?_,?_,?_,bgo⟩
    ·refine ⟨by simp;omega,?_,?_,?_,?_,?_,?_,?_,?_⟩<;>go_simp
    ·refine ⟨by simp;omega,?_,?_,?_,?_,?_,?_,?_,?_⟩<;>go_simp
    ·refine ⟨by simp;omega,?_,?_,?_,?_,?_,?_,?_,?_⟩<;>go_simp
   case measure=>simp [intOf]
end
theorem p1024 (i:Nat):(1024:Nat)^i=2^(10*i):=by rw [Nat.pow_mul]
theorem dpck_any (C:Nat)(n:Int)(w:World)(hC:C<2^256):CB 211 #[A4 C,.int .i64 n] w (.tuple #[A4 (dPv C n),.int .i64 (dPe C n)]):=by
 unfold dPv dPe
 by_cases h:0<=n/\n<=11
 ·obtain ⟨c,rfl⟩:=Int.eq_ofNat_of_zero_le h.1
  have hc:c<=11:=by omega
  rw [if_pos h,if_pos h,Int.toNat_natCast]
  have hA:∀ i,C/1000^i<2^256:=fun i=>Nat.lt_of_le_of_lt (Nat.div_le_self _ _) hC
  have hL0:=len4_zero (hA c)
  have hL1:0<=lenL (W4 (C/1000^c)) 4:=by
   by_cases h0:0<sizeL (W4 (C/1000^c)) 4
   ·obtain ⟨L,h1,_⟩:=len_bd (W4_words _) h0
    omega
   ·unfold lenL;rw [if_pos (by omega)];exact Int.le_refl _
  refine dpck_w C c w (fun i=>C/1000^i) (fun i=>dlP i C) (fun i=>C/1000^i%1000) (fun i=>dlE (C/1000^i%1000)) (fun i=>dlE (C/1000^i%1000)*2^(10*i)) (fun i=>(((dlP i C+dlE (C/1000^i%1000)*2^(10*i))/2^256:Nat):Int)) (lenL (W4 (C/1000^c)) 4) hc ?_ ?_ ?_ ?_ ?_ ?_ ?_ ?_ (fun W=>len4' _ W) (by simp) rfl _ _ ?_
  ·intro W
   have:=known_v (c:Int) W
   rw [decide_eq_true h] at this
   exact this
  ·intro i hi W
   have:=div4 (C/1000^i) 1000 W (hA i) (by decide) (by decide)
   rw [Nat.div_div_eq_div_mul,← Nat.pow_succ] at this
   exact this
  ·intro i
   exact Nat.mod_lt _ (by decide)
  ·intro i W
   exact denc_v _ (Nat.mod_lt _ (by decide)) W
  ·intro i
   exact (dl_back _ (Nat.mod_lt _ (by decide))).2
  ·intro i W
   have:=(dl_back (C/1000^i%1000) (Nat.mod_lt _ (by decide))).2
   exact of4 _ W (by omega)
  ·intro i hi W
   have h2:=(dl_back (C/1000^i%1000) (Nat.mod_lt _ (by decide))).2
   have:=shl4 (dlE (C/1000^i%1000)) (10*i) W (Nat.lt_trans h2 (by decide)) (by omega)
   rw [show ((10*i:Nat):Int)=10*(i:Int) by omega] at this
   exact this
  ·intro i hi W
   have e:=dlP_snoc i C
   rw [p1024] at e
   have h1:=dlP_256 (i+1) C (by omega)
   have:=add4 (dlP i C) (dlE (C/1000^i%1000)*2^(10*i)) W (by omega) (by omega)
   rw [show A4 (dlP i C+dlE (C/1000^i%1000)*2^(10*i))=A4 (dlP (i+1) C) by rw [e]] at this
   exact this
  ·by_cases hlt:C<1000^c
   ·rw [if_pos hlt,if_pos hlt]
    exact Or.inl ⟨by rw [hL0.2 (Nat.div_eq_of_lt hlt)];decide,rfl,rfl⟩
   ·rw [if_neg hlt,if_neg hlt]
    have h1:C/1000^c≠0:=by
     have:=(Nat.le_div_iff_mul_le (Nat.pow_pos (n:=c) (show 0<1000 by decide))).2 (show 1*1000^c<=C by omega)
     omega
    have h2:lenL (W4 (C/1000^c)) 4≠0:=fun e=>h1 (hL0.1 e)
    exact Or.inr ⟨by omega,rfl,rfl⟩
 ·rw [if_neg h,if_neg h]
  refine dpck_n C n w fun W=>?_
  have:=known_v n W
  rw [decide_eq_false h] at this
  exact this
theorem dupk_any (B:Nat)(n:Int)(w:World)(hB:B<2^256):CB 188 #[A4 B,.int .i64 n] w (.tuple #[A4 (dUv B n),.int .i64 (dUe B n)]):=by
 unfold dUv dUe
 by_cases h:0<=n/\n<=11
 ·obtain ⟨c,rfl⟩:=Int.eq_ofNat_of_zero_le h.1
  have hc:c<=11:=by omega
  rw [if_pos h,if_pos h,Int.toNat_natCast]
  have hk:∀ W,CQ 212 #[.int .i64 (c:Int)] W (.bool true):=fun W=>by
   have:=known_v (c:Int) W
   rw [decide_eq_true h] at this
   exact this
  have hL:=len4_le (k:=10*c) hB
  rw [← p1024] at hL
  by_cases hlt:B<1024^c
  ·rw [if_pos hlt,if_pos hlt]
   have hU:∀ k,dlU (c-k) (B/1024^k)<1000^11:=fun k=>Nat.lt_of_lt_of_le (dlU_lt _ _) (Nat.pow_le_pow_right (by decide) (by omega))
   have e11:(1000:Nat)^11=1000000000000000000000000000000000:=by decide
   have e256:(2:Nat)^256=115792089237316195423570985008687907853269984665640564039457584007913129639936:=by decide
   have:=dupk_w B c w (lenL (W4 B) 4) hc hk (fun W=>len4' _ W) (fun k=>dlU (c-k) (B/1024^k)) (fun k=>B/1024^k%1024) (fun k=>dlD (B/1024^k%1024)) (fun k=>B/2^(10*k)) (fun k=>dlU (c-(k+1)) (B/1024^(k+1))*1000) (fun k=>(((dlU (c-(k+1)) (B/1024^(k+1))*1000+dlD (B/1024^k%1024))/2^256:Nat):Int)) (fun k=>((dlU (c-(k+1)) (B/1024^(k+1))*1000/2^256:Nat):Int)) (fun k hk W=>?_) (fun k=>?_) (fun k W=>?_) (fun k=>?_) (fun k hk W=>?_) (fun k W=>?_) (fun k hk W=>?_) (by rw [Nat.sub_self];rfl) (by have:=hL.2 hlt;omega)
   ·simp only [Nat.sub_zero,Nat.pow_zero,Nat.div_one] at this
    exact this
   ·have:=shr4 B (10*k) W hB (by omega)
    rw [show ((10*k:Nat):Int)=10*(k:Int) by omega] at this
    exact this
   ·refine ⟨?_,Nat.mod_lt _ (by decide),(W4_words _ 0).1⟩
    unfold W4
    rw [← p1024,Nat.mul_zero,Nat.pow_zero,Nat.div_one]
    omega
   ·exact ddcd_v _ (Nat.mod_lt _ (by decide)) W
   ·exact (dl_means _ (Nat.mod_lt _ (by decide))).1
   ·have h1:=hU (k+1)
    exact mul4 _ 1000 W (by omega) (by decide)
   ·have:=(dl_means (B/1024^k%1024) (Nat.mod_lt _ (by decide))).1
    exact of4 _ W (by omega)
   ·have h1:=hU (k+1)
    have h2:=(dl_means (B/1024^k%1024) (Nat.mod_lt _ (by decide))).1
    have e:=dlU_step (c-(k+1)) (B/1024^k)
    rw [Nat.div_div_eq_div_mul,← Nat.pow_succ,show c-(k+1)+1=c-k by omega] at e
    have:=add4 (dlU (c-(k+1)) (B/1024^(k+1))*1000) (dlD (B/1024^k%1024)) W (by omega) (by omega)
    rw [show A4 (dlU (c-(k+1)) (B/1024^(k+1))*1000+dlD (B/1024^k%1024))=A4 (dlU (c-k) (B/1024^k)) by rw [e]] at this
    exact this
  ·rw [if_neg hlt,if_neg hlt]
   exact dupk_l B c w (lenL (W4 B) 4) hc hk (fun W=>len4' _ W) (by
    have:¬ lenL (W4 B) 4<=((10*c:Nat):Int):=fun q=>hlt (hL.1 q)
    omega)
 ·rw [if_neg h,if_neg h]
  refine dupk_n B n w fun W=>?_
  have:=known_v n W
  rw [decide_eq_false h] at this
  exact this
end
end Go.Proofs.YtahfkpjhlbiamaaGreatDoor
