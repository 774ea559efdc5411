/-
  Texts that the proof leans on.
-/
import Derived.Test.YtgknbdehlmlipaaGreatDoorJ30
import Derived.Test.YtgknbdehlmlipaaGreatDoorJ26
import Derived.Test.YtgknbdehlmlipaaGreatDoorJ29
import Derived.Test.YtgknbdehlmlipaaGreatDoorJ2
import Derived.Test.YtgknbdehlmlipaaGreatDoorJ23
set_option maxHeartbeats 8000000
set_option linter.unusedVariables false
set_option linter.unusedSectionVars false
set_option linter.unusedSimpArgs false
set_option maxRecDepth 20000
namespace Go.Proofs.YtgknbdehlmlipaaGreatDoor
open Go.RowKit
section
theorem nv_cells {g X:Nat}{W:World}(hX:X<2^256)(hg:g<W.heap.size)(h0:W.cell? ⟨g,0,none⟩=some (.int .u64 (W4 X 0)))(h1:W.cell? ⟨g,1,none⟩=some (.int .u64 (W4 X 1)))(h2:W.cell? ⟨g,2,none⟩=some (.int .u64 (W4 X 2)))(h3:W.cell? ⟨g,3,none⟩=some (.int .u64 (W4 X 3))):NV 4 X (.slice (some ⟨g,0,none⟩) 4 4) W:=by
 refine ⟨g,4,4,lowW (W4 X) 4,rfl,Nat.le_refl _,⟨Nat.le_refl _,by unfold maxLen;omega,lowW_words (W4_words X) 4,fun i hi=>lowW_ge hi,Or.inr ⟨g,0,rfl,hg,fun i hi=>?_⟩⟩,?_⟩
 ·rw [lowW_lt hi]
  have:i=0∨i=1∨i=2∨i=3:=by omega
  rcases this with rfl|rfl|rfl|rfl
  ·exact h0
  ·exact h1
  ·exact h2
  ·exact h3
 ·rw [val_congr (x:=lowW (W4 X) 4) (y:=W4 X) 4 (fun i hi=>lowW_lt hi),W4_val4 hX]
theorem number_wide {K V:Nat}{v:Value}{w:World}(h:NV K V v w)(hK:K<100000)(hV:V<9223372036854775808) :
    Calls Tryz.prog 53 #[v] w fun e w'=>e=.returned (.int .i64 V)/\w'=w:=by
  obtain ⟨g,k,cap,z,rfl,hk,hN,hv⟩:=h
  obtain ⟨h1,h2,h3,h4,h5⟩:=hN
  rcases h5 with ⟨h5,_⟩|⟨b,off,e,hb,hc⟩
  · cases h5
  · cases e
    rcases Nat.eq_zero_or_pos k with hk0|hk0
    · subst hk0
      have : V = 0 := by have : val z 0 = 0 := rfl
                         omega
      subst this
      go_enter Tryz.func53,Tryz.ntmps53
      go_wp2
      go_ret
      exact ⟨rfl,rfl⟩
    · have hc0:=hc 0 hk0
      have hz0:=h3 0
      have e0:z 0=(V:Int):=by
        have hl:=nv_low h3 h4 hv
        obtain ⟨j,rfl⟩:∃ j,k=1+j:=⟨k-1,by omega⟩
        have hs:=val_split z 1 j
        have hb2:=val_bd (segW_words h3 1 j) j
        have h10:val z 1=z 0:=by show val z 0+z 0*18446744073709551616^0=z 0;simp [val]
        rw [hv,h10] at hs
        simp only [Int.pow_one] at hs
        have hm:0<=val (segW z 1 j) j:=hb2.1
        by_cases hp:0<val (segW z 1 j) j
        · exfalso;omega
        · have:val (segW z 1 j) j=0:=by omega
          rw [this] at hs;omega
      have hk1:¬ ((k:Int)=0):=by omega
      rw [e0] at hc0
      simp only [Nat.add_zero] at hc0
      have hkb:(k==0)=false:=by simp;omega
      have hki:(0:Int)<k:=by omega
      clear hc h3 h4 hv e0 hz0
      go_enter Tryz.func53,Tryz.ntmps53
      go_wp2
      go_ret
      exact ⟨rfl,rfl⟩
attribute [local irreducible] W4 NT NV
section
variable (n:Int)(nm:ByteArray)(wd pr ex le mo pa:Int)(G T J:Int)(x:Int)(k S:Nat)(w:World)
 (cD:∀ W,CQ 60 #[.int .i64 n] W (.bool true))
 (hG0:11<=G) (hG1:G<=100) (hT0:0<=T) (hT1:T<=200) (hJ0:0<=J) (hJ1:J<=11)
 (cN:∀ W,Calls Tryz.prog 48 #[A4 k] W fun r w'=>∃ g n cap,r=.returned (.slice (some ⟨g,0,none⟩) n cap)/\W.heap.size<g/\NT 4 k (.slice (some ⟨g,0,none⟩) n cap) w'/\Below W.heap.size W w')
include cD hG0 hG1 hT0 hT1 hJ0 hJ1 cN
theorem vpk2_t (R:Nat)(g dn:Bool)
  (cO:∀ W,CB 20 #[.int .i64 n] W (.tuple #[IDec n nm wd pr ex le mo pa dn,.int .i64 0]))
  (cI:∀ W,CB 61 #[IDec n nm wd pr ex le mo pa dn,DV 2 true g x k] W (.bool true))
  (cS:∀ W,CB 62 #[IDec n nm wd pr ex le mo pa dn] W (.tuple #[.int .i64 G,.int .i64 T,.int .i64 J]))
  (cL1:∀ W v,NV 1 1 v W->CB 63 #[Z4,v,.int .i64 (T+G)] W (A4 S))
  (cL2:∀ W v,NV 1 30 v W->CB 63 #[A4 S,v,.int .i64 (T+G-5)] W (A4 R)) :
  CB 27 #[.int .i64 n,DV 2 true g x k] w (.tuple #[A4 R,.int .i64 0]):=by
 have hsm:=cell_set_map
 unfold DV A4 Z4 at *
 go_enter Tryz.func27,Tryz.ntmps27
 go_wp2_with (first
  | (go_at_call 60;refine (cD _).mono ?_;rintro r w0 ⟨rfl,rfl⟩)
  | (go_at_call 20;refine (cO _).mono ?_;rintro r w1 ⟨rfl,hb1⟩;obtain ⟨_,_,_,_,hA1,_⟩:=wz w hb1;obtain ⟨_,_⟩:=zf hb1 (w.heap.size+1);clear hb1)
  | (go_at_call 61;refine (cI _).mono ?_;rintro r w2 ⟨rfl,hb2⟩;obtain ⟨_,_,_,_,hA2,_⟩:=wz w hb2;obtain ⟨_,_⟩:=zf hb2 (w.heap.size+1);obtain ⟨_,_⟩:=zf hb2 w1.heap.size;clear hb2)
  | (go_at_call 62;refine (cS _).mono ?_;rintro r w3 ⟨rfl,hb3⟩;obtain ⟨_,_,_,_,hA3,_⟩:=wz w hb3;obtain ⟨_,_⟩:=zf hb3 (w.heap.size+1);obtain ⟨_,_⟩:=zf hb3 w1.heap.size;clear hb3;have q0:w.heap.size<w3.heap.size+1+1:=(by omega);have q1:w.heap.size+1<w3.heap.size+1+1:=(by omega);have q2:w1.heap.size<w3.heap.size+1+1:=(by omega);have q3:w3.heap.size<w3.heap.size+1+1:=(by omega))
  | (go_at_call 63;refine (cL1 _ _ (nv_dec (by simp) (by rfl) (by decide))).mono ?_;rintro r w4 ⟨rfl,hb4⟩;clear cL1;obtain ⟨_,_,_,_,hA4,_⟩:=wz w hb4;obtain ⟨_,_⟩:=zf hb4 (w.heap.size+1);obtain ⟨_,_⟩:=zf hb4 w1.heap.size;obtain ⟨_,_⟩:=zf hb4 w3.heap.size;clear hb4)
  | (go_at_call 48;refine (cN _).mono ?_;rintro r w5 ⟨gn,nn,cn,rfl,hg5,hn5,hb5⟩;have hgn:gn≠w3.heap.size:=(by first|omega|(simp at hg5;omega));clear hg5;obtain ⟨_,_,_,_,hA5,_⟩:=wz w hb5;obtain ⟨_,_⟩:=zf hb5 (w.heap.size+1);obtain ⟨_,_⟩:=zf hb5 w1.heap.size;obtain ⟨_,_⟩:=zf hb5 w3.heap.size;clear hb5)
  | (go_at_call 63;refine (cL2 _ _ (nv_dec (by simp) (by rfl) (by decide))).mono ?_;rintro r w6 ⟨rfl,hb6⟩;obtain ⟨_,_,_,_,hA6,_⟩:=wz w hb6;obtain ⟨_,_⟩:=zf hb6 (w.heap.size+1);obtain ⟨_,_⟩:=zf hb6 w1.heap.size;obtain ⟨_,_⟩:=zf hb6 w3.heap.size;clear hb6))
 exact bodyPost_ret (v:=.tuple #[A4 R,.int .i64 0]) (by simp only [results,Tryz.results27];go_simp) rfl ⟨rfl,bgo⟩
theorem vpk3_ttt (R:Nat)(R1 R2 p:Nat)
  (cO:∀ W,CB 20 #[.int .i64 n] W (.tuple #[IDec n nm wd pr ex le mo pa true,.int .i64 0]))
  (cI:∀ W,CB 61 #[IDec n nm wd pr ex le mo pa true,DV 3 true true x k] W (.bool true))
  (cS:∀ W,CB 62 #[IDec n nm wd pr ex le mo pa true] W (.tuple #[.int .i64 G,.int .i64 T,.int .i64 J]))
  (cL1:∀ W v,NV 1 1 v W->CB 63 #[Z4,v,.int .i64 (T+G)] W (A4 S))
  (cL3:∀ W v,NV 1 31 v W->CB 63 #[A4 S,v,.int .i64 (T+G-5)] W (A4 R1))
  (cL4:∀ W v,NV 1 1 v W->CB 63 #[A4 R1,v,.int .i64 (T+G-6)] W (A4 R2))
  (hp:p<2^256) (cP:∀ W,CB 64 #[A4 k,.int .i64 J] W (.tuple #[A4 p,.int .i64 0]))
  (cL5:∀ W v,NV 4 p v W->CB 63 #[A4 R2,v,.int .i64 0] W (A4 R)) :
  CB 27 #[.int .i64 n,DV 3 true true x k] w (.tuple #[A4 R,.int .i64 0]):=by
 have hsm:=cell_set_map
 unfold DV A4 Z4 at *
 go_enter Tryz.func27,Tryz.ntmps27
 go_wp2_with (first
  | (go_at_call 60;refine (cD _).mono ?_;rintro r w0 ⟨rfl,rfl⟩)
  | (go_at_call 20;refine (cO _).mono ?_;rintro r w1 ⟨rfl,hb1⟩;obtain ⟨_,_,_,_,hA1,_⟩:=wz w hb1;obtain ⟨_,_⟩:=zf hb1 (w.heap.size+1);clear hb1)
  | (go_at_call 61;refine (cI _).mono ?_;rintro r w2 ⟨rfl,hb2⟩;obtain ⟨_,_,_,_,hA2,_⟩:=wz w hb2;obtain ⟨_,_⟩:=zf hb2 (w.heap.size+1);obtain ⟨_,_⟩:=zf hb2 w1.heap.size;clear hb2)
  | (go_at_call 62;refine (cS _).mono ?_;rintro r w3 ⟨rfl,hb3⟩;obtain ⟨_,_,_,_,hA3,_⟩:=wz w hb3;obtain ⟨_,_⟩:=zf hb3 (w.heap.size+1);obtain ⟨_,_⟩:=zf hb3 w1.heap.size;clear hb3;have q0:w.heap.size<w3.heap.size+1+1:=(by omega);have q1:w.heap.size+1<w3.heap.size+1+1:=(by omega);have q2:w1.heap.size<w3.heap.size+1+1:=(by omega);have q3:w3.heap.size<w3.heap.size+1+1:=(by omega))
  | (go_at_call 63;refine (cL1 _ _ (nv_dec (by simp) (by rfl) (by decide))).mono ?_;rintro r w4 ⟨rfl,hb4⟩;clear cL1;obtain ⟨_,_,_,_,hA4,_⟩:=wz w hb4;obtain ⟨_,_⟩:=zf hb4 (w.heap.size+1);obtain ⟨_,_⟩:=zf hb4 w1.heap.size;obtain ⟨_,_⟩:=zf hb4 w3.heap.size;clear hb4)
  | (go_at_call 48;refine (cN _).mono ?_;rintro r w5 ⟨gn,nn,cn,rfl,hg5,hn5,hb5⟩;have hgn:gn≠w3.heap.size:=(by first|omega|(simp at hg5;omega));clear hg5;obtain ⟨_,_,_,_,hA5,_⟩:=wz w hb5;obtain ⟨_,_⟩:=zf hb5 (w.heap.size+1);obtain ⟨_,_⟩:=zf hb5 w1.heap.size;obtain ⟨_,_⟩:=zf hb5 w3.heap.size;clear hb5)
  | (go_at_call 63;refine (cL3 _ _ (nv_dec (by simp) (by rfl) (by decide))).mono ?_;rintro r w6 ⟨rfl,hb6⟩;clear cL3;obtain ⟨_,_,_,_,hA6,_⟩:=wz w hb6;obtain ⟨_,_⟩:=zf hb6 (w.heap.size+1);obtain ⟨_,_⟩:=zf hb6 w1.heap.size;obtain ⟨_,_⟩:=zf hb6 w3.heap.size;clear hb6)
  | (go_at_call 63;refine (cL4 _ _ (nv_dec (by simp) (by rfl) (by decide))).mono ?_;rintro r w7 ⟨rfl,hb7⟩;clear cL4;obtain ⟨_,_,_,_,hA7,_⟩:=wz w hb7;obtain ⟨_,_⟩:=zf hb7 (w.heap.size+1);obtain ⟨_,_⟩:=zf hb7 w1.heap.size;obtain ⟨_,_⟩:=zf hb7 w3.heap.size;clear hb7)
  | (go_at_call 64;refine (cP _).mono ?_;rintro r w8 ⟨rfl,hb8⟩;obtain ⟨_,_,_,_,hA8,_⟩:=wz w hb8;obtain ⟨_,_⟩:=zf hb8 (w.heap.size+1);obtain ⟨_,_⟩:=zf hb8 w1.heap.size;obtain ⟨_,_⟩:=zf hb8 w3.heap.size;clear hb8)
  | (go_at_call 63;refine (cL5 _ _ (nv_cells hp (by simp) (by go_simp) (by go_simp) (by go_simp) (by go_simp))).mono ?_;rintro r w9 ⟨rfl,hb9⟩;obtain ⟨_,_,_,_,hA9,_⟩:=wz w hb9;obtain ⟨_,_⟩:=zf hb9 (w.heap.size+1);obtain ⟨_,_⟩:=zf hb9 w1.heap.size;obtain ⟨_,_⟩:=zf hb9 w3.heap.size;clear hb9))
 exact bodyPost_ret (v:=.tuple #[A4 R,.int .i64 0]) (by simp only [results,Tryz.results27];go_simp) rfl ⟨rfl,bgo⟩
theorem vpk3_ttf (R:Nat)(R1 R2:Nat)
  (cO:∀ W,CB 20 #[.int .i64 n] W (.tuple #[IDec n nm wd pr ex le mo pa false,.int .i64 0]))
  (cI:∀ W,CB 61 #[IDec n nm wd pr ex le mo pa false,DV 3 true true x k] W (.bool true))
  (cS:∀ W,CB 62 #[IDec n nm wd pr ex le mo pa false] W (.tuple #[.int .i64 G,.int .i64 T,.int .i64 J]))
  (cL1:∀ W v,NV 1 1 v W->CB 63 #[Z4,v,.int .i64 (T+G)] W (A4 S))
  (cL3:∀ W v,NV 1 31 v W->CB 63 #[A4 S,v,.int .i64 (T+G-5)] W (A4 R1))
  (cL4:∀ W v,NV 1 1 v W->CB 63 #[A4 R1,v,.int .i64 (T+G-6)] W (A4 R2))
  (cL5:∀ W v,NV 4 k v W->CB 63 #[A4 R2,v,.int .i64 0] W (A4 R)) :
  CB 27 #[.int .i64 n,DV 3 true true x k] w (.tuple #[A4 R,.int .i64 0]):=by
 have hsm:=cell_set_map
 unfold DV A4 Z4 at *
 go_enter Tryz.func27,Tryz.ntmps27
 go_wp2_with (first
  | (go_at_call 60;refine (cD _).mono ?_;rintro r w0 ⟨rfl,rfl⟩)
  | (go_at_call 20;refine (cO _).mono ?_;rintro r w1 ⟨rfl,hb1⟩;obtain ⟨_,_,_,_,hA1,_⟩:=wz w hb1;obtain ⟨_,_⟩:=zf hb1 (w.heap.size+1);clear hb1)
  | (go_at_call 61;refine (cI _).mono ?_;rintro r w2 ⟨rfl,hb2⟩;obtain ⟨_,_,_,_,hA2,_⟩:=wz w hb2;obtain ⟨_,_⟩:=zf hb2 (w.heap.size+1);obtain ⟨_,_⟩:=zf hb2 w1.heap.size;clear hb2)
  | (go_at_call 62;refine (cS _).mono ?_;rintro r w3 ⟨rfl,hb3⟩;obtain ⟨_,_,_,_,hA3,_⟩:=wz w hb3;obtain ⟨_,_⟩:=zf hb3 (w.heap.size+1);obtain ⟨_,_⟩:=zf hb3 w1.heap.size;clear hb3;have q0:w.heap.size<w3.heap.size+1+1:=(by omega);have q1:w.heap.size+1<w3.heap.size+1+1:=(by omega);have q2:w1.heap.size<w3.heap.size+1+1:=(by omega);have q3:w3.heap.size<w3.heap.size+1+1:=(by omega))
  | (go_at_call 63;refine (cL1 _ _ (nv_dec (by simp) (by rfl) (by decide))).mono ?_;rintro r w4 ⟨rfl,hb4⟩;clear cL1;obtain ⟨_,_,_,_,hA4,_⟩:=wz w hb4;obtain ⟨_,_⟩:=zf hb4 (w.heap.size+1);obtain ⟨_,_⟩:=zf hb4 w1.heap.size;obtain ⟨_,_⟩:=zf hb4 w3.heap.size;clear hb4)
  | (go_at_call 48;refine (cN _).mono ?_;rintro r w5 ⟨gn,nn,cn,rfl,hg5,hn5,hb5⟩;have hgn:gn≠w3.heap.size:=(by first|omega|(simp at hg5;omega));clear hg5;obtain ⟨_,_,_,_,hA5,_⟩:=wz w hb5;obtain ⟨_,_⟩:=zf hb5 (w.heap.size+1);obtain ⟨_,_⟩:=zf hb5 w1.heap.size;obtain ⟨_,_⟩:=zf hb5 w3.heap.size;clear hb5)
  | (go_at_call 63;refine (cL3 _ _ (nv_dec (by simp) (by rfl) (by decide))).mono ?_;rintro r w6 ⟨rfl,hb6⟩;clear cL3;have hn6:=((hn5.next (below1 _ _)).next hb6).upd hgn (put4C_upd _ _ R1);obtain ⟨_,_,_,_,hA6,_⟩:=wz w hb6;obtain ⟨_,_⟩:=zf hb6 (w.heap.size+1);obtain ⟨_,_⟩:=zf hb6 w1.heap.size;obtain ⟨_,_⟩:=zf hb6 w3.heap.size;clear hb6)
  | (go_at_call 63;refine (cL4 _ _ (nv_dec (by simp) (by rfl) (by decide))).mono ?_;rintro r w7 ⟨rfl,hb7⟩;clear cL4;have hn7:=((hn6.next (below1 _ _)).next hb7).upd hgn (put4C_upd _ _ R2);obtain ⟨_,_,_,_,hA7,_⟩:=wz w hb7;obtain ⟨_,_⟩:=zf hb7 (w.heap.size+1);obtain ⟨_,_⟩:=zf hb7 w1.heap.size;obtain ⟨_,_⟩:=zf hb7 w3.heap.size;clear hb7)
  | (go_at_call 63;refine (cL5 _ _ hn7.nv).mono ?_;rintro r w9 ⟨rfl,hb9⟩;obtain ⟨_,_,_,_,hA9,_⟩:=wz w hb9;obtain ⟨_,_⟩:=zf hb9 (w.heap.size+1);obtain ⟨_,_⟩:=zf hb9 w1.heap.size;obtain ⟨_,_⟩:=zf hb9 w3.heap.size;clear hb9))
 exact bodyPost_ret (v:=.tuple #[A4 R,.int .i64 0]) (by simp only [results,Tryz.results27];go_simp) rfl ⟨rfl,bgo⟩
theorem vpk3_tft (R:Nat)(R1 p:Nat)
  (cO:∀ W,CB 20 #[.int .i64 n] W (.tuple #[IDec n nm wd pr ex le mo pa true,.int .i64 0]))
  (cI:∀ W,CB 61 #[IDec n nm wd pr ex le mo pa true,DV 3 true false x k] W (.bool true))
  (cS:∀ W,CB 62 #[IDec n nm wd pr ex le mo pa true] W (.tuple #[.int .i64 G,.int .i64 T,.int .i64 J]))
  (cL1:∀ W v,NV 1 1 v W->CB 63 #[Z4,v,.int .i64 (T+G)] W (A4 S))
  (cL3:∀ W v,NV 1 31 v W->CB 63 #[A4 S,v,.int .i64 (T+G-5)] W (A4 R1))
  (hp:p<2^256) (cP:∀ W,CB 64 #[A4 k,.int .i64 J] W (.tuple #[A4 p,.int .i64 0]))
  (cL5:∀ W v,NV 4 p v W->CB 63 #[A4 R1,v,.int .i64 0] W (A4 R)) :
  CB 27 #[.int .i64 n,DV 3 true false x k] w (.tuple #[A4 R,.int .i64 0]):=by
 have hsm:=cell_set_map
 unfold DV A4 Z4 at *
 go_enter Tryz.func27,Tryz.ntmps27
 go_wp2_with (first
  | (go_at_call 60;refine (cD _).mono ?_;rintro r w0 ⟨rfl,rfl⟩)
  | (go_at_call 20;refine (cO _).mono ?_;rintro r w1 ⟨rfl,hb1⟩;obtain ⟨_,_,_,_,hA1,_⟩:=wz w hb1;obtain ⟨_,_⟩:=zf hb1 (w.heap.size+1);clear hb1)
  | (go_at_call 61;refine (cI _).mono ?_;rintro r w2 ⟨rfl,hb2⟩;obtain ⟨_,_,_,_,hA2,_⟩:=wz w hb2;obtain ⟨_,_⟩:=zf hb2 (w.heap.size+1);obtain ⟨_,_⟩:=zf hb2 w1.heap.size;clear hb2)
  | (go_at_call 62;refine (cS _).mono ?_;rintro r w3 ⟨rfl,hb3⟩;obtain ⟨_,_,_,_,hA3,_⟩:=wz w hb3;obtain ⟨_,_⟩:=zf hb3 (w.heap.size+1);obtain ⟨_,_⟩:=zf hb3 w1.heap.size;clear hb3;have q0:w.heap.size<w3.heap.size+1+1:=(by omega);have q1:w.heap.size+1<w3.heap.size+1+1:=(by omega);have q2:w1.heap.size<w3.heap.size+1+1:=(by omega);have q3:w3.heap.size<w3.heap.size+1+1:=(by omega))
  | (go_at_call 63;refine (cL1 _ _ (nv_dec (by simp) (by rfl) (by decide))).mono ?_;rintro r w4 ⟨rfl,hb4⟩;clear cL1;obtain ⟨_,_,_,_,hA4,_⟩:=wz w hb4;obtain ⟨_,_⟩:=zf hb4 (w.heap.size+1);obtain ⟨_,_⟩:=zf hb4 w1.heap.size;obtain ⟨_,_⟩:=zf hb4 w3.heap.size;clear hb4)
  | (go_at_call 48;refine (cN _).mono ?_;rintro r w5 ⟨gn,nn,cn,rfl,hg5,hn5,hb5⟩;have hgn:gn≠w3.heap.size:=(by first|omega|(simp at hg5;omega));clear hg5;obtain ⟨_,_,_,_,hA5,_⟩:=wz w hb5;obtain ⟨_,_⟩:=zf hb5 (w.heap.size+1);obtain ⟨_,_⟩:=zf hb5 w1.heap.size;obtain ⟨_,_⟩:=zf hb5 w3.heap.size;clear hb5)
  | (go_at_call 63;refine (cL3 _ _ (nv_dec (by simp) (by rfl) (by decide))).mono ?_;rintro r w6 ⟨rfl,hb6⟩;clear cL3;obtain ⟨_,_,_,_,hA6,_⟩:=wz w hb6;obtain ⟨_,_⟩:=zf hb6 (w.heap.size+1);obtain ⟨_,_⟩:=zf hb6 w1.heap.size;obtain ⟨_,_⟩:=zf hb6 w3.heap.size;clear hb6)
  | (go_at_call 64;refine (cP _).mono ?_;rintro r w8 ⟨rfl,hb8⟩;obtain ⟨_,_,_,_,hA8,_⟩:=wz w hb8;obtain ⟨_,_⟩:=zf hb8 (w.heap.size+1);obtain ⟨_,_⟩:=zf hb8 w1.heap.size;obtain ⟨_,_⟩:=zf hb8 w3.heap.size;clear hb8)
  | (go_at_call 63;refine (cL5 _ _ (nv_cells hp (by simp) (by go_simp) (by go_simp) (by go_simp) (by go_simp))).mono ?_;rintro r w9 ⟨rfl,hb9⟩;obtain ⟨_,_,_,_,hA9,_⟩:=wz w hb9;obtain ⟨_,_⟩:=zf hb9 (w.heap.size+1);obtain ⟨_,_⟩:=zf hb9 w1.heap.size;obtain ⟨_,_⟩:=zf hb9 w3.heap.size;clear hb9))
 exact bodyPost_ret (v:=.tuple #[A4 R,.int .i64 0]) (by simp only [results,Tryz.results27];go_simp) rfl ⟨rfl,bgo⟩
theorem vpk3_tff (R:Nat)(R1:Nat)
  (cO:∀ W,CB 20 #[.int .i64 n] W (.tuple #[IDec n nm wd pr ex le mo pa false,.int .i64 0]))
  (cI:∀ W,CB 61 #[IDec n nm wd pr ex le mo pa false,DV 3 true false x k] W (.bool true))
  (cS:∀ W,CB 62 #[IDec n nm wd pr ex le mo pa false] W (.tuple #[.int .i64 G,.int .i64 T,.int .i64 J]))
  (cL1:∀ W v,NV 1 1 v W->CB 63 #[Z4,v,.int .i64 (T+G)] W (A4 S))
  (cL3:∀ W v,NV 1 31 v W->CB 63 #[A4 S,v,.int .i64 (T+G-5)] W (A4 R1))
  (cL5:∀ W v,NV 4 k v W->CB 63 #[A4 R1,v,.int .i64 0] W (A4 R)) :
  CB 27 #[.int .i64 n,DV 3 true false x k] w (.tuple #[A4 R,.int .i64 0]):=by
 have hsm:=cell_set_map
 unfold DV A4 Z4 at *
 go_enter Tryz.func27,Tryz.ntmps27
 go_wp2_with (first
  | (go_at_call 60;refine (cD _).mono ?_;rintro r w0 ⟨rfl,rfl⟩)
  | (go_at_call 20;refine (cO _).mono ?_;rintro r w1 ⟨rfl,hb1⟩;obtain ⟨_,_,_,_,hA1,_⟩:=wz w hb1;obtain ⟨_,_⟩:=zf hb1 (w.heap.size+1);clear hb1)
  | (go_at_call 61;refine (cI _).mono ?_;rintro r w2 ⟨rfl,hb2⟩;obtain ⟨_,_,_,_,hA2,_⟩:=wz w hb2;obtain ⟨_,_⟩:=zf hb2 (w.heap.size+1);obtain ⟨_,_⟩:=zf hb2 w1.heap.size;clear hb2)
  | (go_at_call 62;refine (cS _).mono ?_;rintro r w3 ⟨rfl,hb3⟩;obtain ⟨_,_,_,_,hA3,_⟩:=wz w hb3;obtain ⟨_,_⟩:=zf hb3 (w.heap.size+1);obtain ⟨_,_⟩:=zf hb3 w1.heap.size;clear hb3;have q0:w.heap.size<w3.heap.size+1+1:=(by omega);have q1:w.heap.size+1<w3.heap.size+1+1:=(by omega);have q2:w1.heap.size<w3.heap.size+1+1:=(by omega);have q3:w3.heap.size<w3.heap.size+1+1:=(by omega))
  | (go_at_call 63;refine (cL1 _ _ (nv_dec (by simp) (by rfl) (by decide))).mono ?_;rintro r w4 ⟨rfl,hb4⟩;clear cL1;obtain ⟨_,_,_,_,hA4,_⟩:=wz w hb4;obtain ⟨_,_⟩:=zf hb4 (w.heap.size+1);obtain ⟨_,_⟩:=zf hb4 w1.heap.size;obtain ⟨_,_⟩:=zf hb4 w3.heap.size;clear hb4)
  | (go_at_call 48;refine (cN _).mono ?_;rintro r w5 ⟨gn,nn,cn,rfl,hg5,hn5,hb5⟩;have hgn:gn≠w3.heap.size:=(by first|omega|(simp at hg5;omega));clear hg5;obtain ⟨_,_,_,_,hA5,_⟩:=wz w hb5;obtain ⟨_,_⟩:=zf hb5 (w.heap.size+1);obtain ⟨_,_⟩:=zf hb5 w1.heap.size;obtain ⟨_,_⟩:=zf hb5 w3.heap.size;clear hb5)
  | (go_at_call 63;refine (cL3 _ _ (nv_dec (by simp) (by rfl) (by decide))).mono ?_;rintro r w6 ⟨rfl,hb6⟩;clear cL3;have hn6:=((hn5.next (below1 _ _)).next hb6).upd hgn (put4C_upd _ _ R1);obtain ⟨_,_,_,_,hA6,_⟩:=wz w hb6;obtain ⟨_,_⟩:=zf hb6 (w.heap.size+1);obtain ⟨_,_⟩:=zf hb6 w1.heap.size;obtain ⟨_,_⟩:=zf hb6 w3.heap.size;clear hb6)
  | (go_at_call 63;refine (cL5 _ _ hn6.nv).mono ?_;rintro r w9 ⟨rfl,hb9⟩;obtain ⟨_,_,_,_,hA9,_⟩:=wz w hb9;obtain ⟨_,_⟩:=zf hb9 (w.heap.size+1);obtain ⟨_,_⟩:=zf hb9 w1.heap.size;obtain ⟨_,_⟩:=zf hb9 w3.heap.size;clear hb9))
 exact bodyPost_ret (v:=.tuple #[A4 R,.int .i64 0]) (by simp only [results,Tryz.results27];go_simp) rfl ⟨rfl,bgo⟩
theorem vpk2_f (R:Nat)(g dn:Bool)
  (cO:∀ W,CB 20 #[.int .i64 n] W (.tuple #[IDec n nm wd pr ex le mo pa dn,.int .i64 0]))
  (cI:∀ W,CB 61 #[IDec n nm wd pr ex le mo pa dn,DV 2 false g x k] W (.bool true))
  (cS:∀ W,CB 62 #[IDec n nm wd pr ex le mo pa dn] W (.tuple #[.int .i64 G,.int .i64 T,.int .i64 J]))
  (cL2:∀ W v,NV 1 30 v W->CB 63 #[Z4,v,.int .i64 (T+G-5)] W (A4 R)) :
  CB 27 #[.int .i64 n,DV 2 false g x k] w (.tuple #[A4 R,.int .i64 0]):=by
 have hsm:=cell_set_map
 unfold DV A4 Z4 at *
 go_enter Tryz.func27,Tryz.ntmps27
 go_wp2_with (first
  | (go_at_call 60;refine (cD _).mono ?_;rintro r w0 ⟨rfl,rfl⟩)
  | (go_at_call 20;refine (cO _).mono ?_;rintro r w1 ⟨rfl,hb1⟩;obtain ⟨_,_,_,_,hA1,_⟩:=wz w hb1;obtain ⟨_,_⟩:=zf hb1 (w.heap.size+1);clear hb1)
  | (go_at_call 61;refine (cI _).mono ?_;rintro r w2 ⟨rfl,hb2⟩;obtain ⟨_,_,_,_,hA2,_⟩:=wz w hb2;obtain ⟨_,_⟩:=zf hb2 (w.heap.size+1);obtain ⟨_,_⟩:=zf hb2 w1.heap.size;clear hb2)
  | (go_at_call 62;refine (cS _).mono ?_;rintro r w3 ⟨rfl,hb3⟩;obtain ⟨_,_,_,_,hA3,_⟩:=wz w hb3;obtain ⟨_,_⟩:=zf hb3 (w.heap.size+1);obtain ⟨_,_⟩:=zf hb3 w1.heap.size;clear hb3;have q0:w.heap.size<w3.heap.size+1+1:=(by omega);have q1:w.heap.size+1<w3.heap.size+1+1:=(by omega);have q2:w1.heap.size<w3.heap.size+1+1:=(by omega);have q3:w3.heap.size<w3.heap.size+1+1:=(by omega))
  | (go_at_call 48;refine (cN _).mono ?_;rintro r w5 ⟨gn,nn,cn,rfl,hg5,hn5,hb5⟩;have hgn:gn≠w3.heap.size:=(by first|omega|(simp at hg5;omega));clear hg5;obtain ⟨_,_,_,_,hA5,_⟩:=wz w hb5;obtain ⟨_,_⟩:=zf hb5 (w.heap.size+1);obtain ⟨_,_⟩:=zf hb5 w1.heap.size;obtain ⟨_,_⟩:=zf hb5 w3.heap.size;clear hb5)
  | (go_at_call 63;refine (cL2 _ _ (nv_dec (by simp) (by rfl) (by decide))).mono ?_;rintro r w6 ⟨rfl,hb6⟩;obtain ⟨_,_,_,_,hA6,_⟩:=wz w hb6;obtain ⟨_,_⟩:=zf hb6 (w.heap.size+1);obtain ⟨_,_⟩:=zf hb6 w1.heap.size;obtain ⟨_,_⟩:=zf hb6 w3.heap.size;clear hb6))
 exact bodyPost_ret (v:=.tuple #[A4 R,.int .i64 0]) (by simp only [results,Tryz.results27];go_simp) rfl ⟨rfl,bgo⟩
theorem vpk3_ftt (R:Nat)(R1 R2 p:Nat)
  (cO:∀ W,CB 20 #[.int .i64 n] W (.tuple #[IDec n nm wd pr ex le mo pa true,.int .i64 0]))
  (cI:∀ W,CB 61 #[IDec n nm wd pr ex le mo pa true,DV 3 false true x k] W (.bool true))
  (cS:∀ W,CB 62 #[IDec n nm wd pr ex le mo pa true] W (.tuple #[.int .i64 G,.int .i64 T,.int .i64 J]))
  (cL3:∀ W v,NV 1 31 v W->CB 63 #[Z4,v,.int .i64 (T+G-5)] W (A4 R1))
  (cL4:∀ W v,NV 1 1 v W->CB 63 #[A4 R1,v,.int .i64 (T+G-6)] W (A4 R2))
  (hp:p<2^256) (cP:∀ W,CB 64 #[A4 k,.int .i64 J] W (.tuple #[A4 p,.int .i64 0]))
  (cL5:∀ W v,NV 4 p v W->CB 63 #[A4 R2,v,.int .i64 0] W (A4 R)) :
  CB 27 #[.int .i64 n,DV 3 false true x k] w (.tuple #[A4 R,.int .i64 0]):=by
 have hsm:=cell_set_map
 unfold DV A4 Z4 at *
 go_enter Tryz.func27,Tryz.ntmps27
 go_wp2_with (first
  | (go_at_call 60;refine (cD _).mono ?_;rintro r w0 ⟨rfl,rfl⟩)
  | (go_at_call 20;refine (cO _).mono ?_;rintro r w1 ⟨rfl,hb1⟩;obtain ⟨_,_,_,_,hA1,_⟩:=wz w hb1;obtain ⟨_,_⟩:=zf hb1 (w.heap.size+1);clear hb1)
  | (go_at_call 61;refine (cI _).mono ?_;rintro r w2 ⟨rfl,hb2⟩;obtain ⟨_,_,_,_,hA2,_⟩:=wz w hb2;obtain ⟨_,_⟩:=zf hb2 (w.heap.size+1);obtain ⟨_,_⟩:=zf hb2 w1.heap.size;clear hb2)
  | (go_at_call 62;refine (cS _).mono ?_;rintro r w3 ⟨rfl,hb3⟩;obtain ⟨_,_,_,_,hA3,_⟩:=wz w hb3;obtain ⟨_,_⟩:=zf hb3 (w.heap.size+1);obtain ⟨_,_⟩:=zf hb3 w1.heap.size;clear hb3;have q0:w.heap.size<w3.heap.size+1+1:=(by omega);have q1:w.heap.size+1<w3.heap.size+1+1:=(by omega);have q2:w1.heap.size<w3.heap.size+1+1:=(by omega);have q3:w3.heap.size<w3.heap.size+1+1:=(by omega))
  | (go_at_call 48;refine (cN _).mono ?_;rintro r w5 ⟨gn,nn,cn,rfl,hg5,hn5,hb5⟩;have hgn:gn≠w3.heap.size:=(by first|omega|(simp at hg5;omega));clear hg5;obtain ⟨_,_,_,_,hA5,_⟩:=wz w hb5;obtain ⟨_,_⟩:=zf hb5 (w.heap.size+1);obtain ⟨_,_⟩:=zf hb5 w1.heap.size;obtain ⟨_,_⟩:=zf hb5 w3.heap.size;clear hb5)
  | (go_at_call 63;refine (cL3 _ _ (nv_dec (by simp) (by rfl) (by decide))).mono ?_;rintro r w6 ⟨rfl,hb6⟩;clear cL3;obtain ⟨_,_,_,_,hA6,_⟩:=wz w hb6;obtain ⟨_,_⟩:=zf hb6 (w.heap.size+1);obtain ⟨_,_⟩:=zf hb6 w1.heap.size;obtain ⟨_,_⟩:=zf hb6 w3.heap.size;clear hb6)
  | (go_at_call 63;refine (cL4 _ _ (nv_dec (by simp) (by rfl) (by decide))).mono ?_;rintro r w7 ⟨rfl,hb7⟩;clear cL4;obtain ⟨_,_,_,_,hA7,_⟩:=wz w hb7;obtain ⟨_,_⟩:=zf hb7 (w.heap.size+1);obtain ⟨_,_⟩:=zf hb7 w1.heap.size;obtain ⟨_,_⟩:=zf hb7 w3.heap.size;clear hb7)
  | (go_at_call 64;refine (cP _).mono ?_;rintro r w8 ⟨rfl,hb8⟩;obtain ⟨_,_,_,_,hA8,_⟩:=wz w hb8;obtain ⟨_,_⟩:=zf hb8 (w.heap.size+1);obtain ⟨_,_⟩:=zf hb8 w1.heap.size;obtain ⟨_,_⟩:=zf hb8 w3.heap.size;clear hb8)
  | (go_at_call 63;refine (cL5 _ _ (nv_cells hp (by simp) (by go_simp) (by go_simp) (by go_simp) (by go_simp))).mono ?_;rintro r w9 ⟨rfl,hb9⟩;obtain ⟨_,_,_,_,hA9,_⟩:=wz w hb9;obtain ⟨_,_⟩:=zf hb9 (w.heap.size+1);obtain ⟨_,_⟩:=zf hb9 w1.heap.size;obtain ⟨_,_⟩:=zf hb9 w3.heap.size;clear hb9))
 exact bodyPost_ret (v:=.tuple #[A4 R,.int .i64 0]) (by simp only [results,Tryz.results27];go_simp) rfl ⟨rfl,bgo⟩
theorem vpk3_ftf (R:Nat)(R1 R2:Nat)
  (cO:∀ W,CB 20 #[.int .i64 n] W (.tuple #[IDec n nm wd pr ex le mo pa false,.int .i64 0]))
  (cI:∀ W,CB 61 #[IDec n nm wd pr ex le mo pa false,DV 3 false true x k] W (.bool true))
  (cS:∀ W,CB 62 #[IDec n nm wd pr ex le mo pa false] W (.tuple #[.int .i64 G,.int .i64 T,.int .i64 J]))
  (cL3:∀ W v,NV 1 31 v W->CB 63 #[Z4,v,.int .i64 (T+G-5)] W (A4 R1))
  (cL4:∀ W v,NV 1 1 v W->CB 63 #[A4 R1,v,.int .i64 (T+G-6)] W (A4 R2))
  (cL5:∀ W v,NV 4 k v W->CB 63 #[A4 R2,v,.int .i64 0] W (A4 R)) :
  CB 27 #[.int .i64 n,DV 3 false true x k] w (.tuple #[A4 R,.int .i64 0]):=by
 have hsm:=cell_set_map
 unfold DV A4 Z4 at *
 go_enter Tryz.func27,Tryz.ntmps27
 go_wp2_with (first
  | (go_at_call 60;refine (cD _).mono ?_;rintro r w0 ⟨rfl,rfl⟩)
  | (go_at_call 20;refine (cO _).mono ?_;rintro r w1 ⟨rfl,hb1⟩;obtain ⟨_,_,_,_,hA1,_⟩:=wz w hb1;obtain ⟨_,_⟩:=zf hb1 (w.heap.size+1);clear hb1)
  | (go_at_call 61;refine (cI _).mono ?_;rintro r w2 ⟨rfl,hb2⟩;obtain ⟨_,_,_,_,hA2,_⟩:=wz w hb2;obtain ⟨_,_⟩:=zf hb2 (w.heap.size+1);obtain ⟨_,_⟩:=zf hb2 w1.heap.size;clear hb2)
  | (go_at_call 62;refine (cS _).mono ?_;rintro r w3 ⟨rfl,hb3⟩;obtain ⟨_,_,_,_,hA3,_⟩:=wz w hb3;obtain ⟨_,_⟩:=zf hb3 (w.heap.size+1);obtain ⟨_,_⟩:=zf hb3 w1.heap.size;clear hb3;have q0:w.heap.size<w3.heap.size+1+1:=(by omega);have q1:w.heap.size+1<w3.heap.size+1+1:=(by omega);have q2:w1.heap.size<w3.heap.size+1+1:=(by omega);have q3:w3.heap.size<w3.heap.size+1+1:=(by omega))
  | (go_at_call 48;refine (cN _).mono ?_;rintro r w5 ⟨gn,nn,cn,rfl,hg5,hn5,hb5⟩;have hgn:gn≠w3.heap.size:=(by first|omega|(simp at hg5;omega));clear hg5;obtain ⟨_,_,_,_,hA5,_⟩:=wz w hb5;obtain ⟨_,_⟩:=zf hb5 (w.heap.size+1);obtain ⟨_,_⟩:=zf hb5 w1.heap.size;obtain ⟨_,_⟩:=zf hb5 w3.heap.size;clear hb5)
  | (go_at_call 63;refine (cL3 _ _ (nv_dec (by simp) (by rfl) (by decide))).mono ?_;rintro r w6 ⟨rfl,hb6⟩;clear cL3;have hn6:=((hn5.next (below1 _ _)).next hb6).upd hgn (put4C_upd _ _ R1);obtain ⟨_,_,_,_,hA6,_⟩:=wz w hb6;obtain ⟨_,_⟩:=zf hb6 (w.heap.size+1);obtain ⟨_,_⟩:=zf hb6 w1.heap.size;obtain ⟨_,_⟩:=zf hb6 w3.heap.size;clear hb6)
  | (go_at_call 63;refine (cL4 _ _ (nv_dec (by simp) (by rfl) (by decide))).mono ?_;rintro r w7 ⟨rfl,hb7⟩;clear cL4;have hn7:=((hn6.next (below1 _ _)).next hb7).upd hgn (put4C_upd _ _ R2);obtain ⟨_,_,_,_,hA7,_⟩:=wz w hb7;obtain ⟨_,_⟩:=zf hb7 (w.heap.size+1);obtain ⟨_,_⟩:=zf hb7 w1.heap.size;obtain ⟨_,_⟩:=zf hb7 w3.heap.size;clear hb7)
  | (go_at_call 63;refine (cL5 _ _ hn7.nv).mono ?_;rintro r w9 ⟨rfl,hb9⟩;obtain ⟨_,_,_,_,hA9,_⟩:=wz w hb9;obtain ⟨_,_⟩:=zf hb9 (w.heap.size+1);obtain ⟨_,_⟩:=zf hb9 w1.heap.size;obtain ⟨_,_⟩:=zf hb9 w3.heap.size;clear hb9))
 exact bodyPost_ret (v:=.tuple #[A4 R,.int .i64 0]) (by simp only [results,Tryz.results27];go_simp) rfl ⟨rfl,bgo⟩
theorem vpk3_fft (R:Nat)(R1 p:Nat)
  (cO:∀ W,CB 20 #[.int .i64 n] W (.tuple #[IDec n nm wd pr ex le mo pa true,.int .i64 0]))
  (cI:∀ W,CB 61 #[IDec n nm wd pr ex le mo pa true,DV 3 false false x k] W (.bool true))
  (cS:∀ W,CB 62 #[IDec n nm wd pr ex le mo pa true] W (.tuple #[.int .i64 G,.int .i64 T,.int .i64 J]))
  (cL3:∀ W v,NV 1 31 v W->CB 63 #[Z4,v,.int .i64 (T+G-5)] W (A4 R1))
  (hp:p<2^256) (cP:∀ W,CB 64 #[A4 k,.int .i64 J] W (.tuple #[A4 p,.int .i64 0]))
  (cL5:∀ W v,NV 4 p v W->CB 63 #[A4 R1,v,.int .i64 0] W (A4 R)) :
  CB 27 #[.int .i64 n,DV 3 false false x k] w (.tuple #[A4 R,.int .i64 0]):=by
 have hsm:=cell_set_map
 unfold DV A4 Z4 at *
 go_enter Tryz.func27,Tryz.ntmps27
 go_wp2_with (first
  | (go_at_call 60;refine (cD _).mono ?_;rintro r w0 ⟨rfl,rfl⟩)
  | (go_at_call 20;refine (cO _).mono ?_;rintro r w1 ⟨rfl,hb1⟩;obtain ⟨_,_,_,_,hA1,_⟩:=wz w hb1;obtain ⟨_,_⟩:=zf hb1 (w.heap.size+1);clear hb1)
  | (go_at_call 61;refine (cI _).mono ?_;rintro r w2 ⟨rfl,hb2⟩;obtain ⟨_,_,_,_,hA2,_⟩:=wz w hb2;obtain ⟨_,_⟩:=zf hb2 (w.heap.size+1);obtain ⟨_,_⟩:=zf hb2 w1.heap.size;clear hb2)
  | (go_at_call 62;refine (cS _).mono ?_;rintro r w3 ⟨rfl,hb3⟩;obtain ⟨_,_,_,_,hA3,_⟩:=wz w hb3;obtain ⟨_,_⟩:=zf hb3 (w.heap.size+1);obtain ⟨_,_⟩:=zf hb3 w1.heap.size;clear hb3;have q0:w.heap.size<w3.heap.size+1+1:=(by omega);have q1:w.heap.size+1<w3.heap.size+1+1:=(by omega);have q2:w1.heap.size<w3.heap.size+1+1:=(by omega);have q3:w3.heap.size<w3.heap.size+1+1:=(by omega))
  | (go_at_call 48;refine (cN _).mono ?_;rintro r w5 ⟨gn,nn,cn,rfl,hg5,hn5,hb5⟩;have hgn:gn≠w3.heap.size:=(by first|omega|(simp at hg5;omega));clear hg5;obtain ⟨_,_,_,_,hA5,_⟩:=wz w hb5;obtain ⟨_,_⟩:=zf hb5 (w.heap.size+1);obtain ⟨_,_⟩:=zf hb5 w1.heap.size;obtain ⟨_,_⟩:=zf hb5 w3.heap.size;clear hb5)
  | (go_at_call 63;refine (cL3 _ _ (nv_dec (by simp) (by rfl) (by decide))).mono ?_;rintro r w6 ⟨rfl,hb6⟩;clear cL3;obtain ⟨_,_,_,_,hA6,_⟩:=wz w hb6;obtain ⟨_,_⟩:=zf hb6 (w.heap.size+1);obtain ⟨_,_⟩:=zf hb6 w1.heap.size;obtain ⟨_,_⟩:=zf hb6 w3.heap.size;clear hb6)
  | (go_at_call 64;refine (cP _).mono ?_;rintro r w8 ⟨rfl,hb8⟩;obtain ⟨_,_,_,_,hA8,_⟩:=wz w hb8;obtain ⟨_,_⟩:=zf hb8 (w.heap.size+1);obtain ⟨_,_⟩:=zf hb8 w1.heap.size;obtain ⟨_,_⟩:=zf hb8 w3.heap.size;clear hb8)
  | (go_at_call 63;refine (cL5 _ _ (nv_cells hp (by simp) (by go_simp) (by go_simp) (by go_simp) (by go_simp))).mono ?_;rintro r w9 ⟨rfl,hb9⟩;obtain ⟨_,_,_,_,hA9,_⟩:=wz w hb9;obtain ⟨_,_⟩:=zf hb9 (w.heap.size+1);obtain ⟨_,_⟩:=zf hb9 w1.heap.size;obtain ⟨_,_⟩:=zf hb9 w3.heap.size;clear hb9))
 exact bodyPost_ret (v:=.tuple #[A4 R,.int .i64 0]) (by simp only [results,Tryz.results27];go_simp) rfl ⟨rfl,bgo⟩
theorem vpk3_fff (R:Nat)(R1:Nat)
  (cO:∀ W,CB 20 #[.int .i64 n] W (.tuple #[IDec n nm wd pr ex le mo pa false,.int .i64 0]))
  (cI:∀ W,CB 61 #[IDec n nm wd pr ex le mo pa false,DV 3 false false x k] W (.bool true))
  (cS:∀ W,CB 62 #[IDec n nm wd pr ex le mo pa false] W (.tuple #[.int .i64 G,.int .i64 T,.int .i64 J]))
  (cL3:∀ W v,NV 1 31 v W->CB 63 #[Z4,v,.int .i64 (T+G-5)] W (A4 R1))
  (cL5:∀ W v,NV 4 k v W->CB 63 #[A4 R1,v,.int .i64 0] W (A4 R)) :
  CB 27 #[.int .i64 n,DV 3 false false x k] w (.tuple #[A4 R,.int .i64 0]):=by
 have hsm:=cell_set_map
 unfold DV A4 Z4 at *
 go_enter Tryz.func27,Tryz.ntmps27
 go_wp2_with (first
  | (go_at_call 60;refine (cD _).mono ?_;rintro r w0 ⟨rfl,rfl⟩)
  | (go_at_call 20;refine (cO _).mono ?_;rintro r w1 ⟨rfl,hb1⟩;obtain ⟨_,_,_,_,hA1,_⟩:=wz w hb1;obtain ⟨_,_⟩:=zf hb1 (w.heap.size+1);clear hb1)
  | (go_at_call 61;refine (cI _).mono ?_;rintro r w2 ⟨rfl,hb2⟩;obtain ⟨_,_,_,_,hA2,_⟩:=wz w hb2;obtain ⟨_,_⟩:=zf hb2 (w.heap.size+1);obtain ⟨_,_⟩:=zf hb2 w1.heap.size;clear hb2)
  | (go_at_call 62;refine (cS _).mono ?_;rintro r w3 ⟨rfl,hb3⟩;obtain ⟨_,_,_,_,hA3,_⟩:=wz w hb3;obtain ⟨_,_⟩:=zf hb3 (w.heap.size+1);obtain ⟨_,_⟩:=zf hb3 w1.heap.size;clear hb3;have q0:w.heap.size<w3.heap.size+1+1:=(by omega);have q1:w.heap.size+1<w3.heap.size+1+1:=(by omega);have q2:w1.heap.size<w3.heap.size+1+1:=(by omega);have q3:w3.heap.size<w3.heap.size+1+1:=(by omega))
  | (go_at_call 48;refine (cN _).mono ?_;rintro r w5 ⟨gn,nn,cn,rfl,hg5,hn5,hb5⟩;have hgn:gn≠w3.heap.size:=(by first|omega|(simp at hg5;omega));clear hg5;obtain ⟨_,_,_,_,hA5,_⟩:=wz w hb5;obtain ⟨_,_⟩:=zf hb5 (w.heap.size+1);obtain ⟨_,_⟩:=zf hb5 w1.heap.size;obtain ⟨_,_⟩:=zf hb5 w3.heap.size;clear hb5)
  | (go_at_call 63;refine (cL3 _ _ (nv_dec (by simp) (by rfl) (by decide))).mono ?_;rintro r w6 ⟨rfl,hb6⟩;clear cL3;have hn6:=((hn5.next (below1 _ _)).next hb6).upd hgn (put4C_upd _ _ R1);obtain ⟨_,_,_,_,hA6,_⟩:=wz w hb6;obtain ⟨_,_⟩:=zf hb6 (w.heap.size+1);obtain ⟨_,_⟩:=zf hb6 w1.heap.size;obtain ⟨_,_⟩:=zf hb6 w3.heap.size;clear hb6)
  | (go_at_call 63;refine (cL5 _ _ hn6.nv).mono ?_;rintro r w9 ⟨rfl,hb9⟩;obtain ⟨_,_,_,_,hA9,_⟩:=wz w hb9;obtain ⟨_,_⟩:=zf hb9 (w.heap.size+1);obtain ⟨_,_⟩:=zf hb9 w1.heap.size;obtain ⟨_,_⟩:=zf hb9 w3.heap.size;clear hb9))
 exact bodyPost_ret (v:=.tuple #[A4 R,.int .i64 0]) (by simp only [results,Tryz.results27];go_simp) rfl ⟨rfl,bgo⟩
end
end
section
attribute [local irreducible] W4 NT NV
section
variable (n:Int)(nm:ByteArray)(wd pr ex le mo pa:Int)(G T J:Int)(x:Int)(k S:Nat)(w:World)
 (cD:∀ W,CQ 60 #[.int .i64 n] W (.bool true))
 (hG0:11<=G) (hG1:G<=100) (hT0:0<=T) (hT1:T<=200) (hJ0:0<=J) (hJ1:J<=11)
 (cN:∀ W,Calls Tryz.prog 48 #[A4 k] W fun r w'=>∃ g n cap,r=.returned (.slice (some ⟨g,0,none⟩) n cap)/\W.heap.size<g/\NT 4 k (.slice (some ⟨g,0,none⟩) n cap) w'/\Below W.heap.size W w')
include cD hG0 hG1 hT0 hT1 hJ0 hJ1 cN
variable (E:Int)(wn a:Nat)(Q H L:Int)(hx:x-le=E)(hE0:0<=E)(hE1:E<=20000)(hx0:-30000<=x)(hx1:x<=30000)(hl0:-30000<=le)(hl1:le<=30000)(hw:G-5=(wn:Int))(hwn:wn<=12)(hH:(2:Int)^wn=H)(hH0:1<=H)(hH1:H<=4096)(ha:a<=9)
include hx hE0 hE1 hx0 hx1 hl0 hl1 hw hwn hH hH0 hH1 ha
variable (hQ:E/H=Q)(hQ0:0<=Q)(hQ1:Q<=2)(hL:bits .and .u64 E (H-1)=L)
include hQ hQ0 hQ1 hL
theorem vpk1_tdb (R:Nat)(R1 p KP D rr Fw:Nat)(V0 V1 V2 V:Int)
  (cO:∀ W,CB 20 #[.int .i64 n] W (.tuple #[IDec n nm wd pr ex le mo pa true,.int .i64 0]))
  (cI:∀ W,CB 61 #[IDec n nm wd pr ex le mo pa true,DV 1 true false x k] W (.bool true))
  (cS:∀ W,CB 62 #[IDec n nm wd pr ex le mo pa true] W (.tuple #[.int .i64 G,.int .i64 T,.int .i64 J]))
  (cL1:∀ W v,NV 1 1 v W->CB 63 #[Z4,v,.int .i64 (T+G)] W (A4 S))
  (hp:p<2^256) (cW:∀ W,CE 26 #[.int .u64 10,.int .i64 (3*J)] W (NT KP D))
  (cV:∀ W vn vd,NT 4 k vn W->NT KP D vd W->Calls Tryz.prog 65 #[vn,vd] W fun r w'=>∃ g k cap v,r=.returned (.tuple #[.slice (some ⟨g,0,none⟩) k cap,v])/\W.heap.size<=g/\NV 41000 a (.slice (some ⟨g,0,none⟩) k cap) w'/\NT 41000 rr v w'/\Below W.heap.size W w')
  (cB:∀ W v,NT 41000 rr v W->CB 28 #[v] W (A4 rr))
  (cP:∀ W,CB 64 #[A4 rr,.int .i64 J] W (.tuple #[A4 p,.int .i64 0]))
  (cM:∀ W v,NV 41000 a v W->CQ 53 #[v] W (.int .i64 (a:Int)))
  (cL5:∀ W v,NV 4 p v W->CB 63 #[A4 S,v,.int .i64 0] W (A4 R1))
  (ho1:bits .or .u64 (Q*8) (a:Int)=V0)
  (h8:(8:Int)<=(a:Int)) (ho2:bits .or .u64 24 (Q*2)=V1) (ho3:bits .and .u64 (a:Int) 1=V2) (ho4:bits .or .u64 V1 V2=V)
  (hV0:0<=V) (hV1:V<=31) (hVH0:0<=V*H) (hVH1:V*H<=200000) (ho5:bits .or .u64 (V*H) L=(Fw:Int)) (hFw:Fw<18446744073709551616)
  (cL6:∀ W v,NV 1 Fw v W->CB 63 #[A4 R1,v,.int .i64 T] W (A4 R)) :
  CB 27 #[.int .i64 n,DV 1 true false x k] w (.tuple #[A4 R,.int .i64 0]):=by
 have hsm:=cell_set_map
 unfold DV A4 Z4 at *
 go_enter Tryz.func27,Tryz.ntmps27
 go_wp2_with (first
  | (go_at_call 60;refine (cD _).mono ?_;rintro r w0 ⟨rfl,rfl⟩)
  | (go_at_call 20;refine (cO _).mono ?_;rintro r w1 ⟨rfl,hb1⟩;obtain ⟨_,_,_,_,hA1,_⟩:=wz w hb1;obtain ⟨_,_⟩:=zf hb1 (w.heap.size+1);clear hb1)
  | (go_at_call 61;refine (cI _).mono ?_;rintro r w2 ⟨rfl,hb2⟩;obtain ⟨_,_,_,_,hA2,_⟩:=wz w hb2;obtain ⟨_,_⟩:=zf hb2 (w.heap.size+1);obtain ⟨_,_⟩:=zf hb2 w1.heap.size;clear hb2)
  | (go_at_call 62;refine (cS _).mono ?_;rintro r w3 ⟨rfl,hb3⟩;obtain ⟨_,_,_,_,hA3,_⟩:=wz w hb3;obtain ⟨_,_⟩:=zf hb3 (w.heap.size+1);obtain ⟨_,_⟩:=zf hb3 w1.heap.size;clear hb3;have q0:w.heap.size<w3.heap.size+1+1:=(by omega);have q1:w.heap.size+1<w3.heap.size+1+1:=(by omega);have q2:w1.heap.size<w3.heap.size+1+1:=(by omega);have q3:w3.heap.size<w3.heap.size+1+1:=(by omega))
  | (go_at_call 63;refine (cL1 _ _ (nv_dec (by simp) (by rfl) (by decide))).mono ?_;rintro r w4 ⟨rfl,hb4⟩;clear cL1;obtain ⟨_,_,_,_,hA4,_⟩:=wz w hb4;obtain ⟨_,_⟩:=zf hb4 (w.heap.size+1);obtain ⟨_,_⟩:=zf hb4 w1.heap.size;obtain ⟨_,_⟩:=zf hb4 w3.heap.size;clear hb4)
  | (go_at_call 48;refine (cN _).mono ?_;rintro r w5 ⟨gn,nn,cn,rfl,hg5,hn5,hb5⟩;have hgn:gn≠w3.heap.size:=(by first|omega|(simp at hg5;omega));clear hg5;obtain ⟨_,_,_,_,hA5,_⟩:=wz w hb5;obtain ⟨_,_⟩:=zf hb5 (w.heap.size+1);obtain ⟨_,_⟩:=zf hb5 w1.heap.size;obtain ⟨_,_⟩:=zf hb5 w3.heap.size;clear hb5)
  | (go_at_call 26;refine (cW _).mono ?_;rintro r w6 ⟨vd,rfl,hd6,hb6⟩;have hn6:=hn5.next hb6;obtain ⟨_,_,_,_,hA6,_⟩:=wz w hb6;obtain ⟨_,_⟩:=zf hb6 (w.heap.size+1);obtain ⟨_,_⟩:=zf hb6 w1.heap.size;obtain ⟨_,_⟩:=zf hb6 w3.heap.size;clear hb6)
  | (go_at_call 65;refine (cV _ _ _ hn6 hd6).mono ?_;rintro r w7 ⟨gq,kq,cq,vr,rfl,hg7,hq7,hr7,hb7⟩;have hgq:gq≠w3.heap.size:=(by omega);clear hg7;obtain ⟨_,_,_,_,hA7,_⟩:=wz w hb7;obtain ⟨_,_⟩:=zf hb7 (w.heap.size+1);obtain ⟨_,_⟩:=zf hb7 w1.heap.size;obtain ⟨_,_⟩:=zf hb7 w3.heap.size;clear hb7)
  | (go_at_call 28;refine (cB _ _ hr7).mono ?_;rintro r w8 ⟨rfl,hb8⟩;have hq8:=hq7.next hb8;obtain ⟨_,_,_,_,hA8,_⟩:=wz w hb8;obtain ⟨_,_⟩:=zf hb8 (w.heap.size+1);obtain ⟨_,_⟩:=zf hb8 w1.heap.size;obtain ⟨_,_⟩:=zf hb8 w3.heap.size;clear hb8)
  | (go_at_call 64;refine (cP _).mono ?_;rintro r w9 ⟨rfl,hb9⟩;have hq9:=hq8.next hb9;obtain ⟨_,_,_,_,hA9,_⟩:=wz w hb9;obtain ⟨_,_⟩:=zf hb9 (w.heap.size+1);obtain ⟨_,_⟩:=zf hb9 w1.heap.size;obtain ⟨_,_⟩:=zf hb9 w3.heap.size;clear hb9))
 refine wp_tail 3 (by kernel_rfl) (by kernel_rfl) (by kernel_rfl) (fun _ _ d _ _ h=>by cases d<;>exact h) fun hne hcell=>?_
 simp only [List.take_succ_cons,List.take_zero,List.drop_succ_cons,List.drop_zero]
 repeat go_big_quiet_step (fail)
 go_big_quiet_step ((go_at_call 63;exact calls_wd _ bk_next (cL5 _ _ ((nv_cells hp (by simp) (by go_simp) (by go_simp) (by go_simp) (by go_simp)).next (Wd.h _)))))
 refine wpQuiet_nil fun w10 hb10=>?_
 have hq10:=NV.next (NV.next hq9 bgo) hb10
 obtain ⟨_,_,_,_,hA10,_⟩:=wz w hb10;obtain ⟨_,_⟩:=zf hb10 (w.heap.size+1);obtain ⟨_,_⟩:=zf hb10 w1.heap.size;obtain ⟨_,_⟩:=zf hb10 w3.heap.size;obtain ⟨_,_⟩:=zf hb10 w9.heap.size;clear hb10
 go_wp2_with (first
  | (go_at_call 53;refine (cM _ _ (hq10.updV hgq (put4C_upd _ _ R1))).mono ?_;rintro r w11 ⟨rfl,rfl⟩)
  | (go_at_call 63;refine (cL6 _ _ (nv_dec (by simp) (by rfl) hFw)).mono ?_;rintro r w12 ⟨rfl,hb12⟩;obtain ⟨_,_,_,_,hA12,_⟩:=wz w hb12;obtain ⟨_,_⟩:=zf hb12 (w.heap.size+1);obtain ⟨_,_⟩:=zf hb12 w1.heap.size;obtain ⟨_,_⟩:=zf hb12 w3.heap.size;clear hb12))
 exact bodyPost_ret (v:=.tuple #[A4 R,.int .i64 0]) (by simp only [results,Tryz.results27];go_simp) rfl ⟨rfl,bgo⟩
theorem vpk1_tds (R:Nat)(R1 p KP D rr Fw:Nat)(V0:Int)
  (cO:∀ W,CB 20 #[.int .i64 n] W (.tuple #[IDec n nm wd pr ex le mo pa true,.int .i64 0]))
  (cI:∀ W,CB 61 #[IDec n nm wd pr ex le mo pa true,DV 1 true false x k] W (.bool true))
  (cS:∀ W,CB 62 #[IDec n nm wd pr ex le mo pa true] W (.tuple #[.int .i64 G,.int .i64 T,.int .i64 J]))
  (cL1:∀ W v,NV 1 1 v W->CB 63 #[Z4,v,.int .i64 (T+G)] W (A4 S))
  (hp:p<2^256) (cW:∀ W,CE 26 #[.int .u64 10,.int .i64 (3*J)] W (NT KP D))
  (cV:∀ W vn vd,NT 4 k vn W->NT KP D vd W->Calls Tryz.prog 65 #[vn,vd] W fun r w'=>∃ g k cap v,r=.returned (.tuple #[.slice (some ⟨g,0,none⟩) k cap,v])/\W.heap.size<=g/\NV 41000 a (.slice (some ⟨g,0,none⟩) k cap) w'/\NT 41000 rr v w'/\Below W.heap.size W w')
  (cB:∀ W v,NT 41000 rr v W->CB 28 #[v] W (A4 rr))
  (cP:∀ W,CB 64 #[A4 rr,.int .i64 J] W (.tuple #[A4 p,.int .i64 0]))
  (cM:∀ W v,NV 41000 a v W->CQ 53 #[v] W (.int .i64 (a:Int)))
  (cL5:∀ W v,NV 4 p v W->CB 63 #[A4 S,v,.int .i64 0] W (A4 R1))
  (ho1:bits .or .u64 (Q*8) (a:Int)=V0)
  (h8:¬ (8:Int)<=(a:Int))
  (hV0:0<=V0) (hV1:V0<=31) (hVH0:0<=V0*H) (hVH1:V0*H<=200000) (ho5:bits .or .u64 (V0*H) L=(Fw:Int)) (hFw:Fw<18446744073709551616)
  (cL6:∀ W v,NV 1 Fw v W->CB 63 #[A4 R1,v,.int .i64 T] W (A4 R)) :
  CB 27 #[.int .i64 n,DV 1 true false x k] w (.tuple #[A4 R,.int .i64 0]):=by
 have hsm:=cell_set_map
 unfold DV A4 Z4 at *
 go_enter Tryz.func27,Tryz.ntmps27
 go_wp2_with (first
  | (go_at_call 60;refine (cD _).mono ?_;rintro r w0 ⟨rfl,rfl⟩)
  | (go_at_call 20;refine (cO _).mono ?_;rintro r w1 ⟨rfl,hb1⟩;obtain ⟨_,_,_,_,hA1,_⟩:=wz w hb1;obtain ⟨_,_⟩:=zf hb1 (w.heap.size+1);clear hb1)
  | (go_at_call 61;refine (cI _).mono ?_;rintro r w2 ⟨rfl,hb2⟩;obtain ⟨_,_,_,_,hA2,_⟩:=wz w hb2;obtain ⟨_,_⟩:=zf hb2 (w.heap.size+1);obtain ⟨_,_⟩:=zf hb2 w1.heap.size;clear hb2)
  | (go_at_call 62;refine (cS _).mono ?_;rintro r w3 ⟨rfl,hb3⟩;obtain ⟨_,_,_,_,hA3,_⟩:=wz w hb3;obtain ⟨_,_⟩:=zf hb3 (w.heap.size+1);obtain ⟨_,_⟩:=zf hb3 w1.heap.size;clear hb3;have q0:w.heap.size<w3.heap.size+1+1:=(by omega);have q1:w.heap.size+1<w3.heap.size+1+1:=(by omega);have q2:w1.heap.size<w3.heap.size+1+1:=(by omega);have q3:w3.heap.size<w3.heap.size+1+1:=(by omega))
  | (go_at_call 63;refine (cL1 _ _ (nv_dec (by simp) (by rfl) (by decide))).mono ?_;rintro r w4 ⟨rfl,hb4⟩;clear cL1;obtain ⟨_,_,_,_,hA4,_⟩:=wz w hb4;obtain ⟨_,_⟩:=zf hb4 (w.heap.size+1);obtain ⟨_,_⟩:=zf hb4 w1.heap.size;obtain ⟨_,_⟩:=zf hb4 w3.heap.size;clear hb4)
  | (go_at_call 48;refine (cN _).mono ?_;rintro r w5 ⟨gn,nn,cn,rfl,hg5,hn5,hb5⟩;have hgn:gn≠w3.heap.size:=(by first|omega|(simp at hg5;omega));clear hg5;obtain ⟨_,_,_,_,hA5,_⟩:=wz w hb5;obtain ⟨_,_⟩:=zf hb5 (w.heap.size+1);obtain ⟨_,_⟩:=zf hb5 w1.heap.size;obtain ⟨_,_⟩:=zf hb5 w3.heap.size;clear hb5)
  | (go_at_call 26;refine (cW _).mono ?_;rintro r w6 ⟨vd,rfl,hd6,hb6⟩;have hn6:=hn5.next hb6;obtain ⟨_,_,_,_,hA6,_⟩:=wz w hb6;obtain ⟨_,_⟩:=zf hb6 (w.heap.size+1);obtain ⟨_,_⟩:=zf hb6 w1.heap.size;obtain ⟨_,_⟩:=zf hb6 w3.heap.size;clear hb6)
  | (go_at_call 65;refine (cV _ _ _ hn6 hd6).mono ?_;rintro r w7 ⟨gq,kq,cq,vr,rfl,hg7,hq7,hr7,hb7⟩;have hgq:gq≠w3.heap.size:=(by omega);clear hg7;obtain ⟨_,_,_,_,hA7,_⟩:=wz w hb7;obtain ⟨_,_⟩:=zf hb7 (w.heap.size+1);obtain ⟨_,_⟩:=zf hb7 w1.heap.size;obtain ⟨_,_⟩:=zf hb7 w3.heap.size;clear hb7)
  | (go_at_call 28;refine (cB _ _ hr7).mono ?_;rintro r w8 ⟨rfl,hb8⟩;have hq8:=hq7.next hb8;obtain ⟨_,_,_,_,hA8,_⟩:=wz w hb8;obtain ⟨_,_⟩:=zf hb8 (w.heap.size+1);obtain ⟨_,_⟩:=zf hb8 w1.heap.size;obtain ⟨_,_⟩:=zf hb8 w3.heap.size;clear hb8)
  | (go_at_call 64;refine (cP _).mono ?_;rintro r w9 ⟨rfl,hb9⟩;have hq9:=hq8.next hb9;obtain ⟨_,_,_,_,hA9,_⟩:=wz w hb9;obtain ⟨_,_⟩:=zf hb9 (w.heap.size+1);obtain ⟨_,_⟩:=zf hb9 w1.heap.size;obtain ⟨_,_⟩:=zf hb9 w3.heap.size;clear hb9))
 refine wp_tail 3 (by kernel_rfl) (by kernel_rfl) (by kernel_rfl) (fun _ _ d _ _ h=>by cases d<;>exact h) fun hne hcell=>?_
 simp only [List.take_succ_cons,List.take_zero,List.drop_succ_cons,List.drop_zero]
 repeat go_big_quiet_step (fail)
 go_big_quiet_step ((go_at_call 63;exact calls_wd _ bk_next (cL5 _ _ ((nv_cells hp (by simp) (by go_simp) (by go_simp) (by go_simp) (by go_simp)).next (Wd.h _)))))
 refine wpQuiet_nil fun w10 hb10=>?_
 have hq10:=NV.next (NV.next hq9 bgo) hb10
 obtain ⟨_,_,_,_,hA10,_⟩:=wz w hb10;obtain ⟨_,_⟩:=zf hb10 (w.heap.size+1);obtain ⟨_,_⟩:=zf hb10 w1.heap.size;obtain ⟨_,_⟩:=zf hb10 w3.heap.size;obtain ⟨_,_⟩:=zf hb10 w9.heap.size;clear hb10
 go_wp2_with (first
  | (go_at_call 53;refine (cM _ _ (hq10.updV hgq (put4C_upd _ _ R1))).mono ?_;rintro r w11 ⟨rfl,rfl⟩)
  | (go_at_call 63;refine (cL6 _ _ (nv_dec (by simp) (by rfl) hFw)).mono ?_;rintro r w12 ⟨rfl,hb12⟩;obtain ⟨_,_,_,_,hA12,_⟩:=wz w hb12;obtain ⟨_,_⟩:=zf hb12 (w.heap.size+1);obtain ⟨_,_⟩:=zf hb12 w1.heap.size;obtain ⟨_,_⟩:=zf hb12 w3.heap.size;clear hb12))
 exact bodyPost_ret (v:=.tuple #[A4 R,.int .i64 0]) (by simp only [results,Tryz.results27];go_simp) rfl ⟨rfl,bgo⟩
theorem vpk1_fdb (R:Nat)(R1 p KP D rr Fw:Nat)(V0 V1 V2 V:Int)
  (cO:∀ W,CB 20 #[.int .i64 n] W (.tuple #[IDec n nm wd pr ex le mo pa true,.int .i64 0]))
  (cI:∀ W,CB 61 #[IDec n nm wd pr ex le mo pa true,DV 1 false false x k] W (.bool true))
  (cS:∀ W,CB 62 #[IDec n nm wd pr ex le mo pa true] W (.tuple #[.int .i64 G,.int .i64 T,.int .i64 J]))
  (hp:p<2^256) (cW:∀ W,CE 26 #[.int .u64 10,.int .i64 (3*J)] W (NT KP D))
  (cV:∀ W vn vd,NT 4 k vn W->NT KP D vd W->Calls Tryz.prog 65 #[vn,vd] W fun r w'=>∃ g k cap v,r=.returned (.tuple #[.slice (some ⟨g,0,none⟩) k cap,v])/\W.heap.size<=g/\NV 41000 a (.slice (some ⟨g,0,none⟩) k cap) w'/\NT 41000 rr v w'/\Below W.heap.size W w')
  (cB:∀ W v,NT 41000 rr v W->CB 28 #[v] W (A4 rr))
  (cP:∀ W,CB 64 #[A4 rr,.int .i64 J] W (.tuple #[A4 p,.int .i64 0]))
  (cM:∀ W v,NV 41000 a v W->CQ 53 #[v] W (.int .i64 (a:Int)))
  (cL5:∀ W v,NV 4 p v W->CB 63 #[Z4,v,.int .i64 0] W (A4 R1))
  (ho1:bits .or .u64 (Q*8) (a:Int)=V0)
  (h8:(8:Int)<=(a:Int)) (ho2:bits .or .u64 24 (Q*2)=V1) (ho3:bits .and .u64 (a:Int) 1=V2) (ho4:bits .or .u64 V1 V2=V)
  (hV0:0<=V) (hV1:V<=31) (hVH0:0<=V*H) (hVH1:V*H<=200000) (ho5:bits .or .u64 (V*H) L=(Fw:Int)) (hFw:Fw<18446744073709551616)
  (cL6:∀ W v,NV 1 Fw v W->CB 63 #[A4 R1,v,.int .i64 T] W (A4 R)) :
  CB 27 #[.int .i64 n,DV 1 false false x k] w (.tuple #[A4 R,.int .i64 0]):=by
 have hsm:=cell_set_map
 unfold DV A4 Z4 at *
 go_enter Tryz.func27,Tryz.ntmps27
 go_wp2_with (first
  | (go_at_call 60;refine (cD _).mono ?_;rintro r w0 ⟨rfl,rfl⟩)
  | (go_at_call 20;refine (cO _).mono ?_;rintro r w1 ⟨rfl,hb1⟩;obtain ⟨_,_,_,_,hA1,_⟩:=wz w hb1;obtain ⟨_,_⟩:=zf hb1 (w.heap.size+1);clear hb1)
  | (go_at_call 61;refine (cI _).mono ?_;rintro r w2 ⟨rfl,hb2⟩;obtain ⟨_,_,_,_,hA2,_⟩:=wz w hb2;obtain ⟨_,_⟩:=zf hb2 (w.heap.size+1);obtain ⟨_,_⟩:=zf hb2 w1.heap.size;clear hb2)
  | (go_at_call 62;refine (cS _).mono ?_;rintro r w3 ⟨rfl,hb3⟩;obtain ⟨_,_,_,_,hA3,_⟩:=wz w hb3;obtain ⟨_,_⟩:=zf hb3 (w.heap.size+1);obtain ⟨_,_⟩:=zf hb3 w1.heap.size;clear hb3;have q0:w.heap.size<w3.heap.size+1+1:=(by omega);have q1:w.heap.size+1<w3.heap.size+1+1:=(by omega);have q2:w1.heap.size<w3.heap.size+1+1:=(by omega);have q3:w3.heap.size<w3.heap.size+1+1:=(by omega))
  | (go_at_call 48;refine (cN _).mono ?_;rintro r w5 ⟨gn,nn,cn,rfl,hg5,hn5,hb5⟩;have hgn:gn≠w3.heap.size:=(by first|omega|(simp at hg5;omega));clear hg5;obtain ⟨_,_,_,_,hA5,_⟩:=wz w hb5;obtain ⟨_,_⟩:=zf hb5 (w.heap.size+1);obtain ⟨_,_⟩:=zf hb5 w1.heap.size;obtain ⟨_,_⟩:=zf hb5 w3.heap.size;clear hb5)
  | (go_at_call 26;refine (cW _).mono ?_;rintro r w6 ⟨vd,rfl,hd6,hb6⟩;have hn6:=hn5.next hb6;obtain ⟨_,_,_,_,hA6,_⟩:=wz w hb6;obtain ⟨_,_⟩:=zf hb6 (w.heap.size+1);obtain ⟨_,_⟩:=zf hb6 w1.heap.size;obtain ⟨_,_⟩:=zf hb6 w3.heap.size;clear hb6)
  | (go_at_call 65;refine (cV _ _ _ hn6 hd6).mono ?_;rintro r w7 ⟨gq,kq,cq,vr,rfl,hg7,hq7,hr7,hb7⟩;have hgq:gq≠w3.heap.size:=(by omega);clear hg7;obtain ⟨_,_,_,_,hA7,_⟩:=wz w hb7;obtain ⟨_,_⟩:=zf hb7 (w.heap.size+1);obtain ⟨_,_⟩:=zf hb7 w1.heap.size;obtain ⟨_,_⟩:=zf hb7 w3.heap.size;clear hb7)
  | (go_at_call 28;refine (cB _ _ hr7).mono ?_;rintro r w8 ⟨rfl,hb8⟩;have hq8:=hq7.next hb8;obtain ⟨_,_,_,_,hA8,_⟩:=wz w hb8;obtain ⟨_,_⟩:=zf hb8 (w.heap.size+1);obtain ⟨_,_⟩:=zf hb8 w1.heap.size;obtain ⟨_,_⟩:=zf hb8 w3.heap.size;clear hb8)
  | (go_at_call 64;refine (cP _).mono ?_;rintro r w9 ⟨rfl,hb9⟩;have hq9:=hq8.next hb9;obtain ⟨_,_,_,_,hA9,_⟩:=wz w hb9;obtain ⟨_,_⟩:=zf hb9 (w.heap.size+1);obtain ⟨_,_⟩:=zf hb9 w1.heap.size;obtain ⟨_,_⟩:=zf hb9 w3.heap.size;clear hb9))
 refine wp_tail 3 (by kernel_rfl) (by kernel_rfl) (by kernel_rfl) (fun _ _ d _ _ h=>by cases d<;>exact h) fun hne hcell=>?_
 simp only [List.take_succ_cons,List.take_zero,List.drop_succ_cons,List.drop_zero]
 repeat go_big_quiet_step (fail)
 go_big_quiet_step ((go_at_call 63;exact calls_wd _ bk_next (cL5 _ _ ((nv_cells hp (by simp) (by go_simp) (by go_simp) (by go_simp) (by go_simp)).next (Wd.h _)))))
 refine wpQuiet_nil fun w10 hb10=>?_
 have hq10:=NV.next (NV.next hq9 bgo) hb10
 obtain ⟨_,_,_,_,hA10,_⟩:=wz w hb10;obtain ⟨_,_⟩:=zf hb10 (w.heap.size+1);obtain ⟨_,_⟩:=zf hb10 w1.heap.size;obtain ⟨_,_⟩:=zf hb10 w3.heap.size;obtain ⟨_,_⟩:=zf hb10 w9.heap.size;clear hb10
 go_wp2_with (first
  | (go_at_call 53;refine (cM _ _ (hq10.updV hgq (put4C_upd _ _ R1))).mono ?_;rintro r w11 ⟨rfl,rfl⟩)
  | (go_at_call 63;refine (cL6 _ _ (nv_dec (by simp) (by rfl) hFw)).mono ?_;rintro r w12 ⟨rfl,hb12⟩;obtain ⟨_,_,_,_,hA12,_⟩:=wz w hb12;obtain ⟨_,_⟩:=zf hb12 (w.heap.size+1);obtain ⟨_,_⟩:=zf hb12 w1.heap.size;obtain ⟨_,_⟩:=zf hb12 w3.heap.size;clear hb12))
 exact bodyPost_ret (v:=.tuple #[A4 R,.int .i64 0]) (by simp only [results,Tryz.results27];go_simp) rfl ⟨rfl,bgo⟩
theorem vpk1_fds (R:Nat)(R1 p KP D rr Fw:Nat)(V0:Int)
  (cO:∀ W,CB 20 #[.int .i64 n] W (.tuple #[IDec n nm wd pr ex le mo pa true,.int .i64 0]))
  (cI:∀ W,CB 61 #[IDec n nm wd pr ex le mo pa true,DV 1 false false x k] W (.bool true))
  (cS:∀ W,CB 62 #[IDec n nm wd pr ex le mo pa true] W (.tuple #[.int .i64 G,.int .i64 T,.int .i64 J]))
  (hp:p<2^256) (cW:∀ W,CE 26 #[.int .u64 10,.int .i64 (3*J)] W (NT KP D))
  (cV:∀ W vn vd,NT 4 k vn W->NT KP D vd W->Calls Tryz.prog 65 #[vn,vd] W fun r w'=>∃ g k cap v,r=.returned (.tuple #[.slice (some ⟨g,0,none⟩) k cap,v])/\W.heap.size<=g/\NV 41000 a (.slice (some ⟨g,0,none⟩) k cap) w'/\NT 41000 rr v w'/\Below W.heap.size W w')
  (cB:∀ W v,NT 41000 rr v W->CB 28 #[v] W (A4 rr))
  (cP:∀ W,CB 64 #[A4 rr,.int .i64 J] W (.tuple #[A4 p,.int .i64 0]))
  (cM:∀ W v,NV 41000 a v W->CQ 53 #[v] W (.int .i64 (a:Int)))
  (cL5:∀ W v,NV 4 p v W->CB 63 #[Z4,v,.int .i64 0] W (A4 R1))
  (ho1:bits .or .u64 (Q*8) (a:Int)=V0)
  (h8:¬ (8:Int)<=(a:Int))
  (hV0:0<=V0) (hV1:V0<=31) (hVH0:0<=V0*H) (hVH1:V0*H<=200000) (ho5:bits .or .u64 (V0*H) L=(Fw:Int)) (hFw:Fw<18446744073709551616)
  (cL6:∀ W v,NV 1 Fw v W->CB 63 #[A4 R1,v,.int .i64 T] W (A4 R)) :
  CB 27 #[.int .i64 n,DV 1 false false x k] w (.tuple #[A4 R,.int .i64 0]):=by
 have hsm:=cell_set_map
 unfold DV A4 Z4 at *
 go_enter Tryz.func27,Tryz.ntmps27
 go_wp2_with (first
  | (go_at_call 60;refine (cD _).mono ?_;rintro r w0 ⟨rfl,rfl⟩)
  | (go_at_call 20;refine (cO _).mono ?_;rintro r w1 ⟨rfl,hb1⟩;obtain ⟨_,_,_,_,hA1,_⟩:=wz w hb1;obtain ⟨_,_⟩:=zf hb1 (w.heap.size+1);clear hb1)
  | (go_at_call 61;refine (cI _).mono ?_;rintro r w2 ⟨rfl,hb2⟩;obtain ⟨_,_,_,_,hA2,_⟩:=wz w hb2;obtain ⟨_,_⟩:=zf hb2 (w.heap.size+1);obtain ⟨_,_⟩:=zf hb2 w1.heap.size;clear hb2)
  | (go_at_call 62;refine (cS _).mono ?_;rintro r w3 ⟨rfl,hb3⟩;obtain ⟨_,_,_,_,hA3,_⟩:=wz w hb3;obtain ⟨_,_⟩:=zf hb3 (w.heap.size+1);obtain ⟨_,_⟩:=zf hb3 w1.heap.size;clear hb3;have q0:w.heap.size<w3.heap.size+1+1:=(by omega);have q1:w.heap.size+1<w3.heap.size+1+1:=(by omega);have q2:w1.heap.size<w3.heap.size+1+1:=(by omega);have q3:w3.heap.size<w3.heap.size+1+1:=(by omega))
  | (go_at_call 48;refine (cN _).mono ?_;rintro r w5 ⟨gn,nn,cn,rfl,hg5,hn5,hb5⟩;have hgn:gn≠w3.heap.size:=(by first|omega|(simp at hg5;omega));clear hg5;obtain ⟨_,_,_,_,hA5,_⟩:=wz w hb5;obtain ⟨_,_⟩:=zf hb5 (w.heap.size+1);obtain ⟨_,_⟩:=zf hb5 w1.heap.size;obtain ⟨_,_⟩:=zf hb5 w3.heap.size;clear hb5)
  | (go_at_call 26;refine (cW _).mono ?_;rintro r w6 ⟨vd,rfl,hd6,hb6⟩;have hn6:=hn5.next hb6;obtain ⟨_,_,_,_,hA6,_⟩:=wz w hb6;obtain ⟨_,_⟩:=zf hb6 (w.heap.size+1);obtain ⟨_,_⟩:=zf hb6 w1.heap.size;obtain ⟨_,_⟩:=zf hb6 w3.heap.size;clear hb6)
  | (go_at_call 65;refine (cV _ _ _ hn6 hd6).mono ?_;rintro r w7 ⟨gq,kq,cq,vr,rfl,hg7,hq7,hr7,hb7⟩;have hgq:gq≠w3.heap.size:=(by omega);clear hg7;obtain ⟨_,_,_,_,hA7,_⟩:=wz w hb7;obtain ⟨_,_⟩:=zf hb7 (w.heap.size+1);obtain ⟨_,_⟩:=zf hb7 w1.heap.size;obtain ⟨_,_⟩:=zf hb7 w3.heap.size;clear hb7)
  | (go_at_call 28;refine (cB _ _ hr7).mono ?_;rintro r w8 ⟨rfl,hb8⟩;have hq8:=hq7.next hb8;obtain ⟨_,_,_,_,hA8,_⟩:=wz w hb8;obtain ⟨_,_⟩:=zf hb8 (w.heap.size+1);obtain ⟨_,_⟩:=zf hb8 w1.heap.size;obtain ⟨_,_⟩:=zf hb8 w3.heap.size;clear hb8)
  | (go_at_call 64;refine (cP _).mono ?_;rintro r w9 ⟨rfl,hb9⟩;have hq9:=hq8.next hb9;obtain ⟨_,_,_,_,hA9,_⟩:=wz w hb9;obtain ⟨_,_⟩:=zf hb9 (w.heap.size+1);obtain ⟨_,_⟩:=zf hb9 w1.heap.size;obtain ⟨_,_⟩:=zf hb9 w3.heap.size;clear hb9))
 refine wp_tail 3 (by kernel_rfl) (by kernel_rfl) (by kernel_rfl) (fun _ _ d _ _ h=>by cases d<;>exact h) fun hne hcell=>?_
 simp only [List.take_succ_cons,List.take_zero,List.drop_succ_cons,List.drop_zero]
 repeat go_big_quiet_step (fail)
 go_big_quiet_step ((go_at_call 63;exact calls_wd _ bk_next (cL5 _ _ ((nv_cells hp (by simp) (by go_simp) (by go_simp) (by go_simp) (by go_simp)).next (Wd.h _)))))
 refine wpQuiet_nil fun w10 hb10=>?_
 have hq10:=NV.next (NV.next hq9 bgo) hb10
 obtain ⟨_,_,_,_,hA10,_⟩:=wz w hb10;obtain ⟨_,_⟩:=zf hb10 (w.heap.size+1);obtain ⟨_,_⟩:=zf hb10 w1.heap.size;obtain ⟨_,_⟩:=zf hb10 w3.heap.size;obtain ⟨_,_⟩:=zf hb10 w9.heap.size;clear hb10
 go_wp2_with (first
  | (go_at_call 53;refine (cM _ _ (hq10.updV hgq (put4C_upd _ _ R1))).mono ?_;rintro r w11 ⟨rfl,rfl⟩)
  | (go_at_call 63;refine (cL6 _ _ (nv_dec (by simp) (by rfl) hFw)).mono ?_;rintro r w12 ⟨rfl,hb12⟩;obtain ⟨_,_,_,_,hA12,_⟩:=wz w hb12;obtain ⟨_,_⟩:=zf hb12 (w.heap.size+1);obtain ⟨_,_⟩:=zf hb12 w1.heap.size;obtain ⟨_,_⟩:=zf hb12 w3.heap.size;clear hb12))
 exact bodyPost_ret (v:=.tuple #[A4 R,.int .i64 0]) (by simp only [results,Tryz.results27];go_simp) rfl ⟨rfl,bgo⟩
end
end
end Go.Proofs.YtgknbdehlmlipaaGreatDoor
