/-
  Texts that the proof leans on.
-/
import Derived.Test.YtpabnhlfbjkmaaaGreatDoorR28
import Derived.Test.YtpabnhlfbjkmaaaGreatDoorR30
import Derived.Test.YtpabnhlfbjkmaaaGreatDoorR27
import Derived.Test.YtpabnhlfbjkmaaaGreatDoorR1
set_option maxHeartbeats 8000000
set_option linter.unusedVariables false
set_option linter.unusedSectionVars false
set_option linter.unusedSimpArgs false
set_option maxRecDepth 20000
namespace Go.Proofs.YtpabnhlfbjkmaaaGreatDoor
open Go.RowKit
section
theorem zXd {g X:Nat}{W:World}(hX:X<2^256)(hg:g<W.heap.size)(h0:W.cell? ⟨g,0,none⟩=some (.int .u64 (W4 X 0)))(h1:W.cell? ⟨g,1,none⟩=some (.int .u64 (W4 X 1)))(h2:W.cell? ⟨g,2,none⟩=some (.int .u64 (W4 X 2)))(h3:W.cell? ⟨g,3,none⟩=some (.int .u64 (W4 X 3))):NV 4 X (.slice (some ⟨g,0,none⟩) 4 4) W:=by
 refine ⟨g,4,4,zHg (W4 X) 4,rfl,Nat.le_refl _,⟨Nat.le_refl _,by unfold maxLen;omega,zAg (zLa X) 4,fun i hi=>zXe hi,Or.inr ⟨g,0,rfl,hg,fun i hi=>?_⟩⟩,?_⟩
 ·rw [zCc hi]
  have:i=0∨i=1∨i=2∨i=3:=by omega
  rcases this with rfl|rfl|rfl|rfl
  ·exact h0
  ·exact h1
  ·exact h2
  ·exact h3
 ·rw [zIa (x:=zHg (W4 X) 4) (y:=W4 X) 4 (fun i hi=>zCc hi),zZb hX]
theorem zYj {K V:Nat}{v:Value}{w:World}(h:NV K V v w)(hK:K<100000)(hV:V<9223372036854775808) :
    Calls Tryz.prog 57 #[v] w fun e w'=>e=.returned (.int .i64 V)/\w'=w:=by
  obtain ⟨g,k,cap,z,rfl,hk,hN,hv⟩:=h
  obtain ⟨h1,h2,h3,h4,h5⟩:=hN
  rcases h5 with ⟨h5,_⟩|⟨b,off,e,hb,hc⟩
  · cases h5
  · cases e
    rcases Nat.eq_zero_or_pos k with hk0|hk0
    · subst hk0
      have : V = 0 := by have : val z 0 = 0 := rfl
                         omega
      subst this
      go_enter Tryz.func57,Tryz.ntmps57
      go_wp2
      go_ret
      exact ⟨rfl,rfl⟩
    · have hc0:=hc 0 hk0
      have hz0:=h3 0
      have e0:z 0=(V:Int):=by
        have hl:=zXx h3 h4 hv
        obtain ⟨j,rfl⟩:∃ j,k=1+j:=⟨k-1,by omega⟩
        have hs:=zBc z 1 j
        have hb2:=zRa (zUb h3 1 j) j
        have h10:val z 1=z 0:=by show val z 0+z 0*18446744073709551616^0=z 0;simp [val]
        rw [hv,h10] at hs
        simp only [Int.pow_one] at hs
        have hm:0<=val (segW z 1 j) j:=hb2.1
        by_cases hp:0<val (segW z 1 j) j
        · exfalso;omega
        · have:val (segW z 1 j) j=0:=by omega
          rw [this] at hs;omega
      have hk1:¬ ((k:Int)=0):=by omega
      rw [e0] at hc0
      simp only [Nat.add_zero] at hc0
      have hkb:(k==0)=false:=by simp;omega
      have hki:(0:Int)<k:=by omega
      clear hc h3 h4 hv e0 hz0
      go_enter Tryz.func57,Tryz.ntmps57
      go_wp2
      go_ret
      exact ⟨rfl,rfl⟩
attribute [local irreducible] W4 NT NV
section
variable (n:Int)(nm:ByteArray)(wd pr ex le mo pa:Int)(G T J:Int)(x:Int)(k S:Nat)(w:World)
 (cD:∀ W,CQ 17 #[.int .i64 n] W (.bool true))
 (hG0:11<=G) (hG1:G<=100) (hT0:0<=T) (hT1:T<=200) (hJ0:0<=J) (hJ1:J<=11)
 (cN:∀ W,Calls Tryz.prog 54 #[A4 k] W fun r w'=>∃ g n cap,r=.returned (.slice (some ⟨g,0,none⟩) n cap)/\W.heap.size<g/\NT 4 k (.slice (some ⟨g,0,none⟩) n cap) w'/\Below W.heap.size W w')
include cD hG0 hG1 hT0 hT1 hJ0 hJ1 cN
theorem vpk2_t (R:Nat)(g dn:Bool)
  (cO:∀ W,CB 19 #[.int .i64 n] W (.tuple #[zAb n nm wd pr ex le mo pa dn,.int .i64 0]))
  (cI:∀ W,CB 26 #[zAb n nm wd pr ex le mo pa dn,DV 2 true g x k] W (.bool true))
  (cS:∀ W,CB 52 #[zAb n nm wd pr ex le mo pa dn] W (.tuple #[.int .i64 G,.int .i64 T,.int .i64 J]))
  (cL1:∀ W v,NV 1 1 v W->CB 53 #[Z4,v,.int .i64 (T+G)] W (A4 S))
  (cL2:∀ W v,NV 1 30 v W->CB 53 #[A4 S,v,.int .i64 (T+G-5)] W (A4 R)) :
  CB 27 #[.int .i64 n,DV 2 true g x k] w (.tuple #[A4 R,.int .i64 0]):=by
 have hsm:=zAa
 unfold DV A4 Z4 at *
 go_enter Tryz.func27,Tryz.ntmps27
 go_wp2_with (first
  | (go_at_call 17;refine (cD _).mono ?_;rintro r w0 ⟨rfl,rfl⟩)
  | (go_at_call 19;refine wk w (cO _) ?_;intro w1 hb1 _ _ _ _ hA1 _;obtain ⟨_,_⟩:=zf hb1 (w.heap.size+1);clear hb1)
  | (go_at_call 26;refine wk w (cI _) ?_;intro w2 hb2 _ _ _ _ hA2 _;obtain ⟨_,_,_,_⟩:=zg hb2 (w.heap.size+1) w1.heap.size;clear hb2)
  | (go_at_call 52;refine wk w (cS _) ?_;intro w3 hb3 _ _ _ _ hA3 _;obtain ⟨_,_,_,_⟩:=zg hb3 (w.heap.size+1) w1.heap.size;clear hb3;have q0:w.heap.size<w3.heap.size+1+1:=(by omega);have q1:w.heap.size+1<w3.heap.size+1+1:=(by omega);have q2:w1.heap.size<w3.heap.size+1+1:=(by omega);have q3:w3.heap.size<w3.heap.size+1+1:=(by omega))
  | (go_at_call 53;refine (cL1 _ _ (zDb (by simp) (by rfl) (by decide))).mono ?_;rintro r w4 ⟨rfl,hb4⟩;clear cL1;obtain ⟨_,_,_,_,hA4,_⟩:=wz w hb4;obtain ⟨_,_,_,_,_,_⟩:=zh hb4 (w.heap.size+1) w1.heap.size w3.heap.size;clear hb4)
  | (go_at_call 54;refine (cN _).mono ?_;rintro r w5 ⟨gn,nn,cn,rfl,hg5,hn5,hb5⟩;have hgn:gn≠w3.heap.size:=(by first|omega|(simp at hg5;omega));clear hg5;obtain ⟨_,_,_,_,hA5,_⟩:=wz w hb5;obtain ⟨_,_,_,_,_,_⟩:=zh hb5 (w.heap.size+1) w1.heap.size w3.heap.size;clear hb5)
  | (go_at_call 53;refine wk w (cL2 _ _ (zDb (by simp) (by rfl) (by decide))) ?_;intro w6 hb6 _ _ _ _ hA6 _;obtain ⟨_,_,_,_,_,_⟩:=zh hb6 (w.heap.size+1) w1.heap.size w3.heap.size;clear hb6))
 exact bodyPost_ret (v:=.tuple #[A4 R,.int .i64 0]) (by simp only [results,Tryz.results27];go_simp) rfl ⟨rfl,bgo⟩
theorem zT1 (R:Nat)(R1 R2 p:Nat)
  (cO:∀ W,CB 19 #[.int .i64 n] W (.tuple #[zAb n nm wd pr ex le mo pa true,.int .i64 0]))
  (cI:∀ W,CB 26 #[zAb n nm wd pr ex le mo pa true,DV 3 true true x k] W (.bool true))
  (cS:∀ W,CB 52 #[zAb n nm wd pr ex le mo pa true] W (.tuple #[.int .i64 G,.int .i64 T,.int .i64 J]))
  (cL1:∀ W v,NV 1 1 v W->CB 53 #[Z4,v,.int .i64 (T+G)] W (A4 S))
  (cL3:∀ W v,NV 1 31 v W->CB 53 #[A4 S,v,.int .i64 (T+G-5)] W (A4 R1))
  (cL4:∀ W v,NV 1 1 v W->CB 53 #[A4 R1,v,.int .i64 (T+G-6)] W (A4 R2))
  (hp:p<2^256) (cP:∀ W,CB 55 #[A4 k,.int .i64 J] W (.tuple #[A4 p,.int .i64 0]))
  (cL5:∀ W v,NV 4 p v W->CB 53 #[A4 R2,v,.int .i64 0] W (A4 R)) :
  CB 27 #[.int .i64 n,DV 3 true true x k] w (.tuple #[A4 R,.int .i64 0]):=by
 have hsm:=zAa
 unfold DV A4 Z4 at *
 go_enter Tryz.func27,Tryz.ntmps27
 go_wp2_with (first
  | (go_at_call 17;refine (cD _).mono ?_;rintro r w0 ⟨rfl,rfl⟩)
  | (go_at_call 19;refine wk w (cO _) ?_;intro w1 hb1 _ _ _ _ hA1 _;obtain ⟨_,_⟩:=zf hb1 (w.heap.size+1);clear hb1)
  | (go_at_call 26;refine wk w (cI _) ?_;intro w2 hb2 _ _ _ _ hA2 _;obtain ⟨_,_,_,_⟩:=zg hb2 (w.heap.size+1) w1.heap.size;clear hb2)
  | (go_at_call 52;refine wk w (cS _) ?_;intro w3 hb3 _ _ _ _ hA3 _;obtain ⟨_,_,_,_⟩:=zg hb3 (w.heap.size+1) w1.heap.size;clear hb3;have q0:w.heap.size<w3.heap.size+1+1:=(by omega);have q1:w.heap.size+1<w3.heap.size+1+1:=(by omega);have q2:w1.heap.size<w3.heap.size+1+1:=(by omega);have q3:w3.heap.size<w3.heap.size+1+1:=(by omega))
  | (go_at_call 53;refine (cL1 _ _ (zDb (by simp) (by rfl) (by decide))).mono ?_;rintro r w4 ⟨rfl,hb4⟩;clear cL1;obtain ⟨_,_,_,_,hA4,_⟩:=wz w hb4;obtain ⟨_,_,_,_,_,_⟩:=zh hb4 (w.heap.size+1) w1.heap.size w3.heap.size;clear hb4)
  | (go_at_call 54;refine (cN _).mono ?_;rintro r w5 ⟨gn,nn,cn,rfl,hg5,hn5,hb5⟩;have hgn:gn≠w3.heap.size:=(by first|omega|(simp at hg5;omega));clear hg5;obtain ⟨_,_,_,_,hA5,_⟩:=wz w hb5;obtain ⟨_,_,_,_,_,_⟩:=zh hb5 (w.heap.size+1) w1.heap.size w3.heap.size;clear hb5)
  | (go_at_call 53;refine (cL3 _ _ (zDb (by simp) (by rfl) (by decide))).mono ?_;rintro r w6 ⟨rfl,hb6⟩;clear cL3;obtain ⟨_,_,_,_,hA6,_⟩:=wz w hb6;obtain ⟨_,_,_,_,_,_⟩:=zh hb6 (w.heap.size+1) w1.heap.size w3.heap.size;clear hb6)
  | (go_at_call 53;refine (cL4 _ _ (zDb (by simp) (by rfl) (by decide))).mono ?_;rintro r w7 ⟨rfl,hb7⟩;clear cL4;obtain ⟨_,_,_,_,hA7,_⟩:=wz w hb7;obtain ⟨_,_,_,_,_,_⟩:=zh hb7 (w.heap.size+1) w1.heap.size w3.heap.size;clear hb7)
  | (go_at_call 55;refine wk w (cP _) ?_;intro w8 hb8 _ _ _ _ hA8 _;obtain ⟨_,_,_,_,_,_⟩:=zh hb8 (w.heap.size+1) w1.heap.size w3.heap.size;clear hb8)
  | (go_at_call 53;refine wk w (cL5 _ _ (zXd hp (by simp) (by go_simp) (by go_simp) (by go_simp) (by go_simp))) ?_;intro w9 hb9 _ _ _ _ hA9 _;obtain ⟨_,_,_,_,_,_⟩:=zh hb9 (w.heap.size+1) w1.heap.size w3.heap.size;clear hb9))
 exact bodyPost_ret (v:=.tuple #[A4 R,.int .i64 0]) (by simp only [results,Tryz.results27];go_simp) rfl ⟨rfl,bgo⟩
theorem zU1 (R:Nat)(R1 R2:Nat)
  (cO:∀ W,CB 19 #[.int .i64 n] W (.tuple #[zAb n nm wd pr ex le mo pa false,.int .i64 0]))
  (cI:∀ W,CB 26 #[zAb n nm wd pr ex le mo pa false,DV 3 true true x k] W (.bool true))
  (cS:∀ W,CB 52 #[zAb n nm wd pr ex le mo pa false] W (.tuple #[.int .i64 G,.int .i64 T,.int .i64 J]))
  (cL1:∀ W v,NV 1 1 v W->CB 53 #[Z4,v,.int .i64 (T+G)] W (A4 S))
  (cL3:∀ W v,NV 1 31 v W->CB 53 #[A4 S,v,.int .i64 (T+G-5)] W (A4 R1))
  (cL4:∀ W v,NV 1 1 v W->CB 53 #[A4 R1,v,.int .i64 (T+G-6)] W (A4 R2))
  (cL5:∀ W v,NV 4 k v W->CB 53 #[A4 R2,v,.int .i64 0] W (A4 R)) :
  CB 27 #[.int .i64 n,DV 3 true true x k] w (.tuple #[A4 R,.int .i64 0]):=by
 have hsm:=zAa
 unfold DV A4 Z4 at *
 go_enter Tryz.func27,Tryz.ntmps27
 go_wp2_with (first
  | (go_at_call 17;refine (cD _).mono ?_;rintro r w0 ⟨rfl,rfl⟩)
  | (go_at_call 19;refine wk w (cO _) ?_;intro w1 hb1 _ _ _ _ hA1 _;obtain ⟨_,_⟩:=zf hb1 (w.heap.size+1);clear hb1)
  | (go_at_call 26;refine wk w (cI _) ?_;intro w2 hb2 _ _ _ _ hA2 _;obtain ⟨_,_,_,_⟩:=zg hb2 (w.heap.size+1) w1.heap.size;clear hb2)
  | (go_at_call 52;refine wk w (cS _) ?_;intro w3 hb3 _ _ _ _ hA3 _;obtain ⟨_,_,_,_⟩:=zg hb3 (w.heap.size+1) w1.heap.size;clear hb3;have q0:w.heap.size<w3.heap.size+1+1:=(by omega);have q1:w.heap.size+1<w3.heap.size+1+1:=(by omega);have q2:w1.heap.size<w3.heap.size+1+1:=(by omega);have q3:w3.heap.size<w3.heap.size+1+1:=(by omega))
  | (go_at_call 53;refine (cL1 _ _ (zDb (by simp) (by rfl) (by decide))).mono ?_;rintro r w4 ⟨rfl,hb4⟩;clear cL1;obtain ⟨_,_,_,_,hA4,_⟩:=wz w hb4;obtain ⟨_,_,_,_,_,_⟩:=zh hb4 (w.heap.size+1) w1.heap.size w3.heap.size;clear hb4)
  | (go_at_call 54;refine (cN _).mono ?_;rintro r w5 ⟨gn,nn,cn,rfl,hg5,hn5,hb5⟩;have hgn:gn≠w3.heap.size:=(by first|omega|(simp at hg5;omega));clear hg5;obtain ⟨_,_,_,_,hA5,_⟩:=wz w hb5;obtain ⟨_,_,_,_,_,_⟩:=zh hb5 (w.heap.size+1) w1.heap.size w3.heap.size;clear hb5)
  | (go_at_call 53;refine (cL3 _ _ (zDb (by simp) (by rfl) (by decide))).mono ?_;rintro r w6 ⟨rfl,hb6⟩;clear cL3;have hn6:=((hn5.next (zEa _ _)).next hb6).upd hgn (zFb _ _ R1);obtain ⟨_,_,_,_,hA6,_⟩:=wz w hb6;obtain ⟨_,_,_,_,_,_⟩:=zh hb6 (w.heap.size+1) w1.heap.size w3.heap.size;clear hb6)
  | (go_at_call 53;refine (cL4 _ _ (zDb (by simp) (by rfl) (by decide))).mono ?_;rintro r w7 ⟨rfl,hb7⟩;clear cL4;have hn7:=((hn6.next (zEa _ _)).next hb7).upd hgn (zFb _ _ R2);obtain ⟨_,_,_,_,hA7,_⟩:=wz w hb7;obtain ⟨_,_,_,_,_,_⟩:=zh hb7 (w.heap.size+1) w1.heap.size w3.heap.size;clear hb7)
  | (go_at_call 53;refine wk w (cL5 _ _ hn7.nv) ?_;intro w9 hb9 _ _ _ _ hA9 _;obtain ⟨_,_,_,_,_,_⟩:=zh hb9 (w.heap.size+1) w1.heap.size w3.heap.size;clear hb9))
 exact bodyPost_ret (v:=.tuple #[A4 R,.int .i64 0]) (by simp only [results,Tryz.results27];go_simp) rfl ⟨rfl,bgo⟩
theorem zV1 (R:Nat)(R1 p:Nat)
  (cO:∀ W,CB 19 #[.int .i64 n] W (.tuple #[zAb n nm wd pr ex le mo pa true,.int .i64 0]))
  (cI:∀ W,CB 26 #[zAb n nm wd pr ex le mo pa true,DV 3 true false x k] W (.bool true))
  (cS:∀ W,CB 52 #[zAb n nm wd pr ex le mo pa true] W (.tuple #[.int .i64 G,.int .i64 T,.int .i64 J]))
  (cL1:∀ W v,NV 1 1 v W->CB 53 #[Z4,v,.int .i64 (T+G)] W (A4 S))
  (cL3:∀ W v,NV 1 31 v W->CB 53 #[A4 S,v,.int .i64 (T+G-5)] W (A4 R1))
  (hp:p<2^256) (cP:∀ W,CB 55 #[A4 k,.int .i64 J] W (.tuple #[A4 p,.int .i64 0]))
  (cL5:∀ W v,NV 4 p v W->CB 53 #[A4 R1,v,.int .i64 0] W (A4 R)) :
  CB 27 #[.int .i64 n,DV 3 true false x k] w (.tuple #[A4 R,.int .i64 0]):=by
 have hsm:=zAa
 unfold DV A4 Z4 at *
 go_enter Tryz.func27,Tryz.ntmps27
 go_wp2_with (first
  | (go_at_call 17;refine (cD _).mono ?_;rintro r w0 ⟨rfl,rfl⟩)
  | (go_at_call 19;refine wk w (cO _) ?_;intro w1 hb1 _ _ _ _ hA1 _;obtain ⟨_,_⟩:=zf hb1 (w.heap.size+1);clear hb1)
  | (go_at_call 26;refine wk w (cI _) ?_;intro w2 hb2 _ _ _ _ hA2 _;obtain ⟨_,_,_,_⟩:=zg hb2 (w.heap.size+1) w1.heap.size;clear hb2)
  | (go_at_call 52;refine wk w (cS _) ?_;intro w3 hb3 _ _ _ _ hA3 _;obtain ⟨_,_,_,_⟩:=zg hb3 (w.heap.size+1) w1.heap.size;clear hb3;have q0:w.heap.size<w3.heap.size+1+1:=(by omega);have q1:w.heap.size+1<w3.heap.size+1+1:=(by omega);have q2:w1.heap.size<w3.heap.size+1+1:=(by omega);have q3:w3.heap.size<w3.heap.size+1+1:=(by omega))
  | (go_at_call 53;refine (cL1 _ _ (zDb (by simp) (by rfl) (by decide))).mono ?_;rintro r w4 ⟨rfl,hb4⟩;clear cL1;obtain ⟨_,_,_,_,hA4,_⟩:=wz w hb4;obtain ⟨_,_,_,_,_,_⟩:=zh hb4 (w.heap.size+1) w1.heap.size w3.heap.size;clear hb4)
  | (go_at_call 54;refine (cN _).mono ?_;rintro r w5 ⟨gn,nn,cn,rfl,hg5,hn5,hb5⟩;have hgn:gn≠w3.heap.size:=(by first|omega|(simp at hg5;omega));clear hg5;obtain ⟨_,_,_,_,hA5,_⟩:=wz w hb5;obtain ⟨_,_,_,_,_,_⟩:=zh hb5 (w.heap.size+1) w1.heap.size w3.heap.size;clear hb5)
  | (go_at_call 53;refine (cL3 _ _ (zDb (by simp) (by rfl) (by decide))).mono ?_;rintro r w6 ⟨rfl,hb6⟩;clear cL3;obtain ⟨_,_,_,_,hA6,_⟩:=wz w hb6;obtain ⟨_,_,_,_,_,_⟩:=zh hb6 (w.heap.size+1) w1.heap.size w3.heap.size;clear hb6)
  | (go_at_call 55;refine wk w (cP _) ?_;intro w8 hb8 _ _ _ _ hA8 _;obtain ⟨_,_,_,_,_,_⟩:=zh hb8 (w.heap.size+1) w1.heap.size w3.heap.size;clear hb8)
  | (go_at_call 53;refine wk w (cL5 _ _ (zXd hp (by simp) (by go_simp) (by go_simp) (by go_simp) (by go_simp))) ?_;intro w9 hb9 _ _ _ _ hA9 _;obtain ⟨_,_,_,_,_,_⟩:=zh hb9 (w.heap.size+1) w1.heap.size w3.heap.size;clear hb9))
 exact bodyPost_ret (v:=.tuple #[A4 R,.int .i64 0]) (by simp only [results,Tryz.results27];go_simp) rfl ⟨rfl,bgo⟩
theorem zW1 (R:Nat)(R1:Nat)
  (cO:∀ W,CB 19 #[.int .i64 n] W (.tuple #[zAb n nm wd pr ex le mo pa false,.int .i64 0]))
  (cI:∀ W,CB 26 #[zAb n nm wd pr ex le mo pa false,DV 3 true false x k] W (.bool true))
  (cS:∀ W,CB 52 #[zAb n nm wd pr ex le mo pa false] W (.tuple #[.int .i64 G,.int .i64 T,.int .i64 J]))
  (cL1:∀ W v,NV 1 1 v W->CB 53 #[Z4,v,.int .i64 (T+G)] W (A4 S))
  (cL3:∀ W v,NV 1 31 v W->CB 53 #[A4 S,v,.int .i64 (T+G-5)] W (A4 R1))
  (cL5:∀ W v,NV 4 k v W->CB 53 #[A4 R1,v,.int .i64 0] W (A4 R)) :
  CB 27 #[.int .i64 n,DV 3 true false x k] w (.tuple #[A4 R,.int .i64 0]):=by
 have hsm:=zAa
 unfold DV A4 Z4 at *
 go_enter Tryz.func27,Tryz.ntmps27
 go_wp2_with (first
  | (go_at_call 17;refine (cD _).mono ?_;rintro r w0 ⟨rfl,rfl⟩)
  | (go_at_call 19;refine wk w (cO _) ?_;intro w1 hb1 _ _ _ _ hA1 _;obtain ⟨_,_⟩:=zf hb1 (w.heap.size+1);clear hb1)
  | (go_at_call 26;refine wk w (cI _) ?_;intro w2 hb2 _ _ _ _ hA2 _;obtain ⟨_,_,_,_⟩:=zg hb2 (w.heap.size+1) w1.heap.size;clear hb2)
  | (go_at_call 52;refine wk w (cS _) ?_;intro w3 hb3 _ _ _ _ hA3 _;obtain ⟨_,_,_,_⟩:=zg hb3 (w.heap.size+1) w1.heap.size;clear hb3;have q0:w.heap.size<w3.heap.size+1+1:=(by omega);have q1:w.heap.size+1<w3.heap.size+1+1:=(by omega);have q2:w1.heap.size<w3.heap.size+1+1:=(by omega);have q3:w3.heap.size<w3.heap.size+1+1:=(by omega))
  | (go_at_call 53;refine (cL1 _ _ (zDb (by simp) (by rfl) (by decide))).mono ?_;rintro r w4 ⟨rfl,hb4⟩;clear cL1;obtain ⟨_,_,_,_,hA4,_⟩:=wz w hb4;obtain ⟨_,_,_,_,_,_⟩:=zh hb4 (w.heap.size+1) w1.heap.size w3.heap.size;clear hb4)
  | (go_at_call 54;refine (cN _).mono ?_;rintro r w5 ⟨gn,nn,cn,rfl,hg5,hn5,hb5⟩;have hgn:gn≠w3.heap.size:=(by first|omega|(simp at hg5;omega));clear hg5;obtain ⟨_,_,_,_,hA5,_⟩:=wz w hb5;obtain ⟨_,_,_,_,_,_⟩:=zh hb5 (w.heap.size+1) w1.heap.size w3.heap.size;clear hb5)
  | (go_at_call 53;refine (cL3 _ _ (zDb (by simp) (by rfl) (by decide))).mono ?_;rintro r w6 ⟨rfl,hb6⟩;clear cL3;have hn6:=((hn5.next (zEa _ _)).next hb6).upd hgn (zFb _ _ R1);obtain ⟨_,_,_,_,hA6,_⟩:=wz w hb6;obtain ⟨_,_,_,_,_,_⟩:=zh hb6 (w.heap.size+1) w1.heap.size w3.heap.size;clear hb6)
  | (go_at_call 53;refine wk w (cL5 _ _ hn6.nv) ?_;intro w9 hb9 _ _ _ _ hA9 _;obtain ⟨_,_,_,_,_,_⟩:=zh hb9 (w.heap.size+1) w1.heap.size w3.heap.size;clear hb9))
 exact bodyPost_ret (v:=.tuple #[A4 R,.int .i64 0]) (by simp only [results,Tryz.results27];go_simp) rfl ⟨rfl,bgo⟩
theorem vpk2_f (R:Nat)(g dn:Bool)
  (cO:∀ W,CB 19 #[.int .i64 n] W (.tuple #[zAb n nm wd pr ex le mo pa dn,.int .i64 0]))
  (cI:∀ W,CB 26 #[zAb n nm wd pr ex le mo pa dn,DV 2 false g x k] W (.bool true))
  (cS:∀ W,CB 52 #[zAb n nm wd pr ex le mo pa dn] W (.tuple #[.int .i64 G,.int .i64 T,.int .i64 J]))
  (cL2:∀ W v,NV 1 30 v W->CB 53 #[Z4,v,.int .i64 (T+G-5)] W (A4 R)) :
  CB 27 #[.int .i64 n,DV 2 false g x k] w (.tuple #[A4 R,.int .i64 0]):=by
 have hsm:=zAa
 unfold DV A4 Z4 at *
 go_enter Tryz.func27,Tryz.ntmps27
 go_wp2_with (first
  | (go_at_call 17;refine (cD _).mono ?_;rintro r w0 ⟨rfl,rfl⟩)
  | (go_at_call 19;refine wk w (cO _) ?_;intro w1 hb1 _ _ _ _ hA1 _;obtain ⟨_,_⟩:=zf hb1 (w.heap.size+1);clear hb1)
  | (go_at_call 26;refine wk w (cI _) ?_;intro w2 hb2 _ _ _ _ hA2 _;obtain ⟨_,_,_,_⟩:=zg hb2 (w.heap.size+1) w1.heap.size;clear hb2)
  | (go_at_call 52;refine wk w (cS _) ?_;intro w3 hb3 _ _ _ _ hA3 _;obtain ⟨_,_,_,_⟩:=zg hb3 (w.heap.size+1) w1.heap.size;clear hb3;have q0:w.heap.size<w3.heap.size+1+1:=(by omega);have q1:w.heap.size+1<w3.heap.size+1+1:=(by omega);have q2:w1.heap.size<w3.heap.size+1+1:=(by omega);have q3:w3.heap.size<w3.heap.size+1+1:=(by omega))
  | (go_at_call 54;refine (cN _).mono ?_;rintro r w5 ⟨gn,nn,cn,rfl,hg5,hn5,hb5⟩;have hgn:gn≠w3.heap.size:=(by first|omega|(simp at hg5;omega));clear hg5;obtain ⟨_,_,_,_,hA5,_⟩:=wz w hb5;obtain ⟨_,_,_,_,_,_⟩:=zh hb5 (w.heap.size+1) w1.heap.size w3.heap.size;clear hb5)
  | (go_at_call 53;refine wk w (cL2 _ _ (zDb (by simp) (by rfl) (by decide))) ?_;intro w6 hb6 _ _ _ _ hA6 _;obtain ⟨_,_,_,_,_,_⟩:=zh hb6 (w.heap.size+1) w1.heap.size w3.heap.size;clear hb6))
 exact bodyPost_ret (v:=.tuple #[A4 R,.int .i64 0]) (by simp only [results,Tryz.results27];go_simp) rfl ⟨rfl,bgo⟩
theorem zX1 (R:Nat)(R1 R2 p:Nat)
  (cO:∀ W,CB 19 #[.int .i64 n] W (.tuple #[zAb n nm wd pr ex le mo pa true,.int .i64 0]))
  (cI:∀ W,CB 26 #[zAb n nm wd pr ex le mo pa true,DV 3 false true x k] W (.bool true))
  (cS:∀ W,CB 52 #[zAb n nm wd pr ex le mo pa true] W (.tuple #[.int .i64 G,.int .i64 T,.int .i64 J]))
  (cL3:∀ W v,NV 1 31 v W->CB 53 #[Z4,v,.int .i64 (T+G-5)] W (A4 R1))
  (cL4:∀ W v,NV 1 1 v W->CB 53 #[A4 R1,v,.int .i64 (T+G-6)] W (A4 R2))
  (hp:p<2^256) (cP:∀ W,CB 55 #[A4 k,.int .i64 J] W (.tuple #[A4 p,.int .i64 0]))
  (cL5:∀ W v,NV 4 p v W->CB 53 #[A4 R2,v,.int .i64 0] W (A4 R)) :
  CB 27 #[.int .i64 n,DV 3 false true x k] w (.tuple #[A4 R,.int .i64 0]):=by
 have hsm:=zAa
 unfold DV A4 Z4 at *
 go_enter Tryz.func27,Tryz.ntmps27
 go_wp2_with (first
  | (go_at_call 17;refine (cD _).mono ?_;rintro r w0 ⟨rfl,rfl⟩)
  | (go_at_call 19;refine wk w (cO _) ?_;intro w1 hb1 _ _ _ _ hA1 _;obtain ⟨_,_⟩:=zf hb1 (w.heap.size+1);clear hb1)
  | (go_at_call 26;refine wk w (cI _) ?_;intro w2 hb2 _ _ _ _ hA2 _;obtain ⟨_,_,_,_⟩:=zg hb2 (w.heap.size+1) w1.heap.size;clear hb2)
  | (go_at_call 52;refine wk w (cS _) ?_;intro w3 hb3 _ _ _ _ hA3 _;obtain ⟨_,_,_,_⟩:=zg hb3 (w.heap.size+1) w1.heap.size;clear hb3;have q0:w.heap.size<w3.heap.size+1+1:=(by omega);have q1:w.heap.size+1<w3.heap.size+1+1:=(by omega);have q2:w1.heap.size<w3.heap.size+1+1:=(by omega);have q3:w3.heap.size<w3.heap.size+1+1:=(by omega))
  | (go_at_call 54;refine (cN _).mono ?_;rintro r w5 ⟨gn,nn,cn,rfl,hg5,hn5,hb5⟩;have hgn:gn≠w3.heap.size:=(by first|omega|(simp at hg5;omega));clear hg5;obtain ⟨_,_,_,_,hA5,_⟩:=wz w hb5;obtain ⟨_,_,_,_,_,_⟩:=zh hb5 (w.heap.size+1) w1.heap.size w3.heap.size;clear hb5)
  | (go_at_call 53;refine (cL3 _ _ (zDb (by simp) (by rfl) (by decide))).mono ?_;rintro r w6 ⟨rfl,hb6⟩;clear cL3;obtain ⟨_,_,_,_,hA6,_⟩:=wz w hb6;obtain ⟨_,_,_,_,_,_⟩:=zh hb6 (w.heap.size+1) w1.heap.size w3.heap.size;clear hb6)
  | (go_at_call 53;refine (cL4 _ _ (zDb (by simp) (by rfl) (by decide))).mono ?_;rintro r w7 ⟨rfl,hb7⟩;clear cL4;obtain ⟨_,_,_,_,hA7,_⟩:=wz w hb7;obtain ⟨_,_,_,_,_,_⟩:=zh hb7 (w.heap.size+1) w1.heap.size w3.heap.size;clear hb7)
  | (go_at_call 55;refine wk w (cP _) ?_;intro w8 hb8 _ _ _ _ hA8 _;obtain ⟨_,_,_,_,_,_⟩:=zh hb8 (w.heap.size+1) w1.heap.size w3.heap.size;clear hb8)
  | (go_at_call 53;refine wk w (cL5 _ _ (zXd hp (by simp) (by go_simp) (by go_simp) (by go_simp) (by go_simp))) ?_;intro w9 hb9 _ _ _ _ hA9 _;obtain ⟨_,_,_,_,_,_⟩:=zh hb9 (w.heap.size+1) w1.heap.size w3.heap.size;clear hb9))
 exact bodyPost_ret (v:=.tuple #[A4 R,.int .i64 0]) (by simp only [results,Tryz.results27];go_simp) rfl ⟨rfl,bgo⟩
theorem zY1 (R:Nat)(R1 R2:Nat)
  (cO:∀ W,CB 19 #[.int .i64 n] W (.tuple #[zAb n nm wd pr ex le mo pa false,.int .i64 0]))
  (cI:∀ W,CB 26 #[zAb n nm wd pr ex le mo pa false,DV 3 false true x k] W (.bool true))
  (cS:∀ W,CB 52 #[zAb n nm wd pr ex le mo pa false] W (.tuple #[.int .i64 G,.int .i64 T,.int .i64 J]))
  (cL3:∀ W v,NV 1 31 v W->CB 53 #[Z4,v,.int .i64 (T+G-5)] W (A4 R1))
  (cL4:∀ W v,NV 1 1 v W->CB 53 #[A4 R1,v,.int .i64 (T+G-6)] W (A4 R2))
  (cL5:∀ W v,NV 4 k v W->CB 53 #[A4 R2,v,.int .i64 0] W (A4 R)) :
  CB 27 #[.int .i64 n,DV 3 false true x k] w (.tuple #[A4 R,.int .i64 0]):=by
 have hsm:=zAa
 unfold DV A4 Z4 at *
 go_enter Tryz.func27,Tryz.ntmps27
 go_wp2_with (first
  | (go_at_call 17;refine (cD _).mono ?_;rintro r w0 ⟨rfl,rfl⟩)
  | (go_at_call 19;refine wk w (cO _) ?_;intro w1 hb1 _ _ _ _ hA1 _;obtain ⟨_,_⟩:=zf hb1 (w.heap.size+1);clear hb1)
  | (go_at_call 26;refine wk w (cI _) ?_;intro w2 hb2 _ _ _ _ hA2 _;obtain ⟨_,_,_,_⟩:=zg hb2 (w.heap.size+1) w1.heap.size;clear hb2)
  | (go_at_call 52;refine wk w (cS _) ?_;intro w3 hb3 _ _ _ _ hA3 _;obtain ⟨_,_,_,_⟩:=zg hb3 (w.heap.size+1) w1.heap.size;clear hb3;have q0:w.heap.size<w3.heap.size+1+1:=(by omega);have q1:w.heap.size+1<w3.heap.size+1+1:=(by omega);have q2:w1.heap.size<w3.heap.size+1+1:=(by omega);have q3:w3.heap.size<w3.heap.size+1+1:=(by omega))
  | (go_at_call 54;refine (cN _).mono ?_;rintro r w5 ⟨gn,nn,cn,rfl,hg5,hn5,hb5⟩;have hgn:gn≠w3.heap.size:=(by first|omega|(simp at hg5;omega));clear hg5;obtain ⟨_,_,_,_,hA5,_⟩:=wz w hb5;obtain ⟨_,_,_,_,_,_⟩:=zh hb5 (w.heap.size+1) w1.heap.size w3.heap.size;clear hb5)
  | (go_at_call 53;refine (cL3 _ _ (zDb (by simp) (by rfl) (by decide))).mono ?_;rintro r w6 ⟨rfl,hb6⟩;clear cL3;have hn6:=((hn5.next (zEa _ _)).next hb6).upd hgn (zFb _ _ R1);obtain ⟨_,_,_,_,hA6,_⟩:=wz w hb6;obtain ⟨_,_,_,_,_,_⟩:=zh hb6 (w.heap.size+1) w1.heap.size w3.heap.size;clear hb6)
  | (go_at_call 53;refine (cL4 _ _ (zDb (by simp) (by rfl) (by decide))).mono ?_;rintro r w7 ⟨rfl,hb7⟩;clear cL4;have hn7:=((hn6.next (zEa _ _)).next hb7).upd hgn (zFb _ _ R2);obtain ⟨_,_,_,_,hA7,_⟩:=wz w hb7;obtain ⟨_,_,_,_,_,_⟩:=zh hb7 (w.heap.size+1) w1.heap.size w3.heap.size;clear hb7)
  | (go_at_call 53;refine wk w (cL5 _ _ hn7.nv) ?_;intro w9 hb9 _ _ _ _ hA9 _;obtain ⟨_,_,_,_,_,_⟩:=zh hb9 (w.heap.size+1) w1.heap.size w3.heap.size;clear hb9))
 exact bodyPost_ret (v:=.tuple #[A4 R,.int .i64 0]) (by simp only [results,Tryz.results27];go_simp) rfl ⟨rfl,bgo⟩
theorem zZ1 (R:Nat)(R1 p:Nat)
  (cO:∀ W,CB 19 #[.int .i64 n] W (.tuple #[zAb n nm wd pr ex le mo pa true,.int .i64 0]))
  (cI:∀ W,CB 26 #[zAb n nm wd pr ex le mo pa true,DV 3 false false x k] W (.bool true))
  (cS:∀ W,CB 52 #[zAb n nm wd pr ex le mo pa true] W (.tuple #[.int .i64 G,.int .i64 T,.int .i64 J]))
  (cL3:∀ W v,NV 1 31 v W->CB 53 #[Z4,v,.int .i64 (T+G-5)] W (A4 R1))
  (hp:p<2^256) (cP:∀ W,CB 55 #[A4 k,.int .i64 J] W (.tuple #[A4 p,.int .i64 0]))
  (cL5:∀ W v,NV 4 p v W->CB 53 #[A4 R1,v,.int .i64 0] W (A4 R)) :
  CB 27 #[.int .i64 n,DV 3 false false x k] w (.tuple #[A4 R,.int .i64 0]):=by
 have hsm:=zAa
 unfold DV A4 Z4 at *
 go_enter Tryz.func27,Tryz.ntmps27
 go_wp2_with (first
  | (go_at_call 17;refine (cD _).mono ?_;rintro r w0 ⟨rfl,rfl⟩)
  | (go_at_call 19;refine wk w (cO _) ?_;intro w1 hb1 _ _ _ _ hA1 _;obtain ⟨_,_⟩:=zf hb1 (w.heap.size+1);clear hb1)
  | (go_at_call 26;refine wk w (cI _) ?_;intro w2 hb2 _ _ _ _ hA2 _;obtain ⟨_,_,_,_⟩:=zg hb2 (w.heap.size+1) w1.heap.size;clear hb2)
  | (go_at_call 52;refine wk w (cS _) ?_;intro w3 hb3 _ _ _ _ hA3 _;obtain ⟨_,_,_,_⟩:=zg hb3 (w.heap.size+1) w1.heap.size;clear hb3;have q0:w.heap.size<w3.heap.size+1+1:=(by omega);have q1:w.heap.size+1<w3.heap.size+1+1:=(by omega);have q2:w1.heap.size<w3.heap.size+1+1:=(by omega);have q3:w3.heap.size<w3.heap.size+1+1:=(by omega))
  | (go_at_call 54;refine (cN _).mono ?_;rintro r w5 ⟨gn,nn,cn,rfl,hg5,hn5,hb5⟩;have hgn:gn≠w3.heap.size:=(by first|omega|(simp at hg5;omega));clear hg5;obtain ⟨_,_,_,_,hA5,_⟩:=wz w hb5;obtain ⟨_,_,_,_,_,_⟩:=zh hb5 (w.heap.size+1) w1.heap.size w3.heap.size;clear hb5)
  | (go_at_call 53;refine (cL3 _ _ (zDb (by simp) (by rfl) (by decide))).mono ?_;rintro r w6 ⟨rfl,hb6⟩;clear cL3;obtain ⟨_,_,_,_,hA6,_⟩:=wz w hb6;obtain ⟨_,_,_,_,_,_⟩:=zh hb6 (w.heap.size+1) w1.heap.size w3.heap.size;clear hb6)
  | (go_at_call 55;refine wk w (cP _) ?_;intro w8 hb8 _ _ _ _ hA8 _;obtain ⟨_,_,_,_,_,_⟩:=zh hb8 (w.heap.size+1) w1.heap.size w3.heap.size;clear hb8)
  | (go_at_call 53;refine wk w (cL5 _ _ (zXd hp (by simp) (by go_simp) (by go_simp) (by go_simp) (by go_simp))) ?_;intro w9 hb9 _ _ _ _ hA9 _;obtain ⟨_,_,_,_,_,_⟩:=zh hb9 (w.heap.size+1) w1.heap.size w3.heap.size;clear hb9))
 exact bodyPost_ret (v:=.tuple #[A4 R,.int .i64 0]) (by simp only [results,Tryz.results27];go_simp) rfl ⟨rfl,bgo⟩
theorem zA2 (R:Nat)(R1:Nat)
  (cO:∀ W,CB 19 #[.int .i64 n] W (.tuple #[zAb n nm wd pr ex le mo pa false,.int .i64 0]))
  (cI:∀ W,CB 26 #[zAb n nm wd pr ex le mo pa false,DV 3 false false x k] W (.bool true))
  (cS:∀ W,CB 52 #[zAb n nm wd pr ex le mo pa false] W (.tuple #[.int .i64 G,.int .i64 T,.int .i64 J]))
  (cL3:∀ W v,NV 1 31 v W->CB 53 #[Z4,v,.int .i64 (T+G-5)] W (A4 R1))
  (cL5:∀ W v,NV 4 k v W->CB 53 #[A4 R1,v,.int .i64 0] W (A4 R)) :
  CB 27 #[.int .i64 n,DV 3 false false x k] w (.tuple #[A4 R,.int .i64 0]):=by
 have hsm:=zAa
 unfold DV A4 Z4 at *
 go_enter Tryz.func27,Tryz.ntmps27
 go_wp2_with (first
  | (go_at_call 17;refine (cD _).mono ?_;rintro r w0 ⟨rfl,rfl⟩)
  | (go_at_call 19;refine wk w (cO _) ?_;intro w1 hb1 _ _ _ _ hA1 _;obtain ⟨_,_⟩:=zf hb1 (w.heap.size+1);clear hb1)
  | (go_at_call 26;refine wk w (cI _) ?_;intro w2 hb2 _ _ _ _ hA2 _;obtain ⟨_,_,_,_⟩:=zg hb2 (w.heap.size+1) w1.heap.size;clear hb2)
  | (go_at_call 52;refine wk w (cS _) ?_;intro w3 hb3 _ _ _ _ hA3 _;obtain ⟨_,_,_,_⟩:=zg hb3 (w.heap.size+1) w1.heap.size;clear hb3;have q0:w.heap.size<w3.heap.size+1+1:=(by omega);have q1:w.heap.size+1<w3.heap.size+1+1:=(by omega);have q2:w1.heap.size<w3.heap.size+1+1:=(by omega);have q3:w3.heap.size<w3.heap.size+1+1:=(by omega))
  | (go_at_call 54;refine (cN _).mono ?_;rintro r w5 ⟨gn,nn,cn,rfl,hg5,hn5,hb5⟩;have hgn:gn≠w3.heap.size:=(by first|omega|(simp at hg5;omega));clear hg5;obtain ⟨_,_,_,_,hA5,_⟩:=wz w hb5;obtain ⟨_,_,_,_,_,_⟩:=zh hb5 (w.heap.size+1) w1.heap.size w3.heap.size;clear hb5)
  | (go_at_call 53;refine (cL3 _ _ (zDb (by simp) (by rfl) (by decide))).mono ?_;rintro r w6 ⟨rfl,hb6⟩;clear cL3;have hn6:=((hn5.next (zEa _ _)).next hb6).upd hgn (zFb _ _ R1);obtain ⟨_,_,_,_,hA6,_⟩:=wz w hb6;obtain ⟨_,_,_,_,_,_⟩:=zh hb6 (w.heap.size+1) w1.heap.size w3.heap.size;clear hb6)
  | (go_at_call 53;refine wk w (cL5 _ _ hn6.nv) ?_;intro w9 hb9 _ _ _ _ hA9 _;obtain ⟨_,_,_,_,_,_⟩:=zh hb9 (w.heap.size+1) w1.heap.size w3.heap.size;clear hb9))
 exact bodyPost_ret (v:=.tuple #[A4 R,.int .i64 0]) (by simp only [results,Tryz.results27];go_simp) rfl ⟨rfl,bgo⟩
end
end
end Go.Proofs.YtpabnhlfbjkmaaaGreatDoor
