/-
  Texts that the proof leans on.
-/
import Derived.Test.YtahfkpjhlbiamaaGreatDoorJ1
import Derived.Test.YtahfkpjhlbiamaaGreatDoorJ22
import Derived.Test.YtahfkpjhlbiamaaGreatDoorJ16
import Derived.Test.YtahfkpjhlbiamaaGreatDoorJ21
set_option maxHeartbeats 8000000
set_option linter.unusedVariables false
set_option linter.unusedSectionVars false
set_option linter.unusedSimpArgs false
set_option maxRecDepth 20000
namespace Go.Proofs.YtahfkpjhlbiamaaGreatDoor
open Go.RowKit
section
theorem zNx {W:World}{g V:Nat}{vi:Int}(hg:g=W.heap.size)(hv:vi=(V:Int))(hb:V<18446744073709551616)(h0:V≠0):NT 1 V (.slice (some ⟨g,0,none⟩) 1 1) (W.alloc (.cells #[.int .u64 vi] 22)):=by
 subst hg hv
 have h1:¬ ((V:Int)=0):=by omega
 exact ⟨_,1,1,zEd V,rfl,Nat.le_refl _,zOd W V (by omega),by simp [val,zEd],by simp [sizeL,zEd,h0]⟩
theorem zL3 (s m:Nat):s^m=(if m%2=1 then s else 1)*(s*s)^(m/2):=by
 have e:(s*s)^(m/2)=s^(2*(m/2)):=by rw [Nat.pow_mul];congr 1;rw [Nat.pow_succ,Nat.pow_succ,Nat.pow_zero,Nat.one_mul]
 rw [e]
 by_cases h:m%2=1
 ·rw [if_pos h,Nat.mul_comm,← Nat.pow_succ];congr 1;omega
 ·rw [if_neg h,Nat.one_mul];congr 1;omega
attribute [local irreducible] NT NV
theorem zY8 (b n:Nat)(w:World)(hb0:b≠0)(hb:b<18446744073709551616)(hn:n<=12000) :
  CE 64 #[.int .u64 (b:Int),.int .i64 (n:Int)] w (NT (4*n+2) (b^n)):=by
 have hN1:=(zNx (W:=w) (g:=w.heap.size) (V:=1) (vi:=1) rfl rfl (by decide) (by decide)).next (zEa _ (.cells #[.int .u64 (b:Int)] 22))
 have hN2:=zNx (W:=w.alloc (.cells #[.int .u64 1] 22)) (g:=w.heap.size+1) (V:=b) (vi:=(b:Int)) (by simp) rfl hb hb0
 have HB:Hid (Below w.heap.size w ((w.alloc (.cells #[.int .u64 1] 22)).alloc (.cells #[.int .u64 (b:Int)] 22))):=((Below.refl _ _).alloc (Nat.le_refl _) _).alloc (by simp) _
 go_enter Tryz.func64,Tryz.ntmps64
 go_wp2
 generalize (w.alloc (.cells #[.int .u64 1] 22)).alloc (.cells #[.int .u64 (b:Int)] 22)=wA at *
 go_loopw [1,5,6] (fun nv ov sv wr=>∃ (m P X Y:Nat),nv=.int .i64 (m:Int)/\m<=n/\1<=P/\m*P<=n/\P<=2*n+1/\NT (2*P-1) X ov wr/\NT (2*P-1) Y sv wr/\Hid (X*Y^m=b^n)/\Below w.heap.size w wr) (fun nv _ _ _=>(intOf nv).toNat)
 case atStart=>exact ⟨n,1,1,b,rfl,Nat.le_refl _,Nat.le_refl _,by omega,by omega,hN1,hN2,by show _=_;rw [Nat.one_mul],HB.out⟩
 case round =>
  clear hN1 hN2 HB
  obtain ⟨m,P,X,Y,rfl,hmn,hP,hmP,hP2,hN1,hN2,hv,hB⟩:=hrel
  by_cases h0:m=0
  ·subst h0
   have HV:Hid (X=b^n):=by show _=_;have:=hv.out;rw [Nat.pow_zero,Nat.mul_one] at this;exact this
   clear hN2 hv
   go_wp2
   go_ret
   exact ⟨_,rfl,by rw [← HV.out];exact hN1.more (by omega),hB⟩
  ·have hm0:(0:Int)<m:=by omega
   have hPn:P<=n:=by
    have:1*P<=m*P:=Nat.mul_le_mul_right P (by omega)
    omega
   have hq2:(m:Int)/2=((m/2:Nat):Int):=by omega
   have hr2:(m:Int)%2=((m%2:Nat):Int):=by omega
   have hmP':m/2*(2*P)<=n:=by
    have h1:m/2*2<=m:=Nat.div_mul_le_self m 2
    have h2:m/2*2*P<=m*P:=Nat.mul_le_mul_right P h1
    rw [← Nat.mul_assoc];omega
   have HPH:Hid (Y^m=(if m%2=1 then Y else 1)*(Y*Y)^(m/2)):=zL3 _ _
   generalize hq:m/2=q at *
   by_cases hodd:m%2=1
   ·rw [hodd] at hr2
    rw [if_pos hodd] at HPH
    have t1:=zCf (by omega) (by omega) hN1.nv hN2.nv
    by_cases hq0:q=0
    ·subst hq0
     have hq00:(m:Int)/2=0:=hq2
     clear hq2
     go_wp2_with (go_at_call 86;refine t1.mono ?_;rintro e w1 ⟨r1,rfl,hr1,hb1⟩;clear t1)
     have HV3:Hid (X*Y*Y^0=b^n):=by
      show _=_
      rw [← hv.out,HPH.out];simp
     have hN2':=hN2.next hb1
     have hB1:=hB.trans (hb1.mono hB.size)
     clear hN1 hN2 hv
     go_roundw
     case rel=>exact ⟨0,2*P,X*Y,Y,rfl,by omega,by omega,by omega,by omega,hr1.more (by omega),hN2'.more (by omega),HV3,hB1⟩
     case measure=>simp [intOf];omega
    ·have hq0':(0:Int)<q:=by omega
     go_wp2_with (go_at_call 86;refine t1.mono ?_;rintro e w1 ⟨r1,rfl,hr1,hb1⟩;clear t1)
     have hB1:=hB.trans (hb1.mono hB.size)
     have hN21:=hN2.next hb1
     have t2:=zCf (by omega) (by omega) hN21.nv hN21.nv
     go_wp2_with (go_at_call 86;refine t2.mono ?_;rintro e w2 ⟨r2,rfl,hr2',hb2⟩;clear t2)
     have HV3:Hid (X*Y*(Y*Y)^q=b^n):=by
      show _=_
      rw [← hv.out,HPH.out,Nat.mul_assoc]
     have hr1':=hr1.next hb2
     have hB2:=hB1.trans (hb2.mono hB1.size)
     clear hN1 hN2 hN21 hr1 hv
     go_roundw
     case rel=>exact ⟨q,2*P,X*Y,Y*Y,rfl,by omega,by omega,by omega,by omega,hr1'.more (by omega),hr2'.more (by omega),HV3,hB2⟩
     case measure=>simp [intOf];omega
   ·have h20:m%2=0:=by omega
    rw [h20] at hr2
    rw [if_neg hodd,Nat.one_mul] at HPH
    have hq0':(0:Int)<q:=by omega
    have t2:=zCf (by omega) (by omega) hN2.nv hN2.nv
    go_wp2_with (go_at_call 86;refine t2.mono ?_;rintro e w2 ⟨r2,rfl,hr2',hb2⟩;clear t2)
    have HV3:Hid (X*(Y*Y)^q=b^n):=by
     show _=_
     rw [← hv.out,HPH.out]
    have hN1':=hN1.next hb2
    have hB2:=hB.trans (hb2.mono hB.size)
    clear hN1 hN2 hv
    go_roundw
    case rel=>exact ⟨q,2*P,X,Y*Y,rfl,by omega,by omega,by omega,by omega,hN1'.more (by omega),hr2'.more (by omega),HV3,hB2⟩
    case measure=>simp [intOf];omega
end
section
theorem zSb {g X:Nat}{W:World}(hX:X<2^256)(hg:g<W.heap.size)(h0:W.cell? ⟨g,0,none⟩=some (.int .u64 (W4 X 0)))(h1:W.cell? ⟨g,1,none⟩=some (.int .u64 (W4 X 1)))(h2:W.cell? ⟨g,2,none⟩=some (.int .u64 (W4 X 2)))(h3:W.cell? ⟨g,3,none⟩=some (.int .u64 (W4 X 3))):NV 4 X (.slice (some ⟨g,0,none⟩) 4 4) W:=by
 refine ⟨g,4,4,zVe (W4 X) 4,rfl,Nat.le_refl _,⟨Nat.le_refl _,by unfold maxLen;omega,zNf (zJa X) 4,fun i hi=>zSe hi,Or.inr ⟨g,0,rfl,hg,fun i hi=>?_⟩⟩,?_⟩
 ·rw [zLb hi]
  have:i=0∨i=1∨i=2∨i=3:=by omega
  rcases this with rfl|rfl|rfl|rfl
  ·exact h0
  ·exact h1
  ·exact h2
  ·exact h3
 ·rw [zKa (x:=zVe (W4 X) 4) (y:=W4 X) 4 (fun i hi=>zLb hi),zRb hX]
theorem zQe {K V:Nat}{v:Value}{w:World}(h:NV K V v w)(hK:K<100000)(hV:V<9223372036854775808) :
    Calls Tryz.prog 61 #[v] w fun e w'=>e=.returned (.int .i64 V)/\w'=w:=by
  obtain ⟨g,k,cap,z,rfl,hk,hN,hv⟩:=h
  obtain ⟨h1,h2,h3,h4,h5⟩:=hN
  rcases h5 with ⟨h5,_⟩|⟨b,off,e,hb,hc⟩
  · cases h5
  · cases e
    rcases Nat.eq_zero_or_pos k with hk0|hk0
    · subst hk0
      have : V = 0 := by have : val z 0 = 0 := rfl
                         omega
      subst this
      go_enter Tryz.func61,Tryz.ntmps61
      go_wp2
      go_ret
      exact ⟨rfl,rfl⟩
    · have hc0:=hc 0 hk0
      have hz0:=h3 0
      have e0:z 0=(V:Int):=by
        have hl:=zMx h3 h4 hv
        obtain ⟨j,rfl⟩:∃ j,k=1+j:=⟨k-1,by omega⟩
        have hs:=zVb z 1 j
        have hb2:=zVa (zKb h3 1 j) j
        have h10:val z 1=z 0:=by show val z 0+z 0*18446744073709551616^0=z 0;simp [val]
        rw [hv,h10] at hs
        simp only [Int.pow_one] at hs
        have hm:0<=val (segW z 1 j) j:=hb2.1
        by_cases hp:0<val (segW z 1 j) j
        · exfalso;omega
        · have:val (segW z 1 j) j=0:=by omega
          rw [this] at hs;omega
      have hk1:¬ ((k:Int)=0):=by omega
      rw [e0] at hc0
      simp only [Nat.add_zero] at hc0
      have hkb:(k==0)=false:=by simp;omega
      have hki:(0:Int)<k:=by omega
      clear hc h3 h4 hv e0 hz0
      go_enter Tryz.func61,Tryz.ntmps61
      go_wp2
      go_ret
      exact ⟨rfl,rfl⟩
attribute [local irreducible] W4 NT NV
section
variable (n:Int)(nm:ByteArray)(wd pr ex le mo pa:Int)(G T J:Int)(x:Int)(k S:Nat)(w:World)
 (cD:∀ W,CQ 15 #[.int .i64 n] W (.bool true))
 (hG0:11<=G) (hG1:G<=100) (hT0:0<=T) (hT1:T<=200) (hJ0:0<=J) (hJ1:J<=11)
 (cN:∀ W,Calls Tryz.prog 66 #[A4 k] W fun r w'=>∃ g n cap,r=.returned (.slice (some ⟨g,0,none⟩) n cap)/\W.heap.size<g/\NT 4 k (.slice (some ⟨g,0,none⟩) n cap) w'/\Below W.heap.size W w')
include cD hG0 hG1 hT0 hT1 hJ0 hJ1 cN
theorem vpk2_t (R:Nat)(g dn:Bool)
  (cO:∀ W,CB 20 #[.int .i64 n] W (.tuple #[zYa n nm wd pr ex le mo pa dn,.int .i64 0]))
  (cI:∀ W,CB 89 #[zYa n nm wd pr ex le mo pa dn,DV 2 true g x k] W (.bool true))
  (cS:∀ W,CB 83 #[zYa n nm wd pr ex le mo pa dn] W (.tuple #[.int .i64 G,.int .i64 T,.int .i64 J]))
  (cL1:∀ W v,NV 1 1 v W->CB 90 #[Z4,v,.int .i64 (T+G)] W (A4 S))
  (cL2:∀ W v,NV 1 30 v W->CB 90 #[A4 S,v,.int .i64 (T+G-5)] W (A4 R)) :
  CB 43 #[.int .i64 n,DV 2 true g x k] w (.tuple #[A4 R,.int .i64 0]):=by
 have hsm:=zAa
 unfold DV A4 Z4 at *
 go_enter Tryz.func43,Tryz.ntmps43
 go_wp2_with (first
  | (go_at_call 15;refine (cD _).mono ?_;rintro r w0 ⟨rfl,rfl⟩)
  | (go_at_call 20;refine wk w (cO _) ?_;intro w1 hb1 _ _ _ _ hA1 _;obtain ⟨_,_⟩:=zf hb1 (w.heap.size+1);clear hb1)
  | (go_at_call 89;refine wk w (cI _) ?_;intro w2 hb2 _ _ _ _ hA2 _;obtain ⟨_,_,_,_⟩:=zg hb2 (w.heap.size+1) w1.heap.size;clear hb2)
  | (go_at_call 83;refine wk w (cS _) ?_;intro w3 hb3 _ _ _ _ hA3 _;obtain ⟨_,_,_,_⟩:=zg hb3 (w.heap.size+1) w1.heap.size;clear hb3;have q0:w.heap.size<w3.heap.size+1+1:=(by omega);have q1:w.heap.size+1<w3.heap.size+1+1:=(by omega);have q2:w1.heap.size<w3.heap.size+1+1:=(by omega);have q3:w3.heap.size<w3.heap.size+1+1:=(by omega))
  | (go_at_call 90;refine (cL1 _ _ (zXa (by simp) (by rfl) (by decide))).mono ?_;rintro r w4 ⟨rfl,hb4⟩;clear cL1;obtain ⟨_,_,_,_,hA4,_⟩:=wz w hb4;obtain ⟨_,_,_,_,_,_⟩:=zh hb4 (w.heap.size+1) w1.heap.size w3.heap.size;clear hb4)
  | (go_at_call 66;refine (cN _).mono ?_;rintro r w5 ⟨gn,nn,cn,rfl,hg5,hn5,hb5⟩;have hgn:gn≠w3.heap.size:=(by first|omega|(simp at hg5;omega));clear hg5;obtain ⟨_,_,_,_,hA5,_⟩:=wz w hb5;obtain ⟨_,_,_,_,_,_⟩:=zh hb5 (w.heap.size+1) w1.heap.size w3.heap.size;clear hb5)
  | (go_at_call 90;refine wk w (cL2 _ _ (zXa (by simp) (by rfl) (by decide))) ?_;intro w6 hb6 _ _ _ _ hA6 _;obtain ⟨_,_,_,_,_,_⟩:=zh hb6 (w.heap.size+1) w1.heap.size w3.heap.size;clear hb6))
 exact bodyPost_ret (v:=.tuple #[A4 R,.int .i64 0]) (by simp only [results,Tryz.results43];go_simp) rfl ⟨rfl,bgo⟩
theorem zG1 (R:Nat)(R1 R2 p:Nat)
  (cO:∀ W,CB 20 #[.int .i64 n] W (.tuple #[zYa n nm wd pr ex le mo pa true,.int .i64 0]))
  (cI:∀ W,CB 89 #[zYa n nm wd pr ex le mo pa true,DV 3 true true x k] W (.bool true))
  (cS:∀ W,CB 83 #[zYa n nm wd pr ex le mo pa true] W (.tuple #[.int .i64 G,.int .i64 T,.int .i64 J]))
  (cL1:∀ W v,NV 1 1 v W->CB 90 #[Z4,v,.int .i64 (T+G)] W (A4 S))
  (cL3:∀ W v,NV 1 31 v W->CB 90 #[A4 S,v,.int .i64 (T+G-5)] W (A4 R1))
  (cL4:∀ W v,NV 1 1 v W->CB 90 #[A4 R1,v,.int .i64 (T+G-6)] W (A4 R2))
  (hp:p<2^256) (cP:∀ W,CB 91 #[A4 k,.int .i64 J] W (.tuple #[A4 p,.int .i64 0]))
  (cL5:∀ W v,NV 4 p v W->CB 90 #[A4 R2,v,.int .i64 0] W (A4 R)) :
  CB 43 #[.int .i64 n,DV 3 true true x k] w (.tuple #[A4 R,.int .i64 0]):=by
 have hsm:=zAa
 unfold DV A4 Z4 at *
 go_enter Tryz.func43,Tryz.ntmps43
 go_wp2_with (first
  | (go_at_call 15;refine (cD _).mono ?_;rintro r w0 ⟨rfl,rfl⟩)
  | (go_at_call 20;refine wk w (cO _) ?_;intro w1 hb1 _ _ _ _ hA1 _;obtain ⟨_,_⟩:=zf hb1 (w.heap.size+1);clear hb1)
  | (go_at_call 89;refine wk w (cI _) ?_;intro w2 hb2 _ _ _ _ hA2 _;obtain ⟨_,_,_,_⟩:=zg hb2 (w.heap.size+1) w1.heap.size;clear hb2)
  | (go_at_call 83;refine wk w (cS _) ?_;intro w3 hb3 _ _ _ _ hA3 _;obtain ⟨_,_,_,_⟩:=zg hb3 (w.heap.size+1) w1.heap.size;clear hb3;have q0:w.heap.size<w3.heap.size+1+1:=(by omega);have q1:w.heap.size+1<w3.heap.size+1+1:=(by omega);have q2:w1.heap.size<w3.heap.size+1+1:=(by omega);have q3:w3.heap.size<w3.heap.size+1+1:=(by omega))
  | (go_at_call 90;refine (cL1 _ _ (zXa (by simp) (by rfl) (by decide))).mono ?_;rintro r w4 ⟨rfl,hb4⟩;clear cL1;obtain ⟨_,_,_,_,hA4,_⟩:=wz w hb4;obtain ⟨_,_,_,_,_,_⟩:=zh hb4 (w.heap.size+1) w1.heap.size w3.heap.size;clear hb4)
  | (go_at_call 66;refine (cN _).mono ?_;rintro r w5 ⟨gn,nn,cn,rfl,hg5,hn5,hb5⟩;have hgn:gn≠w3.heap.size:=(by first|omega|(simp at hg5;omega));clear hg5;obtain ⟨_,_,_,_,hA5,_⟩:=wz w hb5;obtain ⟨_,_,_,_,_,_⟩:=zh hb5 (w.heap.size+1) w1.heap.size w3.heap.size;clear hb5)
  | (go_at_call 90;refine (cL3 _ _ (zXa (by simp) (by rfl) (by decide))).mono ?_;rintro r w6 ⟨rfl,hb6⟩;clear cL3;obtain ⟨_,_,_,_,hA6,_⟩:=wz w hb6;obtain ⟨_,_,_,_,_,_⟩:=zh hb6 (w.heap.size+1) w1.heap.size w3.heap.size;clear hb6)
  | (go_at_call 90;refine (cL4 _ _ (zXa (by simp) (by rfl) (by decide))).mono ?_;rintro r w7 ⟨rfl,hb7⟩;clear cL4;obtain ⟨_,_,_,_,hA7,_⟩:=wz w hb7;obtain ⟨_,_,_,_,_,_⟩:=zh hb7 (w.heap.size+1) w1.heap.size w3.heap.size;clear hb7)
  | (go_at_call 91;refine wk w (cP _) ?_;intro w8 hb8 _ _ _ _ hA8 _;obtain ⟨_,_,_,_,_,_⟩:=zh hb8 (w.heap.size+1) w1.heap.size w3.heap.size;clear hb8)
  | (go_at_call 90;refine wk w (cL5 _ _ (zSb hp (by simp) (by go_simp) (by go_simp) (by go_simp) (by go_simp))) ?_;intro w9 hb9 _ _ _ _ hA9 _;obtain ⟨_,_,_,_,_,_⟩:=zh hb9 (w.heap.size+1) w1.heap.size w3.heap.size;clear hb9))
 exact bodyPost_ret (v:=.tuple #[A4 R,.int .i64 0]) (by simp only [results,Tryz.results43];go_simp) rfl ⟨rfl,bgo⟩
theorem zH1 (R:Nat)(R1 R2:Nat)
  (cO:∀ W,CB 20 #[.int .i64 n] W (.tuple #[zYa n nm wd pr ex le mo pa false,.int .i64 0]))
  (cI:∀ W,CB 89 #[zYa n nm wd pr ex le mo pa false,DV 3 true true x k] W (.bool true))
  (cS:∀ W,CB 83 #[zYa n nm wd pr ex le mo pa false] W (.tuple #[.int .i64 G,.int .i64 T,.int .i64 J]))
  (cL1:∀ W v,NV 1 1 v W->CB 90 #[Z4,v,.int .i64 (T+G)] W (A4 S))
  (cL3:∀ W v,NV 1 31 v W->CB 90 #[A4 S,v,.int .i64 (T+G-5)] W (A4 R1))
  (cL4:∀ W v,NV 1 1 v W->CB 90 #[A4 R1,v,.int .i64 (T+G-6)] W (A4 R2))
  (cL5:∀ W v,NV 4 k v W->CB 90 #[A4 R2,v,.int .i64 0] W (A4 R)) :
  CB 43 #[.int .i64 n,DV 3 true true x k] w (.tuple #[A4 R,.int .i64 0]):=by
 have hsm:=zAa
 unfold DV A4 Z4 at *
 go_enter Tryz.func43,Tryz.ntmps43
 go_wp2_with (first
  | (go_at_call 15;refine (cD _).mono ?_;rintro r w0 ⟨rfl,rfl⟩)
  | (go_at_call 20;refine wk w (cO _) ?_;intro w1 hb1 _ _ _ _ hA1 _;obtain ⟨_,_⟩:=zf hb1 (w.heap.size+1);clear hb1)
  | (go_at_call 89;refine wk w (cI _) ?_;intro w2 hb2 _ _ _ _ hA2 _;obtain ⟨_,_,_,_⟩:=zg hb2 (w.heap.size+1) w1.heap.size;clear hb2)
  | (go_at_call 83;refine wk w (cS _) ?_;intro w3 hb3 _ _ _ _ hA3 _;obtain ⟨_,_,_,_⟩:=zg hb3 (w.heap.size+1) w1.heap.size;clear hb3;have q0:w.heap.size<w3.heap.size+1+1:=(by omega);have q1:w.heap.size+1<w3.heap.size+1+1:=(by omega);have q2:w1.heap.size<w3.heap.size+1+1:=(by omega);have q3:w3.heap.size<w3.heap.size+1+1:=(by omega))
  | (go_at_call 90;refine (cL1 _ _ (zXa (by simp) (by rfl) (by decide))).mono ?_;rintro r w4 ⟨rfl,hb4⟩;clear cL1;obtain ⟨_,_,_,_,hA4,_⟩:=wz w hb4;obtain ⟨_,_,_,_,_,_⟩:=zh hb4 (w.heap.size+1) w1.heap.size w3.heap.size;clear hb4)
  | (go_at_call 66;refine (cN _).mono ?_;rintro r w5 ⟨gn,nn,cn,rfl,hg5,hn5,hb5⟩;have hgn:gn≠w3.heap.size:=(by first|omega|(simp at hg5;omega));clear hg5;obtain ⟨_,_,_,_,hA5,_⟩:=wz w hb5;obtain ⟨_,_,_,_,_,_⟩:=zh hb5 (w.heap.size+1) w1.heap.size w3.heap.size;clear hb5)
  | (go_at_call 90;refine (cL3 _ _ (zXa (by simp) (by rfl) (by decide))).mono ?_;rintro r w6 ⟨rfl,hb6⟩;clear cL3;have hn6:=((hn5.next (zEa _ _)).next hb6).upd hgn (zEb _ _ R1);obtain ⟨_,_,_,_,hA6,_⟩:=wz w hb6;obtain ⟨_,_,_,_,_,_⟩:=zh hb6 (w.heap.size+1) w1.heap.size w3.heap.size;clear hb6)
  | (go_at_call 90;refine (cL4 _ _ (zXa (by simp) (by rfl) (by decide))).mono ?_;rintro r w7 ⟨rfl,hb7⟩;clear cL4;have hn7:=((hn6.next (zEa _ _)).next hb7).upd hgn (zEb _ _ R2);obtain ⟨_,_,_,_,hA7,_⟩:=wz w hb7;obtain ⟨_,_,_,_,_,_⟩:=zh hb7 (w.heap.size+1) w1.heap.size w3.heap.size;clear hb7)
  | (go_at_call 90;refine wk w (cL5 _ _ hn7.nv) ?_;intro w9 hb9 _ _ _ _ hA9 _;obtain ⟨_,_,_,_,_,_⟩:=zh hb9 (w.heap.size+1) w1.heap.size w3.heap.size;clear hb9))
 exact bodyPost_ret (v:=.tuple #[A4 R,.int .i64 0]) (by simp only [results,Tryz.results43];go_simp) rfl ⟨rfl,bgo⟩
theorem zI1 (R:Nat)(R1 p:Nat)
  (cO:∀ W,CB 20 #[.int .i64 n] W (.tuple #[zYa n nm wd pr ex le mo pa true,.int .i64 0]))
  (cI:∀ W,CB 89 #[zYa n nm wd pr ex le mo pa true,DV 3 true false x k] W (.bool true))
  (cS:∀ W,CB 83 #[zYa n nm wd pr ex le mo pa true] W (.tuple #[.int .i64 G,.int .i64 T,.int .i64 J]))
  (cL1:∀ W v,NV 1 1 v W->CB 90 #[Z4,v,.int .i64 (T+G)] W (A4 S))
  (cL3:∀ W v,NV 1 31 v W->CB 90 #[A4 S,v,.int .i64 (T+G-5)] W (A4 R1))
  (hp:p<2^256) (cP:∀ W,CB 91 #[A4 k,.int .i64 J] W (.tuple #[A4 p,.int .i64 0]))
  (cL5:∀ W v,NV 4 p v W->CB 90 #[A4 R1,v,.int .i64 0] W (A4 R)) :
  CB 43 #[.int .i64 n,DV 3 true false x k] w (.tuple #[A4 R,.int .i64 0]):=by
 have hsm:=zAa
 unfold DV A4 Z4 at *
 go_enter Tryz.func43,Tryz.ntmps43
 go_wp2_with (first
  | (go_at_call 15;refine (cD _).mono ?_;rintro r w0 ⟨rfl,rfl⟩)
  | (go_at_call 20;refine wk w (cO _) ?_;intro w1 hb1 _ _ _ _ hA1 _;obtain ⟨_,_⟩:=zf hb1 (w.heap.size+1);clear hb1)
  | (go_at_call 89;refine wk w (cI _) ?_;intro w2 hb2 _ _ _ _ hA2 _;obtain ⟨_,_,_,_⟩:=zg hb2 (w.heap.size+1) w1.heap.size;clear hb2)
  | (go_at_call 83;refine wk w (cS _) ?_;intro w3 hb3 _ _ _ _ hA3 _;obtain ⟨_,_,_,_⟩:=zg hb3 (w.heap.size+1) w1.heap.size;clear hb3;have q0:w.heap.size<w3.heap.size+1+1:=(by omega);have q1:w.heap.size+1<w3.heap.size+1+1:=(by omega);have q2:w1.heap.size<w3.heap.size+1+1:=(by omega);have q3:w3.heap.size<w3.heap.size+1+1:=(by omega))
  | (go_at_call 90;refine (cL1 _ _ (zXa (by simp) (by rfl) (by decide))).mono ?_;rintro r w4 ⟨rfl,hb4⟩;clear cL1;obtain ⟨_,_,_,_,hA4,_⟩:=wz w hb4;obtain ⟨_,_,_,_,_,_⟩:=zh hb4 (w.heap.size+1) w1.heap.size w3.heap.size;clear hb4)
  | (go_at_call 66;refine (cN _).mono ?_;rintro r w5 ⟨gn,nn,cn,rfl,hg5,hn5,hb5⟩;have hgn:gn≠w3.heap.size:=(by first|omega|(simp at hg5;omega));clear hg5;obtain ⟨_,_,_,_,hA5,_⟩:=wz w hb5;obtain ⟨_,_,_,_,_,_⟩:=zh hb5 (w.heap.size+1) w1.heap.size w3.heap.size;clear hb5)
  | (go_at_call 90;refine (cL3 _ _ (zXa (by simp) (by rfl) (by decide))).mono ?_;rintro r w6 ⟨rfl,hb6⟩;clear cL3;obtain ⟨_,_,_,_,hA6,_⟩:=wz w hb6;obtain ⟨_,_,_,_,_,_⟩:=zh hb6 (w.heap.size+1) w1.heap.size w3.heap.size;clear hb6)
  | (go_at_call 91;refine wk w (cP _) ?_;intro w8 hb8 _ _ _ _ hA8 _;obtain ⟨_,_,_,_,_,_⟩:=zh hb8 (w.heap.size+1) w1.heap.size w3.heap.size;clear hb8)
  | (go_at_call 90;refine wk w (cL5 _ _ (zSb hp (by simp) (by go_simp) (by go_simp) (by go_simp) (by go_simp))) ?_;intro w9 hb9 _ _ _ _ hA9 _;obtain ⟨_,_,_,_,_,_⟩:=zh hb9 (w.heap.size+1) w1.heap.size w3.heap.size;clear hb9))
 exact bodyPost_ret (v:=.tuple #[A4 R,.int .i64 0]) (by simp only [results,Tryz.results43];go_simp) rfl ⟨rfl,bgo⟩
theorem zJ1 (R:Nat)(R1:Nat)
  (cO:∀ W,CB 20 #[.int .i64 n] W (.tuple #[zYa n nm wd pr ex le mo pa false,.int .i64 0]))
  (cI:∀ W,CB 89 #[zYa n nm wd pr ex le mo pa false,DV 3 true false x k] W (.bool true))
  (cS:∀ W,CB 83 #[zYa n nm wd pr ex le mo pa false] W (.tuple #[.int .i64 G,.int .i64 T,.int .i64 J]))
  (cL1:∀ W v,NV 1 1 v W->CB 90 #[Z4,v,.int .i64 (T+G)] W (A4 S))
  (cL3:∀ W v,NV 1 31 v W->CB 90 #[A4 S,v,.int .i64 (T+G-5)] W (A4 R1))
  (cL5:∀ W v,NV 4 k v W->CB 90 #[A4 R1,v,.int .i64 0] W (A4 R)) :
  CB 43 #[.int .i64 n,DV 3 true false x k] w (.tuple #[A4 R,.int .i64 0]):=by
 have hsm:=zAa
 unfold DV A4 Z4 at *
 go_enter Tryz.func43,Tryz.ntmps43
 go_wp2_with (first
  | (go_at_call 15;refine (cD _).mono ?_;rintro r w0 ⟨rfl,rfl⟩)
  | (go_at_call 20;refine wk w (cO _) ?_;intro w1 hb1 _ _ _ _ hA1 _;obtain ⟨_,_⟩:=zf hb1 (w.heap.size+1);clear hb1)
  | (go_at_call 89;refine wk w (cI _) ?_;intro w2 hb2 _ _ _ _ hA2 _;obtain ⟨_,_,_,_⟩:=zg hb2 (w.heap.size+1) w1.heap.size;clear hb2)
  | (go_at_call 83;refine wk w (cS _) ?_;intro w3 hb3 _ _ _ _ hA3 _;obtain ⟨_,_,_,_⟩:=zg hb3 (w.heap.size+1) w1.heap.size;clear hb3;have q0:w.heap.size<w3.heap.size+1+1:=(by omega);have q1:w.heap.size+1<w3.heap.size+1+1:=(by omega);have q2:w1.heap.size<w3.heap.size+1+1:=(by omega);have q3:w3.heap.size<w3.heap.size+1+1:=(by omega))
  | (go_at_call 90;refine (cL1 _ _ (zXa (by simp) (by rfl) (by decide))).mono ?_;rintro r w4 ⟨rfl,hb4⟩;clear cL1;obtain ⟨_,_,_,_,hA4,_⟩:=wz w hb4;obtain ⟨_,_,_,_,_,_⟩:=zh hb4 (w.heap.size+1) w1.heap.size w3.heap.size;clear hb4)
  | (go_at_call 66;refine (cN _).mono ?_;rintro r w5 ⟨gn,nn,cn,rfl,hg5,hn5,hb5⟩;have hgn:gn≠w3.heap.size:=(by first|omega|(simp at hg5;omega));clear hg5;obtain ⟨_,_,_,_,hA5,_⟩:=wz w hb5;obtain ⟨_,_,_,_,_,_⟩:=zh hb5 (w.heap.size+1) w1.heap.size w3.heap.size;clear hb5)
  | (go_at_call 90;refine (cL3 _ _ (zXa (by simp) (by rfl) (by decide))).mono ?_;rintro r w6 ⟨rfl,hb6⟩;clear cL3;have hn6:=((hn5.next (zEa _ _)).next hb6).upd hgn (zEb _ _ R1);obtain ⟨_,_,_,_,hA6,_⟩:=wz w hb6;obtain ⟨_,_,_,_,_,_⟩:=zh hb6 (w.heap.size+1) w1.heap.size w3.heap.size;clear hb6)
  | (go_at_call 90;refine wk w (cL5 _ _ hn6.nv) ?_;intro w9 hb9 _ _ _ _ hA9 _;obtain ⟨_,_,_,_,_,_⟩:=zh hb9 (w.heap.size+1) w1.heap.size w3.heap.size;clear hb9))
 exact bodyPost_ret (v:=.tuple #[A4 R,.int .i64 0]) (by simp only [results,Tryz.results43];go_simp) rfl ⟨rfl,bgo⟩
theorem vpk2_f (R:Nat)(g dn:Bool)
  (cO:∀ W,CB 20 #[.int .i64 n] W (.tuple #[zYa n nm wd pr ex le mo pa dn,.int .i64 0]))
  (cI:∀ W,CB 89 #[zYa n nm wd pr ex le mo pa dn,DV 2 false g x k] W (.bool true))
  (cS:∀ W,CB 83 #[zYa n nm wd pr ex le mo pa dn] W (.tuple #[.int .i64 G,.int .i64 T,.int .i64 J]))
  (cL2:∀ W v,NV 1 30 v W->CB 90 #[Z4,v,.int .i64 (T+G-5)] W (A4 R)) :
  CB 43 #[.int .i64 n,DV 2 false g x k] w (.tuple #[A4 R,.int .i64 0]):=by
 have hsm:=zAa
 unfold DV A4 Z4 at *
 go_enter Tryz.func43,Tryz.ntmps43
 go_wp2_with (first
  | (go_at_call 15;refine (cD _).mono ?_;rintro r w0 ⟨rfl,rfl⟩)
  | (go_at_call 20;refine wk w (cO _) ?_;intro w1 hb1 _ _ _ _ hA1 _;obtain ⟨_,_⟩:=zf hb1 (w.heap.size+1);clear hb1)
  | (go_at_call 89;refine wk w (cI _) ?_;intro w2 hb2 _ _ _ _ hA2 _;obtain ⟨_,_,_,_⟩:=zg hb2 (w.heap.size+1) w1.heap.size;clear hb2)
  | (go_at_call 83;refine wk w (cS _) ?_;intro w3 hb3 _ _ _ _ hA3 _;obtain ⟨_,_,_,_⟩:=zg hb3 (w.heap.size+1) w1.heap.size;clear hb3;have q0:w.heap.size<w3.heap.size+1+1:=(by omega);have q1:w.heap.size+1<w3.heap.size+1+1:=(by omega);have q2:w1.heap.size<w3.heap.size+1+1:=(by omega);have q3:w3.heap.size<w3.heap.size+1+1:=(by omega))
  | (go_at_call 66;refine (cN _).mono ?_;rintro r w5 ⟨gn,nn,cn,rfl,hg5,hn5,hb5⟩;have hgn:gn≠w3.heap.size:=(by first|omega|(simp at hg5;omega));clear hg5;obtain ⟨_,_,_,_,hA5,_⟩:=wz w hb5;obtain ⟨_,_,_,_,_,_⟩:=zh hb5 (w.heap.size+1) w1.heap.size w3.heap.size;clear hb5)
  | (go_at_call 90;refine wk w (cL2 _ _ (zXa (by simp) (by rfl) (by decide))) ?_;intro w6 hb6 _ _ _ _ hA6 _;obtain ⟨_,_,_,_,_,_⟩:=zh hb6 (w.heap.size+1) w1.heap.size w3.heap.size;clear hb6))
 exact bodyPost_ret (v:=.tuple #[A4 R,.int .i64 0]) (by simp only [results,Tryz.results43];go_simp) rfl ⟨rfl,bgo⟩
theorem zK1 (R:Nat)(R1 R2 p:Nat)
  (cO:∀ W,CB 20 #[.int .i64 n] W (.tuple #[zYa n nm wd pr ex le mo pa true,.int .i64 0]))
  (cI:∀ W,CB 89 #[zYa n nm wd pr ex le mo pa true,DV 3 false true x k] W (.bool true))
  (cS:∀ W,CB 83 #[zYa n nm wd pr ex le mo pa true] W (.tuple #[.int .i64 G,.int .i64 T,.int .i64 J]))
  (cL3:∀ W v,NV 1 31 v W->CB 90 #[Z4,v,.int .i64 (T+G-5)] W (A4 R1))
  (cL4:∀ W v,NV 1 1 v W->CB 90 #[A4 R1,v,.int .i64 (T+G-6)] W (A4 R2))
  (hp:p<2^256) (cP:∀ W,CB 91 #[A4 k,.int .i64 J] W (.tuple #[A4 p,.int .i64 0]))
  (cL5:∀ W v,NV 4 p v W->CB 90 #[A4 R2,v,.int .i64 0] W (A4 R)) :
  CB 43 #[.int .i64 n,DV 3 false true x k] w (.tuple #[A4 R,.int .i64 0]):=by
 have hsm:=zAa
 unfold DV A4 Z4 at *
 go_enter Tryz.func43,Tryz.ntmps43
 go_wp2_with (first
  | (go_at_call 15;refine (cD _).mono ?_;rintro r w0 ⟨rfl,rfl⟩)
  | (go_at_call 20;refine wk w (cO _) ?_;intro w1 hb1 _ _ _ _ hA1 _;obtain ⟨_,_⟩:=zf hb1 (w.heap.size+1);clear hb1)
  | (go_at_call 89;refine wk w (cI _) ?_;intro w2 hb2 _ _ _ _ hA2 _;obtain ⟨_,_,_,_⟩:=zg hb2 (w.heap.size+1) w1.heap.size;clear hb2)
  | (go_at_call 83;refine wk w (cS _) ?_;intro w3 hb3 _ _ _ _ hA3 _;obtain ⟨_,_,_,_⟩:=zg hb3 (w.heap.size+1) w1.heap.size;clear hb3;have q0:w.heap.size<w3.heap.size+1+1:=(by omega);have q1:w.heap.size+1<w3.heap.size+1+1:=(by omega);have q2:w1.heap.size<w3.heap.size+1+1:=(by omega);have q3:w3.heap.size<w3.heap.size+1+1:=(by omega))
  | (go_at_call 66;refine (cN _).mono ?_;rintro r w5 ⟨gn,nn,cn,rfl,hg5,hn5,hb5⟩;have hgn:gn≠w3.heap.size:=(by first|omega|(simp at hg5;omega));clear hg5;obtain ⟨_,_,_,_,hA5,_⟩:=wz w hb5;obtain ⟨_,_,_,_,_,_⟩:=zh hb5 (w.heap.size+1) w1.heap.size w3.heap.size;clear hb5)
  | (go_at_call 90;refine (cL3 _ _ (zXa (by simp) (by rfl) (by decide))).mono ?_;rintro r w6 ⟨rfl,hb6⟩;clear cL3;obtain ⟨_,_,_,_,hA6,_⟩:=wz w hb6;obtain ⟨_,_,_,_,_,_⟩:=zh hb6 (w.heap.size+1) w1.heap.size w3.heap.size;clear hb6)
  | (go_at_call 90;refine (cL4 _ _ (zXa (by simp) (by rfl) (by decide))).mono ?_;rintro r w7 ⟨rfl,hb7⟩;clear cL4;obtain ⟨_,_,_,_,hA7,_⟩:=wz w hb7;obtain ⟨_,_,_,_,_,_⟩:=zh hb7 (w.heap.size+1) w1.heap.size w3.heap.size;clear hb7)
  | (go_at_call 91;refine wk w (cP _) ?_;intro w8 hb8 _ _ _ _ hA8 _;obtain ⟨_,_,_,_,_,_⟩:=zh hb8 (w.heap.size+1) w1.heap.size w3.heap.size;clear hb8)
  | (go_at_call 90;refine wk w (cL5 _ _ (zSb hp (by simp) (by go_simp) (by go_simp) (by go_simp) (by go_simp))) ?_;intro w9 hb9 _ _ _ _ hA9 _;obtain ⟨_,_,_,_,_,_⟩:=zh hb9 (w.heap.size+1) w1.heap.size w3.heap.size;clear hb9))
 exact bodyPost_ret (v:=.tuple #[A4 R,.int .i64 0]) (by simp only [results,Tryz.results43];go_simp) rfl ⟨rfl,bgo⟩
theorem zL1 (R:Nat)(R1 R2:Nat)
  (cO:∀ W,CB 20 #[.int .i64 n] W (.tuple #[zYa n nm wd pr ex le mo pa false,.int .i64 0]))
  (cI:∀ W,CB 89 #[zYa n nm wd pr ex le mo pa false,DV 3 false true x k] W (.bool true))
  (cS:∀ W,CB 83 #[zYa n nm wd pr ex le mo pa false] W (.tuple #[.int .i64 G,.int .i64 T,.int .i64 J]))
  (cL3:∀ W v,NV 1 31 v W->CB 90 #[Z4,v,.int .i64 (T+G-5)] W (A4 R1))
  (cL4:∀ W v,NV 1 1 v W->CB 90 #[A4 R1,v,.int .i64 (T+G-6)] W (A4 R2))
  (cL5:∀ W v,NV 4 k v W->CB 90 #[A4 R2,v,.int .i64 0] W (A4 R)) :
  CB 43 #[.int .i64 n,DV 3 false true x k] w (.tuple #[A4 R,.int .i64 0]):=by
 have hsm:=zAa
 unfold DV A4 Z4 at *
 go_enter Tryz.func43,Tryz.ntmps43
 go_wp2_with (first
  | (go_at_call 15;refine (cD _).mono ?_;rintro r w0 ⟨rfl,rfl⟩)
  | (go_at_call 20;refine wk w (cO _) ?_;intro w1 hb1 _ _ _ _ hA1 _;obtain ⟨_,_⟩:=zf hb1 (w.heap.size+1);clear hb1)
  | (go_at_call 89;refine wk w (cI _) ?_;intro w2 hb2 _ _ _ _ hA2 _;obtain ⟨_,_,_,_⟩:=zg hb2 (w.heap.size+1) w1.heap.size;clear hb2)
  | (go_at_call 83;refine wk w (cS _) ?_;intro w3 hb3 _ _ _ _ hA3 _;obtain ⟨_,_,_,_⟩:=zg hb3 (w.heap.size+1) w1.heap.size;clear hb3;have q0:w.heap.size<w3.heap.size+1+1:=(by omega);have q1:w.heap.size+1<w3.heap.size+1+1:=(by omega);have q2:w1.heap.size<w3.heap.size+1+1:=(by omega);have q3:w3.heap.size<w3.heap.size+1+1:=(by omega))
  | (go_at_call 66;refine (cN _).mono ?_;rintro r w5 ⟨gn,nn,cn,rfl,hg5,hn5,hb5⟩;have hgn:gn≠w3.heap.size:=(by first|omega|(simp at hg5;omega));clear hg5;obtain ⟨_,_,_,_,hA5,_⟩:=wz w hb5;obtain ⟨_,_,_,_,_,_⟩:=zh hb5 (w.heap.size+1) w1.heap.size w3.heap.size;clear hb5)
  | (go_at_call 90;refine (cL3 _ _ (zXa (by simp) (by rfl) (by decide))).mono ?_;rintro r w6 ⟨rfl,hb6⟩;clear cL3;have hn6:=((hn5.next (zEa _ _)).next hb6).upd hgn (zEb _ _ R1);obtain ⟨_,_,_,_,hA6,_⟩:=wz w hb6;obtain ⟨_,_,_,_,_,_⟩:=zh hb6 (w.heap.size+1) w1.heap.size w3.heap.size;clear hb6)
  | (go_at_call 90;refine (cL4 _ _ (zXa (by simp) (by rfl) (by decide))).mono ?_;rintro r w7 ⟨rfl,hb7⟩;clear cL4;have hn7:=((hn6.next (zEa _ _)).next hb7).upd hgn (zEb _ _ R2);obtain ⟨_,_,_,_,hA7,_⟩:=wz w hb7;obtain ⟨_,_,_,_,_,_⟩:=zh hb7 (w.heap.size+1) w1.heap.size w3.heap.size;clear hb7)
  | (go_at_call 90;refine wk w (cL5 _ _ hn7.nv) ?_;intro w9 hb9 _ _ _ _ hA9 _;obtain ⟨_,_,_,_,_,_⟩:=zh hb9 (w.heap.size+1) w1.heap.size w3.heap.size;clear hb9))
 exact bodyPost_ret (v:=.tuple #[A4 R,.int .i64 0]) (by simp only [results,Tryz.results43];go_simp) rfl ⟨rfl,bgo⟩
theorem zM1 (R:Nat)(R1 p:Nat)
  (cO:∀ W,CB 20 #[.int .i64 n] W (.tuple #[zYa n nm wd pr ex le mo pa true,.int .i64 0]))
  (cI:∀ W,CB 89 #[zYa n nm wd pr ex le mo pa true,DV 3 false false x k] W (.bool true))
  (cS:∀ W,CB 83 #[zYa n nm wd pr ex le mo pa true] W (.tuple #[.int .i64 G,.int .i64 T,.int .i64 J]))
  (cL3:∀ W v,NV 1 31 v W->CB 90 #[Z4,v,.int .i64 (T+G-5)] W (A4 R1))
  (hp:p<2^256) (cP:∀ W,CB 91 #[A4 k,.int .i64 J] W (.tuple #[A4 p,.int .i64 0]))
  (cL5:∀ W v,NV 4 p v W->CB 90 #[A4 R1,v,.int .i64 0] W (A4 R)) :
  CB 43 #[.int .i64 n,DV 3 false false x k] w (.tuple #[A4 R,.int .i64 0]):=by
 have hsm:=zAa
 unfold DV A4 Z4 at *
 go_enter Tryz.func43,Tryz.ntmps43
 go_wp2_with (first
  | (go_at_call 15;refine (cD _).mono ?_;rintro r w0 ⟨rfl,rfl⟩)
  | (go_at_call 20;refine wk w (cO _) ?_;intro w1 hb1 _ _ _ _ hA1 _;obtain ⟨_,_⟩:=zf hb1 (w.heap.size+1);clear hb1)
  | (go_at_call 89;refine wk w (cI _) ?_;intro w2 hb2 _ _ _ _ hA2 _;obtain ⟨_,_,_,_⟩:=zg hb2 (w.heap.size+1) w1.heap.size;clear hb2)
  | (go_at_call 83;refine wk w (cS _) ?_;intro w3 hb3 _ _ _ _ hA3 _;obtain ⟨_,_,_,_⟩:=zg hb3 (w.heap.size+1) w1.heap.size;clear hb3;have q0:w.heap.size<w3.heap.size+1+1:=(by omega);have q1:w.heap.size+1<w3.heap.size+1+1:=(by omega);have q2:w1.heap.size<w3.heap.size+1+1:=(by omega);have q3:w3.heap.size<w3.heap.size+1+1:=(by omega))
  | (go_at_call 66;refine (cN _).mono ?_;rintro r w5 ⟨gn,nn,cn,rfl,hg5,hn5,hb5⟩;have hgn:gn≠w3.heap.size:=(by first|omega|(simp at hg5;omega));clear hg5;obtain ⟨_,_,_,_,hA5,_⟩:=wz w hb5;obtain ⟨_,_,_,_,_,_⟩:=zh hb5 (w.heap.size+1) w1.heap.size w3.heap.size;clear hb5)
  | (go_at_call 90;refine (cL3 _ _ (zXa (by simp) (by rfl) (by decide))).mono ?_;rintro r w6 ⟨rfl,hb6⟩;clear cL3;obtain ⟨_,_,_,_,hA6,_⟩:=wz w hb6;obtain ⟨_,_,_,_,_,_⟩:=zh hb6 (w.heap.size+1) w1.heap.size w3.heap.size;clear hb6)
  | (go_at_call 91;refine wk w (cP _) ?_;intro w8 hb8 _ _ _ _ hA8 _;obtain ⟨_,_,_,_,_,_⟩:=zh hb8 (w.heap.size+1) w1.heap.size w3.heap.size;clear hb8)
  | (go_at_call 90;refine wk w (cL5 _ _ (zSb hp (by simp) (by go_simp) (by go_simp) (by go_simp) (by go_simp))) ?_;intro w9 hb9 _ _ _ _ hA9 _;obtain ⟨_,_,_,_,_,_⟩:=zh hb9 (w.heap.size+1) w1.heap.size w3.heap.size;clear hb9))
 exact bodyPost_ret (v:=.tuple #[A4 R,.int .i64 0]) (by simp only [results,Tryz.results43];go_simp) rfl ⟨rfl,bgo⟩
theorem zN1 (R:Nat)(R1:Nat)
  (cO:∀ W,CB 20 #[.int .i64 n] W (.tuple #[zYa n nm wd pr ex le mo pa false,.int .i64 0]))
  (cI:∀ W,CB 89 #[zYa n nm wd pr ex le mo pa false,DV 3 false false x k] W (.bool true))
  (cS:∀ W,CB 83 #[zYa n nm wd pr ex le mo pa false] W (.tuple #[.int .i64 G,.int .i64 T,.int .i64 J]))
  (cL3:∀ W v,NV 1 31 v W->CB 90 #[Z4,v,.int .i64 (T+G-5)] W (A4 R1))
  (cL5:∀ W v,NV 4 k v W->CB 90 #[A4 R1,v,.int .i64 0] W (A4 R)) :
  CB 43 #[.int .i64 n,DV 3 false false x k] w (.tuple #[A4 R,.int .i64 0]):=by
 have hsm:=zAa
 unfold DV A4 Z4 at *
 go_enter Tryz.func43,Tryz.ntmps43
 go_wp2_with (first
  | (go_at_call 15;refine (cD _).mono ?_;rintro r w0 ⟨rfl,rfl⟩)
  | (go_at_call 20;refine wk w (cO _) ?_;intro w1 hb1 _ _ _ _ hA1 _;obtain ⟨_,_⟩:=zf hb1 (w.heap.size+1);clear hb1)
  | (go_at_call 89;refine wk w (cI _) ?_;intro w2 hb2 _ _ _ _ hA2 _;obtain ⟨_,_,_,_⟩:=zg hb2 (w.heap.size+1) w1.heap.size;clear hb2)
  | (go_at_call 83;refine wk w (cS _) ?_;intro w3 hb3 _ _ _ _ hA3 _;obtain ⟨_,_,_,_⟩:=zg hb3 (w.heap.size+1) w1.heap.size;clear hb3;have q0:w.heap.size<w3.heap.size+1+1:=(by omega);have q1:w.heap.size+1<w3.heap.size+1+1:=(by omega);have q2:w1.heap.size<w3.heap.size+1+1:=(by omega);have q3:w3.heap.size<w3.heap.size+1+1:=(by omega))
  | (go_at_call 66;refine (cN _).mono ?_;rintro r w5 ⟨gn,nn,cn,rfl,hg5,hn5,hb5⟩;have hgn:gn≠w3.heap.size:=(by first|omega|(simp at hg5;omega));clear hg5;obtain ⟨_,_,_,_,hA5,_⟩:=wz w hb5;obtain ⟨_,_,_,_,_,_⟩:=zh hb5 (w.heap.size+1) w1.heap.size w3.heap.size;clear hb5)
  | (go_at_call 90;refine (cL3 _ _ (zXa (by simp) (by rfl) (by decide))).mono ?_;rintro r w6 ⟨rfl,hb6⟩;clear cL3;have hn6:=((hn5.next (zEa _ _)).next hb6).upd hgn (zEb _ _ R1);obtain ⟨_,_,_,_,hA6,_⟩:=wz w hb6;obtain ⟨_,_,_,_,_,_⟩:=zh hb6 (w.heap.size+1) w1.heap.size w3.heap.size;clear hb6)
  | (go_at_call 90;refine wk w (cL5 _ _ hn6.nv) ?_;intro w9 hb9 _ _ _ _ hA9 _;obtain ⟨_,_,_,_,_,_⟩:=zh hb9 (w.heap.size+1) w1.heap.size w3.heap.size;clear hb9))
 exact bodyPost_ret (v:=.tuple #[A4 R,.int .i64 0]) (by simp only [results,Tryz.results43];go_simp) rfl ⟨rfl,bgo⟩
end
end
end Go.Proofs.YtahfkpjhlbiamaaGreatDoor
