/-
  Texts that the proof leans on.
-/
import Derived.Test.YtgknbdehlmlipaaGreatDoorL2
import Derived.Test.YtgknbdehlmlipaaGreatDoorL20
import Derived.Test.YtgknbdehlmlipaaGreatDoorL4
import Derived.Test.YtgknbdehlmlipaaGreatDoorL21
import Derived.Test.YtgknbdehlmlipaaGreatDoorL10
import Derived.Test.YtgknbdehlmlipaaGreatDoorL17
import Derived.Test.YtgknbdehlmlipaaGreatDoorL6
import Derived.Test.YtgknbdehlmlipaaGreatDoorL18
import Derived.BigQuiet
set_option maxHeartbeats 8000000
set_option linter.unusedSectionVars false
set_option linter.unusedVariables false
set_option linter.unusedSimpArgs false
set_option maxRecDepth 20000
namespace Go.Proofs.YtgknbdehlmlipaaGreatDoor
open Go.RowKit
def W4 (A:Nat)(i:Nat):Int:=((A/2^(64*i)%18446744073709551616:Nat):Int)
abbrev A4 (A:Nat):Value:=.agg #[.int .u64 (W4 A 0),.int .u64 (W4 A 1),.int .u64 (W4 A 2),.int .u64 (W4 A 3)]
theorem W4_words (A:Nat):Words (W4 A):=fun i=>by
 unfold W4
 have:=Nat.mod_lt (A/2^(64*i)) (show 0<18446744073709551616 by decide)
 omega
theorem p64n (n:Nat):(18446744073709551616:Int)^n=((2^(64*n):Nat):Int):=by
 rw [Nat.pow_mul]
 simp
theorem W4_val (A:Nat):∀ n,val (W4 A) n=((A%2^(64*n):Nat):Int)
 | 0=>by simp [val,Nat.mod_one]
 | n+1=>by
  show val (W4 A) n+W4 A n*18446744073709551616^n=_
  have e:A%2^(64*(n+1))=A%2^(64*n)+2^(64*n)*(A/2^(64*n)%18446744073709551616):=by
   rw [show 64*(n+1)=64*n+64 by omega,Nat.pow_add]
   exact Nat.mod_mul
  rw [W4_val A n,p64n,e]
  unfold W4
  rw [Int.natCast_add,Int.natCast_mul,Int.mul_comm]
theorem W4_val4 {A:Nat}(h:A<2^256):val (W4 A) 4=A:=by
 rw [W4_val,Nat.mod_eq_of_lt h]
theorem arr_eq {x y:Nat->Int}(hx:Words x)(hy:Words y)(h:val x 4=val y 4):arrOf x 4=arrOf y 4 :=
 arrOf_congr (val_inj hx hy 4 h)
theorem arr_A4 {x:Nat->Int}(hx:Words x){A:Nat}(h:val x 4=((A%2^256:Nat):Int)):Value.agg (arrOf x 4)=A4 A:=by
 have e:arrOf x 4=arrOf (W4 A) 4:=arr_eq hx (W4_words A) (by rw [h,W4_val])
 rw [e];rfl
theorem A4_mod (A:Nat):A4 (A%2^256)=A4 A:=by
 have:=arr_A4 (W4_words (A%2^256)) (A:=A) (by rw [W4_val,Nat.mod_mod])
 exact this
theorem A4_inj {A B:Nat}(hA:A<2^256)(hB:B<2^256)(h:∀ i,i<4->W4 A i=W4 B i):A=B:=by
 have:=val_congr (x:=W4 A) (y:=W4 B) 4 h
 rw [W4_val4 hA,W4_val4 hB] at this
 omega
theorem words_A4 {x:Nat->Int}(hx:Words x):∃ A,A<2^256/\Value.agg (arrOf x 4)=A4 A/\val x 4=A:=by
 have hb:=val_bd hx 4
 have e:(18446744073709551616:Int)^4=((2^256:Nat):Int):=by decide
 rw [e] at hb
 obtain ⟨A,hA⟩:=Int.eq_ofNat_of_zero_le hb.1
 have hlt:A<2^256:=by rw [hA] at hb;exact Int.ofNat_lt.1 hb.2
 exact ⟨A,hlt,arr_A4 hx (by rw [Nat.mod_eq_of_lt hlt];exact hA),hA⟩
theorem add4 (A B:Nat)(w:World)(hA:A<2^256)(hB:B<2^256) :
  CB 86 #[A4 A,A4 B] w (.tuple #[A4 (A+B),.int .u64 (((A+B)/2^256:Nat):Int)]):=by
 refine (limAdd4 (W4 A) (W4 B) w (W4_words A) (W4_words B)).mono ?_
 rintro e w' ⟨rfl,hb⟩
 refine ⟨?_,hb⟩
 have hs:=sum_val (x:=W4 A) (y:=W4 B) 4
 have hc:=carryW_01 (W4_words A) (W4_words B) 4
 have hv:=val_bd (sumW_words (W4 A) (W4 B)) 4
 rw [W4_val4 hA,W4_val4 hB] at hs
 have e4:(18446744073709551616:Int)^4=115792089237316195423570985008687907853269984665640564039457584007913129639936:=by decide
 have e4n:(2:Nat)^256=115792089237316195423570985008687907853269984665640564039457584007913129639936:=by decide
 rw [e4] at hs hv
 rw [e4n] at hA hB ⊢
 rw [arr_A4 (sumW_words _ _) (A:=A+B) (by rw [e4n];omega)]
 have:carryW (W4 A) (W4 B) 4=(((A+B)/115792089237316195423570985008687907853269984665640564039457584007913129639936:Nat):Int):=by omega
 rw [this]
theorem sub4 (A B:Nat)(w:World)(hA:A<2^256)(hB:B<2^256) :
  CB 85 #[A4 A,A4 B] w (.tuple #[A4 (A+2^256-B),.int .u64 (if A<B then 1 else 0)]):=by
 refine (limSub4 (W4 A) (W4 B) w (W4_words A) (W4_words B)).mono ?_
 rintro e w' ⟨rfl,hb⟩
 refine ⟨?_,hb⟩
 have hs:=dif_val (x:=W4 A) (y:=W4 B) (W4_words A) (W4_words B) 4
 have hc:=borW_01 (W4 A) (W4 B) 4
 have hv:=val_bd (difW_words (W4 A) (W4 B)) 4
 rw [W4_val4 hA,W4_val4 hB] at hs
 have e4:(18446744073709551616:Int)^4=115792089237316195423570985008687907853269984665640564039457584007913129639936:=by decide
 have e4n:(2:Nat)^256=115792089237316195423570985008687907853269984665640564039457584007913129639936:=by decide
 rw [e4] at hs hv
 rw [e4n] at hA hB ⊢
 rw [arr_A4 (difW_words _ _) (A:=A+115792089237316195423570985008687907853269984665640564039457584007913129639936-B) (by rw [e4n];omega)]
 have:borW (W4 A) (W4 B) 4=if A<B then 1 else 0:=by split<;>omega
 rw [this]
theorem A4_sub {A B:Nat}(h:B<=A):A4 (A+2^256-B)=A4 (A-B):=by
 rw [← A4_mod (A-B),← A4_mod (A+2^256-B),show A+2^256-B=A-B+2^256 by omega,Nat.add_mod_right]
theorem shl4 (A n:Nat)(w:World)(hA:A<2^256)(hn:n<=100000) :
  CB 150 #[A4 A,.int .i64 n] w (A4 (A*2^n)):=by
 refine (shlA4 (W4 A) n w (W4_words A) (by omega)).mono ?_
 rintro e w' ⟨rfl,hb⟩
 refine ⟨?_,hb⟩
 congr 1
 by_cases h1:n=0
 ·subst h1
  have e:shlA (W4 A) ((0:Nat):Int)=W4 A:=by funext j;unfold shlA;rw [if_pos (by omega)]
  rw [e,Nat.pow_zero,Nat.mul_one];rfl
 refine arr_A4 (shlA_words (W4_words A) _) ?_
 have hlow:=shlL_fin (W4_words A) (N:=4) (((n:Int)/64).toNat) (((n:Int)%64).toNat)
 have es:shlA (W4 A) (n:Int)=shlL (W4 A) ((n:Int)/64).toNat ((n:Int)%64).toNat:=by funext j;unfold shlA;rw [if_neg (by omega)]
 rw [es]
 obtain ⟨q,hq⟩:∃ q:Nat,((n:Int)/64).toNat=q:=⟨_,rfl⟩
 obtain ⟨r,hr⟩:∃ r:Nat,((n:Int)%64).toNat=r:=⟨_,rfl⟩
 rw [hq,hr] at hlow ⊢
 have hn:n=64*q+r:=by omega
 have hr6:r<64:=by omega
 have h4:val (shlL (W4 A) q r) 4=val (finL (lowW (W4 A) 4) q r) 4:=by
  refine val_congr 4 fun i hi=>?_
  have:=congrFun hlow i
  rw [lowW_lt hi,lowW_lt hi] at this
  exact this
 have hlw:Words (lowW (W4 A) 4):=lowW_words (W4_words A) 4
 have hz:∀ i,4<=i->lowW (W4 A) 4 i=0:=fun i hi=>lowW_ge hi
 have hF:=finL_val hlw hz q hr6
 have hvl:val (lowW (W4 A) 4) 4=A:=by
  rw [val_congr (x:=lowW (W4 A) 4) (y:=W4 A) 4 (fun i hi=>lowW_lt hi),W4_val4 hA]
 rw [hvl,← hn] at hF
 have hsp:=val_split (finL (lowW (W4 A) 4) q r) 4 (q+1)
 rw [show 4+(q+1)=4+q+1 by omega,hF] at hsp
 have hbd:=val_bd (finL_words hlw (q:=q) (r:=r)) 4
 have e4:(18446744073709551616:Int)^4=((2^256:Nat):Int):=by decide
 rw [e4] at hbd hsp
 rw [h4]
 have:(A:Int)*2^n=((A*2^n:Nat):Int):=by simp
 rw [this] at hsp
 have h5:=congrArg (·%((2^256:Nat):Int)) hsp
 simp only [Int.add_mul_emod_self_right,Int.emod_eq_of_lt hbd.1 hbd.2] at h5
 rw [← h5]
 rfl
theorem shr4 (A n:Nat)(w:World)(hA:A<2^256)(hn:n<=100000) :
  CB 149 #[A4 A,.int .i64 n] w (A4 (A/2^n)):=by
 refine (shrA4 (W4 A) n w (W4_words A) (by omega)).mono ?_
 rintro e w' ⟨rfl,hb⟩
 refine ⟨?_,hb⟩
 congr 1
 by_cases h1:n=0
 ·subst h1
  have e:shrA (W4 A) ((0:Nat):Int) 4=W4 A:=by funext j;unfold shrA;rw [if_pos (by omega)]
  rw [e,Nat.pow_zero,Nat.div_one];rfl
 refine arr_A4 (shrA_words (W4_words A) _ _) ?_
 have hlow:=shrL_fin (W4_words A) (N:=4) (((n:Int)/64).toNat) (((n:Int)%64).toNat)
 have es:shrA (W4 A) (n:Int) 4=shrL (W4 A) ((n:Int)/64).toNat ((n:Int)%64).toNat 4:=by funext j;unfold shrA;rw [if_neg (by omega)]
 rw [es]
 obtain ⟨q,hq⟩:∃ q:Nat,((n:Int)/64).toNat=q:=⟨_,rfl⟩
 obtain ⟨r,hr⟩:∃ r:Nat,((n:Int)%64).toNat=r:=⟨_,rfl⟩
 rw [hq,hr] at hlow ⊢
 have hn:n=64*q+r:=by omega
 have hr6:r<64:=by omega
 have h4:val (shrL (W4 A) q r 4) 4=val (shrW (lowW (W4 A) 4) q r) 4:=by
  refine val_congr 4 fun i hi=>?_
  have:=congrFun hlow i
  rw [lowW_lt hi] at this
  exact this
 rw [h4]
 exact (shrW_val (lowW_words (W4_words A) 4) (fun i hi=>lowW_ge hi) hr6 4 (Nat.le_refl _) (by
  rw [val_congr (x:=lowW (W4 A) 4) (y:=W4 A) 4 (fun i hi=>lowW_lt hi),W4_val4 hA])).trans (by rw [← hn,Nat.mod_eq_of_lt (Nat.lt_of_le_of_lt (Nat.div_le_self _ _) hA)])
theorem len4_le {A k:Nat}(hA:A<2^256):lenL (W4 A) 4<=(k:Int)↔A<2^k:=by
  have hv:=W4_val4 hA
  by_cases h0:0<sizeL (W4 A) 4
  · obtain ⟨L,h1,h2,h3⟩:=len_bd (W4_words A) h0
    rw [hv] at h2 h3
    rw [h1]
    have h2' : 2 ^ L ≤ A := by have : ((2 ^ L : Nat) : Int) ≤ A := by simpa using h2
                               omega
    have h3' : A < 2 ^ (L + 1) := by have : (A : Int) < ((2 ^ (L + 1) : Nat) : Int) := by simpa using h3
                                     omega
    constructor
    · intro h
      exact Nat.lt_of_lt_of_le h3' (Nat.pow_le_pow_right (by decide) (by omega))
    · intro h
      have:2^L<2^k:=Nat.lt_of_le_of_lt h2' h
      have:=(Nat.pow_lt_pow_iff_right (a:=2) (by decide)).1 this
      omega
  · have hz:sizeL (W4 A) 4=0:=by omega
    have hl:lenL (W4 A) 4=0:=by unfold lenL;rw [if_pos hz]
    have hA0:(A:Int)=0:=by
      rw [← hv,← val_bare 4,hz];rfl
    rw [hl]
    have:A=0:=by omega
    subst this
    exact ⟨fun _=>Nat.two_pow_pos k,fun _=>by omega⟩
theorem len4_zero {A:Nat}(hA:A<2^256):lenL (W4 A) 4=0↔A=0:=by
 have h:=len4_le (k:=0) hA
 have h2:0<=lenL (W4 A) 4:=by
  by_cases h0:0<sizeL (W4 A) 4
  ·obtain ⟨L,h1,_⟩:=len_bd (W4_words A) h0
   omega
  ·unfold lenL;rw [if_pos (by omega)];exact Int.le_refl _
 constructor
 ·intro h3;have:=h.1 (by omega);omega
 ·intro h3;have:=h.2 (by omega);omega
theorem lenL_low (A:Nat):lenL (lowW (W4 A) 4) 4=lenL (W4 A) 4:=by
 unfold lenL
 rw [sizeL_congr (x:=lowW (W4 A) 4) (y:=W4 A) 4 (fun i hi=>lowW_lt hi)]
 by_cases h:sizeL (W4 A) 4=0
 ·rw [if_pos h,if_pos h]
 ·have:=sizeL_le (W4 A) 4
  rw [if_neg h,if_neg h,lowW_lt (by omega)]
theorem len4' (A:Nat)(w:World):CB 143 #[A4 A] w (.int .i64 (lenL (W4 A) 4)):=len4 (W4 A) w (W4_words A)
theorem bit4 (A n:Nat)(w:World)(hA:A<2^256)(hn:n<256) :
  CB 148 #[A4 A,.int .i64 n] w (.int .u64 ((A/2^n%2:Nat):Int)):=by
 refine (limBit4 (W4 A) n w (W4_words A) (by omega) (by omega)).mono ?_
 rintro e w' ⟨rfl,hb⟩
 refine ⟨?_,hb⟩
 have hb:=W4_words A ((n:Int)/64).toNat
 have h1:bitV (W4 A ((n:Int)/64).toNat) n=((A/2^n%2:Nat):Int):=by
  unfold bitV
  have h2:=and_mask (y:=W4 A ((n:Int)/64).toNat/2^((n:Int)%64).toNat) (r:=1) (div_word _ _ hb) (by decide)
  rw [show (1:Int)=2^1-1 by decide,h2]
  unfold W4
  obtain ⟨q,hq⟩:∃ q:Nat,((n:Int)/64).toNat=q:=⟨_,rfl⟩
  obtain ⟨r,hr⟩:∃ r:Nat,((n:Int)%64).toNat=r:=⟨_,rfl⟩
  rw [hq,hr]
  have hn:n=64*q+r:=by omega
  have hr6:r<64:=by omega
  have e1:((2:Int)^r)=((2^r:Nat):Int):=by simp
  rw [e1,← Int.natCast_ediv]
  have e2:A/2^n=A/2^(64*q)/2^r:=by rw [hn,Nat.pow_add,Nat.div_div_eq_div_mul]
  rw [e2]
  generalize A/2^(64*q)=B
  have e3:B%18446744073709551616/2^r%2=B/2^r%2:=by
   rw [show (18446744073709551616:Nat)=2^r*(2*2^(63-r)) by rw [← Nat.pow_succ',← Nat.pow_add,show r+(63-r+1)=64 by omega]]
   rw [Nat.mod_mul_right_div_self,Nat.mod_mul_right_mod]
  have e4:((2:Int)^1)=((2:Nat):Int):=by decide
  rw [e4,← Int.natCast_emod,e3]
 rw [h1]
theorem of4 (u:Nat)(w:World)(hu:u<18446744073709551616) :
  CB 84 #[.int .u64 u] w (A4 u):=by
 have e0:W4 u 0=u:=by unfold W4;rw [Nat.mul_zero,Nat.pow_zero,Nat.div_one,Nat.mod_eq_of_lt hu]
 have e1:∀ i,0<i->W4 u i=0:=fun i hi=>by
  unfold W4
  have:u<2^(64*i):=Nat.lt_of_lt_of_le hu (by rw [show (18446744073709551616:Nat)=2^64 by decide];exact Nat.pow_le_pow_right (by decide) (by omega))
  rw [Nat.div_eq_of_lt this];rfl
 unfold A4
 rw [e0,e1 1 (by decide),e1 2 (by decide),e1 3 (by decide)]
 go_enter Tryz.func84,Tryz.ntmps84
 go_wp2
 exact bodyPost_ret (v:=.agg #[.int .u64 u,.int .u64 0,.int .u64 0,.int .u64 0]) (by simp [results,Tryz.results84,go_sem]) rfl ⟨rfl,((Below.refl _ _).alloc (Nat.le_refl _) _).alloc (by simp) _⟩
structure Fm (f e:Nat) (l m:Int):Prop where
 f2:2<=f
 f240:f<=240
 e2:2<=e
 e15:e<=15
 fe:f+e<=255
 l1:-1000000<=l
 l0:l<=0
 m:m=l+2^e-3
abbrev LV (f e:Nat)(l m:Int):Value:=.agg #[.int .i64 f,.int .i64 e,.int .i64 l,.int .i64 m]
theorem pow_e {e:Nat}(h2:2<=e)(h15:e<=15):(4:Int)<=2^e/\(2:Int)^e<=32768:=by
 have a:(2:Nat)^2<=2^e:=Nat.pow_le_pow_right (by decide) h2
 have b:(2:Nat)^e<=2^15:=Nat.pow_le_pow_right (by decide) h15
 have c:((2:Int)^e)=((2^e:Nat):Int):=by simp
 rw [c];omega
theorem special_any (f e:Nat)(l m:Int)(w:World)(h:Fm f e l m) :
  CB 112 #[LV f e l m] w (.int .u64 ((2^e-1:Nat):Int)):=by
 have h2:=h.e2
 have h15:=h.e15
 have hp:=pow_e h2 h15
 have hc:((2^e-1:Nat):Int)=2^e-1:=by
  have c:((2:Int)^e)=((2^e:Nat):Int):=by simp
  have:1<=2^e:=Nat.one_le_two_pow
  rw [c];omega
 rw [hc]
 clear hc h
 go_enter Tryz.func112,Tryz.ntmps112
 go_wp2
 go_ret
 exact ⟨rfl,(Below.refl _ _).alloc (Nat.le_refl _) _⟩
theorem lt_below {n g:Nat}{W W':World}(hb:Below n W W')(h:g<W.heap.size):g<W'.heap.size:=Nat.lt_of_lt_of_le h hb.size
theorem bnext {w0 W W':World}(h:Below w0.heap.size w0 W)(hb:Below W.heap.size W W'):Below w0.heap.size w0 W':=h.trans (hb.mono h.size)
theorem power_any (n:Nat)(w:World)(hn:n<=100000) :
  CB 114 #[.int .i64 n] w (A4 (2^n)):=by
 have c1:=fun w=>of4 1 w (by decide)
 have c2:=fun w=>shl4 1 n w (by decide) hn
 rw [Nat.one_mul] at c2
 go_enter Tryz.func114,Tryz.ntmps114
 go_wp2_with (first
  | (go_at_call 84;refine (c1 _).mono ?_;rintro x w1 ⟨rfl,hb1⟩;obtain ⟨hc1,hf1⟩:=bcell hb1;have hz1:=lt_alloc' hb1;have hA1:=bnext (w0:=w) bgo hb1;clear hb1)
  | (go_at_call 150;refine (c2 _).mono ?_;rintro x w2 ⟨rfl,hb2⟩;obtain ⟨hc2,hf2⟩:=bcell hb2;have hz2:=Nat.lt_of_lt_of_le hz1 hb2.size;have hA2:=bnext (w0:=w) bgo hb2;clear hb2))
 exact bodyPost_ret (v:=A4 (2^n)) (by simp [results,Tryz.results114,go_sem, *]) rfl ⟨rfl,bgo⟩
theorem quiet_any (f e:Nat)(l m:Int)(w:World)(h:Fm f e l m) :
  CB 145 #[LV f e l m] w (A4 (2^(f-1))):=by
 have h2:=h.f2
 have h240:=h.f240
 have c1:=fun w=>power_any (f-1) w (by omega)
 rw [show ((f-1:Nat):Int)=(f:Int)-1 by omega] at c1
 clear h
 go_enter Tryz.func145,Tryz.ntmps145
 go_wp2_with (go_at_call 114;refine (c1 _).mono ?_;rintro x w1 ⟨rfl,hb1⟩;obtain ⟨hc1,hf1⟩:=bcell hb1)
 have hA1:=bnext (w0:=w) bgo hb1
 exact bodyPost_ret (v:=A4 (2^(f-1))) (by simp [results,Tryz.results145,go_sem,hc1,hf1]) rfl ⟨rfl,bgo⟩
theorem mod_and {f e B:Nat}(he:e<=15):bits BinOp.and IntKind.u64 (W4 (B/2^f) 0) ((2^e-1:Nat):Int)=((B/2^f%2^e:Nat):Int):=by
 have hc:((2^e-1:Nat):Int)=2^e-1:=by
  have c:((2:Int)^e)=((2^e:Nat):Int):=by simp
  have:1<=2^e:=Nat.one_le_two_pow
  rw [c];omega
 rw [hc,and_mask (W4_words _ 0) (by omega)]
 unfold W4
 rw [Nat.mul_zero,Nat.pow_zero,Nat.div_one]
 have e2:((2:Int)^e)=((2^e:Nat):Int):=by simp
 rw [e2,← Int.natCast_emod]
 congr 1
 rw [show (18446744073709551616:Nat)=2^e*2^(64-e) by rw [← Nat.pow_add,show e+(64-e)=64 by omega]]
 exact Nat.mod_mul_right_mod _ _ _
theorem cell_set {W:World}{p:Addr}{u:Value}(h:W.cell? p=some u)(v:Value):(W.setCell p v).cell? p=some v:=by simp [go_sem,h]
theorem cell_set_ne {W:World}{g i j:Nat}(hij:i≠j)(v:Value):(W.setCell ⟨g,i,none⟩ v).cell? ⟨g,j,none⟩=W.cell? ⟨g,j,none⟩:=by simp [go_sem,hij]
theorem put4 {W:World}{g:Nat}{u0 u1 u2 u3:Value}(h0:W.cell? ⟨g,0,none⟩=some u0)(h1:W.cell? ⟨g,1,none⟩=some u1)(h2:W.cell? ⟨g,2,none⟩=some u2)(h3:W.cell? ⟨g,3,none⟩=some u3)(v0 v1 v2 v3:Value) :
  (W.setCell ⟨g,0,none⟩ v0).cell? ⟨g,0,none⟩=some v0/\((W.setCell ⟨g,0,none⟩ v0).setCell ⟨g,1,none⟩ v1).cell? ⟨g,1,none⟩=some v1/\(((W.setCell ⟨g,0,none⟩ v0).setCell ⟨g,1,none⟩ v1).setCell ⟨g,2,none⟩ v2).cell? ⟨g,2,none⟩=some v2/\((((W.setCell ⟨g,0,none⟩ v0).setCell ⟨g,1,none⟩ v1).setCell ⟨g,2,none⟩ v2).setCell ⟨g,3,none⟩ v3).cell? ⟨g,3,none⟩=some v3 :=
 ⟨cell_set h0 _,cell_set ((cell_set_ne (by decide) _).trans h1) _,cell_set ((cell_set_ne (by decide) _).trans ((cell_set_ne (by decide) _).trans h2)) _,cell_set ((cell_set_ne (by decide) _).trans ((cell_set_ne (by decide) _).trans ((cell_set_ne (by decide) _).trans h3))) _⟩
def sgB (f e B:Nat):Bool:=(((B/2^(f+e)%2:Nat):Int)==1)
theorem split_any (f e:Nat)(l m:Int)(B:Nat)(w:World)(h:Fm f e l m)(hB:B<2^256) :
  CB 111 #[LV f e l m,A4 B] w (.tuple #[.bool (sgB f e B),.int .u64 ((B/2^f%2^e:Nat):Int),A4 (B%2^f)]):=by
 have hf2:=h.f2
 have hf240:=h.f240
 have he15:=h.e15
 have hfe:=h.fe
 have c43:=fun w=>bit4 B (f+e) w hB (by omega)
 have c44:=fun w=>shr4 B f w hB (by omega)
 have c20:=fun w=>special_any f e l m w h
 have hd:B/2^f<2^256:=Nat.lt_of_le_of_lt (Nat.div_le_self _ _) hB
 have c45:=fun w=>shl4 (B/2^f) f w hd (by omega)
 have hle:B/2^f*2^f<=B:=Nat.div_mul_le_self _ _
 have c39:=fun w=>sub4 B (B/2^f*2^f) w hB (Nat.lt_of_le_of_lt hle hB)
 rw [A4_sub hle,show B-B/2^f*2^f=B%2^f by have:=Nat.div_add_mod' B (2^f);omega,if_neg (show ¬ B<B/2^f*2^f by omega)] at c39
 have hand:=mod_and (f:=f) (B:=B) he15
 unfold sgB
 rw [Int.natCast_add] at c43
 clear h hd hle hB
 generalize ((B/2^(f+e)%2:Nat):Int)=S at *
 generalize ((B/2^f%2^e:Nat):Int)=E at *
 generalize ((2^e-1:Nat):Int)=sp at *
 generalize B%2^f=Fr at *
 generalize B/2^f*2^f=Sh at *
 generalize B/2^f=Ab at *
 go_enter Tryz.func111,Tryz.ntmps111
 go_wp2_with (first
  | (go_at_call 148;refine (c43 _).mono ?_;rintro x w1 ⟨rfl,hb1⟩;obtain ⟨hc1,hf1,_,_,hA1,_⟩:=wz w hb1;obtain ⟨_,_⟩:=zf hb1 (w.heap.size+1);obtain ⟨_,_⟩:=zf hb1 (w.heap.size+1+1);clear hb1)
  | (go_at_call 149;refine (c44 _).mono ?_;rintro x w2 ⟨rfl,hb2⟩;obtain ⟨hc2,hf2,_,_,hA2,_⟩:=wz w hb2;obtain ⟨_,_⟩:=zf hb2 (w.heap.size+1);obtain ⟨_,_⟩:=zf hb2 (w.heap.size+1+1);clear hb2))
 refine wp_whole (by kernel_rfl) (by kernel_rfl) fun hne hcell=>?_
 repeat go_big_quiet_step (fail)
 go_big_quiet_step ((go_at_call 112;exact calls_wd _ bk_next (c20 _)))
 repeat go_big_quiet_step (fail)
 refine wpQuiet_nil fun w3 hb3=>?_
 obtain ⟨_,_,_,_,hA3,_⟩:=wz w hb3;obtain ⟨_,_⟩:=zf hb3 (w.heap.size+1);obtain ⟨_,_⟩:=zf hb3 (w.heap.size+1+1);obtain ⟨_,_⟩:=zf hb3 w2.heap.size;clear hb3
 go_wp2
 refine wp_tail 6 (by kernel_rfl) (by kernel_rfl) (by kernel_rfl) (fun _ _ d _ _ h=>by cases d<;>exact h) fun hne hcell=>?_
 simp only [List.take_succ_cons,List.take_zero,List.drop_succ_cons,List.drop_zero]
 repeat go_big_quiet_step (fail)
 go_big_quiet_step ((go_at_call 150;exact calls_wd _ bk_next (c45 _)))
 repeat go_big_quiet_step (fail)
 go_big_quiet_step ((go_at_call 85;exact calls_wd _ bk_next (c39 _)))
 repeat go_big_quiet_step (fail)
 refine wpQuiet_nil fun w4 hb4=>?_
 obtain ⟨_,_,_,_,hA4,_⟩:=wz w hb4;obtain ⟨_,_⟩:=zf hb4 (w.heap.size+1);obtain ⟨_,_⟩:=zf hb4 (w.heap.size+1+1);obtain ⟨_,_⟩:=zf hb4 w2.heap.size;clear hb4
 have k4_wheapsize11_0:w4.cell? ⟨w.heap.size+1+1,0,none⟩=some (.int .u64 0):=(by go_simp);have k4_wheapsize11_1:w4.cell? ⟨w.heap.size+1+1,1,none⟩=some (.int .u64 0):=(by go_simp);have k4_wheapsize11_2:w4.cell? ⟨w.heap.size+1+1,2,none⟩=some (.int .u64 0):=(by go_simp);have k4_wheapsize11_3:w4.cell? ⟨w.heap.size+1+1,3,none⟩=some (.int .u64 0):=(by go_simp)
 go_wp2
 refine wp_tail 5 (by kernel_rfl) (by kernel_rfl) (by kernel_rfl) (fun _ _ d _ _ h=>by cases d<;>exact h) fun hne hcell=>?_
 simp only [List.take_succ_cons,List.take_zero,List.drop_succ_cons,List.drop_zero]
 repeat go_big_quiet_step (fail)
 refine wpQuiet_nil fun w5 hb5=>?_
 obtain ⟨_,_,_,_,hA5,_⟩:=wz w hb5;obtain ⟨_,_⟩:=zf hb5 (w.heap.size+1);obtain ⟨_,_⟩:=zf hb5 (w.heap.size+1+1);obtain ⟨_,_⟩:=zf hb5 w2.heap.size;clear hb5
 have k5_wheapsize11_0:w5.cell? ⟨w.heap.size+1+1,0,none⟩=some (.int .u64 (W4 Fr 0)):=(by go_simp);have k5_wheapsize11_1:w5.cell? ⟨w.heap.size+1+1,1,none⟩=some (.int .u64 (W4 Fr 1)):=(by go_simp);have k5_wheapsize11_2:w5.cell? ⟨w.heap.size+1+1,2,none⟩=some (.int .u64 (W4 Fr 2)):=(by go_simp);have k5_wheapsize11_3:w5.cell? ⟨w.heap.size+1+1,3,none⟩=some (.int .u64 (W4 Fr 3)):=(by go_simp)
 obtain ⟨p5_0,p5_1,p5_2,p5_3⟩:=put4 k5_wheapsize11_0 k5_wheapsize11_1 k5_wheapsize11_2 k5_wheapsize11_3 (.int .u64 (W4 Fr 0)) (.int .u64 (W4 Fr 1)) (.int .u64 (W4 Fr 2)) (.int .u64 (W4 Fr 3))
 go_wp2
 exact bodyPost_ret (v:=.tuple #[.bool (S==1),.int .u64 E,A4 Fr]) (by simp only [results,Tryz.results111];go_simp) rfl ⟨rfl,bgo⟩
theorem cell_set_map (W:World)(b i:Nat)(v:Value):(W.setCell ⟨b,i,none⟩ v).cell? ⟨b,i,none⟩=(W.cell? ⟨b,i,none⟩).map fun _=>v:=by
 unfold World.cell? World.setCell
 simp only [Array.getElem?_modify,if_true]
 cases h:W.heap[b]? with
 | none=>simp
 | some o =>
  cases o with
  | cells c e fr =>
   simp only [Option.map_some,Option.isSome_none,Bool.false_eq_true,if_false]
   by_cases hi:i<c.size
   ·simp [hi]
   ·simp [hi]
  | _=>simp
structure Dat where
 c:Int
 s:Bool
 g:Bool
 x:Int
 k:Nat
abbrev DV (c:Int)(s g:Bool)(x:Int)(k:Nat):Value:=.agg #[.int .i64 c,.bool s,.bool g,.int .i64 x,.int .u64 (W4 k 0),.int .u64 (W4 k 1),.int .u64 (W4 k 2),.int .u64 (W4 k 3)]
abbrev Dat.v (d:Dat):Value:=DV d.c d.s d.g d.x d.k
theorem W4_zero (i:Nat):W4 0 i=0:=by unfold W4;simp
def spc (f:Nat)(s:Bool)(F:Nat):Dat:=if F=0 then ⟨2,s,false,0,0⟩ else if F<2^(f-1) then ⟨3,s,true,0,F⟩ else ⟨3,s,false,0,F-2^(f-1)⟩
theorem special_zero (f e:Nat)(l m:Int)(s:Bool)(w:World) :
  CB 113 #[LV f e l m,.bool s,A4 0] w (DV 2 s false 0 0):=by
 have c46:=fun w=>len4' 0 w
 rw [(len4_zero (A:=0) (by decide)).2 rfl] at c46
 unfold DV
 simp only [A4,W4_zero] at c46 ⊢
 go_enter Tryz.func113,Tryz.ntmps113
 go_wp2_with (go_at_call 143;refine (c46 _).mono ?_;rintro x w1 ⟨rfl,hb1⟩;obtain ⟨_,_,_,_,hA1,_⟩:=wz w hb1;obtain ⟨_,_⟩:=zf hb1 (w.heap.size+1);obtain ⟨_,_⟩:=zf hb1 (w.heap.size+1+1);clear hb1)
 have hsm:=cell_set_map
 exact bodyPost_ret (v:=.agg #[.int .i64 2,.bool s,.bool false,.int .i64 0,.int .u64 0,.int .u64 0,.int .u64 0,.int .u64 0]) (by simp only [results,Tryz.results113];go_simp) rfl ⟨rfl,bgo⟩
theorem special_nan (f e:Nat)(l m:Int)(s:Bool)(F:Nat)(w:World)(h:Fm f e l m)(hF:F<2^256)(h0:F≠0) :
  CB 113 #[LV f e l m,.bool s,A4 F] w (if F<2^(f-1) then DV 3 s true 0 F else DV 3 s false 0 (F-2^(f-1))):=by
 have hf2:=h.f2
 have hf240:=h.f240
 have c46:=fun w=>len4' F w
 have hL:lenL (W4 F) 4≠0:=fun h1=>h0 ((len4_zero hF).1 h1)
 generalize lenL (W4 F) 4=L at *
 have hLb:(L==0)=false:=by simpa using hL
 have c47:=fun w=>quiet_any f e l m w h
 have c39:=fun w=>sub4 F (2^(f-1)) w hF (Nat.pow_lt_pow_right (by decide) (by omega))
 clear h hF h0 hL hf2 hf240
 by_cases hlt:F<2^(f-1)
 ·rw [if_pos hlt]
  rw [if_pos hlt] at c39
  clear hlt
  generalize F+2^256-2^(f-1)=Pl at *
  generalize 2^(f-1)=Qt at *
  go_enter Tryz.func113,Tryz.ntmps113
  go_wp2_with (go_at_call 143;refine (c46 _).mono ?_;rintro x w1 ⟨rfl,hb1⟩;obtain ⟨_,_,_,_,hA1,_⟩:=wz w hb1;obtain ⟨_,_⟩:=zf hb1 (w.heap.size+1);obtain ⟨_,_⟩:=zf hb1 (w.heap.size+1+1);clear hb1)
  refine wp_made 4 7 7 #[.int .u64 0,.int .u64 0,.int .u64 0,.int .u64 0] (by kernel_rfl) (by kernel_rfl) (by kernel_rfl) rfl (fun oa hoa a w=>?_) (by kernel_rfl) (by kernel_rfl) rfl rfl (fun _ _ d _ _ h=>by cases d<;>exact h) ?_
  ·cases hoa;exact ⟨23,by simp [go_sem]⟩
  apply Exists.intro
  refine ⟨fun al hne hcell=>?_,fun w2 hb2=>?_,fun g w2 hb2 hg0 hg1 hg2 hg3=>?_⟩
  ·simp only [List.take_succ_cons,List.take_zero]
   repeat go_big_quiet_step (fail)
   go_big_quiet_step ((go_at_call 145;exact calls_wd _ al_next (c47 _)))
   repeat go_big_quiet_step (fail)
   go_big_quiet_step ((go_at_call 85;exact calls_wd _ al_next (c39 _)))
   exact wpQuiet_nil rfl
  ·simp only [List.drop_succ_cons,List.drop_zero]
   obtain ⟨_,hf2,_,_,hA2,_⟩:=wz w hb2;obtain ⟨_,_⟩:=zf hb2 (w.heap.size+1);obtain ⟨_,_⟩:=zf hb2 (w.heap.size+1+1);clear hb2
   go_wp2
   have hsm:=cell_set_map
   exact bodyPost_ret (v:=DV 3 s true 0 F) (by simp only [results,Tryz.results113];go_simp) rfl ⟨rfl,bgo⟩
  ·simp only [List.drop_succ_cons,List.drop_zero,Nat.reduceSub,List.eraseIdx_cons_succ,List.eraseIdx_cons_zero]
   have hgw:=hA1.size
   have hz0:g≠w.heap.size:=by omega
   have hz1:g≠w.heap.size+1:=by omega
   have hz2:g≠w.heap.size+1+1:=by omega
   obtain ⟨_,hf2,_,_,hA2,_⟩:=wz w hb2;obtain ⟨_,_⟩:=zf hb2 (w.heap.size+1);obtain ⟨_,_⟩:=zf hb2 (w.heap.size+1+1);clear hb2
   have hsm:=cell_set_map
   go_wp2
   exact bodyPost_ret (v:=DV 3 s true 0 F) (by simp only [results,Tryz.results113];go_simp) rfl ⟨rfl,bgo⟩
 ·rw [if_neg hlt]
  rw [if_neg hlt,A4_sub (by omega)] at c39
  clear hlt
  generalize F-2^(f-1)=Pl at *
  generalize 2^(f-1)=Qt at *
  go_enter Tryz.func113,Tryz.ntmps113
  go_wp2_with (go_at_call 143;refine (c46 _).mono ?_;rintro x w1 ⟨rfl,hb1⟩;obtain ⟨_,_,_,_,hA1,_⟩:=wz w hb1;obtain ⟨_,_⟩:=zf hb1 (w.heap.size+1);obtain ⟨_,_⟩:=zf hb1 (w.heap.size+1+1);clear hb1)
  refine wp_made 4 7 7 #[.int .u64 0,.int .u64 0,.int .u64 0,.int .u64 0] (by kernel_rfl) (by kernel_rfl) (by kernel_rfl) rfl (fun oa hoa a w=>?_) (by kernel_rfl) (by kernel_rfl) rfl rfl (fun _ _ d _ _ h=>by cases d<;>exact h) ?_
  ·cases hoa;exact ⟨23,by simp [go_sem]⟩
  apply Exists.intro
  refine ⟨fun al hne hcell=>?_,fun w2 hb2=>?_,fun g w2 hb2 hg0 hg1 hg2 hg3=>?_⟩
  ·simp only [List.take_succ_cons,List.take_zero]
   repeat go_big_quiet_step (fail)
   go_big_quiet_step ((go_at_call 145;exact calls_wd _ al_next (c47 _)))
   repeat go_big_quiet_step (fail)
   go_big_quiet_step ((go_at_call 85;exact calls_wd _ al_next (c39 _)))
   exact wpQuiet_nil rfl
  ·simp only [List.drop_succ_cons,List.drop_zero]
   obtain ⟨_,hf2,_,_,hA2,_⟩:=wz w hb2;obtain ⟨_,_⟩:=zf hb2 (w.heap.size+1);obtain ⟨_,_⟩:=zf hb2 (w.heap.size+1+1);clear hb2
   go_wp2
   have hsm:=cell_set_map
   exact bodyPost_ret (v:=DV 3 s false 0 Pl) (by simp only [results,Tryz.results113];go_simp) rfl ⟨rfl,bgo⟩
  ·simp only [List.drop_succ_cons,List.drop_zero,Nat.reduceSub,List.eraseIdx_cons_succ,List.eraseIdx_cons_zero]
   have hgw:=hA1.size
   have hz0:g≠w.heap.size:=by omega
   have hz1:g≠w.heap.size+1:=by omega
   have hz2:g≠w.heap.size+1+1:=by omega
   obtain ⟨_,hf2,_,_,hA2,_⟩:=wz w hb2;obtain ⟨_,_⟩:=zf hb2 (w.heap.size+1);obtain ⟨_,_⟩:=zf hb2 (w.heap.size+1+1);clear hb2
   have hsm:=cell_set_map
   go_wp2
   exact bodyPost_ret (v:=DV 3 s false 0 Pl) (by simp only [results,Tryz.results113];go_simp) rfl ⟨rfl,bgo⟩
theorem special_spc (f e:Nat)(l m:Int)(s:Bool)(F:Nat)(w:World)(h:Fm f e l m)(hF:F<2^256) :
  Calls Tryz.prog 113 #[LV f e l m,.bool s,A4 F] w fun x w'=>x=.returned (spc f s F).v/\Below w.heap.size w w':=by
 unfold spc
 by_cases h0:F=0
 ·subst h0
  rw [if_pos rfl]
  exact special_zero f e l m s w
 ·rw [if_neg h0]
  refine (special_nan f e l m s F w h hF h0).mono ?_
  rintro x w' ⟨rfl,hb⟩
  refine ⟨?_,hb⟩
  split<;>rfl
def binN (n:Int):Prop:=1<=n/\n<=6
instance (n:Int):Decidable (binN n):=inferInstanceAs (Decidable (_/\_))
def fN (n:Int):Nat:=(precN n-1).toNat
def eN (n:Int):Nat:=(expN n).toNat
theorem bin_cases {n:Int}(h:binN n):n=1∨n=2∨n=3∨n=4∨n=5∨n=6:=by unfold binN at h;omega
theorem bin_fm {n:Int}(h:binN n):Fm (fN n) (eN n) (leastN n) (mostN n):=by
 rcases bin_cases h with rfl|rfl|rfl|rfl|rfl|rfl<;>exact ⟨by decide,by decide,by decide,by decide,by decide,by decide,by decide,by decide⟩
theorem bin_fields {n:Int}(h:binN n):okN n/\baseN n=2/\precN n=(fN n:Int)+1/\expN n=(eN n:Int)/\widthN n=((fN n+eN n+1:Nat):Int)/\payN n=(fN n:Int)-1:=by
 rcases bin_cases h with rfl|rfl|rfl|rfl|rfl|rfl<;>exact ⟨by decide,by decide,by decide,by decide,by decide,by decide⟩
theorem not_bin {n:Int}(h:¬ binN n):(okN n/\baseN n=10)∨¬ okN n:=by
 by_cases hk:okN n
 ·left
  refine ⟨hk,?_⟩
  rcases okN_cases hk with rfl|rfl|rfl|rfl|rfl|rfl|rfl|rfl|rfl|rfl|rfl|rfl<;>first|rfl|exact absurd (by decide) h
 ·exact Or.inr hk
abbrev LZ:Value:=.agg #[.int .i64 0,.int .i64 0,.int .i64 0,.int .i64 0]
theorem layoutOf_ok (n:Int)(w:World)(hT:Tab w)(h:binN n) :
  CB 99 #[.int .i64 n] w (.tuple #[LV (fN n) (eN n) (leastN n) (mostN n),.int .i64 0]):=by
 have c1:=fun w hT=>ofv_any n w hT
 obtain ⟨hk,hb,hp,he,hw,hy⟩:=bin_fields h
 have hE:infoE n=0:=if_pos hk
 have hF:=bin_fm h
 have hf1:=hF.f240
 simp only [hE,hb,hp,he] at c1
 clear hE hb hp he hw hy hk hF
 go_enter Tryz.func99,Tryz.ntmps99
 go_wp2_with (go_at_call 81;refine (c1 _ (hT.alloc _)).mono ?_;rintro x w1 ⟨rfl,hb1⟩;obtain ⟨_,hf1,_,_,hA1,_⟩:=wz w hb1;clear hb1)
 have hsm:=cell_set_map
 exact bodyPost_ret (v:=.tuple #[LV (fN n) (eN n) (leastN n) (mostN n),.int .i64 0]) (by simp only [results,Tryz.results99];go_simp) rfl ⟨rfl,bgo⟩
theorem layoutOf_bad (n:Int)(w:World)(hT:Tab w)(h:¬ binN n) :
  CB 99 #[.int .i64 n] w (.tuple #[LZ,.int .i64 1]):=by
 have c1:=fun w hT=>ofv_any n w hT
 rcases not_bin h with ⟨hk,hb⟩|hk
 ·have hE:infoE n=0:=if_pos hk
  simp only [hE,hb] at c1
  clear hE hb hk h
  go_enter Tryz.func99,Tryz.ntmps99
  go_wp2_with (go_at_call 81;refine (c1 _ (hT.alloc _)).mono ?_;rintro x w1 ⟨rfl,hb1⟩;obtain ⟨_,hf1,_,_,hA1,_⟩:=wz w hb1;clear hb1)
  have hsm:=cell_set_map
  exact bodyPost_ret (v:=.tuple #[LZ,.int .i64 1]) (by simp only [results,Tryz.results99];go_simp) rfl ⟨rfl,bgo⟩
 ·have hE:infoE n=1:=if_neg hk
  simp only [hE] at c1
  clear hE hk h
  go_enter Tryz.func99,Tryz.ntmps99
  go_wp2_with (go_at_call 81;refine (c1 _ (hT.alloc _)).mono ?_;rintro x w1 ⟨rfl,hb1⟩;obtain ⟨_,hf1,_,_,hA1,_⟩:=wz w hb1;clear hb1)
  have hsm:=cell_set_map
  exact bodyPost_ret (v:=.tuple #[LZ,.int .i64 1]) (by simp only [results,Tryz.results99];go_simp) rfl ⟨rfl,bgo⟩
def goodN (n:Int)(B:Nat):Prop:=binN n/\B<2^(fN n+eN n+1)
instance (n:Int) (B:Nat):Decidable (goodN n B):=inferInstanceAs (Decidable (_/\_))
theorem A4_get (B:Nat):∀ i,i<4->(#[Value.int .u64 (W4 B 0),.int .u64 (W4 B 1),.int .u64 (W4 B 2),.int .u64 (W4 B 3)]:Array Value)[i]?=some (.int .u64 (W4 B i)):=fun i hi=>by
 have:i=0∨i=1∨i=2∨i=3:=by omega
 rcases this with rfl|rfl|rfl|rfl<;>rfl
theorem fits4 (n:Int)(B:Nat)(hB:B<2^256)(w:World)(hT:Tab w) :
  CB 119 #[.int .i64 n,A4 B] w (.bool (decide (okN n/\B<2^(widthN n).toNat))):=by
 refine (fits_any n (W4 B) (W4_words B) _ (A4_get B) rfl w hT).mono ?_
 rintro x w' ⟨rfl,hb⟩
 refine ⟨?_,hb⟩
 have hwd:=(fields_bounds n).2.1
 have e:(fitsP n (W4 B))↔(okN n/\B<2^(widthN n).toNat):=by
  unfold fitsP
  rw [lenL_low]
  have:=len4_le (k:=(widthN n).toNat) hB
  rw [show (((widthN n).toNat:Nat):Int)=widthN n by omega] at this
  rw [this]
 rw [decide_eq_decide.2 e]
theorem layoutFor_ok (n:Int)(B:Nat)(w:World)(hT:Tab w)(hB:B<2^256)(h:goodN n B) :
  CB 110 #[.int .i64 n,A4 B] w (.tuple #[LV (fN n) (eN n) (leastN n) (mostN n),.int .i64 0]):=by
 have hF:=bin_fields h.1
 have c42:=fun w hT=>fits4 n B hB w hT
 rw [decide_eq_true (show okN n/\B<2^(widthN n).toNat from ⟨hF.1,by rw [hF.2.2.2.2.1,Int.toNat_natCast];exact h.2⟩)] at c42
 have c31:=fun w hT=>layoutOf_ok n w hT h.1
 clear hF h hB
 go_enter Tryz.func110,Tryz.ntmps110
 go_wp2_with (first
  | (go_at_call 119;refine (c42 _ ((hT.alloc _).alloc _)).mono ?_;rintro x w1 ⟨rfl,hb1⟩;obtain ⟨_,hf1,_,_,hA1,_⟩:=wz w hb1;obtain ⟨_,_⟩:=zf hb1 (w.heap.size+1);clear hb1)
  | (go_at_call 99;refine (c31 _ (hT.go hA1)).mono ?_;rintro x w2 ⟨rfl,hb2⟩;obtain ⟨_,_,_,_,hA2,_⟩:=wz w hb2;obtain ⟨_,_⟩:=zf hb2 (w.heap.size+1);clear hb2))
 have hsm:=cell_set_map
 exact bodyPost_ret (v:=.tuple #[LV (fN n) (eN n) (leastN n) (mostN n),.int .i64 0]) (by simp only [results,Tryz.results110];go_simp) rfl ⟨rfl,bgo⟩
theorem layoutFor_bad (n:Int)(B:Nat)(w:World)(hT:Tab w)(hB:B<2^256)(h:¬ goodN n B) :
  CB 110 #[.int .i64 n,A4 B] w (.tuple #[LZ,.int .i64 1]):=by
 have c42:=fun w hT=>fits4 n B hB w hT
 by_cases hf:okN n/\B<2^(widthN n).toNat
 ·rw [decide_eq_true hf] at c42
  have hnb:¬ binN n:=fun hb=>h ⟨hb,by have:=bin_fields hb;rw [this.2.2.2.2.1,Int.toNat_natCast] at hf;exact hf.2⟩
  have c31:=fun w hT=>layoutOf_bad n w hT hnb
  clear h hB hf hnb
  go_enter Tryz.func110,Tryz.ntmps110
  go_wp2_with (first
   | (go_at_call 119;refine (c42 _ ((hT.alloc _).alloc _)).mono ?_;rintro x w1 ⟨rfl,hb1⟩;obtain ⟨_,hf1,_,_,hA1,_⟩:=wz w hb1;obtain ⟨_,_⟩:=zf hb1 (w.heap.size+1);clear hb1)
   | (go_at_call 99;refine (c31 _ (hT.go hA1)).mono ?_;rintro x w2 ⟨rfl,hb2⟩;obtain ⟨_,_,_,_,hA2,_⟩:=wz w hb2;obtain ⟨_,_⟩:=zf hb2 (w.heap.size+1);clear hb2))
  have hsm:=cell_set_map
  exact bodyPost_ret (v:=.tuple #[LZ,.int .i64 1]) (by simp only [results,Tryz.results110];go_simp) rfl ⟨rfl,bgo⟩
 ·rw [decide_eq_false hf] at c42
  clear h hB hf
  go_enter Tryz.func110,Tryz.ntmps110
  go_wp2_with (go_at_call 119;refine (c42 _ ((hT.alloc _).alloc _)).mono ?_;rintro x w1 ⟨rfl,hb1⟩;obtain ⟨_,hf1,_,_,hA1,_⟩:=wz w hb1;obtain ⟨_,_⟩:=zf hb1 (w.heap.size+1);clear hb1)
  have hsm:=cell_set_map
  exact bodyPost_ret (v:=.tuple #[LZ,.int .i64 1]) (by simp only [results,Tryz.results110];go_simp) rfl ⟨rfl,bgo⟩
section
def unp (f e:Nat)(l:Int)(B:Nat):Dat :=
 if B/2^f%2^e=2^e-1 then spc f (sgB f e B) (B%2^f)
 else if B/2^f%2^e=0 then ⟨1,sgB f e B,false,l,B%2^f⟩
 else ⟨1,sgB f e B,false,l+((B/2^f%2^e:Nat)-1:Int),B%2^f+2^f⟩
theorem unpack_bad (n:Int)(B:Nat)(w:World)(hT:Tab w)(hB:B<2^256)(h:¬ goodN n B) :
  CB 82 #[.int .i64 n,A4 B] w (.tuple #[DV 0 false false 0 0,.int .i64 1]):=by
 have c18:=fun w hT=>layoutFor_bad n B w hT hB h
 unfold DV
 simp only [W4_zero]
 clear h hB
 go_enter Tryz.func82,Tryz.ntmps82
 go_wp2_with (go_at_call 110;refine (c18 _ ((hT.alloc _).alloc _)).mono ?_;rintro x w1 ⟨rfl,hb1⟩;obtain ⟨_,_,_,_,hA1,_⟩:=wz w hb1;obtain ⟨_,_⟩:=zf hb1 (w.heap.size+1);clear hb1)
 have hsm:=cell_set_map
 exact bodyPost_ret (v:=.tuple #[.agg #[.int .i64 0,.bool false,.bool false,.int .i64 0,.int .u64 0,.int .u64 0,.int .u64 0,.int .u64 0],.int .i64 1]) (by simp only [results,Tryz.results82];go_simp) rfl ⟨rfl,bgo⟩
section
variable (n:Int)(B:Nat)(f e:Nat)(l m:Int)(w:World)(hT:Tab w)(S:Bool)(E sp:Int)(Fr:Nat)
 (c18:∀ w,Tab w->CB 110 #[.int .i64 n,A4 B] w (.tuple #[LV f e l m,.int .i64 0]))
 (c19:∀ w,CB 111 #[LV f e l m,A4 B] w (.tuple #[.bool S,.int .u64 E,A4 Fr]))
 (c20:∀ w,CB 112 #[LV f e l m] w (.int .u64 sp))
include hT c18 c19 c20
theorem unpack_sp (D:Dat)(c21:∀ w,CB 113 #[LV f e l m,.bool S,A4 Fr] w D.v)(hE:(E==sp)=true) :
  CB 82 #[.int .i64 n,A4 B] w (.tuple #[D.v,.int .i64 0]):=by
 obtain ⟨dc,ds,dg,dx,dk⟩:=D
 unfold Dat.v at *
 dsimp only at *
 go_enter Tryz.func82,Tryz.ntmps82
 go_wp2_with (first
  | (go_at_call 110;refine (c18 _ ((hT.alloc _).alloc _)).mono ?_;rintro x w1 ⟨rfl,hb1⟩;obtain ⟨_,_,_,_,hA1,_⟩:=wz w hb1;obtain ⟨_,_⟩:=zf hb1 (w.heap.size+1);clear hb1)
  | (go_at_call 111;refine (c19 _).mono ?_;rintro x w2 ⟨rfl,hb2⟩;obtain ⟨_,_,_,_,hA2,_⟩:=wz w hb2;obtain ⟨_,_⟩:=zf hb2 (w.heap.size+1);obtain ⟨_,_⟩:=zf hb2 w1.heap.size;clear hb2)
  | (go_at_call 112;refine (c20 _).mono ?_;rintro x w3 ⟨rfl,hb3⟩;obtain ⟨_,_,_,_,hA3,_⟩:=wz w hb3;obtain ⟨_,_⟩:=zf hb3 (w.heap.size+1);obtain ⟨_,_⟩:=zf hb3 w1.heap.size;obtain ⟨_,_⟩:=zf hb3 w2.heap.size;clear hb3)
  | (go_at_call 113;refine (c21 _).mono ?_;rintro x w4 ⟨rfl,hb4⟩;obtain ⟨_,_,_,_,hA4,_⟩:=wz w hb4;obtain ⟨_,_⟩:=zf hb4 (w.heap.size+1);obtain ⟨_,_⟩:=zf hb4 w1.heap.size;obtain ⟨_,_⟩:=zf hb4 w2.heap.size;clear hb4))
 have hsm:=cell_set_map
 exact bodyPost_ret (v:=.tuple #[DV dc ds dg dx dk,.int .i64 0]) (by simp only [results,Tryz.results82];go_simp) rfl ⟨rfl,bgo⟩
theorem unpack_sub (hE:(E==sp)=false)(hE0:E=0) :
  CB 82 #[.int .i64 n,A4 B] w (.tuple #[DV 1 S false l Fr,.int .i64 0]):=by
 subst hE0
 go_enter Tryz.func82,Tryz.ntmps82
 go_wp2_with (first
  | (go_at_call 110;refine (c18 _ ((hT.alloc _).alloc _)).mono ?_;rintro x w1 ⟨rfl,hb1⟩;obtain ⟨_,_,_,_,hA1,_⟩:=wz w hb1;obtain ⟨_,_⟩:=zf hb1 (w.heap.size+1);clear hb1)
  | (go_at_call 111;refine (c19 _).mono ?_;rintro x w2 ⟨rfl,hb2⟩;obtain ⟨_,_,_,_,hA2,_⟩:=wz w hb2;obtain ⟨_,_⟩:=zf hb2 (w.heap.size+1);obtain ⟨_,_⟩:=zf hb2 w1.heap.size;clear hb2)
  | (go_at_call 112;refine (c20 _).mono ?_;rintro x w3 ⟨rfl,hb3⟩;obtain ⟨_,_,_,_,hA3,_⟩:=wz w hb3;obtain ⟨_,_⟩:=zf hb3 (w.heap.size+1);obtain ⟨_,_⟩:=zf hb3 w1.heap.size;obtain ⟨_,_⟩:=zf hb3 w2.heap.size;clear hb3))
 have hsm:=cell_set_map
 exact bodyPost_ret (v:=.tuple #[DV 1 S false l Fr,.int .i64 0]) (by simp only [results,Tryz.results82];go_simp) rfl ⟨rfl,bgo⟩
theorem unpack_norm (Pw Co:Nat)(cr:Int)(hl:-1000000<=l/\l<=0)(hE:(E==sp)=false)(hE0:0<E)(hE1:E<=32768)
  (c23:∀ w,CB 114 #[.int .i64 f] w (A4 Pw))
  (c22:∀ w,CB 86 #[A4 Fr,A4 Pw] w (.tuple #[A4 Co,.int .u64 cr])) :
  CB 82 #[.int .i64 n,A4 B] w (.tuple #[DV 1 S false (l+(E-1)) Co,.int .i64 0]):=by
 go_enter Tryz.func82,Tryz.ntmps82
 go_wp2_with (first
  | (go_at_call 110;refine (c18 _ ((hT.alloc _).alloc _)).mono ?_;rintro x w1 ⟨rfl,hb1⟩;obtain ⟨_,_,_,_,hA1,_⟩:=wz w hb1;obtain ⟨_,_⟩:=zf hb1 (w.heap.size+1);clear hb1)
  | (go_at_call 111;refine (c19 _).mono ?_;rintro x w2 ⟨rfl,hb2⟩;obtain ⟨_,_,_,_,hA2,_⟩:=wz w hb2;obtain ⟨_,_⟩:=zf hb2 (w.heap.size+1);obtain ⟨_,_⟩:=zf hb2 w1.heap.size;clear hb2)
  | (go_at_call 112;refine (c20 _).mono ?_;rintro x w3 ⟨rfl,hb3⟩;obtain ⟨_,_,_,_,hA3,_⟩:=wz w hb3;obtain ⟨_,_⟩:=zf hb3 (w.heap.size+1);obtain ⟨_,_⟩:=zf hb3 w1.heap.size;obtain ⟨_,_⟩:=zf hb3 w2.heap.size;clear hb3))
 have hn1:w1.heap.size≠w.heap.size:=by omega
 have hn2:w1.heap.size≠w.heap.size+1:=by omega
 have hn3:w2.heap.size≠w1.heap.size:=by omega
 refine wp_made 5 8 12 #[.int .u64 0,.int .u64 0,.int .u64 0,.int .u64 0] (by kernel_rfl) (by kernel_rfl) (by kernel_rfl) rfl (fun oa hoa a w=>?_) (by kernel_rfl) (by kernel_rfl) rfl rfl (fun _ _ d _ _ h=>by cases d<;>exact h) ?_
 ·cases hoa;exact ⟨23,by simp [go_sem]⟩
 apply Exists.intro
 refine ⟨fun al hne hcell=>?_,fun w4 hb4=>?_,fun g w4 hb4 hg0 hg1 hg2 hg3=>?_⟩
 ·simp only [List.take_succ_cons,List.take_zero]
  repeat go_big_quiet_step (fail)
  go_big_quiet_step ((go_at_call 114;exact calls_wd _ al_next (c23 _)))
  repeat go_big_quiet_step (fail)
  go_big_quiet_step ((go_at_call 86;exact calls_wd _ al_next (c22 _)))
  exact wpQuiet_nil rfl
 ·simp only [List.drop_succ_cons,List.drop_zero]
  obtain ⟨_,_,_,_,hA4,_⟩:=wz w hb4;obtain ⟨_,_⟩:=zf hb4 (w.heap.size+1);obtain ⟨_,_⟩:=zf hb4 w1.heap.size;obtain ⟨_,_⟩:=zf hb4 w2.heap.size;obtain ⟨_,_⟩:=zf hb4 w3.heap.size;clear hb4
  have hsm:=cell_set_map
  go_wp2
  exact bodyPost_ret (v:=.tuple #[DV 1 S false (l+(E-1)) Co,.int .i64 0]) (by simp only [results,Tryz.results82];go_simp) rfl ⟨rfl,bgo⟩
 ·simp only [List.drop_succ_cons,List.drop_zero,Nat.reduceSub,List.eraseIdx_cons_succ,List.eraseIdx_cons_zero]
  simp only [World.size_alloc] at hg0
  have hgw:=hA3.size
  have hz0:g≠w.heap.size:=by omega
  have hz1:g≠w.heap.size+1:=by omega
  have hz2:g≠w1.heap.size:=by omega
  have hz3:g≠w2.heap.size:=by omega
  have hz4:g≠w3.heap.size:=by omega
  obtain ⟨_,_,_,_,hA4,_⟩:=wz w hb4;obtain ⟨_,_⟩:=zf hb4 (w.heap.size+1);obtain ⟨_,_⟩:=zf hb4 w1.heap.size;obtain ⟨_,_⟩:=zf hb4 w2.heap.size;obtain ⟨_,_⟩:=zf hb4 w3.heap.size;clear hb4
  have hsm:=cell_set_map
  go_wp2
  exact bodyPost_ret (v:=.tuple #[DV 1 S false (l+(E-1)) Co,.int .i64 0]) (by simp only [results,Tryz.results82];go_simp) rfl ⟨rfl,bgo⟩
end
theorem unpack_ok (n:Int)(B:Nat)(w:World)(hT:Tab w)(hB:B<2^256)(h:goodN n B) :
  CB 82 #[.int .i64 n,A4 B] w (.tuple #[(unp (fN n) (eN n) (leastN n) B).v,.int .i64 0]):=by
 have hF:=bin_fm h.1
 have c18:=fun w hT=>layoutFor_ok n B w hT hB h
 have c19:=fun w=>split_any (fN n) (eN n) (leastN n) (mostN n) B w hF hB
 have c20:=fun w=>special_any (fN n) (eN n) (leastN n) (mostN n) w hF
 have hf240:=hF.f240
 have hp:=pow_e hF.e2 hF.e15
 have hpc:((2:Int)^eN n)=((2^eN n:Nat):Int):=by simp
 have hmod:B/2^fN n%2^eN n<2^eN n:=Nat.mod_lt _ (Nat.two_pow_pos _)
 have hfr:B%2^fN n<2^fN n:=Nat.mod_lt _ (Nat.two_pow_pos _)
 have hf256:2^fN n<2^256:=Nat.pow_lt_pow_right (by decide) (by omega)
 unfold unp
 by_cases h1:B/2^fN n%2^eN n=2^eN n-1
 ·rw [if_pos h1]
  exact unpack_sp n B _ _ _ _ w hT _ _ _ _ c18 c19 c20 _ (fun w=>special_spc (fN n) (eN n) (leastN n) (mostN n) (sgB (fN n) (eN n) B) (B%2^fN n) w hF (by omega)) (by rw [h1];simp)
 ·rw [if_neg h1]
  have hE:(((B/2^fN n%2^eN n:Nat):Int)==((2^eN n-1:Nat):Int))=false:=by
   rw [beq_eq_false_iff_ne];omega
  by_cases h2:B/2^fN n%2^eN n=0
  ·rw [if_pos h2]
   exact unpack_sub n B _ _ _ _ w hT _ _ _ _ c18 c19 c20 hE (by omega)
  ·rw [if_neg h2]
   have h256:(2:Nat)^256=115792089237316195423570985008687907853269984665640564039457584007913129639936:=by decide
   exact unpack_norm n B _ _ _ _ w hT _ _ _ _ c18 c19 c20 (2^fN n) (B%2^fN n+2^fN n) _ ⟨hF.l1,hF.l0⟩ hE (by omega) (by rw [hpc] at hp;omega) (fun w=>power_any (fN n) w (by omega)) (fun w=>add4 (B%2^fN n) (2^fN n) w (by omega) hf256)
end
theorem rless_tr (a a':Option Addr)(n c n' c':Nat)(x y:Nat->Int)(w:World)(hn:n<4294967290)(hn':n'<4294967290)(h:Num w a n c x)(h':Num w a' n' c' y) :
  Calls Tryz.prog 50 #[.slice a n c,.slice a' n' c'] w fun e w'=>∃ g k cap,e=.returned (.slice (some ⟨g,0,none⟩) k cap)/\k<=max n n'/\Num w' (some ⟨g,0,none⟩) k cap (difZ x y (max n n'))/\sizeL (difZ x y (max n n')) k=k/\Below w.heap.size w w':=by
 have hx:=h.2.2.1
 have hy:=h'.2.2.1
 have zx:=h.2.2.2.1
 have zy:=h'.2.2.2.1
 obtain ⟨M,hM⟩:∃ M,max n n'=M:=⟨_,rfl⟩
 have hMi:max (n:Int) n'=(M:Int):=by omega
 have hMb:M<4294967292:=by omega
 have hmk:=fun w=>make_any (max (n:Int) n') M hMi (by omega) w
 have hfin:∀ (ss:Array Value),ss.size=M->(∀ j h,ss[j]'h=Value.int .u64 (difW x y j))->Num (w.alloc (.cells ss 22)) (some ⟨w.heap.size,0,none⟩) M M (difZ x y (max n n')):=fun ss h1 h2=>num_of_block (by omega) (difZ_words x y _) (fun i hi=>by unfold difZ;rw [if_neg (by omega)]) h1 (fun j hj=>by rw [h2 j hj];unfold difZ;rw [if_pos (by omega)])
 have hw1:=fun (i:Nat) (ss:Array Value)=>word_any a n c i x (w.alloc (.cells ss 22)) (h.next (below1 w _))
 have hw2:=fun (i:Nat) (ss:Array Value)=>word_any a' n' c' i y (w.alloc (.cells ss 22)) (h'.next (below1 w _))
 have HM:Hid (max n n'=M):=hM
 have HZ:Hid ((arrOf (fun _=>0) M).size=M/\∀ j h,(arrOf (fun _=>0) M)[j]'h=Value.int .u64 0):=⟨arrOf_size _ _,fun j h=>arrOf_get _ _ _ _⟩
 clear h h' zx zy hM hMi
 generalize arrOf (fun _=>0) M=zz at *
 go_enter Tryz.func50,Tryz.ntmps50
 go_wp2
 go_loopw [6,7,16,19] (fun c u7 i u20 wr=>∃ (k:Nat) (ss:Array Value),k<=M/\i=.int .i64 k/\c=.int .u64 (borW x y k)/\ss.size=M/\(∀ j h,ss[j]'h=Value.int .u64 (if j<k then difW x y j else 0))/\wr=w.alloc (.cells ss 22)) (fun _ _ i _ _=>M-(intOf i).toNat)
 case atStart=>exact ⟨0,zz,Nat.zero_le _,rfl,rfl,HZ.out.1,fun j h=>by rw [HZ.out.2 j h];simp,rfl⟩
 case round =>
  obtain ⟨k,ss,hk,rfl,rfl,hsz,hss,rfl⟩:=hrel
  have hcar:=borW_01 x y k
  by_cases h8:k<M
  ·have h8i:(k:Int)<M:=by omega
   have h8s:k<ss.size:=by omega
   have bx:=hx k
   have b_y:=hy k
   have hsk:ss[k]?=some (.int .u64 0):=by rw [Array.getElem?_eq_getElem h8s,hss k h8s,if_neg (by omega)]
   have hadd:=fun w=>sub64 (x k) (y k) (borW x y k) bx.1 b_y.1 (by omega) hcar.1 hcar.2 w
   have hwa:=hw1 k ss
   have hwb:=hw2 k ss
   have HR:Hid (∀ (i:Nat) (h:i<(ss.setIfInBounds k (.int .u64 (difW x y k))).size),(ss.setIfInBounds k (.int .u64 (difW x y k)))[i]'h=Value.int .u64 (if i<k+1 then difW x y i else 0)):=set_next hss
   clear hss hw1 hw2 hfin hmk hx hy
   go_wp2_with (first|(go_at_call_of 55 (Value.slice a n c);refine hwa.mono ?_;rintro e w' ⟨rfl,rfl⟩)|(go_at_call_of 55 (Value.slice a' n' c');refine hwb.mono ?_;rintro e w' ⟨rfl,rfl⟩))
   go_roundw
   case rel=>exact ⟨k+1,ss.setIfInBounds k (.int .u64 (difW x y k)),by omega,by go_num,rfl,by simp [hsz],HR.out,rfl⟩
   case measure=>simp [intOf];omega
  ·obtain rfl:k=M:=by omega
   have hss':∀ j h,ss[j]'h=Value.int .u64 (difW x y j):=by
    intro j h;rw [hss j h,if_pos (by omega)]
   have hT:=trim_any _ _ _ _ _ (by omega) (hfin ss hsz hss')
   have hle:=sizeL_le (difZ x y (max n n')) k
   clear hss hss' hw1 hw2 hfin hmk hx hy
   go_wp2_with (go_at_call 56;refine hT.mono ?_;rintro e w1 ⟨g,cap,rfl,hN,hB⟩)
   go_ret
   exact ⟨g,_,cap,rfl,Nat.le_trans hle (Nat.le_of_eq HM.out.symm),hN,sizeL_sizeL _ _,(below1 w _).trans (hB.mono (by simp))⟩
def NV (K V:Nat)(v:Value)(w:World):Prop:=∃ g k cap z,v=.slice (some ⟨g,0,none⟩) k cap/\k<=K/\Num w (some ⟨g,0,none⟩) k cap z/\val z k=(V:Int)
theorem NV.next {K V:Nat}{v:Value}{w w':World}(h:NV K V v w)(hb:Below w.heap.size w w'):NV K V v w':=by
 obtain ⟨g,k,cap,z,h1,h2,h3,h4⟩:=h
 exact ⟨g,k,cap,z,h1,h2,h3.next hb,h4⟩
theorem NV.more {K K' V:Nat}{v:Value}{w:World}(h:NV K V v w)(hk:K<=K'):NV K' V v w:=by
 obtain ⟨g,k,cap,z,h1,h2,h3,h4⟩:=h
 exact ⟨g,k,cap,z,h1,by omega,h3,h4⟩
theorem rright_nv {K A:Nat}{v:Value}{w:World}(s:Nat)(hK:K<1000)(hs:s<=600)(h:NV K A v w) :
  Calls Tryz.prog 49 #[v,.int .i64 s] w fun e w'=>∃ v' b,e=.returned (.tuple #[v',.bool b])/\NV K (A/2^s) v' w'/\Below w.heap.size w w':=by
 obtain ⟨g,k,cap,z,rfl,hk,hN,hv⟩:=h
 obtain ⟨q,hq⟩:∃ q:Nat,(s:Int)/64=q:=⟨((s:Int)/64).toNat,by omega⟩
 obtain ⟨r,hr⟩:∃ r:Nat,(s:Int)%64=r:=⟨((s:Int)%64).toNat,by omega⟩
 have hsn:s=64*q+r:=by omega
 have hr6:r<64:=by omega
 have key:∀ (w':World) (g' k' cap':Nat),k'<=k->Num w' (some ⟨g',0,none⟩) k' cap' (shrW z q r)->NV K (A/2^s) (.slice (some ⟨g',0,none⟩) k' cap') w':=fun w' g' k' cap' hk' hN'=>by
  refine ⟨g',k',cap',_,rfl,by omega,hN',?_⟩
  rw [← val_more hN'.2.2.2.1 k hk',hsn]
  exact shrW_val hN.2.2.1 hN.2.2.2.1 hr6 k (Nat.le_refl _) hv
 by_cases h0:r=0
 ·subst h0
  refine (right_z g 0 k cap q s z w (by omega) (by omega) hq (by omega) (by omega) hN).mono ?_
  rintro e w' ⟨g',k',cap',b,rfl,hk',hN',hb⟩
  exact ⟨_,b,rfl,key w' g' k' cap' hk' hN',hb⟩
 ·refine (right_p g 0 k cap q r s z w (by omega) (by omega) hr6 (by omega) hq hr (by omega) hN).mono ?_
  rintro e w' ⟨g',k',cap',b,rfl,hk',hN',hb⟩
  exact ⟨_,b,rfl,key w' g' k' cap' hk' hN',hb⟩
theorem rleft_nv {K A:Nat}{v:Value}{w:World}(s:Nat)(hK:K<1000)(hs:s<=600)(h:NV K A v w) :
  Calls Tryz.prog 22 #[v,.int .i64 s] w fun e w'=>∃ v',e=.returned v'/\NV (K+11) (A*2^s) v' w'/\Below w.heap.size w w':=by
 obtain ⟨g,k,cap,z,rfl,hk,hN,hv⟩:=h
 obtain ⟨q,hq⟩:∃ q:Nat,(s:Int)/64=q:=⟨((s:Int)/64).toNat,by omega⟩
 obtain ⟨r,hr⟩:∃ r:Nat,(s:Int)%64=r:=⟨((s:Int)%64).toNat,by omega⟩
 have hsn:s=64*q+r:=by omega
 have hr6:r<64:=by omega
 have key:∀ (w':World) (g' k' cap':Nat),k'<=k+q+1->Num w' (some ⟨g',0,none⟩) k' cap' (finL z q r)->NV (K+11) (A*2^s) (.slice (some ⟨g',0,none⟩) k' cap') w':=fun w' g' k' cap' hk' hN'=>by
  refine ⟨g',k',cap',_,rfl,by omega,hN',?_⟩
  rw [← val_more hN'.2.2.2.1 (k+q+1) hk',finL_val hN.2.2.1 hN.2.2.2.1 q hr6,hv,hsn]
  simp
 by_cases h0:r=0
 ·subst h0
  refine (left_z g 0 k cap q s z w (by omega) (by omega) hq (by omega) (by omega) hN).mono ?_
  rintro e w' ⟨g',k',cap',rfl,hk',hN',hb⟩
  exact ⟨_,rfl,key w' g' k' cap' hk' hN',hb⟩
 ·refine (left_p g 0 k cap q r s z w (by omega) (by omega) hr6 (by omega) hq hr (by omega) hN).mono ?_
  rintro e w' ⟨g',k',cap',rfl,hk',hN',hb⟩
  exact ⟨_,rfl,key w' g' k' cap' hk' hN',hb⟩
def NT (K V:Nat)(v:Value)(w:World):Prop:=∃ g k cap z,v=.slice (some ⟨g,0,none⟩) k cap/\k<=K/\Num w (some ⟨g,0,none⟩) k cap z/\val z k=(V:Int)/\sizeL z k=k
theorem NT.nv {K V:Nat}{v:Value}{w:World}(h:NT K V v w):NV K V v w:=by
 obtain ⟨g,k,cap,z,h1,h2,h3,h4,_⟩:=h
 exact ⟨g,k,cap,z,h1,h2,h3,h4⟩
theorem NT.next {K V:Nat}{v:Value}{w w':World}(h:NT K V v w)(hb:Below w.heap.size w w'):NT K V v w':=by
 obtain ⟨g,k,cap,z,h1,h2,h3,h4,h5⟩:=h
 exact ⟨g,k,cap,z,h1,h2,h3.next hb,h4,h5⟩
theorem rless_nt {K K' A B:Nat}{v v':Value}{w:World}(hK:K<1000)(hK':K'<1000)(h:NV K A v w)(h':NV K' B v' w)(hv:B<=A) :
  CE 50 #[v,v'] w (NT (K+K') (A-B)):=by
 obtain ⟨g,k,c,z,rfl,hk,hN,hz⟩:=h
 obtain ⟨g2,k2,c2,z2,rfl,hk2,hN2,hz2⟩:=h'
 refine (rless_tr _ _ k c k2 c2 z z2 w (by omega) (by omega) hN hN2).mono fun e w' ⟨g3,k3,cap3,e1,hk3,hN3,ht,hB⟩=>⟨_,e1,⟨g3,k3,cap3,_,rfl,by omega,hN3,?_,ht⟩,hB⟩
 have ex:=val_more hN.2.2.2.1 (max k k2) (by omega)
 have ey:=val_more hN2.2.2.2.1 (max k k2) (by omega)
 have e:=dif_val hN.2.2.1 hN2.2.2.1 (max k k2)
 rw [borW_end hN.2.2.1 hN2.2.2.1 (by omega),ex,ey] at e
 rw [← val_more hN3.2.2.2.1 _ hk3,val_congr (y:=difW z z2) (max k k2) fun i hi=>by unfold difZ;rw [if_pos hi]]
 omega
theorem radd_nv {K K' A B:Nat}{v v':Value}{w:World}(hK:K<1000000)(hK':K'<1000000)(h:NV K A v w)(h':NV K' B v' w) :
  CE 21 #[v,v'] w (NV (K+K'+1) (A+B)):=by
 obtain ⟨g,k,c,z,rfl,hk,hN,hz⟩:=h
 obtain ⟨g2,k2,c2,z2,rfl,hk2,hN2,hz2⟩:=h'
 refine (radd_val _ _ k c k2 c2 z z2 w (by omega) (by omega) hN hN2).mono fun e w' ⟨g3,k3,cap3,z3,e1,hk3,hN3,hv3,hB⟩=>⟨_,e1,⟨g3,k3,cap3,z3,rfl,by omega,hN3,?_⟩,hB⟩
 rw [hv3,hz,hz2];omega
theorem NT.zero {K V:Nat}{v:Value}{w:World}(h:NT K V v w):∃ g k cap,v=.slice (some ⟨g,0,none⟩) k cap/\k<=K/\(k=0↔V=0):=by
 obtain ⟨g,k,cap,z,h1,h2,h3,h4,h5⟩:=h
 refine ⟨g,k,cap,h1,h2,?_⟩
 constructor
 ·intro hk;subst hk
  have:val z 0=0:=rfl
  omega
 ·intro hV
  rcases Nat.eq_zero_or_pos k with hk|hk
  ·exact hk
  ·exfalso
   have ht:=sizeL_top (x:=z) k (by omega)
   rw [h5] at ht
   obtain ⟨j,rfl⟩:∃ j,k=j+1:=⟨k-1,by omega⟩
   have hs:val z (j+1)=val z j+z j*18446744073709551616^j:=rfl
   have hb:=val_bd h3.2.2.1 j
   have hp:=pw_pos j
   have hj:=h3.2.2.1 j
   have hz:z j≠0:=ht
   have:1*18446744073709551616^j<=z j*18446744073709551616^j:=Int.mul_le_mul_of_nonneg_right (by omega) (Int.le_of_lt hp)
   omega
section
attribute [local go_sem ↓] Go.wp_at_zero Go.wp_at_succ
theorem nv_low {k V:Nat}{z:Nat->Int}(hz:Words z)(h0:∀ i,k<=i->z i=0)(hv:val z k=(V:Int)):val z 4=((V%2^256:Nat):Int):=by
 have h1:val z (4+k)=(V:Int):=by rw [val_more h0 (4+k) (by omega),hv]
 rw [val_split z 4 k] at h1
 have hb:=val_bd hz 4
 have e4:(18446744073709551616:Int)^4=((2^256:Nat):Int):=by decide
 rw [e4] at h1 hb
 have h5:=congrArg (·%((2^256:Nat):Int)) h1
 simp only [Int.add_mul_emod_self_right,Int.emod_eq_of_lt hb.1 hb.2] at h5
 rw [h5]
 rfl
theorem bits_num (g k cap:Nat)(z:Nat->Int)(w:World)(h:Num w (some ⟨g,0,none⟩) k cap z) :
  CB 28 #[.slice (some ⟨g,0,none⟩) k cap] w (.agg (arrOf z 4)):=by
 have hw:=fun (i:Nat) (o1 o2:Obj)=>word_any (some ⟨g,0,none⟩) k cap i z ((w.alloc o1).alloc o2) ((h.next (below1 w _)).next (below1 _ _))
 clear h
 go_enter Tryz.func28,Tryz.ntmps28
 go_wp2
 go_loopw [4,5] (fun u4 i wr=>∃ (j:Nat) (ss:Array Value),j<=4/\i=.int .i64 j/\ss.size=4/\(∀ q h,ss[q]'h=Value.int .u64 (if q<j then z q else 0))/\wr=(w.alloc (.cells #[.int .u64 0,.int .u64 0,.int .u64 0,.int .u64 0] 24)).alloc (.cells ss 24)) (fun _ i _=>4-(intOf i).toNat)
 case atStart=>exact ⟨0,_,Nat.zero_le _,rfl,rfl,by intro q h;have h':q<4:=h;match q,h' with|0,_=>rfl|1,_=>rfl|2,_=>rfl|3,_=>rfl,rfl⟩
 case round =>
  obtain ⟨j,ss,hj,rfl,hsz,hss,rfl⟩:=hrel
  by_cases h4:j<4
  ·have h4i:(j:Int)<4:=by omega
   have h4s:j<ss.size:=by omega
   have hsk:ss[j]?=some (.int .u64 0):=by rw [Array.getElem?_eq_getElem h4s,hss j h4s,if_neg (by omega)]
   have HR:Hid (∀ (i:Nat) (h:i<(ss.setIfInBounds j (.int .u64 (z j))).size),(ss.setIfInBounds j (.int .u64 (z j)))[i]'h=Value.int .u64 (if i<j+1 then z i else 0)):=set_next hss
   have hwj:=hw j (.cells #[.int .u64 0,.int .u64 0,.int .u64 0,.int .u64 0] 24) (.cells ss 24)
   clear hss hw
   go_wp2_with (go_at_call 55;refine hwj.mono ?_;rintro e w' ⟨rfl,rfl⟩)
   go_roundw
   case rel=>exact ⟨j+1,ss.setIfInBounds j (.int .u64 (z j)),by omega,by go_num,by simp [hsz],HR.out,rfl⟩
   case measure=>simp [intOf];omega
  ·obtain rfl:j=4:=by omega
   have hss':∀ q h,ss[q]'h=Value.int .u64 (z q):=by
    intro q h;rw [hss q h,if_pos (by omega)]
   clear hss hw
   go_wp2
   exact bodyPost_ret (v:=.agg (arrOf z 4)) (by simp [results,Tryz.results28,go_sem];rfl) rfl ⟨rfl,((Below.refl _ _).alloc (Nat.le_refl _) _).alloc (by simp) _⟩
theorem bits_nv {K V:Nat}{v:Value}{w:World}(h:NV K V v w) :
  CB 28 #[v] w (A4 V):=by
 obtain ⟨g,k,cap,z,rfl,hk,hN,hv⟩:=h
 refine (bits_num g k cap z w hN).mono ?_
 rintro e w' ⟨rfl,hb⟩
 refine ⟨?_,hb⟩
 rw [arr_A4 hN.2.2.1 (nv_low hN.2.2.1 hN.2.2.2.1 hv)]
theorem number_nv {K V:Nat}{v:Value}{w:World}(h:NV K V v w)(hK:K<1000)(hV:V<9223372036854775808) :
    Calls Tryz.prog 53 #[v] w fun e w'=>e=.returned (.int .i64 V)/\w'=w:=by
  obtain ⟨g,k,cap,z,rfl,hk,hN,hv⟩:=h
  obtain ⟨h1,h2,h3,h4,h5⟩:=hN
  rcases h5 with ⟨h5,_⟩|⟨b,off,e,hb,hc⟩
  · cases h5
  · cases e
    rcases Nat.eq_zero_or_pos k with hk0|hk0
    · subst hk0
      have : V = 0 := by have : val z 0 = 0 := rfl
                         omega
      subst this
      go_enter Tryz.func53,Tryz.ntmps53
      go_wp2
      go_ret
      exact ⟨rfl,rfl⟩
    · have hc0:=hc 0 hk0
      have hz0:=h3 0
      have e0:z 0=(V:Int):=by
        have hl:=nv_low h3 h4 hv
        obtain ⟨j,rfl⟩:∃ j,k=1+j:=⟨k-1,by omega⟩
        have hs:=val_split z 1 j
        have hb2:=val_bd (segW_words h3 1 j) j
        have h10:val z 1=z 0:=by show val z 0+z 0*18446744073709551616^0=z 0;simp [val]
        rw [hv,h10] at hs
        simp only [Int.pow_one] at hs
        have hm:0<=val (segW z 1 j) j:=hb2.1
        by_cases hp:0<val (segW z 1 j) j
        · exfalso;omega
        · have:val (segW z 1 j) j=0:=by omega
          rw [this] at hs;omega
      have hk1:¬ ((k:Int)=0):=by omega
      rw [e0] at hc0
      simp only [Nat.add_zero] at hc0
      have hkb:(k==0)=false:=by simp;omega
      have hki:(0:Int)<k:=by omega
      clear hc h3 h4 hv e0 hz0
      go_enter Tryz.func53,Tryz.ntmps53
      go_wp2
      go_ret
      exact ⟨rfl,rfl⟩
theorem box_nv {w0 w:World}{B:Nat}{t:TypeId}(hB:B<2^256)(hb:Below (w0.alloc (.cells #[.int .u64 (W4 B 0),.int .u64 (W4 B 1),.int .u64 (W4 B 2),.int .u64 (W4 B 3)] t)).heap.size (w0.alloc (.cells #[.int .u64 (W4 B 0),.int .u64 (W4 B 1),.int .u64 (W4 B 2),.int .u64 (W4 B 3)] t)) w) :
  NV 4 B (.slice (some ⟨w0.heap.size,0,none⟩) 4 4) w :=
 ⟨_,4,4,_,rfl,Nat.le_refl _,box_num (W4_words B) (A4_get B) hb,by
  rw [val_congr (x:=lowW (W4 B) 4) (y:=W4 B) 4 (fun i hi=>lowW_lt hi),W4_val4 hB]⟩
theorem field_any (B at_ n:Nat)(w:World)(hB:B<2^256)(ha:at_<=600)(hn:n<=600) :
  CE 52 #[A4 B,.int .i64 at_,.int .i64 n] w (NT 19 (B/2^at_%2^n)):=by
 have hbx:=box_nv (w0:=w) (B:=B) (t:=24) hB (Below.refl _ _)
 go_enter Tryz.func52,Tryz.ntmps52
 go_wp2_with (first
  | (have:=hA2;go_at_call 22;refine (rleft_nv n (by decide) hn hh).mono ?_;rintro e w3 ⟨v3,rfl,hl,hb3⟩;replace hx:=hx.next hb3;have hA3:=bnext hA2 hb3)
  | (have:=hA1;go_at_call 49;refine (rright_nv n (by decide) hn hx).mono ?_;rintro e w2 ⟨v2,b2,rfl,hh,hb2⟩;replace hx:=hx.next hb2;have hA2:=bnext hA1 hb2)
  | (go_at_call 49;refine (rright_nv at_ (by decide) ha hbx).mono ?_;rintro e w1 ⟨v1,b1,rfl,hx,hb1⟩;have hA1:=bnext (w0:=w) bgo hb1)
  | (go_at_call 50;refine (rless_nt (by decide) (by decide) hx hl (Nat.div_mul_le_self _ _)).mono ?_;rintro e w4 ⟨v4,rfl,hr,hb4⟩;have hA4:=bnext hA3 hb4))
 go_ret
 refine ⟨_,rfl,?_,hA4⟩
 rw [show B/2^at_%2^n=B/2^at_-B/2^at_/2^n*2^n by have:=Nat.div_add_mod' (B/2^at_) (2^n);omega]
 exact hr
end
structure DF where
 t:Nat
 w:Nat
 j:Nat
 l:Int
 dn:Bool
def DF.ok (f:DF):Prop:=(f.t=20/\f.w=6/\f.j=2/\f.l=-101)∨(f.t=50/\f.w=8/\f.j=5/\f.l=-398)∨(f.t=110/\f.w=12/\f.j=11/\f.l=-6176)
def vR (f:DF)(B:Nat):Nat:=B%2^f.t
def vG (f:DF)(B:Nat):Nat:=B/2^f.t%2^(f.w+5)
def vS (f:DF)(B:Nat):Bool:=decide (B/2^(f.t+(f.w+5))%2=1)
def vV (w G:Nat):Nat:=G/2^w
def vF (dn:Bool)(w G:Nat):Nat :=
 if dn then (if vV w G<24 then vV w G/8*2^w+G%2^w else vV w G/2%4*2^w+G%2^w)
 else (if vV w G<24 then G/8 else G/2%2^(w+2))
def vL (dn:Bool)(w G:Nat):Nat :=
 if dn then (if vV w G<24 then vV w G%8 else 8+vV w G%2) else (if vV w G<24 then G%8 else 8+G%2)
def vT (f:DF)(R:Nat):Nat:=if f.dn then dlU f.j R else R
def vQ (f:DF):Nat:=if f.dn then 10^(3*f.j) else 2^f.t
def vD (f:DF)(s:Bool)(G R:Nat):Dat :=
 if vV f.w G=30 then ⟨2,s,false,0,0⟩
 else if vV f.w G=31 then ⟨3,s,decide (G/2^(f.w-1)%2=1),0,if vT f R<10^(3*f.j) then vT f R else 0⟩
 else ⟨1,s,false,(vF f.dn f.w G:Int)+f.l,if vL f.dn f.w G*vQ f+vT f R<10^(3*f.j+1) then vL f.dn f.w G*vQ f+vT f R else 0⟩
def vM (f:DF)(B:Nat):Dat:=vD f (vS f B) (vG f B) (vR f B)
def vI (f:DF)(d:Dat):Prop :=
 (d.c=1/\d.g=false/\d.k<10^(3*f.j+1)/\f.l<=d.x/\d.x<=f.l+3*2^f.w-1)∨(d.c=2/\d.g=false/\d.k=0/\d.x=0)∨(d.c=3/\d.x=0/\d.k<10^(3*f.j))
def vN (dn:Bool)(w E a:Nat):Nat :=
 if dn then (if 8<=a then 24+E/2^w*2+a%2 else E/2^w*8+a)*2^w+E%2^w
 else (if 8<=a then 3*2^(w+3)+E*2+a%2 else E*8+a)
def vPG (f:DF)(d:Dat):Nat :=
 if d.c=2 then 30*2^f.w else if d.c=3 then 31*2^f.w+(if d.g then 2^(f.w-1) else 0)
 else vN f.dn f.w (d.x-f.l).toNat (d.k/vQ f)
def vPR (f:DF)(d:Dat):Nat :=
 if d.c=2 then 0 else if d.c=3 then (if f.dn then dlP f.j d.k else d.k)
 else if f.dn then dlP f.j (d.k%10^(3*f.j)) else d.k%2^f.t
def vP (f:DF)(d:Dat):Nat:=(if d.s then 2^(f.t+(f.w+5)) else 0)+vPG f d*2^f.t+vPR f d
theorem ten3 (j:Nat):(10:Nat)^(3*j)=1000^j:=by rw [Nat.pow_mul]
theorem DF.ok.t10 {f:DF}(h:f.ok):f.t=10*f.j:=by
 rcases h with ⟨h1,h2,h3,h4⟩|⟨h1,h2,h3,h4⟩|⟨h1,h2,h3,h4⟩<;>omega
theorem DF.ok.pt {f:DF}(h:f.ok):2^f.t=1024^f.j:=by rw [h.t10,Nat.pow_mul]
theorem v_parts (f:DF)(s:Bool){G R:Nat}(hG:G<2^(f.w+5))(hR:R<2^f.t) :
  vR f ((if s then 2^(f.t+(f.w+5)) else 0)+G*2^f.t+R)=R/\vG f ((if s then 2^(f.t+(f.w+5)) else 0)+G*2^f.t+R)=G/\vS f ((if s then 2^(f.t+(f.w+5)) else 0)+G*2^f.t+R)=s:=by
 have e:(if s then 2^(f.t+(f.w+5)) else 0)+G*2^f.t+R=((if s then 1 else 0)*2^(f.w+5)+G)*2^f.t+R:=by
  cases s
  ·simp
  ·simp only [if_true,Nat.one_mul,Nat.add_mul]
   rw [← Nat.pow_add,Nat.add_comm (f.w+5) f.t]
 rw [e]
 have hT:0<2^f.t:=Nat.two_pow_pos _
 have hH:0<2^(f.w+5):=Nat.two_pow_pos _
 have h1:(((if s then 1 else 0)*2^(f.w+5)+G)*2^f.t+R)%2^f.t=R:=by rw [Nat.mul_comm,Nat.mul_add_mod,Nat.mod_eq_of_lt hR]
 have h2:(((if s then 1 else 0)*2^(f.w+5)+G)*2^f.t+R)/2^f.t=(if s then 1 else 0)*2^(f.w+5)+G:=by rw [Nat.mul_comm,Nat.mul_add_div hT,Nat.div_eq_of_lt hR,Nat.add_zero]
 have h3:((if s then 1 else 0)*2^(f.w+5)+G)%2^(f.w+5)=G:=by rw [Nat.mul_comm,Nat.mul_add_mod,Nat.mod_eq_of_lt hG]
 have h4:((if s then 1 else 0)*2^(f.w+5)+G)/2^(f.w+5)=(if s then 1 else 0):=by rw [Nat.mul_comm,Nat.mul_add_div hH,Nat.div_eq_of_lt hG,Nat.add_zero]
 refine ⟨h1,?_,?_⟩
 ·unfold vG;rw [h2,h3]
 ·unfold vS;rw [Nat.pow_add 2 f.t (f.w+5),← Nat.div_div_eq_div_mul,h2,h4];cases s<;>rfl
theorem vG_lt (f:DF)(B:Nat):vG f B<2^(f.w+5):=Nat.mod_lt _ (Nat.two_pow_pos _)
theorem vR_lt (f:DF)(B:Nat):vR f B<2^f.t:=Nat.mod_lt _ (Nat.two_pow_pos _)
theorem vT_lt {f:DF}(h:f.ok)(hd:f.dn=true)(R:Nat):vT f R<10^(3*f.j):=by
 unfold vT
 rw [hd,if_pos rfl,ten3]
 exact dlU_lt _ _
theorem vD_is {f:DF}(h:f.ok)(s:Bool){G R:Nat}(hG:G<2^(f.w+5))(hR:R<2^f.t):vI f (vD f s G R):=by
 have hp:0<(10:Nat)^(3*f.j):=Nat.pow_pos (by decide)
 have hp':0<(10:Nat)^(3*f.j+1):=Nat.pow_pos (by decide)
 unfold vD
 by_cases h30:vV f.w G=30
 ·rw [if_pos h30];exact Or.inr (Or.inl ⟨rfl,rfl,rfl,rfl⟩)
 ·rw [if_neg h30]
  by_cases h31:vV f.w G=31
  ·rw [if_pos h31]
   refine Or.inr (Or.inr ⟨rfl,rfl,?_⟩)
   show (if vT f R<10^(3*f.j) then vT f R else 0)<10^(3*f.j)
   split<;>omega
  ·rw [if_neg h31]
   refine Or.inl ⟨rfl,rfl,?_,?_,?_⟩
   ·show (if vL f.dn f.w G*vQ f+vT f R<10^(3*f.j+1) then vL f.dn f.w G*vQ f+vT f R else 0)<10^(3*f.j+1)
    split<;>omega
   ·show f.l<=(vF f.dn f.w G:Int)+f.l
    omega
   ·show (vF f.dn f.w G:Int)+f.l<=f.l+3*2^f.w-1
    have:vF f.dn f.w G<3*2^f.w:=by
     unfold vF
     unfold vV at *
     rcases h with ⟨h1,h2,h3,h4⟩|⟨h1,h2,h3,h4⟩|⟨h1,h2,h3,h4⟩<;>rw [h2] at hG h30 h31 ⊢<;>cases f.dn<;>simp only [Bool.false_eq_true,if_false,if_true]<;>simp only [Nat.reducePow,Nat.reduceAdd] at*<;> split<;>omega
    have e:((3*2^f.w:Nat):Int)=3*2^f.w:=by simp
    omega
theorem vM_is {f:DF}(h:f.ok)(B:Nat):vI f (vM f B):=vD_is h _ (vG_lt f B) (vR_lt f B)
theorem vPG_lt {f:DF}(h:f.ok){d:Dat}(hd:vI f d):vPG f d<2^(f.w+5):=by
 have hq:d.c=1->d.k/vQ f<=9:=fun h1=>by
  rcases hd with ⟨_,_,hk,_,_⟩|⟨h2,_⟩|⟨h2,_⟩
  ·unfold vQ
   rcases h with ⟨h1,h2,h3,h4⟩|⟨h1,h2,h3,h4⟩|⟨h1,h2,h3,h4⟩<;>rw [h3] at hk ⊢<;>rw [h1]<;>cases f.dn<;>simp only [Bool.false_eq_true,if_false,if_true]<;>simp only [Nat.reducePow,Nat.reduceAdd,Nat.reduceMul] at*<;> omega
  ·omega
  ·omega
 unfold vPG
 rcases hd with ⟨c1,g1,hk,hx,hx'⟩|⟨c1,g1,hk,hx⟩|⟨c1,hx,hk⟩
 ·have h9:=hq c1
  rw [if_neg (by omega),if_neg (by omega)]
  generalize d.k/vQ f=a at *
  have hE:(d.x-f.l).toNat<3*2^f.w:=by
   have e:((3*2^f.w:Nat):Int)=3*2^f.w:=by simp
   omega
  generalize (d.x-f.l).toNat=E at *
  unfold vN
  rcases h with ⟨h1,h2,h3,h4⟩|⟨h1,h2,h3,h4⟩|⟨h1,h2,h3,h4⟩<;>rw [h2] at hE ⊢<;>cases f.dn<;>simp only [Bool.false_eq_true,if_false,if_true]<;>simp only [Nat.reducePow,Nat.reduceAdd,Nat.reduceMul] at*<;> split<;>omega
 ·rw [if_pos c1]
  rcases h with ⟨h1,h2,h3,h4⟩|⟨h1,h2,h3,h4⟩|⟨h1,h2,h3,h4⟩<;>rw [h2]<;>decide
 ·rw [if_neg (by omega),if_pos c1]
  rcases h with ⟨h1,h2,h3,h4⟩|⟨h1,h2,h3,h4⟩|⟨h1,h2,h3,h4⟩<;>rw [h2]<;>cases d.g<;>decide
theorem vPR_lt {f:DF}(h:f.ok){d:Dat}(hd:vI f d):vPR f d<2^f.t:=by
 unfold vPR
 rcases hd with ⟨c1,g1,hk,hx,hx'⟩|⟨c1,g1,hk,hx⟩|⟨c1,hx,hk⟩
 ·rw [if_neg (by omega),if_neg (by omega)]
  split
  ·rw [h.pt];exact dlP_lt _ _
  ·exact Nat.mod_lt _ (Nat.two_pow_pos _)
 ·rw [if_pos c1];exact Nat.two_pow_pos _
 ·rw [if_neg (by omega),if_pos c1]
  split
  ·rw [h.pt];exact dlP_lt _ _
  ·refine Nat.lt_of_lt_of_le hk ?_
   rcases h with ⟨h1,h2,h3,h4⟩|⟨h1,h2,h3,h4⟩|⟨h1,h2,h3,h4⟩<;>rw [h1,h3]<;>decide
theorem vP_lt {f:DF}(h:f.ok){d:Dat}(hd:vI f d):vP f d<2^(f.t+(f.w+6)):=by
 have h1:=vPG_lt h hd
 have h2:=vPR_lt h hd
 unfold vP
 have e5:2^(f.t+(f.w+5))=2^(f.w+5)*2^f.t:=by rw [← Nat.pow_add,Nat.add_comm]
 have e6:2^(f.t+(f.w+6))=2*(2^(f.w+5)*2^f.t):=by rw [← Nat.pow_add,← Nat.pow_succ'];congr 1;omega
 have h3:(if d.s then 2^(f.t+(f.w+5)) else 0)<=2^(f.w+5)*2^f.t:=by split<;>omega
 have h4:(vPG f d+1)*2^f.t<=2^(f.w+5)*2^f.t:=Nat.mul_le_mul_right _ h1
 rw [Nat.add_mul,Nat.one_mul] at h4
 rw [e6]
 omega
theorem vP_256 {f:DF}(h:f.ok){d:Dat}(hd:vI f d):vP f d<2^256:=by
 refine Nat.lt_of_lt_of_le (vP_lt h hd) (Nat.pow_le_pow_right (by decide) ?_)
 rcases h with ⟨h1,h2,h3,h4⟩|⟨h1,h2,h3,h4⟩|⟨h1,h2,h3,h4⟩<;>omega
theorem vM_256 {f:DF}(h:f.ok)(B:Nat):(vM f B).k<2^256:=by
 have hi:=vM_is h B
 have e:(10:Nat)^(3*f.j+1)<=10^34:=Nat.pow_le_pow_right (by decide) (by rcases h with ⟨h1,h2,h3,h4⟩|⟨h1,h2,h3,h4⟩|⟨h1,h2,h3,h4⟩<;>omega)
 have e':(10:Nat)^(3*f.j)<=10^34:=Nat.pow_le_pow_right (by decide) (by rcases h with ⟨h1,h2,h3,h4⟩|⟨h1,h2,h3,h4⟩|⟨h1,h2,h3,h4⟩<;>omega)
 have e2:(10:Nat)^34<2^256:=by decide
 rcases hi with ⟨_,_,hk,_⟩|⟨_,_,hk,_⟩|⟨_,_,hk⟩<;>omega
theorem vN_back {f:DF}(h:f.ok){E a:Nat}(hE:E<3*2^f.w)(ha:a<=9):vF f.dn f.w (vN f.dn f.w E a)=E/\vL f.dn f.w (vN f.dn f.w E a)=a/\vV f.w (vN f.dn f.w E a)≠30/\vV f.w (vN f.dn f.w E a)≠31:=by
 unfold vF vL vN vV
 rcases h with ⟨h1,h2,h3,h4⟩|⟨h1,h2,h3,h4⟩|⟨h1,h2,h3,h4⟩<;>rw [h2] at hE ⊢<;>cases f.dn<;>simp only [Bool.false_eq_true,if_false,if_true]<;>simp only [Nat.reducePow,Nat.reduceAdd,Nat.reduceMul] at*<;> by_cases h8:8<=a
 all_goals simp only [h8,if_true,if_false]
 all_goals refine ⟨?_,?_,?_,?_⟩
 all_goals (try split)<;>omega
theorem vM_vP {f:DF}(h:f.ok){d:Dat}(hd:vI f d):vM f (vP f d)=d:=by
 obtain ⟨e1,e2,e3⟩:=v_parts f d.s (vPG_lt h hd) (vPR_lt h hd)
 unfold vM
 unfold vP
 rw [e1,e2,e3]
 obtain ⟨c,s,g,x,k⟩:=d
 unfold vD vPG vPR
 rcases hd with ⟨c1,g1,hk,hx,hx'⟩|⟨c1,g1,hk,hx⟩|⟨c1,hx,hk⟩
 ·simp only at c1 g1 hk hx hx'
  subst c1 g1
  simp only [show ¬ (1:Int)=2 by decide,show ¬ (1:Int)=3 by decide,if_false]
  have hE:(x-f.l).toNat<3*2^f.w:=by
   have e:((3*2^f.w:Nat):Int)=3*2^f.w:=by simp
   omega
  have ha:k/vQ f<=9:=by
   unfold vQ
   rcases h with ⟨h1,h2,h3,h4⟩|⟨h1,h2,h3,h4⟩|⟨h1,h2,h3,h4⟩<;>rw [h3] at hk ⊢<;>rw [h1]<;>cases f.dn<;>simp only [Bool.false_eq_true,if_false,if_true]<;>simp only [Nat.reducePow,Nat.reduceAdd,Nat.reduceMul] at*<;> omega
  obtain ⟨b1,b2,b3,b4⟩:=vN_back h hE ha
  rw [if_neg b3,if_neg b4,b1,b2]
  have ht:k/vQ f*vQ f+vT f (if f.dn then dlP f.j (k%10^(3*f.j)) else k%2^f.t)=k:=by
   unfold vT vQ
   cases f.dn
   ·simp only [Bool.false_eq_true,if_false]
    rw [Nat.mul_comm];exact Nat.div_add_mod k _
   ·simp only [if_true]
    rw [dl_there _ _ (by rw [← ten3];exact Nat.mod_lt _ (Nat.pow_pos (by decide))),Nat.mul_comm]
    exact Nat.div_add_mod k _
  rw [ht,if_pos hk]
  congr 1
  omega
 ·simp only at c1 g1 hk hx
  subst c1 g1 hk hx
  simp only [if_true]
  have:vV f.w (30*2^f.w)=30:=by unfold vV;exact Nat.mul_div_cancel _ (Nat.two_pow_pos _)
  rw [if_pos this]
 ·simp only at c1 hx hk
  subst c1 hx
  simp only [show ¬ (3:Int)=2 by decide,if_false,if_true]
  have hw:2^f.w=2*2^(f.w-1):=by rw [← Nat.pow_succ'];congr 1;rcases h with ⟨h1,h2,h3,h4⟩|⟨h1,h2,h3,h4⟩|⟨h1,h2,h3,h4⟩<;>omega
  have hp:=Nat.two_pow_pos (f.w-1)
  have h31:vV f.w (31*2^f.w+if g then 2^(f.w-1) else 0)=31:=by
   unfold vV
   rw [Nat.mul_comm,Nat.mul_add_div (Nat.two_pow_pos _),Nat.div_eq_of_lt (by split<;>omega)]
  have hg:decide ((31*2^f.w+if g then 2^(f.w-1) else 0)/2^(f.w-1)%2=1)=g:=by
   rw [hw,show 31*(2*2^(f.w-1))=2^(f.w-1)*62 by omega,Nat.mul_add_div hp]
   cases g
   ·simp
   ·simp only [if_true];rw [Nat.div_self hp];decide
  rw [if_neg (by rw [h31];decide),if_pos h31,hg]
  have ht:vT f (if f.dn then dlP f.j k else k)=k:=by
   unfold vT
   cases f.dn
   ·simp
   ·simp only [if_true]
    exact dl_there _ _ (by rw [← ten3];exact hk)
  rw [ht,if_pos hk]
theorem owns_new {w:World}{base g k cap n:Nat}{e:TypeId}{xs:List Value}(h:w.ownsRow base e 1 (.slice (some ⟨g,0,none⟩) k cap) n xs):base<=g:=by
 rcases h.2 with ⟨h,_⟩|⟨g',cap',cur,he,hb,_⟩
 ·cases h
 ·cases he;exact hb
theorem trimf_some (b off n c:Nat)(x:Nat->Int)(w:World)(hn:n<4294967296)(h:Num w (some ⟨b,off,none⟩) n c x) :
  Calls Tryz.prog 56 #[.slice (some ⟨b,off,none⟩) n c] w fun e w'=>∃ g cap,e=.returned (.slice (some ⟨g,0,none⟩) (sizeL x n) cap)/\Num w' (some ⟨g,0,none⟩) (sizeL x n) cap x/\Below w.heap.size w w'/\w.heap.size<=g:=by
 obtain ⟨h1,h2,h3,h4,h5⟩:=h
 have hc:b<w.heap.size/\∀ i,i<n->w.cell? ⟨b,off+i,none⟩=some (.int .u64 (x i)):=by
  rcases h5 with ⟨h,_⟩|⟨b',off',h,hbs,hc⟩
  ·cases h
  ·cases h;exact ⟨hbs,hc⟩
 obtain ⟨hbs,hc⟩:=hc
 clear h5
 obtain ⟨i0,hi,hz0,hz1,hz2⟩:=info_parts Tryz.info22
 unfold maxLen at h2
 go_enter Tryz.func56,Tryz.ntmps56
 go_wp2
 go_loop [3] (fun t=>∃ k:Nat,k<=n/\sizeL x k=sizeL x n/\(∀ i,k<=i->x i=0)/\t=.int .i64 k) (fun t=>(intOf t).toNat)
 case atStart=>exact ⟨n,Nat.le_refl _,rfl,h4,rfl⟩
 case round =>
  obtain ⟨k,hk,hs,hz,rfl⟩:=hrel
  clear h4
  by_cases h0:k=0
  ·subst h0
   have HS:Hid (sizeL x n=0):=hs.symm
   have HN:Hid (Num (w.alloc (.cells #[] 22)) (some ⟨w.heap.size,0,none⟩) 0 0 x):=⟨Nat.le_refl _,by unfold maxLen;omega,h3,hz,Or.inr ⟨w.heap.size,0,rfl,by simp,fun i hi=>by omega⟩⟩
   clear hs hz hc h3
   go_wp2
   go_ret
   refine ⟨w.heap.size,0,?_,?_,(Below.refl _ _).alloc (Nat.le_refl _) _,Nat.le_refl _⟩
   ·rw [HS.out];rfl
   ·rw [HS.out];exact HN.out
  ·obtain ⟨j,rfl⟩:∃ j,k=j+1:=⟨k-1,by omega⟩
   have hcj:=hc j (by omega)
   by_cases hzj:x j=0
   ·have HS:Hid (sizeL x j=sizeL x n):=by
     have:sizeL x (j+1)=sizeL x j:=by simp [sizeL,hzj]
     exact this.symm.trans hs
    have HZ:Hid (∀ i,j<=i->x i=0):=fun i hji=>by
     by_cases e:i=j
     ·rw [e];exact hzj
     ·exact hz i (by omega)
    clear hs hz hc
    go_wp2
    go_round
    case rel=>exact ⟨j,by omega,HS.out,HZ.out,by go_num⟩
    case measure=>simp [intOf]
   ·have HS:Hid (sizeL x n=j+1):=by
     have:sizeL x (j+1)=j+1:=by simp [sizeL,hzj]
     exact hs.symm.trans this
    have HZ:Hid (∀ i,j+1<=i->x i=0):=hz
    have HC:Hid (∀ i,i<n->w.cell? ⟨b,off+i,none⟩=some (.int .u64 (x i))):=hc
    clear hs hz hc
    have HOWN:(w.alloc (.cells #[] 22)).ownsRow w.heap.size 22 1 (.slice (some ⟨w.heap.size,0,none⟩) 0 0) 0 [] :=
     ⟨rfl,Or.inr ⟨w.heap.size,0,#[],rfl,Nat.le_refl _,(MapKept.heap_alloc w _).1,Nat.le_refl _,by unfold maxLen;omega,rfl,rfl⟩⟩
    have HNEWS:∀ (q:Nat) (u:Value),((List.range (j+1)).map fun i=>Value.int .u64 (x i))[q]?=some u->(w.alloc (.cells #[] 22)).cell? ((⟨b,off,none⟩:Addr).add q)=some u:=by
     intro q u hq
     have hql:q<j+1:=by
      rcases Nat.lt_or_ge q (j+1) with h|h
      ·exact h
      ·rw [List.getElem?_eq_none (by simpa using h)] at hq;cases hq
     have e2:u=.int .u64 (x q):=by simpa [hql] using hq.symm
     rw [e2]
     have ea:(⟨b,off,none⟩:Addr).add q=⟨b,off+q,none⟩:=by simp [Addr.add]
     rw [ea]
     exact (((Below.refl w.heap.size w).alloc (Nat.le_refl _) _).cell (p:=⟨b,off+q,none⟩) hbs).trans (HC.out q (by omega))
    have HONE:∀ u ∈ ((List.range (j+1)).map fun i=>Value.int .u64 (x i)),u.oneCell'=true:=by
     intro u hu
     obtain ⟨q,_,rfl⟩:=List.mem_map.1 hu
     rfl
    go_wp2_with (at_builtin;refine wpList_append_lies _ rfl (.tmp 18) (.tmp 21) 48 rfl w.heap.size 22 i0 (.int .u64 0) 1 8 Tryz.underlying48 hi hz0 hz1 hz2 rfl (by decide) (.slice (some ⟨w.heap.size,0,none⟩) 0 0) 0 [] rfl HOWN ⟨b,off,none⟩ (j+1) c ((List.range (j+1)).map fun i=>Value.int .u64 (x i)) rfl (by simp) HNEWS HONE (by omega) (by unfold maxLen;omega) (by omega) (by simp) (w.heap.size+1) (by simp) ?_;intro g cap w1 hown hgrow hat hlt;clear HOWN HNEWS HONE)
    have hown':w1.ownsRow w.heap.size 22 1 (.slice (some ⟨g,0,none⟩) (j+1) cap) (j+1) ((List.range (j+1)).map fun i=>Value.int .u64 (x i)):=by
     have e0:0+(j+1)=j+1:=by omega
     rw [e0] at hown
     simpa using hown
    have HG:=owns_new hown'
    have HN:=num_of_owns (w:=w) h3 HZ.out hown' hlt
    have HB:Below w.heap.size w w1:=((Below.refl _ _).alloc (Nat.le_refl _) _).grown hgrow (by simp) (by intro k hk;cases hk;exact Nat.le_refl _)
    clear hown hown' hgrow
    go_wp2
    go_ret
    refine ⟨g,cap,?_,?_,HB,HG⟩
    ·rw [HS.out];simp
    ·rw [HS.out];exact HN
theorem trimf_nil (x:Nat->Int)(w:World)(hx:∀ i,x i=0) :
  Calls Tryz.prog 56 #[.slice none 0 0] w fun e w'=>∃ g cap,e=.returned (.slice (some ⟨g,0,none⟩) 0 cap)/\Num w' (some ⟨g,0,none⟩) 0 cap x/\Below w.heap.size w w'/\w.heap.size<=g:=by
 go_enter Tryz.func56,Tryz.ntmps56
 go_wp2
 go_loop [3] (fun t=>t=.int .i64 0) (fun t=>(intOf t).toNat)
 case atStart=>rfl
 case round =>
  subst hrel
  go_wp2
  go_ret
  refine ⟨w.heap.size,0,rfl,?_,(Below.refl _ _).alloc (Nat.le_refl _) _,Nat.le_refl _⟩
  exact ⟨Nat.le_refl _,by unfold maxLen;omega,fun i=>by rw [hx i];decide,fun i _=>hx i,Or.inr ⟨w.heap.size,0,rfl,by simp,fun i hi=>by omega⟩⟩
theorem trimf_any (a:Option Addr)(n c:Nat)(x:Nat->Int)(w:World)(hn:n<4294967296)(h:Num w a n c x) :
  Calls Tryz.prog 56 #[.slice a n c] w fun e w'=>∃ g cap,e=.returned (.slice (some ⟨g,0,none⟩) (sizeL x n) cap)/\Num w' (some ⟨g,0,none⟩) (sizeL x n) cap x/\Below w.heap.size w w'/\w.heap.size<=g:=by
 have h':=h
 obtain ⟨h1,h2,h3,h4,h5⟩:=h'
 rcases h5 with ⟨rfl,rfl⟩|⟨b,off,rfl,_,_⟩
 ·obtain rfl:n=0:=by omega
  exact trimf_nil x w (fun i=>h4 i (Nat.zero_le _))
 ·exact trimf_some b off n c x w hn h
theorem off_any (c:Int)(w:World)(hc:0<=c/\c<=18446744073709551615) :
  Calls Tryz.prog 118 #[.int .u64 c] w fun e w'=>∃ g k cap z,e=.returned (.slice (some ⟨g,0,none⟩) k cap)/\k<=1/\Num w' (some ⟨g,0,none⟩) k cap z/\val z k=c/\Below w.heap.size w w'/\sizeL z k=k:=by
 have hN:=num_one w c hc
 have hT:=trim_any _ 1 1 (oneW c) _ (by omega) hN
 have hle:=sizeL_le (oneW c) 1
 have HV:Hid (val (oneW c) (sizeL (oneW c) 1)=c):=by show _=_;rw [val_bare,val_one _ 1 (by omega)]
 have HB:=below1 w (.cells #[.int .u64 c] 22)
 have HST:Hid (sizeL (oneW c) (sizeL (oneW c) 1)=sizeL (oneW c) 1):=sizeL_sizeL _ _
 generalize sizeL (oneW c) 1=s at *
 clear hN
 go_enter Tryz.func118,Tryz.ntmps118
 go_wp2_with (go_at_call 56;refine hT.mono ?_;rintro e w1 ⟨g,cap,rfl,hN,hB⟩)
 go_ret
 exact ⟨g,s,cap,_,rfl,hle,hN,HV.out,HB.trans (hB.mono HB.size),HST.out⟩
def quoKc (x:Nat->Int)(d:Int)(s k i:Nat):Int:=if k<=i/\i<s then quoW x d s i else 0
theorem smf_any (a:Option Addr)(s c:Nat)(x:Nat->Int)(d:Int)(w:World)(hs:s<100000)(h:Num w a s c x)(hd:0<d/\d<=18446744073709551615) :
  Calls Tryz.prog 91 #[.slice a s c,.int .u64 d] w fun e w'=>∃ g k cap z g' k' cap' z',e=.returned (.tuple #[.slice (some ⟨g,0,none⟩) k cap,.slice (some ⟨g',0,none⟩) k' cap'])/\k<=s/\k'<=1/\Num w' (some ⟨g,0,none⟩) k cap z/\Num w' (some ⟨g',0,none⟩) k' cap' z'/\val z k=val x s/d/\sizeL z k=k/\val z' k'=val x s%d/\sizeL z' k'=k'/\Below w.heap.size w w'/\w.heap.size<=g:=by
 have hx:=h.2.2.1
 have H:=fun j hj w=>limDiv_ok x d s hx hd j hj w
 have hd0:(d==0)=false:=by simp;omega
 have hmk:=fun w=>make_any (s:Int) s rfl (by omega) w
 have hA:=apart_of h
 have hBW:=below1 w (.cells (arrOf (fun _=>0) s) 22)
 have hnx:=h.next hBW
 have hO:=Own.new w (fun _=>0) s
 have hqv:=quo_val hx hd.1 s
 have HQW:Hid (Words (quoW x d s)):=quoW_words hx hd.1 s
 have hrb:=remJ_bd x d s s hd.1
 have HB:Hid (Below w.heap.size w (w.alloc (.cells (arrOf (fun _=>0) s) 22))):=hBW
 clear hBW h hx
 go_enter Tryz.func91,Tryz.ntmps91
 go_wp2
 generalize w.alloc (.cells (arrOf (fun _=>0) s) 22)=wA at *
 go_loopw [7,8,19] (fun c i u19 wr=>∃ (k:Nat),k<=s/\i=.int .i64 ((k:Int)-1)/\c=.int .u64 (remJ x d s (s-k))/\Own w.heap.size s (quoKc x d s k) wr/\Upd w.heap.size wA wr) (fun _ i _ _=>(intOf i+1).toNat)
 case atStart=>exact ⟨s,Nat.le_refl _,by go_num,by rw [Nat.sub_self];rfl,hO.congr fun i _=>by unfold quoKc;rw [if_neg (by omega)],Upd.refl _ _⟩
 case round =>
  clear hO
  obtain ⟨k,hk,rfl,rfl,hO,hU⟩:=hrel
  by_cases h0:k=0
  ·subst h0
   have hN:=hO.num (x:=quoKc x d s 0) (fun i=>by unfold quoKc;split;exact HQW.out i;decide) 0 s s (by omega) (Nat.le_refl _) (by unfold maxLen;omega)
   have hT:=trimf_any _ s s _ _ (by omega) hN
   have hle:=sizeL_le (segW (quoKc x d s 0) 0 s) s
   have HV:Hid (val (segW (quoKc x d s 0) 0 s) (sizeL (segW (quoKc x d s 0) 0 s) s)=val x s/d):=by
    show _=_
    rw [val_bare,val_congr (y:=quoW x d s) s fun i hi=>by rw [segW_lt _ _ _ i hi,Nat.zero_add];unfold quoKc;rw [if_pos (by omega)],hqv.1]
   have HR:Hid (remJ x d s s=val x s%d):=hqv.2
   have HBr:Hid (Below w.heap.size w wr):=HB.out.trans (hU.below (Nat.le_refl _))
   have HST:Hid (sizeL (segW (quoKc x d s 0) 0 s) (sizeL (segW (quoKc x d s 0) 0 s) s)=sizeL (segW (quoKc x d s 0) 0 s) s):=sizeL_sizeL _ _
   generalize segW (quoKc x d s 0) 0 s=qz at *
   generalize sizeL qz s=k1 at *
   have hof:=fun wr=>off_any (remJ x d s s) wr (by omega)
   rw [Nat.sub_zero]
   generalize remJ x d s s=rm at *
   clear hN hO hU H hqv
   go_wp2_with (go_at_call 56;refine hT.mono ?_;rintro e w1 ⟨g,cap,rfl,hN1,hB1,hG1⟩;clear hT)
   go_wp2_with (go_at_call 118;refine (hof _).mono ?_;rintro e w2 ⟨g2,k2,p2,z2,rfl,hk2,hN2,hv2,hB2,hS2⟩;clear hof)
   go_ret2
   exact ⟨g,k1,cap,qz,g2,k2,p2,z2,rfl,hle,hk2,hN1.next hB2,hN2,HV.out,HST.out,by rw [hv2,HR.out],hS2,(HBr.out.trans (hB1.mono HBr.out.size)).trans (hB2.mono (Nat.le_trans HBr.out.size hB1.size)),Nat.le_trans HBr.out.size hG1⟩
  ·obtain ⟨j,rfl⟩:∃ j,k=j+1:=⟨k-1,by omega⟩
   have hjm:(j:Int)<s:=by omega
   have ej:((j+1:Nat):Int)-1=j:=by omega
   have ej2:s-(j+1)=s-1-j:=by omega
   rw [ej,ej2]
   obtain ⟨b,off,rfl,hbs,hc⟩:=(hU.num' hA hnx).cells (by omega)
   have hcx:=hc j (by omega)
   have hcj:∃ u,wr.cell? ⟨w.heap.size,j,none⟩=some (.int .u64 u):=⟨_,hO.cell j (by omega)⟩
   obtain ⟨u,hcj⟩:=hcj
   have hfj:=hO.frozen j
   have HJ:=H j (by omega)
   have HO:Hid (Own w.heap.size s (quoKc x d s j) (wr.setCell ⟨w.heap.size,j,none⟩ (.int .u64 (quoW x d s j)))):=(hO.set j (quoW x d s j)).congr fun i hi=>by
    unfold quoKc
    by_cases e:i=j
    ·subst e;rw [if_pos rfl,if_pos (by omega)]
    ·rw [if_neg e]
     by_cases e2:j+1<=i/\i<s
     ·rw [if_pos e2,if_pos (by omega)]
     ·rw [if_neg e2,if_neg (by omega)]
   have HU:Hid (Upd w.heap.size wA (wr.setCell ⟨w.heap.size,j,none⟩ (.int .u64 (quoW x d s j)))):=hU.set j _
   clear hO hU H ej ej2 hc hqv hA hnx
   go_wp2_with (go_at_call 117;refine (HJ _).mono ?_;rintro e w' ⟨rfl,m',rfl⟩)
   go_roundw
   case rel=>exact ⟨j,by omega,by go_num,rfl,HO.out,HU.out.drewN m'⟩
   case measure=>simp [intOf]
theorem overf_one (ga gb s c c':Nat)(x y:Nat->Int)(w:World)(hs:s<20001)(h:Num w (some ⟨ga,0,none⟩) s c x)(h':Num w (some ⟨gb,0,none⟩) 1 c' y)(hys:sizeL y 1=1) :
  Calls Tryz.prog 65 #[.slice (some ⟨ga,0,none⟩) s c,.slice (some ⟨gb,0,none⟩) 1 c'] w fun e w'=>∃ g k cap z g' k' cap' z',e=.returned (.tuple #[.slice (some ⟨g,0,none⟩) k cap,.slice (some ⟨g',0,none⟩) k' cap'])/\k<=s/\k'<=1/\Num w' (some ⟨g,0,none⟩) k cap z/\Num w' (some ⟨g',0,none⟩) k' cap' z'/\val z k=val x s/val y 1/\sizeL z k=k/\val z' k'=val x s%val y 1/\sizeL z' k'=k'/\Below w.heap.size w w'/\w.heap.size<=g:=by
 have hy:=h'.2.2.1
 have c31:=size_num _ 1 c' y w (by omega) h'
 rw [hys] at c31
 have hy0:y 0≠0:=by have:=sizeL_top (x:=y) 1 (by omega);rw [hys] at this;exact this
 have hyb:=hy 0
 have ev:val y 1=y 0:=by simp [val]
 have c107:=smf_any (some ⟨ga,0,none⟩) s c x (y 0) w (by omega) h (by omega)
 have hc:gb<w.heap.size/\w.cell? ⟨gb,0,none⟩=some (.int .u64 (y 0)):=by
  rcases h'.2.2.2.2 with ⟨h,_⟩|⟨b',off',h,hbs,hc⟩
  ·cases h
  ·cases h;exact ⟨hbs,hc 0 (by omega)⟩
 obtain ⟨hgb,hcc⟩:=hc
 rw [ev]
 clear h h'
 go_enter Tryz.func65,Tryz.ntmps65
 go_wp2_with (first|(go_at_call 57;refine c31.mono ?_;rintro e w' ⟨rfl,rfl⟩)|(go_at_call 91;refine c107.mono ?_;rintro e w1 ⟨g,k,cap,z,g',k',cap',z',rfl,hk,hk',hN,hN',hv,hs1,hv',hs2,hB,hG⟩))
 go_ret2
 exact ⟨g,k,cap,z,g',k',cap',z',rfl,hk,hk',hN,hN',hv,hs1,hv',hs2,hB,hG⟩
theorem over_new {K N D:Nat}{vn vd:Value}{w:World}(hK:K<=20000)(h:NT K N vn w)(h':NT 1 D vd w)(hD:D≠0) :
  Calls Tryz.prog 65 #[vn,vd] w fun e w'=>∃ g k cap r,e=.returned (.tuple #[.slice (some ⟨g,0,none⟩) k cap,r])/\w.heap.size<=g/\NT K (N/D) (.slice (some ⟨g,0,none⟩) k cap) w'/\NT 1 (N%D) r w'/\Below w.heap.size w w':=by
 obtain ⟨ga,s,c,x,rfl,hs,hN,hx,hxs⟩:=h
 obtain ⟨gb,t,c',y,rfl,ht,hN',hy,hys⟩:=h'
 have ht1:t=1:=by
  rcases Nat.eq_zero_or_pos t with e|e
  ·subst e
   have:val y 0=0:=rfl
   omega
  ·omega
 subst ht1
 refine (overf_one ga gb s c c' x y w (by omega) hN hN' hys).mono ?_
 rintro e w' ⟨g,k,cap,z,g',k',cap',z',e1,hk,hk',hA,hB,hv,hs1,hv',hs2,hb,hg⟩
 refine ⟨g,k,cap,_,e1,hg,⟨g,k,cap,z,rfl,by omega,hA,?_,hs1⟩,⟨g',k',cap',z',rfl,hk',hB,?_,hs2⟩,hb⟩
 ·rw [hv,hx,hy];rfl
 ·rw [hv',hx,hy];rfl
def OvNew (X Y:Int)(w:World)(e:Ending)(w':World):Prop :=
 ∃ g k cap z g' k' cap' z',e=.returned (.tuple #[.slice (some ⟨g,0,none⟩) k cap,.slice (some ⟨g',0,none⟩) k' cap'])/\k<=41000/\k'<=41000/\Num w' (some ⟨g,0,none⟩) k cap z/\Num w' (some ⟨g',0,none⟩) k' cap' z'/\val z k=X/Y/\val z' k'=X%Y/\Below w.heap.size w w'/\sizeL z' k'=k'/\w.heap.size<=g
theorem overf_any (ga gb s c t c':Nat)(x y:Nat->Int)(w:World)(hs:s<=20000)(ht2:t<=20000)(ht:2<=t)(h:Num w (some ⟨ga,0,none⟩) s c x)(h':Num w (some ⟨gb,0,none⟩) t c' y)(hxs:sizeL x s=s)(hys:sizeL y t=t) :
  Calls Tryz.prog 65 #[.slice (some ⟨ga,0,none⟩) s c,.slice (some ⟨gb,0,none⟩) t c'] w (OvNew (val x s) (val y t) w):=by
 have hx:=h.2.2.1
 have hy:=h'.2.2.1
 have HXS:Hid (sizeL x s=s):=hxs
 have c31:=size_num _ t c' y w (by omega) h'
 rw [hys] at c31
 have c20:=rlen_num _ s c x w (by omega) h
 have c20':=rlen_num _ t c' y w (by omega) h'
 have c45:=trim_any _ s c x w (by omega) h
 rw [hxs] at c45
 have hlx:0<=lenL x s/\lenL x s<=64*s:=by
  unfold lenL;rw [hxs]
  split
  ·omega
  ·have:=bitLen64 (x (s-1)).toNat;omega
 have hY0:0<val y t:=val_pos hy t (by omega) hys
 have hX0:=(val_bd hx s).1
 obtain ⟨Ly,hLy,hy1,hy2⟩:=len_bd hy (n:=t) (by omega)
 have hne:((t:Int)==1)=false:=by simp;omega
 -- the number below the divisor times 2^(far + 1)
 have key:∀ F:Int,lenL x s-lenL y t=F->(F<0->val x s<val y t)/\(0<=F->val x s<val y t*2^(F.toNat+1)):=by
  intro F hF
  rcases Nat.eq_zero_or_pos s with h0|h0
  ·subst h0
   have e0:val x 0=0:=rfl
   refine ⟨fun _=>by rw [e0];exact hY0,fun _=>by rw [e0];exact Int.mul_pos hY0 (p2_pos _)⟩
  ·obtain ⟨Lx,hLx,hx1,hx2⟩:=len_bd hx (n:=s) (by omega)
   have mono:∀ a b:Nat,a<=b->(2:Int)^a<=2^b:=fun a b hab=>by
    obtain ⟨k,rfl⟩:∃ k,b=a+k:=⟨b-a,by omega⟩
    rw [Int.pow_add]
    have:=p2_pos a
    have h3:=p2_pos k
    have:(2:Int)^a*1<=2^a*2^k:=Int.mul_le_mul_of_nonneg_left (by omega) (by omega)
    omega
   refine ⟨fun hneg=>?_,fun hpos=>?_⟩
   ·have:=mono (Lx+1) Ly (by omega);omega
   ·have e1:Lx+1=Ly+(F.toNat+1):=by omega
    have h5:2^Ly*2^(F.toNat+1)<=val y t*2^(F.toNat+1):=Int.mul_le_mul_of_nonneg_right hy1 (Int.le_of_lt (p2_pos _))
    rw [← Int.pow_add,← e1] at h5
    omega
 have hlyb:0<=lenL y t/\lenL y t<=64*t:=by
  unfold lenL;rw [hys]
  split
  ·omega
  ·have:=bitLen64 (y (t-1)).toNat;omega
 obtain ⟨F,hF⟩:∃ F,lenL x s-lenL y t=F:=⟨_,rfl⟩
 have hk:=key F hF
 have hFb:F<=1280000:=by omega
 generalize lenL x s=LX at *
 generalize lenL y t=LY at *
 have HXN:Hid (Num w (some ⟨ga,0,none⟩) s c x):=h
 have HYN:Hid (Num w (some ⟨gb,0,none⟩) t c' y):=h'
 clear key h h' hy1 hy2 hLy hx hy
 obtain ⟨X,hX⟩:∃ X,val x s=X:=⟨_,rfl⟩
 obtain ⟨Y,hY⟩:∃ Y,val y t=Y:=⟨_,rfl⟩
 rw [hX,hY] at hk
 rw [hX] at hX0
 rw [hY] at hY0
 rw [hX,hY]
 have HX:Hid (val x s=X):=hX
 have HY:Hid (val y t=Y):=hY
 clear hX hY
 by_cases hneg:F<0
 ·have hXY:=hk.1 hneg
  have HV:Hid (X/Y=0/\X%Y=X):=⟨Int.ediv_eq_zero_of_lt hX0 hXY,Int.emod_eq_of_lt hX0 hXY⟩
  have HF:Hid (LX-LY=F):=hF
  have hFn:LX-LY<0:=by omega
  clear hk hF
  go_enter Tryz.func65,Tryz.ntmps65
  go_wp2_with (first|(go_at_call 57;refine c31.mono ?_;rintro e w' ⟨rfl,rfl⟩)|(go_at_call_of 23 (Value.slice (some ⟨ga,0,none⟩) s c);refine c20.mono ?_;rintro e w' ⟨rfl,rfl⟩;clear c20)|(go_at_call_of 23 (Value.slice (some ⟨gb,0,none⟩) t c');refine c20'.mono ?_;rintro e w' ⟨rfl,rfl⟩)|(go_at_call 56;refine c45.mono ?_;rintro e w1 ⟨g1,p1,rfl,hN1,hB1⟩))
  go_ret2
  have hb:=below1 w1 (.cells #[] 22)
  exact ⟨w1.heap.size,0,0,fun _=>0,g1,s,p1,x,rfl,by omega,by omega,⟨Nat.le_refl _,by unfold maxLen;omega,fun _=>(by decide:(0:Int)<=0/\(0:Int)<=18446744073709551615),fun _ _=>rfl,Or.inr ⟨w1.heap.size,0,rfl,by simp,fun i hi=>by omega⟩⟩,hN1.next hb,by rw [HV.out.1];rfl,by rw [HV.out.2];exact HX.out,hB1.trans (hb.mono hB1.size),HXS.out,hB1.size⟩
 ·obtain ⟨N,rfl⟩:=Int.eq_ofNat_of_zero_le (show 0<=F by omega)
  have hXb:=hk.2 (by omega)
  rw [Int.toNat_natCast] at hXb
  obtain ⟨m0,hm0⟩:∃ m0:Nat,(N:Int)/64=m0:=⟨N/64,by omega⟩
  have hmk:=fun w=>make_any ((m0:Int)+1) (m0+1) (by omega) (by omega) w
  have hm0b:m0<=20000:=by omega
  have hm0n:m0=N/64:=by omega
  have HM0:Hid (m0=N/64):=hm0n
  clear hk hm0n
  go_enter Tryz.func65,Tryz.ntmps65
  go_wp2_with (first|(go_at_call 57;refine c31.mono ?_;rintro e w' ⟨rfl,rfl⟩)|(go_at_call_of 23 (Value.slice (some ⟨ga,0,none⟩) s c);refine c20.mono ?_;rintro e w' ⟨rfl,rfl⟩;clear c20)|(go_at_call_of 23 (Value.slice (some ⟨gb,0,none⟩) t c');refine c20'.mono ?_;rintro e w' ⟨rfl,rfl⟩)|(go_at_call 56;refine c45.mono ?_;rintro e w1 ⟨g1,p1,rfl,hN1,hB1⟩))
  have hb1:=below1 w1 (.cells (arrOf (fun _=>0) (m0+1)) 22)
  have hBq:=hB1.trans (hb1.mono hB1.size)
  have c49:=fleft_val gb 0 t c' N y _ (by omega) (by omega) (by omega) (HYN.out.next hBq)
  rw [Int.toNat_natCast,HY.out] at c49
  have hO0:=Own.new w1 (fun _=>0) (m0+1)
  have hg1lt:g1<w1.heap.size:=by
   rcases hN1.2.2.2.2 with ⟨h,_⟩|⟨b,off,h,hb,_⟩
   ·cases h
   ·cases h;exact hb
  have hsz:(w1.alloc (.cells (arrOf (fun _=>0) (m0+1)) 22)).heap.size=w1.heap.size+1:=by simp
  go_wp2_with (go_at_call 22;refine c49.mono ?_;rintro e w2 ⟨g2,k2,p2,z2,rfl,hk2,hN2,hv2,hb2,hf2,htr2⟩;clear c49 htr2)
  rw [hsz] at hf2 hb2
  have hB2:=hBq.trans (hb2.mono (by have:=hB1.size;omega))
  have hNr:=(hN1.next hb1).next (by rw [hsz];exact hb2)
  have hO2:=Below.own hb2 (by omega) hO0
  generalize hgq:w1.heap.size=gq at *
  have hBsz:=hB1.size
  have HGq:Hid (w.heap.size<=gq):=by show _<=_;omega
  have hgq2:gq<w2.heap.size:=by have:=hb2.size;omega
  clear hN1 hB1 hb1 hBq hO0 hb2 hsz hBsz hgq
  go_loopw [7,9,10,65] (fun rv dv iv u65 wr=>∃ (k g1 k1 p1 g2 k2 p2:Nat) (z1 z2 q:Nat->Int),k<=N+1/\iv=.int .i64 ((k:Int)-1)/\rv=.slice (some ⟨g1,0,none⟩) k1 p1/\dv=.slice (some ⟨g2,0,none⟩) k2 p2/\k1<=40002/\k2<=40002/\g1≠gq/\g2≠gq/\gq<wr.heap.size/\Num wr (some ⟨g1,0,none⟩) k1 p1 z1/\Num wr (some ⟨g2,0,none⟩) k2 p2 z2/\Own gq (m0+1) q wr/\Words q/\Hid (val q (m0+1)*Y+val z1 k1=X)/\Hid (val z1 k1<Y*2^k)/\Hid (0<k->val z2 k2=Y*2^(k-1))/\Hid (val q (m0+1)%2^k=0)/\Hid (sizeL z1 k1=k1)/\Below w.heap.size w wr) (fun _ _ iv _ _=>(intOf iv+1).toNat)
  case atStart=>exact ⟨N+1,g1,s,p1,g2,k2,p2,x,z2,fun _=>0,Nat.le_refl _,by go_num,rfl,rfl,by omega,by omega,by omega,by omega,hgq2,hNr,hN2,hO2,fun _=>(by decide:(0:Int)<=0/\(0:Int)<=18446744073709551615),by show _=_;rw [val_zero,Int.zero_mul,Int.zero_add,HX.out],by show _<_;rw [HX.out];exact hXb,fun _=>hv2,by show _=_;rw [val_zero];exact Int.zero_emod _,HXS,hB2⟩
  case round =>
   clear hNr hN2 hO2 hB2 hv2 hk2 hf2 hg1lt hgq2 hXb c31 c20' c45
   obtain ⟨k,g1,k1,p1,g2,k2,p2,z1,z2,q,hk,rfl,rfl,rfl,hk1,hk2,hg1,hg2,hgq,hN1,hN2,hO,hqw,hv,hlt,hd,hmod,htr,hB⟩:=hrel
   by_cases h0:k=0
   ·subst h0
    have hQN:=hO.num hqw 0 (m0+1) (m0+1) (by omega) (Nat.le_refl _) (by unfold maxLen;omega)
    have c45:=trimf_any _ (m0+1) (m0+1) _ _ (by omega) hQN
    have hle:=sizeL_le (segW q 0 (m0+1)) (m0+1)
    have e1:val (segW q 0 (m0+1)) (sizeL (segW q 0 (m0+1)) (m0+1))=val q (m0+1):=by
     rw [val_bare];exact val_congr _ fun i hi=>by rw [segW_lt _ _ _ i hi,Nat.zero_add]
    have HFIN:Hid (val (segW q 0 (m0+1)) (sizeL (segW q 0 (m0+1)) (m0+1))=X/Y/\val z1 k1=X%Y):=by
     have h1:=hv.out
     have h2:=hlt.out
     rw [Int.pow_zero,Int.mul_one] at h2
     have:=(Int.ediv_emod_unique hY0 (a:=X) (r:=val z1 k1) (q:=val q (m0+1))).2 ⟨by rw [Int.mul_comm];omega,(val_bd hN1.2.2.1 k1).1,h2⟩
     exact ⟨by rw [e1];exact this.1.symm,this.2.symm⟩
    have HN1:Hid (Num wr (some ⟨g1,0,none⟩) k1 p1 z1):=hN1
    generalize segW q 0 (m0+1)=qz at *
    generalize sizeL qz (m0+1)=kq at *
    clear hQN hO hqw hv hlt hd hmod hN1 hN2 e1
    go_wp2_with (go_at_call 56;refine c45.mono ?_;rintro e w3 ⟨g3,p3,rfl,hN3,hB3,hG3⟩)
    go_ret2
    exact ⟨g3,kq,p3,qz,g1,k1,p1,z1,rfl,by omega,by omega,hN3,HN1.out.next hB3,HFIN.out.1,HFIN.out.2,hB.trans (hB3.mono hB.size),htr.out,Nat.le_trans hB.size hG3⟩
   ·obtain ⟨j,rfl⟩:∃ j,k=j+1:=⟨k-1,by omega⟩
    have ej:((j+1:Nat):Int)-1=j:=by omega
    rw [ej]
    have hdv:val z2 k2=Y*2^j:=hd.out (by omega)
    have hT:=p2_pos j
    have hdp:0<val z2 k2:=by rw [hdv];exact Int.mul_pos hY0 hT
    have hk2p:=pos_len hdp
    have c16:=rcmp_any _ _ k1 p1 k2 p2 z1 z2 wr (by omega) (by omega) hN1 hN2
    have HLT:Hid (val z1 k1<Y*2^j*2):=by show _<_;have:=hlt.out;rw [Int.pow_succ,← Int.mul_assoc] at this;exact this
    have HMOD:Hid (val q (m0+1)%(2^j*2)=0):=by show _=_;have:=hmod.out;rw [Int.pow_succ] at this;exact this
    have HMODF:Hid (val q (m0+1)%2^(j+1)=0):=hmod
    have HN':Hid (∀ (z':Nat->Int) (k':Nat),(∀ V,val z2 k2=V*2->val z' k'=V)->0<j->val z' k'=Y*2^(j-1)):=fun z' k' hh hj=>hh _ (by rw [hdv,Int.mul_assoc,← Int.pow_succ];congr 2;omega)
    have HJ:Hid (j<=N):=by show _<=_;omega
    clear ej hd hlt hmod
    by_cases hge:Y*2^j<=val z1 k1
    ·have hsg:0<=sgn (val z1 k1) (val z2 k2):=by unfold sgn;rw [if_neg (by omega)];split<;>omega
     have c37:=frless_val _ _ k1 p1 k2 p2 z1 z2 wr (by omega) (by omega) hN1 hN2 (by rw [hdv];exact hge)
     generalize sgn (val z1 k1) (val z2 k2)=sg at *
     obtain ⟨m,hmj⟩:∃ m:Nat,(j:Int)/64=m:=⟨j/64,by omega⟩
     obtain ⟨r,hrj⟩:∃ r:Nat,(j:Int)%64=r:=⟨j%64,by omega⟩
     have hr64:r<64:=by omega
     have hjm:j=64*m+r:=by omega
     have hmm:m<m0+1:=by have:=HJ.out;have:=HM0.out;omega
     have hmi:(m:Int)<((m0+1:Nat):Int):=by omega
     have hob:=or_bit (hqw m) hr64 (word_mod hqw hmm (show r+1<=64 by omega) (by have:=HMODF.out;rw [hjm] at this;exact this))
     have HOR:Hid (bits BinOp.or IntKind.u64 (q m) (2^r)=q m+2^r):=hob.1
     have hpr:=p2_pos r
     have hpl:=p2_le hr64
     have HQ2:Hid (val (fun i=>if i=m then q m+2^r else q i) (m0+1)=val q (m0+1)+2^j):=by
      show _=_
      rw [val_set q m (q m+2^r) (m0+1) hmm]
      have e9:(2:Int)^j=2^r*18446744073709551616^m:=by rw [p64,← hjm]
      rw [e9];congr 1;congr 1;omega
     have HQW2:Hid (Words (fun i=>if i=m then q m+2^r else q i)):=upd_words hqw ⟨by have:=hqw m;omega,hob.2⟩
     have bq:=hqw m
     have HO:Hid (Own gq (m0+1) q wr):=hO
     have HN2:Hid (Num wr (some ⟨g2,0,none⟩) k2 p2 z2):=hN2
     have hob2:=hob.2
     have HD:Hid (val z2 k2=Y*2^j):=hdv
     clear hN1 hN2 hO hqw hob hjm HMODF
     go_wp2_with (first|(go_at_call 25;refine c16.mono ?_;rintro e w' ⟨rfl,rfl⟩)|(go_at_call 50;refine c37.mono ?_;rintro e w3 ⟨g3,k3,p3,z3,rfl,hk3,hN3,hv3,hb3,hf3,htr3⟩;have HT3:Hid (sizeL z3 k3=k3):=htr3;clear htr3;have hO3:=Below.own hb3 hgq HO.out;have hcq:=hO3.cell m hmm;have hfq:=hO3.frozen m))
     have hU3:Upd gq w3 (w3.setCell ⟨gq,m,none⟩ (.int .u64 (bits BinOp.or IntKind.u64 (q m) (2^r)))):=(Upd.refl gq w3).set m _
     have hO4:=hO3.set m (q m+2^r)
     rw [← HOR.out] at hO4
     have hN24:=hU3.num hg2 (HN2.out.next hb3)
     have hN34:=hU3.num (by omega) hN3
     have hB3:=(hB.trans (hb3.mono hB.size)).trans (hU3.below HGq.out)
     have hsz3:w3.heap.size<=(w3.setCell ⟨gq,m,none⟩ (.int .u64 (bits BinOp.or IntKind.u64 (q m) (2^r)))).heap.size:=Nat.le_of_eq hU3.size.symm
     have hgq3:=hb3.size
     have c51:=half_any g2 k2 p2 z2 _ hk2p (by omega) hN24
     clear hO3 hN3 hN24 hU3 hb3
     generalize w3.setCell ⟨gq,m,none⟩ (.int .u64 (bits BinOp.or IntKind.u64 (q m) (2^r)))=wS at *
     go_wp2_with (go_at_call 49;refine c51.mono ?_;rintro e w4 ⟨g4,k4,p4,bb,z4,rfl,hk4,hN4,hhf,hb4,hf4⟩)
     have hgS:gq<wS.heap.size:=by omega
     go_roundw
     case rel =>
      refine ⟨j,g3,k3,p3,g4,k4,p4,z3,z4,fun i=>if i=m then q m+2^r else q i,by have:=HJ.out;omega,by go_num,rfl,rfl,by omega,by omega,by omega,by omega,by have:=hb4.size;omega,hN34.next hb4,hN4,?_,HQW2.out,?_,?_,fun hj=>HN'.out z4 k4 hhf hj,?_,HT3,hB3.trans (hb4.mono hB3.size)⟩
      ·have:=Below.own hb4 hgS hO4
       rw [HOR.out] at this
       exact this
      ·show _=_
       rw [HQ2.out,hv3,HD.out,Int.add_mul,Int.mul_comm (2^j) Y]
       have:=hv.out
       omega
      ·show _<_
       rw [hv3,HD.out]
       have:=HLT.out
       omega
      ·show _=_
       rw [HQ2.out,Int.add_emod_right]
       exact mod_half HMOD.out
     case measure=>simp [intOf]
    ·have hs1:sgn (val z1 k1) (val z2 k2)=-1:=by unfold sgn;rw [if_pos (by omega)]
     rw [hs1] at c16
     have c51:=half_any g2 k2 p2 z2 wr hk2p (by omega) hN2
     have HN1:Hid (Num wr (some ⟨g1,0,none⟩) k1 p1 z1):=hN1
     have HO:Hid (Own gq (m0+1) q wr):=hO
     have HQW:Hid (Words q):=hqw
     clear hN1 hN2 hO hqw hs1
     go_wp2_with (first|(go_at_call 25;refine c16.mono ?_;rintro e w' ⟨rfl,rfl⟩)|(go_at_call 49;refine c51.mono ?_;rintro e w4 ⟨g4,k4,p4,bb,z4,rfl,hk4,hN4,hhf,hb4,hf4⟩))
     go_roundw
     case rel=>exact ⟨j,g1,k1,p1,g4,k4,p4,z1,z4,q,by have:=HJ.out;omega,by go_num,rfl,rfl,hk1,by omega,hg1,by omega,by have:=hb4.size;omega,HN1.out.next hb4,hN4,Below.own hb4 hgq HO.out,HQW.out,hv,by show _<_;omega,fun hj=>HN'.out z4 k4 hhf hj,mod_half HMOD.out,htr,hB.trans (hb4.mono hB.size)⟩
     case measure=>simp [intOf]
theorem rightf_p (b off n c q r:Nat)(s:Int)(x:Nat->Int)(w:World)(hn:n<4000000000)(hq0:q<100000)(hr0:r<64)(hrp:0<r)(hq:s/64=q)(hr:s%64=r)(hs:0<=s)(h:Num w (some ⟨b,off,none⟩) n c x) :
  Calls Tryz.prog 49 #[.slice (some ⟨b,off,none⟩) n c,.int .i64 s] w fun e w'=>∃ g k cap z,e=.returned (.tuple #[.slice (some ⟨g,0,none⟩) k cap,.bool z])/\k<=n/\Num w' (some ⟨g,0,none⟩) k cap (shrW x q r)/\Below w.heap.size w w'/\w.heap.size<=g:=by
 have hx:=h.2.2.1
 have zx:=h.2.2.2.1
 have hc:b<w.heap.size/\∀ i,i<n->w.cell? ⟨b,off+i,none⟩=some (.int .u64 (x i)):=by
  rcases h.2.2.2.2 with ⟨h,_⟩|⟨b',off',h,hbs,hc⟩
  ·cases h
  ·cases h;exact ⟨hbs,hc⟩
 obtain ⟨hbs,hc⟩:=hc
 have hcap:=h.1
 have hs6:s<6400064:=by omega
 obtain ⟨i0,hi,hz0,hz1,hz2⟩:=info_parts Tryz.info22
 have HX:Hid (Num w (some ⟨b,off,none⟩) n c x):=h
 clear h
 go_enter Tryz.func49,Tryz.ntmps49
 go_wp2
 go_loop [6,7,13] (fun g u7 i=>∃ (k:Nat) (z:Bool),k<=n/\i=.int .i64 k/\g=.bool z) (fun _ _ i=>n-(intOf i).toNat)
 case atStart=>exact ⟨0,false,Nat.zero_le _,rfl,rfl⟩
 case round =>
  obtain ⟨k,z,hk,rfl,rfl⟩:=hrel
  by_cases h8:k<n
  ·have h8i:(k:Int)<n:=by omega
   by_cases hkq:k<q
   ·have bx:=hx k
    have hcx:=hc k h8
    clear hc hx zx hi hz0 hz1 hz2
    have hkq':(k:Int)<q:=by omega
    by_cases hz:x k=0
    ·have hz':(x k != 0)=false:=by simp [hz]
     have hne:((k:Int)==q)=false:=by simp;omega
     go_wp2
     go_round
     case rel=>exact ⟨k+1,z,by omega,by go_num,rfl⟩
     case measure=>simp [intOf];omega
    ·have hz':(x k != 0)=true:=by simp [hz]
     go_wp2
     go_round
     case rel=>exact ⟨k+1,true,by omega,by go_num,rfl⟩
     case measure=>simp [intOf];omega
   ·have hkq':¬ (k:Int)<q:=by omega
    by_cases hke:k=q
    ·subst hke
     have bx:=hx k
     have hcx:=hc k h8
     clear hc hx zx hi hz0 hz1 hz2
     go_wp2
     all_goals
      go_round
      case rel=>first|exact ⟨k+1,true,by omega,by go_num,rfl⟩|exact ⟨k+1,z,by omega,by go_num,rfl⟩
      case measure=>simp [intOf];omega
    ·have hcx:=hc k h8
     clear hc hx zx hi hz0 hz1 hz2
     have hne:((k:Int)==q)=false:=by simp;omega
     go_wp2
     go_round
     case rel=>exact ⟨k+1,z,by omega,by go_num,rfl⟩
     case measure=>simp [intOf];omega
  ·obtain rfl:k=n:=by omega
   go_wp2
   go_loopw [8,9,10] (fun v i u10 wr=>∃ (j:Nat) (ao:Option Addr) (cp:Nat),j<=k-q/\i=.int .i64 ((q:Int)+j)/\v=.slice ao j cp/\wr.ownsRow w.heap.size 22 1 (.slice ao j cp) j (wl (shrW x q r) j)/\Below w.heap.size w wr) (fun _ i _ _=>k+1-(intOf i).toNat)
   case atStart=>exact ⟨0,none,0,Nat.zero_le _,by go_num,rfl,World.ownsRow_nil _ _ _ _,Below.refl _ _⟩
   case round =>
    obtain ⟨j,ao,cp,hj,rfl,rfl,hown,hB⟩:=hrel
    by_cases hlt:q+j<k
    ·have hlt':(q:Int)+j<k:=by omega
     have bx:=hx (q+j)
     have b_y:=hx (q+j+1)
     have e1:((q:Int)+j).toNat=q+j:=by omega
     have hcx:wr.cell? ⟨b,off+(q+j),none⟩=some (.int .u64 (x (q+j))):=(hB.cell (p:=⟨b,off+(q+j),none⟩) hbs).trans (hc (q+j) hlt)
     have HW:Hid (CQ 55 #[.slice (some ⟨b,off,none⟩) k c,.int .i64 ((q:Int)+j+1)] wr (.int .u64 (x (q+j+1)))):=by
      have:=word_any (some ⟨b,off,none⟩) k c (q+j+1) x wr (HX.out.next hB)
      rw [show ((q+j+1:Nat):Int)=(q:Int)+j+1 by omega] at this
      exact this.mono fun _ _ h=>⟨h.1,h.2.symm⟩
     have hbw:=hB.size
     have HO:Hid (wr.ownsRow w.heap.size 22 1 (.slice ao j cp) j (wl (shrW x q r) j)):=hown
     have HVAL:Hid (shrW x q r j=bits BinOp.or IntKind.u64 (x (q+j)/2^r) (IntKind.u64.wrap (x (q+j+1)*2^(64-r)))):=by show _=_;unfold shrW;rw [if_neg (by omega)];rfl
     have HOWN:(wr.alloc (.cells #[.int .u64 (bits BinOp.or IntKind.u64 (x (q+j)/2^r) (IntKind.u64.wrap (x (q+j+1)*2^(64-r))))] 22)).ownsRow w.heap.size 22 1 (.slice ao j cp) j (wl (shrW x q r) j):=hown.alloc _
     have HNEWS:∀ (p:Nat) (u:Value),[Value.int .u64 (bits BinOp.or IntKind.u64 (x (q+j)/2^r) (IntKind.u64.wrap (x (q+j+1)*2^(64-r))))][p]?=some u->(wr.alloc (.cells #[.int .u64 (bits BinOp.or IntKind.u64 (x (q+j)/2^r) (IntKind.u64.wrap (x (q+j+1)*2^(64-r))))] 22)).cell? ((⟨wr.heap.size,0,none⟩:Addr).add p)=some u:=by
      intro p u hp
      match p,hp with
      | 0,hp=>simp at hp;subst hp;simp [Addr.add]
     have HONE:∀ u ∈ [Value.int .u64 (bits BinOp.or IntKind.u64 (x (q+j)/2^r) (IntKind.u64.wrap (x (q+j+1)*2^(64-r))))],u.oneCell'=true:=by
      intro u hu;simp at hu;subst hu;rfl
     clear hc hx zx hown
     go_wp2_with (first|(at_builtin;refine wpList_append_lies _ rfl (.tmp 77) (.tmp 79) 48 rfl w.heap.size 22 i0 (.int .u64 0) 1 8 Tryz.underlying48 hi hz0 hz1 hz2 rfl (by decide) (.slice ao j cp) j (wl (shrW x q r) j) rfl HOWN ⟨wr.heap.size,0,none⟩ 1 1 [Value.int .u64 (bits BinOp.or IntKind.u64 (x (q+j)/2^r) (IntKind.u64.wrap (x (q+j+1)*2^(64-r))))] rfl rfl HNEWS HONE (by omega) (by unfold maxLen;omega) (by omega) (by simp;omega) (wr.heap.size+1) (by simp) ?_;intro g cap w1 hown1 hgrow hat hlt1;clear HOWN HNEWS HONE)|(go_at_call 55;refine HW.out.mono ?_;rintro e w' ⟨rfl,rfl⟩))
     have hown2:w1.ownsRow w.heap.size 22 1 (.slice (some ⟨g,0,none⟩) (j+1) cap) (j+1) (wl (shrW x q r) (j+1)):=by
      rw [← HVAL.out,wl_succ] at hown1;exact hown1
     have HB2:Below w.heap.size w w1:=(hB.alloc hbw _).grown hgrow (by simp;omega) (by
      intro p hp
      rcases ao with _|⟨bb,oo,sp⟩
      ·cases hp
      ·cases hp
       obtain ⟨_,h1⟩:=HO.out
       rcases h1 with ⟨h1,_⟩|⟨g',_,_,h1,h2,_⟩
       ·cases h1
       ·cases h1;exact h2)
     clear hown1 hgrow
     go_wp2
     go_roundw
     case rel=>exact ⟨j+1,some ⟨g,0,none⟩,cap,by omega,by go_num,rfl,hown2,HB2⟩
     case measure=>simp [intOf];omega
    ·have HZ:∀ i,j<=i->shrW x q r i=0:=fun i hi=>shrW_zero zx q r i (by omega)
     have hT:=trimf_any ao j cp _ wr (by omega) (num_of_owns' (shrW_words hx q r) HZ hown)
     have hle:=sizeL_le (shrW x q r) j
     have hlt':¬ (q:Int)+j<k:=by omega
     clear hc hx zx hown HZ
     go_wp2_with (go_at_call 56;refine hT.mono ?_;rintro e w1 ⟨g,cap,rfl,hN,hB1,hG1⟩)
     go_ret2
     exact ⟨g,_,cap,_,rfl,by omega,hN,hB.trans (hB1.mono hB.size),Nat.le_trans hB.size hG1⟩
theorem roverf_nt {K N D:Nat}{vn vd:Value}{w:World}(hK:K<=20000)(h:NT K N vn w)(h':NT K D vd w)(hD:D≠0) :
  Calls Tryz.prog 65 #[vn,vd] w fun e w'=>∃ g k cap r,e=.returned (.tuple #[.slice (some ⟨g,0,none⟩) k cap,r])/\w.heap.size<=g/\NV 41000 (N/D) (.slice (some ⟨g,0,none⟩) k cap) w'/\NT 41000 (N%D) r w'/\Below w.heap.size w w':=by
 obtain ⟨ga,s,c,x,rfl,hs,hN,hx,hxs⟩:=h
 obtain ⟨gb,t,c',y,rfl,ht,hN',hy,hys⟩:=h'
 have ht0:t≠0:=by
  intro e;subst e
  have:val y 0=0:=rfl
  omega
 by_cases ht1:t=1
 ·subst ht1
  refine (overf_one ga gb s c c' x y w (by omega) hN hN' hys).mono ?_
  rintro e w' ⟨g,k,cap,z,g',k',cap',z',e1,hk,hk',hA,hB,hv,hs1,hv',hs2,hb,hg⟩
  refine ⟨g,k,cap,_,e1,hg,⟨g,k,cap,z,rfl,by omega,hA,?_⟩,⟨g',k',cap',z',rfl,by omega,hB,?_,hs2⟩,hb⟩
  ·rw [hv,hx,hy];rfl
  ·rw [hv',hx,hy];rfl
 ·refine (overf_any ga gb s c t c' x y w (by omega) (by omega) (by omega) hN hN' hxs hys).mono ?_
  rintro e w' ⟨g,k,cap,z,g',k',cap',z',e1,hk,hk',hA,hB,hv,hv',hb,htr,hg⟩
  refine ⟨g,k,cap,_,e1,hg,⟨g,k,cap,z,rfl,hk,hA,?_⟩,⟨g',k',cap',z',rfl,hk',hB,?_,htr⟩,hb⟩
  ·rw [hv,hx,hy];rfl
  ·rw [hv',hx,hy];rfl
theorem NV.updV {K V g b k c:Nat}{w w':World}(h:NV K V (.slice (some ⟨b,0,none⟩) k c) w)(hne:b≠g)(hU:Upd g w w'):NV K V (.slice (some ⟨b,0,none⟩) k c) w':=by
 obtain ⟨g',k',c',z,e,hk,hN,hv⟩:=h
 cases e
 exact ⟨b,k,c,z,rfl,hk,hU.num hne hN,hv⟩
theorem rrightf_nv {K A:Nat}{v:Value}{w:World}(s:Nat)(hK:K<1000)(hs:s<=600)(hs6:s%64≠0)(h:NV K A v w) :
  Calls Tryz.prog 49 #[v,.int .i64 (s:Int)] w fun e w'=>∃ g k cap b,e=.returned (.tuple #[.slice (some ⟨g,0,none⟩) k cap,.bool b])/\w.heap.size<=g/\NV K (A/2^s) (.slice (some ⟨g,0,none⟩) k cap) w'/\Below w.heap.size w w':=by
 obtain ⟨g,k,cap,z,rfl,hk,hN,hv⟩:=h
 obtain ⟨q,hq⟩:∃ q:Nat,(s:Int)/64=q:=⟨((s:Int)/64).toNat,by omega⟩
 obtain ⟨r,hr⟩:∃ r:Nat,(s:Int)%64=r:=⟨((s:Int)%64).toNat,by omega⟩
 have hsn:s=64*q+r:=by omega
 have hr6:r<64:=by omega
 refine (rightf_p g 0 k cap q r s z w (by omega) (by omega) hr6 (by omega) hq hr (by omega) hN).mono ?_
 rintro e w' ⟨g',k',cap',b,rfl,hk',hN',hb,hg⟩
 refine ⟨g',k',cap',b,rfl,hg,⟨g',k',cap',_,rfl,by omega,hN',?_⟩,hb⟩
 rw [← val_more hN'.2.2.2.1 k hk',hsn]
 exact shrW_val hN.2.2.1 hN.2.2.2.1 hr6 k (Nat.le_refl _) hv
section
attribute [local go_sem] setCell_drewN alloc_drewN
theorem limMul4 (x:Nat->Int)(n:Int)(w:World)(hx:Words x)(hn:0<=n/\n<=18446744073709551615) :
  CB 127 #[.agg (arrOf x 4),.int .u64 n] w (.tuple #[.agg (arrOf (mulP x n) 4),.int .u64 (mulC x n 4)]):=by
 have sx:(arrOf x 4).size=4:=arrOf_size x 4
 have gx:=fun i h=>arrOf_get x 4 i h
 generalize arrOf x 4=ax at *
 go_enter Tryz.func127,Tryz.ntmps127
 go_wp2
 go_loopw [7,15] (fun c i wr=>∃ (k:Nat) (ss:Array Value),k<=4/\i=.int .i64 k/\c=.int .u64 (mulC x n k)/\ss.size=4/\(∀ j h,ss[j]'h=Value.int .u64 (if j<k then mulP x n j else 0))/\wr=((w.alloc (.cells ax 23)).alloc (.cells #[.int .u64 0,.int .u64 0,.int .u64 0,.int .u64 0] 23)).alloc (.cells ss 23)) (fun _ i _=>4-(intOf i).toNat)
 case atStart=>exact ⟨0,_,Nat.zero_le _,rfl,rfl,rfl,by intro j h;have h':j<4:=h;match j,h' with|0,_=>rfl|1,_=>rfl|2,_=>rfl|3,_=>rfl,rfl⟩
 case round =>
  obtain ⟨k,ss,hk,rfl,rfl,hsz,hss,rfl⟩:=hrel
  by_cases h8:k<4
  ·have h8i:(k:Int)<4:=by omega
   have h8s:k<ss.size:=by omega
   have bx:=hx k
   have bc:=mulC_word hx hn k
   have bc':=mulC_word hx hn (k+1)
   have hcx:∀ h,ax[k]'h=.int .u64 (x k):=fun h=>gx k h
   have hsk:ss[k]?=some (.int .u64 0):=by rw [Array.getElem?_eq_getElem h8s,hss k h8s,if_neg (by omega)]
   have HR:Hid (∀ (i:Nat) (h:i<(ss.setIfInBounds k (.int .u64 (mulP x n k))).size),(ss.setIfInBounds k (.int .u64 (mulP x n k)))[i]'h=Value.int .u64 (if i<k+1 then mulP x n i else 0)):=set_next hss
   have hmul:=mul64 (x k) n bx hn
   have e1:mulC x n (k+1)=x k*n/18446744073709551616+(x k*n%18446744073709551616+mulC x n k)/18446744073709551616:=rfl
   have e2:mulP x n k=(x k*n%18446744073709551616+mulC x n k)%18446744073709551616:=rfl
   rw [e1] at bc'
   have HE1:Hid (mulC x n (k+1)=x k*n/18446744073709551616+(x k*n%18446744073709551616+mulC x n k)/18446744073709551616):=e1
   have HE2:Hid (mulP x n k=(x k*n%18446744073709551616+mulC x n k)%18446744073709551616):=e2
   have hP:0<=x k*n:=Int.mul_nonneg bx.1 hn.1
   clear hss gx e1 e2 hx
   generalize x k*n=P at *
   have hL:0<=P%18446744073709551616:=by omega
   have hH:0<=P/18446744073709551616:=by omega
   generalize P/18446744073709551616=hi at *
   generalize P%18446744073709551616=lo at *
   generalize hCC:mulC x n k=c at *
   have hadd:=fun w=>add64z lo c hL bc.1 w
   go_wp2_with (go_at_call 59;refine (hmul _).mono ?_;rintro e w' ⟨rfl,rfl⟩)
   go_roundw
   case rel=>refine ⟨k+1,ss.setIfInBounds k (.int .u64 (mulP x n k)),by omega,by go_num,by rw [HE1.out],by simp [hsz],HR.out,by rw [HE2.out]⟩
   case measure=>simp [intOf];omega
  ·obtain rfl:k=4:=by omega
   have hss':∀ j h,ss[j]'h=Value.int .u64 (mulP x n j):=by
    intro j h;rw [hss j h,if_pos (by omega)]
   clear hss
   go_wp2
   exact bodyPost_ret (v:=.tuple #[.agg (arrOf (mulP x n) 4),.int .u64 (mulC x n 4)]) (by simp [results,Tryz.results127,go_sem];rfl) rfl ⟨rfl,below_alloc3 _ _ _ _ 0⟩
theorem limDiv4 (x:Nat->Int)(d:Int)(w:World)(hd:0<d/\d<=18446744073709551615)
  (H:∀ j,j<4->∀ w,Calls Tryz.prog 117 #[.int .u64 (remJ x d 4 (4-1-j)),.int .u64 (x j),.int .u64 d] w fun e w'=>e=.returned (.tuple #[.int .u64 (quoW x d 4 j),.int .u64 (remJ x d 4 (4-j))])/\∃ m,w'=w.drewN m) :
  CB 178 #[.agg (arrOf x 4),.int .u64 d] w (.tuple #[.agg (arrOf (quoW x d 4) 4),.int .u64 (remJ x d 4 4)]):=by
 have sx:(arrOf x 4).size=4:=arrOf_size x 4
 have gx:=fun i h=>arrOf_get x 4 i h
 have hd0:(d==0)=false:=by simp;omega
 generalize arrOf x 4=ax at *
 go_enter Tryz.func178,Tryz.ntmps178
 go_wp2
 go_loopw [7,8,19] (fun c i u19 wr=>∃ (k m:Nat) (ss:Array Value),k<=4/\i=.int .i64 ((k:Int)-1)/\c=.int .u64 (remJ x d 4 (4-k))/\ss.size=4/\(∀ j h,ss[j]'h=Value.int .u64 (if k<=j then quoW x d 4 j else 0))/\wr=((((w.alloc (.cells ax 23)).alloc (.cells #[.int .u64 0,.int .u64 0,.int .u64 0,.int .u64 0] 23)).alloc (.cells ss 23)).drewN m)) (fun _ i _ _=>(intOf i+1).toNat)
 case atStart=>exact ⟨4,0,_,Nat.le_refl _,rfl,rfl,rfl,by intro j h;have h':j<4:=h;match j,h' with|0,_=>rfl|1,_=>rfl|2,_=>rfl|3,_=>rfl,rfl⟩
 case round =>
  obtain ⟨k,m,ss,hk,rfl,rfl,hsz,hss,rfl⟩:=hrel
  by_cases h0:k=0
  ·subst h0
   have hss':∀ j h,ss[j]'h=Value.int .u64 (quoW x d 4 j):=by
    intro j h;rw [hss j h,if_pos (by omega)]
   clear hss H
   go_wp2
   exact bodyPost_ret (v:=.tuple #[.agg (arrOf (quoW x d 4) 4),.int .u64 (remJ x d 4 4)]) (by simp [results,Tryz.results178,go_sem];rfl) rfl ⟨rfl,below_alloc3 _ _ _ _ _⟩
  ·obtain ⟨j,rfl⟩:∃ j,k=j+1:=⟨k-1,by omega⟩
   have hj8:(j:Int)<4:=by omega
   have ej:((j+1:Nat):Int)-1=j:=by omega
   have ej2:4-(j+1)=4-1-j:=by omega
   rw [ej,ej2]
   have hjs:j<ss.size:=by omega
   have hcx:ax[j]?=some (.int .u64 (x j)):=by rw [Array.getElem?_eq_getElem (by omega),gx j (by omega)]
   have HJ:=H j (by omega)
   have hsj:ss[j]?=some (.int .u64 0):=by rw [Array.getElem?_eq_getElem hjs,hss j hjs,if_neg (by omega)]
   have hrel1:=set_prev (k:=j) (f:=quoW x d 4) hss
   have HR:Hid (∀ (i:Nat) (h:i<(ss.setIfInBounds j (.int .u64 (quoW x d 4 j))).size),(ss.setIfInBounds j (.int .u64 (quoW x d 4 j)))[i]'h=Value.int .u64 (if j<=i then quoW x d 4 i else 0)):=hrel1
   clear hss H hrel1 ej ej2
   go_wp2_with (go_at_call 117;refine (HJ _).mono ?_;rintro e w' ⟨rfl,m',rfl⟩)
   go_roundw
   case rel=>exact ⟨j,m+m',ss.setIfInBounds j (.int .u64 (quoW x d 4 j)),by omega,by go_num,rfl,by simp [hsz],HR.out,rfl⟩
   case measure=>simp [intOf]
theorem mul4 (A n:Nat)(w:World)(hA:A<2^256)(hn:n<18446744073709551616) :
  CB 127 #[A4 A,.int .u64 (n:Int)] w (.tuple #[A4 (A*n),.int .u64 ((A*n/2^256:Nat):Int)]):=by
 refine (limMul4 (W4 A) n w (W4_words A) (by omega)).mono ?_
 rintro e w' ⟨rfl,hb⟩
 refine ⟨?_,hb⟩
 have hs:=mul_val (W4 A) (n:Int) 4
 have hv:=val_bd (mulP_words (W4 A) (n:Int)) 4
 have hc:=mulC_word (W4_words A) (n:=(n:Int)) (by omega) 4
 rw [W4_val4 hA] at hs
 have e4:(18446744073709551616:Int)^4=115792089237316195423570985008687907853269984665640564039457584007913129639936:=by decide
 have e4n:(2:Nat)^256=115792089237316195423570985008687907853269984665640564039457584007913129639936:=by decide
 have hcast:(A:Int)*(n:Int)=((A*n:Nat):Int):=by simp
 rw [e4,hcast] at hs
 rw [e4] at hv
 rw [e4n]
 generalize A*n=P at *
 rw [arr_A4 (mulP_words _ _) (A:=P) (by rw [e4n];omega)]
 have:mulC (W4 A) (n:Int) 4=((P/115792089237316195423570985008687907853269984665640564039457584007913129639936:Nat):Int):=by omega
 rw [this]
theorem div4 (A d:Nat)(w:World)(hA:A<2^256)(hd:0<d)(hd':d<18446744073709551616) :
  CB 178 #[A4 A,.int .u64 (d:Int)] w (.tuple #[A4 (A/d),.int .u64 ((A%d:Nat):Int)]):=by
 have hdi:0<(d:Int)/\(d:Int)<=18446744073709551615:=by omega
 refine (limDiv4 (W4 A) d w hdi (fun j hj w=>limDiv_ok (W4 A) d 4 (W4_words A) hdi j hj w)).mono ?_
 rintro e w' ⟨rfl,hb⟩
 refine ⟨?_,hb⟩
 have hs:=div_val (W4 A) (d:Int) 4 4 (Nat.le_refl _)
 have hr:=remJ_bd (W4 A) (d:Int) 4 4 hdi.1
 obtain ⟨Q,hQ⟩:∃ Q,val (quoW (W4 A) (d:Int) 4) 4=Q:=⟨_,rfl⟩
 rw [W4_val4 hA,hQ] at hs
 simp only [Nat.sub_self,val,Int.zero_add,Int.pow_zero,Int.mul_one,Int.sub_zero] at hs
 generalize hq:remJ (W4 A) (d:Int) 4 4=r at *
 have h1:(A:Int)%(d:Int)=r:=by
  rw [← hs,Int.add_mul_emod_self_left,Int.emod_eq_of_lt hr.1 hr.2]
 have h2:val (quoW (W4 A) (d:Int) 4) 4=(A:Int)/(d:Int):=by
  rw [hQ]
  have:(A:Int)/(d:Int)=r/(d:Int)+Q:=by
   rw [← Int.add_mul_ediv_left r _ (show (d:Int)≠0 by omega)]
   exact congrArg (·/(d:Int)) hs.symm
  rw [this,Int.ediv_eq_zero_of_lt hr.1 hr.2,Int.zero_add]
 have hlt:A/d<2^256:=Nat.lt_of_le_of_lt (Nat.div_le_self _ _) hA
 rw [arr_A4 (quoW_words (W4_words A) hdi.1 4) (A:=A/d) (by rw [h2,Nat.mod_eq_of_lt hlt];simp),← h1]
 simp
end
section
section
attribute [local go_sem] setCell_drewN alloc_drewN
theorem below_two (w:World)(o1 o2:Obj)(m:Nat):Below w.heap.size w ((((w.alloc o1).alloc o2).drewN m)):=by
 have h:=((Below.refl w.heap.size w).alloc (Nat.le_refl _) o1).alloc (by simp) o2
 exact ⟨h.os,h.tape,h.output,h.size,h.block⟩
theorem below_dr {b:Nat}{w w':World}(h:Below b w w')(m:Nat):Below b w (w'.drewN m):=⟨h.os,h.tape,h.output,h.size,h.block⟩
theorem limCmp4 (x y:Nat->Int)(w:World)(hx:Words x)(hy:Words y) :
  CB 154 #[.agg (arrOf x 4),.agg (arrOf y 4)] w (.int .i64 (cmpL x y 4)):=by
 have sx:(arrOf x 4).size=4:=arrOf_size x 4
 have sy:(arrOf y 4).size=4:=arrOf_size y 4
 have gx:=fun i h=>arrOf_get? x 4 i h
 have gy:=fun i h=>arrOf_get? y 4 i h
 have hx0:=arrOf_get x 4
 have hy0:=arrOf_get y 4
 generalize arrOf x 4=ax at *
 generalize arrOf y 4=ay at *
 go_enter Tryz.func154,Tryz.ntmps154
 go_wp2
 go_loopw [5] (fun t wr=>∃ k m:Nat,k<=4/\cmpL x y k=cmpL x y 4/\t=.int .i64 ((k:Int)-1)/\wr=(((w.alloc (.cells ax 23)).alloc (.cells ay 23)).drewN m)) (fun t _=>(intOf t+1).toNat)
 case atStart=>exact ⟨4,0,Nat.le_refl _,rfl,rfl,rfl⟩
 case round =>
  obtain ⟨k,m,hk,hs,rfl,rfl⟩:=hrel
  by_cases h0:k=0
  ·subst h0
   have HS:Hid (cmpL x y 4=0):=hs.symm
   clear hs
   go_wp2
   go_ret
   exact ⟨ret_int HS.out.symm,below_two _ _ _ _⟩
  ·obtain ⟨j,rfl⟩:∃ j,k=j+1:=⟨k-1,by omega⟩
   have ej:((j+1:Nat):Int)-1=j:=by omega
   have hj8:(j:Int)<4:=by omega
   rw [ej]
   have hcx:=gx j (by omega)
   have hcy:=gy j (by omega)
   have hgx:=hx0 j
   have hgy:=hy0 j
   have HS:Hid ((if x j<y j then -1 else if y j<x j then 1 else cmpL x y j)=cmpL x y 4):=hs
   have hkm:j<=4:=by omega
   clear hs ej hk gx gy hx0 hy0 hx hy
   by_cases hlt:x j<y j
   ·have HR:Hid (cmpL x y 4=-1):=by rw [← HS.out,if_pos hlt];rfl
    clear HS
    go_wp2
    go_quiet (fail)
    go_wp2
    go_ret
    exact ⟨ret_int HR.out.symm,below_dr (below_two _ _ _ _) _⟩
   ·by_cases hgt:y j<x j
    ·have HR:Hid (cmpL x y 4=1):=by rw [← HS.out,if_neg hlt,if_pos hgt];rfl
     clear HS
     go_wp2
     go_quiet (fail)
     go_wp2
     go_quiet (fail)
     go_wp2
     go_ret
     exact ⟨ret_int HR.out.symm,below_dr (below_dr (below_two _ _ _ _) _) _⟩
    ·have HR:Hid (cmpL x y j=cmpL x y 4):=by rw [← HS.out,if_neg hlt,if_neg hgt];rfl
     clear HS
     go_wp2
     go_quiet (fail)
     go_wp2
     go_quiet (fail)
     go_wp2
     go_roundw
     case rel=>exact ⟨j,_,hkm,HR.out,by go_num,rfl⟩
     case measure=>simp [intOf]
end
theorem cmp4 (A B:Nat)(w:World)(hA:A<2^256)(hB:B<2^256) :
  CB 154 #[A4 A,A4 B] w (.int .i64 (sgn (A:Int) (B:Int))):=by
 have h:=limCmp4 (W4 A) (W4 B) w (W4_words A) (W4_words B)
 rw [cmpL_val (W4_words A) (W4_words B),W4_val4 hA,W4_val4 hB] at h
 exact h
theorem dlow_v (x:Int)(c:Nat)(hx:0<=x/\x<=18446744073709551615)(hc:c<=62)(w:World) :
  CQ 153 #[.int .u64 x,.int .i64 (c:Int)] w (.int .u64 (x%2^c)):=by
 have hm:=and_mask (y:=x) (r:=c) hx (by omega)
 have hp:(1:Int)<=2^c/\(2:Int)^c<=4611686018427387904:=by
  have a:(2:Nat)^0<=2^c:=Nat.pow_le_pow_right (by decide) (by omega)
  have b:(2:Nat)^c<=2^62:=Nat.pow_le_pow_right (by decide) hc
  have e:((2:Int)^c)=((2^c:Nat):Int):=by simp
  rw [e];omega
 go_enter Tryz.func153,Tryz.ntmps153
 go_wp2
 go_ret
 exact ⟨rfl,rfl⟩
abbrev LD (dn:Bool)(g t bl:Int)(wo co pa:Nat)(le mo:Int):Value:=.agg #[.bool dn,.int .i64 g,.int .i64 t,.int .i64 bl,.int .u64 (W4 wo 0),.int .u64 (W4 wo 1),.int .u64 (W4 wo 2),.int .u64 (W4 wo 3),.int .u64 (W4 co 0),.int .u64 (W4 co 1),.int .u64 (W4 co 2),.int .u64 (W4 co 3),.int .u64 (W4 pa 0),.int .u64 (W4 pa 1),.int .u64 (W4 pa 2),.int .u64 (W4 pa 3),.int .i64 le,.int .i64 mo]
attribute [local irreducible] W4
section
variable (dn:Bool)(g t bl:Int)(wo co pa:Nat)(le mo:Int)(w:World)
theorem kind_v (x V:Int)(n:Nat)(hx:0<=x/\x<=18446744073709551615)(hg:g-5=(n:Int))(hg0:5<=g)(hg1:g<=60)(hV:x/2^n=V) :
  CB 122 #[LD dn g t bl wo co pa le mo,.int .u64 x] w (.int .u64 V):=by
 go_enter Tryz.func122,Tryz.ntmps122
 go_wp2
 go_ret
 exact ⟨rfl,bgo⟩
theorem signals_v (x V:Int)(n:Nat)(hx:0<=x/\x<=18446744073709551615)(hg:g-5-1=(n:Int))(hg0:6<=g)(hg1:g<=60)(hV:bits .and .u64 (x/2^n) 1=V) :
  CB 123 #[LD dn g t bl wo co pa le mo,.int .u64 x] w (.bool (V==1)):=by
 go_enter Tryz.func123,Tryz.ntmps123
 go_wp2
 go_ret
 exact ⟨rfl,bgo⟩
theorem special_v (k R:Int)(s:Bool)(n:Nat)(hk0:0<=k)(hk1:k<=31)(hg:g-5-1=(n:Int))(hg0:6<=g)(hg1:g<=30)(H:Int)(hH:(2:Int)^n=H)(hH0:1<=H)(hH1:H<=16777216)(ho:bits .or .u64 (k*2) 1=k*2+1)(hR:(k*2+if s then 1 else 0)*H=R)(hR1:R<=4611686018427387904) :
  CB 159 #[LD dn g t bl wo co pa le mo,.int .u64 k,.bool s] w (.int .u64 R):=by
 cases s
 ·simp only [Bool.false_eq_true,if_false,Int.add_zero] at hR
  have hR0:0<=R:=by rw [← hR];exact Int.mul_nonneg (by omega) (by omega)
  go_enter Tryz.func159,Tryz.ntmps159
  go_wp2
  go_ret
  exact ⟨rfl,bgo⟩
 ·simp only [if_true] at hR
  have hR0:0<=R:=by rw [← hR];exact Int.mul_nonneg (by omega) (by omega)
  go_enter Tryz.func159,Tryz.ntmps159
  go_wp2
  go_ret
  exact ⟨rfl,bgo⟩
end
end
end Go.Proofs.YtgknbdehlmlipaaGreatDoor
