/-
  Texts that the proof leans on, joined: Lvm, Lv4, Bs, Bu, Va, Nw, Kn, Ec, Sd, Bv, Bp, Eq, Mt, Fi, Fv, Rb, Rm, Rf, Rg, Re, Wm, Ua, Rl, Wa, Vb, Wb, Ru, Rw, Lr, Dt, Vo, De, Dp, Za, Zb, Dq, Dr, Lk.
-/
import Derived.Test.YtpabnhlfbjkmaaaGreatDoorL4
import Derived.Test.YtpabnhlfbjkmaaaGreatDoorL11
import Derived.Test.YtpabnhlfbjkmaaaGreatDoorL1
import Derived.Test.YtpabnhlfbjkmaaaGreatDoorL2
import Derived.Test.YtpabnhlfbjkmaaaGreatDoorL14
import Derived.Test.YtpabnhlfbjkmaaaGreatDoorL7
import Derived.Deep.Cut
import Derived.Deep.CutRange
import Derived.DeepKeys
import Derived.Laws.IdiomCopy
import Derived.Deep.RegionWith
import Derived.Test.YtpabnhlfbjkmaaaGreatDoorL5
import Derived.BigQuiet
import Derived.Test.YtpabnhlfbjkmaaaGreatDoorL10
import Derived.Test.YtpabnhlfbjkmaaaGreatDoorL8
import Derived.Test.YtpabnhlfbjkmaaaGreatDoorRows
import Derived.ProofKit
import Derived.OpenShut
import Derived.Carry
import Derived.Deep.DeepHandedRow
import Derived.LaidLaws
import Derived.ChangeMaps5
set_option linter.unusedSectionVars false
set_option linter.unusedVariables false
set_option linter.unusedSimpArgs false
set_option maxHeartbeats 8000000
set_option maxRecDepth 20000
namespace Go.Proofs.YtpabnhlfbjkmaaaGreatDoor
open Go.RowKit
theorem shrW_val {y:Nat->Int} {n q r A:Nat} (hy:Words y) (hz:∀ i,n<=i->y i=0) (hr:r<64) (m:Nat) (hm:n<=m) (hA:val y n=A):val (shrW y q r) m=((A/2^(64*q+r):Nat):Int):=by
 have hw:Words (fun i=>y (q+i)):=fun i=>hy (q+i)
 have e1:shrW y q r=shrW (fun i=>y (q+i)) 0 r:=by
  funext j;unfold shrW;simp only [Nat.zero_add,Nat.add_assoc]
 have h1:=dn_val hw hr m
 have h2:y (q+m)=0:=hz _ (by omega)
 simp only [h2,Int.zero_emod,Int.zero_mul,Int.add_zero,Nat.add_zero] at h1
 have h3:=val_split y q m
 have h4:val (segW y q m) m=val (fun i=>y (q+i)) m:=val_congr m fun i hi=>segW_lt y q m i hi
 rw [h4,val_more hz (q+m) (by omega),hA] at h3
 rw [e1]
 have hb1:=val_bd hy q
 have hb2:=val_bd (shrW_words hw (q:=0) (r:=r)) m
 have hp:(0:Int)<2^r:=p2_pos r
 have hm1:=Int.emod_nonneg (y q) (Int.ne_of_gt hp)
 have hm2:=Int.emod_lt_of_pos (y q) hp
 generalize val (shrW (fun i=>y (q+i)) 0 r) m=S at *
 generalize val (fun i=>y (q+i)) m=Z at *
 have eZ:Z/2^r=S:=by
  rw [← h1,Int.add_comm,Int.add_mul_ediv_right _ _ (Int.ne_of_gt hp),Int.ediv_eq_zero_of_lt hm1 hm2,Int.zero_add]
 have eA:(A:Int)/18446744073709551616^q=Z:=by
  rw [h3,Int.add_mul_ediv_right _ _ (Int.ne_of_gt (pw_pos q)),Int.ediv_eq_zero_of_lt hb1.1 hb1.2,Int.zero_add]
 rw [← eZ,← eA,Int.natCast_ediv,Int.ediv_ediv_of_nonneg (Int.le_of_lt (pw_pos q)),p64']
 simp
def W4 (A:Nat) (i:Nat):Int:=((A/2^(64*i)%18446744073709551616:Nat):Int)
abbrev A4 (A:Nat):Value:=.agg #[.int .u64 (W4 A 0),.int .u64 (W4 A 1),.int .u64 (W4 A 2),.int .u64 (W4 A 3)]
theorem W4_words (A:Nat):Words (W4 A):=fun i=>by
 unfold W4
 have:=Nat.mod_lt (A/2^(64*i)) (show 0<18446744073709551616 by decide)
 omega
theorem p64n (n:Nat):(18446744073709551616:Int)^n=((2^(64*n):Nat):Int):=by
 rw [Nat.pow_mul]
 simp
theorem W4_val (A:Nat):∀ n,val (W4 A) n=((A%2^(64*n):Nat):Int)
 | 0=>by simp [val,Nat.mod_one]
 | n+1=>by
  show val (W4 A) n+W4 A n*18446744073709551616^n=_
  have e:A%2^(64*(n+1))=A%2^(64*n)+2^(64*n)*(A/2^(64*n)%18446744073709551616):=by
   rw [show 64*(n+1)=64*n+64 by omega,Nat.pow_add]
   exact Nat.mod_mul
  rw [W4_val A n,p64n,e]
  unfold W4
  rw [Int.natCast_add,Int.natCast_mul,Int.mul_comm]
theorem W4_val4 {A:Nat} (h:A<2^256):val (W4 A) 4=A:=by
 rw [W4_val,Nat.mod_eq_of_lt h]
theorem arr_eq {x y:Nat->Int} (hx:Words x) (hy:Words y) (h:val x 4=val y 4):arrOf x 4=arrOf y 4 :=
 arrOf_congr (val_inj hx hy 4 h)
theorem arr_A4 {x:Nat->Int} (hx:Words x) {A:Nat} (h:val x 4=((A%2^256:Nat):Int)):Value.agg (arrOf x 4)=A4 A:=by
 have e:arrOf x 4=arrOf (W4 A) 4:=arr_eq hx (W4_words A) (by rw [h,W4_val])
 rw [e];rfl
theorem A4_mod (A:Nat):A4 (A%2^256)=A4 A:=by
 have:=arr_A4 (W4_words (A%2^256)) (A:=A) (by rw [W4_val,Nat.mod_mod])
 exact this
theorem A4_inj {A B:Nat} (hA:A<2^256) (hB:B<2^256) (h:∀ i,i<4->W4 A i=W4 B i):A=B:=by
 have:=val_congr (x:=W4 A) (y:=W4 B) 4 h
 rw [W4_val4 hA,W4_val4 hB] at this
 omega
theorem add4 (A B:Nat) (w:World) (hA:A<2^256) (hB:B<2^256) :
  CB 107 #[A4 A,A4 B] w (.tuple #[A4 (A+B),.int .u64 (((A+B)/2^256:Nat):Int)]):=by
 refine (limAdd4 (W4 A) (W4 B) w (W4_words A) (W4_words B)).mono ?_
 rintro e w' ⟨rfl,hb⟩
 refine ⟨?_,hb⟩
 have hs:=sum_val (x:=W4 A) (y:=W4 B) 4
 have hc:=carryW_01 (W4_words A) (W4_words B) 4
 have hv:=val_bd (sumW_words (W4 A) (W4 B)) 4
 rw [W4_val4 hA,W4_val4 hB] at hs
 have e4:(18446744073709551616:Int)^4=115792089237316195423570985008687907853269984665640564039457584007913129639936:=by decide
 have e4n:(2:Nat)^256=115792089237316195423570985008687907853269984665640564039457584007913129639936:=by decide
 rw [e4] at hs hv
 rw [e4n] at hA hB ⊢
 rw [arr_A4 (sumW_words _ _) (A:=A+B) (by rw [e4n];omega)]
 have:carryW (W4 A) (W4 B) 4=(((A+B)/115792089237316195423570985008687907853269984665640564039457584007913129639936:Nat):Int):=by omega
 rw [this]
theorem sub4 (A B:Nat) (w:World) (hA:A<2^256) (hB:B<2^256) :
  CB 140 #[A4 A,A4 B] w (.tuple #[A4 (A+2^256-B),.int .u64 (if A<B then 1 else 0)]):=by
 refine (limSub4 (W4 A) (W4 B) w (W4_words A) (W4_words B)).mono ?_
 rintro e w' ⟨rfl,hb⟩
 refine ⟨?_,hb⟩
 have hs:=dif_val (x:=W4 A) (y:=W4 B) (W4_words A) (W4_words B) 4
 have hc:=borW_01 (W4 A) (W4 B) 4
 have hv:=val_bd (difW_words (W4 A) (W4 B)) 4
 rw [W4_val4 hA,W4_val4 hB] at hs
 have e4:(18446744073709551616:Int)^4=115792089237316195423570985008687907853269984665640564039457584007913129639936:=by decide
 have e4n:(2:Nat)^256=115792089237316195423570985008687907853269984665640564039457584007913129639936:=by decide
 rw [e4] at hs hv
 rw [e4n] at hA hB ⊢
 rw [arr_A4 (difW_words _ _) (A:=A+115792089237316195423570985008687907853269984665640564039457584007913129639936-B) (by rw [e4n];omega)]
 have:borW (W4 A) (W4 B) 4=if A<B then 1 else 0:=by split <;> omega
 rw [this]
theorem A4_sub {A B:Nat} (h:B<=A):A4 (A+2^256-B)=A4 (A-B):=by
 rw [← A4_mod (A-B),← A4_mod (A+2^256-B),show A+2^256-B=A-B+2^256 by omega,Nat.add_mod_right]
theorem shl4 (A n:Nat) (w:World) (hA:A<2^256) (hn:n<=100000) :
  CB 129 #[A4 A,.int .i64 n] w (A4 (A*2^n)):=by
 refine (shlA4 (W4 A) n w (W4_words A) (by omega)).mono ?_
 rintro e w' ⟨rfl,hb⟩
 refine ⟨?_,hb⟩
 congr 1
 by_cases h1:n=0
 ·subst h1
  have e:shlA (W4 A) ((0:Nat):Int)=W4 A:=by funext j;unfold shlA;rw [if_pos (by omega)]
  rw [e,Nat.pow_zero,Nat.mul_one];rfl
 refine arr_A4 (shlA_words (W4_words A) _) ?_
 have hlow:=shlL_fin (W4_words A) (N:=4) (((n:Int)/64).toNat) (((n:Int)%64).toNat)
 have es:shlA (W4 A) (n:Int)=shlL (W4 A) ((n:Int)/64).toNat ((n:Int)%64).toNat:=by funext j;unfold shlA;rw [if_neg (by omega)]
 rw [es]
 obtain ⟨q,hq⟩:∃ q:Nat,((n:Int)/64).toNat=q:=⟨_,rfl⟩
 obtain ⟨r,hr⟩:∃ r:Nat,((n:Int)%64).toNat=r:=⟨_,rfl⟩
 rw [hq,hr] at hlow ⊢
 have hn:n=64*q+r:=by omega
 have hr6:r<64:=by omega
 have h4:val (shlL (W4 A) q r) 4=val (finL (lowW (W4 A) 4) q r) 4:=by
  refine val_congr 4 fun i hi=>?_
  have:=congrFun hlow i
  rw [lowW_lt hi,lowW_lt hi] at this
  exact this
 have hlw:Words (lowW (W4 A) 4):=lowW_words (W4_words A) 4
 have hz:∀ i,4<=i->lowW (W4 A) 4 i=0:=fun i hi=>lowW_ge hi
 have hF:=finL_val hlw hz q hr6
 have hvl:val (lowW (W4 A) 4) 4=A:=by
  rw [val_congr (x:=lowW (W4 A) 4) (y:=W4 A) 4 (fun i hi=>lowW_lt hi),W4_val4 hA]
 rw [hvl,← hn] at hF
 have hsp:=val_split (finL (lowW (W4 A) 4) q r) 4 (q+1)
 rw [show 4+(q+1)=4+q+1 by omega,hF] at hsp
 have hbd:=val_bd (finL_words hlw (q:=q) (r:=r)) 4
 have e4:(18446744073709551616:Int)^4=((2^256:Nat):Int):=by decide
 rw [e4] at hbd hsp
 rw [h4]
 have:(A:Int)*2^n=((A*2^n:Nat):Int):=by simp
 rw [this] at hsp
 have h5:=congrArg (·%((2^256:Nat):Int)) hsp
 simp only [Int.add_mul_emod_self_right,Int.emod_eq_of_lt hbd.1 hbd.2] at h5
 rw [← h5]
 rfl
theorem shr4 (A n:Nat) (w:World) (hA:A<2^256) (hn:n<=100000) :
  CB 139 #[A4 A,.int .i64 n] w (A4 (A/2^n)):=by
 refine (shrA4 (W4 A) n w (W4_words A) (by omega)).mono ?_
 rintro e w' ⟨rfl,hb⟩
 refine ⟨?_,hb⟩
 congr 1
 by_cases h1:n=0
 ·subst h1
  have e:shrA (W4 A) ((0:Nat):Int) 4=W4 A:=by funext j;unfold shrA;rw [if_pos (by omega)]
  rw [e,Nat.pow_zero,Nat.div_one];rfl
 refine arr_A4 (shrA_words (W4_words A) _ _) ?_
 have hlow:=shrL_fin (W4_words A) (N:=4) (((n:Int)/64).toNat) (((n:Int)%64).toNat)
 have es:shrA (W4 A) (n:Int) 4=shrL (W4 A) ((n:Int)/64).toNat ((n:Int)%64).toNat 4:=by funext j;unfold shrA;rw [if_neg (by omega)]
 rw [es]
 obtain ⟨q,hq⟩:∃ q:Nat,((n:Int)/64).toNat=q:=⟨_,rfl⟩
 obtain ⟨r,hr⟩:∃ r:Nat,((n:Int)%64).toNat=r:=⟨_,rfl⟩
 rw [hq,hr] at hlow ⊢
 have hn:n=64*q+r:=by omega
 have hr6:r<64:=by omega
 have h4:val (shrL (W4 A) q r 4) 4=val (shrW (lowW (W4 A) 4) q r) 4:=by
  refine val_congr 4 fun i hi=>?_
  have:=congrFun hlow i
  rw [lowW_lt hi] at this
  exact this
 rw [h4]
 exact (shrW_val (lowW_words (W4_words A) 4) (fun i hi=>lowW_ge hi) hr6 4 (Nat.le_refl _) (by
  rw [val_congr (x:=lowW (W4 A) 4) (y:=W4 A) 4 (fun i hi=>lowW_lt hi),W4_val4 hA])).trans (by rw [← hn,Nat.mod_eq_of_lt (Nat.lt_of_le_of_lt (Nat.div_le_self _ _) hA)])
theorem len4_le {A k:Nat} (hA:A<2^256):lenL (W4 A) 4<=(k:Int)↔A<2^k:=by
  have hv:=W4_val4 hA
  by_cases h0:0<sizeL (W4 A) 4
  · obtain ⟨L,h1,h2,h3⟩:=len_bd (W4_words A) h0
    rw [hv] at h2 h3
    rw [h1]
    have h2' : 2 ^ L ≤ A := by have : ((2 ^ L : Nat) : Int) ≤ A := by simpa using h2
                               omega
    have h3' : A < 2 ^ (L + 1) := by have : (A : Int) < ((2 ^ (L + 1) : Nat) : Int) := by simpa using h3
                                     omega
    constructor
    · intro h
      exact Nat.lt_of_lt_of_le h3' (Nat.pow_le_pow_right (by decide) (by omega))
    · intro h
      have:2^L<2^k:=Nat.lt_of_le_of_lt h2' h
      have:=(Nat.pow_lt_pow_iff_right (a:=2) (by decide)).1 this
      omega
  · have hz:sizeL (W4 A) 4=0:=by omega
    have hl:lenL (W4 A) 4=0:=by unfold lenL;rw [if_pos hz]
    have hA0:(A:Int)=0:=by
      rw [← hv,← val_bare 4,hz];rfl
    rw [hl]
    have:A=0:=by omega
    subst this
    exact ⟨fun _=>Nat.two_pow_pos k,fun _=>by omega⟩
theorem len4_zero {A:Nat} (hA:A<2^256):lenL (W4 A) 4=0↔A=0:=by
 have h:=len4_le (k:=0) hA
 have h2:0<=lenL (W4 A) 4:=by
  by_cases h0:0<sizeL (W4 A) 4
  ·obtain ⟨L,h1,_⟩:=len_bd (W4_words A) h0
   omega
  ·unfold lenL;rw [if_pos (by omega)];exact Int.le_refl _
 constructor
 ·intro h3;have:=h.1 (by omega);omega
 ·intro h3;have:=h.2 (by omega);omega
theorem lenL_low (A:Nat):lenL (lowW (W4 A) 4) 4=lenL (W4 A) 4:=by
 unfold lenL
 rw [sizeL_congr (x:=lowW (W4 A) 4) (y:=W4 A) 4 (fun i hi=>lowW_lt hi)]
 by_cases h:sizeL (W4 A) 4=0
 ·rw [if_pos h,if_pos h]
 ·have:=sizeL_le (W4 A) 4
  rw [if_neg h,if_neg h,lowW_lt (by omega)]
theorem len4' (A:Nat) (w:World):CB 172 #[A4 A] w (.int .i64 (lenL (W4 A) 4)):=len4 (W4 A) w (W4_words A)
theorem bit4 (A n:Nat) (w:World) (hA:A<2^256) (hn:n<256) :
  CB 141 #[A4 A,.int .i64 n] w (.int .u64 ((A/2^n%2:Nat):Int)):=by
 refine (limBit4 (W4 A) n w (W4_words A) (by omega) (by omega)).mono ?_
 rintro e w' ⟨rfl,hb⟩
 refine ⟨?_,hb⟩
 have hb:=W4_words A ((n:Int)/64).toNat
 have h1:bitV (W4 A ((n:Int)/64).toNat) n=((A/2^n%2:Nat):Int):=by
  unfold bitV
  have h2:=and_mask (y:=W4 A ((n:Int)/64).toNat/2^((n:Int)%64).toNat) (r:=1) (div_word _ _ hb) (by decide)
  rw [show (1:Int)=2^1-1 by decide,h2]
  unfold W4
  obtain ⟨q,hq⟩:∃ q:Nat,((n:Int)/64).toNat=q:=⟨_,rfl⟩
  obtain ⟨r,hr⟩:∃ r:Nat,((n:Int)%64).toNat=r:=⟨_,rfl⟩
  rw [hq,hr]
  have hn:n=64*q+r:=by omega
  have hr6:r<64:=by omega
  have e1:((2:Int)^r)=((2^r:Nat):Int):=by simp
  rw [e1,← Int.natCast_ediv]
  have e2:A/2^n=A/2^(64*q)/2^r:=by rw [hn,Nat.pow_add,Nat.div_div_eq_div_mul]
  rw [e2]
  generalize A/2^(64*q)=B
  have e3:B%18446744073709551616/2^r%2=B/2^r%2:=by
   rw [show (18446744073709551616:Nat)=2^r*(2*2^(63-r)) by rw [← Nat.pow_succ',← Nat.pow_add,show r+(63-r+1)=64 by omega]]
   rw [Nat.mod_mul_right_div_self,Nat.mod_mul_right_mod]
  have e4:((2:Int)^1)=((2:Nat):Int):=by decide
  rw [e4,← Int.natCast_emod,e3]
 rw [h1]
theorem of4 (u:Nat) (w:World) (hu:u<18446744073709551616) :
  CB 130 #[.int .u64 u] w (A4 u):=by
 have e0:W4 u 0=u:=by unfold W4;rw [Nat.mul_zero,Nat.pow_zero,Nat.div_one,Nat.mod_eq_of_lt hu]
 have e1:∀ i,0<i->W4 u i=0:=fun i hi=>by
  unfold W4
  have:u<2^(64*i):=Nat.lt_of_lt_of_le hu (by rw [show (18446744073709551616:Nat)=2^64 by decide];exact Nat.pow_le_pow_right (by decide) (by omega))
  rw [Nat.div_eq_of_lt this];rfl
 unfold A4
 rw [e0,e1 1 (by decide),e1 2 (by decide),e1 3 (by decide)]
 go_enter Tryz.func130,Tryz.ntmps130
 go_wp2
 exact bodyPost_ret (v:=.agg #[.int .u64 u,.int .u64 0,.int .u64 0,.int .u64 0]) (by simp [results,Tryz.results130,go_sem]) rfl ⟨rfl,((Below.refl _ _).alloc (Nat.le_refl _) _).alloc (by simp) _⟩
theorem lt_below {n g:Nat} {W W':World} (hb:Below n W W') (h:g<W.heap.size):g<W'.heap.size:=Nat.lt_of_lt_of_le h hb.size
theorem bnext {w0 W W':World} (h:Below w0.heap.size w0 W) (hb:Below W.heap.size W W'):Below w0.heap.size w0 W':=h.trans (hb.mono h.size)
theorem cell_set_map (W:World) (b i:Nat) (v:Value):(W.setCell ⟨b,i,none⟩ v).cell? ⟨b,i,none⟩=(W.cell? ⟨b,i,none⟩).map fun _=>v:=by
 unfold World.cell? World.setCell
 simp only [Array.getElem?_modify,if_true]
 cases h:W.heap[b]? with
 | none=>simp
 | some o =>
  cases o with
  | cells c e fr =>
   simp only [Option.map_some,Option.isSome_none,Bool.false_eq_true,if_false]
   by_cases hi:i<c.size
   ·simp [hi]
   ·simp [hi]
  | _=>simp
structure Dat where
 c:Int
 s:Bool
 g:Bool
 x:Int
 k:Nat
abbrev DV (c:Int) (s g:Bool) (x:Int) (k:Nat):Value:=.agg #[.int .i64 c,.bool s,.bool g,.int .i64 x,.int .u64 (W4 k 0),.int .u64 (W4 k 1),.int .u64 (W4 k 2),.int .u64 (W4 k 3)]
abbrev Dat.v (d:Dat):Value:=DV d.c d.s d.g d.x d.k
theorem W4_zero (i:Nat):W4 0 i=0:=by unfold W4;simp
def spc (f:Nat) (s:Bool) (F:Nat):Dat:=if F=0 then ⟨2,s,false,0,0⟩ else if F<2^(f-1) then ⟨3,s,true,0,F⟩ else ⟨3,s,false,0,F-2^(f-1)⟩
structure DF where
 t:Nat
 w:Nat
 j:Nat
 l:Int
 dn:Bool
def DF.ok (f:DF):Prop:=(f.t=20/\f.w=6/\f.j=2/\f.l=-101)∨(f.t=50/\f.w=8/\f.j=5/\f.l=-398)∨(f.t=110/\f.w=12/\f.j=11/\f.l=-6176)
def vR (f:DF) (B:Nat):Nat:=B%2^f.t
def vG (f:DF) (B:Nat):Nat:=B/2^f.t%2^(f.w+5)
def vS (f:DF) (B:Nat):Bool:=decide (B/2^(f.t+(f.w+5))%2=1)
def vV (w G:Nat):Nat:=G/2^w
def vF (dn:Bool) (w G:Nat):Nat :=
 if dn then (if vV w G<24 then vV w G/8*2^w+G%2^w else vV w G/2%4*2^w+G%2^w)
 else (if vV w G<24 then G/8 else G/2%2^(w+2))
def vL (dn:Bool) (w G:Nat):Nat :=
 if dn then (if vV w G<24 then vV w G%8 else 8+vV w G%2) else (if vV w G<24 then G%8 else 8+G%2)
def vT (f:DF) (R:Nat):Nat:=if f.dn then dlU f.j R else R
def vQ (f:DF):Nat:=if f.dn then 10^(3*f.j) else 2^f.t
def vD (f:DF) (s:Bool) (G R:Nat):Dat :=
 if vV f.w G=30 then ⟨2,s,false,0,0⟩
 else if vV f.w G=31 then ⟨3,s,decide (G/2^(f.w-1)%2=1),0,if vT f R<10^(3*f.j) then vT f R else 0⟩
 else ⟨1,s,false,(vF f.dn f.w G:Int)+f.l,if vL f.dn f.w G*vQ f+vT f R<10^(3*f.j+1) then vL f.dn f.w G*vQ f+vT f R else 0⟩
def vM (f:DF) (B:Nat):Dat:=vD f (vS f B) (vG f B) (vR f B)
def vI (f:DF) (d:Dat):Prop :=
 (d.c=1/\d.g=false/\d.k<10^(3*f.j+1)/\f.l<=d.x/\d.x<=f.l+3*2^f.w-1)∨(d.c=2/\d.g=false/\d.k=0/\d.x=0)∨(d.c=3/\d.x=0/\d.k<10^(3*f.j))
def vN (dn:Bool) (w E a:Nat):Nat :=
 if dn then (if 8<=a then 24+E/2^w*2+a%2 else E/2^w*8+a)*2^w+E%2^w
 else (if 8<=a then 3*2^(w+3)+E*2+a%2 else E*8+a)
def vPG (f:DF) (d:Dat):Nat :=
 if d.c=2 then 30*2^f.w else if d.c=3 then 31*2^f.w+(if d.g then 2^(f.w-1) else 0)
 else vN f.dn f.w (d.x-f.l).toNat (d.k/vQ f)
def vPR (f:DF) (d:Dat):Nat :=
 if d.c=2 then 0 else if d.c=3 then (if f.dn then dlP f.j d.k else d.k)
 else if f.dn then dlP f.j (d.k%10^(3*f.j)) else d.k%2^f.t
def vP (f:DF) (d:Dat):Nat:=(if d.s then 2^(f.t+(f.w+5)) else 0)+vPG f d*2^f.t+vPR f d
theorem ten3 (j:Nat):(10:Nat)^(3*j)=1000^j:=by rw [Nat.pow_mul]
theorem DF.ok.t10 {f:DF} (h:f.ok):f.t=10*f.j:=by
 rcases h with ⟨h1,h2,h3,h4⟩ | ⟨h1,h2,h3,h4⟩ | ⟨h1,h2,h3,h4⟩ <;> omega
theorem DF.ok.pt {f:DF} (h:f.ok):2^f.t=1024^f.j:=by rw [h.t10,Nat.pow_mul]
theorem v_parts (f:DF) (s:Bool) {G R:Nat} (hG:G<2^(f.w+5)) (hR:R<2^f.t) :
  vR f ((if s then 2^(f.t+(f.w+5)) else 0)+G*2^f.t+R)=R/\vG f ((if s then 2^(f.t+(f.w+5)) else 0)+G*2^f.t+R)=G/\vS f ((if s then 2^(f.t+(f.w+5)) else 0)+G*2^f.t+R)=s:=by
 have e:(if s then 2^(f.t+(f.w+5)) else 0)+G*2^f.t+R=((if s then 1 else 0)*2^(f.w+5)+G)*2^f.t+R:=by
  cases s
  ·simp
  ·simp only [if_true,Nat.one_mul,Nat.add_mul]
   rw [← Nat.pow_add,Nat.add_comm (f.w+5) f.t]
 rw [e]
 have hT:0<2^f.t:=Nat.two_pow_pos _
 have hH:0<2^(f.w+5):=Nat.two_pow_pos _
 have h1:(((if s then 1 else 0)*2^(f.w+5)+G)*2^f.t+R)%2^f.t=R:=by rw [Nat.mul_comm,Nat.mul_add_mod,Nat.mod_eq_of_lt hR]
 have h2:(((if s then 1 else 0)*2^(f.w+5)+G)*2^f.t+R)/2^f.t=(if s then 1 else 0)*2^(f.w+5)+G:=by rw [Nat.mul_comm,Nat.mul_add_div hT,Nat.div_eq_of_lt hR,Nat.add_zero]
 have h3:((if s then 1 else 0)*2^(f.w+5)+G)%2^(f.w+5)=G:=by rw [Nat.mul_comm,Nat.mul_add_mod,Nat.mod_eq_of_lt hG]
 have h4:((if s then 1 else 0)*2^(f.w+5)+G)/2^(f.w+5)=(if s then 1 else 0):=by rw [Nat.mul_comm,Nat.mul_add_div hH,Nat.div_eq_of_lt hG,Nat.add_zero]
 refine ⟨h1,?_,?_⟩
 ·unfold vG;rw [h2,h3]
 ·unfold vS;rw [Nat.pow_add 2 f.t (f.w+5),← Nat.div_div_eq_div_mul,h2,h4];cases s <;> rfl
theorem vG_lt (f:DF) (B:Nat):vG f B<2^(f.w+5):=Nat.mod_lt _ (Nat.two_pow_pos _)
theorem vR_lt (f:DF) (B:Nat):vR f B<2^f.t:=Nat.mod_lt _ (Nat.two_pow_pos _)
theorem vT_lt {f:DF} (h:f.ok) (hd:f.dn=true) (R:Nat):vT f R<10^(3*f.j):=by
 unfold vT
 rw [hd,if_pos rfl,ten3]
 exact dlU_lt _ _
theorem vD_is {f:DF} (h:f.ok) (s:Bool) {G R:Nat} (hG:G<2^(f.w+5)) (hR:R<2^f.t):vI f (vD f s G R):=by
 have hp:0<(10:Nat)^(3*f.j):=Nat.pow_pos (by decide)
 have hp':0<(10:Nat)^(3*f.j+1):=Nat.pow_pos (by decide)
 unfold vD
 by_cases h30:vV f.w G=30
 ·rw [if_pos h30];exact Or.inr (Or.inl ⟨rfl,rfl,rfl,rfl⟩)
 ·rw [if_neg h30]
  by_cases h31:vV f.w G=31
  ·rw [if_pos h31]
   refine Or.inr (Or.inr ⟨rfl,rfl,?_⟩)
   show (if vT f R<10^(3*f.j) then vT f R else 0)<10^(3*f.j)
   split <;> omega
  ·rw [if_neg h31]
   refine Or.inl ⟨rfl,rfl,?_,?_,?_⟩
   ·show (if vL f.dn f.w G*vQ f+vT f R<10^(3*f.j+1) then vL f.dn f.w G*vQ f+vT f R else 0)<10^(3*f.j+1)
    split <;> omega
   ·show f.l<=(vF f.dn f.w G:Int)+f.l
    omega
   ·show (vF f.dn f.w G:Int)+f.l<=f.l+3*2^f.w-1
    have:vF f.dn f.w G<3*2^f.w:=by
     unfold vF
     unfold vV at *
     rcases h with ⟨h1,h2,h3,h4⟩ | ⟨h1,h2,h3,h4⟩ | ⟨h1,h2,h3,h4⟩ <;> rw [h2] at hG h30 h31 ⊢ <;> cases f.dn <;> simp only [Bool.false_eq_true,if_false,if_true] <;> simp only [Nat.reducePow,Nat.reduceAdd] at*<;> split <;> omega
    have e:((3*2^f.w:Nat):Int)=3*2^f.w:=by simp
    omega
theorem vM_is {f:DF} (h:f.ok) (B:Nat):vI f (vM f B):=vD_is h _ (vG_lt f B) (vR_lt f B)
theorem vPG_lt {f:DF} (h:f.ok) {d:Dat} (hd:vI f d):vPG f d<2^(f.w+5):=by
 have hq:d.c=1->d.k/vQ f<=9:=fun h1=>by
  rcases hd with ⟨_,_,hk,_,_⟩ | ⟨h2,_⟩ | ⟨h2,_⟩
  ·unfold vQ
   rcases h with ⟨h1,h2,h3,h4⟩ | ⟨h1,h2,h3,h4⟩ | ⟨h1,h2,h3,h4⟩ <;> rw [h3] at hk ⊢ <;> rw [h1] <;> cases f.dn <;> simp only [Bool.false_eq_true,if_false,if_true] <;> simp only [Nat.reducePow,Nat.reduceAdd,Nat.reduceMul] at*<;> omega
  ·omega
  ·omega
 unfold vPG
 rcases hd with ⟨c1,g1,hk,hx,hx'⟩ | ⟨c1,g1,hk,hx⟩ | ⟨c1,hx,hk⟩
 ·have h9:=hq c1
  rw [if_neg (by omega),if_neg (by omega)]
  generalize d.k/vQ f=a at *
  have hE:(d.x-f.l).toNat<3*2^f.w:=by
   have e:((3*2^f.w:Nat):Int)=3*2^f.w:=by simp
   omega
  generalize (d.x-f.l).toNat=E at *
  unfold vN
  rcases h with ⟨h1,h2,h3,h4⟩ | ⟨h1,h2,h3,h4⟩ | ⟨h1,h2,h3,h4⟩ <;> rw [h2] at hE ⊢ <;> cases f.dn <;> simp only [Bool.false_eq_true,if_false,if_true] <;> simp only [Nat.reducePow,Nat.reduceAdd,Nat.reduceMul] at*<;> split <;> omega
 ·rw [if_pos c1]
  rcases h with ⟨h1,h2,h3,h4⟩ | ⟨h1,h2,h3,h4⟩ | ⟨h1,h2,h3,h4⟩ <;> rw [h2] <;> decide
 ·rw [if_neg (by omega),if_pos c1]
  rcases h with ⟨h1,h2,h3,h4⟩ | ⟨h1,h2,h3,h4⟩ | ⟨h1,h2,h3,h4⟩ <;> rw [h2] <;> cases d.g <;> decide
theorem vPR_lt {f:DF} (h:f.ok) {d:Dat} (hd:vI f d):vPR f d<2^f.t:=by
 unfold vPR
 rcases hd with ⟨c1,g1,hk,hx,hx'⟩ | ⟨c1,g1,hk,hx⟩ | ⟨c1,hx,hk⟩
 ·rw [if_neg (by omega),if_neg (by omega)]
  split
  ·rw [h.pt];exact dlP_lt _ _
  ·exact Nat.mod_lt _ (Nat.two_pow_pos _)
 ·rw [if_pos c1];exact Nat.two_pow_pos _
 ·rw [if_neg (by omega),if_pos c1]
  split
  ·rw [h.pt];exact dlP_lt _ _
  ·refine Nat.lt_of_lt_of_le hk ?_
   rcases h with ⟨h1,h2,h3,h4⟩ | ⟨h1,h2,h3,h4⟩ | ⟨h1,h2,h3,h4⟩ <;> rw [h1,h3] <;> decide
theorem vP_lt {f:DF} (h:f.ok) {d:Dat} (hd:vI f d):vP f d<2^(f.t+(f.w+6)):=by
 have h1:=vPG_lt h hd
 have h2:=vPR_lt h hd
 unfold vP
 have e5:2^(f.t+(f.w+5))=2^(f.w+5)*2^f.t:=by rw [← Nat.pow_add,Nat.add_comm]
 have e6:2^(f.t+(f.w+6))=2*(2^(f.w+5)*2^f.t):=by rw [← Nat.pow_add,← Nat.pow_succ'];congr 1;omega
 have h3:(if d.s then 2^(f.t+(f.w+5)) else 0)<=2^(f.w+5)*2^f.t:=by split <;> omega
 have h4:(vPG f d+1)*2^f.t<=2^(f.w+5)*2^f.t:=Nat.mul_le_mul_right _ h1
 rw [Nat.add_mul,Nat.one_mul] at h4
 rw [e6]
 omega
theorem vP_256 {f:DF} (h:f.ok) {d:Dat} (hd:vI f d):vP f d<2^256:=by
 refine Nat.lt_of_lt_of_le (vP_lt h hd) (Nat.pow_le_pow_right (by decide) ?_)
 rcases h with ⟨h1,h2,h3,h4⟩ | ⟨h1,h2,h3,h4⟩ | ⟨h1,h2,h3,h4⟩ <;> omega
theorem vM_256 {f:DF} (h:f.ok) (B:Nat):(vM f B).k<2^256:=by
 have hi:=vM_is h B
 have e:(10:Nat)^(3*f.j+1)<=10^34:=Nat.pow_le_pow_right (by decide) (by rcases h with ⟨h1,h2,h3,h4⟩ | ⟨h1,h2,h3,h4⟩ | ⟨h1,h2,h3,h4⟩ <;> omega)
 have e':(10:Nat)^(3*f.j)<=10^34:=Nat.pow_le_pow_right (by decide) (by rcases h with ⟨h1,h2,h3,h4⟩ | ⟨h1,h2,h3,h4⟩ | ⟨h1,h2,h3,h4⟩ <;> omega)
 have e2:(10:Nat)^34<2^256:=by decide
 rcases hi with ⟨_,_,hk,_⟩ | ⟨_,_,hk,_⟩ | ⟨_,_,hk⟩ <;> omega
theorem vN_back {f:DF} (h:f.ok) {E a:Nat} (hE:E<3*2^f.w) (ha:a<=9):vF f.dn f.w (vN f.dn f.w E a)=E/\vL f.dn f.w (vN f.dn f.w E a)=a/\vV f.w (vN f.dn f.w E a)≠30/\vV f.w (vN f.dn f.w E a)≠31:=by
 unfold vF vL vN vV
 rcases h with ⟨h1,h2,h3,h4⟩ | ⟨h1,h2,h3,h4⟩ | ⟨h1,h2,h3,h4⟩ <;> rw [h2] at hE ⊢ <;> cases f.dn <;> simp only [Bool.false_eq_true,if_false,if_true] <;> simp only [Nat.reducePow,Nat.reduceAdd,Nat.reduceMul] at*<;> by_cases h8:8<=a
 all_goals simp only [h8,if_true,if_false]
 all_goals refine ⟨?_,?_,?_,?_⟩
 all_goals (try split) <;> omega
theorem vM_vP {f:DF} (h:f.ok) {d:Dat} (hd:vI f d):vM f (vP f d)=d:=by
 obtain ⟨e1,e2,e3⟩:=v_parts f d.s (vPG_lt h hd) (vPR_lt h hd)
 unfold vM
 unfold vP
 rw [e1,e2,e3]
 obtain ⟨c,s,g,x,k⟩:=d
 unfold vD vPG vPR
 rcases hd with ⟨c1,g1,hk,hx,hx'⟩ | ⟨c1,g1,hk,hx⟩ | ⟨c1,hx,hk⟩
 ·simp only at c1 g1 hk hx hx'
  subst c1 g1
  simp only [show ¬ (1:Int)=2 by decide,show ¬ (1:Int)=3 by decide,if_false]
  have hE:(x-f.l).toNat<3*2^f.w:=by
   have e:((3*2^f.w:Nat):Int)=3*2^f.w:=by simp
   omega
  have ha:k/vQ f<=9:=by
   unfold vQ
   rcases h with ⟨h1,h2,h3,h4⟩ | ⟨h1,h2,h3,h4⟩ | ⟨h1,h2,h3,h4⟩ <;> rw [h3] at hk ⊢ <;> rw [h1] <;> cases f.dn <;> simp only [Bool.false_eq_true,if_false,if_true] <;> simp only [Nat.reducePow,Nat.reduceAdd,Nat.reduceMul] at*<;> omega
  obtain ⟨b1,b2,b3,b4⟩:=vN_back h hE ha
  rw [if_neg b3,if_neg b4,b1,b2]
  have ht:k/vQ f*vQ f+vT f (if f.dn then dlP f.j (k%10^(3*f.j)) else k%2^f.t)=k:=by
   unfold vT vQ
   cases f.dn
   ·simp only [Bool.false_eq_true,if_false]
    rw [Nat.mul_comm];exact Nat.div_add_mod k _
   ·simp only [if_true]
    rw [dl_there _ _ (by rw [← ten3];exact Nat.mod_lt _ (Nat.pow_pos (by decide))),Nat.mul_comm]
    exact Nat.div_add_mod k _
  rw [ht,if_pos hk]
  congr 1
  omega
 ·simp only at c1 g1 hk hx
  subst c1 g1 hk hx
  simp only [if_true]
  have:vV f.w (30*2^f.w)=30:=by unfold vV;exact Nat.mul_div_cancel _ (Nat.two_pow_pos _)
  rw [if_pos this]
 ·simp only at c1 hx hk
  subst c1 hx
  simp only [show ¬ (3:Int)=2 by decide,if_false,if_true]
  have hw:2^f.w=2*2^(f.w-1):=by rw [← Nat.pow_succ'];congr 1;rcases h with ⟨h1,h2,h3,h4⟩ | ⟨h1,h2,h3,h4⟩ | ⟨h1,h2,h3,h4⟩ <;> omega
  have hp:=Nat.two_pow_pos (f.w-1)
  have h31:vV f.w (31*2^f.w+if g then 2^(f.w-1) else 0)=31:=by
   unfold vV
   rw [Nat.mul_comm,Nat.mul_add_div (Nat.two_pow_pos _),Nat.div_eq_of_lt (by split <;> omega)]
  have hg:decide ((31*2^f.w+if g then 2^(f.w-1) else 0)/2^(f.w-1)%2=1)=g:=by
   rw [hw,show 31*(2*2^(f.w-1))=2^(f.w-1)*62 by omega,Nat.mul_add_div hp]
   cases g
   ·simp
   ·simp only [if_true];rw [Nat.div_self hp];decide
  rw [if_neg (by rw [h31];decide),if_pos h31,hg]
  have ht:vT f (if f.dn then dlP f.j k else k)=k:=by
   unfold vT
   cases f.dn
   ·simp
   ·simp only [if_true]
    exact dl_there _ _ (by rw [← ten3];exact hk)
  rw [ht,if_pos hk]
theorem bnx {w0 W W':World} (h:Below w0.heap.size w0 W) (hb:Below W.heap.size W W'):Below w0.heap.size w0 W':=h.trans (hb.mono h.size)
def bl (V:Nat):Nat:=if V=0 then 0 else Nat.log2 V+1
theorem bl_le {V k:Nat}:bl V<=k↔V<2^k:=by
 unfold bl
 by_cases h:V=0
 ·subst h;simp;exact Nat.two_pow_pos k
 ·rw [if_neg h]
  have:=Nat.log2_lt h (k:=k)
  omega
theorem bl_ge {V k:Nat}:k<bl V↔2^k<=V:=by
 have:=bl_le (V:=V) (k:=k)
 omega
theorem bl_zero {V:Nat}:bl V=0↔V=0:=by
 unfold bl;by_cases h:V=0 <;> simp [h]
theorem bl_eq {V L:Nat} (h1:2^(L-1)<=V) (h2:V<2^L):bl V=L:=by
 have a:=bl_le.2 h2
 by_cases h:L=0
 ·omega
 ·have b:=bl_ge.2 h1
  omega
def Nt (K V:Nat) (v:Value) (w:World):Prop:=∃ a k cap z,v=.slice a k cap/\k<=K/\Num w a k cap z/\val z k=(V:Int)
theorem Nt.next {K V:Nat} {v:Value} {w w':World} (h:Nt K V v w) (hb:Below w.heap.size w w'):Nt K V v w':=by
 obtain ⟨a,k,cap,z,h1,h2,h3,h4⟩:=h
 exact ⟨a,k,cap,z,h1,h2,h3.next hb,h4⟩
theorem Nt.more {K K' V:Nat} {v:Value} {w:World} (h:Nt K V v w) (hk:K<=K'):Nt K' V v w:=by
 obtain ⟨a,k,cap,z,h1,h2,h3,h4⟩:=h
 exact ⟨a,k,cap,z,h1,by omega,h3,h4⟩
def Nz (K V:Nat) (v:Value) (w:World):Prop:=∃ a k cap z,v=.slice a k cap/\k<=K/\Num w a k cap z/\val z k=(V:Int)/\sizeL z k=k
theorem Nz.next {K V:Nat} {v:Value} {w w':World} (h:Nz K V v w) (hb:Below w.heap.size w w'):Nz K V v w':=by
 obtain ⟨a,k,cap,z,h1,h2,h3,h4,h5⟩:=h
 exact ⟨a,k,cap,z,h1,h2,h3.next hb,h4,h5⟩
theorem Nz.nt {K V:Nat} {v:Value} {w:World} (h:Nz K V v w):Nt K V v w:=by
 obtain ⟨a,k,cap,z,h1,h2,h3,h4,h5⟩:=h
 exact ⟨a,k,cap,z,h1,h2,h3,h4⟩
theorem size_zero {z:Nat->Int} {k V:Nat} (hz:Words z) (hv:val z k=(V:Int)):sizeL z k=0↔V=0:=by
 constructor
 ·intro h
  have:=val_bare (x:=z) k
  rw [h] at this
  have h0:val z 0=0:=rfl
  omega
 ·intro h
  subst h
  rcases Nat.eq_zero_or_pos (sizeL z k) with h | h
  ·exact h
  ·exfalso
   have:=val_longer (x:=z) (y:=z) hz hz (n:=0) (m:=sizeL z k) h (sizeL_sizeL z k)
   rw [val_bare] at this
   have h0:val z 0=0:=rfl
   omega
theorem len_bl {z:Nat->Int} {k V:Nat} (hz:Words z) (hv:val z k=(V:Int)):lenL z k=(bl V:Int):=by
 rcases Nat.eq_zero_or_pos (sizeL z k) with h | h
 ·have h0:=(size_zero hz hv).1 h
  unfold lenL;rw [if_pos h,h0];rfl
 ·obtain ⟨L,h1,h2,h3⟩:=len_bd hz h
  rw [hv] at h2 h3
  have e:bl V=L+1:=by
   have e1:((2:Int)^L)=((2^L:Nat):Int):=by simp
   have e2:((2:Int)^(L+1))=((2^(L+1):Nat):Int):=by simp
   rw [e1] at h2
   rw [e2] at h3
   exact bl_eq (by rw [Nat.add_sub_cancel];omega) (by omega)
  rw [e,h1];omega
theorem size_bl {z:Nat->Int} {k V m:Nat} (hz:Words z) (hv:val z k=(V:Int)):sizeL z k<=m↔bl V<=64*m:=by
 have hl:=len_bl hz hv
 unfold lenL at hl
 rcases Nat.eq_zero_or_pos (sizeL z k) with h | h
 ·rw [if_pos h] at hl;omega
 ·rw [if_neg (by omega)] at hl
  have ht:=sizeL_top k h
  have hw:=hz (sizeL z k-1)
  have hb:=bitLen_spec (z (sizeL z k-1)).toNat (by omega) (by omega)
  omega
theorem nlen_v {K V:Nat} {v:Value} {w:World} (hK:K<100000000) (h:Nt K V v w) :
  CQ 138 #[v] w (.int .i64 (bl V:Int)):=by
 obtain ⟨a,k,cap,z,rfl,hk,hN,hv⟩:=h
 refine (nlen_any a k cap z w (by omega) hN).mono fun e w' ⟨h1,h2⟩=>⟨?_,h2⟩
 rw [h1,len_bl hN.2.2.1 hv]
theorem ncmp_v {K K' V V':Nat} {v v':Value} {w:World} (hK:K<100000000) (hK':K'<100000000) (h:Nt K V v w) (h':Nt K' V' v' w) :
  CB 164 #[v,v'] w (.int .i64 (sgn (V:Int) (V':Int))):=by
 obtain ⟨a,k,cap,z,rfl,hk,hN,hv⟩:=h
 obtain ⟨a',k',cap',z',rfl,hk',hN',hv'⟩:=h'
 have:=ncmp_b a a' k cap k' cap' z z' w (by omega) (by omega) hN hN'
 rw [hv,hv'] at this
 exact this
theorem nadd_v {K K' V V':Nat} {v v':Value} {w:World} (hK:K<100000000) (hK':K'<100000000) (h:Nt K V v w) (h':Nt K' V' v' w) :
  CE 192 #[v,v'] w (Nz (K+K'+1) (V+V')):=by
 obtain ⟨a,k,cap,z,rfl,hk,hN,hv⟩:=h
 obtain ⟨a',k',cap',z',rfl,hk',hN',hv'⟩:=h'
 have s1:=sizeL_le z k
 have s2:=sizeL_le z' k'
 refine (nadd_any a a' k cap k' cap' z z' w (by omega) (by omega) hN hN').mono fun e w' ⟨g,k2,cap2,z2,h1,h2,h3,h4,h5,h6⟩=>⟨_,h1,⟨_,k2,cap2,z2,rfl,by omega,h3,?_,h5⟩,h6⟩
 rw [h4,hv,hv'];omega
theorem ndiv_v {K K' V V':Nat} {v v':Value} {w:World} (hK:K<100000000) (hK':K'<100000000) (h:Nt K V v w) (h':Nt K' V' v' w) (hb:bl V<=128000) (hb':bl V'<=128000) (h0:V'≠0) :
  Calls Tryz.prog 190 #[v,v'] w fun e w'=>∃ q r,e=.returned (.tuple #[q,r,.int .i64 0])/\Nz 2001 (V/V') q w'/\Nz 2001 (V%V') r w'/\Below w.heap.size w w':=by
 obtain ⟨a,k,cap,z,rfl,hk,hN,hv⟩:=h
 obtain ⟨a',k',cap',z',rfl,hk',hN',hv'⟩:=h'
 have s1:=(size_bl (m:=2000) hN.2.2.1 hv).2 (by omega)
 have s2:=(size_bl (m:=2000) hN'.2.2.1 hv').2 (by omega)
 have s3:0<sizeL z' k':=Nat.pos_of_ne_zero fun e=>h0 ((size_zero hN'.2.2.1 hv').1 e)
 refine (ndiv_any a a' k cap k' cap' z z' w (by omega) (by omega) hN hN' s1 s2 s3).mono fun e w' ⟨o,k2,cap2,z2,o',k3,cap3,z3,h1,h2,h3,h4,h5,h6,h7,h8,h9,h10⟩=>⟨_,_,h1,⟨_,_,_,_,rfl,h2,h4,?_,h8⟩,⟨_,_,_,_,rfl,h3,h5,?_,h9⟩,h10⟩
 ·rw [h6,hv,hv'];simp
 ·rw [h7,hv,hv'];simp
section
def knB (d:Int):Prop:=0<=d/\d<=4
instance (d:Int):Decidable (knB d):=inferInstanceAs (Decidable (_/\_))
theorem known_any (d:Int) (w:World):CQ 71 #[.int .i64 d] w (.bool (decide (knB d))):=by
 by_cases h1:0<=d
 ·by_cases h2:d<=4
  ·rw [decide_eq_true (show knB d from ⟨h1,h2⟩)]
   go_enter Tryz.func71,Tryz.ntmps71
   go_wp2
   go_ret
   exact ⟨rfl,rfl⟩
  ·rw [decide_eq_false (show ¬ knB d from fun h=>h2 h.2)]
   go_enter Tryz.func71,Tryz.ntmps71
   go_wp2
   go_ret
   exact ⟨rfl,rfl⟩
 ·rw [decide_eq_false (show ¬ knB d from fun h=>h1 h.1)]
  go_enter Tryz.func71,Tryz.ntmps71
  go_wp2
  go_ret
  exact ⟨rfl,rfl⟩
def inB (d:Int) (s:Bool):Bool:=if d=0∨d=1 then true else if d=3 then !s else if d=4 then s else false
theorem infinite_any (d:Int) (s:Bool) (w:World):CQ 196 #[.int .i64 d,.bool s] w (.bool (inB d s)):=by
 by_cases h0:d=0
 ·subst h0
  go_enter Tryz.func196,Tryz.ntmps196
  go_wp2
  go_ret
  exact ⟨rfl,rfl⟩
 ·by_cases h1:d=1
  ·subst h1
   go_enter Tryz.func196,Tryz.ntmps196
   go_wp2
   go_ret
   exact ⟨rfl,rfl⟩
  ·by_cases h3:d=3
   ·subst h3
    go_enter Tryz.func196,Tryz.ntmps196
    go_wp2
    go_ret
    exact ⟨rfl,rfl⟩
   ·by_cases h4:d=4
    ·subst h4
     go_enter Tryz.func196,Tryz.ntmps196
     go_wp2
     go_ret
     exact ⟨rfl,rfl⟩
    ·have e:inB d s=false:=by unfold inB;simp [h0,h1,h3,h4]
     have b0:(d == 0)=false:=by simpa using h0
     have b1:(d == 1)=false:=by simpa using h1
     have b3:(d == 3)=false:=by simpa using h3
     have b4:(d == 4)=false:=by simpa using h4
     rw [e]
     go_enter Tryz.func196,Tryz.ntmps196
     go_wp2
     go_ret
     exact ⟨rfl,rfl⟩
def faB (d:Int) (s odd:Bool) (R D:Nat):Bool:=if R=0 then false else if d=0 then decide (D<R+R) || (decide (R+R=D) && odd) else if d=1 then decide (D<=R+R) else inB d s
theorem sgn_ways (a b:Int):(a<b/\sgn a b=-1)∨(a=b/\sgn a b=0)∨(b<a/\sgn a b=1):=by
 unfold sgn
 by_cases h:a<b
 ·exact Or.inl ⟨h,if_pos h⟩
 ·by_cases h':b<a
  ·exact Or.inr (Or.inr ⟨h',by rw [if_neg h,if_pos h']⟩)
  ·exact Or.inr (Or.inl ⟨by omega,by rw [if_neg h,if_neg h']⟩)
section
variable (d:Int) (s odd:Bool) (R D:Nat) (vr vd:Value) (w:World)
 (c26:∀ W,Below w.heap.size w W->CQ 138 #[vr] W (.int .i64 (bl R:Int)))
include c26
theorem far_zero (h:R=0):CB 191 #[.int .i64 d,.bool s,.bool odd,vr,vd] w (.bool false):=by
 have hb:(((bl R:Nat):Int) == 0)=true:=by rw [h];decide
 go_enter Tryz.func191,Tryz.ntmps191
 go_wp2_with (go_at_call 138;refine (c26 _ bgo).mono ?_;rintro e w1 ⟨rfl,rfl⟩)
 go_ret
 exact ⟨rfl,bgo⟩
variable (hv:Int) (hR:(((bl R:Nat):Int) == 0)=false)
 (c61:∀ W,Below w.heap.size w W->Calls Tryz.prog 192 #[vr,vr] W fun e w'=>∃ r,e=.returned r/\(∀ W',Below w'.heap.size w' W'->Calls Tryz.prog 164 #[r,vd] W' fun e w''=>e=.returned (.int .i64 hv)/\Below W'.heap.size W' w'')/\Below W.heap.size W w')
include hR c61
theorem far_0g (h:0<hv):CB 191 #[.int .i64 0,.bool s,.bool odd,vr,vd] w (.bool true):=by
 go_enter Tryz.func191,Tryz.ntmps191
 go_wp2_with (first
  | (go_at_call 138;refine (c26 _ bgo).mono ?_;rintro e w1 ⟨rfl,rfl⟩)
  | (go_at_call 192;refine (c61 _ bgo).mono ?_;rintro e w2 ⟨v2,rfl,c58,hb2⟩;have hA2:=bnx (w0:=w) bgo hb2)
  | (go_at_call 164;refine (c58 _ (Below.refl _ _)).mono ?_;rintro e w3 ⟨rfl,hb3⟩;have hA3:=bnx (w0:=w) hA2 hb3)
  | (go_at_call 196;refine (infinite_any _ _ _).mono ?_;rintro e w4 ⟨rfl,rfl⟩))
 go_ret
 exact ⟨by first | rfl | (simp;omega),bgo⟩
theorem far_0e (h:hv=0):CB 191 #[.int .i64 0,.bool s,.bool odd,vr,vd] w (.bool odd):=by
 subst h
 go_enter Tryz.func191,Tryz.ntmps191
 go_wp2_with (first
  | (go_at_call 138;refine (c26 _ bgo).mono ?_;rintro e w1 ⟨rfl,rfl⟩)
  | (go_at_call 192;refine (c61 _ bgo).mono ?_;rintro e w2 ⟨v2,rfl,c58,hb2⟩;have hA2:=bnx (w0:=w) bgo hb2)
  | (go_at_call 164;refine (c58 _ (Below.refl _ _)).mono ?_;rintro e w3 ⟨rfl,hb3⟩;have hA3:=bnx (w0:=w) hA2 hb3)
  | (go_at_call 196;refine (infinite_any _ _ _).mono ?_;rintro e w4 ⟨rfl,rfl⟩))
 go_ret
 exact ⟨by first | rfl | (simp;omega),bgo⟩
theorem far_0l (h:¬ 0<hv) (h1:(hv == 0)=false):CB 191 #[.int .i64 0,.bool s,.bool odd,vr,vd] w (.bool false):=by
 go_enter Tryz.func191,Tryz.ntmps191
 go_wp2_with (first
  | (go_at_call 138;refine (c26 _ bgo).mono ?_;rintro e w1 ⟨rfl,rfl⟩)
  | (go_at_call 192;refine (c61 _ bgo).mono ?_;rintro e w2 ⟨v2,rfl,c58,hb2⟩;have hA2:=bnx (w0:=w) bgo hb2)
  | (go_at_call 164;refine (c58 _ (Below.refl _ _)).mono ?_;rintro e w3 ⟨rfl,hb3⟩;have hA3:=bnx (w0:=w) hA2 hb3)
  | (go_at_call 196;refine (infinite_any _ _ _).mono ?_;rintro e w4 ⟨rfl,rfl⟩))
 go_ret
 exact ⟨by first | rfl | (simp;omega),bgo⟩
theorem far_1g (h:0<=hv):CB 191 #[.int .i64 1,.bool s,.bool odd,vr,vd] w (.bool true):=by
 go_enter Tryz.func191,Tryz.ntmps191
 go_wp2_with (first
  | (go_at_call 138;refine (c26 _ bgo).mono ?_;rintro e w1 ⟨rfl,rfl⟩)
  | (go_at_call 192;refine (c61 _ bgo).mono ?_;rintro e w2 ⟨v2,rfl,c58,hb2⟩;have hA2:=bnx (w0:=w) bgo hb2)
  | (go_at_call 164;refine (c58 _ (Below.refl _ _)).mono ?_;rintro e w3 ⟨rfl,hb3⟩;have hA3:=bnx (w0:=w) hA2 hb3)
  | (go_at_call 196;refine (infinite_any _ _ _).mono ?_;rintro e w4 ⟨rfl,rfl⟩))
 go_ret
 exact ⟨by first | rfl | (simp;omega),bgo⟩
theorem far_1l (h:¬ 0<=hv):CB 191 #[.int .i64 1,.bool s,.bool odd,vr,vd] w (.bool false):=by
 go_enter Tryz.func191,Tryz.ntmps191
 go_wp2_with (first
  | (go_at_call 138;refine (c26 _ bgo).mono ?_;rintro e w1 ⟨rfl,rfl⟩)
  | (go_at_call 192;refine (c61 _ bgo).mono ?_;rintro e w2 ⟨v2,rfl,c58,hb2⟩;have hA2:=bnx (w0:=w) bgo hb2)
  | (go_at_call 164;refine (c58 _ (Below.refl _ _)).mono ?_;rintro e w3 ⟨rfl,hb3⟩;have hA3:=bnx (w0:=w) hA2 hb3)
  | (go_at_call 196;refine (infinite_any _ _ _).mono ?_;rintro e w4 ⟨rfl,rfl⟩))
 go_ret
 exact ⟨by first | rfl | (simp;omega),bgo⟩
theorem far_d (h0:(d == 0)=false) (h1:(d == 1)=false):CB 191 #[.int .i64 d,.bool s,.bool odd,vr,vd] w (.bool (inB d s)):=by
 go_enter Tryz.func191,Tryz.ntmps191
 go_wp2_with (first
  | (go_at_call 138;refine (c26 _ bgo).mono ?_;rintro e w1 ⟨rfl,rfl⟩)
  | (go_at_call 192;refine (c61 _ bgo).mono ?_;rintro e w2 ⟨v2,rfl,c58,hb2⟩;have hA2:=bnx (w0:=w) bgo hb2)
  | (go_at_call 164;refine (c58 _ (Below.refl _ _)).mono ?_;rintro e w3 ⟨rfl,hb3⟩;have hA3:=bnx (w0:=w) hA2 hb3)
  | (go_at_call 196;refine (infinite_any _ _ _).mono ?_;rintro e w4 ⟨rfl,rfl⟩))
 go_ret
 exact ⟨by first | rfl | (simp;omega),bgo⟩
end
theorem farther_v (d:Int) (s odd:Bool) {K K' R D:Nat} {vr vd:Value} {w:World} (hK:K<1000000) (hK':K'<1000000) (h:Nt K R vr w) (h':Nt K' D vd w) :
  CB 191 #[.int .i64 d,.bool s,.bool odd,vr,vd] w (.bool (faB d s odd R D)):=by
 have c26:=fun W (hb:Below w.heap.size w W)=>nlen_v (by omega) (h.next hb)
 unfold faB
 by_cases hz:R=0
 ·rw [if_pos hz];exact far_zero d s odd R vr vd w c26 hz
 ·rw [if_neg hz]
  have hR:(((bl R:Nat):Int) == 0)=false:=by
   have:bl R≠0:=fun e=>hz (bl_zero.1 e)
   rw [beq_eq_false_iff_ne];omega
  have c61:∀ W,Below w.heap.size w W->Calls Tryz.prog 192 #[vr,vr] W fun e w'=>∃ r,e=.returned r/\(∀ W',Below w'.heap.size w' W'->Calls Tryz.prog 164 #[r,vd] W' fun e w''=>e=.returned (.int .i64 (sgn ((R+R:Nat):Int) (D:Int)))/\Below W'.heap.size W' w'')/\Below W.heap.size W w':=fun W hb =>
   (nadd_v (by omega) (by omega) (h.next hb) (h.next hb)).mono fun e w' ⟨r,h1,h2,h3⟩=>⟨r,h1,fun W' hb'=>ncmp_v (by omega) (by omega) (h2.nt.next hb') (h'.next (bnx (bnx hb h3) hb')),h3⟩
  by_cases h0:d=0
  ·subst h0
   rw [if_pos rfl]
   rcases sgn_ways ((R+R:Nat):Int) (D:Int) with ⟨a,e⟩ | ⟨a,e⟩ | ⟨a,e⟩
   ·rw [e] at c61
    rw [decide_eq_false (show ¬ D<R+R by omega),decide_eq_false (show ¬ R+R=D by omega)]
    exact far_0l s odd R vr vd w c26 (-1) hR c61 (by decide) (by decide)
   ·rw [e] at c61
    rw [decide_eq_false (show ¬ D<R+R by omega),decide_eq_true (show R+R=D by omega),Bool.false_or,Bool.true_and]
    exact far_0e s odd R vr vd w c26 0 hR c61 rfl
   ·rw [e] at c61
    rw [decide_eq_true (show D<R+R by omega),Bool.true_or]
    exact far_0g s odd R vr vd w c26 1 hR c61 (by decide)
  ·rw [if_neg h0]
   by_cases h1:d=1
   ·subst h1
    rw [if_pos rfl]
    rcases sgn_ways ((R+R:Nat):Int) (D:Int) with ⟨a,e⟩ | ⟨a,e⟩ | ⟨a,e⟩
    ·rw [e] at c61
     rw [decide_eq_false (show ¬ D<=R+R by omega)]
     exact far_1l s odd R vr vd w c26 (-1) hR c61 (by decide)
    ·rw [e] at c61
     rw [decide_eq_true (show D<=R+R by omega)]
     exact far_1g s odd R vr vd w c26 0 hR c61 (by decide)
    ·rw [e] at c61
     rw [decide_eq_true (show D<=R+R by omega)]
     exact far_1g s odd R vr vd w c26 1 hR c61 (by decide)
   ·rw [if_neg h1]
    exact far_d d s odd R vr vd w c26 _ hR c61 (by simpa using h0) (by simpa using h1)
theorem raised_any (x s:Bool) (w:World):CQ 168 #[.bool x,.bool s] w (.int .i64 (if x then 0 else if s then 12 else 8)):=by
 cases x <;> cases s
 all_goals (
  go_enter Tryz.func168,Tryz.ntmps168
  go_wp2
  go_ret
  exact ⟨rfl,rfl⟩)
end
section
theorem nz_more2 {K V:Nat} {v:Value} {w w':World} (h:Nz K V v w) (hb:Below w.heap.size w w'):Nz (K+2) V v w':=by
 obtain ⟨a,k,cap,z,rfl,hk,hN,hv,hs⟩:=h
 exact ⟨a,k,cap,z,rfl,by omega,hN.next hb,hv,hs⟩
theorem nt_w1 {W:World} {g V:Nat} {vi:Int} (hg:g=W.heap.size) (hv:vi=(V:Int)) (hb:V<18446744073709551616):Nt 1 V (.slice (some ⟨g,0,none⟩) 1 1) (W.alloc (.cells #[.int .u64 vi] 22)):=by
 subst hg hv
 exact ⟨_,1,1,oneW V,rfl,Nat.le_refl _,num_one W V (by omega),val_one1 V⟩
section
variable (d:Int) (s odd far:Bool) (vn vd:Value) (Q R D:Nat) (w:World) (hvb:Nt 2001 D vd w)
 (c59:Calls Tryz.prog 190 #[vn,vd] w fun e w'=>∃ q r,e=.returned (.tuple #[q,r,.int .i64 0])/\Nz 2001 Q q w'/\Nz 2001 R r w'/\Below w.heap.size w w')
 (c60:∀ W vr vb,Nt 2001 R vr W->Nt 2001 D vb W->CB 191 #[.int .i64 d,.bool s,.bool odd,vr,vb] W (.bool far))
 (c26:∀ W vr,Nt 2001 R vr W->CQ 138 #[vr] W (.int .i64 (bl R:Int)))
 (c61:∀ W q v,Nt 2001 Q q W->Nt 1 1 v W->CE 192 #[q,v] W (Nz 2003 (Q+1)))
 (hodd:∀ k z,Words z->val z k=(Q:Int)->0<k->(bits BinOp.and IntKind.u64 (z 0) 1 == 1)=odd)
 (hodd0:Q=0->odd=false)
include hvb c59 c60 c26 c61 hodd hodd0
theorem whole_cw:Calls Tryz.prog 163 #[.int .i64 d,.bool s,vn,vd] w fun e w'=>∃ v,e=.returned (.tuple #[v,.bool (((bl R:Nat):Int) == 0)])/\Nz 2003 (if far then Q+1 else Q) v w'/\Below w.heap.size w w':=by
 go_enter Tryz.func163,Tryz.ntmps163
 go_upto_region 2 with (go_at_call 190;refine c59.mono ?_;rintro e w2 ⟨q,r,rfl,hq,hr,hb2⟩)
 replace hvb:=hvb.next hb2
 have hq':=hq
 obtain ⟨aq,kq,cq,zq,rfl,hkq,hNq,hvq,hsq⟩:=hq
 go_cut [12] from 13 (fun o wc=>o=.bool odd/\wc=w2)
 case first =>
  rcases Nat.eq_zero_or_pos kq with hk0 | hk0
  ·have h0:Q=0:=by
    subst hk0
    have:val zq 0=0:=rfl
    omega
   have ho:=hodd0 h0
   subst ho hk0
   clear hodd hodd0 c59 c60 c61 c26
   go_wp2
   go_meet
   exact ⟨rfl,rfl⟩
  ·have ho:=hodd kq zq hNq.2.2.1 hvq hk0
   have hki:(0:Int)<kq:=by omega
   have hz0:=hNq.2.2.1 0
   obtain ⟨n1,n2,n3,n4,n5⟩:=hNq
   rcases n5 with ⟨_,n6⟩ | ⟨b,off,rfl,n7,n8⟩
   ·omega
   ·have hc0:=n8 0 hk0
    rw [Nat.add_zero] at hc0
    subst ho
    clear hodd hodd0 c59 c60 c61 c26
    go_wp2
    go_meet
    exact ⟨rfl,rfl⟩
 case rest =>
  obtain ⟨rfl,rfl⟩:=hcut
  clear hNq hvq hsq hodd hodd0 c59
  cases far with
  | false =>
   go_wp2_with (first
    | (go_at_call 191;refine (c60 _ _ _ hr.nt hvb).mono ?_;rintro e w3 ⟨rfl,hb3⟩)
    | (go_at_call 138;refine (c26 _ _ (hr.nt.next hb3)).mono ?_;rintro e w4 ⟨rfl,rfl⟩))
   exact bodyPost_ret (v:=.tuple #[_,_]) (by simp only [results,Tryz.results163];go_simp) rfl ⟨_,rfl,nz_more2 hq' hb3,bnx hb2 hb3⟩
  | true =>
   go_wp2_with (first
    | (go_at_call 191;refine (c60 _ _ _ hr.nt hvb).mono ?_;rintro e w3 ⟨rfl,hb3⟩)
    | (go_at_call 192;refine (c61 _ _ _ (hq'.nt.next (bnx hb3 bgo)) (nt_w1 (by simp) rfl (by decide))).mono ?_;rintro e w4 ⟨v4,rfl,h4,hb4⟩;have hA4:Below wc.heap.size wc w4:=bnx (bnx hb3 bgo) hb4)
    | (go_at_call 138;refine (c26 _ _ (hr.nt.next hA4)).mono ?_;rintro e w5 ⟨rfl,rfl⟩))
   exact bodyPost_ret (v:=.tuple #[v4,_]) (by simp only [results,Tryz.results163];go_simp) rfl ⟨_,rfl,h4,bnx hb2 hA4⟩
end
theorem odd_low {k Q:Nat} {z:Nat->Int} (hz:Words z) (hv:val z k=(Q:Int)) (hk:0<k):(bits BinOp.and IntKind.u64 (z 0) 1 == 1)=decide (Q%2=1):=by
 have hb:=hz 0
 rw [show (1:Int)=2^1-1 by decide,and_mask hb (by decide)]
 obtain ⟨k',rfl⟩:∃ k',k=1+k':=⟨k-1,by omega⟩
 have hs:=val_split z 1 k'
 rw [hv] at hs
 have h10:val z 1=z 0:=by show val z 0+z 0*18446744073709551616^0=z 0;simp [val]
 rw [h10,Int.pow_one] at hs
 rcases Nat.mod_two_eq_zero_or_one Q with e | e
 ·rw [decide_eq_false (by omega)]
  rw [beq_eq_false_iff_ne];omega
 ·rw [decide_eq_true e]
  rw [beq_iff_eq];omega
theorem bl_nought (R:Nat):(((bl R:Nat):Int) == 0)=decide (R=0):=by
 by_cases hz:R=0
 ·rw [hz];rfl
 ·rw [decide_eq_false hz,beq_eq_false_iff_ne]
  have:=mt bl_zero.1 hz
  omega
theorem whole_cv (d:Int) (s:Bool) {N D:Nat} {vn vd:Value} {w:World} (h:Nt 2001 N vn w) (h':Nt 2001 D vd w) (hD:D≠0) (h1:bl N<=128000) (h2:bl D<=128000) :
  Calls Tryz.prog 163 #[.int .i64 d,.bool s,vn,vd] w fun e w'=>∃ v,e=.returned (.tuple #[v,.bool (decide (N%D=0))])/\Nz 2003 (if faB d s (decide (N/D%2=1)) (N%D) D then N/D+1 else N/D) v w'/\Below w.heap.size w w':=by
 refine (whole_cw d s (decide (N/D%2=1)) (faB d s (decide (N/D%2=1)) (N%D) D) vn vd (N/D) (N%D) D w h' (ndiv_v (by decide) (by decide) h h' h1 h2 hD) (fun W vr vb a b=>farther_v d s _ (by decide) (by decide) a b) (fun W vr a=>nlen_v (by decide) a) (fun W q v a b=>nadd_v (by decide) (by decide) a b) (fun k z hz hv hk=>odd_low hz hv hk) ?_).mono ?_
 ·intro h0
  rw [h0];rfl
 ·rintro e w' ⟨v,e1,e2,e3⟩
  rw [bl_nought] at e1
  exact ⟨v,e1,e2,e3⟩
end
def ld (N D:Nat):Int:=let p:=(bl N:Int)-bl D;if N*2^(-p).toNat<D*2^p.toNat then p-1 else p
def binN (n:Int):Prop:=1<=n/\n<=6
instance (n:Int):Decidable (binN n):=inferInstanceAs (Decidable (_/\_))
def fN (n:Int):Nat:=(precN n-1).toNat
def eN (n:Int):Nat:=(expN n).toNat
def goodN (n:Int) (B:Nat):Prop:=binN n/\B<2^(fN n+eN n+1)
instance (n:Int) (B:Nat):Decidable (goodN n B):=inferInstanceAs (Decidable (_/\_))
theorem A4_get (B:Nat):∀ i,i<4->(#[Value.int .u64 (W4 B 0),.int .u64 (W4 B 1),.int .u64 (W4 B 2),.int .u64 (W4 B 3)]:Array Value)[i]?=some (.int .u64 (W4 B i)):=fun i hi=>by
 have:i=0∨i=1∨i=2∨i=3:=by omega
 rcases this with rfl | rfl | rfl | rfl <;> rfl
theorem fits4 (n:Int) (B:Nat) (hB:B<2^256) (w:World) (hT:Tab w) :
  CB 99 #[.int .i64 n,A4 B] w (.bool (decide (okN n/\B<2^(widthN n).toNat))):=by
 refine (fits_any n (W4 B) (W4_words B) _ (A4_get B) rfl w hT).mono ?_
 rintro x w' ⟨rfl,hb⟩
 refine ⟨?_,hb⟩
 have hwd:=(fields_bounds n).2.1
 have e:(fitsP n (W4 B))↔(okN n/\B<2^(widthN n).toNat):=by
  unfold fitsP
  rw [lenL_low]
  have:=len4_le (k:=(widthN n).toNat) hB
  rw [show (((widthN n).toNat:Nat):Int)=widthN n by omega] at this
  rw [this]
 rw [decide_eq_decide.2 e]
abbrev Z4:Value:=.agg #[.int .u64 0,.int .u64 0,.int .u64 0,.int .u64 0]
theorem Z4_eq:A4 0=Z4:=by unfold A4 Z4;simp only [W4_zero]
def isD (f:Nat) (l m:Int) (d:Dat):Prop :=
 (d.c=1/\d.g=false/\d.k<2^(f+1)/\l<=d.x/\d.x<=m/\(2^f<=d.k∨d.x=l)) ∨
 (d.c=2/\d.g=false/\d.x=0/\d.k=0) ∨
 (d.c=3/\d.x=0/\d.k<2^(f-1)/\(d.k≠0∨d.g=false))
instance (f:Nat) (l m:Int) (d:Dat):Decidable (isD f l m d):=inferInstanceAs (Decidable (_∨_∨_))
theorem eq24d (d:Nat) (a0 a1 a2 a3 b0 b1 b2 b3:Int) (w:World) :
  Sem.run Tryz.prog (Op.equalIn (d+2) 24 (.agg #[.int .u64 a0,.int .u64 a1,.int .u64 a2,.int .u64 a3]) (.agg #[.int .u64 b0,.int .u64 b1,.int .u64 b2,.int .u64 b3])) w=.ok (decide (a0=b0/\a1=b1/\a2=b2/\a3=b3)) w:=by
 obtain ⟨i22,hi⟩:∃ i,Tryz.prog.info? 22=some i:=⟨_,rfl⟩
 have h:=run_equalIn_array (P:=Tryz.prog) w (d+1) (t:=24) (e:=22) (n:=4) #[.int .u64 a0,.int .u64 a1,.int .u64 a2,.int .u64 a3] #[.int .u64 b0,.int .u64 b1,.int .u64 b2,.int .u64 b3] (by kernel_rfl) hi
 refine h.trans ?_
 have hc:Tryz.prog.cellsOf 22=1:=by kernel_rfl
 rw [hc]
 simp [List.range_succ,Op.eqItems,go_sem]
 by_cases h0:a0=b0 <;> by_cases h1:a1=b1 <;> by_cases h2:a2=b2 <;> by_cases h3:a3=b3 <;> simp [h0,h1,h2,h3]
theorem eq24 (a0 a1 a2 a3 b0 b1 b2 b3:Int) (w:World) :
  Sem.run Tryz.prog (Op.equalIn 10000 24 (.agg #[.int .u64 a0,.int .u64 a1,.int .u64 a2,.int .u64 a3]) (.agg #[.int .u64 b0,.int .u64 b1,.int .u64 b2,.int .u64 b3])) w=.ok (decide (a0=b0/\a1=b1/\a2=b2/\a3=b3)) w :=
 eq24d 9998 a0 a1 a2 a3 b0 b1 b2 b3 w
end Go.Proofs.YtpabnhlfbjkmaaaGreatDoor

namespace Go.Proofs.YtpabnhlfbjkmaaaGreatDoor
def mean (f e:Nat) (l:Int) (S E F:Nat):Dat :=
 if E=2^e-1 then spc f (decide (S=1)) F else if E=0 then ⟨1,decide (S=1),false,l,F⟩ else ⟨1,decide (S=1),false,l+((E:Int)-1),F+2^f⟩
end Go.Proofs.YtpabnhlfbjkmaaaGreatDoor

namespace Go.Proofs.YtpabnhlfbjkmaaaGreatDoor
open Go.RowKit
section
theorem copy0 (W:World) (d a:Option Addr) (cap:Nat):Sem.run Tryz.prog (Builtin.copy_ #[48,48] 3 #[.slice d 4 4,.slice a 0 cap]) W=.ok (.int .i64 0) W :=
 run_copy_none (P:=Tryz.prog) W 48 48 3 22 d a 4 4 0 cap Tryz.underlying48 (by kernel_rfl) rfl
theorem copy1 (W:World) (g b off cap:Nat) (v0:Int) (h0:W.cell? ⟨b,off,none⟩=some (.int .u64 v0)) (c0:(W.cell? ⟨g,4,none⟩).isSome=true) (f0:W.frozen? ⟨g,4,none⟩=false) :
  Sem.run Tryz.prog (Builtin.copy_ #[48,48] 3 #[.slice (some ⟨g,4,none⟩) 4 4,.slice (some ⟨b,off,none⟩) 1 cap]) W=.ok (.int .i64 1) (W.setCell ⟨g,4,none⟩ (.int .u64 v0)):=by
 have:=run_copy_cells (P:=Tryz.prog) W 48 48 3 22 g 4 4 4 ⟨b,off,none⟩ 1 cap [.int .u64 v0] Tryz.underlying48 (by kernel_rfl) rfl ?_ ?_ ?_ ?_
 ·exact this
 ·intro j v
  match j,v with
  | 0,_=>intro h;cases h;simpa [Addr.add] using h0
  | (j+1),_=>intro h;simp at h
 ·intro j hj
  match j,hj with
  | 0,_=>simpa using c0
  | (j+1),h=>exact absurd h (by simp only [List.length_cons,List.length_nil];omega)
 ·intro j hj
  match j,hj with
  | 0,_=>simpa using f0
  | (j+1),h=>exact absurd h (by simp only [List.length_cons,List.length_nil];omega)
 ·intro v hv
  simp at hv
  first | (subst hv;rfl) | (rcases hv with rfl | rfl <;> rfl) | (rcases hv with rfl | rfl | rfl <;> rfl) | (rcases hv with rfl | rfl | rfl | rfl <;> rfl)
theorem copy2 (W:World) (g b off cap:Nat) (v0 v1:Int) (h0:W.cell? ⟨b,off,none⟩=some (.int .u64 v0)) (h1:W.cell? ⟨b,off+1,none⟩=some (.int .u64 v1)) (c0:(W.cell? ⟨g,4,none⟩).isSome=true) (f0:W.frozen? ⟨g,4,none⟩=false) (c1:(W.cell? ⟨g,5,none⟩).isSome=true) (f1:W.frozen? ⟨g,5,none⟩=false) :
  Sem.run Tryz.prog (Builtin.copy_ #[48,48] 3 #[.slice (some ⟨g,4,none⟩) 4 4,.slice (some ⟨b,off,none⟩) 2 cap]) W=.ok (.int .i64 2) ((W.setCell ⟨g,4,none⟩ (.int .u64 v0)).setCell ⟨g,5,none⟩ (.int .u64 v1)):=by
 have:=run_copy_cells (P:=Tryz.prog) W 48 48 3 22 g 4 4 4 ⟨b,off,none⟩ 2 cap [.int .u64 v0,.int .u64 v1] Tryz.underlying48 (by kernel_rfl) rfl ?_ ?_ ?_ ?_
 ·exact this
 ·intro j v
  match j,v with
  | 0,_=>intro h;cases h;simpa [Addr.add] using h0
  | 1,_=>intro h;cases h;simpa [Addr.add] using h1
  | (j+2),_=>intro h;simp at h
 ·intro j hj
  match j,hj with
  | 0,_=>simpa using c0
  | 1,_=>simpa using c1
  | (j+2),h=>exact absurd h (by simp only [List.length_cons,List.length_nil];omega)
 ·intro j hj
  match j,hj with
  | 0,_=>simpa using f0
  | 1,_=>simpa using f1
  | (j+2),h=>exact absurd h (by simp only [List.length_cons,List.length_nil];omega)
 ·intro v hv
  simp at hv
  first | (subst hv;rfl) | (rcases hv with rfl | rfl <;> rfl) | (rcases hv with rfl | rfl | rfl <;> rfl) | (rcases hv with rfl | rfl | rfl | rfl <;> rfl)
theorem copy3 (W:World) (g b off cap:Nat) (v0 v1 v2:Int) (h0:W.cell? ⟨b,off,none⟩=some (.int .u64 v0)) (h1:W.cell? ⟨b,off+1,none⟩=some (.int .u64 v1)) (h2:W.cell? ⟨b,off+2,none⟩=some (.int .u64 v2)) (c0:(W.cell? ⟨g,4,none⟩).isSome=true) (f0:W.frozen? ⟨g,4,none⟩=false) (c1:(W.cell? ⟨g,5,none⟩).isSome=true) (f1:W.frozen? ⟨g,5,none⟩=false) (c2:(W.cell? ⟨g,6,none⟩).isSome=true) (f2:W.frozen? ⟨g,6,none⟩=false) :
  Sem.run Tryz.prog (Builtin.copy_ #[48,48] 3 #[.slice (some ⟨g,4,none⟩) 4 4,.slice (some ⟨b,off,none⟩) 3 cap]) W=.ok (.int .i64 3) (((W.setCell ⟨g,4,none⟩ (.int .u64 v0)).setCell ⟨g,5,none⟩ (.int .u64 v1)).setCell ⟨g,6,none⟩ (.int .u64 v2)):=by
 have:=run_copy_cells (P:=Tryz.prog) W 48 48 3 22 g 4 4 4 ⟨b,off,none⟩ 3 cap [.int .u64 v0,.int .u64 v1,.int .u64 v2] Tryz.underlying48 (by kernel_rfl) rfl ?_ ?_ ?_ ?_
 ·exact this
 ·intro j v
  match j,v with
  | 0,_=>intro h;cases h;simpa [Addr.add] using h0
  | 1,_=>intro h;cases h;simpa [Addr.add] using h1
  | 2,_=>intro h;cases h;simpa [Addr.add] using h2
  | (j+3),_=>intro h;simp at h
 ·intro j hj
  match j,hj with
  | 0,_=>simpa using c0
  | 1,_=>simpa using c1
  | 2,_=>simpa using c2
  | (j+3),h=>exact absurd h (by simp only [List.length_cons,List.length_nil];omega)
 ·intro j hj
  match j,hj with
  | 0,_=>simpa using f0
  | 1,_=>simpa using f1
  | 2,_=>simpa using f2
  | (j+3),h=>exact absurd h (by simp only [List.length_cons,List.length_nil];omega)
 ·intro v hv
  simp at hv
  first | (subst hv;rfl) | (rcases hv with rfl | rfl <;> rfl) | (rcases hv with rfl | rfl | rfl <;> rfl) | (rcases hv with rfl | rfl | rfl | rfl <;> rfl)
theorem copy4 (W:World) (g b off cap:Nat) (v0 v1 v2 v3:Int) (h0:W.cell? ⟨b,off,none⟩=some (.int .u64 v0)) (h1:W.cell? ⟨b,off+1,none⟩=some (.int .u64 v1)) (h2:W.cell? ⟨b,off+2,none⟩=some (.int .u64 v2)) (h3:W.cell? ⟨b,off+3,none⟩=some (.int .u64 v3)) (c0:(W.cell? ⟨g,4,none⟩).isSome=true) (f0:W.frozen? ⟨g,4,none⟩=false) (c1:(W.cell? ⟨g,5,none⟩).isSome=true) (f1:W.frozen? ⟨g,5,none⟩=false) (c2:(W.cell? ⟨g,6,none⟩).isSome=true) (f2:W.frozen? ⟨g,6,none⟩=false) (c3:(W.cell? ⟨g,7,none⟩).isSome=true) (f3:W.frozen? ⟨g,7,none⟩=false) :
  Sem.run Tryz.prog (Builtin.copy_ #[48,48] 3 #[.slice (some ⟨g,4,none⟩) 4 4,.slice (some ⟨b,off,none⟩) 4 cap]) W=.ok (.int .i64 4) ((((W.setCell ⟨g,4,none⟩ (.int .u64 v0)).setCell ⟨g,5,none⟩ (.int .u64 v1)).setCell ⟨g,6,none⟩ (.int .u64 v2)).setCell ⟨g,7,none⟩ (.int .u64 v3)):=by
 have:=run_copy_cells (P:=Tryz.prog) W 48 48 3 22 g 4 4 4 ⟨b,off,none⟩ 4 cap [.int .u64 v0,.int .u64 v1,.int .u64 v2,.int .u64 v3] Tryz.underlying48 (by kernel_rfl) rfl ?_ ?_ ?_ ?_
 ·exact this
 ·intro j v
  match j,v with
  | 0,_=>intro h;cases h;simpa [Addr.add] using h0
  | 1,_=>intro h;cases h;simpa [Addr.add] using h1
  | 2,_=>intro h;cases h;simpa [Addr.add] using h2
  | 3,_=>intro h;cases h;simpa [Addr.add] using h3
  | (j+4),_=>intro h;simp at h
 ·intro j hj
  match j,hj with
  | 0,_=>simpa using c0
  | 1,_=>simpa using c1
  | 2,_=>simpa using c2
  | 3,_=>simpa using c3
  | (j+4),h=>exact absurd h (by simp only [List.length_cons,List.length_nil];omega)
 ·intro j hj
  match j,hj with
  | 0,_=>simpa using f0
  | 1,_=>simpa using f1
  | 2,_=>simpa using f2
  | 3,_=>simpa using f3
  | (j+4),h=>exact absurd h (by simp only [List.length_cons,List.length_nil];omega)
 ·intro v hv
  simp at hv
  first | (subst hv;rfl) | (rcases hv with rfl | rfl <;> rfl) | (rcases hv with rfl | rfl | rfl <;> rfl) | (rcases hv with rfl | rfl | rfl | rfl <;> rfl)
attribute [local irreducible] W4
end
section
attribute [local irreducible] W4
abbrev IZ:Value:=.agg #[.int .i64 0,.string ⟨#[]⟩,.int .i64 0,.int .i64 0,.int .i64 0,.int .i64 0,.int .i64 0,.int .i64 0,.int .i64 0,.bool false]
end
section
structure Ib (w:World) (g:Nat) (n:Int) (nm:ByteArray) (wd:Int) (f e:Nat) (l m:Int):Prop where
 c0:w.cell? ⟨g,0,none⟩=some (.int .i64 n)
 c1:w.cell? ⟨g,1,none⟩=some (.string nm)
 c2:w.cell? ⟨g,2,none⟩=some (.int .i64 2)
 c3:w.cell? ⟨g,3,none⟩=some (.int .i64 wd)
 c4:w.cell? ⟨g,4,none⟩=some (.int .i64 ((f:Int)+1))
 c5:w.cell? ⟨g,5,none⟩=some (.int .i64 e)
 c6:w.cell? ⟨g,6,none⟩=some (.int .i64 l)
 c7:w.cell? ⟨g,7,none⟩=some (.int .i64 m)
 c8:w.cell? ⟨g,8,none⟩=some (.int .i64 ((f:Int)-1))
 c9:w.cell? ⟨g,9,none⟩=some (.bool false)
theorem Ib.next {w w':World} {g:Nat} {n:Int} {nm:ByteArray} {wd:Int} {f e:Nat} {l m:Int} (h:Ib w g n nm wd f e l m) (hg:g<w.heap.size) (hb:Below w.heap.size w w'):Ib w' g n nm wd f e l m :=
 ⟨by rw [hb.cell (p:=⟨g,0,none⟩) hg,h.c0],by rw [hb.cell (p:=⟨g,1,none⟩) hg,h.c1],by rw [hb.cell (p:=⟨g,2,none⟩) hg,h.c2],by rw [hb.cell (p:=⟨g,3,none⟩) hg,h.c3],by rw [hb.cell (p:=⟨g,4,none⟩) hg,h.c4],by rw [hb.cell (p:=⟨g,5,none⟩) hg,h.c5],by rw [hb.cell (p:=⟨g,6,none⟩) hg,h.c6],by rw [hb.cell (p:=⟨g,7,none⟩) hg,h.c7],by rw [hb.cell (p:=⟨g,8,none⟩) hg,h.c8],by rw [hb.cell (p:=⟨g,9,none⟩) hg,h.c9]⟩
attribute [local irreducible] W4 Nz Nt
end
end Go.Proofs.YtpabnhlfbjkmaaaGreatDoor

namespace Go.Proofs.YtpabnhlfbjkmaaaGreatDoor
theorem bl_bd {V:Nat} (h:V≠0):2^(bl V-1)<=V/\V<2^bl V/\1<=bl V:=by
 have h0:bl V≠0:=fun e=>h (bl_zero.1 e)
 exact ⟨bl_ge.1 (by omega),bl_le.1 (Nat.le_refl _),by omega⟩
end Go.Proofs.YtpabnhlfbjkmaaaGreatDoor

namespace Go.Proofs.YtpabnhlfbjkmaaaGreatDoor
open Go.RowKit
theorem rless_tr (a a':Option Addr) (n c n' c':Nat) (x y:Nat->Int) (w:World) (hn:n<4294967290) (hn':n'<4294967290) (h:Num w a n c x) (h':Num w a' n' c' y) :
  Calls Tryz.prog 89 #[.slice a n c,.slice a' n' c'] w fun e w'=>∃ g k cap,e=.returned (.slice (some ⟨g,0,none⟩) k cap)/\k<=max n n'/\Num w' (some ⟨g,0,none⟩) k cap (difZ x y (max n n'))/\sizeL (difZ x y (max n n')) k=k/\Below w.heap.size w w':=by
 have hx:=h.2.2.1
 have hy:=h'.2.2.1
 have zx:=h.2.2.2.1
 have zy:=h'.2.2.2.1
 obtain ⟨M,hM⟩:∃ M,max n n'=M:=⟨_,rfl⟩
 have hMi:max (n:Int) n'=(M:Int):=by omega
 have hMb:M<4294967292:=by omega
 have hmk:=fun w=>make_any (max (n:Int) n') M hMi (by omega) w
 have hfin:∀ (ss:Array Value),ss.size=M->(∀ j h,ss[j]'h=Value.int .u64 (difW x y j))->Num (w.alloc (.cells ss 22)) (some ⟨w.heap.size,0,none⟩) M M (difZ x y (max n n')):=fun ss h1 h2=>num_of_block (by omega) (difZ_words x y _) (fun i hi=>by unfold difZ;rw [if_neg (by omega)]) h1 (fun j hj=>by rw [h2 j hj];unfold difZ;rw [if_pos (by omega)])
 have hw1:=fun (i:Nat) (ss:Array Value)=>word_any a n c i x (w.alloc (.cells ss 22)) (h.next (below1 w _))
 have hw2:=fun (i:Nat) (ss:Array Value)=>word_any a' n' c' i y (w.alloc (.cells ss 22)) (h'.next (below1 w _))
 have HM:Hid (max n n'=M):=hM
 have HZ:Hid ((arrOf (fun _=>0) M).size=M/\∀ j h,(arrOf (fun _=>0) M)[j]'h=Value.int .u64 0):=⟨arrOf_size _ _,fun j h=>arrOf_get _ _ _ _⟩
 clear h h' zx zy hM hMi
 generalize arrOf (fun _=>0) M=zz at *
 go_enter Tryz.func89,Tryz.ntmps89
 go_wp2
 go_loopw [6,7,16,19] (fun c u7 i u20 wr=>∃ (k:Nat) (ss:Array Value),k<=M/\i=.int .i64 k/\c=.int .u64 (borW x y k)/\ss.size=M/\(∀ j h,ss[j]'h=Value.int .u64 (if j<k then difW x y j else 0))/\wr=w.alloc (.cells ss 22)) (fun _ _ i _ _=>M-(intOf i).toNat)
 case atStart=>exact ⟨0,zz,Nat.zero_le _,rfl,rfl,HZ.out.1,fun j h=>by rw [HZ.out.2 j h];simp,rfl⟩
 case round =>
  obtain ⟨k,ss,hk,rfl,rfl,hsz,hss,rfl⟩:=hrel
  have hcar:=borW_01 x y k
  by_cases h8:k<M
  ·have h8i:(k:Int)<M:=by omega
   have h8s:k<ss.size:=by omega
   have bx:=hx k
   have b_y:=hy k
   have hsk:ss[k]?=some (.int .u64 0):=by rw [Array.getElem?_eq_getElem h8s,hss k h8s,if_neg (by omega)]
   have hadd:=fun w=>sub64 (x k) (y k) (borW x y k) bx.1 b_y.1 (by omega) hcar.1 hcar.2 w
   have hwa:=hw1 k ss
   have hwb:=hw2 k ss
   have HR:Hid (∀ (i:Nat) (h:i<(ss.setIfInBounds k (.int .u64 (difW x y k))).size),(ss.setIfInBounds k (.int .u64 (difW x y k)))[i]'h=Value.int .u64 (if i<k+1 then difW x y i else 0)):=set_next hss
   clear hss hw1 hw2 hfin hmk hx hy
   go_wp2_with (first | (go_at_call_of 46 (Value.slice a n c);refine hwa.mono ?_;rintro e w' ⟨rfl,rfl⟩) | (go_at_call_of 46 (Value.slice a' n' c');refine hwb.mono ?_;rintro e w' ⟨rfl,rfl⟩))
   go_roundw
   case rel=>exact ⟨k+1,ss.setIfInBounds k (.int .u64 (difW x y k)),by omega,by go_num,rfl,by simp [hsz],HR.out,rfl⟩
   case measure=>simp [intOf];omega
  ·obtain rfl:k=M:=by omega
   have hss':∀ j h,ss[j]'h=Value.int .u64 (difW x y j):=by
    intro j h;rw [hss j h,if_pos (by omega)]
   have hT:=trim_any _ _ _ _ _ (by omega) (hfin ss hsz hss')
   have hle:=sizeL_le (difZ x y (max n n')) k
   clear hss hss' hw1 hw2 hfin hmk hx hy
   go_wp2_with (go_at_call 44;refine hT.mono ?_;rintro e w1 ⟨g,cap,rfl,hN,hB⟩)
   go_ret
   exact ⟨g,_,cap,rfl,Nat.le_trans hle (Nat.le_of_eq HM.out.symm),hN,sizeL_sizeL _ _,(below1 w _).trans (hB.mono (by simp))⟩
def NV (K V:Nat) (v:Value) (w:World):Prop:=∃ g k cap z,v=.slice (some ⟨g,0,none⟩) k cap/\k<=K/\Num w (some ⟨g,0,none⟩) k cap z/\val z k=(V:Int)
theorem NV.next {K V:Nat} {v:Value} {w w':World} (h:NV K V v w) (hb:Below w.heap.size w w'):NV K V v w':=by
 obtain ⟨g,k,cap,z,h1,h2,h3,h4⟩:=h
 exact ⟨g,k,cap,z,h1,h2,h3.next hb,h4⟩
theorem NV.more {K K' V:Nat} {v:Value} {w:World} (h:NV K V v w) (hk:K<=K'):NV K' V v w:=by
 obtain ⟨g,k,cap,z,h1,h2,h3,h4⟩:=h
 exact ⟨g,k,cap,z,h1,by omega,h3,h4⟩
theorem rright_nv {K A:Nat} {v:Value} {w:World} (s:Nat) (hK:K<1000) (hs:s<=600) (h:NV K A v w) :
  Calls Tryz.prog 58 #[v,.int .i64 s] w fun e w'=>∃ v' b,e=.returned (.tuple #[v',.bool b])/\NV K (A/2^s) v' w'/\Below w.heap.size w w':=by
 obtain ⟨g,k,cap,z,rfl,hk,hN,hv⟩:=h
 obtain ⟨q,hq⟩:∃ q:Nat,(s:Int)/64=q:=⟨((s:Int)/64).toNat,by omega⟩
 obtain ⟨r,hr⟩:∃ r:Nat,(s:Int)%64=r:=⟨((s:Int)%64).toNat,by omega⟩
 have hsn:s=64*q+r:=by omega
 have hr6:r<64:=by omega
 have key:∀ (w':World) (g' k' cap':Nat),k'<=k->Num w' (some ⟨g',0,none⟩) k' cap' (shrW z q r)->NV K (A/2^s) (.slice (some ⟨g',0,none⟩) k' cap') w':=fun w' g' k' cap' hk' hN'=>by
  refine ⟨g',k',cap',_,rfl,by omega,hN',?_⟩
  rw [← val_more hN'.2.2.2.1 k hk',hsn]
  exact shrW_val hN.2.2.1 hN.2.2.2.1 hr6 k (Nat.le_refl _) hv
 by_cases h0:r=0
 ·subst h0
  refine (right_z g 0 k cap q s z w (by omega) (by omega) hq (by omega) (by omega) hN).mono ?_
  rintro e w' ⟨g',k',cap',b,rfl,hk',hN',hb⟩
  exact ⟨_,b,rfl,key w' g' k' cap' hk' hN',hb⟩
 ·refine (right_p g 0 k cap q r s z w (by omega) (by omega) hr6 (by omega) hq hr (by omega) hN).mono ?_
  rintro e w' ⟨g',k',cap',b,rfl,hk',hN',hb⟩
  exact ⟨_,b,rfl,key w' g' k' cap' hk' hN',hb⟩
theorem rleft_nv {K A:Nat} {v:Value} {w:World} (s:Nat) (hK:K<1000) (hs:s<=600) (h:NV K A v w) :
  Calls Tryz.prog 95 #[v,.int .i64 s] w fun e w'=>∃ v',e=.returned v'/\NV (K+11) (A*2^s) v' w'/\Below w.heap.size w w':=by
 obtain ⟨g,k,cap,z,rfl,hk,hN,hv⟩:=h
 obtain ⟨q,hq⟩:∃ q:Nat,(s:Int)/64=q:=⟨((s:Int)/64).toNat,by omega⟩
 obtain ⟨r,hr⟩:∃ r:Nat,(s:Int)%64=r:=⟨((s:Int)%64).toNat,by omega⟩
 have hsn:s=64*q+r:=by omega
 have hr6:r<64:=by omega
 have key:∀ (w':World) (g' k' cap':Nat),k'<=k+q+1->Num w' (some ⟨g',0,none⟩) k' cap' (finL z q r)->NV (K+11) (A*2^s) (.slice (some ⟨g',0,none⟩) k' cap') w':=fun w' g' k' cap' hk' hN'=>by
  refine ⟨g',k',cap',_,rfl,by omega,hN',?_⟩
  rw [← val_more hN'.2.2.2.1 (k+q+1) hk',finL_val hN.2.2.1 hN.2.2.2.1 q hr6,hv,hsn]
  simp
 by_cases h0:r=0
 ·subst h0
  refine (left_z g 0 k cap q s z w (by omega) (by omega) hq (by omega) (by omega) hN).mono ?_
  rintro e w' ⟨g',k',cap',rfl,hk',hN',hb⟩
  exact ⟨_,rfl,key w' g' k' cap' hk' hN',hb⟩
 ·refine (left_p g 0 k cap q r s z w (by omega) (by omega) hr6 (by omega) hq hr (by omega) hN).mono ?_
  rintro e w' ⟨g',k',cap',rfl,hk',hN',hb⟩
  exact ⟨_,rfl,key w' g' k' cap' hk' hN',hb⟩
def NT (K V:Nat) (v:Value) (w:World):Prop:=∃ g k cap z,v=.slice (some ⟨g,0,none⟩) k cap/\k<=K/\Num w (some ⟨g,0,none⟩) k cap z/\val z k=(V:Int)/\sizeL z k=k
theorem NT.nv {K V:Nat} {v:Value} {w:World} (h:NT K V v w):NV K V v w:=by
 obtain ⟨g,k,cap,z,h1,h2,h3,h4,_⟩:=h
 exact ⟨g,k,cap,z,h1,h2,h3,h4⟩
theorem NT.next {K V:Nat} {v:Value} {w w':World} (h:NT K V v w) (hb:Below w.heap.size w w'):NT K V v w':=by
 obtain ⟨g,k,cap,z,h1,h2,h3,h4,h5⟩:=h
 exact ⟨g,k,cap,z,h1,h2,h3.next hb,h4,h5⟩
theorem rless_nt {K K' A B:Nat} {v v':Value} {w:World} (hK:K<1000) (hK':K'<1000) (h:NV K A v w) (h':NV K' B v' w) (hv:B<=A) :
  CE 89 #[v,v'] w (NT (K+K') (A-B)):=by
 obtain ⟨g,k,c,z,rfl,hk,hN,hz⟩:=h
 obtain ⟨g2,k2,c2,z2,rfl,hk2,hN2,hz2⟩:=h'
 refine (rless_tr _ _ k c k2 c2 z z2 w (by omega) (by omega) hN hN2).mono fun e w' ⟨g3,k3,cap3,e1,hk3,hN3,ht,hB⟩=>⟨_,e1,⟨g3,k3,cap3,_,rfl,by omega,hN3,?_,ht⟩,hB⟩
 have ex:=val_more hN.2.2.2.1 (max k k2) (by omega)
 have ey:=val_more hN2.2.2.2.1 (max k k2) (by omega)
 have e:=dif_val hN.2.2.1 hN2.2.2.1 (max k k2)
 rw [borW_end hN.2.2.1 hN2.2.2.1 (by omega),ex,ey] at e
 rw [← val_more hN3.2.2.2.1 _ hk3,val_congr (y:=difW z z2) (max k k2) fun i hi=>by unfold difZ;rw [if_pos hi]]
 omega
theorem radd_nv {K K' A B:Nat} {v v':Value} {w:World} (hK:K<1000000) (hK':K'<1000000) (h:NV K A v w) (h':NV K' B v' w) :
  CE 48 #[v,v'] w (NV (K+K'+1) (A+B)):=by
 obtain ⟨g,k,c,z,rfl,hk,hN,hz⟩:=h
 obtain ⟨g2,k2,c2,z2,rfl,hk2,hN2,hz2⟩:=h'
 refine (radd_val _ _ k c k2 c2 z z2 w (by omega) (by omega) hN hN2).mono fun e w' ⟨g3,k3,cap3,z3,e1,hk3,hN3,hv3,hB⟩=>⟨_,e1,⟨g3,k3,cap3,z3,rfl,by omega,hN3,?_⟩,hB⟩
 rw [hv3,hz,hz2];omega
theorem NT.zero {K V:Nat} {v:Value} {w:World} (h:NT K V v w):∃ g k cap,v=.slice (some ⟨g,0,none⟩) k cap/\k<=K/\(k=0↔V=0):=by
 obtain ⟨g,k,cap,z,h1,h2,h3,h4,h5⟩:=h
 refine ⟨g,k,cap,h1,h2,?_⟩
 constructor
 ·intro hk;subst hk
  have:val z 0=0:=rfl
  omega
 ·intro hV
  rcases Nat.eq_zero_or_pos k with hk | hk
  ·exact hk
  ·exfalso
   have ht:=sizeL_top (x:=z) k (by omega)
   rw [h5] at ht
   obtain ⟨j,rfl⟩:∃ j,k=j+1:=⟨k-1,by omega⟩
   have hs:val z (j+1)=val z j+z j*18446744073709551616^j:=rfl
   have hb:=val_bd h3.2.2.1 j
   have hp:=pw_pos j
   have hj:=h3.2.2.1 j
   have hz:z j≠0:=ht
   have:1*18446744073709551616^j<=z j*18446744073709551616^j:=Int.mul_le_mul_of_nonneg_right (by omega) (Int.le_of_lt hp)
   omega
section
attribute [local go_sem ↓] Go.wp_at_zero Go.wp_at_succ
theorem nv_low {k V:Nat} {z:Nat->Int} (hz:Words z) (h0:∀ i,k<=i->z i=0) (hv:val z k=(V:Int)):val z 4=((V%2^256:Nat):Int):=by
 have h1:val z (4+k)=(V:Int):=by rw [val_more h0 (4+k) (by omega),hv]
 rw [val_split z 4 k] at h1
 have hb:=val_bd hz 4
 have e4:(18446744073709551616:Int)^4=((2^256:Nat):Int):=by decide
 rw [e4] at h1 hb
 have h5:=congrArg (·%((2^256:Nat):Int)) h1
 simp only [Int.add_mul_emod_self_right,Int.emod_eq_of_lt hb.1 hb.2] at h5
 rw [h5]
 rfl
theorem bits_num (g k cap:Nat) (z:Nat->Int) (w:World) (h:Num w (some ⟨g,0,none⟩) k cap z) :
  CB 22 #[.slice (some ⟨g,0,none⟩) k cap] w (.agg (arrOf z 4)):=by
 have hw:=fun (i:Nat) (o1 o2:Obj)=>word_any (some ⟨g,0,none⟩) k cap i z ((w.alloc o1).alloc o2) ((h.next (below1 w _)).next (below1 _ _))
 clear h
 go_enter Tryz.func22,Tryz.ntmps22
 go_wp2
 go_loopw [4,5] (fun u4 i wr=>∃ (j:Nat) (ss:Array Value),j<=4/\i=.int .i64 j/\ss.size=4/\(∀ q h,ss[q]'h=Value.int .u64 (if q<j then z q else 0))/\wr=(w.alloc (.cells #[.int .u64 0,.int .u64 0,.int .u64 0,.int .u64 0] 24)).alloc (.cells ss 24)) (fun _ i _=>4-(intOf i).toNat)
 case atStart=>exact ⟨0,_,Nat.zero_le _,rfl,rfl,by intro q h;have h':q<4:=h;match q,h' with | 0,_=>rfl | 1,_=>rfl | 2,_=>rfl | 3,_=>rfl,rfl⟩
 case round =>
  obtain ⟨j,ss,hj,rfl,hsz,hss,rfl⟩:=hrel
  by_cases h4:j<4
  ·have h4i:(j:Int)<4:=by omega
   have h4s:j<ss.size:=by omega
   have hsk:ss[j]?=some (.int .u64 0):=by rw [Array.getElem?_eq_getElem h4s,hss j h4s,if_neg (by omega)]
   have HR:Hid (∀ (i:Nat) (h:i<(ss.setIfInBounds j (.int .u64 (z j))).size),(ss.setIfInBounds j (.int .u64 (z j)))[i]'h=Value.int .u64 (if i<j+1 then z i else 0)):=set_next hss
   have hwj:=hw j (.cells #[.int .u64 0,.int .u64 0,.int .u64 0,.int .u64 0] 24) (.cells ss 24)
   clear hss hw
   go_wp2_with (go_at_call 46;refine hwj.mono ?_;rintro e w' ⟨rfl,rfl⟩)
   go_roundw
   case rel=>exact ⟨j+1,ss.setIfInBounds j (.int .u64 (z j)),by omega,by go_num,by simp [hsz],HR.out,rfl⟩
   case measure=>simp [intOf];omega
  ·obtain rfl:j=4:=by omega
   have hss':∀ q h,ss[q]'h=Value.int .u64 (z q):=by
    intro q h;rw [hss q h,if_pos (by omega)]
   clear hss hw
   go_wp2
   exact bodyPost_ret (v:=.agg (arrOf z 4)) (by simp [results,Tryz.results22,go_sem];rfl) rfl ⟨rfl,((Below.refl _ _).alloc (Nat.le_refl _) _).alloc (by simp) _⟩
theorem bits_nv {K V:Nat} {v:Value} {w:World} (h:NV K V v w) :
  CB 22 #[v] w (A4 V):=by
 obtain ⟨g,k,cap,z,rfl,hk,hN,hv⟩:=h
 refine (bits_num g k cap z w hN).mono ?_
 rintro e w' ⟨rfl,hb⟩
 refine ⟨?_,hb⟩
 rw [arr_A4 hN.2.2.1 (nv_low hN.2.2.1 hN.2.2.2.1 hv)]
theorem number_nv {K V:Nat} {v:Value} {w:World} (h:NV K V v w) (hK:K<1000) (hV:V<9223372036854775808) :
    Calls Tryz.prog 57 #[v] w fun e w'=>e=.returned (.int .i64 V)/\w'=w:=by
  obtain ⟨g,k,cap,z,rfl,hk,hN,hv⟩:=h
  obtain ⟨h1,h2,h3,h4,h5⟩:=hN
  rcases h5 with ⟨h5,_⟩ | ⟨b,off,e,hb,hc⟩
  · cases h5
  · cases e
    rcases Nat.eq_zero_or_pos k with hk0 | hk0
    · subst hk0
      have : V = 0 := by have : val z 0 = 0 := rfl
                         omega
      subst this
      go_enter Tryz.func57,Tryz.ntmps57
      go_wp2
      go_ret
      exact ⟨rfl,rfl⟩
    · have hc0:=hc 0 hk0
      have hz0:=h3 0
      have e0:z 0=(V:Int):=by
        have hl:=nv_low h3 h4 hv
        obtain ⟨j,rfl⟩:∃ j,k=1+j:=⟨k-1,by omega⟩
        have hs:=val_split z 1 j
        have hb2:=val_bd (segW_words h3 1 j) j
        have h10:val z 1=z 0:=by show val z 0+z 0*18446744073709551616^0=z 0;simp [val]
        rw [hv,h10] at hs
        simp only [Int.pow_one] at hs
        have hm:0<=val (segW z 1 j) j:=hb2.1
        by_cases hp:0<val (segW z 1 j) j
        · exfalso;omega
        · have:val (segW z 1 j) j=0:=by omega
          rw [this] at hs;omega
      have hk1:¬ ((k:Int)=0):=by omega
      rw [e0] at hc0
      simp only [Nat.add_zero] at hc0
      have hkb:(k == 0)=false:=by simp;omega
      have hki:(0:Int)<k:=by omega
      clear hc h3 h4 hv e0 hz0
      go_enter Tryz.func57,Tryz.ntmps57
      go_wp2
      go_ret
      exact ⟨rfl,rfl⟩
theorem box_nv {w0 w:World} {B:Nat} {t:TypeId} (hB:B<2^256) (hb:Below (w0.alloc (.cells #[.int .u64 (W4 B 0),.int .u64 (W4 B 1),.int .u64 (W4 B 2),.int .u64 (W4 B 3)] t)).heap.size (w0.alloc (.cells #[.int .u64 (W4 B 0),.int .u64 (W4 B 1),.int .u64 (W4 B 2),.int .u64 (W4 B 3)] t)) w) :
  NV 4 B (.slice (some ⟨w0.heap.size,0,none⟩) 4 4) w :=
 ⟨_,4,4,_,rfl,Nat.le_refl _,box_num (W4_words B) (A4_get B) hb,by
  rw [val_congr (x:=lowW (W4 B) 4) (y:=W4 B) 4 (fun i hi=>lowW_lt hi),W4_val4 hB]⟩
theorem field_any (B at_ n:Nat) (w:World) (hB:B<2^256) (ha:at_<=600) (hn:n<=600) :
  CE 59 #[A4 B,.int .i64 at_,.int .i64 n] w (NT 19 (B/2^at_%2^n)):=by
 have hbx:=box_nv (w0:=w) (B:=B) (t:=24) hB (Below.refl _ _)
 go_enter Tryz.func59,Tryz.ntmps59
 go_wp2_with (first
  | (have:=hA2;go_at_call 95;refine (rleft_nv n (by decide) hn hh).mono ?_;rintro e w3 ⟨v3,rfl,hl,hb3⟩;replace hx:=hx.next hb3;have hA3:=bnext hA2 hb3)
  | (have:=hA1;go_at_call 58;refine (rright_nv n (by decide) hn hx).mono ?_;rintro e w2 ⟨v2,b2,rfl,hh,hb2⟩;replace hx:=hx.next hb2;have hA2:=bnext hA1 hb2)
  | (go_at_call 58;refine (rright_nv at_ (by decide) ha hbx).mono ?_;rintro e w1 ⟨v1,b1,rfl,hx,hb1⟩;have hA1:=bnext (w0:=w) bgo hb1)
  | (go_at_call 89;refine (rless_nt (by decide) (by decide) hx hl (Nat.div_mul_le_self _ _)).mono ?_;rintro e w4 ⟨v4,rfl,hr,hb4⟩;have hA4:=bnext hA3 hb4))
 go_ret
 refine ⟨_,rfl,?_,hA4⟩
 rw [show B/2^at_%2^n=B/2^at_-B/2^at_/2^n*2^n by have:=Nat.div_add_mod' (B/2^at_) (2^n);omega]
 exact hr
end
section
theorem nv_nt {K V:Nat} {v:Value} {w:World} (h:NV K V v w):Nt K V v w:=by
 obtain ⟨g,k,cap,z,h1,h2,h3,h4⟩:=h
 exact ⟨_,k,cap,z,h1,h2,h3,h4⟩
attribute [local irreducible] W4 Nt
end
def clZ (x:Int):Int:=min (max x (-200000)) 200000
def sN (N:Nat) (x:Int):Nat:=N*2^(clZ x).toNat
def whC (d:Int) (s:Bool) (A B:Nat):Nat:=if faB d s (decide (A/B%2=1)) (A%B) B then A/B+1 else A/B
theorem fa_sc (d:Int) (s o:Bool) (R D k:Nat) (hk:0<k):faB d s o (R*k) (D*k)=faB d s o R D:=by
 have e1:R*k=0↔R=0:=by rw [Nat.mul_eq_zero];omega
 have e2:D*k<R*k+R*k↔D<R+R:=by rw [← Nat.add_mul];exact Nat.mul_lt_mul_right hk
 have e3:R*k+R*k=D*k↔R+R=D:=by rw [← Nat.add_mul];exact Nat.mul_right_cancel_iff hk
 have e4:D*k<=R*k+R*k↔D<=R+R:=by rw [← Nat.add_mul];exact Nat.mul_le_mul_right_iff hk
 unfold faB
 simp only [e1,e2,e3,e4]
def tnG (N D:Nat) (e:Int):Prop:=D*10^e.toNat<=N*10^(-e).toNat
instance (N D:Nat) (e:Int):Decidable (tnG N D e):=inferInstanceAs (Decidable (_<=_))
theorem ten_pos (n:Nat):0<(10:Nat)^n:=Nat.pow_pos (by decide)
theorem tnG_add (N D p:Nat) (q:Int):tnG N D (q+p)↔D*10^q.toNat*10^p<=N*10^(-q).toNat:=by
 unfold tnG
 by_cases h0:0<=q
 ·rw [show (-(q+(p:Int))).toNat=0 by omega,show (-q).toNat=0 by omega,show (q+(p:Int)).toNat=q.toNat+p by omega,Nat.pow_add,Nat.mul_assoc]
 ·by_cases h1:0<=q+(p:Int)
  ·obtain ⟨a,ha⟩:∃ a:Nat,q=-(a:Int):=⟨(-q).toNat,by omega⟩
   obtain ⟨b,hb⟩:∃ b:Nat,p=a+b:=⟨p-a,by omega⟩
   subst hb
   rw [show (-(q+((a+b:Nat):Int))).toNat=0 by omega,show (-q).toNat=a by omega,show (q+((a+b:Nat):Int)).toNat=b by omega,show q.toNat=0 by omega,Nat.pow_zero,Nat.mul_one,Nat.mul_one,Nat.pow_add,Nat.mul_comm (10^a),← Nat.mul_assoc]
   exact (Nat.mul_le_mul_right_iff (ten_pos a)).symm
  ·obtain ⟨a,ha⟩:∃ a:Nat,q+(p:Int)=-(a:Int):=⟨(-(q+p)).toNat,by omega⟩
   rw [show (-(q+(p:Int))).toNat=a by omega,show (q+(p:Int)).toNat=0 by omega,show q.toNat=0 by omega,show (-q).toNat=a+p by omega,Nat.pow_zero,Nat.mul_one,Nat.pow_add,← Nat.mul_assoc]
   exact (Nat.mul_le_mul_right_iff (ten_pos p)).symm
theorem tnG_le {N D:Nat} {e e':Int} (h:tnG N D e) (he:e'<=e):tnG N D e':=by
 obtain ⟨p,rfl⟩:∃ p:Nat,e=e'+p:=⟨(e-e').toNat,by omega⟩
 have:=(tnG_add N D p e').1 h
 unfold tnG
 exact Nat.le_trans (Nat.le_mul_of_pos_right _ (ten_pos p)) this
def TnE (N D:Nat) (E:Int):Prop:=tnG N D E/\¬ tnG N D (E+1)
theorem TnE.only {N D:Nat} {E E':Int} (h:TnE N D E) (h':TnE N D E'):E=E':=by
 rcases Int.lt_trichotomy E E' with q | q | q
 ·exact absurd (tnG_le h'.1 (by omega)) h.2
 ·exact q
 ·exact absurd (tnG_le h.1 (by omega)) h'.2
def dkQ (f:DF) (E:Int):Int:=max f.l (E-3*f.j)
def dkA (N:Nat) (q:Int):Nat:=N*10^(-q).toNat
def dkZ (D:Nat) (q:Int):Nat:=D*10^q.toNat
theorem dkZ_pos {D:Nat} (h:0<D) (q:Int):0<dkZ D q:=Nat.mul_pos h (ten_pos _)
theorem dk_lt {f:DF} {N D:Nat} {E:Int} (h:TnE N D E):dkA N (dkQ f E)<dkZ D (dkQ f E)*10^(3*f.j+1):=by
 have hq:E+1<=dkQ f E+((3*f.j+1:Nat):Int):=by unfold dkQ;omega
 have h1:¬ tnG N D (dkQ f E+((3*f.j+1:Nat):Int)):=fun q=>h.2 (tnG_le q hq)
 rw [tnG_add] at h1
 unfold dkA dkZ
 omega
def dkC0 (f:DF) (d:Int) (s:Bool) (N D:Nat) (E:Int):Nat:=whC d s (dkA N (dkQ f E)) (dkZ D (dkQ f E))
theorem whC_le {d:Int} {s:Bool} {A B:Nat}:A/B<=whC d s A B/\whC d s A B<=A/B+1:=by
 unfold whC
 split <;> omega
theorem dkC0_le {f:DF} {d:Int} {s:Bool} {N D:Nat} {E:Int} (hD:0<D) (h:TnE N D E):dkC0 f d s N D E<=10^(3*f.j+1):=by
 have h1:=dk_lt (f:=f) h
 have h2:=(whC_le (d:=d) (s:=s) (A:=dkA N (dkQ f E)) (B:=dkZ D (dkQ f E))).2
 have h3:dkA N (dkQ f E)/dkZ D (dkQ f E)<10^(3*f.j+1):=by
  rw [Nat.div_lt_iff_lt_mul (dkZ_pos hD _),Nat.mul_comm];exact h1
 unfold dkC0
 omega
def dkX (f:DF) (N D:Nat) (E:Int):Bool:=decide (dkA N (dkQ f E)%dkZ D (dkQ f E)=0)
def dkC (f:DF) (d:Int) (s:Bool) (N D:Nat) (E:Int):Nat:=if 10^(3*f.j+1)<=dkC0 f d s N D E then 10^(3*f.j) else dkC0 f d s N D E
def dkE (f:DF) (d:Int) (s:Bool) (N D:Nat) (E:Int):Int:=if 10^(3*f.j+1)<=dkC0 f d s N D E then dkQ f E+1 else dkQ f E
def DF.m (f:DF):Int:=f.l+3*2^f.w-1
def mbr (m want:Int):Nat->Nat->Int->Nat×Int
 | 0,c,q=>(c,q)
 | k+1,c,q=>if q<want/\q<m/\c%10=0 then mbr m want k (c/10) (q+1) else (c,q)
def dkM (f:DF) (d:Int) (s:Bool) (N D:Nat) (E want:Int):Nat×Int:=mbr f.m want (f.m-dkE f d s N D E).toNat (dkC f d s N D E) (dkE f d s N D E)
def dkD (f:DF) (d:Int) (s:Bool) (N D:Nat) (E want:Int):Dat :=
 if f.m<dkE f d s N D E then (if inB d s then ⟨2,s,false,0,0⟩ else ⟨1,s,false,f.m,10^(3*f.j+1)-1⟩)
 else if dkX f N D E then ⟨1,s,false,(dkM f d s N D E want).2,(dkM f d s N D E want).1⟩ else ⟨1,s,false,dkE f d s N D E,dkC f d s N D E⟩
def dkF (f:DF) (d:Int) (s:Bool) (N D:Nat) (E:Int):Int :=
 if f.m<dkE f d s N D E then 10 else if dkX f N D E then 0 else if E<f.l+3*f.j then 12 else 8
theorem dkC_lt {f:DF} {d:Int} {s:Bool} {N D:Nat} {E:Int} (hD:0<D) (h:TnE N D E):dkC f d s N D E<10^(3*f.j+1):=by
 have h1:=dkC0_le (f:=f) (d:=d) (s:=s) hD h
 have h2:(10:Nat)^(3*f.j)<10^(3*f.j+1):=Nat.pow_lt_pow_right (by decide) (by omega)
 unfold dkC
 split <;> omega
theorem dkE_ge (f:DF) (d:Int) (s:Bool) (N D:Nat) (E:Int):f.l<=dkE f d s N D E:=by
 unfold dkE dkQ
 split <;> omega
theorem mbr_all {m want:Int}:∀ (k c:Nat) (q:Int),q<=m->(mbr m want k c q).1<=c/\q<=(mbr m want k c q).2/\(mbr m want k c q).2<=m/\(mbr m want k c q).1*10^((mbr m want k c q).2-q).toNat=c
 | 0,c,q,hq=>by
  unfold mbr
  refine ⟨Nat.le_refl _,Int.le_refl _,hq,?_⟩
  simp
 | k+1,c,q,hq=>by
  unfold mbr
  split
  ·rename_i h
   obtain ⟨h1,h2,h3,h4⟩:=mbr_all (m:=m) (want:=want) k (c/10) (q+1) (by omega)
   refine ⟨by omega,by omega,h3,?_⟩
   rw [show ((mbr m want k (c/10) (q+1)).2-q).toNat=((mbr m want k (c/10) (q+1)).2-(q+1)).toNat+1 by omega,Nat.pow_succ,← Nat.mul_assoc,h4]
   omega
  ·refine ⟨Nat.le_refl _,Int.le_refl _,hq,?_⟩
   simp
theorem mbr_hits {m:Int}:∀ (p k c:Nat) (q:Int),p<=k->q+p<=m->mbr m (q+p) k (c*10^p) q=(c,q+p)
 | 0,k,c,q,hk,hm=>by
  cases k with
  | zero=>unfold mbr;simp
  | succ k=>unfold mbr;rw [if_neg (by omega)];simp
 | p+1,k,c,q,hk,hm=>by
  obtain ⟨k',rfl⟩:∃ k',k=k'+1:=⟨k-1,by omega⟩
  unfold mbr
  have h10:c*10^(p+1)=10*(c*10^p):=by rw [Nat.pow_succ];simp only [Nat.mul_comm,Nat.mul_left_comm]
  rw [if_pos ⟨by omega,by omega,by rw [h10];omega⟩,h10,Nat.mul_div_cancel_left _ (by decide)]
  have:=mbr_hits (m:=m) p k' c (q+1) (by omega) (by omega)
  rw [show q+1+(p:Int)=q+((p+1:Nat):Int) by omega] at this
  exact this
theorem dkD_is {f:DF} (hf:f.ok) {d:Int} {s:Bool} {N D:Nat} {E want:Int} (hD:0<D) (h:TnE N D E):vI f (dkD f d s N D E want):=by
 have hc:=dkC_lt (f:=f) (d:=d) (s:=s) hD h
 have he:=dkE_ge f d s N D E
 have hp:=ten_pos (3*f.j+1)
 have hw:(0:Int)<2^f.w:=Int.pow_pos (by decide)
 unfold dkD
 split
 ·split
  ·exact Or.inr (Or.inl ⟨rfl,rfl,rfl,rfl⟩)
  ·refine Or.inl ⟨rfl,rfl,?_,?_,?_⟩
   ·show 10^(3*f.j+1)-1<10^(3*f.j+1)
    omega
   ·show f.l<=f.m
    unfold DF.m;omega
   ·show f.m<=f.l+3*2^f.w-1
    exact Int.le_refl _
 ·rename_i hm
  split
  ·obtain ⟨h1,h2,h3,h4⟩:=mbr_all (m:=f.m) (want:=want) (f.m-dkE f d s N D E).toNat (dkC f d s N D E) (dkE f d s N D E) (by omega)
   refine Or.inl ⟨rfl,rfl,?_,?_,?_⟩
   ·show (dkM f d s N D E want).1<10^(3*f.j+1)
    unfold dkM;omega
   ·show f.l<=(dkM f d s N D E want).2
    unfold dkM;omega
   ·show (dkM f d s N D E want).2<=f.l+3*2^f.w-1
    unfold dkM;exact h3
  ·exact Or.inl ⟨rfl,rfl,hc,he,by show dkE f d s N D E<=f.m;omega⟩
theorem lay_any (B A at_ K:Nat) (v:Value) (w:World) (hB:B<2^256) (hK:K<900) (ha:at_<=600) (h:NV K A v w) :
  CB 53 #[A4 B,v,.int .i64 at_] w (A4 (B+A*2^at_)):=by
 have c52:∀ W,Below w.heap.size w W->Calls Tryz.prog 95 #[v,.int .i64 at_] W fun e w'=>∃ v',e=.returned v'/\NV (K+11) (A*2^at_) v' w'/\Below W.heap.size W w':=fun W hW=>rleft_nv at_ (by omega) ha (h.next hW)
 clear h
 go_enter Tryz.func53,Tryz.ntmps53
 go_wp2
 go_region_with (first
  | (go_at_call 95;refine (c52 _ bgo).mono ?_;rintro e w1 ⟨v1,rfl,hl,hb1⟩;have hbx:=box_nv (w0:=w) (B:=B) (t:=24) hB (bnext bgo hb1);obtain ⟨_,_,_,_,hA1,_⟩:=wz w hb1;obtain ⟨_,_⟩:=zf hb1 (w.heap.size+1);clear hb1)
  | (go_at_call 48;refine (radd_nv (by decide) (by omega) hbx hl).mono ?_;rintro e w2 ⟨v2,rfl,hs,hb2⟩;obtain ⟨_,_,_,_,hA2,_⟩:=wz w hb2;obtain ⟨_,_⟩:=zf hb2 (w.heap.size+1);clear hb2)
  | (go_at_call 22;refine (bits_nv hs).mono ?_;rintro e w3 ⟨rfl,hb3⟩;obtain ⟨_,_,_,_,hA3,_⟩:=wz w hb3;obtain ⟨_,_⟩:=zf hb3 (w.heap.size+1);clear hb3))
 have hsm:=cell_set_map
 go_wp2
 exact bodyPost_ret (v:=A4 (B+A*2^at_)) (by simp only [results,Tryz.results53];go_simp) rfl ⟨rfl,bgo⟩
theorem rfits4 (n:Int) (B:Nat) (hB:B<2^256) (w:World) :
  CB 43 #[.int .i64 n,A4 B] w (.bool (decide (okN n/\B<2^(widthN n).toNat))):=by
 refine (rfits_any n (W4 B) (W4_words B) _ (A4_get B) rfl w).mono ?_
 rintro x w' ⟨rfl,hb⟩
 refine ⟨?_,hb⟩
 have hwd:=(fields_bounds n).2.1
 have e:(fitsP n (W4 B))↔(okN n/\B<2^(widthN n).toNat):=by
  unfold fitsP
  rw [lenL_low]
  have:=len4_le (k:=(widthN n).toNat) hB
  rw [show (((widthN n).toNat:Nat):Int)=widthN n by omega] at this
  rw [this]
 rw [decide_eq_decide.2 e]
theorem NT.more {K K' V:Nat} {v:Value} {w:World} (h:NT K V v w) (hk:K<=K'):NT K' V v w:=by
 obtain ⟨g,k,cap,z,h1,h2,h3,h4,h5⟩:=h
 exact ⟨g,k,cap,z,h1,by omega,h3,h4,h5⟩
theorem rtimes_nt {K K' A B:Nat} {v v':Value} {w:World} (hK:K<1000000) (hK':K'<1000000) (h:NV K A v w) (h':NV K' B v' w) :
  CE 24 #[v,v'] w (NT (K+K'+1) (A*B)):=by
 obtain ⟨g,k,c,z,rfl,hk,hN,hz⟩:=h
 obtain ⟨g2,k2,c2,z2,rfl,hk2,hN2,hz2⟩:=h'
 refine (times_tr g 0 k c g2 0 k2 c2 z z2 w (by omega) (by omega) hN hN2).mono fun e w' ⟨g3,k3,cap3,z3,e1,hk3,hN3,hv3,hB,ht⟩=>⟨_,e1,⟨g3,k3,cap3,z3,rfl,by omega,hN3,?_,ht⟩,hB⟩
 rw [← val_more hN3.2.2.2.1 _ hk3,hv3,hz,hz2];simp
theorem rleft_nt {K A:Nat} {v:Value} {w:World} (s:Nat) (hK:K<1000000) (hs:s<=6300000) (h:NV K A v w) :
  CE 95 #[v,.int .i64 s] w (NT (K+s/64+1) (A*2^s)):=by
 obtain ⟨g,k,c,z,rfl,hk,hN,hz⟩:=h
 refine (fleft_val g 0 k c s z w (by omega) (by omega) (by omega) hN).mono fun e w' ⟨g3,k3,cap3,z3,e1,hk3,hN3,hv3,hB,hf,ht⟩=>⟨_,e1,⟨g3,k3,cap3,z3,rfl,by rw [Int.toNat_natCast] at hk3;omega,hN3,?_,ht⟩,hB⟩
 rw [hv3,hz,Int.toNat_natCast];simp
theorem rcmp_nv {K K' A B:Nat} {v v':Value} {w:World} (hK:K<1000000) (hK':K'<1000000) (h:NV K A v w) (h':NV K' B v' w) :
  CQ 42 #[v,v'] w (.int .i64 (sgn (A:Int) B)):=by
 obtain ⟨g,k,c,z,rfl,hk,hN,hz⟩:=h
 obtain ⟨g2,k2,c2,z2,rfl,hk2,hN2,hz2⟩:=h'
 have:=rcmp_any _ _ k c k2 c2 z z2 w (by omega) (by omega) hN hN2
 rw [hz,hz2] at this
 exact this
section
def decN (n:Int):Prop:=7<=n/\n<=12
instance (n:Int):Decidable (decN n):=inferInstanceAs (Decidable (_/\_))
def fD (n:Int):DF:=if n=7∨n=10 then ⟨20,6,2,-101,denseN n⟩ else if n=8∨n=11 then ⟨50,8,5,-398,denseN n⟩ else ⟨110,12,11,-6176,denseN n⟩
theorem dec_cases {n:Int} (h:decN n):n=7∨n=8∨n=9∨n=10∨n=11∨n=12:=by unfold decN at h;omega
theorem fD_ok (n:Int):(fD n).ok:=by
 unfold fD
 split
 ·exact Or.inl ⟨rfl,rfl,rfl,rfl⟩
 ·split
  ·exact Or.inr (Or.inl ⟨rfl,rfl,rfl,rfl⟩)
  ·exact Or.inr (Or.inr ⟨rfl,rfl,rfl,rfl⟩)
theorem dec_fields {n:Int} (h:decN n):okN n/\numN n=n/\baseN n=10/\widthN n=(((fD n).t+((fD n).w+6):Nat):Int)/\precN n=3*((fD n).j:Int)+1/\leastN n=(fD n).l/\mostN n=(fD n).l+3*2^(fD n).w-1/\payN n=3*((fD n).j:Int)/\denseN n=(fD n).dn:=by
 rcases dec_cases h with rfl | rfl | rfl | rfl | rfl | rfl <;> decide
def goodD (n:Int) (B:Nat):Prop:=decN n/\B<2^((fD n).t+((fD n).w+6))
instance (n:Int) (B:Nat):Decidable (goodD n B):=inferInstanceAs (Decidable (_/\_))
theorem rdecimal_any (n:Int) (w:World):CQ 17 #[.int .i64 n] w (.bool (decide (decN n))):=by
 by_cases h1:7<=n
 ·by_cases h2:n<=12
  ·rw [decide_eq_true (show decN n from ⟨h1,h2⟩)]
   go_enter Tryz.func17,Tryz.ntmps17
   go_wp2
   go_ret
   exact ⟨rfl,rfl⟩
  ·rw [decide_eq_false (show ¬ decN n from fun h=>h2 h.2)]
   go_enter Tryz.func17,Tryz.ntmps17
   go_wp2
   go_ret
   exact ⟨rfl,rfl⟩
 ·rw [decide_eq_false (show ¬ decN n from fun h=>h1 h.1)]
  go_enter Tryz.func17,Tryz.ntmps17
  go_wp2
  go_ret
  exact ⟨rfl,rfl⟩
theorem rgood14 (n:Int) (B:Nat) (hB:B<2^256) (w:World) :
  CB 15 #[.int .i64 n,A4 B] w (.bool (decide (goodD n B))):=by
 have c35:=fun w=>rdecimal_any n w
 have c50:=fun w=>rfits4 n B hB w
 by_cases hb:decN n
 ·have hF:=dec_fields hb
  rw [decide_eq_true hb] at c35
  have e:(okN n/\B<2^(widthN n).toNat)↔goodD n B:=by
   rw [hF.2.2.2.1,Int.toNat_natCast]
   exact ⟨fun h=>⟨hb,h.2⟩,fun h=>⟨hF.1,h.2⟩⟩
  rw [decide_eq_decide.2 e] at c50
  generalize decide (goodD n B)=D at *
  clear hF e hb hB
  go_enter Tryz.func15,Tryz.ntmps15
  go_wp2_with (first
   | (go_at_call 17;refine (c35 _).mono ?_;rintro e w1 ⟨rfl,rfl⟩)
   | (go_at_call 43;refine (c50 _).mono ?_;rintro e w2 ⟨rfl,hb2⟩))
  go_ret
  exact ⟨rfl,bnext bgo hb2⟩
 ·rw [decide_eq_false hb] at c35
  rw [decide_eq_false (show ¬ goodD n B from fun h=>hb h.1)]
  clear hb hB c50
  go_enter Tryz.func15,Tryz.ntmps15
  go_wp2_with (go_at_call 17;refine (c35 _).mono ?_;rintro e w1 ⟨rfl,rfl⟩)
  go_ret
  exact ⟨rfl,bgo⟩
attribute [local irreducible] W4 NT NV
theorem rpowt_nv (n:Nat) (w:World) (hn:n<=12000):CE 25 #[.int .u64 10,.int .i64 (n:Int)] w (NV 50000 (10^n)):=by
 refine (rpow_any 10 n w (by decide) (by omega)).mono ?_
 rintro r w' ⟨g,k,cap,z,rfl,hk,hN,hv,hb⟩
 refine ⟨_,rfl,?_,hb⟩
 unfold NV
 exact ⟨g,k,cap,z,rfl,by omega,hN,by rw [hv];simp⟩
theorem rpow4t (p:Nat) (w:World) (hp:p<=12000):CE 96 #[.int .i64 10,.int .i64 p] w (NV 50000 (10^p)):=by
 have c:=fun W=>rpowt_nv p W hp
 go_enter Tryz.func96,Tryz.ntmps96
 go_wp2_with (go_at_call 25;refine (c _).mono ?_;rintro r w1 ⟨v,rfl,hv,hb1⟩)
 go_ret
 exact ⟨v,rfl,hv,hb1⟩
theorem sgnt_lt (A B:Nat):decide (sgn (A:Int) (B:Int)<0)=decide (A<B):=by
 rcases sgn_ways (A:Int) (B:Int) with ⟨a,e⟩ | ⟨a,e⟩ | ⟨a,e⟩
 ·rw [e,decide_eq_true (show A<B by omega)];rfl
 ·rw [e,decide_eq_false (show ¬ A<B by omega)];rfl
 ·rw [e,decide_eq_false (show ¬ A<B by omega)];rfl
theorem rbelowt (k p:Nat) (w:World) (hk:k<2^256) (hp:p<=12000):CB 51 #[A4 k,.int .i64 10,.int .i64 p] w (.bool (decide (k<10^p))):=by
 have c1:=fun W=>rpow4t p W hp
 have hs:=sgnt_lt k (10^p)
 go_enter Tryz.func51,Tryz.ntmps51
 go_wp2
 go_region_with (first
  | (go_at_call 96;refine (c1 _).mono ?_;rintro e w1 ⟨v1,rfl,hl,hb1⟩;have hbx:=box_nv (w0:=w) (B:=k) (t:=24) hk (bnext bgo hb1))
  | (go_at_call 42;refine (rcmp_nv (by decide) (by decide) hbx hl).mono ?_;rintro e w2 ⟨rfl,rfl⟩))
 go_wp2
 go_ret
 exact ⟨congrArg (fun b=>Ending.returned (.bool b)) hs,bnext bgo hb1⟩
abbrev IDec (n:Int) (nm:ByteArray) (wd pr ex le mo pa:Int) (dn:Bool):Value:=.agg #[.int .i64 n,.string nm,.int .i64 10,.int .i64 wd,.int .i64 pr,.int .i64 ex,.int .i64 le,.int .i64 mo,.int .i64 pa,.bool dn]
theorem rof_dec {n:Int} (h:decN n) (w:World):CB 19 #[.int .i64 n] w (.tuple #[IDec n (nameN n) (((fD n).t+((fD n).w+6):Nat):Int) (3*((fD n).j:Int)+1) (expN n) (fD n).l ((fD n).l+3*2^(fD n).w-1) (3*((fD n).j:Int)) (fD n).dn,.int .i64 0]):=by
 obtain ⟨hok,h1,h2,h3,h4,h5,h6,h7,h8⟩:=dec_fields h
 have c25:=rofv_any n w
 rw [show infoE n=0 from if_pos hok,h1,h2,h3,h4,h5,h6,h7,h8] at c25
 exact c25
theorem below_drewD {b:Nat} {w w':World} (h:Below b w w') (m:Nat):Below b w (w'.drewN m):=⟨h.os,h.tape,h.output,h.size,h.block⟩
theorem rshape (n:Int) (nm:ByteArray) (wd pr ex le mo pa:Int) (dn:Bool) (G T J:Int) (w:World) (h0:0<=wd) (h1:wd<=256) (h2:1<=pr) (h3:pr<=100) (hG:wd/16+9=G) (hG0:0<=G) (hG1:G<=100) (hT:wd-1-G=T) (hJ:(pr-1)/3=J) :
  CB 52 #[IDec n nm wd pr ex le mo pa dn] w (.tuple #[.int .i64 G,.int .i64 T,.int .i64 J]):=by
 go_enter Tryz.func52,Tryz.ntmps52
 go_wp2
 go_quiet (fail)
 go_wp2
 exact bodyPost_ret (by simp only [results,Tryz.results52];go_simp) rfl ⟨rfl,below_drewD (below1 w _) _⟩
theorem dec_shape {n:Int} (h:decN n) (nm:ByteArray) (ex le mo pa:Int) (dn:Bool) (w:World) :
  CB 52 #[IDec n nm (((fD n).t+((fD n).w+6):Nat):Int) (3*((fD n).j:Int)+1) ex le mo pa dn] w (.tuple #[.int .i64 (((fD n).w:Int)+5),.int .i64 ((fD n).t:Int),.int .i64 ((fD n).j:Int)]):=by
 rcases fD_ok n with ⟨h1,h2,h3,h4⟩ | ⟨h1,h2,h3,h4⟩ | ⟨h1,h2,h3,h4⟩ <;> rw [h1,h2,h3] <;> exact rshape n nm _ _ ex le mo pa dn _ _ _ w (by decide) (by decide) (by decide) (by decide) rfl (by decide) (by decide) rfl rfl
end
section
theorem rdir_any (d:Int) (w:World):CQ 18 #[.int .i64 d] w (.bool (decide (knB d))):=by
 by_cases h0:0<=d
 ·by_cases h4:d<=4
  ·have e:decide (knB d)=true:=by unfold knB;simp [h0,h4]
   rw [e]
   go_enter Tryz.func18,Tryz.ntmps18
   go_wp2
   go_ret
   exact ⟨by simp [h0,h4],rfl⟩
  ·have e:decide (knB d)=false:=by unfold knB;simp [h0,h4]
   rw [e]
   go_enter Tryz.func18,Tryz.ntmps18
   go_wp2
   go_ret
   exact ⟨by simp [h0,h4],rfl⟩
 ·have e:decide (knB d)=false:=by unfold knB;simp [h0]
  rw [e]
  go_enter Tryz.func18,Tryz.ntmps18
  go_wp2
  go_ret
  exact ⟨by simp [h0],rfl⟩
section
variable (x:Int) (vn vd:Value) (A B KK:Nat) (w:World)
end
end
section
theorem NT.stays (K V:Nat):Stays (NT K V):=fun v w w' h hb=>h.next hb
section
variable {a:Act} {w:World} {K:Act->World->Prop} {Q:Exit->Act->World->Prop} {d p q r:Nat} {ty:TypeId} {pos:String} {after:Array Edge} {gd:Option (Nat×Bool)}
end
end
section
theorem puts_slot (a:Act):∀ (D:List Nat) (b:Act),(D.foldl (fun b d=>b.put (some d) (slot a d)) b).tmps.size=b.tmps.size/\(D.foldl (fun b d=>b.put (some d) (slot a d)) b).defers=b.defers/\∀ t,t<b.tmps.size->slot (D.foldl (fun b d=>b.put (some d) (slot a d)) b) t=if t ∈ D then slot a t else slot b t
 | [],b=>⟨rfl,rfl,fun t ht=>by simp⟩
 | d :: D,b=>by
  obtain ⟨h1,h2,h3⟩:=puts_slot a D (b.put (some d) (slot a d))
  have hs:(b.put (some d) (slot a d)).tmps.size=b.tmps.size:=by simp [Act.put]
  refine ⟨h1.trans hs,h2,fun t ht=>?_⟩
  rw [List.foldl_cons,h3 t (by rw [hs];exact ht)]
  by_cases hD:t ∈ D
  ·rw [if_pos hD,if_pos (List.mem_cons_of_mem _ hD)]
  ·rw [if_neg hD]
   by_cases hd:t=d
   ·subst hd
    rw [if_pos List.mem_cons_self,slot_put ht]
   ·rw [if_neg (by simp [hd,hD]),slot_put_ne (fun h=>hd h.symm)]
theorem act_of {a a0:Act} (D:List Nat) (n:Nat) (hn:D.length=n) (hsz:a.tmps.size=a0.tmps.size) (hdf:a.defers=a0.defers) (hF:∀ t,(∀ i,i<n->D.getD i 0≠t)->slot a t=slot a0 t) :
  a=D.foldl (fun b d=>b.put (some d) (slot a d)) a0:=by
 obtain ⟨h1,h2,h3⟩:=puts_slot a D a0
 generalize D.foldl (fun b d=>b.put (some d) (slot a d)) a0=b at *
 have key:∀ t,t<a0.tmps.size->slot a t=slot b t:=fun t ht=>by
  rw [h3 t ht]
  by_cases hD:t ∈ D
  ·rw [if_pos hD]
  ·rw [if_neg hD]
   refine hF t fun i hi e=>hD ?_
   rw [← e,List.getD_eq_getElem?_getD,List.getElem?_eq_getElem (by omega)]
   exact List.getElem_mem _
 have ht:a.tmps=b.tmps:=by
  apply Array.ext (by omega)
  intro i h4 h5
  have:=key i (by omega)
  unfold slot at this
  rw [Array.getElem?_eq_getElem h4,Array.getElem?_eq_getElem h5] at this
  exact this
 cases a;cases b
 simp only at ht hdf h2 ⊢
 rw [ht,hdf,h2]
attribute [local irreducible] W4 NT NV
end
section
structure Four (w:World) (g o k:Nat):Prop where
 cell:∀ i,i<4->w.cell? ⟨g,o+i,none⟩=some (.int .u64 (W4 k i))
theorem Four.of {w:World} {g o k:Nat} (h0:w.cell? ⟨g,o+0,none⟩=some (.int .u64 (W4 k 0))) (h1:w.cell? ⟨g,o+1,none⟩=some (.int .u64 (W4 k 1))) (h2:w.cell? ⟨g,o+2,none⟩=some (.int .u64 (W4 k 2))) (h3:w.cell? ⟨g,o+3,none⟩=some (.int .u64 (W4 k 3))):Four w g o k :=
 ⟨fun i hi=>by
  have:i=0∨i=1∨i=2∨i=3:=by omega
  rcases this with rfl | rfl | rfl | rfl <;> assumption⟩
theorem Four.next {w w':World} {g o k:Nat} (h:Four w g o k) (hg:g<w.heap.size) (hb:Below w.heap.size w w'):Four w' g o k :=
 ⟨fun i hi=>by rw [hb.cell (p:=⟨g,o+i,none⟩) hg];exact h.cell i hi⟩
structure Dc (w:World) (g:Nat) (c:Int) (s b:Bool) (x:Int) (k:Nat):Prop where
 c0:w.cell? ⟨g,0,none⟩=some (.int .i64 c)
 c1:w.cell? ⟨g,1,none⟩=some (.bool s)
 c2:w.cell? ⟨g,2,none⟩=some (.bool b)
 c3:w.cell? ⟨g,3,none⟩=some (.int .i64 x)
 c4:w.cell? ⟨g,4,none⟩=some (.int .u64 (W4 k 0))
 c5:w.cell? ⟨g,5,none⟩=some (.int .u64 (W4 k 1))
 c6:w.cell? ⟨g,6,none⟩=some (.int .u64 (W4 k 2))
 c7:w.cell? ⟨g,7,none⟩=some (.int .u64 (W4 k 3))
theorem Dc.next {w w':World} {g:Nat} {c:Int} {s b:Bool} {x:Int} {k:Nat} (h:Dc w g c s b x k) (hg:g<w.heap.size) (hb:Below w.heap.size w w'):Dc w' g c s b x k :=
  ⟨by rw [hb.cell (p:=⟨g,0,none⟩) hg,h.c0],by rw [hb.cell (p:=⟨g,1,none⟩) hg,h.c1],by rw [hb.cell (p:=⟨g,2,none⟩) hg,h.c2],by rw [hb.cell (p:=⟨g,3,none⟩) hg,h.c3],
   by rw [hb.cell (p:=⟨g,4,none⟩) hg,h.c4],by rw [hb.cell (p:=⟨g,5,none⟩) hg,h.c5],by rw [hb.cell (p:=⟨g,6,none⟩) hg,h.c6],by rw [hb.cell (p:=⟨g,7,none⟩) hg,h.c7]⟩
def mo (A B i:Nat):Bool:=decide (val (W4 B) i<val (W4 A) i)
attribute [local irreducible] W4 mo
end
theorem owns_new {w:World} {base g k cap n:Nat} {e:TypeId} {xs:List Value} (h:w.ownsRow base e 1 (.slice (some ⟨g,0,none⟩) k cap) n xs):base<=g:=by
 rcases h.2 with ⟨h,_⟩ | ⟨g',cap',cur,he,hb,_⟩
 ·cases h
 ·cases he;exact hb
theorem trimf_some (b off n c:Nat) (x:Nat->Int) (w:World) (hn:n<4294967296) (h:Num w (some ⟨b,off,none⟩) n c x) :
  Calls Tryz.prog 44 #[.slice (some ⟨b,off,none⟩) n c] w fun e w'=>∃ g cap,e=.returned (.slice (some ⟨g,0,none⟩) (sizeL x n) cap)/\Num w' (some ⟨g,0,none⟩) (sizeL x n) cap x/\Below w.heap.size w w'/\w.heap.size<=g:=by
 obtain ⟨h1,h2,h3,h4,h5⟩:=h
 have hc:b<w.heap.size/\∀ i,i<n->w.cell? ⟨b,off+i,none⟩=some (.int .u64 (x i)):=by
  rcases h5 with ⟨h,_⟩ | ⟨b',off',h,hbs,hc⟩
  ·cases h
  ·cases h;exact ⟨hbs,hc⟩
 obtain ⟨hbs,hc⟩:=hc
 clear h5
 obtain ⟨i0,hi,hz0,hz1,hz2⟩:=info_parts Tryz.info22
 unfold maxLen at h2
 go_enter Tryz.func44,Tryz.ntmps44
 go_wp2
 go_loop [3] (fun t=>∃ k:Nat,k<=n/\sizeL x k=sizeL x n/\(∀ i,k<=i->x i=0)/\t=.int .i64 k) (fun t=>(intOf t).toNat)
 case atStart=>exact ⟨n,Nat.le_refl _,rfl,h4,rfl⟩
 case round =>
  obtain ⟨k,hk,hs,hz,rfl⟩:=hrel
  clear h4
  by_cases h0:k=0
  ·subst h0
   have HS:Hid (sizeL x n=0):=hs.symm
   have HN:Hid (Num (w.alloc (.cells #[] 22)) (some ⟨w.heap.size,0,none⟩) 0 0 x):=⟨Nat.le_refl _,by unfold maxLen;omega,h3,hz,Or.inr ⟨w.heap.size,0,rfl,by simp,fun i hi=>by omega⟩⟩
   clear hs hz hc h3
   go_wp2
   go_ret
   refine ⟨w.heap.size,0,?_,?_,(Below.refl _ _).alloc (Nat.le_refl _) _,Nat.le_refl _⟩
   ·rw [HS.out];rfl
   ·rw [HS.out];exact HN.out
  ·obtain ⟨j,rfl⟩:∃ j,k=j+1:=⟨k-1,by omega⟩
   have hcj:=hc j (by omega)
   by_cases hzj:x j=0
   ·have HS:Hid (sizeL x j=sizeL x n):=by
     have:sizeL x (j+1)=sizeL x j:=by simp [sizeL,hzj]
     exact this.symm.trans hs
    have HZ:Hid (∀ i,j<=i->x i=0):=fun i hji=>by
     by_cases e:i=j
     ·rw [e];exact hzj
     ·exact hz i (by omega)
    clear hs hz hc
    go_wp2
    go_round
    case rel=>exact ⟨j,by omega,HS.out,HZ.out,by go_num⟩
    case measure=>simp [intOf]
   ·have HS:Hid (sizeL x n=j+1):=by
     have:sizeL x (j+1)=j+1:=by simp [sizeL,hzj]
     exact hs.symm.trans this
    have HZ:Hid (∀ i,j+1<=i->x i=0):=hz
    have HC:Hid (∀ i,i<n->w.cell? ⟨b,off+i,none⟩=some (.int .u64 (x i))):=hc
    clear hs hz hc
    have HOWN:(w.alloc (.cells #[] 22)).ownsRow w.heap.size 22 1 (.slice (some ⟨w.heap.size,0,none⟩) 0 0) 0 [] :=
     ⟨rfl,Or.inr ⟨w.heap.size,0,#[],rfl,Nat.le_refl _,(MapKept.heap_alloc w _).1,Nat.le_refl _,by unfold maxLen;omega,rfl,rfl⟩⟩
    have HNEWS:∀ (q:Nat) (u:Value),((List.range (j+1)).map fun i=>Value.int .u64 (x i))[q]?=some u->(w.alloc (.cells #[] 22)).cell? ((⟨b,off,none⟩:Addr).add q)=some u:=by
     intro q u hq
     have hql:q<j+1:=by
      rcases Nat.lt_or_ge q (j+1) with h | h
      ·exact h
      ·rw [List.getElem?_eq_none (by simpa using h)] at hq;cases hq
     have e2:u=.int .u64 (x q):=by simpa [hql] using hq.symm
     rw [e2]
     have ea:(⟨b,off,none⟩:Addr).add q=⟨b,off+q,none⟩:=by simp [Addr.add]
     rw [ea]
     exact (((Below.refl w.heap.size w).alloc (Nat.le_refl _) _).cell (p:=⟨b,off+q,none⟩) hbs).trans (HC.out q (by omega))
    have HONE:∀ u ∈ ((List.range (j+1)).map fun i=>Value.int .u64 (x i)),u.oneCell'=true:=by
     intro u hu
     obtain ⟨q,_,rfl⟩:=List.mem_map.1 hu
     rfl
    go_wp2_with (at_builtin;refine wpList_append_lies _ rfl (.tmp 18) (.tmp 21) 48 rfl w.heap.size 22 i0 (.int .u64 0) 1 8 Tryz.underlying48 hi hz0 hz1 hz2 rfl (by decide) (.slice (some ⟨w.heap.size,0,none⟩) 0 0) 0 [] rfl HOWN ⟨b,off,none⟩ (j+1) c ((List.range (j+1)).map fun i=>Value.int .u64 (x i)) rfl (by simp) HNEWS HONE (by omega) (by unfold maxLen;omega) (by omega) (by simp) (w.heap.size+1) (by simp) ?_;intro g cap w1 hown hgrow hat hlt;clear HOWN HNEWS HONE)
    have hown':w1.ownsRow w.heap.size 22 1 (.slice (some ⟨g,0,none⟩) (j+1) cap) (j+1) ((List.range (j+1)).map fun i=>Value.int .u64 (x i)):=by
     have e0:0+(j+1)=j+1:=by omega
     rw [e0] at hown
     simpa using hown
    have HG:=owns_new hown'
    have HN:=num_of_owns (w:=w) h3 HZ.out hown' hlt
    have HB:Below w.heap.size w w1:=((Below.refl _ _).alloc (Nat.le_refl _) _).grown hgrow (by simp) (by intro k hk;cases hk;exact Nat.le_refl _)
    clear hown hown' hgrow
    go_wp2
    go_ret
    refine ⟨g,cap,?_,?_,HB,HG⟩
    ·rw [HS.out];simp
    ·rw [HS.out];exact HN
theorem trimf_nil (x:Nat->Int) (w:World) (hx:∀ i,x i=0) :
  Calls Tryz.prog 44 #[.slice none 0 0] w fun e w'=>∃ g cap,e=.returned (.slice (some ⟨g,0,none⟩) 0 cap)/\Num w' (some ⟨g,0,none⟩) 0 cap x/\Below w.heap.size w w'/\w.heap.size<=g:=by
 go_enter Tryz.func44,Tryz.ntmps44
 go_wp2
 go_loop [3] (fun t=>t=.int .i64 0) (fun t=>(intOf t).toNat)
 case atStart=>rfl
 case round =>
  subst hrel
  go_wp2
  go_ret
  refine ⟨w.heap.size,0,rfl,?_,(Below.refl _ _).alloc (Nat.le_refl _) _,Nat.le_refl _⟩
  exact ⟨Nat.le_refl _,by unfold maxLen;omega,fun i=>by rw [hx i];decide,fun i _=>hx i,Or.inr ⟨w.heap.size,0,rfl,by simp,fun i hi=>by omega⟩⟩
theorem trimf_any (a:Option Addr) (n c:Nat) (x:Nat->Int) (w:World) (hn:n<4294967296) (h:Num w a n c x) :
  Calls Tryz.prog 44 #[.slice a n c] w fun e w'=>∃ g cap,e=.returned (.slice (some ⟨g,0,none⟩) (sizeL x n) cap)/\Num w' (some ⟨g,0,none⟩) (sizeL x n) cap x/\Below w.heap.size w w'/\w.heap.size<=g:=by
 have h':=h
 obtain ⟨h1,h2,h3,h4,h5⟩:=h'
 rcases h5 with ⟨rfl,rfl⟩ | ⟨b,off,rfl,_,_⟩
 ·obtain rfl:n=0:=by omega
  exact trimf_nil x w (fun i=>h4 i (Nat.zero_le _))
 ·exact trimf_some b off n c x w hn h
theorem off_any (c:Int) (w:World) (hc:0<=c/\c<=18446744073709551615) :
  Calls Tryz.prog 93 #[.int .u64 c] w fun e w'=>∃ g k cap z,e=.returned (.slice (some ⟨g,0,none⟩) k cap)/\k<=1/\Num w' (some ⟨g,0,none⟩) k cap z/\val z k=c/\Below w.heap.size w w'/\sizeL z k=k:=by
 have hN:=num_one w c hc
 have hT:=trim_any _ 1 1 (oneW c) _ (by omega) hN
 have hle:=sizeL_le (oneW c) 1
 have HV:Hid (val (oneW c) (sizeL (oneW c) 1)=c):=by show _=_;rw [val_bare,val_one _ 1 (by omega)]
 have HB:=below1 w (.cells #[.int .u64 c] 22)
 have HST:Hid (sizeL (oneW c) (sizeL (oneW c) 1)=sizeL (oneW c) 1):=sizeL_sizeL _ _
 generalize sizeL (oneW c) 1=s at *
 clear hN
 go_enter Tryz.func93,Tryz.ntmps93
 go_wp2_with (go_at_call 44;refine hT.mono ?_;rintro e w1 ⟨g,cap,rfl,hN,hB⟩)
 go_ret
 exact ⟨g,s,cap,_,rfl,hle,hN,HV.out,HB.trans (hB.mono HB.size),HST.out⟩
def quoKc (x:Nat->Int) (d:Int) (s k i:Nat):Int:=if k<=i/\i<s then quoW x d s i else 0
theorem smf_any (a:Option Addr) (s c:Nat) (x:Nat->Int) (d:Int) (w:World) (hs:s<100000) (h:Num w a s c x) (hd:0<d/\d<=18446744073709551615) :
  Calls Tryz.prog 45 #[.slice a s c,.int .u64 d] w fun e w'=>∃ g k cap z g' k' cap' z',e=.returned (.tuple #[.slice (some ⟨g,0,none⟩) k cap,.slice (some ⟨g',0,none⟩) k' cap'])/\k<=s/\k'<=1/\Num w' (some ⟨g,0,none⟩) k cap z/\Num w' (some ⟨g',0,none⟩) k' cap' z'/\val z k=val x s/d/\sizeL z k=k/\val z' k'=val x s%d/\sizeL z' k'=k'/\Below w.heap.size w w'/\w.heap.size<=g:=by
 have hx:=h.2.2.1
 have H:=fun j hj w=>limDiv_ok x d s hx hd j hj w
 have hd0:(d == 0)=false:=by simp;omega
 have hmk:=fun w=>make_any (s:Int) s rfl (by omega) w
 have hA:=apart_of h
 have hBW:=below1 w (.cells (arrOf (fun _=>0) s) 22)
 have hnx:=h.next hBW
 have hO:=Own.new w (fun _=>0) s
 have hqv:=quo_val hx hd.1 s
 have HQW:Hid (Words (quoW x d s)):=quoW_words hx hd.1 s
 have hrb:=remJ_bd x d s s hd.1
 have HB:Hid (Below w.heap.size w (w.alloc (.cells (arrOf (fun _=>0) s) 22))):=hBW
 clear hBW h hx
 go_enter Tryz.func45,Tryz.ntmps45
 go_wp2
 generalize w.alloc (.cells (arrOf (fun _=>0) s) 22)=wA at *
 go_loopw [7,8,19] (fun c i u19 wr=>∃ (k:Nat),k<=s/\i=.int .i64 ((k:Int)-1)/\c=.int .u64 (remJ x d s (s-k))/\Own w.heap.size s (quoKc x d s k) wr/\Upd w.heap.size wA wr) (fun _ i _ _=>(intOf i+1).toNat)
 case atStart=>exact ⟨s,Nat.le_refl _,by go_num,by rw [Nat.sub_self];rfl,hO.congr fun i _=>by unfold quoKc;rw [if_neg (by omega)],Upd.refl _ _⟩
 case round =>
  clear hO
  obtain ⟨k,hk,rfl,rfl,hO,hU⟩:=hrel
  by_cases h0:k=0
  ·subst h0
   have hN:=hO.num (x:=quoKc x d s 0) (fun i=>by unfold quoKc;split;exact HQW.out i;decide) 0 s s (by omega) (Nat.le_refl _) (by unfold maxLen;omega)
   have hT:=trimf_any _ s s _ _ (by omega) hN
   have hle:=sizeL_le (segW (quoKc x d s 0) 0 s) s
   have HV:Hid (val (segW (quoKc x d s 0) 0 s) (sizeL (segW (quoKc x d s 0) 0 s) s)=val x s/d):=by
    show _=_
    rw [val_bare,val_congr (y:=quoW x d s) s fun i hi=>by rw [segW_lt _ _ _ i hi,Nat.zero_add];unfold quoKc;rw [if_pos (by omega)],hqv.1]
   have HR:Hid (remJ x d s s=val x s%d):=hqv.2
   have HBr:Hid (Below w.heap.size w wr):=HB.out.trans (hU.below (Nat.le_refl _))
   have HST:Hid (sizeL (segW (quoKc x d s 0) 0 s) (sizeL (segW (quoKc x d s 0) 0 s) s)=sizeL (segW (quoKc x d s 0) 0 s) s):=sizeL_sizeL _ _
   generalize segW (quoKc x d s 0) 0 s=qz at *
   generalize sizeL qz s=k1 at *
   have hof:=fun wr=>off_any (remJ x d s s) wr (by omega)
   rw [Nat.sub_zero]
   generalize remJ x d s s=rm at *
   clear hN hO hU H hqv
   go_wp2_with (go_at_call 44;refine hT.mono ?_;rintro e w1 ⟨g,cap,rfl,hN1,hB1,hG1⟩;clear hT)
   go_wp2_with (go_at_call 93;refine (hof _).mono ?_;rintro e w2 ⟨g2,k2,p2,z2,rfl,hk2,hN2,hv2,hB2,hS2⟩;clear hof)
   go_ret2
   exact ⟨g,k1,cap,qz,g2,k2,p2,z2,rfl,hle,hk2,hN1.next hB2,hN2,HV.out,HST.out,by rw [hv2,HR.out],hS2,(HBr.out.trans (hB1.mono HBr.out.size)).trans (hB2.mono (Nat.le_trans HBr.out.size hB1.size)),Nat.le_trans HBr.out.size hG1⟩
  ·obtain ⟨j,rfl⟩:∃ j,k=j+1:=⟨k-1,by omega⟩
   have hjm:(j:Int)<s:=by omega
   have ej:((j+1:Nat):Int)-1=j:=by omega
   have ej2:s-(j+1)=s-1-j:=by omega
   rw [ej,ej2]
   obtain ⟨b,off,rfl,hbs,hc⟩:=(hU.num' hA hnx).cells (by omega)
   have hcx:=hc j (by omega)
   have hcj:∃ u,wr.cell? ⟨w.heap.size,j,none⟩=some (.int .u64 u):=⟨_,hO.cell j (by omega)⟩
   obtain ⟨u,hcj⟩:=hcj
   have hfj:=hO.frozen j
   have HJ:=H j (by omega)
   have HO:Hid (Own w.heap.size s (quoKc x d s j) (wr.setCell ⟨w.heap.size,j,none⟩ (.int .u64 (quoW x d s j)))):=(hO.set j (quoW x d s j)).congr fun i hi=>by
    unfold quoKc
    by_cases e:i=j
    ·subst e;rw [if_pos rfl,if_pos (by omega)]
    ·rw [if_neg e]
     by_cases e2:j+1<=i/\i<s
     ·rw [if_pos e2,if_pos (by omega)]
     ·rw [if_neg e2,if_neg (by omega)]
   have HU:Hid (Upd w.heap.size wA (wr.setCell ⟨w.heap.size,j,none⟩ (.int .u64 (quoW x d s j)))):=hU.set j _
   clear hO hU H ej ej2 hc hqv hA hnx
   go_wp2_with (go_at_call 92;refine (HJ _).mono ?_;rintro e w' ⟨rfl,m',rfl⟩)
   go_roundw
   case rel=>exact ⟨j,by omega,by go_num,rfl,HO.out,HU.out.drewN m'⟩
   case measure=>simp [intOf]
theorem overf_one (ga gb s c c':Nat) (x y:Nat->Int) (w:World) (hs:s<20001) (h:Num w (some ⟨ga,0,none⟩) s c x) (h':Num w (some ⟨gb,0,none⟩) 1 c' y) (hys:sizeL y 1=1) :
  Calls Tryz.prog 56 #[.slice (some ⟨ga,0,none⟩) s c,.slice (some ⟨gb,0,none⟩) 1 c'] w fun e w'=>∃ g k cap z g' k' cap' z',e=.returned (.tuple #[.slice (some ⟨g,0,none⟩) k cap,.slice (some ⟨g',0,none⟩) k' cap'])/\k<=s/\k'<=1/\Num w' (some ⟨g,0,none⟩) k cap z/\Num w' (some ⟨g',0,none⟩) k' cap' z'/\val z k=val x s/val y 1/\sizeL z k=k/\val z' k'=val x s%val y 1/\sizeL z' k'=k'/\Below w.heap.size w w'/\w.heap.size<=g:=by
 have hy:=h'.2.2.1
 have c31:=size_num _ 1 c' y w (by omega) h'
 rw [hys] at c31
 have hy0:y 0≠0:=by have:=sizeL_top (x:=y) 1 (by omega);rw [hys] at this;exact this
 have hyb:=hy 0
 have ev:val y 1=y 0:=by simp [val]
 have c107:=smf_any (some ⟨ga,0,none⟩) s c x (y 0) w (by omega) h (by omega)
 have hc:gb<w.heap.size/\w.cell? ⟨gb,0,none⟩=some (.int .u64 (y 0)):=by
  rcases h'.2.2.2.2 with ⟨h,_⟩ | ⟨b',off',h,hbs,hc⟩
  ·cases h
  ·cases h;exact ⟨hbs,hc 0 (by omega)⟩
 obtain ⟨hgb,hcc⟩:=hc
 rw [ev]
 clear h h'
 go_enter Tryz.func56,Tryz.ntmps56
 go_wp2_with (first | (go_at_call 98;refine c31.mono ?_;rintro e w' ⟨rfl,rfl⟩) | (go_at_call 45;refine c107.mono ?_;rintro e w1 ⟨g,k,cap,z,g',k',cap',z',rfl,hk,hk',hN,hN',hv,hs1,hv',hs2,hB,hG⟩))
 go_ret2
 exact ⟨g,k,cap,z,g',k',cap',z',rfl,hk,hk',hN,hN',hv,hs1,hv',hs2,hB,hG⟩
theorem over_new {K N D:Nat} {vn vd:Value} {w:World} (hK:K<=20000) (h:NT K N vn w) (h':NT 1 D vd w) (hD:D≠0) :
  Calls Tryz.prog 56 #[vn,vd] w fun e w'=>∃ g k cap r,e=.returned (.tuple #[.slice (some ⟨g,0,none⟩) k cap,r])/\w.heap.size<=g/\NT K (N/D) (.slice (some ⟨g,0,none⟩) k cap) w'/\NT 1 (N%D) r w'/\Below w.heap.size w w':=by
 obtain ⟨ga,s,c,x,rfl,hs,hN,hx,hxs⟩:=h
 obtain ⟨gb,t,c',y,rfl,ht,hN',hy,hys⟩:=h'
 have ht1:t=1:=by
  rcases Nat.eq_zero_or_pos t with e | e
  ·subst e
   have:val y 0=0:=rfl
   omega
  ·omega
 subst ht1
 refine (overf_one ga gb s c c' x y w (by omega) hN hN' hys).mono ?_
 rintro e w' ⟨g,k,cap,z,g',k',cap',z',e1,hk,hk',hA,hB,hv,hs1,hv',hs2,hb,hg⟩
 refine ⟨g,k,cap,_,e1,hg,⟨g,k,cap,z,rfl,by omega,hA,?_,hs1⟩,⟨g',k',cap',z',rfl,hk',hB,?_,hs2⟩,hb⟩
 ·rw [hv,hx,hy];rfl
 ·rw [hv',hx,hy];rfl
def OvNew (X Y:Int) (w:World) (e:Ending) (w':World):Prop :=
 ∃ g k cap z g' k' cap' z',e=.returned (.tuple #[.slice (some ⟨g,0,none⟩) k cap,.slice (some ⟨g',0,none⟩) k' cap'])/\k<=41000/\k'<=41000/\Num w' (some ⟨g,0,none⟩) k cap z/\Num w' (some ⟨g',0,none⟩) k' cap' z'/\val z k=X/Y/\val z' k'=X%Y/\Below w.heap.size w w'/\sizeL z' k'=k'/\w.heap.size<=g
theorem overf_any (ga gb s c t c':Nat) (x y:Nat->Int) (w:World) (hs:s<=20000) (ht2:t<=20000) (ht:2<=t) (h:Num w (some ⟨ga,0,none⟩) s c x) (h':Num w (some ⟨gb,0,none⟩) t c' y) (hxs:sizeL x s=s) (hys:sizeL y t=t) :
  Calls Tryz.prog 56 #[.slice (some ⟨ga,0,none⟩) s c,.slice (some ⟨gb,0,none⟩) t c'] w (OvNew (val x s) (val y t) w):=by
 have hx:=h.2.2.1
 have hy:=h'.2.2.1
 have HXS:Hid (sizeL x s=s):=hxs
 have c31:=size_num _ t c' y w (by omega) h'
 rw [hys] at c31
 have c20:=rlen_num _ s c x w (by omega) h
 have c20':=rlen_num _ t c' y w (by omega) h'
 have c45:=trim_any _ s c x w (by omega) h
 rw [hxs] at c45
 have hlx:0<=lenL x s/\lenL x s<=64*s:=by
  unfold lenL;rw [hxs]
  split
  ·omega
  ·have:=bitLen64 (x (s-1)).toNat;omega
 have hY0:0<val y t:=val_pos hy t (by omega) hys
 have hX0:=(val_bd hx s).1
 obtain ⟨Ly,hLy,hy1,hy2⟩:=len_bd hy (n:=t) (by omega)
 have hne:((t:Int) == 1)=false:=by simp;omega
 -- the number below the divisor times 2^(far + 1)
 have key:∀ F:Int,lenL x s-lenL y t=F->(F<0->val x s<val y t)/\(0<=F->val x s<val y t*2^(F.toNat+1)):=by
  intro F hF
  rcases Nat.eq_zero_or_pos s with h0 | h0
  ·subst h0
   have e0:val x 0=0:=rfl
   refine ⟨fun _=>by rw [e0];exact hY0,fun _=>by rw [e0];exact Int.mul_pos hY0 (p2_pos _)⟩
  ·obtain ⟨Lx,hLx,hx1,hx2⟩:=len_bd hx (n:=s) (by omega)
   have mono:∀ a b:Nat,a<=b->(2:Int)^a<=2^b:=fun a b hab=>by
    obtain ⟨k,rfl⟩:∃ k,b=a+k:=⟨b-a,by omega⟩
    rw [Int.pow_add]
    have:=p2_pos a
    have h3:=p2_pos k
    have:(2:Int)^a*1<=2^a*2^k:=Int.mul_le_mul_of_nonneg_left (by omega) (by omega)
    omega
   refine ⟨fun hneg=>?_,fun hpos=>?_⟩
   ·have:=mono (Lx+1) Ly (by omega);omega
   ·have e1:Lx+1=Ly+(F.toNat+1):=by omega
    have h5:2^Ly*2^(F.toNat+1)<=val y t*2^(F.toNat+1):=Int.mul_le_mul_of_nonneg_right hy1 (Int.le_of_lt (p2_pos _))
    rw [← Int.pow_add,← e1] at h5
    omega
 have hlyb:0<=lenL y t/\lenL y t<=64*t:=by
  unfold lenL;rw [hys]
  split
  ·omega
  ·have:=bitLen64 (y (t-1)).toNat;omega
 obtain ⟨F,hF⟩:∃ F,lenL x s-lenL y t=F:=⟨_,rfl⟩
 have hk:=key F hF
 have hFb:F<=1280000:=by omega
 generalize lenL x s=LX at *
 generalize lenL y t=LY at *
 have HXN:Hid (Num w (some ⟨ga,0,none⟩) s c x):=h
 have HYN:Hid (Num w (some ⟨gb,0,none⟩) t c' y):=h'
 clear key h h' hy1 hy2 hLy hx hy
 obtain ⟨X,hX⟩:∃ X,val x s=X:=⟨_,rfl⟩
 obtain ⟨Y,hY⟩:∃ Y,val y t=Y:=⟨_,rfl⟩
 rw [hX,hY] at hk
 rw [hX] at hX0
 rw [hY] at hY0
 rw [hX,hY]
 have HX:Hid (val x s=X):=hX
 have HY:Hid (val y t=Y):=hY
 clear hX hY
 by_cases hneg:F<0
 ·have hXY:=hk.1 hneg
  have HV:Hid (X/Y=0/\X%Y=X):=⟨Int.ediv_eq_zero_of_lt hX0 hXY,Int.emod_eq_of_lt hX0 hXY⟩
  have HF:Hid (LX-LY=F):=hF
  have hFn:LX-LY<0:=by omega
  clear hk hF
  go_enter Tryz.func56,Tryz.ntmps56
  go_wp2_with (first | (go_at_call 98;refine c31.mono ?_;rintro e w' ⟨rfl,rfl⟩) | (go_at_call_of 91 (Value.slice (some ⟨ga,0,none⟩) s c);refine c20.mono ?_;rintro e w' ⟨rfl,rfl⟩;clear c20) | (go_at_call_of 91 (Value.slice (some ⟨gb,0,none⟩) t c');refine c20'.mono ?_;rintro e w' ⟨rfl,rfl⟩) | (go_at_call 44;refine c45.mono ?_;rintro e w1 ⟨g1,p1,rfl,hN1,hB1⟩))
  go_ret2
  have hb:=below1 w1 (.cells #[] 22)
  exact ⟨w1.heap.size,0,0,fun _=>0,g1,s,p1,x,rfl,by omega,by omega,⟨Nat.le_refl _,by unfold maxLen;omega,fun _=>(by decide:(0:Int)<=0/\(0:Int)<=18446744073709551615),fun _ _=>rfl,Or.inr ⟨w1.heap.size,0,rfl,by simp,fun i hi=>by omega⟩⟩,hN1.next hb,by rw [HV.out.1];rfl,by rw [HV.out.2];exact HX.out,hB1.trans (hb.mono hB1.size),HXS.out,hB1.size⟩
 ·obtain ⟨N,rfl⟩:=Int.eq_ofNat_of_zero_le (show 0<=F by omega)
  have hXb:=hk.2 (by omega)
  rw [Int.toNat_natCast] at hXb
  obtain ⟨m0,hm0⟩:∃ m0:Nat,(N:Int)/64=m0:=⟨N/64,by omega⟩
  have hmk:=fun w=>make_any ((m0:Int)+1) (m0+1) (by omega) (by omega) w
  have hm0b:m0<=20000:=by omega
  have hm0n:m0=N/64:=by omega
  have HM0:Hid (m0=N/64):=hm0n
  clear hk hm0n
  go_enter Tryz.func56,Tryz.ntmps56
  go_wp2_with (first | (go_at_call 98;refine c31.mono ?_;rintro e w' ⟨rfl,rfl⟩) | (go_at_call_of 91 (Value.slice (some ⟨ga,0,none⟩) s c);refine c20.mono ?_;rintro e w' ⟨rfl,rfl⟩;clear c20) | (go_at_call_of 91 (Value.slice (some ⟨gb,0,none⟩) t c');refine c20'.mono ?_;rintro e w' ⟨rfl,rfl⟩) | (go_at_call 44;refine c45.mono ?_;rintro e w1 ⟨g1,p1,rfl,hN1,hB1⟩))
  have hb1:=below1 w1 (.cells (arrOf (fun _=>0) (m0+1)) 22)
  have hBq:=hB1.trans (hb1.mono hB1.size)
  have c49:=fleft_val gb 0 t c' N y _ (by omega) (by omega) (by omega) (HYN.out.next hBq)
  rw [Int.toNat_natCast,HY.out] at c49
  have hO0:=Own.new w1 (fun _=>0) (m0+1)
  have hg1lt:g1<w1.heap.size:=by
   rcases hN1.2.2.2.2 with ⟨h,_⟩ | ⟨b,off,h,hb,_⟩
   ·cases h
   ·cases h;exact hb
  have hsz:(w1.alloc (.cells (arrOf (fun _=>0) (m0+1)) 22)).heap.size=w1.heap.size+1:=by simp
  go_wp2_with (go_at_call 95;refine c49.mono ?_;rintro e w2 ⟨g2,k2,p2,z2,rfl,hk2,hN2,hv2,hb2,hf2,htr2⟩;clear c49 htr2)
  rw [hsz] at hf2 hb2
  have hB2:=hBq.trans (hb2.mono (by have:=hB1.size;omega))
  have hNr:=(hN1.next hb1).next (by rw [hsz];exact hb2)
  have hO2:=Below.own hb2 (by omega) hO0
  generalize hgq:w1.heap.size=gq at *
  have hBsz:=hB1.size
  have HGq:Hid (w.heap.size<=gq):=by show _<=_;omega
  have hgq2:gq<w2.heap.size:=by have:=hb2.size;omega
  clear hN1 hB1 hb1 hBq hO0 hb2 hsz hBsz hgq
  go_loopw [7,9,10,65] (fun rv dv iv u65 wr=>∃ (k g1 k1 p1 g2 k2 p2:Nat) (z1 z2 q:Nat->Int),k<=N+1/\iv=.int .i64 ((k:Int)-1)/\rv=.slice (some ⟨g1,0,none⟩) k1 p1/\dv=.slice (some ⟨g2,0,none⟩) k2 p2/\k1<=40002/\k2<=40002/\g1≠gq/\g2≠gq/\gq<wr.heap.size/\Num wr (some ⟨g1,0,none⟩) k1 p1 z1/\Num wr (some ⟨g2,0,none⟩) k2 p2 z2/\Own gq (m0+1) q wr/\Words q/\Hid (val q (m0+1)*Y+val z1 k1=X)/\Hid (val z1 k1<Y*2^k)/\Hid (0<k->val z2 k2=Y*2^(k-1))/\Hid (val q (m0+1)%2^k=0)/\Hid (sizeL z1 k1=k1)/\Below w.heap.size w wr) (fun _ _ iv _ _=>(intOf iv+1).toNat)
  case atStart=>exact ⟨N+1,g1,s,p1,g2,k2,p2,x,z2,fun _=>0,Nat.le_refl _,by go_num,rfl,rfl,by omega,by omega,by omega,by omega,hgq2,hNr,hN2,hO2,fun _=>(by decide:(0:Int)<=0/\(0:Int)<=18446744073709551615),by show _=_;rw [val_zero,Int.zero_mul,Int.zero_add,HX.out],by show _<_;rw [HX.out];exact hXb,fun _=>hv2,by show _=_;rw [val_zero];exact Int.zero_emod _,HXS,hB2⟩
  case round =>
   clear hNr hN2 hO2 hB2 hv2 hk2 hf2 hg1lt hgq2 hXb c31 c20' c45
   obtain ⟨k,g1,k1,p1,g2,k2,p2,z1,z2,q,hk,rfl,rfl,rfl,hk1,hk2,hg1,hg2,hgq,hN1,hN2,hO,hqw,hv,hlt,hd,hmod,htr,hB⟩:=hrel
   by_cases h0:k=0
   ·subst h0
    have hQN:=hO.num hqw 0 (m0+1) (m0+1) (by omega) (Nat.le_refl _) (by unfold maxLen;omega)
    have c45:=trimf_any _ (m0+1) (m0+1) _ _ (by omega) hQN
    have hle:=sizeL_le (segW q 0 (m0+1)) (m0+1)
    have e1:val (segW q 0 (m0+1)) (sizeL (segW q 0 (m0+1)) (m0+1))=val q (m0+1):=by
     rw [val_bare];exact val_congr _ fun i hi=>by rw [segW_lt _ _ _ i hi,Nat.zero_add]
    have HFIN:Hid (val (segW q 0 (m0+1)) (sizeL (segW q 0 (m0+1)) (m0+1))=X/Y/\val z1 k1=X%Y):=by
     have h1:=hv.out
     have h2:=hlt.out
     rw [Int.pow_zero,Int.mul_one] at h2
     have:=(Int.ediv_emod_unique hY0 (a:=X) (r:=val z1 k1) (q:=val q (m0+1))).2 ⟨by rw [Int.mul_comm];omega,(val_bd hN1.2.2.1 k1).1,h2⟩
     exact ⟨by rw [e1];exact this.1.symm,this.2.symm⟩
    have HN1:Hid (Num wr (some ⟨g1,0,none⟩) k1 p1 z1):=hN1
    generalize segW q 0 (m0+1)=qz at *
    generalize sizeL qz (m0+1)=kq at *
    clear hQN hO hqw hv hlt hd hmod hN1 hN2 e1
    go_wp2_with (go_at_call 44;refine c45.mono ?_;rintro e w3 ⟨g3,p3,rfl,hN3,hB3,hG3⟩)
    go_ret2
    exact ⟨g3,kq,p3,qz,g1,k1,p1,z1,rfl,by omega,by omega,hN3,HN1.out.next hB3,HFIN.out.1,HFIN.out.2,hB.trans (hB3.mono hB.size),htr.out,Nat.le_trans hB.size hG3⟩
   ·obtain ⟨j,rfl⟩:∃ j,k=j+1:=⟨k-1,by omega⟩
    have ej:((j+1:Nat):Int)-1=j:=by omega
    rw [ej]
    have hdv:val z2 k2=Y*2^j:=hd.out (by omega)
    have hT:=p2_pos j
    have hdp:0<val z2 k2:=by rw [hdv];exact Int.mul_pos hY0 hT
    have hk2p:=pos_len hdp
    have c16:=rcmp_any _ _ k1 p1 k2 p2 z1 z2 wr (by omega) (by omega) hN1 hN2
    have HLT:Hid (val z1 k1<Y*2^j*2):=by show _<_;have:=hlt.out;rw [Int.pow_succ,← Int.mul_assoc] at this;exact this
    have HMOD:Hid (val q (m0+1)%(2^j*2)=0):=by show _=_;have:=hmod.out;rw [Int.pow_succ] at this;exact this
    have HMODF:Hid (val q (m0+1)%2^(j+1)=0):=hmod
    have HN':Hid (∀ (z':Nat->Int) (k':Nat),(∀ V,val z2 k2=V*2->val z' k'=V)->0<j->val z' k'=Y*2^(j-1)):=fun z' k' hh hj=>hh _ (by rw [hdv,Int.mul_assoc,← Int.pow_succ];congr 2;omega)
    have HJ:Hid (j<=N):=by show _<=_;omega
    clear ej hd hlt hmod
    by_cases hge:Y*2^j<=val z1 k1
    ·have hsg:0<=sgn (val z1 k1) (val z2 k2):=by unfold sgn;rw [if_neg (by omega)];split <;> omega
     have c37:=frless_val _ _ k1 p1 k2 p2 z1 z2 wr (by omega) (by omega) hN1 hN2 (by rw [hdv];exact hge)
     generalize sgn (val z1 k1) (val z2 k2)=sg at *
     obtain ⟨m,hmj⟩:∃ m:Nat,(j:Int)/64=m:=⟨j/64,by omega⟩
     obtain ⟨r,hrj⟩:∃ r:Nat,(j:Int)%64=r:=⟨j%64,by omega⟩
     have hr64:r<64:=by omega
     have hjm:j=64*m+r:=by omega
     have hmm:m<m0+1:=by have:=HJ.out;have:=HM0.out;omega
     have hmi:(m:Int)<((m0+1:Nat):Int):=by omega
     have hob:=or_bit (hqw m) hr64 (word_mod hqw hmm (show r+1<=64 by omega) (by have:=HMODF.out;rw [hjm] at this;exact this))
     have HOR:Hid (bits BinOp.or IntKind.u64 (q m) (2^r)=q m+2^r):=hob.1
     have hpr:=p2_pos r
     have hpl:=p2_le hr64
     have HQ2:Hid (val (fun i=>if i=m then q m+2^r else q i) (m0+1)=val q (m0+1)+2^j):=by
      show _=_
      rw [val_set q m (q m+2^r) (m0+1) hmm]
      have e9:(2:Int)^j=2^r*18446744073709551616^m:=by rw [p64,← hjm]
      rw [e9];congr 1;congr 1;omega
     have HQW2:Hid (Words (fun i=>if i=m then q m+2^r else q i)):=upd_words hqw ⟨by have:=hqw m;omega,hob.2⟩
     have bq:=hqw m
     have HO:Hid (Own gq (m0+1) q wr):=hO
     have HN2:Hid (Num wr (some ⟨g2,0,none⟩) k2 p2 z2):=hN2
     have hob2:=hob.2
     have HD:Hid (val z2 k2=Y*2^j):=hdv
     clear hN1 hN2 hO hqw hob hjm HMODF
     go_wp2_with (first | (go_at_call 42;refine c16.mono ?_;rintro e w' ⟨rfl,rfl⟩) | (go_at_call 89;refine c37.mono ?_;rintro e w3 ⟨g3,k3,p3,z3,rfl,hk3,hN3,hv3,hb3,hf3,htr3⟩;have HT3:Hid (sizeL z3 k3=k3):=htr3;clear htr3;have hO3:=Below.own hb3 hgq HO.out;have hcq:=hO3.cell m hmm;have hfq:=hO3.frozen m))
     have hU3:Upd gq w3 (w3.setCell ⟨gq,m,none⟩ (.int .u64 (bits BinOp.or IntKind.u64 (q m) (2^r)))):=(Upd.refl gq w3).set m _
     have hO4:=hO3.set m (q m+2^r)
     rw [← HOR.out] at hO4
     have hN24:=hU3.num hg2 (HN2.out.next hb3)
     have hN34:=hU3.num (by omega) hN3
     have hB3:=(hB.trans (hb3.mono hB.size)).trans (hU3.below HGq.out)
     have hsz3:w3.heap.size<=(w3.setCell ⟨gq,m,none⟩ (.int .u64 (bits BinOp.or IntKind.u64 (q m) (2^r)))).heap.size:=Nat.le_of_eq hU3.size.symm
     have hgq3:=hb3.size
     have c51:=half_any g2 k2 p2 z2 _ hk2p (by omega) hN24
     clear hO3 hN3 hN24 hU3 hb3
     generalize w3.setCell ⟨gq,m,none⟩ (.int .u64 (bits BinOp.or IntKind.u64 (q m) (2^r)))=wS at *
     go_wp2_with (go_at_call 58;refine c51.mono ?_;rintro e w4 ⟨g4,k4,p4,bb,z4,rfl,hk4,hN4,hhf,hb4,hf4⟩)
     have hgS:gq<wS.heap.size:=by omega
     go_roundw
     case rel =>
      refine ⟨j,g3,k3,p3,g4,k4,p4,z3,z4,fun i=>if i=m then q m+2^r else q i,by have:=HJ.out;omega,by go_num,rfl,rfl,by omega,by omega,by omega,by omega,by have:=hb4.size;omega,hN34.next hb4,hN4,?_,HQW2.out,?_,?_,fun hj=>HN'.out z4 k4 hhf hj,?_,HT3,hB3.trans (hb4.mono hB3.size)⟩
      ·have:=Below.own hb4 hgS hO4
       rw [HOR.out] at this
       exact this
      ·show _=_
       rw [HQ2.out,hv3,HD.out,Int.add_mul,Int.mul_comm (2^j) Y]
       have:=hv.out
       omega
      ·show _<_
       rw [hv3,HD.out]
       have:=HLT.out
       omega
      ·show _=_
       rw [HQ2.out,Int.add_emod_right]
       exact mod_half HMOD.out
     case measure=>simp [intOf]
    ·have hs1:sgn (val z1 k1) (val z2 k2)=-1:=by unfold sgn;rw [if_pos (by omega)]
     rw [hs1] at c16
     have c51:=half_any g2 k2 p2 z2 wr hk2p (by omega) hN2
     have HN1:Hid (Num wr (some ⟨g1,0,none⟩) k1 p1 z1):=hN1
     have HO:Hid (Own gq (m0+1) q wr):=hO
     have HQW:Hid (Words q):=hqw
     clear hN1 hN2 hO hqw hs1
     go_wp2_with (first | (go_at_call 42;refine c16.mono ?_;rintro e w' ⟨rfl,rfl⟩) | (go_at_call 58;refine c51.mono ?_;rintro e w4 ⟨g4,k4,p4,bb,z4,rfl,hk4,hN4,hhf,hb4,hf4⟩))
     go_roundw
     case rel=>exact ⟨j,g1,k1,p1,g4,k4,p4,z1,z4,q,by have:=HJ.out;omega,by go_num,rfl,rfl,hk1,by omega,hg1,by omega,by have:=hb4.size;omega,HN1.out.next hb4,hN4,Below.own hb4 hgq HO.out,HQW.out,hv,by show _<_;omega,fun hj=>HN'.out z4 k4 hhf hj,mod_half HMOD.out,htr,hB.trans (hb4.mono hB.size)⟩
     case measure=>simp [intOf]
theorem rightf_p (b off n c q r:Nat) (s:Int) (x:Nat->Int) (w:World) (hn:n<4000000000) (hq0:q<100000) (hr0:r<64) (hrp:0<r) (hq:s/64=q) (hr:s%64=r) (hs:0<=s) (h:Num w (some ⟨b,off,none⟩) n c x) :
  Calls Tryz.prog 58 #[.slice (some ⟨b,off,none⟩) n c,.int .i64 s] w fun e w'=>∃ g k cap z,e=.returned (.tuple #[.slice (some ⟨g,0,none⟩) k cap,.bool z])/\k<=n/\Num w' (some ⟨g,0,none⟩) k cap (shrW x q r)/\Below w.heap.size w w'/\w.heap.size<=g:=by
 have hx:=h.2.2.1
 have zx:=h.2.2.2.1
 have hc:b<w.heap.size/\∀ i,i<n->w.cell? ⟨b,off+i,none⟩=some (.int .u64 (x i)):=by
  rcases h.2.2.2.2 with ⟨h,_⟩ | ⟨b',off',h,hbs,hc⟩
  ·cases h
  ·cases h;exact ⟨hbs,hc⟩
 obtain ⟨hbs,hc⟩:=hc
 have hcap:=h.1
 have hs6:s<6400064:=by omega
 obtain ⟨i0,hi,hz0,hz1,hz2⟩:=info_parts Tryz.info22
 have HX:Hid (Num w (some ⟨b,off,none⟩) n c x):=h
 clear h
 go_enter Tryz.func58,Tryz.ntmps58
 go_wp2
 go_loop [6,7,13] (fun g u7 i=>∃ (k:Nat) (z:Bool),k<=n/\i=.int .i64 k/\g=.bool z) (fun _ _ i=>n-(intOf i).toNat)
 case atStart=>exact ⟨0,false,Nat.zero_le _,rfl,rfl⟩
 case round =>
  obtain ⟨k,z,hk,rfl,rfl⟩:=hrel
  by_cases h8:k<n
  ·have h8i:(k:Int)<n:=by omega
   by_cases hkq:k<q
   ·have bx:=hx k
    have hcx:=hc k h8
    clear hc hx zx hi hz0 hz1 hz2
    have hkq':(k:Int)<q:=by omega
    by_cases hz:x k=0
    ·have hz':(x k != 0)=false:=by simp [hz]
     have hne:((k:Int) == q)=false:=by simp;omega
     go_wp2
     go_round
     case rel=>exact ⟨k+1,z,by omega,by go_num,rfl⟩
     case measure=>simp [intOf];omega
    ·have hz':(x k != 0)=true:=by simp [hz]
     go_wp2
     go_round
     case rel=>exact ⟨k+1,true,by omega,by go_num,rfl⟩
     case measure=>simp [intOf];omega
   ·have hkq':¬ (k:Int)<q:=by omega
    by_cases hke:k=q
    ·subst hke
     have bx:=hx k
     have hcx:=hc k h8
     clear hc hx zx hi hz0 hz1 hz2
     go_wp2
     all_goals
      go_round
      case rel=>first | exact ⟨k+1,true,by omega,by go_num,rfl⟩ | exact ⟨k+1,z,by omega,by go_num,rfl⟩
      case measure=>simp [intOf];omega
    ·have hcx:=hc k h8
     clear hc hx zx hi hz0 hz1 hz2
     have hne:((k:Int) == q)=false:=by simp;omega
     go_wp2
     go_round
     case rel=>exact ⟨k+1,z,by omega,by go_num,rfl⟩
     case measure=>simp [intOf];omega
  ·obtain rfl:k=n:=by omega
   go_wp2
   go_loopw [8,9,10] (fun v i u10 wr=>∃ (j:Nat) (ao:Option Addr) (cp:Nat),j<=k-q/\i=.int .i64 ((q:Int)+j)/\v=.slice ao j cp/\wr.ownsRow w.heap.size 22 1 (.slice ao j cp) j (wl (shrW x q r) j)/\Below w.heap.size w wr) (fun _ i _ _=>k+1-(intOf i).toNat)
   case atStart=>exact ⟨0,none,0,Nat.zero_le _,by go_num,rfl,World.ownsRow_nil _ _ _ _,Below.refl _ _⟩
   case round =>
    obtain ⟨j,ao,cp,hj,rfl,rfl,hown,hB⟩:=hrel
    by_cases hlt:q+j<k
    ·have hlt':(q:Int)+j<k:=by omega
     have bx:=hx (q+j)
     have b_y:=hx (q+j+1)
     have e1:((q:Int)+j).toNat=q+j:=by omega
     have hcx:wr.cell? ⟨b,off+(q+j),none⟩=some (.int .u64 (x (q+j))):=(hB.cell (p:=⟨b,off+(q+j),none⟩) hbs).trans (hc (q+j) hlt)
     have HW:Hid (CQ 46 #[.slice (some ⟨b,off,none⟩) k c,.int .i64 ((q:Int)+j+1)] wr (.int .u64 (x (q+j+1)))):=by
      have:=word_any (some ⟨b,off,none⟩) k c (q+j+1) x wr (HX.out.next hB)
      rw [show ((q+j+1:Nat):Int)=(q:Int)+j+1 by omega] at this
      exact this.mono fun _ _ h=>⟨h.1,h.2.symm⟩
     have hbw:=hB.size
     have HO:Hid (wr.ownsRow w.heap.size 22 1 (.slice ao j cp) j (wl (shrW x q r) j)):=hown
     have HVAL:Hid (shrW x q r j=bits BinOp.or IntKind.u64 (x (q+j)/2^r) (IntKind.u64.wrap (x (q+j+1)*2^(64-r)))):=by show _=_;unfold shrW;rw [if_neg (by omega)];rfl
     have HOWN:(wr.alloc (.cells #[.int .u64 (bits BinOp.or IntKind.u64 (x (q+j)/2^r) (IntKind.u64.wrap (x (q+j+1)*2^(64-r))))] 22)).ownsRow w.heap.size 22 1 (.slice ao j cp) j (wl (shrW x q r) j):=hown.alloc _
     have HNEWS:∀ (p:Nat) (u:Value),[Value.int .u64 (bits BinOp.or IntKind.u64 (x (q+j)/2^r) (IntKind.u64.wrap (x (q+j+1)*2^(64-r))))][p]?=some u->(wr.alloc (.cells #[.int .u64 (bits BinOp.or IntKind.u64 (x (q+j)/2^r) (IntKind.u64.wrap (x (q+j+1)*2^(64-r))))] 22)).cell? ((⟨wr.heap.size,0,none⟩:Addr).add p)=some u:=by
      intro p u hp
      match p,hp with
      | 0,hp=>simp at hp;subst hp;simp [Addr.add]
     have HONE:∀ u ∈ [Value.int .u64 (bits BinOp.or IntKind.u64 (x (q+j)/2^r) (IntKind.u64.wrap (x (q+j+1)*2^(64-r))))],u.oneCell'=true:=by
      intro u hu;simp at hu;subst hu;rfl
     clear hc hx zx hown
     go_wp2_with (first | (at_builtin;refine wpList_append_lies _ rfl (.tmp 77) (.tmp 79) 48 rfl w.heap.size 22 i0 (.int .u64 0) 1 8 Tryz.underlying48 hi hz0 hz1 hz2 rfl (by decide) (.slice ao j cp) j (wl (shrW x q r) j) rfl HOWN ⟨wr.heap.size,0,none⟩ 1 1 [Value.int .u64 (bits BinOp.or IntKind.u64 (x (q+j)/2^r) (IntKind.u64.wrap (x (q+j+1)*2^(64-r))))] rfl rfl HNEWS HONE (by omega) (by unfold maxLen;omega) (by omega) (by simp;omega) (wr.heap.size+1) (by simp) ?_;intro g cap w1 hown1 hgrow hat hlt1;clear HOWN HNEWS HONE) | (go_at_call 46;refine HW.out.mono ?_;rintro e w' ⟨rfl,rfl⟩))
     have hown2:w1.ownsRow w.heap.size 22 1 (.slice (some ⟨g,0,none⟩) (j+1) cap) (j+1) (wl (shrW x q r) (j+1)):=by
      rw [← HVAL.out,wl_succ] at hown1;exact hown1
     have HB2:Below w.heap.size w w1:=(hB.alloc hbw _).grown hgrow (by simp;omega) (by
      intro p hp
      rcases ao with _ | ⟨bb,oo,sp⟩
      ·cases hp
      ·cases hp
       obtain ⟨_,h1⟩:=HO.out
       rcases h1 with ⟨h1,_⟩ | ⟨g',_,_,h1,h2,_⟩
       ·cases h1
       ·cases h1;exact h2)
     clear hown1 hgrow
     go_wp2
     go_roundw
     case rel=>exact ⟨j+1,some ⟨g,0,none⟩,cap,by omega,by go_num,rfl,hown2,HB2⟩
     case measure=>simp [intOf];omega
    ·have HZ:∀ i,j<=i->shrW x q r i=0:=fun i hi=>shrW_zero zx q r i (by omega)
     have hT:=trimf_any ao j cp _ wr (by omega) (num_of_owns' (shrW_words hx q r) HZ hown)
     have hle:=sizeL_le (shrW x q r) j
     have hlt':¬ (q:Int)+j<k:=by omega
     clear hc hx zx hown HZ
     go_wp2_with (go_at_call 44;refine hT.mono ?_;rintro e w1 ⟨g,cap,rfl,hN,hB1,hG1⟩)
     go_ret2
     exact ⟨g,_,cap,_,rfl,by omega,hN,hB.trans (hB1.mono hB.size),Nat.le_trans hB.size hG1⟩
theorem roverf_nt {K N D:Nat} {vn vd:Value} {w:World} (hK:K<=20000) (h:NT K N vn w) (h':NT K D vd w) (hD:D≠0) :
  Calls Tryz.prog 56 #[vn,vd] w fun e w'=>∃ g k cap r,e=.returned (.tuple #[.slice (some ⟨g,0,none⟩) k cap,r])/\w.heap.size<=g/\NV 41000 (N/D) (.slice (some ⟨g,0,none⟩) k cap) w'/\NT 41000 (N%D) r w'/\Below w.heap.size w w':=by
 obtain ⟨ga,s,c,x,rfl,hs,hN,hx,hxs⟩:=h
 obtain ⟨gb,t,c',y,rfl,ht,hN',hy,hys⟩:=h'
 have ht0:t≠0:=by
  intro e;subst e
  have:val y 0=0:=rfl
  omega
 by_cases ht1:t=1
 ·subst ht1
  refine (overf_one ga gb s c c' x y w (by omega) hN hN' hys).mono ?_
  rintro e w' ⟨g,k,cap,z,g',k',cap',z',e1,hk,hk',hA,hB,hv,hs1,hv',hs2,hb,hg⟩
  refine ⟨g,k,cap,_,e1,hg,⟨g,k,cap,z,rfl,by omega,hA,?_⟩,⟨g',k',cap',z',rfl,by omega,hB,?_,hs2⟩,hb⟩
  ·rw [hv,hx,hy];rfl
  ·rw [hv',hx,hy];rfl
 ·refine (overf_any ga gb s c t c' x y w (by omega) (by omega) (by omega) hN hN' hxs hys).mono ?_
  rintro e w' ⟨g,k,cap,z,g',k',cap',z',e1,hk,hk',hA,hB,hv,hv',hb,htr,hg⟩
  refine ⟨g,k,cap,_,e1,hg,⟨g,k,cap,z,rfl,hk,hA,?_⟩,⟨g',k',cap',z',rfl,hk',hB,?_,htr⟩,hb⟩
  ·rw [hv,hx,hy];rfl
  ·rw [hv',hx,hy];rfl
theorem NV.updV {K V g b k c:Nat} {w w':World} (h:NV K V (.slice (some ⟨b,0,none⟩) k c) w) (hne:b≠g) (hU:Upd g w w'):NV K V (.slice (some ⟨b,0,none⟩) k c) w':=by
 obtain ⟨g',k',c',z,e,hk,hN,hv⟩:=h
 cases e
 exact ⟨b,k,c,z,rfl,hk,hU.num hne hN,hv⟩
theorem rrightf_nv {K A:Nat} {v:Value} {w:World} (s:Nat) (hK:K<1000) (hs:s<=600) (hs6:s%64≠0) (h:NV K A v w) :
  Calls Tryz.prog 58 #[v,.int .i64 (s:Int)] w fun e w'=>∃ g k cap b,e=.returned (.tuple #[.slice (some ⟨g,0,none⟩) k cap,.bool b])/\w.heap.size<=g/\NV K (A/2^s) (.slice (some ⟨g,0,none⟩) k cap) w'/\Below w.heap.size w w':=by
 obtain ⟨g,k,cap,z,rfl,hk,hN,hv⟩:=h
 obtain ⟨q,hq⟩:∃ q:Nat,(s:Int)/64=q:=⟨((s:Int)/64).toNat,by omega⟩
 obtain ⟨r,hr⟩:∃ r:Nat,(s:Int)%64=r:=⟨((s:Int)%64).toNat,by omega⟩
 have hsn:s=64*q+r:=by omega
 have hr6:r<64:=by omega
 refine (rightf_p g 0 k cap q r s z w (by omega) (by omega) hr6 (by omega) hq hr (by omega) hN).mono ?_
 rintro e w' ⟨g',k',cap',b,rfl,hk',hN',hb,hg⟩
 refine ⟨g',k',cap',b,rfl,hg,⟨g',k',cap',_,rfl,by omega,hN',?_⟩,hb⟩
 rw [← val_more hN'.2.2.2.1 k hk',hsn]
 exact shrW_val hN.2.2.1 hN.2.2.2.1 hr6 k (Nat.le_refl _) hv
theorem dl_bits {t0 x t1 y t2 z:Int} (h0:0<=t0/\t0<4) (h1:0<=x/\x<2) (h2:0<=t1/\t1<4) (h3:0<=y/\y<2) (h4:0<=t2/\t2<8) (h5:0<=z/\z<2) :
  bits .or .i64 (bits .or .i64 (bits .or .i64 (bits .or .i64 (bits .or .i64 (t0*256) (x*128)) (t1*32)) (y*16)) (t2*2)) z=t0*256+x*128+t1*32+y*16+t2*2+z:=by
 obtain ⟨a,rfl⟩:=Int.eq_ofNat_of_zero_le h0.1
 obtain ⟨b,rfl⟩:=Int.eq_ofNat_of_zero_le h1.1
 obtain ⟨c,rfl⟩:=Int.eq_ofNat_of_zero_le h2.1
 obtain ⟨d,rfl⟩:=Int.eq_ofNat_of_zero_le h3.1
 obtain ⟨e,rfl⟩:=Int.eq_ofNat_of_zero_le h4.1
 obtain ⟨f,rfl⟩:=Int.eq_ofNat_of_zero_le h5.1
 have h:=upTo_all (f:=fun i=>decide (bits .or .i64 (bits .or .i64 (bits .or .i64 (bits .or .i64 (bits .or .i64 (((i/256:Nat):Int)*256) (((i/128%2:Nat):Int)*128)) (((i/32%4:Nat):Int)*32)) (((i/16%2:Nat):Int)*16)) (((i/2%8:Nat):Int)*2)) ((i%2:Nat):Int)=(i:Int))) (m:=1024) (by decide +kernel) (a*256+b*128+c*32+d*16+e*2+f) (by omega)
 have h':=of_decide_eq_true h
 obtain ⟨i,hi⟩:∃ i,i=a*256+b*128+c*32+d*16+e*2+f:=⟨_,rfl⟩
 rw [← hi] at h'
 rw [show i/256=a by omega,show i/128%2=b by omega,show i/32%4=c by omega,show i/16%2=d by omega,show i/2%8=e by omega,show i%2=f by omega] at h'
 rw [h',hi]
 omega
structure Thr (w:World) (g:Nat) (x y z:Int):Prop where
 c0:w.cell? ⟨g,0,none⟩=some (.int .i64 x)
 c1:w.cell? ⟨g,1,none⟩=some (.int .i64 y)
 c2:w.cell? ⟨g,2,none⟩=some (.int .i64 z)
theorem enc_0 (n a b c g:Nat) (w:World) (hn:n<1000) (ha:n/100=a) (hb:n/10%10=b) (hc:n%10=c) (hg:a/8*4+b/8*2+c/8=g) (R:Int)
  (hR:((((a:Int)/2%4):Int)*256+(a:Int)%2*128+((b:Int)/2%4)*32+(b:Int)%2*16+((c:Int)/2%4)*2+(c:Int)%2)=R)
  (c21:∀ W,CB 137 #[.int .i64 (g:Int)] W (.agg #[.int .i64 10,.int .i64 11,.int .i64 22])) :
  CB 97 #[.int .i64 (n:Int)] w (.tuple #[.int .i64 R,.int .i64 0]):=by
 have h0:¬ (n:Int)<0:=by omega
 have h9:¬ 999<(n:Int):=by omega
 have ea:(n:Int)/100=(a:Int):=by omega
 have eb:(n:Int)/10%10=(b:Int):=by omega
 have ec:(n:Int)%10=(c:Int):=by omega
 have eg:(a:Int)/8*4+(b:Int)/8*2+(c:Int)/8=(g:Int):=by omega
 have la:(a:Int)/8<=1:=by omega
 have lb:(b:Int)/8<=1:=by omega
 go_enter Tryz.func97,Tryz.ntmps97
 go_wp2_with (go_at_call 137;refine (c21 _).mono ?_;rintro r w1 ⟨rfl,hb1⟩;obtain ⟨_,_,_,_,hA1,_⟩:=wz w hb1;clear hb1)
 go_loopw [39] (fun t wr=>∃ i:Nat,i<=3/\t=.int .i64 i/\Thr wr w.heap.size a b c/\Thr wr w1.heap.size 10 11 22/\Thr wr (w1.heap.size+1) (if 0<i then ((a:Int)/2%4) else 0) (if 1<i then ((b:Int)/2%4) else 0) (if 2<i then ((c:Int)/2%4) else 0)/\(∀ j,wr.frozen? ⟨w1.heap.size+1,j,none⟩=false)/\Below w.heap.size w wr/\w1.heap.size+1<wr.heap.size) (fun t _=>3-(intOf t).toNat)
 case atStart=>exact ⟨0,by decide,rfl,⟨by go_simp,by go_simp,by go_simp⟩,⟨by go_simp,by go_simp,by go_simp⟩,⟨by go_simp,by go_simp,by go_simp⟩,fun j=>by go_simp,bgo,by simp⟩
 case round =>
  obtain ⟨i,hi,rfl,⟨p0,p1,p2⟩,⟨q0,q1,q2⟩,⟨s0,s1,s2⟩,hfr,hbw,hsz⟩:=hrel
  have hl0:w.heap.size<wr.heap.size:=by omega
  have hl1:w1.heap.size<wr.heap.size:=by omega
  have hne1:¬ w.heap.size=w1.heap.size+1:=by omega
  have hne2:¬ w1.heap.size=w1.heap.size+1:=by omega
  have hi':i=0∨i=1∨i=2∨i=3:=by omega
  rcases hi' with rfl | rfl | rfl | rfl
  ·go_wp2
   go_roundw
   case rel=>exact ⟨1,by omega,by go_num,⟨by go_simp,by go_simp,by go_simp⟩,⟨by go_simp,by go_simp,by go_simp⟩,⟨by go_simp,by go_simp,by go_simp⟩,fun j=>by go_simp,bgo,by simpa using hsz⟩
   case measure=>simp [intOf]
  ·go_wp2
   go_roundw
   case rel=>exact ⟨2,by omega,by go_num,⟨by go_simp,by go_simp,by go_simp⟩,⟨by go_simp,by go_simp,by go_simp⟩,⟨by go_simp,by go_simp,by go_simp⟩,fun j=>by go_simp,bgo,by simpa using hsz⟩
   case measure=>simp [intOf]
  ·go_wp2
   go_roundw
   case rel=>exact ⟨3,by omega,by go_num,⟨by go_simp,by go_simp,by go_simp⟩,⟨by go_simp,by go_simp,by go_simp⟩,⟨by go_simp,by go_simp,by go_simp⟩,fun j=>by go_simp,bgo,by simpa using hsz⟩
   case measure=>simp [intOf]
  ·go_wp2
   exact bodyPost_ret (v:=.tuple #[.int .i64 R,.int .i64 0]) (by
    simp only [results,Tryz.results97]
    go_simp
    rw [← hR]
    exact dl_bits (by omega) (by omega) (by omega) (by omega) (by omega) (by omega)) rfl ⟨rfl,hbw⟩
theorem enc_1 (n a b c g:Nat) (w:World) (hn:n<1000) (ha:n/100=a) (hb:n/10%10=b) (hc:n%10=c) (hg:a/8*4+b/8*2+c/8=g) (R:Int) (u2:Int) (hu2:0<=u2/\u2<8) (hv2:¬ 10<=u2)
  (hR:((((a:Int)/2%4):Int)*256+(a:Int)%2*128+((b:Int)/2%4)*32+(b:Int)%2*16+u2*2+(c:Int)%2)=R)
  (c21:∀ W,CB 137 #[.int .i64 (g:Int)] W (.agg #[.int .i64 10,.int .i64 11,.int .i64 u2])) :
  CB 97 #[.int .i64 (n:Int)] w (.tuple #[.int .i64 R,.int .i64 0]):=by
 have h0:¬ (n:Int)<0:=by omega
 have h9:¬ 999<(n:Int):=by omega
 have ea:(n:Int)/100=(a:Int):=by omega
 have eb:(n:Int)/10%10=(b:Int):=by omega
 have ec:(n:Int)%10=(c:Int):=by omega
 have eg:(a:Int)/8*4+(b:Int)/8*2+(c:Int)/8=(g:Int):=by omega
 have la:(a:Int)/8<=1:=by omega
 have lb:(b:Int)/8<=1:=by omega
 go_enter Tryz.func97,Tryz.ntmps97
 go_wp2_with (go_at_call 137;refine (c21 _).mono ?_;rintro r w1 ⟨rfl,hb1⟩;obtain ⟨_,_,_,_,hA1,_⟩:=wz w hb1;clear hb1)
 go_loopw [39] (fun t wr=>∃ i:Nat,i<=3/\t=.int .i64 i/\Thr wr w.heap.size a b c/\Thr wr w1.heap.size 10 11 u2/\Thr wr (w1.heap.size+1) (if 0<i then ((a:Int)/2%4) else 0) (if 1<i then ((b:Int)/2%4) else 0) (if 2<i then u2 else 0)/\(∀ j,wr.frozen? ⟨w1.heap.size+1,j,none⟩=false)/\Below w.heap.size w wr/\w1.heap.size+1<wr.heap.size) (fun t _=>3-(intOf t).toNat)
 case atStart=>exact ⟨0,by decide,rfl,⟨by go_simp,by go_simp,by go_simp⟩,⟨by go_simp,by go_simp,by go_simp⟩,⟨by go_simp,by go_simp,by go_simp⟩,fun j=>by go_simp,bgo,by simp⟩
 case round =>
  obtain ⟨i,hi,rfl,⟨p0,p1,p2⟩,⟨q0,q1,q2⟩,⟨s0,s1,s2⟩,hfr,hbw,hsz⟩:=hrel
  have hl0:w.heap.size<wr.heap.size:=by omega
  have hl1:w1.heap.size<wr.heap.size:=by omega
  have hne1:¬ w.heap.size=w1.heap.size+1:=by omega
  have hne2:¬ w1.heap.size=w1.heap.size+1:=by omega
  have hi':i=0∨i=1∨i=2∨i=3:=by omega
  rcases hi' with rfl | rfl | rfl | rfl
  ·go_wp2
   go_roundw
   case rel=>exact ⟨1,by omega,by go_num,⟨by go_simp,by go_simp,by go_simp⟩,⟨by go_simp,by go_simp,by go_simp⟩,⟨by go_simp,by go_simp,by go_simp⟩,fun j=>by go_simp,bgo,by simpa using hsz⟩
   case measure=>simp [intOf]
  ·go_wp2
   go_roundw
   case rel=>exact ⟨2,by omega,by go_num,⟨by go_simp,by go_simp,by go_simp⟩,⟨by go_simp,by go_simp,by go_simp⟩,⟨by go_simp,by go_simp,by go_simp⟩,fun j=>by go_simp,bgo,by simpa using hsz⟩
   case measure=>simp [intOf]
  ·go_wp2
   go_roundw
   case rel=>exact ⟨3,by omega,by go_num,⟨by go_simp,by go_simp,by go_simp⟩,⟨by go_simp,by go_simp,by go_simp⟩,⟨by go_simp,by go_simp,by go_simp⟩,fun j=>by go_simp,bgo,by simpa using hsz⟩
   case measure=>simp [intOf]
  ·go_wp2
   exact bodyPost_ret (v:=.tuple #[.int .i64 R,.int .i64 0]) (by
    simp only [results,Tryz.results97]
    go_simp
    rw [← hR]
    exact dl_bits (by omega) (by omega) (by omega) (by omega) (by omega) (by omega)) rfl ⟨rfl,hbw⟩
theorem enc_2 (n a b c g:Nat) (w:World) (hn:n<1000) (ha:n/100=a) (hb:n/10%10=b) (hc:n%10=c) (hg:a/8*4+b/8*2+c/8=g) (R:Int) (u2:Int) (hu2:0<=u2/\u2<8) (hv2:¬ 10<=u2)
  (hR:((((a:Int)/2%4):Int)*256+(a:Int)%2*128+((c:Int)/2%4)*32+(b:Int)%2*16+u2*2+(c:Int)%2)=R)
  (c21:∀ W,CB 137 #[.int .i64 (g:Int)] W (.agg #[.int .i64 10,.int .i64 12,.int .i64 u2])) :
  CB 97 #[.int .i64 (n:Int)] w (.tuple #[.int .i64 R,.int .i64 0]):=by
 have h0:¬ (n:Int)<0:=by omega
 have h9:¬ 999<(n:Int):=by omega
 have ea:(n:Int)/100=(a:Int):=by omega
 have eb:(n:Int)/10%10=(b:Int):=by omega
 have ec:(n:Int)%10=(c:Int):=by omega
 have eg:(a:Int)/8*4+(b:Int)/8*2+(c:Int)/8=(g:Int):=by omega
 have la:(a:Int)/8<=1:=by omega
 have lb:(b:Int)/8<=1:=by omega
 go_enter Tryz.func97,Tryz.ntmps97
 go_wp2_with (go_at_call 137;refine (c21 _).mono ?_;rintro r w1 ⟨rfl,hb1⟩;obtain ⟨_,_,_,_,hA1,_⟩:=wz w hb1;clear hb1)
 go_loopw [39] (fun t wr=>∃ i:Nat,i<=3/\t=.int .i64 i/\Thr wr w.heap.size a b c/\Thr wr w1.heap.size 10 12 u2/\Thr wr (w1.heap.size+1) (if 0<i then ((a:Int)/2%4) else 0) (if 1<i then ((c:Int)/2%4) else 0) (if 2<i then u2 else 0)/\(∀ j,wr.frozen? ⟨w1.heap.size+1,j,none⟩=false)/\Below w.heap.size w wr/\w1.heap.size+1<wr.heap.size) (fun t _=>3-(intOf t).toNat)
 case atStart=>exact ⟨0,by decide,rfl,⟨by go_simp,by go_simp,by go_simp⟩,⟨by go_simp,by go_simp,by go_simp⟩,⟨by go_simp,by go_simp,by go_simp⟩,fun j=>by go_simp,bgo,by simp⟩
 case round =>
  obtain ⟨i,hi,rfl,⟨p0,p1,p2⟩,⟨q0,q1,q2⟩,⟨s0,s1,s2⟩,hfr,hbw,hsz⟩:=hrel
  have hl0:w.heap.size<wr.heap.size:=by omega
  have hl1:w1.heap.size<wr.heap.size:=by omega
  have hne1:¬ w.heap.size=w1.heap.size+1:=by omega
  have hne2:¬ w1.heap.size=w1.heap.size+1:=by omega
  have hi':i=0∨i=1∨i=2∨i=3:=by omega
  rcases hi' with rfl | rfl | rfl | rfl
  ·go_wp2
   go_roundw
   case rel=>exact ⟨1,by omega,by go_num,⟨by go_simp,by go_simp,by go_simp⟩,⟨by go_simp,by go_simp,by go_simp⟩,⟨by go_simp,by go_simp,by go_simp⟩,fun j=>by go_simp,bgo,by simpa using hsz⟩
   case measure=>simp [intOf]
  ·go_wp2
   go_roundw
   case rel=>exact ⟨2,by omega,by go_num,⟨by go_simp,by go_simp,by go_simp⟩,⟨by go_simp,by go_simp,by go_simp⟩,⟨by go_simp,by go_simp,by go_simp⟩,fun j=>by go_simp,bgo,by simpa using hsz⟩
   case measure=>simp [intOf]
  ·go_wp2
   go_roundw
   case rel=>exact ⟨3,by omega,by go_num,⟨by go_simp,by go_simp,by go_simp⟩,⟨by go_simp,by go_simp,by go_simp⟩,⟨by go_simp,by go_simp,by go_simp⟩,fun j=>by go_simp,bgo,by simpa using hsz⟩
   case measure=>simp [intOf]
  ·go_wp2
   exact bodyPost_ret (v:=.tuple #[.int .i64 R,.int .i64 0]) (by
    simp only [results,Tryz.results97]
    go_simp
    rw [← hR]
    exact dl_bits (by omega) (by omega) (by omega) (by omega) (by omega) (by omega)) rfl ⟨rfl,hbw⟩
theorem enc_3 (n a b c g:Nat) (w:World) (hn:n<1000) (ha:n/100=a) (hb:n/10%10=b) (hc:n%10=c) (hg:a/8*4+b/8*2+c/8=g) (R:Int) (u1:Int) (hu1:0<=u1/\u1<4) (hv1:¬ 10<=u1) (u2:Int) (hu2:0<=u2/\u2<8) (hv2:¬ 10<=u2)
  (hR:((((a:Int)/2%4):Int)*256+(a:Int)%2*128+u1*32+(b:Int)%2*16+u2*2+(c:Int)%2)=R)
  (c21:∀ W,CB 137 #[.int .i64 (g:Int)] W (.agg #[.int .i64 10,.int .i64 u1,.int .i64 u2])) :
  CB 97 #[.int .i64 (n:Int)] w (.tuple #[.int .i64 R,.int .i64 0]):=by
 have h0:¬ (n:Int)<0:=by omega
 have h9:¬ 999<(n:Int):=by omega
 have ea:(n:Int)/100=(a:Int):=by omega
 have eb:(n:Int)/10%10=(b:Int):=by omega
 have ec:(n:Int)%10=(c:Int):=by omega
 have eg:(a:Int)/8*4+(b:Int)/8*2+(c:Int)/8=(g:Int):=by omega
 have la:(a:Int)/8<=1:=by omega
 have lb:(b:Int)/8<=1:=by omega
 go_enter Tryz.func97,Tryz.ntmps97
 go_wp2_with (go_at_call 137;refine (c21 _).mono ?_;rintro r w1 ⟨rfl,hb1⟩;obtain ⟨_,_,_,_,hA1,_⟩:=wz w hb1;clear hb1)
 go_loopw [39] (fun t wr=>∃ i:Nat,i<=3/\t=.int .i64 i/\Thr wr w.heap.size a b c/\Thr wr w1.heap.size 10 u1 u2/\Thr wr (w1.heap.size+1) (if 0<i then ((a:Int)/2%4) else 0) (if 1<i then u1 else 0) (if 2<i then u2 else 0)/\(∀ j,wr.frozen? ⟨w1.heap.size+1,j,none⟩=false)/\Below w.heap.size w wr/\w1.heap.size+1<wr.heap.size) (fun t _=>3-(intOf t).toNat)
 case atStart=>exact ⟨0,by decide,rfl,⟨by go_simp,by go_simp,by go_simp⟩,⟨by go_simp,by go_simp,by go_simp⟩,⟨by go_simp,by go_simp,by go_simp⟩,fun j=>by go_simp,bgo,by simp⟩
 case round =>
  obtain ⟨i,hi,rfl,⟨p0,p1,p2⟩,⟨q0,q1,q2⟩,⟨s0,s1,s2⟩,hfr,hbw,hsz⟩:=hrel
  have hl0:w.heap.size<wr.heap.size:=by omega
  have hl1:w1.heap.size<wr.heap.size:=by omega
  have hne1:¬ w.heap.size=w1.heap.size+1:=by omega
  have hne2:¬ w1.heap.size=w1.heap.size+1:=by omega
  have hi':i=0∨i=1∨i=2∨i=3:=by omega
  rcases hi' with rfl | rfl | rfl | rfl
  ·go_wp2
   go_roundw
   case rel=>exact ⟨1,by omega,by go_num,⟨by go_simp,by go_simp,by go_simp⟩,⟨by go_simp,by go_simp,by go_simp⟩,⟨by go_simp,by go_simp,by go_simp⟩,fun j=>by go_simp,bgo,by simpa using hsz⟩
   case measure=>simp [intOf]
  ·go_wp2
   go_roundw
   case rel=>exact ⟨2,by omega,by go_num,⟨by go_simp,by go_simp,by go_simp⟩,⟨by go_simp,by go_simp,by go_simp⟩,⟨by go_simp,by go_simp,by go_simp⟩,fun j=>by go_simp,bgo,by simpa using hsz⟩
   case measure=>simp [intOf]
  ·go_wp2
   go_roundw
   case rel=>exact ⟨3,by omega,by go_num,⟨by go_simp,by go_simp,by go_simp⟩,⟨by go_simp,by go_simp,by go_simp⟩,⟨by go_simp,by go_simp,by go_simp⟩,fun j=>by go_simp,bgo,by simpa using hsz⟩
   case measure=>simp [intOf]
  ·go_wp2
   exact bodyPost_ret (v:=.tuple #[.int .i64 R,.int .i64 0]) (by
    simp only [results,Tryz.results97]
    go_simp
    rw [← hR]
    exact dl_bits (by omega) (by omega) (by omega) (by omega) (by omega) (by omega)) rfl ⟨rfl,hbw⟩
theorem enc_4 (n a b c g:Nat) (w:World) (hn:n<1000) (ha:n/100=a) (hb:n/10%10=b) (hc:n%10=c) (hg:a/8*4+b/8*2+c/8=g) (R:Int) (u2:Int) (hu2:0<=u2/\u2<8) (hv2:¬ 10<=u2)
  (hR:((((c:Int)/2%4):Int)*256+(a:Int)%2*128+((b:Int)/2%4)*32+(b:Int)%2*16+u2*2+(c:Int)%2)=R)
  (c21:∀ W,CB 137 #[.int .i64 (g:Int)] W (.agg #[.int .i64 12,.int .i64 11,.int .i64 u2])) :
  CB 97 #[.int .i64 (n:Int)] w (.tuple #[.int .i64 R,.int .i64 0]):=by
 have h0:¬ (n:Int)<0:=by omega
 have h9:¬ 999<(n:Int):=by omega
 have ea:(n:Int)/100=(a:Int):=by omega
 have eb:(n:Int)/10%10=(b:Int):=by omega
 have ec:(n:Int)%10=(c:Int):=by omega
 have eg:(a:Int)/8*4+(b:Int)/8*2+(c:Int)/8=(g:Int):=by omega
 have la:(a:Int)/8<=1:=by omega
 have lb:(b:Int)/8<=1:=by omega
 go_enter Tryz.func97,Tryz.ntmps97
 go_wp2_with (go_at_call 137;refine (c21 _).mono ?_;rintro r w1 ⟨rfl,hb1⟩;obtain ⟨_,_,_,_,hA1,_⟩:=wz w hb1;clear hb1)
 go_loopw [39] (fun t wr=>∃ i:Nat,i<=3/\t=.int .i64 i/\Thr wr w.heap.size a b c/\Thr wr w1.heap.size 12 11 u2/\Thr wr (w1.heap.size+1) (if 0<i then ((c:Int)/2%4) else 0) (if 1<i then ((b:Int)/2%4) else 0) (if 2<i then u2 else 0)/\(∀ j,wr.frozen? ⟨w1.heap.size+1,j,none⟩=false)/\Below w.heap.size w wr/\w1.heap.size+1<wr.heap.size) (fun t _=>3-(intOf t).toNat)
 case atStart=>exact ⟨0,by decide,rfl,⟨by go_simp,by go_simp,by go_simp⟩,⟨by go_simp,by go_simp,by go_simp⟩,⟨by go_simp,by go_simp,by go_simp⟩,fun j=>by go_simp,bgo,by simp⟩
 case round =>
  obtain ⟨i,hi,rfl,⟨p0,p1,p2⟩,⟨q0,q1,q2⟩,⟨s0,s1,s2⟩,hfr,hbw,hsz⟩:=hrel
  have hl0:w.heap.size<wr.heap.size:=by omega
  have hl1:w1.heap.size<wr.heap.size:=by omega
  have hne1:¬ w.heap.size=w1.heap.size+1:=by omega
  have hne2:¬ w1.heap.size=w1.heap.size+1:=by omega
  have hi':i=0∨i=1∨i=2∨i=3:=by omega
  rcases hi' with rfl | rfl | rfl | rfl
  ·go_wp2
   go_roundw
   case rel=>exact ⟨1,by omega,by go_num,⟨by go_simp,by go_simp,by go_simp⟩,⟨by go_simp,by go_simp,by go_simp⟩,⟨by go_simp,by go_simp,by go_simp⟩,fun j=>by go_simp,bgo,by simpa using hsz⟩
   case measure=>simp [intOf]
  ·go_wp2
   go_roundw
   case rel=>exact ⟨2,by omega,by go_num,⟨by go_simp,by go_simp,by go_simp⟩,⟨by go_simp,by go_simp,by go_simp⟩,⟨by go_simp,by go_simp,by go_simp⟩,fun j=>by go_simp,bgo,by simpa using hsz⟩
   case measure=>simp [intOf]
  ·go_wp2
   go_roundw
   case rel=>exact ⟨3,by omega,by go_num,⟨by go_simp,by go_simp,by go_simp⟩,⟨by go_simp,by go_simp,by go_simp⟩,⟨by go_simp,by go_simp,by go_simp⟩,fun j=>by go_simp,bgo,by simpa using hsz⟩
   case measure=>simp [intOf]
  ·go_wp2
   exact bodyPost_ret (v:=.tuple #[.int .i64 R,.int .i64 0]) (by
    simp only [results,Tryz.results97]
    go_simp
    rw [← hR]
    exact dl_bits (by omega) (by omega) (by omega) (by omega) (by omega) (by omega)) rfl ⟨rfl,hbw⟩
theorem enc_5 (n a b c g:Nat) (w:World) (hn:n<1000) (ha:n/100=a) (hb:n/10%10=b) (hc:n%10=c) (hg:a/8*4+b/8*2+c/8=g) (R:Int) (u1:Int) (hu1:0<=u1/\u1<4) (hv1:¬ 10<=u1) (u2:Int) (hu2:0<=u2/\u2<8) (hv2:¬ 10<=u2)
  (hR:((((b:Int)/2%4):Int)*256+(a:Int)%2*128+u1*32+(b:Int)%2*16+u2*2+(c:Int)%2)=R)
  (c21:∀ W,CB 137 #[.int .i64 (g:Int)] W (.agg #[.int .i64 11,.int .i64 u1,.int .i64 u2])) :
  CB 97 #[.int .i64 (n:Int)] w (.tuple #[.int .i64 R,.int .i64 0]):=by
 have h0:¬ (n:Int)<0:=by omega
 have h9:¬ 999<(n:Int):=by omega
 have ea:(n:Int)/100=(a:Int):=by omega
 have eb:(n:Int)/10%10=(b:Int):=by omega
 have ec:(n:Int)%10=(c:Int):=by omega
 have eg:(a:Int)/8*4+(b:Int)/8*2+(c:Int)/8=(g:Int):=by omega
 have la:(a:Int)/8<=1:=by omega
 have lb:(b:Int)/8<=1:=by omega
 go_enter Tryz.func97,Tryz.ntmps97
 go_wp2_with (go_at_call 137;refine (c21 _).mono ?_;rintro r w1 ⟨rfl,hb1⟩;obtain ⟨_,_,_,_,hA1,_⟩:=wz w hb1;clear hb1)
 go_loopw [39] (fun t wr=>∃ i:Nat,i<=3/\t=.int .i64 i/\Thr wr w.heap.size a b c/\Thr wr w1.heap.size 11 u1 u2/\Thr wr (w1.heap.size+1) (if 0<i then ((b:Int)/2%4) else 0) (if 1<i then u1 else 0) (if 2<i then u2 else 0)/\(∀ j,wr.frozen? ⟨w1.heap.size+1,j,none⟩=false)/\Below w.heap.size w wr/\w1.heap.size+1<wr.heap.size) (fun t _=>3-(intOf t).toNat)
 case atStart=>exact ⟨0,by decide,rfl,⟨by go_simp,by go_simp,by go_simp⟩,⟨by go_simp,by go_simp,by go_simp⟩,⟨by go_simp,by go_simp,by go_simp⟩,fun j=>by go_simp,bgo,by simp⟩
 case round =>
  obtain ⟨i,hi,rfl,⟨p0,p1,p2⟩,⟨q0,q1,q2⟩,⟨s0,s1,s2⟩,hfr,hbw,hsz⟩:=hrel
  have hl0:w.heap.size<wr.heap.size:=by omega
  have hl1:w1.heap.size<wr.heap.size:=by omega
  have hne1:¬ w.heap.size=w1.heap.size+1:=by omega
  have hne2:¬ w1.heap.size=w1.heap.size+1:=by omega
  have hi':i=0∨i=1∨i=2∨i=3:=by omega
  rcases hi' with rfl | rfl | rfl | rfl
  ·go_wp2
   go_roundw
   case rel=>exact ⟨1,by omega,by go_num,⟨by go_simp,by go_simp,by go_simp⟩,⟨by go_simp,by go_simp,by go_simp⟩,⟨by go_simp,by go_simp,by go_simp⟩,fun j=>by go_simp,bgo,by simpa using hsz⟩
   case measure=>simp [intOf]
  ·go_wp2
   go_roundw
   case rel=>exact ⟨2,by omega,by go_num,⟨by go_simp,by go_simp,by go_simp⟩,⟨by go_simp,by go_simp,by go_simp⟩,⟨by go_simp,by go_simp,by go_simp⟩,fun j=>by go_simp,bgo,by simpa using hsz⟩
   case measure=>simp [intOf]
  ·go_wp2
   go_roundw
   case rel=>exact ⟨3,by omega,by go_num,⟨by go_simp,by go_simp,by go_simp⟩,⟨by go_simp,by go_simp,by go_simp⟩,⟨by go_simp,by go_simp,by go_simp⟩,fun j=>by go_simp,bgo,by simpa using hsz⟩
   case measure=>simp [intOf]
  ·go_wp2
   exact bodyPost_ret (v:=.tuple #[.int .i64 R,.int .i64 0]) (by
    simp only [results,Tryz.results97]
    go_simp
    rw [← hR]
    exact dl_bits (by omega) (by omega) (by omega) (by omega) (by omega) (by omega)) rfl ⟨rfl,hbw⟩
theorem enc_6 (n a b c g:Nat) (w:World) (hn:n<1000) (ha:n/100=a) (hb:n/10%10=b) (hc:n%10=c) (hg:a/8*4+b/8*2+c/8=g) (R:Int) (u1:Int) (hu1:0<=u1/\u1<4) (hv1:¬ 10<=u1) (u2:Int) (hu2:0<=u2/\u2<8) (hv2:¬ 10<=u2)
  (hR:((((c:Int)/2%4):Int)*256+(a:Int)%2*128+u1*32+(b:Int)%2*16+u2*2+(c:Int)%2)=R)
  (c21:∀ W,CB 137 #[.int .i64 (g:Int)] W (.agg #[.int .i64 12,.int .i64 u1,.int .i64 u2])) :
  CB 97 #[.int .i64 (n:Int)] w (.tuple #[.int .i64 R,.int .i64 0]):=by
 have h0:¬ (n:Int)<0:=by omega
 have h9:¬ 999<(n:Int):=by omega
 have ea:(n:Int)/100=(a:Int):=by omega
 have eb:(n:Int)/10%10=(b:Int):=by omega
 have ec:(n:Int)%10=(c:Int):=by omega
 have eg:(a:Int)/8*4+(b:Int)/8*2+(c:Int)/8=(g:Int):=by omega
 have la:(a:Int)/8<=1:=by omega
 have lb:(b:Int)/8<=1:=by omega
 go_enter Tryz.func97,Tryz.ntmps97
 go_wp2_with (go_at_call 137;refine (c21 _).mono ?_;rintro r w1 ⟨rfl,hb1⟩;obtain ⟨_,_,_,_,hA1,_⟩:=wz w hb1;clear hb1)
 go_loopw [39] (fun t wr=>∃ i:Nat,i<=3/\t=.int .i64 i/\Thr wr w.heap.size a b c/\Thr wr w1.heap.size 12 u1 u2/\Thr wr (w1.heap.size+1) (if 0<i then ((c:Int)/2%4) else 0) (if 1<i then u1 else 0) (if 2<i then u2 else 0)/\(∀ j,wr.frozen? ⟨w1.heap.size+1,j,none⟩=false)/\Below w.heap.size w wr/\w1.heap.size+1<wr.heap.size) (fun t _=>3-(intOf t).toNat)
 case atStart=>exact ⟨0,by decide,rfl,⟨by go_simp,by go_simp,by go_simp⟩,⟨by go_simp,by go_simp,by go_simp⟩,⟨by go_simp,by go_simp,by go_simp⟩,fun j=>by go_simp,bgo,by simp⟩
 case round =>
  obtain ⟨i,hi,rfl,⟨p0,p1,p2⟩,⟨q0,q1,q2⟩,⟨s0,s1,s2⟩,hfr,hbw,hsz⟩:=hrel
  have hl0:w.heap.size<wr.heap.size:=by omega
  have hl1:w1.heap.size<wr.heap.size:=by omega
  have hne1:¬ w.heap.size=w1.heap.size+1:=by omega
  have hne2:¬ w1.heap.size=w1.heap.size+1:=by omega
  have hi':i=0∨i=1∨i=2∨i=3:=by omega
  rcases hi' with rfl | rfl | rfl | rfl
  ·go_wp2
   go_roundw
   case rel=>exact ⟨1,by omega,by go_num,⟨by go_simp,by go_simp,by go_simp⟩,⟨by go_simp,by go_simp,by go_simp⟩,⟨by go_simp,by go_simp,by go_simp⟩,fun j=>by go_simp,bgo,by simpa using hsz⟩
   case measure=>simp [intOf]
  ·go_wp2
   go_roundw
   case rel=>exact ⟨2,by omega,by go_num,⟨by go_simp,by go_simp,by go_simp⟩,⟨by go_simp,by go_simp,by go_simp⟩,⟨by go_simp,by go_simp,by go_simp⟩,fun j=>by go_simp,bgo,by simpa using hsz⟩
   case measure=>simp [intOf]
  ·go_wp2
   go_roundw
   case rel=>exact ⟨3,by omega,by go_num,⟨by go_simp,by go_simp,by go_simp⟩,⟨by go_simp,by go_simp,by go_simp⟩,⟨by go_simp,by go_simp,by go_simp⟩,fun j=>by go_simp,bgo,by simpa using hsz⟩
   case measure=>simp [intOf]
  ·go_wp2
   exact bodyPost_ret (v:=.tuple #[.int .i64 R,.int .i64 0]) (by
    simp only [results,Tryz.results97]
    go_simp
    rw [← hR]
    exact dl_bits (by omega) (by omega) (by omega) (by omega) (by omega) (by omega)) rfl ⟨rfl,hbw⟩
theorem enc_7 (n a b c g:Nat) (w:World) (hn:n<1000) (ha:n/100=a) (hb:n/10%10=b) (hc:n%10=c) (hg:a/8*4+b/8*2+c/8=g) (R:Int) (u0:Int) (hu0:0<=u0/\u0<4) (hv0:¬ 10<=u0) (u1:Int) (hu1:0<=u1/\u1<4) (hv1:¬ 10<=u1) (u2:Int) (hu2:0<=u2/\u2<8) (hv2:¬ 10<=u2)
  (hR:((u0:Int)*256+(a:Int)%2*128+u1*32+(b:Int)%2*16+u2*2+(c:Int)%2)=R)
  (c21:∀ W,CB 137 #[.int .i64 (g:Int)] W (.agg #[.int .i64 u0,.int .i64 u1,.int .i64 u2])) :
  CB 97 #[.int .i64 (n:Int)] w (.tuple #[.int .i64 R,.int .i64 0]):=by
 have h0:¬ (n:Int)<0:=by omega
 have h9:¬ 999<(n:Int):=by omega
 have ea:(n:Int)/100=(a:Int):=by omega
 have eb:(n:Int)/10%10=(b:Int):=by omega
 have ec:(n:Int)%10=(c:Int):=by omega
 have eg:(a:Int)/8*4+(b:Int)/8*2+(c:Int)/8=(g:Int):=by omega
 have la:(a:Int)/8<=1:=by omega
 have lb:(b:Int)/8<=1:=by omega
 go_enter Tryz.func97,Tryz.ntmps97
 go_wp2_with (go_at_call 137;refine (c21 _).mono ?_;rintro r w1 ⟨rfl,hb1⟩;obtain ⟨_,_,_,_,hA1,_⟩:=wz w hb1;clear hb1)
 go_loopw [39] (fun t wr=>∃ i:Nat,i<=3/\t=.int .i64 i/\Thr wr w.heap.size a b c/\Thr wr w1.heap.size u0 u1 u2/\Thr wr (w1.heap.size+1) (if 0<i then u0 else 0) (if 1<i then u1 else 0) (if 2<i then u2 else 0)/\(∀ j,wr.frozen? ⟨w1.heap.size+1,j,none⟩=false)/\Below w.heap.size w wr/\w1.heap.size+1<wr.heap.size) (fun t _=>3-(intOf t).toNat)
 case atStart=>exact ⟨0,by decide,rfl,⟨by go_simp,by go_simp,by go_simp⟩,⟨by go_simp,by go_simp,by go_simp⟩,⟨by go_simp,by go_simp,by go_simp⟩,fun j=>by go_simp,bgo,by simp⟩
 case round =>
  obtain ⟨i,hi,rfl,⟨p0,p1,p2⟩,⟨q0,q1,q2⟩,⟨s0,s1,s2⟩,hfr,hbw,hsz⟩:=hrel
  have hl0:w.heap.size<wr.heap.size:=by omega
  have hl1:w1.heap.size<wr.heap.size:=by omega
  have hne1:¬ w.heap.size=w1.heap.size+1:=by omega
  have hne2:¬ w1.heap.size=w1.heap.size+1:=by omega
  have hi':i=0∨i=1∨i=2∨i=3:=by omega
  rcases hi' with rfl | rfl | rfl | rfl
  ·go_wp2
   go_roundw
   case rel=>exact ⟨1,by omega,by go_num,⟨by go_simp,by go_simp,by go_simp⟩,⟨by go_simp,by go_simp,by go_simp⟩,⟨by go_simp,by go_simp,by go_simp⟩,fun j=>by go_simp,bgo,by simpa using hsz⟩
   case measure=>simp [intOf]
  ·go_wp2
   go_roundw
   case rel=>exact ⟨2,by omega,by go_num,⟨by go_simp,by go_simp,by go_simp⟩,⟨by go_simp,by go_simp,by go_simp⟩,⟨by go_simp,by go_simp,by go_simp⟩,fun j=>by go_simp,bgo,by simpa using hsz⟩
   case measure=>simp [intOf]
  ·go_wp2
   go_roundw
   case rel=>exact ⟨3,by omega,by go_num,⟨by go_simp,by go_simp,by go_simp⟩,⟨by go_simp,by go_simp,by go_simp⟩,⟨by go_simp,by go_simp,by go_simp⟩,fun j=>by go_simp,bgo,by simpa using hsz⟩
   case measure=>simp [intOf]
  ·go_wp2
   exact bodyPost_ret (v:=.tuple #[.int .i64 R,.int .i64 0]) (by
    simp only [results,Tryz.results97]
    go_simp
    rw [← hR]
    exact dl_bits (by omega) (by omega) (by omega) (by omega) (by omega) (by omega)) rfl ⟨rfl,hbw⟩
theorem enc_v (n:Nat) (hn:n<1000) (w:World):CB 97 #[.int .i64 (n:Int)] w (.tuple #[.int .i64 (dlE n:Int),.int .i64 0]):=by
 have hg:=dlG_lt hn
 have c21:=fun W=>row_v (dlG n) hg W
 have hgg:n/100/8*4+n/10%10/8*2+n%10/8=dlG n:=rfl
 have h:dlG n=0∨dlG n=1∨dlG n=2∨dlG n=3∨dlG n=4∨dlG n=5∨dlG n=6∨dlG n=7:=by omega
 rcases h with h | h | h | h | h | h | h | h
 ·have e:dlE n=n/100/2%4*256+n/100%2*128+n/10%10/2%4*32+n/10%10%2*16+n%10/2%4*2+n%10%2:=by
   unfold dlE
   rw [h]
   rfl
  refine enc_0 n _ _ _ (dlG n) w hn rfl rfl rfl hgg _ (by rw [e];omega) (fun W=>?_)
  have:=c21 W
  rw [h] at this ⊢
  exact this
 ·have e:dlE n=n/100/2%4*256+n/100%2*128+n/10%10/2%4*32+n/10%10%2*16+4*2+n%10%2:=by
   unfold dlE
   rw [h]
   rfl
  refine enc_1 n _ _ _ (dlG n) w hn rfl rfl rfl hgg _ 4 (by decide) (by decide) (by rw [e];omega) (fun W=>?_)
  have:=c21 W
  rw [h] at this ⊢
  exact this
 ·have e:dlE n=n/100/2%4*256+n/100%2*128+n%10/2%4*32+n/10%10%2*16+5*2+n%10%2:=by
   unfold dlE
   rw [h]
   rfl
  refine enc_2 n _ _ _ (dlG n) w hn rfl rfl rfl hgg _ 5 (by decide) (by decide) (by rw [e];omega) (fun W=>?_)
  have:=c21 W
  rw [h] at this ⊢
  exact this
 ·have e:dlE n=n/100/2%4*256+n/100%2*128+2*32+n/10%10%2*16+7*2+n%10%2:=by
   unfold dlE
   rw [h]
   rfl
  refine enc_3 n _ _ _ (dlG n) w hn rfl rfl rfl hgg _ 2 (by decide) (by decide) 7 (by decide) (by decide) (by rw [e];omega) (fun W=>?_)
  have:=c21 W
  rw [h] at this ⊢
  exact this
 ·have e:dlE n=n%10/2%4*256+n/100%2*128+n/10%10/2%4*32+n/10%10%2*16+6*2+n%10%2:=by
   unfold dlE
   rw [h]
   rfl
  refine enc_4 n _ _ _ (dlG n) w hn rfl rfl rfl hgg _ 6 (by decide) (by decide) (by rw [e];omega) (fun W=>?_)
  have:=c21 W
  rw [h] at this ⊢
  exact this
 ·have e:dlE n=n/10%10/2%4*256+n/100%2*128+1*32+n/10%10%2*16+7*2+n%10%2:=by
   unfold dlE
   rw [h]
   rfl
  refine enc_5 n _ _ _ (dlG n) w hn rfl rfl rfl hgg _ 1 (by decide) (by decide) 7 (by decide) (by decide) (by rw [e];omega) (fun W=>?_)
  have:=c21 W
  rw [h] at this ⊢
  exact this
 ·have e:dlE n=n%10/2%4*256+n/100%2*128+0*32+n/10%10%2*16+7*2+n%10%2:=by
   unfold dlE
   rw [h]
   rfl
  refine enc_6 n _ _ _ (dlG n) w hn rfl rfl rfl hgg _ 0 (by decide) (by decide) 7 (by decide) (by decide) (by rw [e];omega) (fun W=>?_)
  have:=c21 W
  rw [h] at this ⊢
  exact this
 ·have e:dlE n=0*256+n/100%2*128+3*32+n/10%10%2*16+7*2+n%10%2:=by
   unfold dlE
   rw [h]
   rfl
  refine enc_7 n _ _ _ (dlG n) w hn rfl rfl rfl hgg _ 0 (by decide) (by decide) 3 (by decide) (by decide) 7 (by decide) (by decide) (by rw [e];omega) (fun W=>?_)
  have:=c21 W
  rw [h] at this ⊢
  exact this
section
attribute [local go_sem] setCell_drewN alloc_drewN
theorem limMul4 (x:Nat->Int) (n:Int) (w:World) (hx:Words x) (hn:0<=n/\n<=18446744073709551615) :
  CB 106 #[.agg (arrOf x 4),.int .u64 n] w (.tuple #[.agg (arrOf (mulP x n) 4),.int .u64 (mulC x n 4)]):=by
 have sx:(arrOf x 4).size=4:=arrOf_size x 4
 have gx:=fun i h=>arrOf_get x 4 i h
 generalize arrOf x 4=ax at *
 go_enter Tryz.func106,Tryz.ntmps106
 go_wp2
 go_loopw [7,15] (fun c i wr=>∃ (k:Nat) (ss:Array Value),k<=4/\i=.int .i64 k/\c=.int .u64 (mulC x n k)/\ss.size=4/\(∀ j h,ss[j]'h=Value.int .u64 (if j<k then mulP x n j else 0))/\wr=((w.alloc (.cells ax 23)).alloc (.cells #[.int .u64 0,.int .u64 0,.int .u64 0,.int .u64 0] 23)).alloc (.cells ss 23)) (fun _ i _=>4-(intOf i).toNat)
 case atStart=>exact ⟨0,_,Nat.zero_le _,rfl,rfl,rfl,by intro j h;have h':j<4:=h;match j,h' with | 0,_=>rfl | 1,_=>rfl | 2,_=>rfl | 3,_=>rfl,rfl⟩
 case round =>
  obtain ⟨k,ss,hk,rfl,rfl,hsz,hss,rfl⟩:=hrel
  by_cases h8:k<4
  ·have h8i:(k:Int)<4:=by omega
   have h8s:k<ss.size:=by omega
   have bx:=hx k
   have bc:=mulC_word hx hn k
   have bc':=mulC_word hx hn (k+1)
   have hcx:∀ h,ax[k]'h=.int .u64 (x k):=fun h=>gx k h
   have hsk:ss[k]?=some (.int .u64 0):=by rw [Array.getElem?_eq_getElem h8s,hss k h8s,if_neg (by omega)]
   have HR:Hid (∀ (i:Nat) (h:i<(ss.setIfInBounds k (.int .u64 (mulP x n k))).size),(ss.setIfInBounds k (.int .u64 (mulP x n k)))[i]'h=Value.int .u64 (if i<k+1 then mulP x n i else 0)):=set_next hss
   have hmul:=mul64 (x k) n bx hn
   have e1:mulC x n (k+1)=x k*n/18446744073709551616+(x k*n%18446744073709551616+mulC x n k)/18446744073709551616:=rfl
   have e2:mulP x n k=(x k*n%18446744073709551616+mulC x n k)%18446744073709551616:=rfl
   rw [e1] at bc'
   have HE1:Hid (mulC x n (k+1)=x k*n/18446744073709551616+(x k*n%18446744073709551616+mulC x n k)/18446744073709551616):=e1
   have HE2:Hid (mulP x n k=(x k*n%18446744073709551616+mulC x n k)%18446744073709551616):=e2
   have hP:0<=x k*n:=Int.mul_nonneg bx.1 hn.1
   clear hss gx e1 e2 hx
   generalize x k*n=P at *
   have hL:0<=P%18446744073709551616:=by omega
   have hH:0<=P/18446744073709551616:=by omega
   generalize P/18446744073709551616=hi at *
   generalize P%18446744073709551616=lo at *
   generalize hCC:mulC x n k=c at *
   have hadd:=fun w=>add64z lo c hL bc.1 w
   go_wp2_with (go_at_call 49;refine (hmul _).mono ?_;rintro e w' ⟨rfl,rfl⟩)
   go_roundw
   case rel=>refine ⟨k+1,ss.setIfInBounds k (.int .u64 (mulP x n k)),by omega,by go_num,by rw [HE1.out],by simp [hsz],HR.out,by rw [HE2.out]⟩
   case measure=>simp [intOf];omega
  ·obtain rfl:k=4:=by omega
   have hss':∀ j h,ss[j]'h=Value.int .u64 (mulP x n j):=by
    intro j h;rw [hss j h,if_pos (by omega)]
   clear hss
   go_wp2
   exact bodyPost_ret (v:=.tuple #[.agg (arrOf (mulP x n) 4),.int .u64 (mulC x n 4)]) (by simp [results,Tryz.results106,go_sem];rfl) rfl ⟨rfl,below_alloc3 _ _ _ _ 0⟩
theorem limDiv4 (x:Nat->Int) (d:Int) (w:World) (hd:0<d/\d<=18446744073709551615)
  (H:∀ j,j<4->∀ w,Calls Tryz.prog 92 #[.int .u64 (remJ x d 4 (4-1-j)),.int .u64 (x j),.int .u64 d] w fun e w'=>e=.returned (.tuple #[.int .u64 (quoW x d 4 j),.int .u64 (remJ x d 4 (4-j))])/\∃ m,w'=w.drewN m) :
  CB 200 #[.agg (arrOf x 4),.int .u64 d] w (.tuple #[.agg (arrOf (quoW x d 4) 4),.int .u64 (remJ x d 4 4)]):=by
 have sx:(arrOf x 4).size=4:=arrOf_size x 4
 have gx:=fun i h=>arrOf_get x 4 i h
 have hd0:(d == 0)=false:=by simp;omega
 generalize arrOf x 4=ax at *
 go_enter Tryz.func200,Tryz.ntmps200
 go_wp2
 go_loopw [7,8,19] (fun c i u19 wr=>∃ (k m:Nat) (ss:Array Value),k<=4/\i=.int .i64 ((k:Int)-1)/\c=.int .u64 (remJ x d 4 (4-k))/\ss.size=4/\(∀ j h,ss[j]'h=Value.int .u64 (if k<=j then quoW x d 4 j else 0))/\wr=((((w.alloc (.cells ax 23)).alloc (.cells #[.int .u64 0,.int .u64 0,.int .u64 0,.int .u64 0] 23)).alloc (.cells ss 23)).drewN m)) (fun _ i _ _=>(intOf i+1).toNat)
 case atStart=>exact ⟨4,0,_,Nat.le_refl _,rfl,rfl,rfl,by intro j h;have h':j<4:=h;match j,h' with | 0,_=>rfl | 1,_=>rfl | 2,_=>rfl | 3,_=>rfl,rfl⟩
 case round =>
  obtain ⟨k,m,ss,hk,rfl,rfl,hsz,hss,rfl⟩:=hrel
  by_cases h0:k=0
  ·subst h0
   have hss':∀ j h,ss[j]'h=Value.int .u64 (quoW x d 4 j):=by
    intro j h;rw [hss j h,if_pos (by omega)]
   clear hss H
   go_wp2
   exact bodyPost_ret (v:=.tuple #[.agg (arrOf (quoW x d 4) 4),.int .u64 (remJ x d 4 4)]) (by simp [results,Tryz.results200,go_sem];rfl) rfl ⟨rfl,below_alloc3 _ _ _ _ _⟩
  ·obtain ⟨j,rfl⟩:∃ j,k=j+1:=⟨k-1,by omega⟩
   have hj8:(j:Int)<4:=by omega
   have ej:((j+1:Nat):Int)-1=j:=by omega
   have ej2:4-(j+1)=4-1-j:=by omega
   rw [ej,ej2]
   have hjs:j<ss.size:=by omega
   have hcx:ax[j]?=some (.int .u64 (x j)):=by rw [Array.getElem?_eq_getElem (by omega),gx j (by omega)]
   have HJ:=H j (by omega)
   have hsj:ss[j]?=some (.int .u64 0):=by rw [Array.getElem?_eq_getElem hjs,hss j hjs,if_neg (by omega)]
   have hrel1:=set_prev (k:=j) (f:=quoW x d 4) hss
   have HR:Hid (∀ (i:Nat) (h:i<(ss.setIfInBounds j (.int .u64 (quoW x d 4 j))).size),(ss.setIfInBounds j (.int .u64 (quoW x d 4 j)))[i]'h=Value.int .u64 (if j<=i then quoW x d 4 i else 0)):=hrel1
   clear hss H hrel1 ej ej2
   go_wp2_with (go_at_call 92;refine (HJ _).mono ?_;rintro e w' ⟨rfl,m',rfl⟩)
   go_roundw
   case rel=>exact ⟨j,m+m',ss.setIfInBounds j (.int .u64 (quoW x d 4 j)),by omega,by go_num,rfl,by simp [hsz],HR.out,rfl⟩
   case measure=>simp [intOf]
theorem mul4 (A n:Nat) (w:World) (hA:A<2^256) (hn:n<18446744073709551616) :
  CB 106 #[A4 A,.int .u64 (n:Int)] w (.tuple #[A4 (A*n),.int .u64 ((A*n/2^256:Nat):Int)]):=by
 refine (limMul4 (W4 A) n w (W4_words A) (by omega)).mono ?_
 rintro e w' ⟨rfl,hb⟩
 refine ⟨?_,hb⟩
 have hs:=mul_val (W4 A) (n:Int) 4
 have hv:=val_bd (mulP_words (W4 A) (n:Int)) 4
 have hc:=mulC_word (W4_words A) (n:=(n:Int)) (by omega) 4
 rw [W4_val4 hA] at hs
 have e4:(18446744073709551616:Int)^4=115792089237316195423570985008687907853269984665640564039457584007913129639936:=by decide
 have e4n:(2:Nat)^256=115792089237316195423570985008687907853269984665640564039457584007913129639936:=by decide
 have hcast:(A:Int)*(n:Int)=((A*n:Nat):Int):=by simp
 rw [e4,hcast] at hs
 rw [e4] at hv
 rw [e4n]
 generalize A*n=P at *
 rw [arr_A4 (mulP_words _ _) (A:=P) (by rw [e4n];omega)]
 have:mulC (W4 A) (n:Int) 4=((P/115792089237316195423570985008687907853269984665640564039457584007913129639936:Nat):Int):=by omega
 rw [this]
theorem div4 (A d:Nat) (w:World) (hA:A<2^256) (hd:0<d) (hd':d<18446744073709551616) :
  CB 200 #[A4 A,.int .u64 (d:Int)] w (.tuple #[A4 (A/d),.int .u64 ((A%d:Nat):Int)]):=by
 have hdi:0<(d:Int)/\(d:Int)<=18446744073709551615:=by omega
 refine (limDiv4 (W4 A) d w hdi (fun j hj w=>limDiv_ok (W4 A) d 4 (W4_words A) hdi j hj w)).mono ?_
 rintro e w' ⟨rfl,hb⟩
 refine ⟨?_,hb⟩
 have hs:=div_val (W4 A) (d:Int) 4 4 (Nat.le_refl _)
 have hr:=remJ_bd (W4 A) (d:Int) 4 4 hdi.1
 obtain ⟨Q,hQ⟩:∃ Q,val (quoW (W4 A) (d:Int) 4) 4=Q:=⟨_,rfl⟩
 rw [W4_val4 hA,hQ] at hs
 simp only [Nat.sub_self,val,Int.zero_add,Int.pow_zero,Int.mul_one,Int.sub_zero] at hs
 generalize hq:remJ (W4 A) (d:Int) 4 4=r at *
 have h1:(A:Int)%(d:Int)=r:=by
  rw [← hs,Int.add_mul_emod_self_left,Int.emod_eq_of_lt hr.1 hr.2]
 have h2:val (quoW (W4 A) (d:Int) 4) 4=(A:Int)/(d:Int):=by
  rw [hQ]
  have:(A:Int)/(d:Int)=r/(d:Int)+Q:=by
   rw [← Int.add_mul_ediv_left r _ (show (d:Int)≠0 by omega)]
   exact congrArg (·/(d:Int)) hs.symm
  rw [this,Int.ediv_eq_zero_of_lt hr.1 hr.2,Int.zero_add]
 have hlt:A/d<2^256:=Nat.lt_of_le_of_lt (Nat.div_le_self _ _) hA
 rw [arr_A4 (quoW_words (W4_words A) hdi.1 4) (A:=A/d) (by rw [h2,Nat.mod_eq_of_lt hlt];simp),← h1]
 simp
end
section
section
attribute [local go_sem] setCell_drewN alloc_drewN
theorem below_two (w:World) (o1 o2:Obj) (m:Nat):Below w.heap.size w ((((w.alloc o1).alloc o2).drewN m)):=by
 have h:=((Below.refl w.heap.size w).alloc (Nat.le_refl _) o1).alloc (by simp) o2
 exact ⟨h.os,h.tape,h.output,h.size,h.block⟩
theorem below_dr {b:Nat} {w w':World} (h:Below b w w') (m:Nat):Below b w (w'.drewN m):=⟨h.os,h.tape,h.output,h.size,h.block⟩
theorem limCmp4 (x y:Nat->Int) (w:World) (hx:Words x) (hy:Words y) :
  CB 143 #[.agg (arrOf x 4),.agg (arrOf y 4)] w (.int .i64 (cmpL x y 4)):=by
 have sx:(arrOf x 4).size=4:=arrOf_size x 4
 have sy:(arrOf y 4).size=4:=arrOf_size y 4
 have gx:=fun i h=>arrOf_get? x 4 i h
 have gy:=fun i h=>arrOf_get? y 4 i h
 have hx0:=arrOf_get x 4
 have hy0:=arrOf_get y 4
 generalize arrOf x 4=ax at *
 generalize arrOf y 4=ay at *
 go_enter Tryz.func143,Tryz.ntmps143
 go_wp2
 go_loopw [5] (fun t wr=>∃ k m:Nat,k<=4/\cmpL x y k=cmpL x y 4/\t=.int .i64 ((k:Int)-1)/\wr=(((w.alloc (.cells ax 23)).alloc (.cells ay 23)).drewN m)) (fun t _=>(intOf t+1).toNat)
 case atStart=>exact ⟨4,0,Nat.le_refl _,rfl,rfl,rfl⟩
 case round =>
  obtain ⟨k,m,hk,hs,rfl,rfl⟩:=hrel
  by_cases h0:k=0
  ·subst h0
   have HS:Hid (cmpL x y 4=0):=hs.symm
   clear hs
   go_wp2
   go_ret
   exact ⟨ret_int HS.out.symm,below_two _ _ _ _⟩
  ·obtain ⟨j,rfl⟩:∃ j,k=j+1:=⟨k-1,by omega⟩
   have ej:((j+1:Nat):Int)-1=j:=by omega
   have hj8:(j:Int)<4:=by omega
   rw [ej]
   have hcx:=gx j (by omega)
   have hcy:=gy j (by omega)
   have hgx:=hx0 j
   have hgy:=hy0 j
   have HS:Hid ((if x j<y j then -1 else if y j<x j then 1 else cmpL x y j)=cmpL x y 4):=hs
   have hkm:j<=4:=by omega
   clear hs ej hk gx gy hx0 hy0 hx hy
   by_cases hlt:x j<y j
   ·have HR:Hid (cmpL x y 4=-1):=by rw [← HS.out,if_pos hlt];rfl
    clear HS
    go_wp2
    go_quiet (fail)
    go_wp2
    go_ret
    exact ⟨ret_int HR.out.symm,below_dr (below_two _ _ _ _) _⟩
   ·by_cases hgt:y j<x j
    ·have HR:Hid (cmpL x y 4=1):=by rw [← HS.out,if_neg hlt,if_pos hgt];rfl
     clear HS
     go_wp2
     go_quiet (fail)
     go_wp2
     go_quiet (fail)
     go_wp2
     go_ret
     exact ⟨ret_int HR.out.symm,below_dr (below_dr (below_two _ _ _ _) _) _⟩
    ·have HR:Hid (cmpL x y j=cmpL x y 4):=by rw [← HS.out,if_neg hlt,if_neg hgt];rfl
     clear HS
     go_wp2
     go_quiet (fail)
     go_wp2
     go_quiet (fail)
     go_wp2
     go_roundw
     case rel=>exact ⟨j,_,hkm,HR.out,by go_num,rfl⟩
     case measure=>simp [intOf]
end
theorem cmp4 (A B:Nat) (w:World) (hA:A<2^256) (hB:B<2^256) :
  CB 143 #[A4 A,A4 B] w (.int .i64 (sgn (A:Int) (B:Int))):=by
 have h:=limCmp4 (W4 A) (W4 B) w (W4_words A) (W4_words B)
 rw [cmpL_val (W4_words A) (W4_words B),W4_val4 hA,W4_val4 hB] at h
 exact h
theorem dlow_v (x:Int) (c:Nat) (hx:0<=x/\x<=18446744073709551615) (hc:c<=62) (w:World) :
  CQ 142 #[.int .u64 x,.int .i64 (c:Int)] w (.int .u64 (x%2^c)):=by
 have hm:=and_mask (y:=x) (r:=c) hx (by omega)
 have hp:(1:Int)<=2^c/\(2:Int)^c<=4611686018427387904:=by
  have a:(2:Nat)^0<=2^c:=Nat.pow_le_pow_right (by decide) (by omega)
  have b:(2:Nat)^c<=2^62:=Nat.pow_le_pow_right (by decide) hc
  have e:((2:Int)^c)=((2^c:Nat):Int):=by simp
  rw [e];omega
 go_enter Tryz.func142,Tryz.ntmps142
 go_wp2
 go_ret
 exact ⟨rfl,rfl⟩
abbrev LD (dn:Bool) (g t bl:Int) (wo co pa:Nat) (le mo:Int):Value:=.agg #[.bool dn,.int .i64 g,.int .i64 t,.int .i64 bl,.int .u64 (W4 wo 0),.int .u64 (W4 wo 1),.int .u64 (W4 wo 2),.int .u64 (W4 wo 3),.int .u64 (W4 co 0),.int .u64 (W4 co 1),.int .u64 (W4 co 2),.int .u64 (W4 co 3),.int .u64 (W4 pa 0),.int .u64 (W4 pa 1),.int .u64 (W4 pa 2),.int .u64 (W4 pa 3),.int .i64 le,.int .i64 mo]
attribute [local irreducible] W4
section
variable (dn:Bool) (g t bl:Int) (wo co pa:Nat) (le mo:Int) (w:World)
theorem kind_v (x V:Int) (n:Nat) (hx:0<=x/\x<=18446744073709551615) (hg:g-5=(n:Int)) (hg0:5<=g) (hg1:g<=60) (hV:x/2^n=V) :
  CB 101 #[LD dn g t bl wo co pa le mo,.int .u64 x] w (.int .u64 V):=by
 go_enter Tryz.func101,Tryz.ntmps101
 go_wp2
 go_ret
 exact ⟨rfl,bgo⟩
theorem signals_v (x V:Int) (n:Nat) (hx:0<=x/\x<=18446744073709551615) (hg:g-5-1=(n:Int)) (hg0:6<=g) (hg1:g<=60) (hV:bits .and .u64 (x/2^n) 1=V) :
  CB 102 #[LD dn g t bl wo co pa le mo,.int .u64 x] w (.bool (V == 1)):=by
 go_enter Tryz.func102,Tryz.ntmps102
 go_wp2
 go_ret
 exact ⟨rfl,bgo⟩
theorem special_v (k R:Int) (s:Bool) (n:Nat) (hk0:0<=k) (hk1:k<=31) (hg:g-5-1=(n:Int)) (hg0:6<=g) (hg1:g<=30) (H:Int) (hH:(2:Int)^n=H) (hH0:1<=H) (hH1:H<=16777216) (ho:bits .or .u64 (k*2) 1=k*2+1) (hR:(k*2+if s then 1 else 0)*H=R) (hR1:R<=4611686018427387904) :
  CB 148 #[LD dn g t bl wo co pa le mo,.int .u64 k,.bool s] w (.int .u64 R):=by
 cases s
 ·simp only [Bool.false_eq_true,if_false,Int.add_zero] at hR
  have hR0:0<=R:=by rw [← hR];exact Int.mul_nonneg (by omega) (by omega)
  go_enter Tryz.func148,Tryz.ntmps148
  go_wp2
  go_ret
  exact ⟨rfl,bgo⟩
 ·simp only [if_true] at hR
  have hR0:0<=R:=by rw [← hR];exact Int.mul_nonneg (by omega) (by omega)
  go_enter Tryz.func148,Tryz.ntmps148
  go_wp2
  go_ret
  exact ⟨rfl,bgo⟩
end
end
section
theorem dlowb_v (x:Int) (c:Nat) (hx:0<=x/\x<=18446744073709551615) (hc:c<=62) (w:World) :
  CB 142 #[.int .u64 x,.int .i64 (c:Int)] w (.int .u64 (x%2^c)):=by
 refine (dlow_v x c hx hc w).mono ?_
 rintro r w' ⟨rfl,rfl⟩
 exact ⟨rfl,Below.refl _ _⟩
attribute [local irreducible] W4
section
variable (dn:Bool) (g t:Int) (wo co pa:Nat) (le mo:Int) (w:World) (x A M F FS X R L:Int) (b m:Nat)
 (hx:0<=x/\x<=1073741824) (hb:b<=30) (hg0:6<=g) (hg1:g<=30) (hm:g-2=(m:Int)) (hA:x/2^b=A) (hA0:0<=A) (hA1:A<=1073741824) (hM:x/2^m=M)
 (hF0:0<=F) (hF1:F<=1073741824) (hFS:F*2^b=FS) (hS0:0<=FS) (hS1:FS<=1152921504606846976)
 (cl:∀ W,CB 142 #[.int .u64 x,.int .i64 (b:Int)] W (.int .u64 X))
 (ho:bits .or .u64 FS X=R)
include hx hb hg0 hg1 hm hA hA0 hA1 hM hF0 hF1 hFS hS0 hS1 cl ho
theorem part_s (hM3:(M == 3)=false) (hF:A/8=F)
  (c3:∀ W,CQ 142 #[.int .u64 A,.int .i64 3] W (.int .u64 L)) :
  CB 105 #[LD dn g t (b:Int) wo co pa le mo,.int .u64 x] w (.tuple #[.int .u64 R,.int .u64 L]):=by
 have hb0:(0:Int)<=(b:Int):=by omega
 have hb1:(b:Int)<=30:=by omega
 go_enter Tryz.func105,Tryz.ntmps105
 go_wp2_with (go_at_call 142;refine (c3 _).mono ?_;rintro r w1 ⟨rfl,rfl⟩)
 refine wp_tail 11 (by kernel_rfl) (by kernel_rfl) (by kernel_rfl) (fun _ _ d _ _ h=>by cases d <;> exact h) fun hne hcell=>?_
 simp only [List.take_succ_cons,List.take_zero,List.drop_succ_cons,List.drop_zero]
 repeat go_big_quiet_step (fail)
 go_big_quiet_step ((go_at_call 142;exact calls_wd _ bk_next (cl _)))
 repeat go_big_quiet_step (fail)
 refine wpQuiet_nil fun w2 hb2=>?_
 obtain ⟨_,_,_,_,hA2,_⟩:=wz w hb2;clear hb2
 go_wp2
 exact bodyPost_ret (by simp only [results,Tryz.results105];go_simp) rfl ⟨rfl,bgo⟩
theorem part_g (A' L0:Int) (k:Nat) (hM3:(M == 3)=true) (hk:(m:Int)-(b:Int)=(k:Int)) (hA'0:0<=A') (hA'1:A'<=1073741824) (hF:A'/2=F) (hL0:0<=L0) (hL1:L0<=1) (hL:8+L0=L)
  (c3:∀ W,CQ 142 #[.int .u64 A,.int .i64 (k:Int)] W (.int .u64 A'))
  (c4:∀ W,CQ 142 #[.int .u64 A',.int .i64 1] W (.int .u64 L0)) :
  CB 105 #[LD dn g t (b:Int) wo co pa le mo,.int .u64 x] w (.tuple #[.int .u64 R,.int .u64 L]):=by
 have hb0:(0:Int)<=(b:Int):=by omega
 have hb1:(b:Int)<=30:=by omega
 go_enter Tryz.func105,Tryz.ntmps105
 go_wp2_with (go_at_call 142;first | (refine (c3 _).mono ?_;rintro r w1 ⟨rfl,rfl⟩;clear c3) | (refine (c4 _).mono ?_;rintro r w1 ⟨rfl,rfl⟩;clear c4))
 refine wp_tail 11 (by kernel_rfl) (by kernel_rfl) (by kernel_rfl) (fun _ _ d _ _ h=>by cases d <;> exact h) fun hne hcell=>?_
 simp only [List.take_succ_cons,List.take_zero,List.drop_succ_cons,List.drop_zero]
 repeat go_big_quiet_step (fail)
 go_big_quiet_step ((go_at_call 142;exact calls_wd _ bk_next (cl _)))
 repeat go_big_quiet_step (fail)
 refine wpQuiet_nil fun w2 hb2=>?_
 obtain ⟨_,_,_,_,hA2,_⟩:=wz w hb2;clear hb2
 go_wp2
 exact bodyPost_ret (by simp only [results,Tryz.results105];go_simp) rfl ⟨rfl,bgo⟩
end
section
variable (dn:Bool) (g t:Int) (wo co pa:Nat) (le mo:Int) (w:World) (E a A Y YS X R:Int) (b:Nat)
 (hE:0<=E/\E<=1073741824) (ha:0<=a/\a<=9) (hb:b<=30) (hg0:6<=g) (hg1:g<=30) (hA:E/2^b=A) (hA0:0<=A) (hA1:A<=1073741824)
 (hY0:0<=Y) (hY1:Y<=1073741824) (hYS:Y*2^b=YS) (hS0:0<=YS) (hS1:YS<=1152921504606846976)
 (cl:∀ W,CB 142 #[.int .u64 E,.int .i64 (b:Int)] W (.int .u64 X))
 (ho:bits .or .u64 YS X=R)
include hE ha hb hg0 hg1 hA hA0 hA1 hY0 hY1 hYS hS0 hS1 cl ho
theorem unite_s (h8:¬ 8<=a) (hY:bits .or .u64 (A*8) a=Y) :
  CB 146 #[LD dn g t (b:Int) wo co pa le mo,.int .u64 E,.int .u64 a] w (.int .u64 R):=by
 have hb0:(0:Int)<=(b:Int):=by omega
 have hb1:(b:Int)<=30:=by omega
 go_enter Tryz.func146,Tryz.ntmps146
 go_wp2
 refine wp_tail 9 (by kernel_rfl) (by kernel_rfl) (by kernel_rfl) (fun _ _ d _ _ h=>by cases d <;> exact h) fun hne hcell=>?_
 simp only [List.take_succ_cons,List.take_zero,List.drop_succ_cons,List.drop_zero]
 repeat go_big_quiet_step (fail)
 go_big_quiet_step ((go_at_call 142;exact calls_wd _ bk_next (cl _)))
 repeat go_big_quiet_step (fail)
 refine wpQuiet_nil fun w2 hb2=>?_
 obtain ⟨_,_,_,_,hA2,_⟩:=wz w hb2;clear hb2
 go_wp2
 exact bodyPost_ret (by simp only [results,Tryz.results146];go_simp) rfl ⟨rfl,bgo⟩
theorem unite_g (k:Nat) (H U L0:Int) (h8:8<=a) (hk:g-2-(b:Int)=(k:Int)) (hH:(2:Int)^k=H) (hH0:1<=H) (hH1:H<=1073741824) (hU:bits .or .u64 (3*H) (A*2)=U) (hY:bits .or .u64 U L0=Y)
  (c1:∀ W,CB 142 #[.int .u64 a,.int .i64 1] W (.int .u64 L0)) :
  CB 146 #[LD dn g t (b:Int) wo co pa le mo,.int .u64 E,.int .u64 a] w (.int .u64 R):=by
 have hb0:(0:Int)<=(b:Int):=by omega
 have hb1:(b:Int)<=30:=by omega
 have hk0:0<=g-2-(b:Int):=by omega
 go_enter Tryz.func146,Tryz.ntmps146
 go_wp2
 refine wp_tail 13 (by kernel_rfl) (by kernel_rfl) (by kernel_rfl) (fun _ _ d _ _ h=>by cases d <;> exact h) fun hne hcell=>?_
 simp only [List.take_succ_cons,List.take_zero,List.drop_succ_cons,List.drop_zero]
 repeat go_big_quiet_step (fail)
 go_big_quiet_step ((go_at_call 142;exact calls_wd _ bk_next (c1 _)))
 repeat go_big_quiet_step (fail)
 refine wpQuiet_nil fun w1 hb1'=>?_
 have hb1:=hb1'
 obtain ⟨_,_,_,_,hA1,_⟩:=wz w hb1;clear hb1
 go_wp2
 refine wp_tail 9 (by kernel_rfl) (by kernel_rfl) (by kernel_rfl) (fun _ _ d _ _ h=>by cases d <;> exact h) fun hne hcell=>?_
 simp only [List.take_succ_cons,List.take_zero,List.drop_succ_cons,List.drop_zero]
 repeat go_big_quiet_step (fail)
 go_big_quiet_step ((go_at_call 142;exact calls_wd _ bk_next (cl _)))
 repeat go_big_quiet_step (fail)
 refine wpQuiet_nil fun w2 hb2=>?_
 obtain ⟨_,_,_,_,hA2,_⟩:=wz w hb2;clear hb2
 go_wp2
 exact bodyPost_ret (by simp only [results,Tryz.results146];go_simp) rfl ⟨rfl,bgo⟩
end
end
theorem great_v (x g:Int) (hx:0<=x) (hg:x/8=g) (w:World):CQ 229 #[.int .i64 x] w (.int .i64 g):=by
 go_enter Tryz.func229,Tryz.ntmps229
 go_wp2
 go_ret
 exact ⟨rfl,rfl⟩
theorem known_v (n:Int) (w:World):CQ 171 #[.int .i64 n] w (.bool (decide (0<=n/\n<=11))):=by
 by_cases h0:0<=n
 ·go_enter Tryz.func171,Tryz.ntmps171
  go_wp2
  go_ret
  exact ⟨by simp [h0],rfl⟩
 ·rw [decide_eq_false (fun h=>h0 h.1)]
  go_enter Tryz.func171,Tryz.ntmps171
  go_wp2
  go_ret
  exact ⟨rfl,rfl⟩
theorem fields_0 (a b c x y z:Int) (w:World)
  (ga:∀ W,CQ 229 #[.int .i64 a] W (.int .i64 0))
  (gb:∀ W,CQ 229 #[.int .i64 b] W (.int .i64 0))
  (gc:∀ W,CQ 229 #[.int .i64 c] W (.int .i64 0))
  (ha:0<=a) (hb:0<=b) (hc:0<=c) (hx:bits .and .i64 (a/2) 3=x) (hy:bits .and .i64 (b/2) 3=y) (hz:bits .and .i64 (c/2) 3=z) :
  CQ 220 #[.int .i64 a,.int .i64 b,.int .i64 c] w (.tuple #[.int .i64 x,.int .i64 y,.int .i64 z]):=by
 have o1:bits .or .i64 0 0=0:=by decide
 have o2:bits .or .i64 0 0=0:=by decide
 go_enter Tryz.func220,Tryz.ntmps220
 go_wp2_with (go_at_call 229;first
  | (refine (ga _).mono ?_;rintro r w1 ⟨rfl,rfl⟩;clear ga)
  | (refine (gb _).mono ?_;rintro r w1 ⟨rfl,rfl⟩;clear gb)
  | (refine (gc _).mono ?_;rintro r w1 ⟨rfl,rfl⟩;clear gc))
 exact bodyPost_ret (by simp only [results,Tryz.results220];go_simp) rfl ⟨rfl,rfl⟩
theorem fields_1 (a b c x y z:Int) (w:World)
  (ga:∀ W,CQ 229 #[.int .i64 a] W (.int .i64 0))
  (gb:∀ W,CQ 229 #[.int .i64 b] W (.int .i64 0))
  (gc:∀ W,CQ 229 #[.int .i64 c] W (.int .i64 1))
  (ha:0<=a) (hb:0<=b) (hc:0<=c) (hx:bits .and .i64 (a/2) 3=x) (hy:bits .and .i64 (b/2) 3=y) (hz:bits .and .i64 (c/2) 3=z) :
  CQ 220 #[.int .i64 a,.int .i64 b,.int .i64 c] w (.tuple #[.int .i64 x,.int .i64 y,.int .i64 4]):=by
 have o1:bits .or .i64 0 0=0:=by decide
 have o2:bits .or .i64 0 1=1:=by decide
 go_enter Tryz.func220,Tryz.ntmps220
 go_wp2_with (go_at_call 229;first
  | (refine (ga _).mono ?_;rintro r w1 ⟨rfl,rfl⟩;clear ga)
  | (refine (gb _).mono ?_;rintro r w1 ⟨rfl,rfl⟩;clear gb)
  | (refine (gc _).mono ?_;rintro r w1 ⟨rfl,rfl⟩;clear gc))
 exact bodyPost_ret (by simp only [results,Tryz.results220];go_simp) rfl ⟨rfl,rfl⟩
theorem fields_2 (a b c x y z:Int) (w:World)
  (ga:∀ W,CQ 229 #[.int .i64 a] W (.int .i64 0))
  (gb:∀ W,CQ 229 #[.int .i64 b] W (.int .i64 1))
  (gc:∀ W,CQ 229 #[.int .i64 c] W (.int .i64 0))
  (ha:0<=a) (hb:0<=b) (hc:0<=c) (hx:bits .and .i64 (a/2) 3=x) (hy:bits .and .i64 (b/2) 3=y) (hz:bits .and .i64 (c/2) 3=z) :
  CQ 220 #[.int .i64 a,.int .i64 b,.int .i64 c] w (.tuple #[.int .i64 x,.int .i64 z,.int .i64 5]):=by
 have o1:bits .or .i64 0 2=2:=by decide
 have o2:bits .or .i64 2 0=2:=by decide
 go_enter Tryz.func220,Tryz.ntmps220
 go_wp2_with (go_at_call 229;first
  | (refine (ga _).mono ?_;rintro r w1 ⟨rfl,rfl⟩;clear ga)
  | (refine (gb _).mono ?_;rintro r w1 ⟨rfl,rfl⟩;clear gb)
  | (refine (gc _).mono ?_;rintro r w1 ⟨rfl,rfl⟩;clear gc))
 exact bodyPost_ret (by simp only [results,Tryz.results220];go_simp) rfl ⟨rfl,rfl⟩
theorem fields_4 (a b c x y z:Int) (w:World)
  (ga:∀ W,CQ 229 #[.int .i64 a] W (.int .i64 1))
  (gb:∀ W,CQ 229 #[.int .i64 b] W (.int .i64 0))
  (gc:∀ W,CQ 229 #[.int .i64 c] W (.int .i64 0))
  (ha:0<=a) (hb:0<=b) (hc:0<=c) (hx:bits .and .i64 (a/2) 3=x) (hy:bits .and .i64 (b/2) 3=y) (hz:bits .and .i64 (c/2) 3=z) :
  CQ 220 #[.int .i64 a,.int .i64 b,.int .i64 c] w (.tuple #[.int .i64 z,.int .i64 y,.int .i64 6]):=by
 have o1:bits .or .i64 4 0=4:=by decide
 have o2:bits .or .i64 4 0=4:=by decide
 go_enter Tryz.func220,Tryz.ntmps220
 go_wp2_with (go_at_call 229;first
  | (refine (ga _).mono ?_;rintro r w1 ⟨rfl,rfl⟩;clear ga)
  | (refine (gb _).mono ?_;rintro r w1 ⟨rfl,rfl⟩;clear gb)
  | (refine (gc _).mono ?_;rintro r w1 ⟨rfl,rfl⟩;clear gc))
 exact bodyPost_ret (by simp only [results,Tryz.results220];go_simp) rfl ⟨rfl,rfl⟩
theorem fields_3 (a b c x y z:Int) (w:World)
  (ga:∀ W,CQ 229 #[.int .i64 a] W (.int .i64 0))
  (gb:∀ W,CQ 229 #[.int .i64 b] W (.int .i64 1))
  (gc:∀ W,CQ 229 #[.int .i64 c] W (.int .i64 1))
  (ha:0<=a) (hb:0<=b) (hc:0<=c) (hx:bits .and .i64 (a/2) 3=x) (hy:bits .and .i64 (b/2) 3=y) (hz:bits .and .i64 (c/2) 3=z) :
  CQ 220 #[.int .i64 a,.int .i64 b,.int .i64 c] w (.tuple #[.int .i64 x,.int .i64 2,.int .i64 7]):=by
 have o1:bits .or .i64 0 2=2:=by decide
 have o2:bits .or .i64 2 1=3:=by decide
 go_enter Tryz.func220,Tryz.ntmps220
 go_wp2_with (go_at_call 229;first
  | (refine (ga _).mono ?_;rintro r w1 ⟨rfl,rfl⟩;clear ga)
  | (refine (gb _).mono ?_;rintro r w1 ⟨rfl,rfl⟩;clear gb)
  | (refine (gc _).mono ?_;rintro r w1 ⟨rfl,rfl⟩;clear gc))
 exact bodyPost_ret (by simp only [results,Tryz.results220];go_simp) rfl ⟨rfl,rfl⟩
theorem fields_5 (a b c x y z:Int) (w:World)
  (ga:∀ W,CQ 229 #[.int .i64 a] W (.int .i64 1))
  (gb:∀ W,CQ 229 #[.int .i64 b] W (.int .i64 0))
  (gc:∀ W,CQ 229 #[.int .i64 c] W (.int .i64 1))
  (ha:0<=a) (hb:0<=b) (hc:0<=c) (hx:bits .and .i64 (a/2) 3=x) (hy:bits .and .i64 (b/2) 3=y) (hz:bits .and .i64 (c/2) 3=z) :
  CQ 220 #[.int .i64 a,.int .i64 b,.int .i64 c] w (.tuple #[.int .i64 y,.int .i64 1,.int .i64 7]):=by
 have o1:bits .or .i64 4 0=4:=by decide
 have o2:bits .or .i64 4 1=5:=by decide
 go_enter Tryz.func220,Tryz.ntmps220
 go_wp2_with (go_at_call 229;first
  | (refine (ga _).mono ?_;rintro r w1 ⟨rfl,rfl⟩;clear ga)
  | (refine (gb _).mono ?_;rintro r w1 ⟨rfl,rfl⟩;clear gb)
  | (refine (gc _).mono ?_;rintro r w1 ⟨rfl,rfl⟩;clear gc))
 exact bodyPost_ret (by simp only [results,Tryz.results220];go_simp) rfl ⟨rfl,rfl⟩
theorem fields_6 (a b c x y z:Int) (w:World)
  (ga:∀ W,CQ 229 #[.int .i64 a] W (.int .i64 1))
  (gb:∀ W,CQ 229 #[.int .i64 b] W (.int .i64 1))
  (gc:∀ W,CQ 229 #[.int .i64 c] W (.int .i64 0))
  (ha:0<=a) (hb:0<=b) (hc:0<=c) (hx:bits .and .i64 (a/2) 3=x) (hy:bits .and .i64 (b/2) 3=y) (hz:bits .and .i64 (c/2) 3=z) :
  CQ 220 #[.int .i64 a,.int .i64 b,.int .i64 c] w (.tuple #[.int .i64 z,.int .i64 0,.int .i64 7]):=by
 have o1:bits .or .i64 4 2=6:=by decide
 have o2:bits .or .i64 6 0=6:=by decide
 go_enter Tryz.func220,Tryz.ntmps220
 go_wp2_with (go_at_call 229;first
  | (refine (ga _).mono ?_;rintro r w1 ⟨rfl,rfl⟩;clear ga)
  | (refine (gb _).mono ?_;rintro r w1 ⟨rfl,rfl⟩;clear gb)
  | (refine (gc _).mono ?_;rintro r w1 ⟨rfl,rfl⟩;clear gc))
 exact bodyPost_ret (by simp only [results,Tryz.results220];go_simp) rfl ⟨rfl,rfl⟩
theorem fields_7 (a b c x y z:Int) (w:World)
  (ga:∀ W,CQ 229 #[.int .i64 a] W (.int .i64 1))
  (gb:∀ W,CQ 229 #[.int .i64 b] W (.int .i64 1))
  (gc:∀ W,CQ 229 #[.int .i64 c] W (.int .i64 1))
  (ha:0<=a) (hb:0<=b) (hc:0<=c) (hx:bits .and .i64 (a/2) 3=x) (hy:bits .and .i64 (b/2) 3=y) (hz:bits .and .i64 (c/2) 3=z) :
  CQ 220 #[.int .i64 a,.int .i64 b,.int .i64 c] w (.tuple #[.int .i64 0,.int .i64 3,.int .i64 7]):=by
 have o1:bits .or .i64 4 2=6:=by decide
 have o2:bits .or .i64 6 1=7:=by decide
 go_enter Tryz.func220,Tryz.ntmps220
 go_wp2_with (go_at_call 229;first
  | (refine (ga _).mono ?_;rintro r w1 ⟨rfl,rfl⟩;clear ga)
  | (refine (gb _).mono ?_;rintro r w1 ⟨rfl,rfl⟩;clear gb)
  | (refine (gc _).mono ?_;rintro r w1 ⟨rfl,rfl⟩;clear gc))
 exact bodyPost_ret (by simp only [results,Tryz.results220];go_simp) rfl ⟨rfl,rfl⟩
def mgT (p s:Int):Int×Int×Int:=if s=2 then (p*2,8,8) else if s=1 then (8,p*2,8) else if s=0 then (8,8,p*2) else (8,8,8)
theorem mgr_v (p s:Int) (w:World) (hp:0<=p/\p<4) (hs:0<=s/\s<4) :
  CQ 219 #[.int .i64 p,.int .i64 s] w (.tuple #[.int .i64 (mgT p s).1,.int .i64 (mgT p s).2.1,.int .i64 (mgT p s).2.2]):=by
 obtain rfl | rfl | rfl | rfl:s=0∨s=1∨s=2∨s=3:=by omega
 all_goals (
  go_enter Tryz.func219,Tryz.ntmps219
  go_wp2
  exact bodyPost_ret (by simp only [results,Tryz.results219];go_simp;first | done | exact ⟨rfl,rfl,rfl⟩) rfl ⟨rfl,rfl⟩)
def evT (p s v:Int):Int×Int×Int:=if v=4 then (p*2,s*2,8) else if v=5 then (p*2,8,s*2) else if v=6 then (8,s*2,p*2) else if v=7 then mgT p s else (p*2,s*2,v*2)
theorem ev_7 (p s x y z:Int) (w:World)
  (cm:∀ W,CQ 219 #[.int .i64 p,.int .i64 s] W (.tuple #[.int .i64 x,.int .i64 y,.int .i64 z])) :
  CQ 199 #[.int .i64 p,.int .i64 s,.int .i64 7] w (.tuple #[.int .i64 x,.int .i64 y,.int .i64 z]):=by
 go_enter Tryz.func199,Tryz.ntmps199
 go_wp2_with (go_at_call 219;refine (cm _).mono ?_;rintro r w1 ⟨rfl,rfl⟩)
 exact bodyPost_ret (by simp only [results,Tryz.results199];go_simp;first | done | exact ⟨rfl,rfl,rfl⟩) rfl ⟨rfl,rfl⟩
theorem evens_v (p s v:Int) (w:World) (hp:0<=p/\p<4) (hs:0<=s/\s<4) (hv:0<=v/\v<8) :
  CQ 199 #[.int .i64 p,.int .i64 s,.int .i64 v] w (.tuple #[.int .i64 (evT p s v).1,.int .i64 (evT p s v).2.1,.int .i64 (evT p s v).2.2]):=by
 by_cases h7:v=7
 ·subst h7
  exact ev_7 p s _ _ _ w (fun W=>mgr_v p s W hp hs)
 by_cases h4:v=4
 ·subst h4
  go_enter Tryz.func199,Tryz.ntmps199
  go_wp2
  exact bodyPost_ret (by simp only [results,Tryz.results199];go_simp;first | done | exact ⟨rfl,rfl,rfl⟩) rfl ⟨rfl,rfl⟩
 by_cases h5:v=5
 ·subst h5
  go_enter Tryz.func199,Tryz.ntmps199
  go_wp2
  exact bodyPost_ret (by simp only [results,Tryz.results199];go_simp;first | done | exact ⟨rfl,rfl,rfl⟩) rfl ⟨rfl,rfl⟩
 by_cases h6:v=6
 ·subst h6
  go_enter Tryz.func199,Tryz.ntmps199
  go_wp2
  exact bodyPost_ret (by simp only [results,Tryz.results199];go_simp;first | done | exact ⟨rfl,rfl,rfl⟩) rfl ⟨rfl,rfl⟩
 have e:evT p s v=(p*2,s*2,v*2):=by
  unfold evT
  rw [if_neg h4,if_neg h5,if_neg h6,if_neg h7]
 rw [e]
 have b4:(v == 4)=false:=by simp [h4]
 have b5:(v == 5)=false:=by simp [h5]
 have b6:(v == 6)=false:=by simp [h6]
 have b7:(v == 7)=false:=by simp [h7]
 go_enter Tryz.func199,Tryz.ntmps199
 go_wp2
 exact bodyPost_ret (by simp only [results,Tryz.results199];go_simp;first | done | exact ⟨rfl,rfl,rfl⟩) rfl ⟨rfl,rfl⟩
section
def fdT (a b c:Int):Int×Int×Int :=
 if a/8=0 then
  if b/8=0 then (if c/8=0 then (bits .and .i64 (a/2) 3,bits .and .i64 (b/2) 3,bits .and .i64 (c/2) 3) else (bits .and .i64 (a/2) 3,bits .and .i64 (b/2) 3,4))
  else (if c/8=0 then (bits .and .i64 (a/2) 3,bits .and .i64 (c/2) 3,5) else (bits .and .i64 (a/2) 3,2,7))
 else
  if b/8=0 then (if c/8=0 then (bits .and .i64 (c/2) 3,bits .and .i64 (b/2) 3,6) else (bits .and .i64 (b/2) 3,1,7))
  else (if c/8=0 then (bits .and .i64 (c/2) 3,0,7) else (0,3,7))
theorem fields_v (a b c:Int) (w:World) (ha:0<=a/\a<=9) (hb:0<=b/\b<=9) (hc:0<=c/\c<=9) :
  CQ 220 #[.int .i64 a,.int .i64 b,.int .i64 c] w (.tuple #[.int .i64 (fdT a b c).1,.int .i64 (fdT a b c).2.1,.int .i64 (fdT a b c).2.2]):=by
 unfold fdT
 by_cases h1:a/8=0
 ·rw [if_pos h1]
  by_cases h2:b/8=0
  ·rw [if_pos h2]
   by_cases h3:c/8=0
   ·rw [if_pos h3]
    exact fields_0 a b c _ _ _ w (fun W=>great_v a 0 ha.1 h1 W) (fun W=>great_v b 0 hb.1 h2 W) (fun W=>great_v c 0 hc.1 h3 W) ha.1 hb.1 hc.1 rfl rfl rfl
   ·rw [if_neg h3]
    exact fields_1 a b c _ _ _ w (fun W=>great_v a 0 ha.1 h1 W) (fun W=>great_v b 0 hb.1 h2 W) (fun W=>great_v c 1 hc.1 (by omega) W) ha.1 hb.1 hc.1 rfl rfl rfl
  ·rw [if_neg h2]
   by_cases h3:c/8=0
   ·rw [if_pos h3]
    exact fields_2 a b c _ _ _ w (fun W=>great_v a 0 ha.1 h1 W) (fun W=>great_v b 1 hb.1 (by omega) W) (fun W=>great_v c 0 hc.1 h3 W) ha.1 hb.1 hc.1 rfl rfl rfl
   ·rw [if_neg h3]
    exact fields_3 a b c _ _ _ w (fun W=>great_v a 0 ha.1 h1 W) (fun W=>great_v b 1 hb.1 (by omega) W) (fun W=>great_v c 1 hc.1 (by omega) W) ha.1 hb.1 hc.1 rfl rfl rfl
 ·rw [if_neg h1]
  by_cases h2:b/8=0
  ·rw [if_pos h2]
   by_cases h3:c/8=0
   ·rw [if_pos h3]
    exact fields_4 a b c _ _ _ w (fun W=>great_v a 1 ha.1 (by omega) W) (fun W=>great_v b 0 hb.1 h2 W) (fun W=>great_v c 0 hc.1 h3 W) ha.1 hb.1 hc.1 rfl rfl rfl
   ·rw [if_neg h3]
    exact fields_5 a b c _ _ _ w (fun W=>great_v a 1 ha.1 (by omega) W) (fun W=>great_v b 0 hb.1 h2 W) (fun W=>great_v c 1 hc.1 (by omega) W) ha.1 hb.1 hc.1 rfl rfl rfl
  ·rw [if_neg h2]
   by_cases h3:c/8=0
   ·rw [if_pos h3]
    exact fields_6 a b c _ _ _ w (fun W=>great_v a 1 ha.1 (by omega) W) (fun W=>great_v b 1 hb.1 (by omega) W) (fun W=>great_v c 0 hc.1 h3 W) ha.1 hb.1 hc.1 rfl rfl rfl
   ·rw [if_neg h3]
    exact fields_7 a b c _ _ _ w (fun W=>great_v a 1 ha.1 (by omega) W) (fun W=>great_v b 1 hb.1 (by omega) W) (fun W=>great_v c 1 hc.1 (by omega) W) ha.1 hb.1 hc.1 rfl rfl rfl
def dcT (a b c:Int):Int:=bits .or .i64 (bits .or .i64 (bits .or .i64 (bits .or .i64 (bits .or .i64 ((fdT a b c).1*256) (bits .and .i64 a 1*128)) ((fdT a b c).2.1*32)) (bits .and .i64 b 1*16)) ((fdT a b c).2.2*2)) (bits .and .i64 c 1)
theorem dc_all (n:Nat) (hn:n<1000):dcT ((n:Int)/100) ((n:Int)/10%10) ((n:Int)%10)=(dlE n:Int)/\(0<=(fdT ((n:Int)/100) ((n:Int)/10%10) ((n:Int)%10)).1/\(fdT ((n:Int)/100) ((n:Int)/10%10) ((n:Int)%10)).1<4)/\(0<=(fdT ((n:Int)/100) ((n:Int)/10%10) ((n:Int)%10)).2.1/\(fdT ((n:Int)/100) ((n:Int)/10%10) ((n:Int)%10)).2.1<4)/\(0<=(fdT ((n:Int)/100) ((n:Int)/10%10) ((n:Int)%10)).2.2/\(fdT ((n:Int)/100) ((n:Int)/10%10) ((n:Int)%10)).2.2<8):=by
 have h:=upTo_all (f:=fun n=>decide (dcT ((n:Int)/100) ((n:Int)/10%10) ((n:Int)%10)=(dlE n:Int)/\(0<=(fdT ((n:Int)/100) ((n:Int)/10%10) ((n:Int)%10)).1/\(fdT ((n:Int)/100) ((n:Int)/10%10) ((n:Int)%10)).1<4)/\(0<=(fdT ((n:Int)/100) ((n:Int)/10%10) ((n:Int)%10)).2.1/\(fdT ((n:Int)/100) ((n:Int)/10%10) ((n:Int)%10)).2.1<4)/\(0<=(fdT ((n:Int)/100) ((n:Int)/10%10) ((n:Int)%10)).2.2/\(fdT ((n:Int)/100) ((n:Int)/10%10) ((n:Int)%10)).2.2<8))) (m:=1000) (by decide +kernel) n hn
 exact of_decide_eq_true h
theorem and_low (n:Nat) (hn:n<1024):bits .and .i64 (n:Int) 1=((n%2:Nat):Int):=by
 have h:=upTo_all (f:=fun n=>decide (bits .and .i64 (n:Int) 1=((n%2:Nat):Int))) (m:=1024) (by decide +kernel) n hn
 exact of_decide_eq_true h
section
variable (n a b c P S V x y z R:Int) (w:World) (h0:¬ n<0) (h9:¬ 1000<=n) (ea:n/100=a) (eb:n/10%10=b) (ec:n%10=c)
 (cf:∀ W,CQ 220 #[.int .i64 a,.int .i64 b,.int .i64 c] W (.tuple #[.int .i64 P,.int .i64 S,.int .i64 V]))
 (hP0:0<=P) (hP1:P<4) (hS0:0<=S) (hS1:S<4) (hV0:0<=V) (hV1:V<8)
 (hx:bits .and .i64 a 1=x) (hy:bits .and .i64 b 1=y) (hz:bits .and .i64 c 1=z) (hx0:0<=x) (hx1:x<2) (hy0:0<=y) (hy1:y<2)
 (hR:bits .or .i64 (bits .or .i64 (bits .or .i64 (bits .or .i64 (bits .or .i64 (P*256) (x*128)) (S*32)) (y*16)) (V*2)) z=R)
include h0 h9 ea eb ec cf hP0 hP1 hS0 hS1 hV0 hV1 hx hy hz hx0 hx1 hy0 hy1 hR
theorem denc_w:CQ 201 #[.int .i64 n] w (.tuple #[.int .i64 R,.int .i64 0]):=by
 go_enter Tryz.func201,Tryz.ntmps201
 go_wp2_with (go_at_call 220;refine (cf _).mono ?_;rintro r w1 ⟨rfl,rfl⟩)
 exact bodyPost_ret (by simp only [results,Tryz.results201];go_simp) rfl ⟨rfl,rfl⟩
end
theorem denc_v (n:Nat) (hn:n<1000) (w:World):CQ 201 #[.int .i64 (n:Int)] w (.tuple #[.int .i64 (dlE n:Int),.int .i64 0]):=by
 obtain ⟨hR,⟨p0,p1⟩,⟨s0,s1⟩,⟨v0,v1⟩⟩:=dc_all n hn
 unfold dcT at hR
 have la:=and_low (n/100) (by omega)
 have lb:=and_low (n/10%10) (by omega)
 rw [show ((n/100:Nat):Int)=(n:Int)/100 by omega] at la
 rw [show ((n/10%10:Nat):Int)=(n:Int)/10%10 by omega] at lb
 exact denc_w (n:Int) _ _ _ _ _ _ _ _ _ _ w (by omega) (by omega) rfl rfl rfl (fun W=>fields_v _ _ _ W (by omega) (by omega) (by omega)) p0 p1 s0 s1 v0 v1 rfl rfl rfl (by rw [la];omega) (by rw [la];omega) (by rw [lb];omega) (by rw [lb];omega) hR
def dmT (d:Nat):Int:=100*bits .or .i64 (evT ((d:Int)/256) (bits .and .i64 ((d:Int)/32) 3) (bits .and .i64 ((d:Int)/2) 7)).1 (bits .and .i64 ((d:Int)/128) 1)+10*bits .or .i64 (evT ((d:Int)/256) (bits .and .i64 ((d:Int)/32) 3) (bits .and .i64 ((d:Int)/2) 7)).2.1 (bits .and .i64 ((d:Int)/16) 1)+bits .or .i64 (evT ((d:Int)/256) (bits .and .i64 ((d:Int)/32) 3) (bits .and .i64 ((d:Int)/2) 7)).2.2 (bits .and .i64 (d:Int) 1)
theorem dm_all (d:Nat) (hd:d<1024):dmT d=(dlD d:Int)/\(0<=bits .and .i64 ((d:Int)/32) 3/\bits .and .i64 ((d:Int)/32) 3<4)/\(0<=bits .and .i64 ((d:Int)/2) 7/\bits .and .i64 ((d:Int)/2) 7<8)/\(0<=bits .or .i64 (evT ((d:Int)/256) (bits .and .i64 ((d:Int)/32) 3) (bits .and .i64 ((d:Int)/2) 7)).1 (bits .and .i64 ((d:Int)/128) 1)/\bits .or .i64 (evT ((d:Int)/256) (bits .and .i64 ((d:Int)/32) 3) (bits .and .i64 ((d:Int)/2) 7)).1 (bits .and .i64 ((d:Int)/128) 1)<=9)/\(0<=bits .or .i64 (evT ((d:Int)/256) (bits .and .i64 ((d:Int)/32) 3) (bits .and .i64 ((d:Int)/2) 7)).2.1 (bits .and .i64 ((d:Int)/16) 1)/\bits .or .i64 (evT ((d:Int)/256) (bits .and .i64 ((d:Int)/32) 3) (bits .and .i64 ((d:Int)/2) 7)).2.1 (bits .and .i64 ((d:Int)/16) 1)<=9)/\(0<=bits .or .i64 (evT ((d:Int)/256) (bits .and .i64 ((d:Int)/32) 3) (bits .and .i64 ((d:Int)/2) 7)).2.2 (bits .and .i64 (d:Int) 1)/\bits .or .i64 (evT ((d:Int)/256) (bits .and .i64 ((d:Int)/32) 3) (bits .and .i64 ((d:Int)/2) 7)).2.2 (bits .and .i64 (d:Int) 1)<=9):=by
 have h:=upTo_all (f:=fun d=>decide (dmT d=(dlD d:Int)/\(0<=bits .and .i64 ((d:Int)/32) 3/\bits .and .i64 ((d:Int)/32) 3<4)/\(0<=bits .and .i64 ((d:Int)/2) 7/\bits .and .i64 ((d:Int)/2) 7<8)/\(0<=bits .or .i64 (evT ((d:Int)/256) (bits .and .i64 ((d:Int)/32) 3) (bits .and .i64 ((d:Int)/2) 7)).1 (bits .and .i64 ((d:Int)/128) 1)/\bits .or .i64 (evT ((d:Int)/256) (bits .and .i64 ((d:Int)/32) 3) (bits .and .i64 ((d:Int)/2) 7)).1 (bits .and .i64 ((d:Int)/128) 1)<=9)/\(0<=bits .or .i64 (evT ((d:Int)/256) (bits .and .i64 ((d:Int)/32) 3) (bits .and .i64 ((d:Int)/2) 7)).2.1 (bits .and .i64 ((d:Int)/16) 1)/\bits .or .i64 (evT ((d:Int)/256) (bits .and .i64 ((d:Int)/32) 3) (bits .and .i64 ((d:Int)/2) 7)).2.1 (bits .and .i64 ((d:Int)/16) 1)<=9)/\(0<=bits .or .i64 (evT ((d:Int)/256) (bits .and .i64 ((d:Int)/32) 3) (bits .and .i64 ((d:Int)/2) 7)).2.2 (bits .and .i64 (d:Int) 1)/\bits .or .i64 (evT ((d:Int)/256) (bits .and .i64 ((d:Int)/32) 3) (bits .and .i64 ((d:Int)/2) 7)).2.2 (bits .and .i64 (d:Int) 1)<=9))) (m:=1024) (by decide +kernel) d hd
 exact of_decide_eq_true h
section
variable (d s v x y z xa ya za X Y Z R:Int) (w:World) (h0:¬ d<0) (h0':0<=d) (h9:¬ 1024<=d) (hs:bits .and .i64 (d/32) 3=s) (hv:bits .and .i64 (d/2) 7=v)
 (cf:∀ W,CQ 199 #[.int .i64 (d/256),.int .i64 s,.int .i64 v] W (.tuple #[.int .i64 x,.int .i64 y,.int .i64 z]))
 (ha:bits .and .i64 (d/128) 1=xa) (hb:bits .and .i64 (d/16) 1=ya) (hc:bits .and .i64 d 1=za)
 (hx:bits .or .i64 x xa=X) (hy:bits .or .i64 y ya=Y) (hz:bits .or .i64 z za=Z) (hX0:0<=X) (hX1:X<=9) (hY0:0<=Y) (hY1:Y<=9) (hZ0:0<=Z) (hZ1:Z<=9)
 (hR:100*X+10*Y+Z=R)
include h0 h0' h9 hs hv cf ha hb hc hx hy hz hX0 hX1 hY0 hY1 hZ0 hZ1 hR
theorem ddcd_w:CQ 173 #[.int .i64 d] w (.tuple #[.int .i64 R,.int .i64 0]):=by
 go_enter Tryz.func173,Tryz.ntmps173
 go_wp2_with (go_at_call 199;refine (cf _).mono ?_;rintro r w1 ⟨rfl,rfl⟩)
 exact bodyPost_ret (by simp only [results,Tryz.results173];go_simp) rfl ⟨rfl,rfl⟩
end
theorem ddcd_v (d:Nat) (hd:d<1024) (w:World):CQ 173 #[.int .i64 (d:Int)] w (.tuple #[.int .i64 (dlD d:Int),.int .i64 0]):=by
 obtain ⟨hR,hs,hv,⟨x0,x1⟩,⟨y0,y1⟩,⟨z0,z1⟩⟩:=dm_all d hd
 exact ddcd_w (d:Int) _ _ _ _ _ _ _ _ _ _ _ _ w (by omega) (by omega) (by omega) rfl rfl (fun W=>evens_v _ _ _ W (by omega) hs hv) rfl rfl rfl rfl rfl rfl x0 x1 y0 y1 z0 z1 hR
end
end Go.Proofs.YtpabnhlfbjkmaaaGreatDoor

set_option maxRecDepth 100000
namespace Go.Proofs.YtpabnhlfbjkmaaaGreatDoor
open Go.ChangeShapes Go.WideShapes Go.ChangeAt Go.RowKit
def firstCells:Array Value:=(((List.replicate 128 240++List.replicate 66 241++List.replicate 30 2++[19]++List.replicate 12 3++[35]++List.replicate 2 3++[52]++List.replicate 3 4++[68]++List.replicate 11 241:List Int)).map fun n=>Value.int .u8 n).toArray
def rangeCells:Array Value:=((([128,191,160,191,128,159,144,191,128,143]++List.replicate 22 0:List Int)).map fun n=>Value.int .u8 n).toArray
def db32Cells:Array Value:=(([0,1,28,2,29,14,24,3,30,22,20,15,25,17,4,8,31,27,13,23,21,19,16,7,26,12,18,6,11,5,10,9]:List Int).map fun n=>Value.int .u8 n).toArray
def db64Cells:Array Value:=((([0,1,56,2,57,49,28,3,61,58,42,50,38,29,17,4,62,47,59,36,45,43,51,22,53,39,33,30,24,18,12,5]++[63,55,48,27,60,41,37,16,46,35,44,21,52,32,23,11,54,26,40,15,34,20,31,10,25,14,19,9,13,8,7,6]:List Int)).map fun n=>Value.int .u8 n).toArray
def pow10Cells:Array Value:=((List.range 20).map fun k=>Value.int .u64 ((10^k:Nat):Int)).toArray
noncomputable def laidWorld8 (os:Os):World :=
 { World.holding Tryz.prog os ⟨#[],#[],[]⟩ with heap:=((((((World.holding Tryz.prog os ⟨#[],#[],[]⟩).heap.modify 0 (layCells tabCells)).modify 3 (layCells pow10Cells)).modify 6 (layCells db32Cells)).modify 7 (layCells db64Cells)).modify 4 (layCells firstCells)).modify 5 (layCells rangeCells) }
theorem laid_tail {P:Program} {W:World} {x:String×DataW Unit} {r:List (String×DataW Unit)} (h:laidMet P (x :: r) W):laidMet P r W:=by
 obtain ⟨ps,⟨g,t,cs,fuel,p,q,_,_,_,_,hr,rfl⟩,hn,hc⟩:=h
 refine ⟨q,hr,?_,fun b off hm=>hc b off (by simp [hm])⟩
 exact (List.nodup_append.1 hn).2.1
theorem pw10_of_list {W:World} {x y:String×DataW Unit} {r:List (String×DataW Unit)} (h:laidMet Tryz.prog (x :: y :: ("internal/strconv.uint64pow10",Lib.tabData .u64 Lib.pow10Tab) :: r) W):Tb10 W :=
 Lib.tabIs_of_head (P:=Tryz.prog) (name := "internal/strconv.uint64pow10") (k:=.u64) (zs:=Lib.pow10Tab) (g:=3) (t:=219) (e:=22) (n:=20) (by kernel_rfl) (by kernel_rfl) (by kernel_rfl) (by kernel_rfl) (by kernel_rfl) (by kernel_rfl) (laid_tail (laid_tail h))
theorem tab_of_list {W:World} {x0 x1 x2 x3:String×DataW Unit} {r:List (String×DataW Unit)} (h:laidMet Tryz.prog (x0 :: x1 :: x2 :: x3 :: ("caliper/desc.rows",Rows.laid_caliper_desc_rows) :: r) W):Tab W :=
 tab_of_laid (laid_tail (laid_tail (laid_tail (laid_tail h))))
section
variable {H:Type} {enc:TypeId×Value->H} {W:World} {r:Reach} {base b:Nat} {sp:Nat->Bool} {held:Bool} {t:TypeId} {n:Nat} {v:Value} {d:DataW H} {p:List MemPlace}
end
end Go.Proofs.YtpabnhlfbjkmaaaGreatDoor
