/-
  Texts that the proof leans on.
-/
import Derived.Test.YtjfeaiaafbaobaaGreatDoorJ33
import Derived.Test.YtjfeaiaafbaobaaGreatDoorJ1
import Derived.Test.YtjfeaiaafbaobaaGreatDoorJ28
import Derived.Test.YtjfeaiaafbaobaaGreatDoorJ8
import Derived.Test.YtjfeaiaafbaobaaGreatDoorJ6
import Derived.Deep.Cut
import Derived.Deep.CutRange
import Derived.Deep.RegionWith
import Derived.Test.YtjfeaiaafbaobaaGreatDoorJ12
import Derived.Test.YtjfeaiaafbaobaaGreatDoorJ26
import Derived.Test.YtjfeaiaafbaobaaGreatDoorJ21
import Derived.Lib.TrimByte
import Derived.Lib.ItoaLen
import Derived.Test.YtjfeaiaafbaobaaGreatDoorJ3
import Derived.Test.YtjfeaiaafbaobaaGreatDoorJ2
set_option linter.unusedVariables false
set_option linter.unusedSectionVars false
set_option linter.unusedSimpArgs false
set_option maxHeartbeats 8000000
set_option maxRecDepth 20000
namespace Go.Proofs.YtjfeaiaafbaobaaGreatDoor
open Go.RowKit
theorem nr_shift (d:Int)(s:Bool)(N D a b:Nat)(k:Int):nrC d s (N*2^a) (D*2^b) k=nrC d s N D (k+((a:Int)-b))/\(nrR (N*2^a) (D*2^b) k=0↔nrR N D (k+((a:Int)-b))=0):=by
 have h:=wh_sc d s N D (a+k.toNat) (b+(-k).toNat) (n:=k+((a:Int)-b)) (by omega)
 rw [Nat.pow_add,Nat.pow_add,← Nat.mul_assoc,← Nat.mul_assoc] at h
 exact h
theorem rX_shift {n:Int}{N D:Nat}(hN:N≠0)(hD:D≠0)(a b:Nat)(x:Int):rX n (N*2^a) (D*2^b) x=rX n N D (x+((a:Int)-b))-((a:Int)-b):=by
 unfold rX wiZ
 rw [ld_shift hN hD]
 omega
theorem rd_shift (n d:Int)(s:Bool)(N:Nat){D:Nat}(hD:D≠0)(a b:Nat)(x:Int):rdV n d s (N*2^a) (D*2^b) x=rdV n d s N D (x+((a:Int)-b))/\rdF n d s (N*2^a) (D*2^b) x=rdF n d s N D (x+((a:Int)-b)):=by
 by_cases hN:N=0
 ·subst hN
  rw [Nat.zero_mul]
  unfold rdV rdF
  rw [if_pos rfl,if_pos rfl,if_pos rfl,if_pos rfl]
  exact ⟨rfl,rfl⟩
 have hN':N*2^a≠0:=Nat.mul_ne_zero hN (Nat.pos_iff_ne_zero.1 (Nat.two_pow_pos _))
 have eX:=rX_shift (n:=n) hN hD a b x
 have eL:=ld_shift hN hD a b
 have eQ:rQ n (N*2^a) (D*2^b) x=rQ n N D (x+((a:Int)-b)):=by
  unfold rQ;rw [eX,eL];congr 1;omega
 have hk:=nr_shift d s N D a b (rX n (N*2^a) (D*2^b) x-rQ n (N*2^a) (D*2^b) x)
 rw [show rX n (N*2^a) (D*2^b) x-rQ n (N*2^a) (D*2^b) x+((a:Int)-b)=rX n N D (x+((a:Int)-b))-rQ n N D (x+((a:Int)-b)) by rw [eX,eQ];omega] at hk
 have eC:rC n d s (N*2^a) (D*2^b) x=rC n d s N D (x+((a:Int)-b)):=hk.1
 have eC':rC' n d s (N*2^a) (D*2^b) x=rC' n d s N D (x+((a:Int)-b)):=by unfold rC';rw [eC]
 have eQ':rQ' n d s (N*2^a) (D*2^b) x=rQ' n d s N D (x+((a:Int)-b)):=by unfold rQ';rw [eC,eQ]
 have eS:ld (N*2^a) (D*2^b)+rX n (N*2^a) (D*2^b) x=ld N D+rX n N D (x+((a:Int)-b)):=by rw [eX,eL];omega
 unfold rdV rdF
 rw [if_neg hN,if_neg hN,if_neg hN',if_neg hN',eC',eQ',eS]
 refine ⟨rfl,?_⟩
 simp only [hk.2]
def tN (A:Nat)(e:Int):Nat:=A*5^e.toNat
def tD (e:Int):Nat:=5^(-e).toNat
theorem tD_ne (e:Int):tD e≠0:=Nat.pos_iff_ne_zero.1 (Nat.pow_pos (by decide))
theorem p10_split (k:Nat):10^k=5^k*2^k:=by rw [← Nat.mul_pow]
theorem ten_shift (n d:Int)(s:Bool)(A:Nat)(e:Int):rdV n d s (A*10^e.toNat) (10^(-e).toNat) 0=rdV n d s (tN A e) (tD e) e/\rdF n d s (A*10^e.toNat) (10^(-e).toNat) 0=rdF n d s (tN A e) (tD e) e:=by
 have h:=rd_shift n d s (tN A e) (tD_ne e) e.toNat (-e).toNat 0
 unfold tN tD at h ⊢
 rw [Nat.mul_assoc,← p10_split,← p10_split,show (0:Int)+((e.toNat:Int)-((-e).toNat:Int))=e by omega] at h
 exact h
section
theorem five_bl (k:Nat):bl (5^k)<=3*k+1:=by
 refine bl_le.2 ?_
 have h1:5^k<=8^k:=Nat.pow_le_pow_left (by decide) k
 have h2:(8:Nat)^k=2^(3*k):=by rw [Nat.pow_mul]
 have h3:(2:Nat)^(3*k)<2^(3*k+1):=Nat.pow_lt_pow_right (by decide) (by omega)
 omega
theorem bl_mul (a b:Nat):bl (a*b)<=bl a+bl b:=by
 refine bl_le.2 ?_
 rw [Nat.pow_add]
 have h1:=bl_le.1 (Nat.le_refl (bl a))
 have h2:=bl_le.1 (Nat.le_refl (bl b))
 exact Nat.mul_lt_mul'' h1 h2
theorem npow5 (m:Nat)(w:World)(hm:m<=12000):Calls Tryz.prog 61 #[.int .i64 5,.int .i64 (m:Int)] w fun r w'=>∃ v,r=.returned (.tuple #[v,.int .i64 0])/\Nt 2001 (5^m) v w'/\Below w.heap.size w w':=by
 refine (npow_any 5 m w (Or.inl rfl) hm).mono fun r w' ⟨g,k,cap,z,e1,hk,hN,hv,hs,hB⟩=>⟨_,e1,⟨_,k,cap,z,rfl,hk,hN,?_⟩,hB⟩
 rw [hv];simp
attribute [local irreducible] W4 Nz Nt
section
variable (n d:Int)(c:Int)(s g:Bool)(l:List UInt8)(x e:Int)(A P R:Nat)(F E:Int)(w:World)(hT:Tab w)(heb:-20000<=e/\e<=20000)
 (c65:∀ W,CB 152 #[PV c s g l x] W (.int .i64 e))
 (c66:∀ W,CE 153 #[.string (B l)] W (Nz 251 A))
include hT heb c65 c66
end
section
variable (n d:Int)(c:Int)(s g:Bool)(l:List UInt8)(x:Int)(T:List UInt8)(nm:ByteArray)(wd:Int)(f e:Nat)(lo m:Int)(w:World)(hT:Tab w)
include hT
variable (c28:∀ W,Tab W->CB 53 #[.int .i64 n,.int .i64 d] W (.tuple #[DI n nm wd f e lo m,.int .i64 0]))
include c28
variable (c31:∀ W,Below w.heap.size w W->CB 82 #[PV c s g l x] W (.tuple #[.string (B T),.int .i64 0]))
include c31
end
end
def cvV (n d:Int)(D:Dat):Nat:=if D.c=2 then pkV n ⟨2,D.s,false,0,0⟩ else if D.c=3 then pkV n ⟨3,D.s,false,0,if D.k<2^(fN n-1) then D.k else 0⟩ else rdV n d D.s D.k 1 D.x
def cvF (n d:Int)(D:Dat):Int:=if D.c=2 then 0 else if D.c=3 then (if D.g then 1 else 0) else rdF n d D.s D.k 1 D.x
theorem fN_two {n:Int}(hb:binN n):2<=fN n:=by
 rcases bin_cases hb with rfl|rfl|rfl|rfl|rfl|rfl<;>decide
/-! the sign -/
theorem nbit12 {f e K:Nat}(hf:1<=f)(hK:K<2^(f-1)):(2^e-1)*2^f+(K+2^(f-1))<2^(f+e):=by
 have h1:2^(f-1)+2^(f-1)=2^f:=by
  rw [← Nat.two_mul,← Nat.pow_succ',show (f-1).succ=f by omega]
 have h2:(2^e-1)*2^f+2^f=2^e*2^f:=by
  rw [Nat.sub_mul,Nat.one_mul]
  have:2^f<=2^e*2^f:=Nat.le_mul_of_pos_left _ (Nat.two_pow_pos _)
  omega
 have h3:2^(f+e)=2^e*2^f:=by rw [Nat.pow_add,Nat.mul_comm]
 omega
theorem pk_nan12 {n:Int}{k:Nat}(hb:binN n)(hk:k<2^(fN n-1)):pkV n ⟨3,true,false,0,k⟩=pkV n ⟨3,false,false,0,k⟩+2^(fN n+eN n)/\pkV n ⟨3,false,false,0,k⟩<2^(fN n+eN n):=by
 have hf2:=fN_two hb
 have h:∀ s,isD (fN n) (leastN n) (mostN n) ⟨3,s,false,0,k⟩:=fun s=>Or.inr (Or.inr ⟨rfl,rfl,hk,Or.inr rfl⟩)
 unfold pkV
 rw [if_pos ⟨hb,h true⟩,if_pos ⟨hb,h false⟩]
 unfold pk
 simp only [show ¬ ((3:Int)=1) by decide,show ¬ ((3:Int)=2) by decide,if_false,if_true,Bool.false_eq_true,Nat.add_zero]
 exact ⟨trivial,nbit12 (by omega) hk⟩
theorem cv_turn {t:Int}(d:Int)(hb:binN t)(c:Int)(g:Bool)(x:Int)(k:Nat):cvV t (othD d) ⟨c,true,g,x,k⟩=cvV t d ⟨c,false,g,x,k⟩+2^(fN t+eN t)/\cvF t (othD d) ⟨c,true,g,x,k⟩=cvF t d ⟨c,false,g,x,k⟩/\cvV t d ⟨c,false,g,x,k⟩<2^(fN t+eN t):=by
 unfold cvV cvF
 dsimp only
 by_cases h2:c=2
 ·simp only [h2,if_true]
  rw [pk_inf hb,pk_inf hb]
  unfold sgN
  simp only [if_true,Bool.false_eq_true,if_false,Nat.add_zero]
  exact ⟨trivial,trivial,tp_lt hb⟩
 ·simp only [h2,if_false]
  by_cases h3:c=3
  ·simp only [h3,if_true]
   have hk:(if k<2^(fN t-1) then k else 0)<2^(fN t-1):=by
    by_cases h:k<2^(fN t-1)
    ·rw [if_pos h];exact h
    ·rw [if_neg h];exact Nat.two_pow_pos _
   obtain ⟨a,b⟩:=pk_nan12 hb hk
   exact ⟨a,trivial,b⟩
  ·simp only [h3,if_false]
   exact rd_turn d _ _ hb (by decide)
/-! the order -/
/-! what Convert answers -/
def cnG (m t d:Int)(B:Nat):Prop:=goodN m B/\binN t/\knB d
instance (m t d:Int) (B:Nat):Decidable (cnG m t d B):=by unfold cnG;infer_instance
section
attribute [local irreducible] W4 NT NV
theorem DV_nul (c:Int)(s g:Bool)(x:Int):DV c s g x 0=.agg #[.int .i64 c,.bool s,.bool g,.int .i64 x,.int .u64 0,.int .u64 0,.int .u64 0,.int .u64 0]:=by
 unfold DV;simp only [W4_zero]
theorem rpow4 (p:Nat)(w:World)(hp:p<=12000):CE 74 #[.int .i64 2,.int .i64 p] w (NV 50000 (2^p)):=by
 have c:=fun W=>rpow_nv p W hp
 go_enter Tryz.func74,Tryz.ntmps74
 go_wp2_with (go_at_call 17;refine (c _).mono ?_;rintro r w1 ⟨v,rfl,hv,hb1⟩)
 go_ret
 exact ⟨v,rfl,hv,hb1⟩
theorem sgn_lt (A B:Nat):decide (sgn (A:Int) (B:Int)<0)=decide (A<B):=by
 rcases sgn_ways (A:Int) (B:Int) with ⟨a,e⟩|⟨a,e⟩|⟨a,e⟩
 ·rw [e,decide_eq_true (show A<B by omega)];rfl
 ·rw [e,decide_eq_false (show ¬ A<B by omega)];rfl
 ·rw [e,decide_eq_false (show ¬ A<B by omega)];rfl
theorem rbelow_v (k p:Nat)(w:World)(hk:k<2^256)(hp:p<=12000):CB 38 #[A4 k,.int .i64 2,.int .i64 p] w (.bool (decide (k<2^p))):=by
 have c1:=fun W=>rpow4 p W hp
 have hs:=sgn_lt k (2^p)
 go_enter Tryz.func38,Tryz.ntmps38
 go_wp2
 go_region_with (first
  | (go_at_call 74;refine (c1 _).mono ?_;rintro e w1 ⟨v1,rfl,hl,hb1⟩;have hbx:=box_nv (w0:=w) (B:=k) (t:=24) hk (bnext bgo hb1);obtain ⟨_,_,_,_,hA1,_⟩:=wz w hb1;clear hb1)
  | (go_at_call 73;refine (rcmp_nv (by decide) (by decide) hbx hl).mono ?_;rintro e w2 ⟨rfl,rfl⟩))
 go_wp2
 go_ret
 exact ⟨congrArg (fun b=>Ending.returned (.bool b)) hs,bgo⟩
section
variable (t:Int)(nm:ByteArray)(wd:Int)(f e:Nat)(l m:Int)(c x:Int)(s g:Bool)(k:Nat)(w:World)
 (c18:∀ W,CB 14 #[.int .i64 t] W (.tuple #[IV t nm wd f e l m,.int .i64 0]))
include c18
theorem rnan_y (c67:∀ W,CB 38 #[A4 k,.int .i64 2,.int .i64 ((f:Int)-1)] W (.bool true)) :
  CB 70 #[.int .i64 t,DV c s g x k] w (.tuple #[DV c s false x k,.int .i64 (if g then 1 else 0)]):=by
 have hsm:=cell_set_map
 unfold A4 at c67
 cases g
 all_goals (
  go_enter Tryz.func70,Tryz.ntmps70
  go_wp2_with (first
   | (go_at_call 14;refine (c18 _).mono ?_;rintro r w1 ⟨rfl,hb1⟩;obtain ⟨_,_,_,_,hA1,_⟩:=wz w hb1;obtain ⟨_,_⟩:=zf hb1 (w.heap.size+1);clear hb1)
   | (go_at_call 38;refine (c67 _).mono ?_;rintro r w2 ⟨rfl,hb2⟩;obtain ⟨_,hf2,_,_,hA2,_⟩:=wz w hb2;obtain ⟨_,_⟩:=zf hb2 (w.heap.size+1);obtain ⟨_,_⟩:=zf hb2 w1.heap.size;clear hb2))
  exact bodyPost_ret (by simp only [results,Tryz.results70];go_simp) rfl ⟨rfl,bgo⟩)
theorem rnan_n (c67:∀ W,CB 38 #[A4 k,.int .i64 2,.int .i64 ((f:Int)-1)] W (.bool false)) :
  CB 70 #[.int .i64 t,DV c s g x k] w (.tuple #[.agg #[.int .i64 c,.bool s,.bool false,.int .i64 x,.int .u64 0,.int .u64 0,.int .u64 0,.int .u64 0],.int .i64 (if g then 1 else 0)]):=by
 have hsm:=cell_set_map
 unfold A4 at c67
 cases g
 all_goals (
  go_enter Tryz.func70,Tryz.ntmps70
  go_wp2_with (first
   | (go_at_call 14;refine (c18 _).mono ?_;rintro r w1 ⟨rfl,hb1⟩;obtain ⟨_,_,_,_,hA1,_⟩:=wz w hb1;obtain ⟨_,_⟩:=zf hb1 (w.heap.size+1);clear hb1)
   | (go_at_call 38;refine (c67 _).mono ?_;rintro r w2 ⟨rfl,hb2⟩;obtain ⟨_,hf2,_,_,hA2,_⟩:=wz w hb2;obtain ⟨_,_⟩:=zf hb2 (w.heap.size+1);obtain ⟨_,_⟩:=zf hb2 w1.heap.size;clear hb2))
  exact bodyPost_ret (by simp only [results,Tryz.results70];go_simp) rfl ⟨rfl,bgo⟩)
end
theorem rnan_v {t:Int}(hb:binN t)(c x:Int)(s g:Bool)(k:Nat)(hk:k<2^256)(w:World) :
  CB 70 #[.int .i64 t,DV c s g x k] w (.tuple #[DV c s false x (if k<2^(fN t-1) then k else 0),.int .i64 (if g then 1 else 0)]):=by
 have c18:=fun W=>rof_bin hb W
 have hf:=fN_two hb
 have hf2:fN t<=240:=by rcases bin_cases hb with rfl|rfl|rfl|rfl|rfl|rfl<;>decide
 have c67:=fun W=>rbelow_v k (fN t-1) W hk (by omega)
 rw [show ((fN t-1:Nat):Int)=(fN t:Int)-1 by omega] at c67
 by_cases h:k<2^(fN t-1)
 ·rw [if_pos h]
  rw [decide_eq_true h] at c67
  exact rnan_y t _ _ _ _ _ _ c x s g k w c18 c67
 ·rw [if_neg h,show DV c s false x 0=_ from DV_nul c s false x]
  rw [decide_eq_false h] at c67
  exact rnan_n t _ _ _ _ _ _ c x s g k w c18 c67
end
theorem ld_sc {N D c:Nat}(hN:N≠0)(hD:D≠0)(hc:0<c):ld (N*c) (D*c)=ld N D:=by
 have hNc:N*c≠0:=Nat.mul_ne_zero hN (by omega)
 have hDc:D*c≠0:=Nat.mul_ne_zero hD (by omega)
 obtain ⟨K,hK⟩:∃ K:Nat,K=bl D+bl N+bl (D*c)+bl (N*c)+2:=⟨_,rfl⟩
 obtain ⟨h1,h2⟩:=ld_bd hN hD K (by omega)
 obtain ⟨g1,g2⟩:=ld_bd hNc hDc K (by omega)
 have l1:(bl N:Int)-bl D-1<=ld N D/\ld N D<=(bl N:Int)-bl D:=by unfold ld;dsimp only;split<;>omega
 have l2:(bl (N*c):Int)-bl (D*c)-1<=ld (N*c) (D*c)/\ld (N*c) (D*c)<=(bl (N*c):Int)-bl (D*c):=by unfold ld;dsimp only;split<;>omega
 rw [Nat.mul_right_comm D,Nat.mul_right_comm N] at g1 g2
 have g1':=Nat.le_of_mul_le_mul_right g1 hc
 have g2':=Nat.lt_of_mul_lt_mul_right g2
 have a1:=Nat.lt_of_mul_lt_mul_left (Nat.lt_of_le_of_lt h1 g2')
 have a2:=Nat.lt_of_mul_lt_mul_left (Nat.lt_of_le_of_lt g1' h2)
 have b1:=(Nat.pow_lt_pow_iff_right (by decide:1<2)).1 a1
 have b2:=(Nat.pow_lt_pow_iff_right (by decide:1<2)).1 a2
 omega
theorem nr_sc (d:Int)(s:Bool)(N D:Nat){c:Nat}(hc:0<c)(k:Int):nrC d s (N*c) (D*c) k=nrC d s N D k/\(nrR (N*c) (D*c) k=0↔nrR N D k=0):=by
 have eq:nrQ (N*c) (D*c) k=nrQ N D k:=by
  unfold nrQ
  rw [Nat.mul_right_comm N,Nat.mul_right_comm D,Nat.mul_div_mul_right _ _ hc]
 have er:nrR (N*c) (D*c) k=nrR N D k*c:=by
  unfold nrR
  rw [Nat.mul_right_comm N,Nat.mul_right_comm D,Nat.mul_mod_mul_right]
 have ef:nrF d s (N*c) (D*c) k=nrF d s N D k:=by
  unfold nrF
  rw [eq,er,Nat.mul_right_comm D,fa_sc d s _ _ _ c hc]
 refine ⟨?_,?_⟩
 ·unfold nrC
  rw [ef,eq]
 ·rw [er]
  refine ⟨fun h=>?_,fun h=>by rw [h,Nat.zero_mul]⟩
  rcases Nat.mul_eq_zero.1 h with h|h
  ·exact h
  ·omega
theorem rd_sc (n d:Int)(s:Bool)(N:Nat){D c:Nat}(hD:D≠0)(hc:0<c)(x:Int):rdV n d s (N*c) (D*c) x=rdV n d s N D x/\rdF n d s (N*c) (D*c) x=rdF n d s N D x:=by
 by_cases hN:N=0
 ·subst hN
  rw [Nat.zero_mul]
  exact ⟨by unfold rdV;rw [if_pos rfl,if_pos rfl],by unfold rdF;rw [if_pos rfl,if_pos rfl]⟩
 have hNc:N*c≠0:=Nat.mul_ne_zero hN (by omega)
 have el:=ld_sc hN hD hc
 have eX:rX n (N*c) (D*c) x=rX n N D x:=by unfold rX;rw [el]
 have eQ:rQ n (N*c) (D*c) x=rQ n N D x:=by unfold rQ;rw [el,eX]
 have eC:rC n d s (N*c) (D*c) x=rC n d s N D x:=by unfold rC;rw [eX,eQ];exact (nr_sc d s N D hc _).1
 have eR:=(nr_sc d s N D hc (rX n N D x-rQ n N D x)).2
 have eC':rC' n d s (N*c) (D*c) x=rC' n d s N D x:=by unfold rC';rw [eC]
 have eQ':rQ' n d s (N*c) (D*c) x=rQ' n d s N D x:=by unfold rQ';rw [eC,eQ]
 refine ⟨?_,?_⟩
 ·unfold rdV
  rw [if_neg hN,if_neg hNc,eC',eQ']
 ·unfold rdF
  rw [if_neg hN,if_neg hNc,eQ',eX,eQ,el]
  simp only [eR]
theorem tn_zeros (n d:Int)(s:Bool)(A z:Nat)(P:Int):rdV n d s (tN (A*10^z) (P-z)) (tD (P-z)) (P-z)=rdV n d s (tN A P) (tD P) P/\rdF n d s (tN (A*10^z) (P-z)) (tD (P-z)) (P-z)=rdF n d s (tN A P) (tD P) P:=by
 obtain ⟨a1,a2⟩:=ten_shift n d s (A*10^z) (P-z)
 obtain ⟨b1,b2⟩:=ten_shift n d s A P
 rw [← a1,← a2,← b1,← b2]
 have e1:A*10^z*10^(P-z).toNat=A*10^P.toNat*10^(z+(P-z).toNat-P.toNat):=by
  rw [Nat.mul_assoc,Nat.mul_assoc,← Nat.pow_add,← Nat.pow_add]
  congr 2
  omega
 have e2:10^(-(P-z)).toNat=10^(-P).toNat*10^(z+(P-z).toNat-P.toNat):=by
  rw [← Nat.pow_add]
  congr 1
  omega
 rw [e1,e2]
 exact rd_sc n d s _ (Nat.ne_of_gt (Nat.pow_pos (by decide))) (Nat.pow_pos (by decide)) 0
theorem p16 (c:Nat):(16:Nat)^c=2^(4*c):=by rw [Nat.pow_mul]
def NO (K X:Nat)(v:Value)(w:World):Prop:=(v=.slice none 0 0/\X=0)∨NT K X v w
theorem NO.next {K X:Nat}{v:Value}{w w':World}(h:NO K X v w)(hb:Below w.heap.size w w'):NO K X v w':=by
 rcases h with h|h
 ·exact Or.inl h
 ·exact Or.inr (h.next hb)
theorem NO.more {K K' X:Nat}{v:Value}{w:World}(h:NO K X v w)(hk:K<=K'):NO K' X v w:=by
 rcases h with h|h
 ·exact Or.inl h
 ·exact Or.inr (h.more hk)
theorem NO.nt {K X:Nat}{v:Value}{w:World}(h:NO K X v w):Nt K X v w:=by
 rcases h with ⟨rfl,rfl⟩|h
 ·exact ⟨none,0,0,fun _=>0,rfl,Nat.zero_le _,⟨Nat.le_refl _,by unfold maxLen;omega,fun _=>⟨Int.le_refl _,show (0:Int)<=_ by decide⟩,fun _ _=>rfl,Or.inl ⟨rfl,rfl⟩⟩,rfl⟩
 ·obtain ⟨g,k,cap,z,h1,h2,h3,h4,_⟩:=h
  exact ⟨_,k,cap,z,h1,h2,h3,h4⟩
theorem radd_no {K K' X Y:Nat}{v v':Value}{w:World}(hK:K<=100000)(hK':K'<=100000)(h:Nt K X v w)(h':Nt K' Y v' w):CE 27 #[v,v'] w (NT (K+K'+1) (X+Y)):=by
 obtain ⟨a,k,c,z,rfl,hk,hN,hz⟩:=h
 obtain ⟨a',k',c',z',rfl,hk',hN',hz'⟩:=h'
 refine (radd_vt a a' k c k' c' z z' w (by omega) (by omega) hN hN').mono fun r w' ⟨g,k2,cap,y,e1,e2,e3,e4,e5,e6⟩=>⟨_,e1,⟨g,k2,cap,y,rfl,by omega,e3,?_,e6⟩,e5⟩
 rw [e4,hz,hz']
 omega
end Go.Proofs.YtjfeaiaafbaobaaGreatDoor
