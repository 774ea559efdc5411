/-
  Texts that the proof leans on.
-/
import Derived.Test.YtahfkpjhlbiamaaGreatDoorR41
import Derived.Test.YtahfkpjhlbiamaaGreatDoorR42
import Derived.Test.YtahfkpjhlbiamaaGreatDoorR18
import Derived.Test.YtahfkpjhlbiamaaGreatDoorR15
import Derived.Test.YtahfkpjhlbiamaaGreatDoorR16
import Derived.Test.YtahfkpjhlbiamaaGreatDoorR13
import Derived.Test.YtahfkpjhlbiamaaGreatDoorR24
import Derived.Test.YtahfkpjhlbiamaaGreatDoorR12
import Derived.Test.YtahfkpjhlbiamaaGreatDoorR26
import Derived.Test.YtahfkpjhlbiamaaGreatDoorR1
import Derived.Test.YtahfkpjhlbiamaaGreatDoorR33
import Derived.Test.YtahfkpjhlbiamaaGreatDoorR6
import Derived.Test.YtahfkpjhlbiamaaGreatDoorR23
import Derived.Test.YtahfkpjhlbiamaaGreatDoorR2
import Derived.Test.YtahfkpjhlbiamaaGreatDoorR25
import Derived.Deep.MidRow
import Derived.Test.YtahfkpjhlbiamaaGreatDoorR11
import Derived.Test.YtahfkpjhlbiamaaGreatDoorR8
import Derived.RegionTactic
import Derived.ChangeAlike
import Derived.BigRegion
import Derived.Laws.Strings2
import Derived.Test.YtahfkpjhlbiamaaGreatDoorR34
import Derived.Test.YtahfkpjhlbiamaaGreatDoorR20
import Derived.Test.YtahfkpjhlbiamaaGreatDoorR22
import Derived.Deep.Cut
import Derived.Deep.CutRange
import Derived.Deep.RegionWith
import Derived.Test.YtahfkpjhlbiamaaGreatDoorR19
import Derived.Test.YtahfkpjhlbiamaaGreatDoorR21
import Derived.Test.YtahfkpjhlbiamaaGreatDoorR27
import Derived.Test.YtahfkpjhlbiamaaGreatDoorR28
import Derived.Test.YtahfkpjhlbiamaaGreatDoorR35
import Derived.Test.YtahfkpjhlbiamaaGreatDoorR36
import Derived.Test.YtahfkpjhlbiamaaGreatDoorR37
import Derived.Test.YtahfkpjhlbiamaaGreatDoorR29
import Derived.Test.YtahfkpjhlbiamaaGreatDoorR38
import Derived.Test.YtahfkpjhlbiamaaGreatDoorR31
set_option linter.unusedVariables false
set_option linter.unusedSectionVars false
set_option linter.unusedSimpArgs false
set_option maxHeartbeats 8000000
set_option maxRecDepth 20000
namespace Go.Proofs.YtahfkpjhlbiamaaGreatDoor
open Go.RowKit
section
theorem tnX_eq {N D:Nat}{E:Int}(hN:0<N)(hD:0<D)(h:TnE N D E):tnX N D=E:=(zUm hN hD).only h
theorem third:rqD 7 0 false 1 3 0 0=⟨1,false,false,-7,3333333⟩/\rqF 7 0 false 1 3 0=8/\rqE 7 0 1 3=0:=by
 have e0:rqE 7 0 1 3=0:=by
  have b1:bl 1<=2:=bl_le.2 (by decide)
  have b3:bl 3<=2:=bl_le.2 (by decide)
  unfold rqE
  rw [if_pos ⟨by unfold zPd;omega,by unfold knB;omega,by decide⟩,if_neg (by omega)]
 have eX:tnX (1*10^(clT 0).toNat) (3*10^(-(clT 0)).toNat)=-1:=tnX_eq (by decide) (by decide) ⟨by decide,by decide⟩
 refine ⟨?_,?_,e0⟩
 ·unfold rqD
  rw [if_pos e0,if_neg (by decide),eX]
  have h1:(dkD (fD 7) 0 false (1*10^(clT 0).toNat) (3*10^(-(clT 0)).toNat) (-1) 0).c=1/\(dkD (fD 7) 0 false (1*10^(clT 0).toNat) (3*10^(-(clT 0)).toNat) (-1) 0).s=false/\(dkD (fD 7) 0 false (1*10^(clT 0).toNat) (3*10^(-(clT 0)).toNat) (-1) 0).g=false/\(dkD (fD 7) 0 false (1*10^(clT 0).toNat) (3*10^(-(clT 0)).toNat) (-1) 0).x=-7/\(dkD (fD 7) 0 false (1*10^(clT 0).toNat) (3*10^(-(clT 0)).toNat) (-1) 0).k=3333333:=by decide +kernel
  generalize dkD (fD 7) 0 false (1*10^(clT 0).toNat) (3*10^(-(clT 0)).toNat) (-1) 0=R at h1 ⊢
  obtain ⟨c,s,g,x,k⟩:=R
  simp only at h1
  obtain ⟨rfl,rfl,rfl,rfl,rfl⟩:=h1
  rfl
 ·unfold rqF
  rw [if_pos e0,if_neg (by decide),eX]
  decide +kernel
attribute [local irreducible] W4 Nt
end
section
theorem zGm {w0 w:World}{c x:Int}{s g:Bool}{k:Nat}{t:TypeId}(hk:k<2^256)
  (hb:Below (w0.alloc (.cells #[.int .i64 c,.bool s,.bool g,.int .i64 x,.int .u64 (W4 k 0),.int .u64 (W4 k 1),.int .u64 (W4 k 2),.int .u64 (W4 k 3)] t)).heap.size (w0.alloc (.cells #[.int .i64 c,.bool s,.bool g,.int .i64 x,.int .u64 (W4 k 0),.int .u64 (W4 k 1),.int .u64 (W4 k 2),.int .u64 (W4 k 3)] t)) w) :
  Nt 4 k (.slice (some ⟨w0.heap.size,4,none⟩) 4 4) w:=by
 have hs:w0.heap.size<(w0.alloc (.cells #[.int .i64 c,.bool s,.bool g,.int .i64 x,.int .u64 (W4 k 0),.int .u64 (W4 k 1),.int .u64 (W4 k 2),.int .u64 (W4 k 3)] t)).heap.size:=by simp
 refine ⟨_,4,4,zDf (W4 k) 4,rfl,Nat.le_refl _,⟨Nat.le_refl _,by unfold maxLen;omega,?_,?_,Or.inr ⟨w0.heap.size,4,rfl,Nat.lt_of_lt_of_le hs hb.size,?_⟩⟩,?_⟩
 ·intro i
  by_cases hi:i<4
  ·rw [zMb hi];exact zHa k i
  ·rw [show zDf (W4 k) 4 i=0 from if_neg hi];exact ⟨Int.le_refl _,by decide⟩
 ·intro i hi
  exact if_neg (by omega)
 ·intro i hi
  rw [zMb hi,hb.cell (p:=⟨w0.heap.size,4+i,none⟩) hs]
  have:i=0∨i=1∨i=2∨i=3:=by omega
  rw [World.cell?_alloc_new]
  rcases this with rfl|rfl|rfl|rfl<;>rfl
 ·rw [zIa (x:=zDf (W4 k) 4) (y:=W4 k) 4 (fun i hi=>zMb hi),zOb hk]
attribute [local irreducible] W4 Nt
end
section
attribute [local irreducible] W4 Nz Nt NT
section
variable (t ba d:Int)(num wi pr ex le mo pa:Int)(nm:ByteArray)(de:Bool)(w:World)(hT:Tab w)
include hT
theorem stg_e (b0:Int)
  (c2:∀ W,Tab W->CB 53 #[.int .i64 t] W (.tuple #[.agg #[.int .i64 num,.string nm,.int .i64 b0,.int .i64 wi,.int .i64 pr,.int .i64 ex,.int .i64 le,.int .i64 mo,.int .i64 pa,.bool de],.int .i64 1])) :
  CB 24 #[.int .i64 t,.int .i64 ba,.int .i64 d] w (.tuple #[IZ,.int .i64 1]):=by
 have hsm:=zAa
 go_enter Tryz.func24,Tryz.ntmps24
 go_wp2_with (go_at_call 53;refine wk w (c2 _ (hT.go bgo)) ?_;intro w1 hb1 _ _ _ _ hA1 _;clear hb1)
 exact bodyPost_ret (v:=.tuple #[IZ,.int .i64 1]) (by simp only [results,Tryz.results24];go_simp) rfl ⟨rfl,bgo⟩
theorem stg_b (b0:Int)(hba:(b0 != ba)=true)
  (c2:∀ W,Tab W->CB 53 #[.int .i64 t] W (.tuple #[.agg #[.int .i64 num,.string nm,.int .i64 b0,.int .i64 wi,.int .i64 pr,.int .i64 ex,.int .i64 le,.int .i64 mo,.int .i64 pa,.bool de],.int .i64 0])) :
  CB 24 #[.int .i64 t,.int .i64 ba,.int .i64 d] w (.tuple #[IZ,.int .i64 1]):=by
 have hsm:=zAa
 go_enter Tryz.func24,Tryz.ntmps24
 go_wp2_with (go_at_call 53;refine wk w (c2 _ (hT.go bgo)) ?_;intro w1 hb1 _ _ _ _ hA1 _;clear hb1)
 exact bodyPost_ret (v:=.tuple #[IZ,.int .i64 1]) (by simp only [results,Tryz.results24];go_simp) rfl ⟨rfl,bgo⟩
variable (c2:∀ W,Tab W->CB 53 #[.int .i64 t] W (.tuple #[.agg #[.int .i64 num,.string nm,.int .i64 ba,.int .i64 wi,.int .i64 pr,.int .i64 ex,.int .i64 le,.int .i64 mo,.int .i64 pa,.bool de],.int .i64 0]))
include c2
theorem stg_k (c3:∀ W,CQ 44 #[.int .i64 d] W (.bool false)) :
  CB 24 #[.int .i64 t,.int .i64 ba,.int .i64 d] w (.tuple #[IZ,.int .i64 1]):=by
 have hsm:=zAa
 have hbb:(ba != ba)=false:=bne_self_eq_false ba
 go_enter Tryz.func24,Tryz.ntmps24
 go_wp2_with (first
  | (go_at_call 53;refine wk w (c2 _ (hT.go bgo)) ?_;intro w1 hb1 _ _ _ _ hA1 _;clear hb1)
  | (go_at_call 44;refine (c3 _).mono ?_;rintro r w2 ⟨rfl,rfl⟩))
 exact bodyPost_ret (v:=.tuple #[IZ,.int .i64 1]) (by simp only [results,Tryz.results24];go_simp) rfl ⟨rfl,bgo⟩
theorem stg_y (c3:∀ W,CQ 44 #[.int .i64 d] W (.bool true)) :
  CB 24 #[.int .i64 t,.int .i64 ba,.int .i64 d] w (.tuple #[.agg #[.int .i64 num,.string nm,.int .i64 ba,.int .i64 wi,.int .i64 pr,.int .i64 ex,.int .i64 le,.int .i64 mo,.int .i64 pa,.bool de],.int .i64 0]):=by
 have hsm:=zAa
 have hbb:(ba != ba)=false:=bne_self_eq_false ba
 go_enter Tryz.func24,Tryz.ntmps24
 go_wp2_with (first
  | (go_at_call 53;refine wk w (c2 _ (hT.go bgo)) ?_;intro w1 hb1 _ _ _ _ hA1 _;clear hb1)
  | (go_at_call 44;refine (c3 _).mono ?_;rintro r w2 ⟨rfl,rfl⟩))
 exact bodyPost_ret (v:=.tuple #[.agg #[.int .i64 num,.string nm,.int .i64 ba,.int .i64 wi,.int .i64 pr,.int .i64 ex,.int .i64 le,.int .i64 mo,.int .i64 pa,.bool de],.int .i64 0]) (by simp only [results,Tryz.results24];go_simp) rfl ⟨rfl,bgo⟩
end
abbrev InfV (t:Int):Value:=.agg #[.int .i64 (zCw t),.string (zMd t),.int .i64 (zDd t),.int .i64 (zVa t),.int .i64 (zUe t),.int .i64 (zKi t),.int .i64 (zZa t),.int .i64 (zNc t),.int .i64 (zNk t),.bool (zZb t)]
theorem zB6 {t ba d:Int}(w:World)(hT:Tab w)(h1:okN t)(h2:zDd t=ba)(h3:knB d) :
  CB 24 #[.int .i64 t,.int .i64 ba,.int .i64 d] w (.tuple #[InfV t,.int .i64 0]):=by
 have c2:=fun W h=>zBe t W h
 have c3:=fun W=>zNd d W
 rw [decide_eq_true h3] at c3
 rw [show zZc t=0 from if_pos h1,h2] at c2
 unfold InfV
 rw [h2]
 exact stg_y t ba d _ _ _ _ _ _ _ _ _ w hT c2 c3
theorem zC6 {t ba d:Int}(w:World)(hT:Tab w)(h:¬ (okN t/\zDd t=ba/\knB d)) :
  CB 24 #[.int .i64 t,.int .i64 ba,.int .i64 d] w (.tuple #[IZ,.int .i64 1]):=by
 have c2:=fun W h=>zBe t W h
 have c3:=fun W=>zNd d W
 by_cases h1:okN t
 ·rw [show zZc t=0 from if_pos h1] at c2
  by_cases h2:zDd t=ba
  ·rw [h2] at c2
   by_cases h3:knB d
   ·exact absurd ⟨h1,h2,h3⟩ h
   ·rw [decide_eq_false h3] at c3
    exact stg_k t ba d _ _ _ _ _ _ _ _ _ w hT c2 c3
  ·exact stg_b t ba d _ _ _ _ _ _ _ _ _ w hT _ (by rw [bne_iff_ne];exact h2) c2
 ·rw [show zZc t=1 from if_neg h1] at c2
  exact stg_e t ba d _ _ _ _ _ _ _ _ _ w hT _ c2
section
variable (num ba wi pr ex le mo pa c x:Int)(nm:ByteArray)(de s g:Bool)(k Q:Nat)(hk:k<2^256)(w:World)(cm:Int)
 (c61:∀ W,Calls Tryz.prog 56 #[.int .i64 ba,.int .i64 pa] W fun r w'=>∃ v,r=.returned (.tuple #[v,.int .i64 0])/\Nt 2001 Q v w'/\Below W.heap.size W w')
 (c64:∀ W v u,Nt 4 k v W->Nt 2001 Q u W->CB 57 #[v,u] W (.int .i64 cm))
include hk c61 c64
theorem scnv_l (h:cm<0) :
  CB 26 #[.agg #[.int .i64 num,.string nm,.int .i64 ba,.int .i64 wi,.int .i64 pr,.int .i64 ex,.int .i64 le,.int .i64 mo,.int .i64 pa,.bool de],DV c s g x k] w (.tuple #[DV c s false x k,.int .i64 (if g then 1 else 0)]):=by
 have hbx:=fun W hW=>zGm (w0:=w.alloc (.cells #[.int .i64 num,.string nm,.int .i64 ba,.int .i64 wi,.int .i64 pr,.int .i64 ex,.int .i64 le,.int .i64 mo,.int .i64 pa,.bool de] 55)) (w:=W) (c:=c) (s:=s) (g:=g) (x:=x) (t:=32) hk hW
 have h':¬ 0<=cm:=by omega
 have h'':decide (0<=cm)=false:=decide_eq_false h'
 have hsm:=zAa
 cases g
 all_goals (
  go_enter Tryz.func26,Tryz.ntmps26
  go_wp2_with (first
   | (go_at_call 56;refine (c61 _).mono ?_;rintro r w1 ⟨v1,rfl,hv1,hb1⟩;have hv0:=hbx _ (bnx (zBa _ _) hb1);obtain ⟨_,_,_,_,hA1,_⟩:=wz w hb1;obtain ⟨_,_,_,_⟩:=zg hb1 (w.heap.size+1) (w.heap.size+1+1);clear hb1)
   | (go_at_call 57;refine wk w (c64 _ _ _ (by simpa using hv0) hv1) ?_;intro w2 hb2 _ _ _ _ hA2 _;obtain ⟨_,_,_,_⟩:=zg hb2 (w.heap.size+1) (w.heap.size+1+1);clear hb2))
  exact bodyPost_ret (by simp only [results,Tryz.results26];go_simp) rfl ⟨rfl,bgo⟩)
theorem scnv_g (h:0<=cm) :
  CB 26 #[.agg #[.int .i64 num,.string nm,.int .i64 ba,.int .i64 wi,.int .i64 pr,.int .i64 ex,.int .i64 le,.int .i64 mo,.int .i64 pa,.bool de],DV c s g x k] w (.tuple #[DV c s false x 0,.int .i64 (if g then 1 else 0)]):=by
 have hbx:=fun W hW=>zGm (w0:=w.alloc (.cells #[.int .i64 num,.string nm,.int .i64 ba,.int .i64 wi,.int .i64 pr,.int .i64 ex,.int .i64 le,.int .i64 mo,.int .i64 pa,.bool de] 55)) (w:=W) (c:=c) (s:=s) (g:=g) (x:=x) (t:=32) hk hW
 have h'':decide (0<=cm)=true:=decide_eq_true h
 have hz:DV c s false x 0=.agg #[.int .i64 c,.bool s,.bool false,.int .i64 x,.int .u64 0,.int .u64 0,.int .u64 0,.int .u64 0]:=by unfold DV;simp only [zNa]
 rw [hz]
 clear hz
 have hsm:=zAa
 cases g
 all_goals (
  go_enter Tryz.func26,Tryz.ntmps26
  go_wp2_with (first
   | (go_at_call 56;refine (c61 _).mono ?_;rintro r w1 ⟨v1,rfl,hv1,hb1⟩;have hv0:=hbx _ (bnx (zBa _ _) hb1);obtain ⟨_,_,_,_,hA1,_⟩:=wz w hb1;obtain ⟨_,_,_,_⟩:=zg hb1 (w.heap.size+1) (w.heap.size+1+1);clear hb1)
   | (go_at_call 57;refine wk w (c64 _ _ _ (by simpa using hv0) hv1) ?_;intro w2 hb2 _ _ _ _ hA2 _;obtain ⟨_,_,_,_⟩:=zg hb2 (w.heap.size+1) (w.heap.size+1+1);clear hb2))
  exact bodyPost_ret (by simp only [results,Tryz.results26];go_simp) rfl ⟨rfl,bgo⟩)
end
theorem zL6 (t:Int)(Q:Nat)(hQ:∀ W,Calls Tryz.prog 56 #[.int .i64 (zDd t),.int .i64 (zNk t)] W fun r w'=>∃ v,r=.returned (.tuple #[v,.int .i64 0])/\Nt 2001 Q v w'/\Below W.heap.size W w')(c x:Int)(s g:Bool){k:Nat}(hk:k<2^256)(w:World) :
  CB 26 #[InfV t,DV c s g x k] w (.tuple #[DV c s false x (if k<Q then k else 0),.int .i64 (if g then 1 else 0)]):=by
 have c64:∀ W v u,Nt 4 k v W->Nt 2001 Q u W->CB 57 #[v,u] W (.int .i64 (sgn (k:Int) (Q:Int))):=fun W v u h1 h2=>zAr (by decide) (by decide) h1 h2
 by_cases h:k<Q
 ·rw [if_pos h]
  refine scnv_l _ _ _ _ _ _ _ _ c x _ _ s g k Q hk w _ hQ c64 ?_
  rcases zBc (k:Int) (Q:Int) with ⟨x,e⟩|⟨x,e⟩|⟨x,e⟩<;>omega
 ·rw [if_neg h]
  refine scnv_g _ _ _ _ _ _ _ _ c x _ _ s g k Q hk w _ hQ c64 ?_
  rcases zBc (k:Int) (Q:Int) with ⟨x,e⟩|⟨x,e⟩|⟨x,e⟩<;>omega
end
theorem zFz (s:Bool){e:Int}(he:-100000<=e/\e<=100000):zVr (sgL s++unT [48] e)=some ⟨1,s,false,[],e⟩:=by
 have hlen:(unT [48] e).length<=26:=by have:=zHf (D:=[48]) he;rw [List.length_cons,List.length_nil] at this;omega
 obtain ⟨x1,x2,x3,x4,x5⟩:=zM4 e (by omega)
 have hu:unT [48] e=[48]++(101::Lib.itoa e):=rfl
 have key:zSk (unT [48] e)=true/\finD (unT [48] e)=[]/\finE (unT [48] e)=e/\∃ t,unT [48] e=48::t:=by
  rw [hu]
  obtain ⟨d1,d2⟩:=zWf (l:=[48]) (m:=101::Lib.itoa e) (by decide) x4
  have f1:zZn ([48]++101::Lib.itoa e)=[]:=by unfold zZn;rw [d2,x3];rfl
  have f2:zKc ([48]++101::Lib.itoa e)=101::Lib.itoa e:=by unfold zKc;rw [d2,x3];rfl
  refine ⟨?_,?_,?_,_,rfl⟩
  ·unfold zSk;rw [f1,f2,x1,d1];rfl
  ·unfold finD;rw [f1,d1];rfl
  ·unfold finE;rw [f1,f2,x2]
   rw [show e-((([]:List UInt8).length:Nat):Int)=e by simp]
   exact zIm (by omega)
 obtain ⟨k1,k2,k3,t,k4⟩:=key
 unfold zVr
 have hs:(sgL s++unT [48] e).length<=4000:=by
  rw [List.length_append]
  have:(sgL s).length<=1:=by cases s<;>decide
  omega
 rw [if_neg (by omega)]
 have hsg:gsgB (sgL s++unT [48] e)=s/\sgR (sgL s++unT [48] e)=unT [48] e:=by
  rw [k4]
  exact zYi s 48 t ⟨by decide,by decide⟩
 rw [hsg.1,hsg.2]
 unfold zE5
 rw [if_pos k1,k2,k3]
def wtD (k:Nat):List UInt8:=if k=0 then [48] else dcL k
def xtT (v:Dat):List UInt8:=if v.c=1 then sgL v.s++unT (wtD v.k) (v.x+(wtD v.k).length-1) else zOh v.c v.s v.g (dcL v.k) 0
def xtP (v:Dat):Prt:=⟨v.c,v.s,v.g,dcL v.k,if v.c=1 then v.x else 0⟩
theorem zB5 {k:Nat}(h0:k≠0)(hk:k<2^256):dcL k≠[]:=by
 obtain ⟨f1,f2,f3⟩:=zGh hk
 intro e
 rw [e,zC5] at f2
 exact h0 f2.symm
theorem vI_k {f:DF}(hf:f.ok){v:Dat}(h:vI f v):v.k<2^256:=by
 obtain ⟨m0,m1,l0,l1,lm,j0,j1⟩:=zXt hf
 have h1:(10:Nat)^(3*f.j+1)<=10^34:=Nat.pow_le_pow_right (by decide) (by omega)
 have h2:(10:Nat)^(3*f.j)<=10^34:=Nat.pow_le_pow_right (by decide) (by omega)
 have h3:(10:Nat)^34<2^256:=by decide
 rcases h with ⟨_,_,a,_⟩|⟨_,_,a,_⟩|⟨_,_,a⟩
 ·omega
 ·rw [a];decide
 ·omega
theorem xt_cut {f:DF}(hf:f.ok){v:Dat}(h:vI f v):zVr (xtT v)=some (xtP v)/\(xtT v).length<=3001:=by
 obtain ⟨m0,m1,l0,l1,lm,j0,j1⟩:=zXt hf
 have hk:=vI_k hf h
 obtain ⟨f1,f2,f3⟩:=zGh hk
 obtain ⟨c,s,g,x,k⟩:=v
 unfold xtT xtP
 dsimp only at *
 rcases h with ⟨h1,h2,h3,h4,h5⟩|⟨h1,h2,h3,h4⟩|⟨h1,h2,h3⟩
 ·dsimp only at h1 h2 h3 h4 h5
  subst h1 h2
  have hx:-10000<=x/\x<=10000:=by unfold DF.m at *;omega
  rw [if_pos rfl,if_pos rfl]
  unfold wtD
  by_cases h0:k=0
  ·rw [if_pos h0,h0,show dcL 0=[] by kernel_rfl,show x+((([48]:List UInt8).length:Nat):Int)-1=x by simp]
   refine ⟨zFz s (by omega),?_⟩
   have hlen:(unT [48] x).length<=26:=by have:=zHf (D:=[48]) (e:=x) (by omega);rw [List.length_cons,List.length_nil] at this;omega
   rw [List.length_append]
   have:(sgL s).length<=1:=by cases s<;>decide
   omega
  ·rw [if_neg h0]
   refine ⟨zJ9 s f1 (zB5 h0 hk) (by omega) (by omega) rfl,?_⟩
   have hlen:=zHf (D:=dcL k) (e:=x+(dcL k).length-1) (by omega)
   rw [List.length_append]
   have:(sgL s).length<=1:=by cases s<;>decide
   omega
 ·dsimp only at h1 h2 h3 h4
  subst h1 h2 h3 h4
  have e0:dcL 0=[]:=by kernel_rfl
  rw [e0]
  exact ⟨by cases s<;>kernel_rfl,by cases s<;>decide⟩
 ·dsimp only at h1 h2 h3
  subst h1 h2
  have hlen:(zOh 3 s g (dcL k) 0).length<=3001:=by
   have:=zG0 (c:=3) (s:=s) (g:=g) (d:=dcL k) (e:=0) (by decide)
   omega
  have hj:=(zZ1 (p:=⟨3,s,g,dcL k,0⟩) ⟨f1,Or.inr (Or.inr ⟨rfl,rfl,by show (zOh 3 s g (dcL k) 0).length<=4000;omega⟩)⟩).2
  exact ⟨hj,hlen⟩
section
abbrev zd:Array Value:=#[.int .i64 0,.bool false,.bool false,.int .i64 0,.int .u64 0,.int .u64 0,.int .u64 0,.int .u64 0]
theorem zHi {n b:Nat}{a:World}(hb:n<=b):∀ (vs:List Value) (o:Nat) (W:World),Below n a W->Below n a (W.setCells b o vs)
 | [],_,_,h=>h
 | v::r,o,W,h=>zHi hb r (o+1) _ (h.setCell hb v)
def D8 (g:Nat)(cs:Array Value)(w:World):Prop:=g<w.heap.size/\cs.size=8/\(∀ i,i<8->w.cell? ⟨g,i,none⟩=cs[i]?)/\∀ i,w.frozen? ⟨g,i,none⟩=false
theorem D8.next {g:Nat}{cs:Array Value}{w w':World}(h:D8 g cs w)(hb:Below w.heap.size w w'):D8 g cs w' :=
 ⟨Nat.lt_of_lt_of_le h.1 hb.size,h.2.1,fun i hi=>(hb.cell (p:=⟨g,i,none⟩) h.1).trans (h.2.2.1 i hi),fun i=>(hb.frozen (p:=⟨g,i,none⟩) h.1).trans (h.2.2.2 i)⟩
theorem D8.new (w:World):D8 w.heap.size zd (w.alloc (.cells zd 32)):=by
 refine ⟨by simp,rfl,fun i hi=>?_,fun i=>?_⟩
 ·rw [World.cell?_alloc_new]
 ·simp [go_sem]
theorem D8.put {g:Nat}{cs cs':Array Value}{w:World}(h:D8 g cs w)(hs:cs'.size=8):D8 g cs' (w.setCells g 0 cs'.toList):=by
 have hin:=World.cell?_setCells_in g cs'.toList 0 w (fun j hj=>by
  rw [Nat.zero_add,h.2.2.1 j (by simpa [hs] using hj),Array.getElem?_eq_getElem (by rw [h.2.1];simpa [hs] using hj)];rfl)
 refine ⟨Nat.lt_of_lt_of_le h.1 (zHi (n:=0) (Nat.zero_le _) _ _ _ (Below.refl 0 w)).size,hs,fun i hi=>?_,fun i=>?_⟩
 ·have:=hin i (by simpa [hs] using hi)
  rw [Nat.zero_add] at this
  rw [this,Array.getElem?_eq_getElem (by rw [hs];exact hi)]
  simp
 ·rw [World.frozen?_setCells];exact h.2.2.2 i
attribute [local irreducible] W4 Nt NT
section
variable {a:Act}{w:World}{K:Act->World->Prop}{Q:Exit->Act->World->Prop}{d p q:Nat}{ty:TypeId}{pos:String}{after:Array Edge}{gd:Option (Nat×Bool)}
end
end
section
attribute [local irreducible] W4 Nt
def dwT (n:Int)(Bp:Nat):List UInt8:=if zWh n Bp then xtT (vM (fD n) Bp) else []
end
section
attribute [local irreducible] W4 NT NV
def xiG (m t d:Int)(B:Nat):Prop:=zWh m B/\zYk t/\knB d
instance (m t d:Int) (B:Nat):Decidable (xiG m t d B):=inferInstanceAs (Decidable (_/\_))
end
noncomputable def coD (t d:Int)(D:Dat):Dat :=
 if D.c=2 then ⟨2,D.s,false,0,0⟩ else if D.c=3 then ⟨3,D.s,false,0,if D.k<10^(3*(fD t).j) then D.k else 0⟩
 else rqD t d D.s (D.k*2^D.x.toNat) (1*2^(-D.x).toNat) 0 0
noncomputable def coF (t d:Int)(D:Dat):Int :=
 if D.c=2 then 0 else if D.c=3 then (if D.g then 1 else 0) else rqF t d D.s (D.k*2^D.x.toNat) (1*2^(-D.x).toNat) 0
section
attribute [local irreducible] W4 NT NV
section
variable (t:Int)(nm:ByteArray)(wd pr ex le mo pa:Int)(dn:Bool)(c x:Int)(s g:Bool)(k:Nat)(w:World)
 (c18:∀ W,CB 20 #[.int .i64 t] W (.tuple #[zEb t nm wd pr ex le mo pa dn,.int .i64 0]))
include c18
theorem rnad_y (c67:∀ W,CB 85 #[A4 k,.int .i64 10,.int .i64 pa] W (.bool true)) :
  CB 68 #[.int .i64 t,DV c s g x k] w (.tuple #[DV c s false x k,.int .i64 (if g then 1 else 0)]):=by
 have hsm:=zAa
 unfold A4 at c67
 cases g
 all_goals (
  go_enter Tryz.func68,Tryz.ntmps68
  go_wp2_with (first
   | (go_at_call 20;refine wk w (c18 _) ?_;intro w1 hb1 _ _ _ _ hA1 _;obtain ⟨_,_⟩:=zf hb1 (w.heap.size+1);clear hb1)
   | (go_at_call 85;refine wk w (c67 _) ?_;intro w2 hb2 _ _ _ _ hA2 _;obtain ⟨_,_,_,_⟩:=zg hb2 (w.heap.size+1) w1.heap.size;clear hb2))
  exact bodyPost_ret (by simp only [results,Tryz.results68];go_simp) rfl ⟨rfl,bgo⟩)
theorem rnad_n (c67:∀ W,CB 85 #[A4 k,.int .i64 10,.int .i64 pa] W (.bool false)) :
  CB 68 #[.int .i64 t,DV c s g x k] w (.tuple #[.agg #[.int .i64 c,.bool s,.bool false,.int .i64 x,.int .u64 0,.int .u64 0,.int .u64 0,.int .u64 0],.int .i64 (if g then 1 else 0)]):=by
 have hsm:=zAa
 unfold A4 at c67
 cases g
 all_goals (
  go_enter Tryz.func68,Tryz.ntmps68
  go_wp2_with (first
   | (go_at_call 20;refine wk w (c18 _) ?_;intro w1 hb1 _ _ _ _ hA1 _;obtain ⟨_,_⟩:=zf hb1 (w.heap.size+1);clear hb1)
   | (go_at_call 85;refine wk w (c67 _) ?_;intro w2 hb2 _ _ _ _ hA2 _;obtain ⟨_,_,_,_⟩:=zg hb2 (w.heap.size+1) w1.heap.size;clear hb2))
  exact bodyPost_ret (by simp only [results,Tryz.results68];go_simp) rfl ⟨rfl,bgo⟩)
end
theorem rnad_v {t:Int}(ht:zPd t)(c x:Int)(s g:Bool)(k:Nat)(hk:k<2^256)(w:World) :
  CB 68 #[.int .i64 t,DV c s g x k] w (.tuple #[DV c s false x (if k<10^(3*(fD t).j) then k else 0),.int .i64 (if g then 1 else 0)]):=by
 obtain ⟨m0,m1,l0,l1,lm,j0,j1⟩:=zXt (zCd t)
 have c18:=fun W=>zAj ht W
 have c67:=fun W=>zIp k (3*(fD t).j) W hk (by omega)
 rw [show ((3*(fD t).j:Nat):Int)=3*((fD t).j:Int) by omega] at c67
 by_cases h:k<10^(3*(fD t).j)
 ·rw [if_pos h]
  rw [decide_eq_true h] at c67
  exact rnad_y t _ _ _ _ _ _ _ _ c x s g k w c18 c67
 ·rw [if_neg h,show DV c s false x 0=_ from DV_nul c s false x]
  rw [decide_eq_false h] at c67
  exact rnad_n t _ _ _ _ _ _ _ _ c x s g k w c18 c67
theorem rr19 {n d:Int}(hn:zPd n)(hd:knB d)(s:Bool){N M:Nat}(y:Int)(hM:0<M)(b1:bl N<=25600)(b2:bl M<=25600){v v':Value}{w:World}(h:NT 900 N v w)(h':NT 900 M v' w) :
  CB 67 #[.int .i64 n,.int .i64 d,.bool s,v,v',.int .i64 0,.int .i64 y] w (.tuple #[(rqD n d s N M 0 y).v,.int .i64 (rqF n d s N M 0)]):=by
 have e:rqE n d N M=0:=by
  unfold rqE
  rw [if_pos ⟨hn,hd,by omega⟩,if_neg (by omega)]
 unfold rqD rqF
 rw [if_pos e,if_pos e]
 by_cases hN:N=0
 ·rw [if_pos hN,if_pos hN]
  obtain ⟨gv,kv,cv,rfl,hkv,hzv⟩:=h.zero
  have hk0:kv=0:=hzv.2 hN
  subst hk0
  have cO:=fun W=>zAj hn W
  rw [zY4 hn] at cO
  have hj:=zXt (zCd n)
  have:=rnd_z n _ _ (3*((fD n).j:Int)+1) _ _ _ _ _ d s v' 0 y w (by omega) (by omega) hj.2.2.1 hj.2.2.2.1 hj.1 hj.2.1 cO _ _ rfl rfl gv cv
  rw [show (Dat.mk 1 s false (min (max y (fD n).l) (fD n).m) 0).v=.agg #[.int .i64 1,.bool s,.bool false,.int .i64 (min (max y (fD n).l) (fD n).m),.int .u64 0,.int .u64 0,.int .u64 0,.int .u64 0] by unfold Dat.v DV;simp only [zNa]]
  exact this
 ·rw [if_neg hN,if_neg hN]
  exact zQ0 hn hd s 0 y (Nat.pos_of_ne_zero hN) hM (h.fitU (by omega)) (h'.fitU (by omega)) (zUm (Nat.mul_pos (Nat.pos_of_ne_zero hN) (zWa _)) (Nat.mul_pos hM (zWa _)))
section
variable (t d:Int)(c x:Int)(s g:Bool)(k:Nat)(vn vd:Value)(y:Int)(w:World)(R:Nat)(F E:Int)
theorem io_2 (hc:c=2)(c23:∀ W,CB 43 #[.int .i64 t,DV c s g x k] W (.tuple #[A4 R,.int .i64 E])) :
  CB 30 #[.int .i64 t,.int .i64 d,DV c s g x k,vn,vd,.int .i64 y] w (.tuple #[A4 R,.int .i64 0,.int .i64 0]):=by
 subst hc
 have hsm:=zAa
 unfold DV A4 at *
 go_enter Tryz.func30,Tryz.ntmps30
 go_wp2_with (first
  | (go_at_call 43;refine wk w (c23 _) ?_;intro w2 hb2 _ _ _ _ hA2 _;obtain ⟨_,_⟩:=zf hb2 (w.heap.size+1);clear hb2))
 exact bodyPost_ret (v:=.tuple #[A4 R,.int .i64 0,.int .i64 0]) (by unfold A4;simp only [results,Tryz.results30];go_simp) rfl ⟨rfl,bgo⟩
variable (c' x':Int)(s' g':Bool)(k':Nat)(c23:∀ W,CB 43 #[.int .i64 t,DV c' s' g' x' k'] W (.tuple #[A4 R,.int .i64 E]))
include c23
theorem io_3 (hc:c=3)(c24:∀ W,CB 68 #[.int .i64 t,DV c s g x k] W (.tuple #[DV c' s' g' x' k',.int .i64 F])) :
  CB 30 #[.int .i64 t,.int .i64 d,DV c s g x k,vn,vd,.int .i64 y] w (.tuple #[A4 R,.int .i64 F,.int .i64 0]):=by
 subst hc
 have hsm:=zAa
 unfold DV A4 at *
 go_enter Tryz.func30,Tryz.ntmps30
 go_wp2_with (first
  | (go_at_call 68;refine wk w (c24 _) ?_;intro w1 hb1 _ _ _ _ hA1 _;obtain ⟨_,_⟩:=zf hb1 (w.heap.size+1);clear hb1)
  | (go_at_call 43;refine wk w (c23 _) ?_;intro w2 hb2 _ _ _ _ hA2 _;obtain ⟨_,_⟩:=zf hb2 (w.heap.size+1);clear hb2))
 exact bodyPost_ret (v:=.tuple #[A4 R,.int .i64 F,.int .i64 0]) (by unfold A4;simp only [results,Tryz.results30];go_simp) rfl ⟨rfl,bgo⟩
theorem io_1 (hc:c=1)(c24:∀ W,Below w.heap.size w W->CB 67 #[.int .i64 t,.int .i64 d,.bool s,vn,vd,.int .i64 0,.int .i64 y] W (.tuple #[DV c' s' g' x' k',.int .i64 F])) :
  CB 30 #[.int .i64 t,.int .i64 d,DV c s g x k,vn,vd,.int .i64 y] w (.tuple #[A4 R,.int .i64 F,.int .i64 0]):=by
 subst hc
 have hsm:=zAa
 unfold DV A4 at *
 go_enter Tryz.func30,Tryz.ntmps30
 go_wp2_with (first
  | (go_at_call 67;refine wk w (c24 _ bgo) ?_;intro w1 hb1 _ _ _ _ hA1 _;obtain ⟨_,_⟩:=zf hb1 (w.heap.size+1);clear hb1)
  | (go_at_call 43;refine wk w (c23 _) ?_;intro w2 hb2 _ _ _ _ hA2 _;obtain ⟨_,_⟩:=zf hb2 (w.heap.size+1);clear hb2))
 exact bodyPost_ret (v:=.tuple #[A4 R,.int .i64 F,.int .i64 0]) (by unfold A4;simp only [results,Tryz.results30];go_simp) rfl ⟨rfl,bgo⟩
end
theorem zV9 {t d:Int}(ht:zPd t)(hd:knB d){n:Int}(hb:zYk n){D:Dat}(h:isD (fN n) (zZa n) (zNc n) D):vI (fD t) (coD t d D)/\bl (D.k*2^D.x.toNat)<=25600/\bl (2^(-D.x).toNat)<=25600/\D.k<2^256/\(-16990<=D.x/\D.x<=16990):=by
 have hl:-16990<=zZa n/\zNc n<=16990/\fN n<=250:=by rcases zMf hb with rfl|rfl|rfl|rfl|rfl|rfl<;>decide
 have hxk:D.k<2^251/\(-16990<=D.x/\D.x<=16990):=by
  rcases h with ⟨h1,h2,h3,h4,h5,h6⟩|⟨h1,h2,h3,h4⟩|⟨h1,h2,h3,h4⟩
  ·exact ⟨Nat.lt_of_lt_of_le h3 (Nat.pow_le_pow_right (by decide) (by omega)),by omega⟩
  ·rw [h3,h4];exact ⟨Nat.two_pow_pos _,by omega⟩
  ·refine ⟨Nat.lt_of_lt_of_le h3 (Nat.pow_le_pow_right (by decide) (by omega)),by omega⟩
 obtain ⟨hk,hx⟩:=hxk
 have a:=zKh D.k (2^D.x.toNat)
 have b:bl D.k<=251:=bl_le.2 hk
 have c1:bl (2^D.x.toNat)<=D.x.toNat+1:=bl_le.2 (Nat.pow_lt_pow_right (by decide) (by omega))
 have c2:bl (2^(-D.x).toNat)<=(-D.x).toNat+1:=bl_le.2 (Nat.pow_lt_pow_right (by decide) (by omega))
 have hk2:D.k<2^256:=Nat.lt_of_lt_of_le hk (Nat.pow_le_pow_right (by decide) (by decide))
 refine ⟨?_,by omega,by omega,hk2,hx⟩
 unfold coD
 by_cases q2:D.c=2
 ·rw [if_pos q2]
  exact Or.inr (Or.inl ⟨rfl,rfl,rfl,rfl⟩)
 ·rw [if_neg q2]
  by_cases q3:D.c=3
  ·rw [if_pos q3]
   refine Or.inr (Or.inr ⟨rfl,rfl,?_⟩)
   show (if D.k<10^(3*(fD t).j) then D.k else 0)<10^(3*(fD t).j)
   split
   ·assumption
   ·exact zWa _
  ·rw [if_neg q3]
   have hE:rqE t d (D.k*2^D.x.toNat) (1*2^(-D.x).toNat)=0:=by
    unfold rqE
    rw [if_pos ⟨ht,hd,by rw [Nat.one_mul];exact Nat.pos_iff_ne_zero.1 (Nat.two_pow_pos _)⟩,Nat.one_mul,if_neg (by omega)]
   obtain ⟨m0,m1,l0,l1,lm,j0,j1⟩:=zXt (zCd t)
   unfold rqD
   rw [if_pos hE]
   by_cases h0:D.k*2^D.x.toNat=0
   ·rw [if_pos h0]
    exact Or.inl ⟨rfl,rfl,zWa _,by show (fD t).l<=min (max 0 (fD t).l) (fD t).m;omega,by show min (max 0 (fD t).l) (fD t).m<=(fD t).m;omega⟩
   ·rw [if_neg h0]
    have hp:0<1*2^(-D.x).toNat*10^(-(clT 0)).toNat:=Nat.mul_pos (by rw [Nat.one_mul];exact Nat.two_pow_pos _) (zWa _)
    exact dkD_is (zCd t) hp (zUm (Nat.mul_pos (by omega) (zWa _)) hp)
def xoG (m t d:Int)(B:Nat):Prop:=zQd m B/\zPd t/\knB d
instance (m t d:Int) (B:Nat):Decidable (xoG m t d B):=inferInstanceAs (Decidable (_/\_))
noncomputable def xoV (m t d:Int)(B:Nat):Nat:=if xoG m t d B then vP (fD t) (coD t d (unD m B)) else 0
noncomputable def xoF (m t d:Int)(B:Nat):Int:=if xoG m t d B then coF t d (unD m B) else 0
def xoE (m t d:Int)(B:Nat):Int:=if xoG m t d B then 0 else 1
theorem zU6 {t d:Int}(ht:zPd t)(hd:knB d){n:Int}(hb:zYk n){D:Dat}(h:isD (fN n) (zZa n) (zNc n) D){vn vd:Value}{w:World}(hn:NT 900 (D.k*2^D.x.toNat) vn w)(hv:NT 900 (2^(-D.x).toNat) vd w) :
  CB 30 #[.int .i64 t,.int .i64 d,D.v,vn,vd,.int .i64 0] w (.tuple #[A4 (vP (fD t) (coD t d D)),.int .i64 (coF t d D),.int .i64 0]):=by
 obtain ⟨i1,i2,i3,i4,i5⟩:=zV9 ht hd hb h
 have hk:=vI_k (zCd t) i1
 have c23:=fun W=>rpk14 t (coD t d D) W hk
 rw [show vPV t (coD t d D)=vP (fD t) (coD t d D) from if_pos ⟨ht,i1⟩] at c23
 obtain ⟨c,s,g,x,k⟩:=D
 dsimp only at i2 i3 i4 i5 hn hv
 show Calls Tryz.prog 30 #[.int .i64 t,.int .i64 d,DV c s g x k,vn,vd,.int .i64 0] w _
 rcases h with ⟨h1,h2,h3,h4,h5,h6⟩|⟨h1,h2,h3,h4⟩|⟨h1,h2,h3,h4⟩
 ·dsimp only at h1
  subst h1
  have e1:coD t d ⟨1,s,g,x,k⟩=rqD t d s (k*2^x.toNat) (2^(-x).toNat) 0 0:=by
   show rqD t d s (k*2^x.toNat) (1*2^(-x).toNat) 0 0=_
   rw [Nat.one_mul]
  have e2:coF t d ⟨1,s,g,x,k⟩=rqF t d s (k*2^x.toNat) (2^(-x).toNat) 0:=by
   show rqF t d s (k*2^x.toNat) (1*2^(-x).toNat) 0=_
   rw [Nat.one_mul]
  rw [e1] at c23 ⊢
  rw [e2]
  exact io_1 t d 1 x s g k vn vd 0 w _ _ _ _ _ _ _ _ c23 rfl (fun W hW=>rr19 ht hd s 0 (Nat.two_pow_pos _) i2 i3 (hn.next hW) (hv.next hW))
 ·dsimp only at h1 h2 h3 h4
  subst h1 h2 h3 h4
  exact io_2 t d 2 0 s false 0 vn vd 0 w _ _ rfl c23
 ·dsimp only at h1 h2 h3 h4
  subst h1 h2
  exact io_3 t d 3 0 s g k vn vd 0 w _ _ _ _ _ _ _ _ c23 rfl (fun W=>rnad_v ht 3 0 s g k i4 W)
end
section
structure DtxC (TT:World->Prop):Prop where
 next:∀ w w',TT w->Below w.heap.size w w'->TT w'
 t10:∀ w,TT w->Tb10 w
 wr:∀ n Bp W,Bp<2^256->TT W->CB 22 #[.int .i64 n,A4 Bp] W (.tuple #[.string (B (dwT n Bp)),.int .i64 (vUE n Bp)])
attribute [local irreducible] W4
end
section
attribute [local irreducible] W4 NT NV
section
variable (m t d:Int)(Bp:Nat)(w:World)
theorem rco_n (b1 b2 b3:Bool)(hn:(b1&&b2&&b3)=false)
  (c8:∀ W,CB 12 #[.int .i64 m,A4 Bp] W (.bool b1))
  (c14:∀ W,CQ 15 #[.int .i64 t] W (.bool b2))
  (c10:∀ W,CQ 16 #[.int .i64 d] W (.bool b3)) :
  CB 11 #[.int .i64 m,.int .i64 t,.int .i64 d,A4 Bp] w (.tuple #[A4 0,.int .i64 0,.int .i64 1]):=by
 have hsm:=zAa
 rw [yHa]
 unfold A4 at *
 cases b1<;>cases b2<;>cases b3<;>simp only [Bool.and_self,Bool.and_true,Bool.and_false,Bool.true_and,Bool.false_and,Bool.true_eq_false] at hn
 all_goals (
  clear hn
  go_enter Tryz.func11,Tryz.ntmps11
  go_wp2_with (first
   | (go_at_call 12;refine wk w (c8 _) ?_;intro w1 hb1 _ _ _ _ hA1 _;obtain ⟨_,_⟩:=zf hb1 (w.heap.size+1);clear hb1)
   | (go_at_call 15;refine (c14 _).mono ?_;rintro r w2 ⟨rfl,rfl⟩)
   | (go_at_call 16;refine (c10 _).mono ?_;rintro r w3 ⟨rfl,rfl⟩))
  exact bodyPost_ret (by simp only [results,Tryz.results11];go_simp) rfl ⟨rfl,bgo⟩)
theorem rco_y (c x:Int)(s g:Bool)(k V N M:Nat)(F:Int)
  (c8:∀ W,CB 12 #[.int .i64 m,A4 Bp] W (.bool true))
  (c14:∀ W,CQ 15 #[.int .i64 t] W (.bool true))
  (c10:∀ W,CQ 16 #[.int .i64 d] W (.bool true))
  (c40:∀ W,CB 28 #[.int .i64 m,A4 Bp] W (.tuple #[DV c s g x k,.int .i64 0]))
  (c42:∀ W,Calls Tryz.prog 29 #[DV c s g x k,.int .u64 2] W fun r w'=>∃ a b,r=.returned (.tuple #[a,b])/\NT 900 N a w'/\NT 900 M b w'/\Below W.heap.size W w')
  (c41:∀ W vn vd,NT 900 N vn W->NT 900 M vd W->CB 30 #[.int .i64 t,.int .i64 d,DV c s g x k,vn,vd,.int .i64 0] W (.tuple #[A4 V,.int .i64 F,.int .i64 0])) :
  CB 11 #[.int .i64 m,.int .i64 t,.int .i64 d,A4 Bp] w (.tuple #[A4 V,.int .i64 F,.int .i64 0]):=by
 have hsm:=zAa
 unfold A4 DV at *
 go_enter Tryz.func11,Tryz.ntmps11
 go_wp2_with (first
  | (go_at_call 12;refine wk w (c8 _) ?_;intro w1 hb1 _ _ _ _ hA1 _;obtain ⟨_,_⟩:=zf hb1 (w.heap.size+1);clear hb1)
  | (go_at_call 15;refine (c14 _).mono ?_;rintro r w2 ⟨rfl,rfl⟩)
  | (go_at_call 16;refine (c10 _).mono ?_;rintro r w3 ⟨rfl,rfl⟩)
  | (go_at_call 28;refine wk w (c40 _) ?_;intro w4 hb4 _ _ _ _ hA4 _;obtain ⟨_,_⟩:=zf hb4 (w.heap.size+1);clear hb4)
  | (go_at_call 29;refine (c42 _).mono ?_;rintro r w5 ⟨a5,b5,rfl,nA,nB,hb5⟩;obtain ⟨_,_,_,_,hA5,_⟩:=wz w hb5;obtain ⟨_,_,_,_⟩:=zg hb5 (w.heap.size+1) w4.heap.size;clear hb5)
  | (go_at_call 30;refine wk w (c41 _ _ _ nA nB) ?_;intro w6 hb6 _ _ _ _ hA6 _;obtain ⟨_,_,_,_⟩:=zg hb6 (w.heap.size+1) w4.heap.size;clear hb6))
 exact bodyPost_ret (v:=.tuple #[A4 V,.int .i64 F,.int .i64 0]) (by unfold A4;simp only [results,Tryz.results11];go_simp) rfl ⟨rfl,bgo⟩
end
theorem xo_not {m t d:Int}{Bp:Nat}(h:¬ xoG m t d Bp):(decide (zQd m Bp)&&decide (zPd t)&&decide (knB d))=false:=by
 by_cases a1:zQd m Bp
 ·by_cases a2:zPd t
  ·have a3:¬ knB d:=fun a3=>h ⟨a1,a2,a3⟩
   rw [decide_eq_false (p:=knB d) a3,Bool.and_false]
  ·rw [decide_eq_false (p:=zPd t) a2,Bool.and_false,Bool.false_and]
 ·rw [decide_eq_false (p:=zQd m Bp) a1,Bool.false_and,Bool.false_and]
theorem zX6 (m t d:Int)(Bp:Nat)(w:World)(hB:Bp<2^256) :
  CB 11 #[.int .i64 m,.int .i64 t,.int .i64 d,A4 Bp] w (.tuple #[A4 (xoV m t d Bp),.int .i64 (xoF m t d Bp),.int .i64 (xoE m t d Bp)]):=by
 have c8:=fun W=>zBj m Bp hB W
 have c14:=fun W=>zUd t W
 have c10:=fun W=>zA1 d W
 unfold xoV xoF xoE
 by_cases h:xoG m t d Bp
 ·rw [if_pos h,if_pos h,if_pos h]
  obtain ⟨h1,h2,h3⟩:=h
  rw [decide_eq_true h1] at c8
  rw [decide_eq_true h2] at c14
  rw [decide_eq_true h3] at c10
  have c40:=fun W=>zDp m Bp W hB
  rw [show unE m Bp=0 from if_pos h1] at c40
  have hi:=zS3 h1
  obtain ⟨i1,i2,i3,i4,i5⟩:=zV9 h2 h3 h1.1 hi
  have c41:=fun W vn vd hn hv=>zU6 (w:=W) (vn:=vn) (vd:=vd) h2 h3 h1.1 hi hn hv
  generalize unD m Bp=D at *
  obtain ⟨c,s,g,x,k⟩:=D
  exact rco_y m t d Bp w _ _ _ _ _ _ _ _ _ c8 c14 c10 c40 (fun W=>zO0 c s g x k W i4 i5) c41
 ·rw [if_neg h,if_neg h,if_neg h]
  exact rco_n m t d Bp w _ _ _ (xo_not h) c8 c14 c10
structure CroC (TT:World->Prop):Prop where
 next:∀ w w',TT w->Below w.heap.size w w'->TT w'
 cv:∀ m t d Bp W,Bp<2^256->TT W->CB 10 #[.int .i64 m,.int .i64 t,.int .i64 d,A4 Bp] W (.tuple #[A4 (xoV m t d Bp),.int .i64 (xoF m t d Bp),.int .i64 (xoE m t d Bp)])
end
section
def vB (f:DF):Nat:=if f.dn then f.w else 0
def LF (f:DF):Value:=LD f.dn ((f.w+5:Nat):Int) (f.t:Int) (vB f:Int) (vQ f) (10^(3*f.j+1)) (10^(3*f.j)) f.l (f.l+3*2^f.w-1)
theorem DF.ok.w12 {f:DF}(h:f.ok):6<=f.w/\f.w<=12/\f.t<=110/\20<=f.t/\f.j<=11:=by
 rcases h with ⟨h1,h2,h3,h4⟩|⟨h1,h2,h3,h4⟩|⟨h1,h2,h3,h4⟩<;>omega
theorem zQ3 {f:DF}(h:f.ok):vQ f<2^128:=by
 unfold vQ
 rcases h with ⟨h1,h2,h3,h4⟩|⟨h1,h2,h3,h4⟩|⟨h1,h2,h3,h4⟩<;>rw [h1,h3]<;>cases f.dn<;>decide
theorem zTo {f:DF}(h:f.ok):10^(3*f.j+1)<2^128/\10^(3*f.j)<2^128:=by
 rcases h with ⟨h1,h2,h3,h4⟩|⟨h1,h2,h3,h4⟩|⟨h1,h2,h3,h4⟩<;>rw [h3]<;>decide
theorem zXj (n:Nat):(2:Int)^n=((2^n:Nat):Int):=by simp
theorem zTn (x n:Nat):(x:Int)/2^n=((x/2^n:Nat):Int):=by rw [zXj,Int.natCast_ediv]
theorem zSp (x n:Nat):(x:Int)%2^n=((x%2^n:Nat):Int):=by rw [zXj,Int.natCast_emod]
theorem zBi (x y:Nat):(((x:Nat):Int)==(y:Int))=decide (x=y):=by
 by_cases h:x=y
 ·subst h;simp
 ·rw [decide_eq_false h];simp;omega
section
variable {f:DF}(h:f.ok)
include h
theorem fsplit (B:Nat)(w:World)(hB:B<2^256):CB 137 #[LF f,A4 B] w (.tuple #[.bool (vS f B),.int .u64 (vG f B:Int),A4 (vR f B)]):=by
 have hw:=h.w12
 have hd:B/2^f.t<2^256:=Nat.lt_of_le_of_lt (Nat.div_le_self _ _) hB
 have hle:B/2^f.t*2^f.t<=B:=Nat.div_mul_le_self _ _
 have c3:=fun W=>sub4 B (B/2^f.t*2^f.t) W hB (Nat.lt_of_le_of_lt hle hB)
 rw [zDs hle,show B-B/2^f.t*2^f.t=vR f B by unfold vR;have:=Nat.div_add_mod' B (2^f.t);omega] at c3
 have c5:=fun W=>zDm (W4 (B/2^f.t) 0) (f.w+5) (zHa _ 0) (by omega) W
 have e5:W4 (B/2^f.t) 0%2^(f.w+5)=(vG f B:Int):=by
  unfold W4 vG
  rw [Nat.mul_zero,Nat.pow_zero,Nat.div_one,zSp]
  congr 1
  rw [show (18446744073709551616:Nat)=2^(f.w+5)*2^(64-(f.w+5)) by rw [← Nat.pow_add,show f.w+5+(64-(f.w+5))=64 by omega]]
  exact Nat.mod_mul_right_mod _ _ _
 rw [e5] at c5
 have e4:(((B/2^f.t/2^(f.w+5)%2:Nat):Int)==1)=vS f B:=by
  unfold vS
  rw [Nat.div_div_eq_div_mul,← Nat.pow_add]
  exact zBi _ 1
 rw [← e4]
 exact zD6 _ _ _ _ _ _ _ _ _ w B _ _ _ _ _ _ (fun W=>shr4 B f.t W hB (by omega)) (fun W=>shl4 (B/2^f.t) f.t W hd (by omega)) c3 (fun W=>bit4 (B/2^f.t) (f.w+5) W hd (by omega)) c5
theorem fkind (G:Nat)(w:World)(hG:G<2^(f.w+5)):CB 138 #[LF f,.int .u64 (G:Int)] w (.int .u64 (vV f.w G:Int)):=by
 have hw:=h.w12
 have hp:2^(f.w+5)<=2^17:=Nat.pow_le_pow_right (by decide) (by omega)
 exact kind_v _ _ _ _ _ _ _ _ _ w (G:Int) _ f.w (by omega) (by omega) (by omega) (by omega) (zTn G f.w)
theorem fsig (G:Nat)(w:World)(hG:G<2^(f.w+5)):CB 139 #[LF f,.int .u64 (G:Int)] w (.bool (decide (G/2^(f.w-1)%2=1))):=by
 have hw:=h.w12
 have hp:2^(f.w+5)<=2^17:=Nat.pow_le_pow_right (by decide) (by omega)
 have hd:G/2^(f.w-1)<=G:=Nat.div_le_self _ _
 have e:=zMm (G/2^(f.w-1)) 1 (by decide) (by omega)
 have e1:bits .and .u64 ((G:Int)/2^(f.w-1)) 1=((G/2^(f.w-1)%2:Nat):Int):=by rw [zTn];exact e
 have c:=zWu f.dn ((f.w+5:Nat):Int) (f.t:Int) (vB f:Int) (vQ f) (10^(3*f.j+1)) (10^(3*f.j)) f.l (f.l+3*2^f.w-1) w (G:Int) _ (f.w-1) (by omega) (by omega) (by omega) (by omega) e1
 rw [show (((G/2^(f.w-1)%2:Nat):Int)==1)=decide (G/2^(f.w-1)%2=1) from zBi _ 1] at c
 exact c
theorem fspec (k:Nat)(s:Bool)(w:World)(hk:k<=31):CB 185 #[LF f,.int .u64 (k:Int),.bool s] w (.int .u64 ((k*2^f.w+(if s then 2^(f.w-1) else 0):Nat):Int)):=by
 have hw:=h.w12
 have ho:=zTc k 1 1 (by decide) (by omega)
 have hp:2^(f.w-1)<=2^11:=Nat.pow_le_pow_right (by decide) (by omega)
 have hp0:1<=2^(f.w-1):=Nat.one_le_two_pow
 have e2:2^f.w=2*2^(f.w-1):=by rw [← Nat.pow_succ'];congr 1;omega
 refine zUu _ _ _ _ _ _ _ _ _ w (k:Int) _ s (f.w-1) (by omega) (by omega) (by omega) (by omega) (by omega) ((2^(f.w-1):Nat):Int) (zXj _) (by omega) (by omega) ?_ ?_ ?_
 ·rw [show ((k*2^1:Nat):Int)=(k:Int)*2 by omega] at ho
  rw [show (1:Int)=((1:Nat):Int) from rfl,ho];omega
 ·rw [e2]
  generalize 2^(f.w-1)=H at *
  cases s
  ·simp only [Bool.false_eq_true,if_false,Int.add_zero,Nat.add_zero]
   rw [Int.natCast_mul,Int.natCast_mul,Int.mul_assoc];rfl
  ·simp only [if_true]
   rw [Int.natCast_add,Int.natCast_mul,Int.natCast_mul,Int.add_mul,Int.one_mul,Int.mul_assoc];rfl
 ·have:k*2^f.w<=31*2^12:=Nat.mul_le_mul hk (Nat.pow_le_pow_right (by decide) (by omega))
  have:(if s then 2^(f.w-1) else 0)<=2^11:=by split<;>omega
  omega
theorem fread (R:Nat)(w:World)(hR:R<2^f.t):CB 141 #[LF f,A4 R] w (A4 (vT f R)):=by
 have hw:=h.w12
 have h256:R<2^256:=Nat.lt_of_lt_of_le hR (Nat.pow_le_pow_right (by decide) (by omega))
 unfold LF vT
 have ht:=h.t10
 cases hd:f.dn
 ·simp only [Bool.false_eq_true,if_false]
  exact read_p _ _ _ _ _ _ _ _ w R
 ·simp only [if_true]
  have c:=fun W=>zT2 R (f.j:Int) W h256
  have e:dUv R (f.j:Int)=dlU f.j R:=by
   unfold dUv
   rw [if_pos (by omega),Int.toNat_natCast,if_pos (by rw [← h.pt];exact hR)]
  rw [e] at c
  exact read_d _ _ _ _ _ _ _ _ w R _ _ (f.j:Int) (by omega) (by omega) (by omega) c
theorem zK4 (C:Nat)(w:World)(hC:C<2^256)(hd:f.dn=true->C<1000^f.j):CB 184 #[LF f,A4 C] w (A4 (if f.dn then dlP f.j C else C)):=by
 have hw:=h.w12
 unfold LF
 have ht:=h.t10
 cases e:f.dn
 ·simp only [Bool.false_eq_true,if_false]
  exact zI5 _ _ _ _ _ _ _ _ w C
 ·simp only [if_true]
  have c:=fun W=>zV2 C (f.j:Int) W hC
  have e:dPv C (f.j:Int)=dlP f.j C:=by
   unfold dPv
   rw [if_pos (by omega),Int.toNat_natCast,if_pos (hd e)]
  rw [e] at c
  exact zJ5 _ _ _ _ _ _ _ _ w C _ _ (f.j:Int) (by omega) (by omega) (by omega) c
theorem zL8 (s:Bool)(G R:Nat)(w:World)(hG:G<2^(f.w+5))(hR:R<2^f.t):CB 182 #[LF f,.bool s,.int .u64 (G:Int),A4 R] w (A4 ((if s then 2^(f.t+(f.w+5)) else 0)+G*2^f.t+R)):=by
 have hw:=h.w12
 have hp:2^(f.w+5)<=2^17:=Nat.pow_le_pow_right (by decide) (by omega)
 have hp0:1<=2^(f.w+5):=Nat.one_le_two_pow
 have hpt:2^f.t<=2^110:=Nat.pow_le_pow_right (by decide) (by omega)
 have key:∀ E:Nat,E<2^18->(∀ W,CB 78 #[.int .u64 (E:Int)] W (A4 E))/\(∀ W,CB 74 #[A4 E,.int .i64 (f.t:Int)] W (A4 (E*2^f.t)))/\(∀ W,CB 37 #[A4 (E*2^f.t),A4 R] W (.tuple #[A4 (E*2^f.t+R),.int .u64 (((E*2^f.t+R)/2^256:Nat):Int)])):=by
  intro E hE
  have hm:E*2^f.t<=2^18*2^110:=Nat.mul_le_mul (by omega) hpt
  have e:(2:Nat)^18*2^110<2^256:=by decide
  exact ⟨fun W=>of4 E W (by omega),fun W=>shl4 E f.t W (by omega) (by omega),fun W=>add4 _ _ W (by omega) (Nat.lt_of_lt_of_le hR (by omega))⟩
 cases s
 ·obtain ⟨k1,k2,k3⟩:=key G (by omega)
  simp only [Bool.false_eq_true,if_false,Nat.zero_add]
  exact zH9 _ _ _ _ _ _ _ _ _ w _ _ _ _ _ _ k1 k2 k3
 ·obtain ⟨k1,k2,k3⟩:=key (2^(f.w+5)+G) (by omega)
  have ho:=zTc 1 G (f.w+5) hG (by omega)
  rw [Nat.one_mul] at ho
  have hc:bits .or .u64 (G:Int) ((2^(f.w+5):Nat):Int)=((2^(f.w+5)+G:Nat):Int):=by
   rw [← ho]
   have e1:=zEg ((2^(f.w+5):Nat):Int) (G:Int) (by omega) (by omega)
   have e2:=zEg (G:Int) ((2^(f.w+5):Nat):Int) (by omega) (by omega)
   unfold orW at e1 e2
   rw [e1,e2,Nat.or_comm]
  simp only [if_true]
  rw [show 2^(f.t+(f.w+5))+G*2^f.t+R=(2^(f.w+5)+G)*2^f.t+R by rw [Nat.add_mul,← Nat.pow_add,Nat.add_comm (f.w+5) f.t]]
  exact zG9 _ _ _ _ _ _ _ _ _ w (G:Int) _ _ _ _ _ _ k1 k2 k3 (f.w+5) _ rfl (by omega) (zXj _) (by omega) (by omega) hc
theorem fpart (G:Nat)(w:World)(hG:G<2^(f.w+5)):CB 142 #[LF f,.int .u64 (G:Int)] w (.tuple #[.int .u64 (vF f.dn f.w G:Int),.int .u64 (vL f.dn f.w G:Int)]):=by
 have hw:=h.w12
 have hp:2^(f.w+5)<=2^17:=Nat.pow_le_pow_right (by decide) (by omega)
 have hB:vB f<=12:=by unfold vB;split<;>omega
 have hA:G/2^vB f<=G:=Nat.div_le_self _ _
 have cl:=fun W=>zDm (G:Int) (vB f) (by omega) (by omega) W
 rw [zSp] at cl
 have hX:G%2^vB f<2^vB f:=Nat.mod_lt _ (Nat.two_pow_pos _)
 have hpb:2^vB f<=2^12:=Nat.pow_le_pow_right (by decide) hB
 have e8:2^(f.w+5)=32*2^f.w:=by rw [Nat.pow_add,Nat.mul_comm]
 have e3:2^(f.w+3)=8*2^f.w:=by rw [Nat.pow_add,Nat.mul_comm]
 have hV8:G/2^(f.w+3)=vV f.w G/8:=by unfold vV;rw [Nat.div_div_eq_div_mul,e3,Nat.mul_comm]
 have hV32:vV f.w G<32:=by unfold vV;rw [Nat.div_lt_iff_lt_mul (Nat.two_pow_pos _),← e8];exact hG
 have hone:1<=2^f.w:=Nat.one_le_two_pow
 by_cases h24:vV f.w G<24
 ·have hF:∃ F:Nat,F=G/2^vB f/8/\vF f.dn f.w G=F*2^vB f+G%2^vB f:=by
   refine ⟨_,rfl,?_⟩
   unfold vF vB
   cases f.dn
   ·simp only [Bool.false_eq_true,if_false,Nat.pow_zero,Nat.div_one,Nat.mod_one,Nat.mul_one,Nat.add_zero,if_pos h24]
   ·simp only [if_true,if_pos h24];rfl
  obtain ⟨F,hF1,hF2⟩:=hF
  have hFl:F<=G:=by rw [hF1];exact Nat.le_trans (Nat.div_le_self _ _) hA
  have hFm:F*2^vB f<=2^17*2^12:=Nat.mul_le_mul (by omega) hpb
  have ho:=zTc F (G%2^vB f) (vB f) hX (by omega)
  rw [hF2]
  have hL:vL f.dn f.w G=G/2^vB f%8:=by
   unfold vL vB
   cases f.dn
   ·simp only [Bool.false_eq_true,if_false,Nat.pow_zero,Nat.div_one,if_pos h24]
   ·simp only [if_true,if_pos h24];rfl
  rw [hL]
  have c3:=fun W=>zQr ((G/2^vB f:Nat):Int) 3 (by omega) (by decide) W
  rw [zSp] at c3
  refine part_s f.dn _ _ _ _ _ _ _ w (G:Int) ((G/2^vB f:Nat):Int) ((G/2^(f.w+3):Nat):Int) (F:Int) ((F*2^vB f:Nat):Int) ((G%2^vB f:Nat):Int) _ _ (vB f) (f.w+3) (by omega) (by omega) (by omega) (by omega) (by omega) (zTn _ _) (by omega) (by omega) (zTn _ _) (by omega) (by omega) (by rw [zXj,Int.natCast_mul]) (by omega) (by omega) cl ho ?_ (by omega) c3
  rw [show (3:Int)=((3:Nat):Int) from rfl,zBi,hV8]
  exact decide_eq_false (by omega)
 ·have e2:2^(f.w+2)=4*2^f.w:=by rw [Nat.pow_add,Nat.mul_comm]
  have hk:∃ k:Nat,((f.w+3:Nat):Int)-(vB f:Int)=(k:Int)/\k<=15/\vF f.dn f.w G=G/2^vB f%2^k/2*2^vB f+G%2^vB f/\vL f.dn f.w G=8+G/2^vB f%2^k%2:=by
   unfold vF vL vB
   cases f.dn
   ·refine ⟨f.w+3,by simp,by omega,?_,?_⟩
    ·simp only [Bool.false_eq_true,if_false,Nat.pow_zero,Nat.div_one,Nat.mod_one,Nat.mul_one,Nat.add_zero,if_neg h24]
     rw [e2,e3];generalize 2^f.w=H at *;rw [show 8*H=2*(4*H) by omega,Nat.mod_mul_right_div_self]
    ·simp only [Bool.false_eq_true,if_false,Nat.pow_zero,Nat.div_one,if_neg h24]
     rw [e3,show 8*2^f.w=2*(4*2^f.w) by omega,Nat.mod_mul_right_mod]
   ·refine ⟨3,by simp only [if_true];omega,by omega,?_,?_⟩
    ·simp only [if_true,if_neg h24]
     show vV f.w G/2%4*_+_=vV f.w G%2^3/2*_+_
     rw [show (2:Nat)^3=2*4 by decide,Nat.mod_mul_right_div_self]
    ·simp only [if_true,if_neg h24]
     show 8+vV f.w G%2=8+vV f.w G%2^3%2
     rw [show (2:Nat)^3=2*4 by decide,Nat.mod_mul_right_mod]
  obtain ⟨k,hk,hk15,hF2,hL⟩:=hk
  rw [hF2,hL]
  have hAi:(G:Int)/2^vB f=((G/2^vB f:Nat):Int):=zTn _ _
  have hMi:(G:Int)/2^(f.w+3)=((G/2^(f.w+3):Nat):Int):=zTn _ _
  have hq:(((G/2^(f.w+3):Nat):Int)==3)=true:=by
   rw [show (3:Int)=((3:Nat):Int) from rfl,zBi,hV8]
   exact decide_eq_true (by omega)
  generalize G/2^vB f=A at *
  generalize G/2^(f.w+3)=M at *
  generalize G%2^vB f=X at *
  have c3:=fun W=>zQr (A:Int) k (by omega) (by omega) W
  rw [zSp] at c3
  have hAk:A%2^k<=A:=Nat.mod_le _ _
  generalize A%2^k=A' at *
  have hFm:A'/2*2^vB f<=2^17*2^12:=Nat.mul_le_mul (by omega) hpb
  have ho:=zTc (A'/2) X (vB f) hX (by omega)
  have c4:=fun W=>zQr (A':Int) 1 (by omega) (by omega) W
  rw [zSp] at c4
  exact part_g f.dn _ _ _ _ _ _ _ w (G:Int) (A:Int) (M:Int) ((A'/2:Nat):Int) ((A'/2*2^vB f:Nat):Int) (X:Int) _ _ (vB f) (f.w+3) (by omega) (by omega) (by omega) (by omega) (by omega) hAi (by omega) (by omega) hMi (by omega) (by omega) (by rw [zXj,Int.natCast_mul]) (by omega) (by omega) cl ho (A':Int) ((A'%2^1:Nat):Int) k hq hk (by omega) (by omega) (by omega) (by omega) (by omega) (by omega) c3 c4
theorem funite (E a:Nat)(w:World)(hE:E<3*2^f.w)(ha:a<=9):CB 183 #[LF f,.int .u64 (E:Int),.int .u64 (a:Int)] w (.int .u64 (vN f.dn f.w E a:Int)):=by
 have hw:=h.w12
 have hp:2^f.w<=2^12:=Nat.pow_le_pow_right (by decide) (by omega)
 have hB:vB f<=12:=by unfold vB;split<;>omega
 have hA:E/2^vB f<=E:=Nat.div_le_self _ _
 have cl:=fun W=>zDm (E:Int) (vB f) (by omega) (by omega) W
 rw [zSp] at cl
 have hX:E%2^vB f<2^vB f:=Nat.mod_lt _ (Nat.two_pow_pos _)
 have hpb:2^vB f<=2^12:=Nat.pow_le_pow_right (by decide) hB
 have hone:1<=2^f.w:=Nat.one_le_two_pow
 by_cases h8:8<=a
 ·have hk:∃ k:Nat,((f.w+5:Nat):Int)-2-(vB f:Int)=(k:Int)/\1<=k/\k<=15/\E/2^vB f*2<2^k/\vN f.dn f.w E a=(3*2^k+E/2^vB f*2+a%2)*2^vB f+E%2^vB f:=by
   unfold vN vB
   have e3:2^(f.w+3)=8*2^f.w:=by rw [Nat.pow_add,Nat.mul_comm]
   cases f.dn
   ·refine ⟨f.w+3,by simp only [Bool.false_eq_true,if_false];omega,by omega,by omega,?_,?_⟩
    ·simp only [Bool.false_eq_true,if_false,Nat.pow_zero,Nat.div_one];omega
    ·simp only [Bool.false_eq_true,if_false,Nat.pow_zero,Nat.div_one,Nat.mod_one,Nat.mul_one,Nat.add_zero,if_pos h8]
   ·refine ⟨3,by simp only [if_true];omega,by omega,by omega,?_,?_⟩
    ·simp only [if_true]
     have:E/2^f.w<3:=by rw [Nat.div_lt_iff_lt_mul (Nat.two_pow_pos _)];exact hE
     omega
    ·simp only [if_true,if_pos h8]
  obtain ⟨k,hk,hk1,hk15,hAk,hN⟩:=hk
  rw [hN]
  have hAi:(E:Int)/2^vB f=((E/2^vB f:Nat):Int):=zTn _ _
  have hpk:2^k<=2^15:=Nat.pow_le_pow_right (by decide) hk15
  have hpk1:1<=2^k:=Nat.one_le_two_pow
  have ek:2^k=2^(k-1)*2:=by rw [← Nat.pow_succ];congr 1;omega
  have hki:(2:Int)^k=((2^k:Nat):Int):=zXj k
  generalize E/2^vB f=A at *
  generalize E%2^vB f=X at *
  have hU:=zTc 3 (A*2) k hAk (by omega)
  have hY:=zTc (3*2^(k-1)+A) (a%2) 1 (Nat.mod_lt _ (by decide)) (by omega)
  rw [show (3*2^(k-1)+A)*2^1=3*2^k+A*2 by omega] at hY
  have c1:=fun W=>zDm (a:Int) 1 (by omega) (by omega) W
  rw [zSp,Nat.pow_one] at c1
  have hU':bits .or .u64 (3*((2^k:Nat):Int)) ((A:Int)*2)=((3*2^k+A*2:Nat):Int):=by
   rw [← hU,Int.natCast_mul,Int.natCast_mul];rfl
  clear hU
  generalize 2^k=H at *
  have hYm:(3*H+A*2+a%2)*2^vB f<=2^18*2^12:=Nat.mul_le_mul (by omega) hpb
  have ho:=zTc (3*H+A*2+a%2) X (vB f) hX (by omega)
  exact zT5 f.dn _ _ _ _ _ _ _ w (E:Int) (a:Int) (A:Int) ((3*H+A*2+a%2:Nat):Int) (((3*H+A*2+a%2)*2^vB f:Nat):Int) (X:Int) _ (vB f) (by omega) (by omega) (by omega) (by omega) (by omega) hAi (by omega) (by omega) (by omega) (by omega) (by rw [zXj,Int.natCast_mul]) (by omega) (by omega) cl ho k (H:Int) ((3*H+A*2:Nat):Int) ((a%2:Nat):Int) (by omega) hk hki (by omega) (by omega) hU' hY c1
 ·have hN:vN f.dn f.w E a=(E/2^vB f*8+a)*2^vB f+E%2^vB f:=by
   unfold vN vB
   cases f.dn
   ·simp only [Bool.false_eq_true,if_false,Nat.pow_zero,Nat.div_one,Nat.mod_one,Nat.mul_one,Nat.add_zero,if_neg h8]
   ·simp only [if_true,if_neg h8]
  rw [hN]
  have hAi:(E:Int)/2^vB f=((E/2^vB f:Nat):Int):=zTn _ _
  generalize E/2^vB f=A at *
  generalize E%2^vB f=X at *
  have hY:=zTc A a 3 (by omega) (by omega)
  have hY':bits .or .u64 ((A:Int)*8) (a:Int)=((A*8+a:Nat):Int):=hY
  have hYm:(A*8+a)*2^vB f<=2^18*2^12:=Nat.mul_le_mul (by omega) hpb
  have ho:=zTc (A*8+a) X (vB f) hX (by omega)
  exact zS5 f.dn _ _ _ _ _ _ _ w (E:Int) (a:Int) (A:Int) ((A*8+a:Nat):Int) (((A*8+a)*2^vB f:Nat):Int) (X:Int) _ (vB f) (by omega) (by omega) (by omega) (by omega) (by omega) hAi (by omega) (by omega) (by omega) (by omega) (by rw [zXj,Int.natCast_mul]) (by omega) (by omega) cl ho (by omega) hY'
end
end
section
theorem vT_256 {f:DF}(h:f.ok){R:Nat}(hR:R<2^f.t):vT f R<2^128:=by
 have hw:=h.w12
 have:=zTo h
 cases hd:f.dn
 ·unfold vT;rw [hd,if_neg (by decide)];exact Nat.lt_of_lt_of_le hR (Nat.pow_le_pow_right (by decide) (by omega))
 ·exact Nat.lt_trans (vT_lt h hd R) this.2
theorem vL_9 {f:DF}(dn:Bool)(w G:Nat):vL dn w G<=9:=by
 unfold vL
 cases dn<;>simp only [Bool.false_eq_true,if_false,if_true]<;>split<;>omega
theorem zZh (A B:Nat):0<=sgn (A:Int) (B:Int)↔¬ A<B:=by
 unfold sgn
 by_cases h:(A:Int)<(B:Int)
 ·rw [if_pos h];constructor
  ·intro q;exact absurd q (by decide)
  ·intro q;omega
 ·rw [if_neg h];constructor
  ·intro _;omega
  ·intro _;split<;>decide
section
variable {f:DF}(h:f.ok)
include h
theorem fmean (B:Nat)(w:World)(hB:B<2^256):Calls Tryz.prog 80 #[LF f,A4 B] w fun r w'=>r=.returned (vM f B).v/\Below w.heap.size w w':=by
 have hw:=h.w12
 have hG:=vG_lt f B
 have hR:=vR_lt f B
 have cs:=fun W=>fsplit h B W hB
 have ck:=fun W=>fkind h (vG f B) W hG
 have cr:=fun W=>fread h (vR f B) W hR
 have hU:=vT_256 h hR
 have h10:=zTo h
 have e256:(2:Nat)^128*2^4<2^256:=by decide
 unfold vM vD
 generalize vG f B=G at *
 generalize vR f B=R at *
 generalize vS f B=s at *
 by_cases h30:vV f.w G=30
 ·rw [if_pos h30]
  exact zB9 _ _ _ _ _ _ _ _ _ w B R s (G:Int) _ cs ck (by rw [h30];rfl)
 ·rw [if_neg h30]
  have e30:(((vV f.w G:Nat):Int)==30)=false:=by rw [show (30:Int)=((30:Nat):Int) from rfl,zBi];exact decide_eq_false h30
  by_cases h31:vV f.w G=31
  ·rw [if_pos h31]
   exact zA9 _ _ _ _ _ _ _ _ _ w B R s (G:Int) _ cs ck (vT f R) _ cr _ e30 (by rw [h31];rfl) (fun W=>fsig h G W hG) (fun W=>zYq (vT f R) (10^(3*f.j)) W (by omega) (by omega))
  ·rw [if_neg h31]
   have e31:(((vV f.w G:Nat):Int)==31)=false:=by rw [show (31:Int)=((31:Nat):Int) from rfl,zBi];exact decide_eq_false h31
   have hL:=vL_9 (f:=f) f.dn f.w G
   have hq:=zQ3 h
   have hm:vL f.dn f.w G*vQ f<=2^4*2^128:=Nat.mul_le_mul (by omega) (by omega)
   have cm:=fun W=>mul4 (vQ f) (vL f.dn f.w G) W (by omega) (by omega)
   rw [Nat.mul_comm (vQ f)] at cm
   have hF:vF f.dn f.w G<1000000:=by
    unfold vF vV
    rcases h with ⟨h1,h2,h3,h4⟩|⟨h1,h2,h3,h4⟩|⟨h1,h2,h3,h4⟩<;>rw [h2] at hG ⊢<;>cases f.dn<;>simp only [Bool.false_eq_true,if_false,if_true]<;>simp only [Nat.reducePow,Nat.reduceAdd] at*<;> split<;>omega
   have hl:-1000000<=f.l/\f.l<=1000000:=by rcases h with ⟨h1,h2,h3,h4⟩|⟨h1,h2,h3,h4⟩|⟨h1,h2,h3,h4⟩<;>omega
   have e5:(2:Nat)^4*2^128+2^128<2^256:=by decide
   exact zC9 _ _ _ _ _ _ _ _ _ w B R s (G:Int) _ cs ck (vT f R) _ cr _ _ _ _ _ _ e30 e31 (by omega) (by omega) hl.1 hl.2 (fun W=>fpart h G W hG) cm (fun W=>add4 _ _ W (by omega) (by omega)) (fun W=>zYq _ (10^(3*f.j+1)) W (by omega) (by omega))
theorem fpack (d:Dat)(w:World)(hk:d.k<2^256):CB 59 #[LF f,d.v] w (.tuple #[A4 (if vI f d then vP f d else 0),.int .i64 (if vI f d then 0 else 3)]):=by
 have hw:=h.w12
 have h10:=zTo h
 have hq:=zQ3 h
 have e256:(2:Nat)^128<2^256:=by decide
 have hl:-1000000<=f.l/\f.l<=0:=by rcases h with ⟨h1,h2,h3,h4⟩|⟨h1,h2,h3,h4⟩|⟨h1,h2,h3,h4⟩<;>omega
 have hw3:(3*2^f.w:Nat)<=3*2^12:=Nat.mul_le_mul (Nat.le_refl _) (Nat.pow_le_pow_right (by decide) (by omega))
 have ei:((3*2^f.w:Nat):Int)=3*2^f.w:=by rw [Int.natCast_mul,zXj];rfl
 obtain ⟨c,s,g,x,k⟩:=d
 simp only at hk
 by_cases h1:c=1
 ·subst h1
  refine zU8 _ _ _ _ _ _ _ _ _ w x s g k _ _ ?_
  intro W
  by_cases hi:vI f ⟨1,s,g,x,k⟩
  ·rw [if_pos hi,if_pos hi]
   have hPG:=zSm h hi
   have hPR:=zEu h hi
   obtain ⟨_,hg,hk10,hx0,hx1⟩:(1:Int)=1/\g=false/\k<10^(3*f.j+1)/\f.l<=x/\x<=f.l+3*2^f.w-1:=by
    rcases hi with hi|hi|hi
    ·exact hi
    ·exact absurd (show (1:Int)=2 from hi.1) (by decide)
    ·exact absurd (show (1:Int)=3 from hi.1) (by decide)
   subst hg
   have hqp:0<vQ f:=by
    unfold vQ;cases f.dn<;>simp only [Bool.false_eq_true,if_false,if_true]
    ·exact Nat.two_pow_pos _
    ·exact Nat.pow_pos (by decide)
   have hm9:k/vQ f<=9:=by
    unfold vQ
    rcases h with ⟨h1,h2,h3,h4⟩|⟨h1,h2,h3,h4⟩|⟨h1,h2,h3,h4⟩<;>rw [h3] at hk10 ⊢<;>rw [h1]<;>cases f.dn<;>simp only [Bool.false_eq_true,if_false,if_true]<;>simp only [Nat.reducePow,Nat.reduceAdd,Nat.reduceMul] at*<;> omega
   have hmod:k-k/vQ f*vQ f=k%vQ f:=by have:=Nat.div_add_mod' k (vQ f);omega
   have hlt:=Nat.mod_lt k hqp
   have hE:(x-f.l).toNat<3*2^f.w:=by omega
   have hEi:x-f.l=(((x-f.l).toNat:Nat):Int):=by omega
   have cn:=fun W=>funite h (x-f.l).toNat (k/vQ f) W hE hm9
   rw [← hEi] at cn
   have hvN:vPG f ⟨1,s,false,x,k⟩=vN f.dn f.w (x-f.l).toNat (k/vQ f):=rfl
   rw [← hvN] at cn
   have hR0:∀ i,k-i*vQ f<2^256:=fun i=>by omega
   have cw:=fun W=>zK4 h (k-k/vQ f*vQ f) W (hR0 _) (fun hd=>by
    rw [hmod,← ten3]
    have:vQ f=10^(3*f.j):=by unfold vQ;rw [hd,if_pos rfl]
    rw [this] at hlt ⊢
    exact hlt)
   have ew:(if f.dn=true then dlP f.j (k-k/vQ f*vQ f) else k-k/vQ f*vQ f)=vPR f ⟨1,s,false,x,k⟩:=by
    rw [hmod]
    unfold vPR vQ
    simp only [show ¬ ((1:Int)=2) by decide,show ¬ ((1:Int)=3) by decide,if_false]
    cases f.dn<;>simp
   rw [ew] at cw
   have cj:=fun W=>zL8 h s _ _ W hPG hPR
   refine dfin_y _ _ _ _ _ _ _ _ _ W x s k _ _ (fun W=>cmp4 k _ W hk (by omega)) (by omega) (by omega) (by rw [zZh];omega) (k/vQ f) (by omega) (fun i=>k-i*vQ f) (fun i=>sgn ((k-i*vQ f:Nat):Int) (vQ f:Int)) (fun i=>if k-i*vQ f<vQ f then 1 else 0) (by simp) _ hl.1 (by omega) (by omega) _ ?_ ?_ ?_ ?_ cn cw cj
   ·show ∀ _,_
    intro i hi W
    exact cmp4 _ _ W (hR0 i) (by omega)
   ·show ∀ _,_
    intro i hi
    rw [zZh]
    have:(i+1)*vQ f<=k:=Nat.le_trans (Nat.mul_le_mul_right _ hi) (Nat.div_mul_le_self _ _)
    rw [Nat.add_mul,Nat.one_mul] at this
    omega
   ·show ¬ _
    rw [zZh,hmod];omega
   ·show ∀ _,_
    intro i hi W
    have:(i+1)*vQ f<=k:=Nat.le_trans (Nat.mul_le_mul_right _ hi) (Nat.div_mul_le_self _ _)
    have e:k-(i+1)*vQ f=k-i*vQ f-vQ f:=by rw [Nat.add_mul,Nat.one_mul];omega
    rw [Nat.add_mul,Nat.one_mul] at this
    have c:=sub4 (k-i*vQ f) (vQ f) W (hR0 i) (by omega)
    rw [zDs (by omega),← e] at c
    exact c
  ·rw [if_neg hi,if_neg hi]
   cases g
   ·by_cases a1:x<f.l
    ·exact dfin_l _ _ _ _ _ _ _ _ _ W x s k a1
    ·by_cases a2:f.l+3*2^f.w-1<x
     ·exact dfin_m _ _ _ _ _ _ _ _ _ W x s k a1 a2
     ·have a3:¬ k<10^(3*f.j+1):=fun q=>hi (Or.inl ⟨rfl,rfl,q,(by omega:f.l<=x),(by omega:x<=f.l+3*2^f.w-1)⟩)
      exact dfin_k _ _ _ _ _ _ _ _ _ W x s k _ (fun W=>cmp4 k _ W hk (by omega)) a1 a2 ((zZh _ _).2 a3)
   ·exact dfin_s _ _ _ _ _ _ _ _ _ W x s k
 ·by_cases h2:c=2
  ·subst h2
   refine zT8 _ _ _ _ _ _ _ _ _ w x s g k _ _ ?_
   intro W
   by_cases hi:vI f ⟨2,s,g,x,k⟩
   ·rw [if_pos hi,if_pos hi]
    have hPG:=zSm h hi
    obtain ⟨_,hg,hk0,hx0⟩:(2:Int)=2/\g=false/\k=0/\x=0:=by
     rcases hi with hi|hi|hi
     ·exact absurd (show (2:Int)=1 from hi.1) (by decide)
     ·exact hi
     ·exact absurd (show (2:Int)=3 from hi.1) (by decide)
    subst hg hk0 hx0
    have cp:=fun W=>fspec h 30 false W (by decide)
    have cj:=fun W=>zL8 h s _ 0 W hPG (Nat.two_pow_pos _)
    rw [zEd] at cj
    exact dinf_y _ _ _ _ _ _ _ _ _ W s _ _ cp cj
   ·rw [if_neg hi,if_neg hi]
    cases g
    ·by_cases a1:x=0
     ·subst a1
      refine dinf_k _ _ _ _ _ _ _ _ _ W s k (decide_eq_false fun q=>hi (Or.inr (Or.inl ⟨rfl,rfl,?_,rfl⟩)))
      refine zEs hk (by decide) fun i hi=>?_
      rw [zNa]
      rcases (show i=0∨i=1∨i=2∨i=3 by omega) with e|e|e|e<;>subst e
      ·exact q.1
      ·exact q.2.1
      ·exact q.2.2.1
      ·exact q.2.2.2
     ·exact dinf_x _ _ _ _ _ _ _ _ _ W x s k (by simp [a1])
    ·exact dinf_s _ _ _ _ _ _ _ _ _ W x s k
  ·by_cases h3:c=3
   ·subst h3
    refine zS8 _ _ _ _ _ _ _ _ _ w x s g k _ _ ?_
    intro W
    by_cases hi:vI f ⟨3,s,g,x,k⟩
    ·rw [if_pos hi,if_pos hi]
     have hPG:=zSm h hi
     have hPR:=zEu h hi
     obtain ⟨_,hx0,hk10⟩:(3:Int)=3/\x=0/\k<10^(3*f.j):=by
      rcases hi with hi|hi|hi
      ·exact absurd (show (3:Int)=1 from hi.1) (by decide)
      ·exact absurd (show (3:Int)=2 from hi.1) (by decide)
      ·exact hi
     subst hx0
     have cp:=fun W=>fspec h 31 g W (by decide)
     have cw:=fun W=>zK4 h k W hk (fun _=>by rw [← ten3];exact hk10)
     have cj:=fun W=>zL8 h s _ _ W hPG hPR
     exact dnan_y _ _ _ _ _ _ _ _ _ W s g k _ _ _ (fun W=>cmp4 k _ W hk (by omega)) _ (by rw [zZh];omega) cp cw cj
    ·rw [if_neg hi,if_neg hi]
     by_cases a1:x=0
     ·subst a1
      have a3:¬ k<10^(3*f.j):=fun q=>hi (Or.inr (Or.inr ⟨rfl,rfl,q⟩))
      exact dnan_k _ _ _ _ _ _ _ _ _ W s g k _ (fun W=>cmp4 k _ W hk (by omega)) ((zZh _ _).2 a3)
     ·exact dnan_x _ _ _ _ _ _ _ _ _ W x s g k (by simp [a1])
   ·have hi:¬ vI f ⟨c,s,g,x,k⟩:=by
     rintro (q|q|q)
     ·exact h1 q.1
     ·exact h2 q.1
     ·exact h3 q.1
    rw [if_neg hi,if_neg hi]
    exact zV8 _ _ _ _ _ _ _ _ _ w c x s g k (by simp [h1]) (by simp [h2]) (by simp [h3])
end
end
section
attribute [local irreducible] W4
theorem zQ5 {n:Int}{B:Nat}(h:zWh n B):vUD n B=vM (fD n) B/\vUC n B=decide (vP (fD n) (vM (fD n) B)=B)/\vUE n B=0:=by
 unfold vUD vUC vUE
 exact ⟨if_pos h,decide_eq_decide.2 ⟨fun q=>q.2,fun q=>⟨h,q⟩⟩,if_pos h⟩
theorem vU_bad {n:Int}{B:Nat}(h:¬ zWh n B):vUD n B=⟨0,false,false,0,0⟩/\vUC n B=false/\vUE n B=1:=by
 unfold vUD vUC vUE
 exact ⟨if_neg h,decide_eq_false fun q=>h q.1,if_neg h⟩
end
theorem zHr (n:Int)(w:World)(hT:Tab w)(hd:zPd n):CB 58 #[.int .i64 n] w (.tuple #[LF (fD n),.int .i64 0]):=by
 obtain ⟨hok,f1,f2,f3,f4,f5,f6,f7,f8⟩:=zId hd
 have c1:=fun W hW=>zBe n W hW
 rw [show zZc n=0 from if_pos hok,f1,f2,f3,f4,f5,f6,f7,f8] at c1
 have h:=zCd n
 have hw:=h.w12
 generalize fD n=f at *
 have hG:((f.t+(f.w+6):Nat):Int)/16+9=((f.w+5:Nat):Int):=by rcases h with ⟨h1,h2,h3,h4⟩|⟨h1,h2,h3,h4⟩|⟨h1,h2,h3,h4⟩<;>rw [h1,h2]<;>rfl
 have cc:=fun W=>zP4 (3*f.j+1) W (by omega)
 have cp:=fun W=>zP4 (3*f.j) W (by omega)
 have e1:((3*f.j+1:Nat):Int)=3*(f.j:Int)+1:=by omega
 have e2:((3*f.j:Nat):Int)=3*(f.j:Int):=by omega
 have cw:=cp
 rw [e1] at cc
 rw [e2] at cp
 unfold LF
 cases e:f.dn
 ·rw [e] at c1
  have eB:vB f=0:=by unfold vB;rw [e,if_neg (by decide)]
  have eQ:vQ f=2^f.t:=by unfold vQ;rw [e,if_neg (by decide)]
  have cs:=fun W=>shl4 1 f.t W (by decide) (by omega)
  rw [Nat.one_mul] at cs
  rw [eB,eQ]
  exact dlay_p n _ n _ _ _ _ _ _ w hT _ _ _ _ (by omega) (by omega) hG (by omega) (by omega) (by omega) (by omega) (by omega) cc cp _ c1 (fun W=>of4 1 W (by decide)) cs
 ·rw [e] at c1
  have eB:vB f=f.w:=by unfold vB;rw [e,if_pos rfl]
  have eQ:vQ f=10^(3*f.j):=by unfold vQ;rw [e,if_pos rfl]
  rw [eB,eQ]
  rw [show ((3*f.j:Nat):Int)=3*(f.j:Int)+1-1 by omega] at cw
  exact dlay_d n _ n _ _ _ _ _ _ w hT _ _ _ _ (by omega) (by omega) hG (by omega) (by omega) (by omega) (by omega) (by omega) cc cp _ _ (by omega) (by omega) (by omega) c1 cw
theorem zFw {n:Int}(h:¬ zPd n):(okN n/\(zDd n != 10)=true)∨¬ okN n:=by
 by_cases hk:okN n
 ·left
  refine ⟨hk,?_⟩
  unfold zPd at h
  rcases zGe hk with rfl|rfl|rfl|rfl|rfl|rfl|rfl|rfl|rfl|rfl|rfl|rfl<;>first|rfl|omega
 ·exact Or.inr hk
theorem zSn (n:Int)(w:World)(hT:Tab w)(hd:¬ zPd n):CB 58 #[.int .i64 n] w (.tuple #[ZL,.int .i64 1]):=by
 have c1:=fun W hW=>zBe n W hW
 rcases zFw hd with ⟨hk,hb⟩|hk
 ·rw [show zZc n=0 from if_pos hk] at c1
  exact dlay_b n _ _ _ _ _ _ _ _ _ _ w hT hb c1
 ·rw [show zZc n=1 from if_neg hk] at c1
  exact dlay_e n _ _ _ _ _ _ _ _ _ _ w hT 1 rfl c1
theorem zNr {n:Int}(B:Nat)(hd:zPd n):(okN n/\B<2^(zVa n).toNat)↔zWh n B:=by
 have hF:=zId hd
 rw [hF.2.2.2.1,Int.toNat_natCast]
 exact ⟨fun h=>⟨hd,h.2⟩,fun h=>⟨hF.1,h.2⟩⟩
theorem zTw (n:Int)(B:Nat)(w:World)(hT:Tab w)(hB:B<2^256)(hg:zWh n B):CB 79 #[.int .i64 n,A4 B] w (.tuple #[LF (fD n),.int .i64 0]):=by
 have c1:=fun W hW=>zH2 n B hB W hW
 rw [decide_eq_true ((zNr B hg.1).2 hg)] at c1
 exact dfor_y n B w hT c1 _ _ _ _ _ _ _ _ _ (fun W hW=>zHr n W hW hg.1)
theorem zHt (n:Int)(B:Nat)(w:World)(hT:Tab w)(hB:B<2^256)(hg:¬ zWh n B):CB 79 #[.int .i64 n,A4 B] w (.tuple #[ZL,.int .i64 1]):=by
 have c1:=fun W hW=>zH2 n B hB W hW
 by_cases hd:zPd n
 ·rw [decide_eq_false (fun q=>hg ((zNr B hd).1 q))] at c1
  exact zV4 n B w hT c1
 ·by_cases hf:okN n/\B<2^(zVa n).toNat
  ·rw [decide_eq_true hf] at c1
   exact dfor_b n B w hT c1 (fun W hW=>zSn n W hW hd)
  ·rw [decide_eq_false hf] at c1
   exact zV4 n B w hT c1
theorem zW8 (n:Int)(d:Dat)(hk:d.k<2^256)(W:World)(hT:Tab W):CB 27 #[.int .i64 n,d.v] W (.tuple #[A4 (vPV n d),.int .i64 (vPE n d)]):=by
 unfold vPV vPE
 by_cases hd:zPd n
 ·have c2:=fun W=>fpack (zCd n) d W hk
  have e1:(if zPd n/\vI (fD n) d then vP (fD n) d else 0)=(if vI (fD n) d then vP (fD n) d else 0):=by
   by_cases hi:vI (fD n) d
   ·rw [if_pos ⟨hd,hi⟩,if_pos hi]
   ·rw [if_neg (fun q=>hi q.2),if_neg hi]
  rw [e1,if_pos hd]
  exact zW2 n W hT _ _ _ _ _ _ _ _ _ _ _ _ _ _ _ _ (fun W hW=>zHr n W hW hd) c2
 ·rw [if_neg (fun q=>hd q.1),if_neg hd]
  exact zX2 n W hT _ _ _ _ _ (fun W hW=>zSn n W hW hd)
theorem zP8 (n:Int)(B:Nat)(hB:B<2^256)(W:World)(hT:Tab W):CB 39 #[.int .i64 n,A4 B] W (.tuple #[(vUD n B).v,.bool (vUC n B),.int .i64 (vUE n B)]):=by
 by_cases hg:zWh n B
 ·obtain ⟨e1,e2,e3⟩:=zQ5 hg
  rw [e1,e2,e3]
  have h:=zCd n
  have c3:=fun W=>fpack h (vM (fD n) B) W (zR3 h B)
  rw [if_pos (zFu h B),if_pos (zFu h B)] at c3
  refine dunp_y n W hT _ _ _ _ _ _ _ _ _ B (fun W hW=>zTw n B W hW hB hg) _ _ _ _ _ _ _ (fun W=>fmean h B W hB) c3 _ ?_
  exact zS2 (vP_256 h (zFu h B)) hB
 ·obtain ⟨e1,e2,e3⟩:=vU_bad hg
  rw [e1,e2,e3,zero_v]
  exact dunp_n n W hT B (fun W hW=>zHt n B W hW hB hg)
section
theorem zLj {n:Int}(h:zPd n)(w:World)(hT:Tab w):CB 53 #[.int .i64 n] w (.tuple #[zEb n (zMd n) (zVa n) (3*((fD n).j:Int)+1) (zKi n) (fD n).l (fD n).m (zNk n) (zZb n),.int .i64 0]):=by
 obtain ⟨hok,h1,h2,h3,h4,h5,h6,h7,h8⟩:=zId h
 have c:=zBe n w hT
 rw [show zZc n=0 from if_pos hok,h1,h2,h4,h5,h6] at c
 exact c
theorem zP1 {n:Int}(hok:okN n)(h:¬ zPd n):(zDd n != 10)=true:=by
 unfold okN at hok
 unfold zPd at h
 have:n=1∨n=2∨n=3∨n=4∨n=5∨n=6:=by omega
 rcases this with rfl|rfl|rfl|rfl|rfl|rfl<;>decide
section
variable {n d:Int}{N D:Nat}{vn vd:Value}{w:World}(hT:Tab w)(hn:Nt 2001 N vn w)(hd:Nt 2001 D vd w)
include hT hn hd
theorem zB3 (hE:rqE n d N D≠0):CB 109 #[.int .i64 n,.int .i64 d,vn,vd] w (.tuple #[IZ,.int .i64 (rqE n d N D)]):=by
 have c66:=fun W (hb:Below w.heap.size w W)=>zDi (by decide) (hn.next hb)
 have c66d:=fun W (hb:Below w.heap.size w W)=>zDi (by decide) (hd.next hb)
 unfold rqE at hE ⊢
 by_cases h1:zPd n
 ·by_cases h2:knB d
  ·by_cases h3:D=0
   ·rw [if_neg (fun h=>h.2.2 h3)]
    exact zC3 n d _ _ _ _ _ _ _ _ N D vn vd w hT c66 c66d (decide_eq_true h2) (by rw [h3];rfl) (fun W hT'=>zLj h1 W hT')
   ·rw [if_pos ⟨h1,h2,h3⟩] at hE ⊢
    have hD0:(((bl D:Nat):Int)==0)=false:=by rw [zJh];exact decide_eq_false h3
    by_cases h4:25600<bl N
    ·rw [if_pos (Or.inl h4)]
     exact zD3 n d _ _ _ _ _ _ _ _ N D vn vd w hT c66 c66d (decide_eq_true h2) hD0 (by omega) (fun W hT'=>zLj h1 W hT')
    ·by_cases h5:25600<bl D
     ·rw [if_pos (Or.inr h5)]
      exact zE3 n d _ _ _ _ _ _ _ _ N D vn vd w hT c66 c66d (decide_eq_true h2) hD0 (by omega) (by omega) (fun W hT'=>zLj h1 W hT')
     ·exact absurd (if_neg (fun h=>h.elim h4 h5)) hE
  ·rw [if_neg (fun h=>h2 h.2.1)]
   exact zH3 n d _ _ _ _ _ _ _ _ N D vn vd w hT c66 c66d (decide_eq_false h2) (fun W hT'=>zLj h1 W hT')
 ·rw [if_neg (fun h=>h1 h.1)]
  by_cases hok:okN n
  ·refine zI3 n d (zMd n) (zVa n) (zUe n) (zKi n) (zZa n) (zNc n) (zNk n) (zDd n) (zZb n) N D vn vd w hT c66 c66d (zCw n) (zP1 hok h1) (fun W hT'=>?_)
   have c:=zBe n W hT'
   rw [show zZc n=0 from if_pos hok] at c
   exact c
  ·refine zG3 n d (zMd n) (zVa n) (zUe n) (zKi n) (zZa n) (zNc n) (zNk n) (zDd n) (zZb n) N D vn vd w hT c66 c66d (zCw n) 1 (by decide) (fun W hT'=>?_)
   have c:=zBe n W hT'
   rw [show zZc n=1 from if_neg hok] at c
   exact c
theorem zQ9 (hE:rqE n d N D=0):CB 109 #[.int .i64 n,.int .i64 d,vn,vd] w (.tuple #[zEb n (zMd n) (zVa n) (3*((fD n).j:Int)+1) (zKi n) (fD n).l (fD n).m (zNk n) (zZb n),.int .i64 0]):=by
 have c66:=fun W (hb:Below w.heap.size w W)=>zDi (by decide) (hn.next hb)
 have c66d:=fun W (hb:Below w.heap.size w W)=>zDi (by decide) (hd.next hb)
 obtain ⟨h1,h2,h3,h4,h5⟩:=zFp hE
 exact zF3 n d _ _ _ _ _ _ _ _ N D vn vd w hT c66 c66d (decide_eq_true h2) (by rw [zJh];exact decide_eq_false h3) (by omega) (by omega) (fun W hT'=>zLj h1 W hT')
end
theorem zA6 {f:DF}(hf:f.ok):(10:Nat)^(3*f.j+1)<2^256:=by
 obtain ⟨m0,m1,l0,l1,lm,j0,j1⟩:=zXt hf
 exact Nat.lt_of_le_of_lt (Nat.pow_le_pow_right (by decide) (show 3*f.j+1<=34 by omega)) (by decide)
theorem drd_v {n d x y:Int}{s:Bool}{N D:Nat}{vn vd:Value}{w:World}(hT:Tab w)(hn:Nt 2001 N vn w)(hd:Nt 2001 D vd w) :
  CB 55 #[.int .i64 n,.int .i64 d,.bool s,vn,vd,.int .i64 x,.int .i64 y] w (.tuple #[(rqD n d s N D x y).v,.int .i64 (rqF n d s N D x),.int .i64 (rqE n d N D)]):=by
 by_cases hE:rqE n d N D=0
 ·have c17:=fun W (hb:Below w.heap.size w W)=>zQ9 (hT.go hb) (hn.next hb) (hd.next hb) hE
  have c18:=fun W (hb:Below w.heap.size w W)=>zDi (by decide) (hn.next hb)
  obtain ⟨h1,h2,h3,h4,h5⟩:=zFp hE
  have hf:=zCd n
  obtain ⟨m0,m1,l0,l1,lm,j0,j1⟩:=zXt hf
  by_cases hN:N=0
  ·have e1:rqD n d s N D x y=⟨1,s,false,min (max y (fD n).l) (fD n).m,0⟩:=by unfold rqD;rw [if_pos hE,if_pos hN]
   have e2:rqF n d s N D x=0:=by unfold rqF;rw [if_pos hE,if_pos hN]
   rw [e1,e2,hE]
   have ev:(Dat.mk 1 s false (min (max y (fD n).l) (fD n).m) 0).v=.agg #[.int .i64 1,.bool s,.bool false,.int .i64 (min (max y (fD n).l) (fD n).m),.int .u64 0,.int .u64 0,.int .u64 0,.int .u64 0]:=by
    unfold Dat.v DV
    simp only [zNa]
   rw [ev]
   exact ddec_z n d x y s vn vd w _ _ _ _ _ _ _ _ N _ _ _ _ _ _ _ _ c17 c18 (by rw [hN];rfl) _ rfl (fun W=>zW4 s _ W)
  ·obtain ⟨L,hL,_⟩:=zQx hn hd hN h3 h4 h5
   have c20:∀ W,Below w.heap.size w W->CB 112 #[vn,vd] W (.int .i64 L):=fun W hb=>by
    obtain ⟨L',hL',c⟩:=zQx (hn.next hb) (hd.next hb) hN h3 h4 h5
    rw [hL'.only hL] at c
    exact c
   obtain ⟨b1,b2⟩:=tn_bd (by omega) (by omega) h4 h5 hL
   obtain ⟨r1,r2⟩:=zR8 (s:=s) (x:=x) (y:=y) hE hN hL
   have hTn:=zBs hL (pX (fD n) L x)
   have c21:∀ W,CB 113 #[zEb n (zMd n) (zVa n) (3*((fD n).j:Int)+1) (zKi n) (fD n).l (fD n).m (zNk n) (zZb n),.int .i64 L,.int .i64 x] W (.int .i64 (pX (fD n) L x)):=fun W =>
    zKx n _ _ _ _ _ _ _ _ L x W (by omega) (by omega) (by omega) (by omega)
   have hXb:(fD n).l-2-L<=pX (fD n) L x/\pX (fD n) L x<=(fD n).m+(3*(fD n).j+1)-L:=by unfold pX;omega
   have hC0:=zF9 (fD n) d s N D (pX (fD n) L x) (L+pX (fD n) L x)
   have hX0:=dkX_at (fD n) N D (pX (fD n) L x) (L+pX (fD n) L x)
   have hle:=zVx (f:=fD n) (d:=d) (s:=s) (Nat.mul_pos (show 0<D by omega) (zWa (-(pX (fD n) L x)).toNat)) hTn
   have hCl:=zS4 (f:=fD n) (d:=d) (s:=s) (Nat.mul_pos (show 0<D by omega) (zWa (-(pX (fD n) L x)).toNat)) hTn
   have h256:=zA6 hf
   have hql:=zR4 (fD n) d s (N*10^(pX (fD n) L x).toNat) (D*10^(-(pX (fD n) L x)).toNat) (L+pX (fD n) L x)
   have hqq:max (fD n).l (L+pX (fD n) L x-(3*((fD n).j:Int)+1)+1)=dkQ (fD n) (L+pX (fD n) L x):=by unfold dkQ;omega
   have hqb:-20000<=dkQ (fD n) (L+pX (fD n) L x)/\dkQ (fD n) (L+pX (fD n) L x)<=20000:=by unfold dkQ;omega
   have hdf:-9100<=pX (fD n) L x-dkQ (fD n) (L+pX (fD n) L x)/\pX (fD n) L x-dkQ (fD n) (L+pX (fD n) L x)<=9100:=by unfold dkQ;omega
   rw [r1,r2,hE]
   clear r1 r2 hL
   unfold dkD dkF
   unfold dkM at *
   generalize hEq:dkE (fD n) d s (N*10^(pX (fD n) L x).toNat) (D*10^(-(pX (fD n) L x)).toNat) (L+pX (fD n) L x)=qe at *
   generalize hCq:dkC (fD n) d s (N*10^(pX (fD n) L x).toNat) (D*10^(-(pX (fD n) L x)).toNat) (L+pX (fD n) L x)=ce at *
   unfold dkE at hEq
   unfold dkC at hCq
   rw [hX0]
   generalize dkC0 (fD n) d s (N*10^(pX (fD n) L x).toNat) (D*10^(-(pX (fD n) L x)).toNat) (L+pX (fD n) L x)=C at *
   clear hX0 hTn
   generalize dkQ (fD n) (L+pX (fD n) L x)=q0 at *
   generalize pX (fD n) L x=X at *
   have c22:∀ W,Below w.heap.size w W->Calls Tryz.prog 114 #[vn,vd,.int .i64 (X-q0)] W fun r w'=>∃ va vb,r=.returned (.tuple #[va,vb])/\Below W.heap.size W w'/\(Calls Tryz.prog 99 #[.int .i64 d,.bool s,va,vb] w' fun r w''=>∃ v,r=.returned (.tuple #[v,.bool (decide (N*10^(X-q0).toNat%(D*10^(-(X-q0)).toNat)=0))])/\Nz 2003 C v w''/\Below w'.heap.size w' w''):=fun W hb=>by
    refine (zCo (X-q0) (hn.next hb) (hd.next hb) (by omega) (by omega) (by omega)).mono ?_
    rintro r w' ⟨va,vb,e1,e2,e3,e4⟩
    refine ⟨va,vb,e1,e4,?_⟩
    rw [hC0]
    have t1:=zKh N (10^(X-q0).toNat)
    have t2:=zKh D (10^(-(X-q0)).toNat)
    have t3:=zDg (X-q0).toNat
    have t4:=zDg (-(X-q0)).toNat
    exact zKz d s e2 e3 (Nat.ne_of_gt (Nat.mul_pos (by omega) (zWa _))) (by omega) (by omega)
   have c25:∀ W,CE 115 #[.int .i64 (3*((fD n).j:Int)+1)] W (NT 2001 (10^(3*(fD n).j+1))):=fun W=>by
    have:=zCm (3*(fD n).j+1) W (by omega)
    rw [show ((3*(fD n).j+1:Nat):Int)=3*((fD n).j:Int)+1 by omega] at this
    exact this
   have c25b:∀ W,CE 115 #[.int .i64 (3*((fD n).j:Int)+1-1)] W (NT 2001 (10^(3*(fD n).j))):=fun W=>by
    have:=zCm (3*(fD n).j) W (by omega)
    rw [show ((3*(fD n).j:Nat):Int)=3*((fD n).j:Int)+1-1 by omega] at this
    exact this
   have c24:∀ W v u,Nz 2003 C v W->NT 2001 (10^(3*(fD n).j+1)) u W->CB 57 #[v,u] W (.int .i64 (sgn (C:Int) ((10^(3*(fD n).j+1):Nat):Int))):=fun W v u hv hu=>zAr (by decide) (by decide) hv.nt hu.nt
   have hcm:(sgn (C:Int) ((10^(3*(fD n).j+1):Nat):Int)==0)=decide (10^(3*(fD n).j+1)<=C):=by
    rcases zBc (C:Int) ((10^(3*(fD n).j+1):Nat):Int) with ⟨a,e⟩|⟨a,e⟩|⟨a,e⟩
    ·rw [e,decide_eq_false (by omega)];rfl
    ·rw [e,decide_eq_true (by omega)];rfl
    ·exact absurd a (by omega)
   have c26:∀ W,CB 116 #[zEb n (zMd n) (zVa n) (3*((fD n).j:Int)+1) (zKi n) (fD n).l (fD n).m (zNk n) (zZb n),.int .i64 d,.bool s] W ((if inB d s then (⟨2,s,false,0,0⟩:Dat) else ⟨1,s,false,(fD n).m,10^(3*(fD n).j+1)-1⟩).v):=fun W=>by
    by_cases hi:inB d s=true
    ·rw [if_pos hi]
     have:=zY8 n (zMd n) (zVa n) (3*((fD n).j:Int)+1) (zKi n) (fD n).l (fD n).m (zNk n) (zZb n) d s W hi
     unfold Dat.v DV
     simp only [zNa]
     exact this
    ·rw [if_neg hi]
     exact zX8 n (zMd n) (zVa n) (3*((fD n).j:Int)+1) (zKi n) (fD n).l (fD n).m (zNk n) (zZb n) d s W (by simpa using hi) _ (10^(3*(fD n).j+1)-1) _ _ _ _ _ _ _ _ c25 (fun W v u hv hu=>zM7 (by decide) (by decide) hv hu (zWa _)) (fun W v hv=>zFo (C:=10^(3*(fD n).j+1)-1) s (fD n).m hv (by omega))
   have hN0:(((bl N:Nat):Int)==0)=false:=by rw [zJh];exact decide_eq_false hN
   have hfl:∀ ex:Bool,∀ W,CQ 118 #[.bool ex,.bool (decide (L+X<3*((fD n).j:Int)+1-1+(fD n).l))] W (.int .i64 (if ex then 0 else if L+X<(fD n).l+3*(fD n).j then 12 else 8)):=fun ex W=>by
    have:=zZs ex (decide (L+X<3*((fD n).j:Int)+1-1+(fD n).l)) W
    have e:(L+X<3*((fD n).j:Int)+1-1+(fD n).l)↔(L+X<(fD n).l+3*(fD n).j):=by omega
    simp only [decide_eq_true_eq,e] at this
    simpa only [e] using this
   generalize hxa:decide (N*10^(X-q0).toNat%(D*10^(-(X-q0)).toNat)=0)=exa at *
   have hfx:=hfl exa
   clear hfl hxa hC0
   by_cases hu:10^(3*(fD n).j+1)<=C
   ·rw [if_pos hu] at hEq hCq
    subst hEq hCq
    rw [decide_eq_true hu] at hcm
    by_cases ho:(fD n).m<q0+1
    ·rw [if_pos ho,if_pos ho]
     exact zL9 n d x y s vn vd w _ _ _ _ _ _ _ _ N _ _ _ _ _ _ _ _ c17 c18 (by omega) (by omega) (by omega) hN0 L X q0 (by omega) (by omega) hqq (by omega) C _ _ _ c20 c21 c22 c25 c24 hcm _ c25b ho c26
    ·rw [if_neg ho,if_neg ho]
     cases exa
     ·exact zM9 n d x y s vn vd w _ _ _ _ _ _ _ _ N _ _ _ _ _ _ _ _ c17 c18 (by omega) (by omega) (by omega) hN0 L X q0 (by omega) (by omega) hqq (by omega) C _ _ _ c20 c21 c22 c25 c24 hcm _ c25b ho rfl _ (fun W v hv=>zFo (C:=10^(3*(fD n).j)) s (q0+1) hv (by omega)) hfx
     ·obtain ⟨k1,k2,k3,k4⟩:=zWl (want:=y) ((fD n).m-(q0+1)).toNat (10^(3*(fD n).j)) (q0+1) (show q0+1<=(fD n).m by omega)
      exact zK9 n d x y s vn vd w _ _ _ _ _ _ _ _ N _ _ _ _ _ _ _ _ c17 c18 (by omega) (by omega) (by omega) hN0 L X q0 (by omega) (by omega) hqq (by omega) C _ _ _ c20 c21 c22 c25 c24 hcm _ c25b ho rfl _ _ _ rfl (fun W v hv=>zDo (fD n).m y (by omega) (by omega) hv (by omega)) (fun W v hv=>zFo (C:=(mbr (fD n).m y ((fD n).m-(q0+1)).toNat (10^(3*(fD n).j)) (q0+1)).1) s _ hv (by omega)) hfx
   ·rw [if_neg hu] at hEq hCq
    subst hEq hCq
    rw [decide_eq_false hu] at hcm
    by_cases ho:(fD n).m<q0
    ·rw [if_pos ho,if_pos ho]
     exact zO9 n d x y s vn vd w _ _ _ _ _ _ _ _ N _ _ _ _ _ _ _ _ c17 c18 (by omega) (by omega) (by omega) hN0 L X q0 (by omega) (by omega) hqq (by omega) C _ _ _ c20 c21 c22 c25 c24 hcm ho c26
    ·rw [if_neg ho,if_neg ho]
     cases exa
     ·exact zP9 n d x y s vn vd w _ _ _ _ _ _ _ _ N _ _ _ _ _ _ _ _ c17 c18 (by omega) (by omega) (by omega) hN0 L X q0 (by omega) (by omega) hqq (by omega) C _ _ _ c20 c21 c22 c25 c24 hcm ho rfl _ (fun W v hv=>zFo (C:=C) s q0 hv (by omega)) hfx
     ·obtain ⟨k1,k2,k3,k4⟩:=zWl (want:=y) ((fD n).m-q0).toNat C q0 (show q0<=(fD n).m by omega)
      exact zN9 n d x y s vn vd w _ _ _ _ _ _ _ _ N _ _ _ _ _ _ _ _ c17 c18 (by omega) (by omega) (by omega) hN0 L X q0 (by omega) (by omega) hqq (by omega) C _ _ _ c20 c21 c22 c25 c24 hcm ho rfl _ _ _ rfl (fun W v hv=>zDo (fD n).m y (by omega) (by omega) hv (by omega)) (fun W v hv=>zFo (C:=(mbr (fD n).m y ((fD n).m-q0).toNat C q0).1) s _ hv (by omega)) hfx
 ·obtain ⟨q1,q2⟩:=rq_not (s:=s) (x:=x) (y:=y) hE
  rw [q1,q2]
  exact ddec_e n d x y s vn vd w _ (by simpa using hE) (fun W hb=>zB3 (hT.go hb) (hn.next hb) (hd.next hb) hE)
end
section
attribute [local irreducible] W4 Nz Nt NT
section
variable (t d c x:Int)(s g:Bool)(k:Nat)(hk:k<2^256)(V:Nat)(c' x':Int)(s' g':Bool)(k':Nat)(F E:Int)(w:World)(hT:Tab w)(hxb:-20000<=x/\x<=20000)
include hk hT hxb
theorem cro_n (hx:x<0)
  (c62:∀ W v e,e=-x->Nt 900 1 v W->Calls Tryz.prog 54 #[v,.int .i64 e] W fun r w'=>∃ q,r=.returned (.tuple #[q,.int .i64 0])/\NT 2001 V q w'/\Below W.heap.size W w')
  (c63:∀ W v v',Tab W->Nt 4 k v W->Nt 2001 V v' W->CB 55 #[.int .i64 t,.int .i64 d,.bool s,v,v',.int .i64 0,.int .i64 0] W (.tuple #[DV c' s' g' x' k',.int .i64 F,.int .i64 E])) :
  CB 25 #[.int .i64 t,.int .i64 d,DV c s g x k] w (.tuple #[DV c' s' g' x' k',.int .i64 F]):=by
 have hbx:=fun W hW=>zGm (w0:=w) (w:=W) (c:=c) (s:=s) (g:=g) (x:=x) (t:=32) hk hW
 have hsm:=zAa
 unfold DV at c63 ⊢
 go_enter Tryz.func25,Tryz.ntmps25
 go_wp2_with (first
  | (go_at_call 54;refine (c62 _ _ _ (by omega) (NT.nt (zDw (by simp)))).mono ?_;rintro r w1 ⟨v1,rfl,hv1,hb1⟩;have hv0:=hbx _ (bnx (bnx (zBa _ _) (zBa _ _)) hb1);obtain ⟨_,_,_,_,hA1,_⟩:=wz w hb1;obtain ⟨_,_,_,_⟩:=zg hb1 (w.heap.size+1) (w.heap.size+1+1);clear hb1)
  | (go_at_call 55;refine wk w (c63 _ _ _ (hT.go bgo) hv0 hv1.nt) ?_;intro w2 hb2 _ _ _ _ hA2 _;obtain ⟨_,_,_,_⟩:=zg hb2 (w.heap.size+1) (w.heap.size+1+1);clear hb2))
 exact bodyPost_ret (by simp only [results,Tryz.results25];go_simp) rfl ⟨rfl,bgo⟩
theorem cro_p (hx:¬ x<0)
  (c62:∀ W v,Nt 4 k v W->Calls Tryz.prog 54 #[v,.int .i64 x] W fun r w'=>∃ q,r=.returned (.tuple #[q,.int .i64 0])/\NT 2001 V q w'/\Below W.heap.size W w')
  (c63:∀ W v v',Tab W->Nt 2001 V v W->Nt 900 1 v' W->CB 55 #[.int .i64 t,.int .i64 d,.bool s,v,v',.int .i64 0,.int .i64 0] W (.tuple #[DV c' s' g' x' k',.int .i64 F,.int .i64 E])) :
  CB 25 #[.int .i64 t,.int .i64 d,DV c s g x k] w (.tuple #[DV c' s' g' x' k',.int .i64 F]):=by
 have hbx:=fun W hW=>zGm (w0:=w) (w:=W) (c:=c) (s:=s) (g:=g) (x:=x) (t:=32) hk hW
 have hx0:0<=x:=by omega
 have hsm:=zAa
 unfold DV at c63 ⊢
 go_enter Tryz.func25,Tryz.ntmps25
 go_wp2_with (first
  | (go_at_call 54;refine (c62 _ _ (hbx _ (bnx (zBa _ _) (zBa _ _)))).mono ?_;rintro r w1 ⟨v1,rfl,hv1,hb1⟩;have hone:=NT.next (zDw rfl) hb1;obtain ⟨_,_,_,_,hA1,_⟩:=wz w hb1;obtain ⟨_,_,_,_⟩:=zg hb1 (w.heap.size+1) (w.heap.size+1+1);clear hb1)
  | (go_at_call 55;refine wk w (c63 _ _ _ (hT.go bgo) hv1.nt (by simpa using hone.nt)) ?_;intro w2 hb2 _ _ _ _ hA2 _;obtain ⟨_,_,_,_⟩:=zg hb2 (w.heap.size+1) (w.heap.size+1+1);clear hb2))
 exact bodyPost_ret (by simp only [results,Tryz.results25];go_simp) rfl ⟨rfl,bgo⟩
end
theorem cro_v {t d x:Int}(s g:Bool){k:Nat}(hk:k<2^251)(w:World)(hT:Tab w)(hx:-16990<=x/\x<=16990) :
  CB 25 #[.int .i64 t,.int .i64 d,DV 1 s g x k] w (.tuple #[(coD t d ⟨1,s,g,x,k⟩).v,.int .i64 (coF t d ⟨1,s,g,x,k⟩)]):=by
 have hA:bl k<=251:=bl_le.2 hk
 have hk2:k<2^256:=Nat.lt_of_lt_of_le hk (Nat.pow_le_pow_right (by decide) (by decide))
 have e1:coD t d ⟨1,s,g,x,k⟩=rqD t d s (k*2^x.toNat) (1*2^(-x).toNat) 0 0:=rfl
 have e2:coF t d ⟨1,s,g,x,k⟩=rqF t d s (k*2^x.toNat) (1*2^(-x).toNat) 0:=rfl
 rw [e1,e2]
 by_cases he:x<0
 ·rw [show x.toNat=0 by omega,Nat.pow_zero,Nat.mul_one]
  refine cro_n t d 1 x s g k hk2 (1*2^(-x).toNat) _ _ _ _ _ _ (rqE t d k (1*2^(-x).toNat)) w hT (by omega) he (fun W v e h hv=>?_) (fun W v v' hT' hv hv'=>?_)
  ·have:=zB4 (w:=W) (-x).toNat (by decide) hv (by have:bl 1=1:=rfl;omega)
   rw [show (((-x).toNat:Nat):Int)=e by omega] at this
   exact this
  ·exact drd_v hT' (hv.more (by decide)) hv'
 ·rw [show (-x).toNat=0 by omega,Nat.pow_zero,Nat.mul_one]
  refine cro_p t d 1 x s g k hk2 (k*2^x.toNat) _ _ _ _ _ _ (rqE t d (k*2^x.toNat) 1) w hT (by omega) he (fun W v hv=>?_) (fun W v v' hT' hv hv'=>?_)
  ·have:=zB4 (w:=W) x.toNat (by decide) hv (by omega)
   rw [show ((x.toNat:Nat):Int)=x by omega] at this
   exact this
  ·exact drd_v hT' hv (hv'.more (by decide))
section
variable (m t d c x:Int)(s g:Bool)(k B:Nat)(I:Value)(w:World)(hT:Tab w)
include hT
theorem cvo_e1
  (c1:∀ W,Tab W->CB 13 #[.int .i64 m,A4 B] W (.tuple #[DV c s g x k,.int .i64 1])) :
  CB 10 #[.int .i64 m,.int .i64 t,.int .i64 d,A4 B] w (.tuple #[A4 0,.int .i64 0,.int .i64 1]):=by
 rw [zEd]
 have hsm:=zAa
 go_enter Tryz.func10,Tryz.ntmps10
 go_wp2_with (first
  | (go_at_call 13;refine wk w (c1 _ (hT.go bgo)) ?_;intro w1 hb1 _ _ _ _ hA1 _;obtain ⟨_,_⟩:=zf hb1 (w.heap.size+1);clear hb1))
 exact bodyPost_ret (by simp only [results,Tryz.results10];go_simp) rfl ⟨rfl,bgo⟩
variable (c1:∀ W,Tab W->CB 13 #[.int .i64 m,A4 B] W (.tuple #[DV c s g x k,.int .i64 0]))
include c1
theorem cvo_e2
  (c2:∀ W,Tab W->CB 24 #[.int .i64 t,.int .i64 10,.int .i64 d] W (.tuple #[IZ,.int .i64 1])) :
  CB 10 #[.int .i64 m,.int .i64 t,.int .i64 d,A4 B] w (.tuple #[A4 0,.int .i64 0,.int .i64 1]):=by
 rw [zEd]
 have hsm:=zAa
 go_enter Tryz.func10,Tryz.ntmps10
 go_wp2_with (first
  | (go_at_call 13;refine wk w (c1 _ (hT.go bgo)) ?_;intro w1 hb1 _ _ _ _ hA1 _;obtain ⟨_,_⟩:=zf hb1 (w.heap.size+1);clear hb1)
  | (go_at_call 24;refine wk w (c2 _ (hT.go bgo)) ?_;intro w2 hb2 _ _ _ _ hA2 _;obtain ⟨_,_,_,_⟩:=zg hb2 (w.heap.size+1) w1.heap.size;clear hb2))
 exact bodyPost_ret (by simp only [results,Tryz.results10];go_simp) rfl ⟨rfl,bgo⟩
variable (c2:∀ W,Tab W->CB 24 #[.int .i64 t,.int .i64 10,.int .i64 d] W (.tuple #[InfV t,.int .i64 0]))
 (c' x':Int) (s' g':Bool) (k' R:Nat) (F:Int)
 (cP:∀ W,Tab W->CB 27 #[.int .i64 t,DV c' s' g' x' k'] W (.tuple #[A4 R,.int .i64 0]))
include c2 cP
theorem cvo_1 (hc:c=1)
  (cR:∀ W,Tab W->CB 25 #[.int .i64 t,.int .i64 d,DV 1 s g x k] W (.tuple #[DV c' s' g' x' k',.int .i64 F])) :
  CB 10 #[.int .i64 m,.int .i64 t,.int .i64 d,A4 B] w (.tuple #[A4 R,.int .i64 F,.int .i64 0]):=by
 subst hc
 have hsm:=zAa
 go_enter Tryz.func10,Tryz.ntmps10
 go_wp2_with (first
  | (go_at_call 13;refine wk w (c1 _ (hT.go bgo)) ?_;intro w1 hb1 _ _ _ _ hA1 _;obtain ⟨_,_⟩:=zf hb1 (w.heap.size+1);clear hb1)
  | (go_at_call 24;refine wk w (c2 _ (hT.go bgo)) ?_;intro w2 hb2 _ _ _ _ hA2 _;obtain ⟨_,_,_,_⟩:=zg hb2 (w.heap.size+1) w1.heap.size;clear hb2)
  | (go_at_call 25;refine wk w (cR _ (hT.go bgo)) ?_;intro w3 hb3 _ _ _ _ hA3 _;obtain ⟨_,_,_,_,_,_⟩:=zh hb3 (w.heap.size+1) w1.heap.size w2.heap.size;clear hb3)
  | (go_at_call 27;refine wk w (cP _ (hT.go bgo)) ?_;intro w4 hb4 _ _ _ _ hA4 _;obtain ⟨_,_,_,_,_,_⟩:=zh hb4 (w.heap.size+1) w1.heap.size w2.heap.size;clear hb4))
 exact bodyPost_ret (by simp only [results,Tryz.results10];go_simp) rfl ⟨rfl,bgo⟩
theorem cvo_3 (hc:c=2∨c=3)
  (cC:∀ W,CB 26 #[InfV t,DV c s g x k] W (.tuple #[DV c' s' g' x' k',.int .i64 F])) :
  CB 10 #[.int .i64 m,.int .i64 t,.int .i64 d,A4 B] w (.tuple #[A4 R,.int .i64 F,.int .i64 0]):=by
 have hsm:=zAa
 rcases hc with rfl|rfl
 all_goals (
  go_enter Tryz.func10,Tryz.ntmps10
  go_wp2_with (first
   | (go_at_call 13;refine wk w (c1 _ (hT.go bgo)) ?_;intro w1 hb1 _ _ _ _ hA1 _;obtain ⟨_,_⟩:=zf hb1 (w.heap.size+1);clear hb1)
   | (go_at_call 24;refine wk w (c2 _ (hT.go bgo)) ?_;intro w2 hb2 _ _ _ _ hA2 _;obtain ⟨_,_,_,_⟩:=zg hb2 (w.heap.size+1) w1.heap.size;clear hb2)
   | (go_at_call 26;refine wk w (cC _) ?_;intro w3 hb3 _ _ _ _ hA3 _;obtain ⟨_,_,_,_,_,_⟩:=zh hb3 (w.heap.size+1) w1.heap.size w2.heap.size;clear hb3)
   | (go_at_call 27;refine wk w (cP _ (hT.go bgo)) ?_;intro w4 hb4 _ _ _ _ hA4 _;obtain ⟨_,_,_,_,_,_⟩:=zh hb4 (w.heap.size+1) w1.heap.size w2.heap.size;clear hb4))
  exact bodyPost_ret (by simp only [results,Tryz.results10];go_simp) rfl ⟨rfl,bgo⟩)
end
theorem zEy {t:Int}(hb:zPd t)(W:World):Calls Tryz.prog 56 #[.int .i64 (zDd t),.int .i64 (zNk t)] W fun r w'=>∃ v,r=.returned (.tuple #[v,.int .i64 0])/\Nt 2001 (10^(3*(fD t).j)) v w'/\Below W.heap.size W w':=by
 obtain ⟨hok,h1,h2,h3,h4,h5,h6,h7,h8⟩:=zId hb
 obtain ⟨m0,m1,l0,l1,lm,j0,j1⟩:=zXt (zCd t)
 rw [h2,h7,show 3*((fD t).j:Int)=((3*(fD t).j:Nat):Int) by omega]
 exact (zEw (3*(fD t).j) W (by omega)).mono fun r w' ⟨v,e,hv,hB⟩=>⟨v,e,hv.nt,hB⟩
theorem zU9 (m t d:Int)(B:Nat)(w:World)(hT:Tab w)(hB:B<2^256) :
  CB 10 #[.int .i64 m,.int .i64 t,.int .i64 d,A4 B] w (.tuple #[A4 (xoV m t d B),.int .i64 (xoF m t d B),.int .i64 (xoE m t d B)]):=by
 have c1:∀ W,Tab W->CB 13 #[.int .i64 m,A4 B] W (.tuple #[DV (unD m B).c (unD m B).s (unD m B).g (unD m B).x (unD m B).k,.int .i64 (unE m B)]):=fun W h=>zHs m B W h hB
 unfold xoV xoF xoE
 by_cases h1:zQd m B
 ·rw [show unE m B=0 from if_pos h1] at c1
  by_cases h2:zPd t/\knB d
  ·obtain ⟨hb,hd⟩:=h2
   obtain ⟨f1,f0,f2,f3,f4,f5,f6,f7,f8⟩:=zId hb
   have c2:=fun W h=>zB6 W h f1 f2 hd
   have hc:xoG m t d B:=⟨h1,hb,hd⟩
   rw [if_pos hc,if_pos hc,if_pos hc]
   have hi:=zS3 h1
   obtain ⟨i1,i2,i3,i4,i5⟩:=zV9 hb hd h1.1 hi
   have hk':=vI_k (zCd t) i1
   have cP:=fun W h=>zW8 t (coD t d (unD m B)) hk' W h
   rw [show vPV t (coD t d (unD m B))=vP (fD t) (coD t d (unD m B)) from if_pos ⟨hb,i1⟩,show vPE t (coD t d (unD m B))=0 from (if_pos hb).trans (if_pos i1)] at cP
   have hl:fN m<=250:=by rcases zMf h1.1 with e|e|e|e|e|e<;>rw [e]<;>decide
   generalize unD m B=D at *
   obtain ⟨c,s,g,x,k⟩:=D
   dsimp only at c1 i4 i5
   have cC:=fun c W=>zL6 t _ (zEy hb) c x s g i4 W
   rcases hi with ⟨q1,q2,q3,q4,q5,q6⟩|⟨q1,q2,q3,q4⟩|⟨q1,q2,q3,q4⟩
   ·dsimp only at q1 q3
    subst q1
    have hk3:k<2^251:=Nat.lt_of_lt_of_le q3 (Nat.pow_le_pow_right (by decide) (by omega))
    exact cvo_1 m t d 1 x s g k B w hT c1 c2 _ _ _ _ _ _ _ cP rfl (fun W h=>cro_v s g hk3 W h i5)
   ·dsimp only at q1 q2 q3 q4
    subst q1 q2 q3 q4
    refine cvo_3 m t d 2 0 s false 0 B w hT c1 c2 _ _ _ _ _ _ _ cP (Or.inl rfl) ?_
    intro W
    have h:=cC 2 W
    rw [ite_self] at h
    exact h
   ·dsimp only at q1 q2
    subst q1 q2
    exact cvo_3 m t d 3 0 s g k B w hT c1 c2 _ _ _ _ _ _ _ cP (Or.inr rfl) (cC 3)
  ·have hc:¬ xoG m t d B:=fun q=>h2 q.2
   rw [if_neg hc,if_neg hc,if_neg hc]
   refine cvo_e2 m t d _ _ _ _ _ B w hT c1 (fun W h=>zC6 W h ?_)
   rintro ⟨a1,a2,a3⟩
   refine h2 ⟨?_,a3⟩
   apply Classical.byContradiction
   intro hn
   rcases zFw hn with ⟨q1,q2⟩|q1
   ·rw [a2] at q2;exact absurd q2 (by decide)
   ·exact q1 a1
 ·rw [show unE m B=1 from if_neg h1] at c1
  have hc:¬ xoG m t d B:=fun q=>h1 q.1
  rw [if_neg hc,if_neg hc,if_neg hc]
  exact cvo_e1 m t d _ _ _ _ _ B w hT c1
end
section
attribute [local irreducible] W4
attribute [local irreducible] Nz Nt
section
variable (c:Int)(s g:Bool)(x:Int)(k:Nat)(w:World)(T:List UInt8)
theorem dwd_0 (h0:k=0)(c31:∀ W,Below w.heap.size w W->CB 101 #[.agg #[.int .i64 c,.bool s,.bool g,.string ⟨#[]⟩,.int .i64 0]] W (.tuple #[.string (B T),.int .i64 0])) :
  CB 47 #[DV c s g x k] w (.string (B T)):=by
 subst h0
 have e1:=zO4 0 0 0 0 0 0 0 0
 rw [decide_eq_true ⟨rfl,rfl,rfl,rfl⟩] at e1
 have hsm:=zAa
 unfold DV
 simp only [zNa]
 go_enter Tryz.func47,Tryz.ntmps47
 go_wp2_with (first
  | (go_at_call 101;refine wk w (c31 _ bgo) ?_;intro w1 hb1 _ _ _ _ hA1 _;clear hb1))
 exact bodyPost_ret (v:=.string (B T)) (by simp only [results,Tryz.results47];go_simp) rfl ⟨rfl,bgo⟩
theorem dwd_k (D:List UInt8)(hk:k<2^256)(h0:k≠0)
  (c20:∀ W v,Nt 4 k v W->CB 48 #[v] W (.tuple #[.string (B D),.int .i64 0]))
  (c31:∀ W,Below w.heap.size w W->CB 101 #[.agg #[.int .i64 c,.bool s,.bool g,.string (B D),.int .i64 0]] W (.tuple #[.string (B T),.int .i64 0])) :
  CB 47 #[DV c s g x k] w (.string (B T)):=by
 have e1:=zO4 (W4 k 0) (W4 k 1) (W4 k 2) (W4 k 3) 0 0 0 0
 rw [yFa hk,decide_eq_false h0] at e1
 clear h0
 have hsm:=zAa
 unfold DV
 go_enter Tryz.func47,Tryz.ntmps47
 go_wp2_with (first
  | (go_at_call 48;refine wk w (c20 _ _ (zL7 hk (by first|(simp;done)|(simp;omega)) (by go_simp) (by go_simp) (by go_simp) (by go_simp))) ?_;intro w1 hb1 _ _ _ _ hA1 _;obtain ⟨_,_⟩:=zf hb1 (w.heap.size+1);clear hb1)
  | (go_at_call 101;refine wk w (c31 _ bgo) ?_;intro w2 hb2 _ _ _ _ hA2 _;obtain ⟨_,_⟩:=zf hb2 (w.heap.size+1);clear hb2))
 exact bodyPost_ret (v:=.string (B T)) (by simp only [results,Tryz.results47];go_simp) rfl ⟨rfl,bgo⟩
end
end
section
attribute [local irreducible] W4 Nz Nt
section
variable (n:Int)(Bp:Nat)(c:Int)(s g ok:Bool)(x:Int)(k:Nat)(w:World)(hT:Tab w)
include hT
theorem dwx_e (E:Int)(hE:(E != 0)=true)(c21:∀ W,Tab W->CB 39 #[.int .i64 n,A4 Bp] W (.tuple #[DV c s g x k,.bool ok,.int .i64 E])) :
  CB 22 #[.int .i64 n,A4 Bp] w (.tuple #[.string (B []),.int .i64 E]):=by
 have hsm:=zAa
 unfold DV A4 at *
 go_enter Tryz.func22,Tryz.ntmps22
 go_wp2_with (go_at_call 39;refine wk w (c21 _ (hT.go bgo)) ?_;intro w1 hb1 _ _ _ _ hA1 _;clear hb1)
 exact bodyPost_ret (v:=.tuple #[.string (B []),.int .i64 E]) (by simp only [results,Tryz.results22];go_simp;rfl) rfl ⟨rfl,bgo⟩
variable (hT10:Tb10 w)(c21:∀ W,Tab W->CB 39 #[.int .i64 n,A4 Bp] W (.tuple #[DV c s g x k,.bool ok,.int .i64 0]))
include hT10 c21
theorem dwx_o (hc:(c != 1)=true)(T:List UInt8)(c28:∀ W,Tb10 W->CB 47 #[DV c s g x k] W (.string (B T))) :
  CB 22 #[.int .i64 n,A4 Bp] w (.tuple #[.string (B T),.int .i64 0]):=by
 have hsm:=zAa
 unfold DV A4 at *
 go_enter Tryz.func22,Tryz.ntmps22
 go_wp2_with (first
  | (go_at_call 39;refine wk w (c21 _ (hT.go bgo)) ?_;intro w1 hb1 _ _ _ _ hA1 _;clear hb1)
  | (go_at_call 47;refine wk w (c28 _ (hT10.next bgo)) ?_;intro w2 hb2 _ _ _ _ hA2 _;obtain ⟨_,_⟩:=zf hb2 w1.heap.size;clear hb2))
 exact bodyPost_ret (v:=.tuple #[.string (B T),.int .i64 0]) (by simp only [results,Tryz.results22];go_simp) rfl ⟨rfl,bgo⟩
variable (hc:c=1)(hk:k<2^256)(hx:-10000<=x/\x<=10000)(D:List UInt8)(hD:D.length<=660)(T:List UInt8)(hTl:T.length<=4000)
 (c20:∀ W v,Nt 4 k v W->CB 48 #[v] W (.tuple #[.string (B D),.int .i64 0]))
 (c29:∀ W,Tb10 W->CB 46 #[.string (B D),.int .i64 (x+((B D).size:Int)-1)] W (.string (B T)))
include hc hk hx hD hTl c20 c29
theorem dwx_f (hs:s=false) :
  CB 22 #[.int .i64 n,A4 Bp] w (.tuple #[.string (B T),.int .i64 0]):=by
 subst hc hs
 have hsz:((B D).size:Int)<=660:=by rw [zGa];omega
 clear hD
 have hsm:=zAa
 unfold DV A4 at *
 go_enter Tryz.func22,Tryz.ntmps22
 go_wp2_with (first
  | (go_at_call 39;refine wk w (c21 _ (hT.go bgo)) ?_;intro w1 hb1 _ _ _ _ hA1 _;clear hb1)
  | (go_at_call 48;refine wk w (c20 _ _ (zL7 hk (by first|(simp;done)|(simp;omega)) (by go_simp) (by go_simp) (by go_simp) (by go_simp))) ?_;intro w2 hb2 _ _ _ _ hA2 _;obtain ⟨_,_⟩:=zf hb2 w1.heap.size;clear hb2)
  | (go_at_call 46;refine wk w (c29 _ (hT10.next bgo)) ?_;intro w3 hb3 _ _ _ _ hA3 _;obtain ⟨_,_⟩:=zf hb3 w1.heap.size;clear hb3))
 exact bodyPost_ret (v:=.tuple #[.string (B T),.int .i64 0]) (by simp only [results,Tryz.results22];go_simp) rfl ⟨rfl,bgo⟩
theorem dwx_t (hs:s=true) :
  CB 22 #[.int .i64 n,A4 Bp] w (.tuple #[.string (B (45::T)),.int .i64 0]):=by
 subst hc hs
 have hsz:((B D).size:Int)<=660:=by rw [zGa];omega
 have hst:((B T).size:Int)<=4000:=by rw [zGa];omega
 have eB:(⟨#[45]⟩:ByteArray)++B T=B (45::T):=zNm [45] T
 rw [← eB]
 clear hD hTl eB
 have hsm:=zAa
 unfold DV A4 at *
 go_enter Tryz.func22,Tryz.ntmps22
 go_wp2_with (first
  | (go_at_call 39;refine wk w (c21 _ (hT.go bgo)) ?_;intro w1 hb1 _ _ _ _ hA1 _;clear hb1)
  | (go_at_call 48;refine wk w (c20 _ _ (zL7 hk (by first|(simp;done)|(simp;omega)) (by go_simp) (by go_simp) (by go_simp) (by go_simp))) ?_;intro w2 hb2 _ _ _ _ hA2 _;obtain ⟨_,_⟩:=zf hb2 w1.heap.size;clear hb2)
  | (go_at_call 46;refine wk w (c29 _ (hT10.next bgo)) ?_;intro w3 hb3 _ _ _ _ hA3 _;obtain ⟨_,_⟩:=zf hb3 w1.heap.size;clear hb3))
 exact bodyPost_ret (v:=.tuple #[.string ((⟨#[45]⟩:ByteArray)++B T),.int .i64 0]) (by simp only [results,Tryz.results22];go_simp) rfl ⟨rfl,bgo⟩
end
end
theorem ndig_z {K:Nat}{v:Value}{w:World}(hK:K<=1000)(h:Nt K 0 v w):CB 48 #[v] w (.tuple #[.string (B [48]),.int .i64 0]):=by
 obtain ⟨a,n,c,z,rfl,hn,hN,hz⟩:=h
 have hle:=zCa z n
 refine (zJg a n c z w (by omega) hN (by omega)).mono fun r w' ⟨L,hL,he,hB⟩=>⟨?_,hB⟩
 rw [he,hz] at *
 rw [zOj (L':=0) (by decide) hL (by decide)]
 rfl
theorem zO7 {K k:Nat}{v:Value}{w:World}(hK:K<=1000)(hk:k<2^256)(h:Nt K k v w):CB 48 #[v] w (.tuple #[.string (B (wtD k)),.int .i64 0]):=by
 unfold wtD
 by_cases h0:k=0
 ·rw [if_pos h0]
  subst h0
  exact ndig_z hK h
 ·rw [if_neg h0]
  exact zE4 hK hk h0 h
theorem zH8 {f:DF}(hf:f.ok){v:Dat}(h:vI f v)(hc:¬ v.c=1):jnP ⟨v.c,v.s,v.g,dcL v.k,0⟩:=by
 obtain ⟨h1,h2⟩:=xt_cut hf h
 obtain ⟨f1,f2,f3⟩:=zGh (vI_k hf h)
 unfold xtT xtP at h1
 rw [if_neg hc,if_neg hc] at h1
 exact ⟨by show (dcL v.k).length<=4000;omega,h1⟩
theorem dword {f:DF}(hf:f.ok){v:Dat}(h:vI f v)(hc:¬ v.c=1)(w:World)(hT10:Tb10 w) :
  CB 47 #[v.v] w (.string (B (xtT v))):=by
 have hk:=vI_k hf h
 have hj:=zH8 hf h hc
 have c31:=fun W (hb:Below w.heap.size w W)=>join_y ⟨v.c,v.s,v.g,dcL v.k,0⟩ W (hT10.next hb) ⟨by show (-9223372036854775808:Int)<=0;decide,by show (0:Int)<=9223372036854775807;decide⟩ hj
 have e:xtT v=zOh v.c v.s v.g (dcL v.k) 0:=if_neg hc
 rw [e]
 obtain ⟨c,s,g,x,k⟩:=v
 dsimp only at *
 by_cases h0:k=0
 ·have ed:dcL k=[]:=by rw [h0];kernel_rfl
  rw [ed] at c31 ⊢
  exact dwd_0 c s g x k w _ h0 c31
 ·exact dwd_k c s g x k w _ (dcL k) hk h0 (fun W v hv=>zE4 (by decide) hk h0 hv) c31
theorem dwr16 (n:Int)(Bp:Nat)(w:World)(hB:Bp<2^256)(hT:Tab w)(hT10:Tb10 w) :
  CB 22 #[.int .i64 n,A4 Bp] w (.tuple #[.string (B (dwT n Bp)),.int .i64 (vUE n Bp)]):=by
 have c21:=fun W hW=>zP8 n Bp hB W hW
 have hk:=zR5 n Bp
 unfold dwT
 by_cases hg:zWh n Bp
 ·have e1:vUE n Bp=0:=if_pos hg
  have e2:vUD n Bp=vM (fD n) Bp:=if_pos hg
  rw [if_pos hg,e1]
  rw [e1] at c21
  have hi:=zFu (zCd n) Bp
  rw [← e2] at hi ⊢
  obtain ⟨m0,m1,l0,l1,lm,j0,j1⟩:=zXt (zCd n)
  generalize vUD n Bp=v at *
  by_cases hc:v.c=1
  ·have hx:-10000<=v.x/\v.x<=10000:=by
    rcases hi with ⟨_,_,_,a,b⟩|⟨a,_⟩|⟨a,_⟩
    ·unfold DF.m at *
     omega
    ·rw [hc] at a;exact absurd a (by decide)
    ·rw [hc] at a;exact absurd a (by decide)
   have eT:xtT v=sgL v.s++unT (wtD v.k) (v.x+(wtD v.k).length-1):=if_pos hc
   rw [eT]
   have hl:1<=(wtD v.k).length/\(wtD v.k).length<=660:=by
    unfold wtD
    by_cases h0:v.k=0
    ·rw [if_pos h0];decide
    ·rw [if_neg h0]
     exact ⟨List.length_pos_iff.2 (zB5 h0 hk),(zGh hk).2.2⟩
   have hu:=zHf (D:=wtD v.k) (e:=v.x+(wtD v.k).length-1) (by omega)
   have c20:=fun W u (h:Nt 4 v.k u W)=>zO7 (by decide) hk h
   have c29:=fun W hW=>zT7 (wtD v.k) (v.x+(wtD v.k).length-1) W hW (by omega) hl.1 (by omega)
   rw [show ((wtD v.k).length:Int)=((B (wtD v.k)).size:Int) by rw [zGa]] at c29 hu ⊢
   obtain ⟨c,s,g,x,k⟩:=v
   dsimp only at *
   cases s
   ·exact dwx_f n Bp c false g _ x k w hT hT10 c21 hc hk hx (wtD k) hl.2 (unT (wtD k) (x+((B (wtD k)).size:Int)-1)) (by omega) c20 c29 rfl
   ·exact dwx_t n Bp c true g _ x k w hT hT10 c21 hc hk hx (wtD k) hl.2 (unT (wtD k) (x+((B (wtD k)).size:Int)-1)) (by omega) c20 c29 rfl
  ·have c28:=fun W hW=>dword (zCd n) hi hc W hW
   obtain ⟨c,s,g,x,k⟩:=v
   exact dwx_o n Bp c s g _ x k w hT hT10 c21 (by simpa using hc) _ c28
 ·have e1:vUE n Bp=1:=if_neg hg
  rw [if_neg hg,e1]
  rw [e1] at c21
  exact dwx_e n Bp _ _ _ _ _ _ w hT 1 (by decide) c21
def TTb (w:World):Prop:=Tab w/\Tb10 w
theorem dtxC:DtxC TTb where
 next:=fun w w' hT hb=>⟨hT.1.go hb,hT.2.next hb⟩
 t10:=fun w hT=>hT.2
 wr:=fun n Bp W hB hT=>dwr16 n Bp W hB hT.1 hT.2
theorem croB:CroC TTb:=⟨dtxC.next,fun m t d Bp W hB hT=>zU9 m t d Bp W hT.1 hB⟩
theorem zH4:tnX (13107200*10^(clT 0).toNat) (131072*10^(-(clT 0)).toNat)=2:=by
 have h:=zUm (N:=13107200*10^(clT 0).toNat) (D:=131072*10^(-(clT 0)).toNat) (by decide) (by decide)
 exact h.only ⟨by unfold tnG;decide,by unfold tnG;decide⟩
theorem hund_D:coD 10 0 (unD 3 1120403456)=⟨1,false,false,0,100⟩/\coF 10 0 (unD 3 1120403456)=0:=by
 have hu:unD 3 1120403456=⟨1,false,false,-17,13107200⟩:=by kernel_rfl
 rw [hu]
 have e0:rqE 10 0 13107200 131072=0:=by
  have a:bl 13107200=24:=zK3 (by decide) (by decide)
  have b:bl 131072=18:=zK3 (by decide) (by decide)
  unfold rqE
  rw [if_pos ⟨by decide,by decide,by decide⟩,a,b]
  decide
 constructor
 ·show rqD 10 0 false (13107200*2^(-17:Int).toNat) (1*2^(-(-17):Int).toNat) 0 0=_
  rw [show 13107200*2^(-17:Int).toNat=13107200 by decide,show 1*2^(-(-17):Int).toNat=131072 by decide]
  unfold rqD
  rw [if_pos e0,if_neg (by decide),zH4]
  kernel_rfl
 ·show rqF 10 0 false (13107200*2^(-17:Int).toNat) (1*2^(-(-17):Int).toNat) 0=_
  rw [show 13107200*2^(-17:Int).toNat=13107200 by decide,show 1*2^(-(-17):Int).toNat=131072 by decide]
  unfold rqF
  rw [if_pos e0,if_neg (by decide),zH4]
  kernel_rfl
theorem yDa:xoV 3 10 0 1120403456=575668352/\xoF 3 10 0 1120403456=0/\xoE 3 10 0 1120403456=0/\B (dwT 10 575668352)=⟨#[49,46,48,48,101,50]⟩/\vUE 10 575668352=0:=by
 have hg:xoG 3 10 0 1120403456:=⟨by decide,by decide,by decide⟩
 unfold xoV xoF xoE
 rw [if_pos hg,if_pos hg,if_pos hg,hund_D.1,hund_D.2]
 exact ⟨by kernel_rfl,rfl,rfl,by kernel_rfl,by kernel_rfl⟩
section
theorem yCa:(W4 1120403456 0=1120403456/\W4 1120403456 1=0/\W4 1120403456 2=0/\W4 1120403456 3=0)/\(W4 575668352 0=575668352/\W4 575668352 1=0/\W4 575668352 2=0/\W4 575668352 3=0):=⟨⟨by decide,by decide,by decide,by decide⟩,⟨by decide,by decide,by decide,by decide⟩⟩
attribute [local irreducible] W4
theorem yEa {TT:World->Prop}(h:CroC TT)(hD:DtxC TT)(w:World)(hT:TT w):CB 9 #[] w (.bool true):=by
 have c9:=fun W hW=>h.cv 3 10 0 1120403456 W (by decide) hW
 have c10:=fun W hW=>hD.wr 10 575668352 W (by decide) hW
 obtain ⟨e1,e2,e4,e5,e6⟩:=yDa
 obtain ⟨⟨w0,w1,w2,w3⟩,u0,u1,u2,u3⟩:=yCa
 rw [e1,e2,e4] at c9
 rw [e5,e6] at c10
 unfold A4 at c9 c10
 rw [w0,w1,w2,w3,u0,u1,u2,u3] at c9
 rw [u0,u1,u2,u3] at c10
 clear w0 w1 w2 w3 u0 u1 u2 u3 e1 e2 e4 e5 e6
 have hsm:=zAa
 go_enter Tryz.func9,Tryz.ntmps9
 go_wp2_with (first
  | (go_at_call 10;refine (c9 _ (h.next _ _ hT bgo)).mono ?_;rintro r w1 ⟨rfl,hb1⟩;obtain ⟨_,_,hA1,_⟩:=wf w hb1;clear hb1)
  | (go_at_call 22;refine (c10 _ (h.next _ _ hT bgo)).mono ?_;rintro r w2 ⟨rfl,hb2⟩;obtain ⟨_,_,_,_,hA2,_⟩:=wz w hb2 w1.heap.size;clear hb2))
 go_ret
 exact ⟨by first|rfl|simp,bgo⟩
section
variable (TT:World->Prop)(hTT:∀ w w',TT w->Below w.heap.size w w'->TT w')(w:World)(hT:TT w)
 (c8:∀ W,TT W->CB 9 #[] W (.bool true))
variable (m t d:Int)(Bp:Nat)
include hTT hT c8
theorem cv19_w (C:Nat)(F E:Int)
  (c9:∀ W,TT W->CB 10 #[.int .i64 m,.int .i64 t,.int .i64 d,A4 Bp] W (.tuple #[A4 C,.int .i64 F,.int .i64 E]))
  (c10:∀ W,CB 11 #[.int .i64 m,.int .i64 t,.int .i64 d,A4 Bp] W (.tuple #[A4 C,.int .i64 F,.int .i64 E])) :
  CB 3 #[.int .i64 m,.int .i64 t,.int .i64 d,A4 Bp] w (.bool true):=by
 have hsm:=zAa
 have e1:=zO4 (W4 C 0) (W4 C 1) (W4 C 2) (W4 C 3) (W4 C 0) (W4 C 1) (W4 C 2) (W4 C 3)
 rw [decide_eq_true ⟨rfl,rfl,rfl,rfl⟩] at e1
 unfold A4 at *
 go_enter Tryz.func3,Tryz.ntmps3
 go_wp2_with (first
  | (go_at_call 9;refine wk w (c8 _ (hTT _ _ hT bgo)) ?_;intro w1 hb1 _ _ _ _ hA1 _;clear hb1)
  | (go_at_call 10;refine wk w (c9 _ (hTT _ _ hT bgo)) ?_;intro w2 hb2 _ _ _ _ hA2 _;clear hb2)
  | (go_at_call 11;refine wk w (c10 _) ?_;intro w3 hb3 _ _ _ _ hA3 _;obtain ⟨_,_⟩:=zf hb3 w2.heap.size;clear hb3))
 go_ret
 exact ⟨by first|rfl|simp,bgo⟩
variable (c15:∀ W,CB 12 #[.int .i64 m,A4 Bp] W (.bool true))
 (c14:∀ W,CQ 15 #[.int .i64 t] W (.bool true))
 (c10:∀ W,CQ 16 #[.int .i64 d] W (.bool true))
include c15 c14 c10
end
section
variable {TT:World->Prop}(h:CroC TT)(hD:DtxC TT)(m t d:Int)(Bp:Nat)(w:World)(hT:TT w)(hB:Bp<2^256)
include h hD hT hB
theorem zIo:CB 3 #[.int .i64 m,.int .i64 t,.int .i64 d,A4 Bp] w (.bool true) :=
 cv19_w TT h.next w hT (fun W hW=>yEa h hD W hW) m t d Bp _ _ _ (fun W hW=>h.cv m t d Bp W hB hW) (fun W=>zX6 m t d Bp W hB)
end
end
theorem zCg (m t d:Int)(Bp:Nat)(w:World)(hT:Tab w)(hT10:Tb10 w)(hB:Bp<2^256) :
  CB 3 #[.int .i64 m,.int .i64 t,.int .i64 d,A4 Bp] w (.bool true) :=
 zIo croB dtxC m t d Bp w ⟨hT,hT10⟩ hB
end Go.Proofs.YtahfkpjhlbiamaaGreatDoor
