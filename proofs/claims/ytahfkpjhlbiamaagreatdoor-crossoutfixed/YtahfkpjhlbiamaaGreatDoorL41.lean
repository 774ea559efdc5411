/-
  Texts that the proof leans on.
-/
import Derived.Test.YtahfkpjhlbiamaaGreatDoorL37
import Derived.Test.YtahfkpjhlbiamaaGreatDoorL38
import Derived.Test.YtahfkpjhlbiamaaGreatDoorL29
import Derived.Test.YtahfkpjhlbiamaaGreatDoorL19
import Derived.Test.YtahfkpjhlbiamaaGreatDoorL21
import Derived.Test.YtahfkpjhlbiamaaGreatDoorL35
import Derived.Test.YtahfkpjhlbiamaaGreatDoorL25
import Derived.Test.YtahfkpjhlbiamaaGreatDoorL18
import Derived.Test.YtahfkpjhlbiamaaGreatDoorL1
import Derived.Test.YtahfkpjhlbiamaaGreatDoorL6
import Derived.Test.YtahfkpjhlbiamaaGreatDoorL28
import Derived.Test.YtahfkpjhlbiamaaGreatDoorL32
import Derived.Test.YtahfkpjhlbiamaaGreatDoorL23
import Derived.Deep.MidRow
import Derived.Test.YtahfkpjhlbiamaaGreatDoorL14
import Derived.Test.YtahfkpjhlbiamaaGreatDoorL11
import Derived.Test.YtahfkpjhlbiamaaGreatDoorL36
import Derived.Test.YtahfkpjhlbiamaaGreatDoorL34
import Derived.Test.YtahfkpjhlbiamaaGreatDoorL24
import Derived.Test.YtahfkpjhlbiamaaGreatDoorL22
import Derived.Deep.Cut
import Derived.Deep.CutRange
import Derived.Deep.RegionWith
set_option linter.unusedVariables false
set_option linter.unusedSectionVars false
set_option linter.unusedSimpArgs false
set_option maxHeartbeats 8000000
set_option maxRecDepth 20000
namespace Go.Proofs.YtahfkpjhlbiamaaGreatDoor
open Go.RowKit
section
theorem tnX_eq {N D:Nat}{E:Int}(hN:0<N)(hD:0<D)(h:TnE N D E):tnX N D=E:=(tnX_is hN hD).only h
theorem third:rqD 7 0 false 1 3 0 0=⟨1,false,false,-7,3333333⟩/\rqF 7 0 false 1 3 0=8/\rqE 7 0 1 3=0:=by
 have e0:rqE 7 0 1 3=0:=by
  have b1:bl 1<=2:=bl_le.2 (by decide)
  have b3:bl 3<=2:=bl_le.2 (by decide)
  unfold rqE
  rw [if_pos ⟨by unfold decN;omega,by unfold knB;omega,by decide⟩,if_neg (by omega)]
 have eX:tnX (1*10^(clT 0).toNat) (3*10^(-(clT 0)).toNat)=-1:=tnX_eq (by decide) (by decide) ⟨by decide,by decide⟩
 refine ⟨?_,?_,e0⟩
 ·unfold rqD
  rw [if_pos e0,if_neg (by decide),eX]
  have h1:(dkD (fD 7) 0 false (1*10^(clT 0).toNat) (3*10^(-(clT 0)).toNat) (-1) 0).c=1/\(dkD (fD 7) 0 false (1*10^(clT 0).toNat) (3*10^(-(clT 0)).toNat) (-1) 0).s=false/\(dkD (fD 7) 0 false (1*10^(clT 0).toNat) (3*10^(-(clT 0)).toNat) (-1) 0).g=false/\(dkD (fD 7) 0 false (1*10^(clT 0).toNat) (3*10^(-(clT 0)).toNat) (-1) 0).x=-7/\(dkD (fD 7) 0 false (1*10^(clT 0).toNat) (3*10^(-(clT 0)).toNat) (-1) 0).k=3333333:=by decide +kernel
  generalize dkD (fD 7) 0 false (1*10^(clT 0).toNat) (3*10^(-(clT 0)).toNat) (-1) 0=R at h1 ⊢
  obtain ⟨c,s,g,x,k⟩:=R
  simp only at h1
  obtain ⟨rfl,rfl,rfl,rfl,rfl⟩:=h1
  rfl
 ·unfold rqF
  rw [if_pos e0,if_neg (by decide),eX]
  decide +kernel
attribute [local irreducible] W4 Nt
end
section
theorem dat_box {w0 w:World}{c x:Int}{s g:Bool}{k:Nat}{t:TypeId}(hk:k<2^256)
  (hb:Below (w0.alloc (.cells #[.int .i64 c,.bool s,.bool g,.int .i64 x,.int .u64 (W4 k 0),.int .u64 (W4 k 1),.int .u64 (W4 k 2),.int .u64 (W4 k 3)] t)).heap.size (w0.alloc (.cells #[.int .i64 c,.bool s,.bool g,.int .i64 x,.int .u64 (W4 k 0),.int .u64 (W4 k 1),.int .u64 (W4 k 2),.int .u64 (W4 k 3)] t)) w) :
  Nt 4 k (.slice (some ⟨w0.heap.size,4,none⟩) 4 4) w:=by
 have hs:w0.heap.size<(w0.alloc (.cells #[.int .i64 c,.bool s,.bool g,.int .i64 x,.int .u64 (W4 k 0),.int .u64 (W4 k 1),.int .u64 (W4 k 2),.int .u64 (W4 k 3)] t)).heap.size:=by simp
 refine ⟨_,4,4,lowW (W4 k) 4,rfl,Nat.le_refl _,⟨Nat.le_refl _,by unfold maxLen;omega,?_,?_,Or.inr ⟨w0.heap.size,4,rfl,Nat.lt_of_lt_of_le hs hb.size,?_⟩⟩,?_⟩
 ·intro i
  by_cases hi:i<4
  ·rw [lowW_lt hi];exact W4_words k i
  ·rw [show lowW (W4 k) 4 i=0 from if_neg hi];exact ⟨Int.le_refl _,by decide⟩
 ·intro i hi
  exact if_neg (by omega)
 ·intro i hi
  rw [lowW_lt hi,hb.cell (p:=⟨w0.heap.size,4+i,none⟩) hs]
  have:i=0∨i=1∨i=2∨i=3:=by omega
  rw [World.cell?_alloc_new]
  rcases this with rfl|rfl|rfl|rfl<;>rfl
 ·rw [val_congr (x:=lowW (W4 k) 4) (y:=W4 k) 4 (fun i hi=>lowW_lt hi),W4_val4 hk]
attribute [local irreducible] W4 Nt
end
section
attribute [local irreducible] W4 Nz Nt NT
section
variable (t ba d:Int)(num wi pr ex le mo pa:Int)(nm:ByteArray)(de:Bool)(w:World)(hT:Tab w)
include hT
theorem stg_e (b0:Int)
  (c2:∀ W,Tab W->CB 53 #[.int .i64 t] W (.tuple #[.agg #[.int .i64 num,.string nm,.int .i64 b0,.int .i64 wi,.int .i64 pr,.int .i64 ex,.int .i64 le,.int .i64 mo,.int .i64 pa,.bool de],.int .i64 1])) :
  CB 24 #[.int .i64 t,.int .i64 ba,.int .i64 d] w (.tuple #[IZ,.int .i64 1]):=by
 have hsm:=cell_set_map
 go_enter Tryz.func24,Tryz.ntmps24
 go_wp2_with (go_at_call 53;refine (c2 _ (hT.go bgo)).mono ?_;rintro r w1 ⟨rfl,hb1⟩;obtain ⟨_,_,_,_,hA1,_⟩:=wz w hb1;clear hb1)
 exact bodyPost_ret (v:=.tuple #[IZ,.int .i64 1]) (by simp only [results,Tryz.results24];go_simp) rfl ⟨rfl,bgo⟩
theorem stg_b (b0:Int)(hba:(b0 != ba)=true)
  (c2:∀ W,Tab W->CB 53 #[.int .i64 t] W (.tuple #[.agg #[.int .i64 num,.string nm,.int .i64 b0,.int .i64 wi,.int .i64 pr,.int .i64 ex,.int .i64 le,.int .i64 mo,.int .i64 pa,.bool de],.int .i64 0])) :
  CB 24 #[.int .i64 t,.int .i64 ba,.int .i64 d] w (.tuple #[IZ,.int .i64 1]):=by
 have hsm:=cell_set_map
 go_enter Tryz.func24,Tryz.ntmps24
 go_wp2_with (go_at_call 53;refine (c2 _ (hT.go bgo)).mono ?_;rintro r w1 ⟨rfl,hb1⟩;obtain ⟨_,_,_,_,hA1,_⟩:=wz w hb1;clear hb1)
 exact bodyPost_ret (v:=.tuple #[IZ,.int .i64 1]) (by simp only [results,Tryz.results24];go_simp) rfl ⟨rfl,bgo⟩
variable (c2:∀ W,Tab W->CB 53 #[.int .i64 t] W (.tuple #[.agg #[.int .i64 num,.string nm,.int .i64 ba,.int .i64 wi,.int .i64 pr,.int .i64 ex,.int .i64 le,.int .i64 mo,.int .i64 pa,.bool de],.int .i64 0]))
include c2
theorem stg_k (c3:∀ W,CQ 44 #[.int .i64 d] W (.bool false)) :
  CB 24 #[.int .i64 t,.int .i64 ba,.int .i64 d] w (.tuple #[IZ,.int .i64 1]):=by
 have hsm:=cell_set_map
 have hbb:(ba != ba)=false:=bne_self_eq_false ba
 go_enter Tryz.func24,Tryz.ntmps24
 go_wp2_with (first
  | (go_at_call 53;refine (c2 _ (hT.go bgo)).mono ?_;rintro r w1 ⟨rfl,hb1⟩;obtain ⟨_,_,_,_,hA1,_⟩:=wz w hb1;clear hb1)
  | (go_at_call 44;refine (c3 _).mono ?_;rintro r w2 ⟨rfl,rfl⟩))
 exact bodyPost_ret (v:=.tuple #[IZ,.int .i64 1]) (by simp only [results,Tryz.results24];go_simp) rfl ⟨rfl,bgo⟩
theorem stg_y (c3:∀ W,CQ 44 #[.int .i64 d] W (.bool true)) :
  CB 24 #[.int .i64 t,.int .i64 ba,.int .i64 d] w (.tuple #[.agg #[.int .i64 num,.string nm,.int .i64 ba,.int .i64 wi,.int .i64 pr,.int .i64 ex,.int .i64 le,.int .i64 mo,.int .i64 pa,.bool de],.int .i64 0]):=by
 have hsm:=cell_set_map
 have hbb:(ba != ba)=false:=bne_self_eq_false ba
 go_enter Tryz.func24,Tryz.ntmps24
 go_wp2_with (first
  | (go_at_call 53;refine (c2 _ (hT.go bgo)).mono ?_;rintro r w1 ⟨rfl,hb1⟩;obtain ⟨_,_,_,_,hA1,_⟩:=wz w hb1;clear hb1)
  | (go_at_call 44;refine (c3 _).mono ?_;rintro r w2 ⟨rfl,rfl⟩))
 exact bodyPost_ret (v:=.tuple #[.agg #[.int .i64 num,.string nm,.int .i64 ba,.int .i64 wi,.int .i64 pr,.int .i64 ex,.int .i64 le,.int .i64 mo,.int .i64 pa,.bool de],.int .i64 0]) (by simp only [results,Tryz.results24];go_simp) rfl ⟨rfl,bgo⟩
end
abbrev InfV (t:Int):Value:=.agg #[.int .i64 (numN t),.string (nameN t),.int .i64 (baseN t),.int .i64 (widthN t),.int .i64 (precN t),.int .i64 (expN t),.int .i64 (leastN t),.int .i64 (mostN t),.int .i64 (payN t),.bool (denseN t)]
theorem starg_y {t ba d:Int}(w:World)(hT:Tab w)(h1:okN t)(h2:baseN t=ba)(h3:knB d) :
  CB 24 #[.int .i64 t,.int .i64 ba,.int .i64 d] w (.tuple #[InfV t,.int .i64 0]):=by
 have c2:=fun W h=>ofv_any t W h
 have c3:=fun W=>known_any d W
 rw [decide_eq_true h3] at c3
 rw [show infoE t=0 from if_pos h1,h2] at c2
 unfold InfV
 rw [h2]
 exact stg_y t ba d _ _ _ _ _ _ _ _ _ w hT c2 c3
theorem starg_n {t ba d:Int}(w:World)(hT:Tab w)(h:¬ (okN t/\baseN t=ba/\knB d)) :
  CB 24 #[.int .i64 t,.int .i64 ba,.int .i64 d] w (.tuple #[IZ,.int .i64 1]):=by
 have c2:=fun W h=>ofv_any t W h
 have c3:=fun W=>known_any d W
 by_cases h1:okN t
 ·rw [show infoE t=0 from if_pos h1] at c2
  by_cases h2:baseN t=ba
  ·rw [h2] at c2
   by_cases h3:knB d
   ·exact absurd ⟨h1,h2,h3⟩ h
   ·rw [decide_eq_false h3] at c3
    exact stg_k t ba d _ _ _ _ _ _ _ _ _ w hT c2 c3
  ·exact stg_b t ba d _ _ _ _ _ _ _ _ _ w hT _ (by rw [bne_iff_ne];exact h2) c2
 ·rw [show infoE t=1 from if_neg h1] at c2
  exact stg_e t ba d _ _ _ _ _ _ _ _ _ w hT _ c2
section
variable (num ba wi pr ex le mo pa c x:Int)(nm:ByteArray)(de s g:Bool)(k Q:Nat)(hk:k<2^256)(w:World)(cm:Int)
 (c61:∀ W,Calls Tryz.prog 56 #[.int .i64 ba,.int .i64 pa] W fun r w'=>∃ v,r=.returned (.tuple #[v,.int .i64 0])/\Nt 2001 Q v w'/\Below W.heap.size W w')
 (c64:∀ W v u,Nt 4 k v W->Nt 2001 Q u W->CB 57 #[v,u] W (.int .i64 cm))
include hk c61 c64
theorem scnv_l (h:cm<0) :
  CB 26 #[.agg #[.int .i64 num,.string nm,.int .i64 ba,.int .i64 wi,.int .i64 pr,.int .i64 ex,.int .i64 le,.int .i64 mo,.int .i64 pa,.bool de],DV c s g x k] w (.tuple #[DV c s false x k,.int .i64 (if g then 1 else 0)]):=by
 have hbx:=fun W hW=>dat_box (w0:=w.alloc (.cells #[.int .i64 num,.string nm,.int .i64 ba,.int .i64 wi,.int .i64 pr,.int .i64 ex,.int .i64 le,.int .i64 mo,.int .i64 pa,.bool de] 55)) (w:=W) (c:=c) (s:=s) (g:=g) (x:=x) (t:=32) hk hW
 have h':¬ 0<=cm:=by omega
 have h'':decide (0<=cm)=false:=decide_eq_false h'
 have hsm:=cell_set_map
 cases g
 all_goals (
  go_enter Tryz.func26,Tryz.ntmps26
  go_wp2_with (first
   | (go_at_call 56;refine (c61 _).mono ?_;rintro r w1 ⟨v1,rfl,hv1,hb1⟩;have hv0:=hbx _ (bnx (below1 _ _) hb1);obtain ⟨_,_,_,_,hA1,_⟩:=wz w hb1;obtain ⟨_,_⟩:=zf hb1 (w.heap.size+1);obtain ⟨_,_⟩:=zf hb1 (w.heap.size+1+1);clear hb1)
   | (go_at_call 57;refine (c64 _ _ _ (by simpa using hv0) hv1).mono ?_;rintro r w2 ⟨rfl,hb2⟩;obtain ⟨_,_,_,_,hA2,_⟩:=wz w hb2;obtain ⟨_,_⟩:=zf hb2 (w.heap.size+1);obtain ⟨_,_⟩:=zf hb2 (w.heap.size+1+1);clear hb2))
  exact bodyPost_ret (by simp only [results,Tryz.results26];go_simp) rfl ⟨rfl,bgo⟩)
theorem scnv_g (h:0<=cm) :
  CB 26 #[.agg #[.int .i64 num,.string nm,.int .i64 ba,.int .i64 wi,.int .i64 pr,.int .i64 ex,.int .i64 le,.int .i64 mo,.int .i64 pa,.bool de],DV c s g x k] w (.tuple #[DV c s false x 0,.int .i64 (if g then 1 else 0)]):=by
 have hbx:=fun W hW=>dat_box (w0:=w.alloc (.cells #[.int .i64 num,.string nm,.int .i64 ba,.int .i64 wi,.int .i64 pr,.int .i64 ex,.int .i64 le,.int .i64 mo,.int .i64 pa,.bool de] 55)) (w:=W) (c:=c) (s:=s) (g:=g) (x:=x) (t:=32) hk hW
 have h'':decide (0<=cm)=true:=decide_eq_true h
 have hz:DV c s false x 0=.agg #[.int .i64 c,.bool s,.bool false,.int .i64 x,.int .u64 0,.int .u64 0,.int .u64 0,.int .u64 0]:=by unfold DV;simp only [W4_zero]
 rw [hz]
 clear hz
 have hsm:=cell_set_map
 cases g
 all_goals (
  go_enter Tryz.func26,Tryz.ntmps26
  go_wp2_with (first
   | (go_at_call 56;refine (c61 _).mono ?_;rintro r w1 ⟨v1,rfl,hv1,hb1⟩;have hv0:=hbx _ (bnx (below1 _ _) hb1);obtain ⟨_,_,_,_,hA1,_⟩:=wz w hb1;obtain ⟨_,_⟩:=zf hb1 (w.heap.size+1);obtain ⟨_,_⟩:=zf hb1 (w.heap.size+1+1);clear hb1)
   | (go_at_call 57;refine (c64 _ _ _ (by simpa using hv0) hv1).mono ?_;rintro r w2 ⟨rfl,hb2⟩;obtain ⟨_,_,_,_,hA2,_⟩:=wz w hb2;obtain ⟨_,_⟩:=zf hb2 (w.heap.size+1);obtain ⟨_,_⟩:=zf hb2 (w.heap.size+1+1);clear hb2))
  exact bodyPost_ret (by simp only [results,Tryz.results26];go_simp) rfl ⟨rfl,bgo⟩)
end
theorem sconv_v (t:Int)(Q:Nat)(hQ:∀ W,Calls Tryz.prog 56 #[.int .i64 (baseN t),.int .i64 (payN t)] W fun r w'=>∃ v,r=.returned (.tuple #[v,.int .i64 0])/\Nt 2001 Q v w'/\Below W.heap.size W w')(c x:Int)(s g:Bool){k:Nat}(hk:k<2^256)(w:World) :
  CB 26 #[InfV t,DV c s g x k] w (.tuple #[DV c s false x (if k<Q then k else 0),.int .i64 (if g then 1 else 0)]):=by
 have c64:∀ W v u,Nt 4 k v W->Nt 2001 Q u W->CB 57 #[v,u] W (.int .i64 (sgn (k:Int) (Q:Int))):=fun W v u h1 h2=>ncmp_v (by decide) (by decide) h1 h2
 by_cases h:k<Q
 ·rw [if_pos h]
  refine scnv_l _ _ _ _ _ _ _ _ c x _ _ s g k Q hk w _ hQ c64 ?_
  rcases sgn_ways (k:Int) (Q:Int) with ⟨x,e⟩|⟨x,e⟩|⟨x,e⟩<;>omega
 ·rw [if_neg h]
  refine scnv_g _ _ _ _ _ _ _ _ c x _ _ s g k Q hk w _ hQ c64 ?_
  rcases sgn_ways (k:Int) (Q:Int) with ⟨x,e⟩|⟨x,e⟩|⟨x,e⟩<;>omega
theorem bin_bound {t:Int}(hb:binN t)(W:World):Calls Tryz.prog 56 #[.int .i64 (baseN t),.int .i64 (payN t)] W fun r w'=>∃ v,r=.returned (.tuple #[v,.int .i64 0])/\Nt 2001 (2^(fN t-1)) v w'/\Below W.heap.size W w':=by
 obtain ⟨f1,f2,f3,f4,f5,f6⟩:=bin_fields hb
 have h2:=fN_two hb
 have h240:=(bin_fm hb).f240
 rw [f2,f6,show (fN t:Int)-1=((fN t-1:Nat):Int) by omega]
 exact npow2z (fN t-1) W (by omega)
end
theorem zero_cut (s:Bool){e:Int}(he:-100000<=e/\e<=100000):cutP (sgL s++unT [48] e)=some ⟨1,s,false,[],e⟩:=by
 have hlen:(unT [48] e).length<=26:=by have:=unT_brief (D:=[48]) he;rw [List.length_cons,List.length_nil] at this;omega
 obtain ⟨x1,x2,x3,x4,x5⟩:=ex_any e (by omega)
 have hu:unT [48] e=[48]++(101::Lib.itoa e):=rfl
 have key:finB (unT [48] e)=true/\finD (unT [48] e)=[]/\finE (unT [48] e)=e/\∃ t,unT [48] e=48::t:=by
  rw [hu]
  obtain ⟨d1,d2⟩:=dgs_app2 (l:=[48]) (m:=101::Lib.itoa e) (by decide) x4
  have f1:frac ([48]++101::Lib.itoa e)=[]:=by unfold frac;rw [d2,x3];rfl
  have f2:behind ([48]++101::Lib.itoa e)=101::Lib.itoa e:=by unfold behind;rw [d2,x3];rfl
  refine ⟨?_,?_,?_,_,rfl⟩
  ·unfold finB;rw [f1,f2,x1,d1];rfl
  ·unfold finD;rw [f1,d1];rfl
  ·unfold finE;rw [f1,f2,x2]
   rw [show e-((([]:List UInt8).length:Nat):Int)=e by simp]
   exact clamp_id (by omega)
 obtain ⟨k1,k2,k3,t,k4⟩:=key
 unfold cutP
 have hs:(sgL s++unT [48] e).length<=4000:=by
  rw [List.length_append]
  have:(sgL s).length<=1:=by cases s<;>decide
  omega
 rw [if_neg (by omega)]
 have hsg:gsgB (sgL s++unT [48] e)=s/\sgR (sgL s++unT [48] e)=unT [48] e:=by
  rw [k4]
  exact sig_app s 48 t ⟨by decide,by decide⟩
 rw [hsg.1,hsg.2]
 unfold bodP
 rw [if_pos k1,k2,k3]
def wtD (k:Nat):List UInt8:=if k=0 then [48] else dcL k
def xtT (v:Dat):List UInt8:=if v.c=1 then sgL v.s++unT (wtD v.k) (v.x+(wtD v.k).length-1) else texT v.c v.s v.g (dcL v.k) 0
def xtP (v:Dat):Prt:=⟨v.c,v.s,v.g,dcL v.k,if v.c=1 then v.x else 0⟩
theorem dcL_ne {k:Nat}(h0:k≠0)(hk:k<2^256):dcL k≠[]:=by
 obtain ⟨f1,f2,f3⟩:=dcL_facts hk
 intro e
 rw [e,dV_nil] at f2
 exact h0 f2.symm
theorem vI_k {f:DF}(hf:f.ok){v:Dat}(h:vI f v):v.k<2^256:=by
 obtain ⟨m0,m1,l0,l1,lm,j0,j1⟩:=ok_m hf
 have h1:(10:Nat)^(3*f.j+1)<=10^34:=Nat.pow_le_pow_right (by decide) (by omega)
 have h2:(10:Nat)^(3*f.j)<=10^34:=Nat.pow_le_pow_right (by decide) (by omega)
 have h3:(10:Nat)^34<2^256:=by decide
 rcases h with ⟨_,_,a,_⟩|⟨_,_,a,_⟩|⟨_,_,a⟩
 ·omega
 ·rw [a];decide
 ·omega
theorem xt_cut {f:DF}(hf:f.ok){v:Dat}(h:vI f v):cutP (xtT v)=some (xtP v)/\(xtT v).length<=3001:=by
 obtain ⟨m0,m1,l0,l1,lm,j0,j1⟩:=ok_m hf
 have hk:=vI_k hf h
 obtain ⟨f1,f2,f3⟩:=dcL_facts hk
 obtain ⟨c,s,g,x,k⟩:=v
 unfold xtT xtP
 dsimp only at *
 rcases h with ⟨h1,h2,h3,h4,h5⟩|⟨h1,h2,h3,h4⟩|⟨h1,h2,h3⟩
 ·dsimp only at h1 h2 h3 h4 h5
  subst h1 h2
  have hx:-10000<=x/\x<=10000:=by unfold DF.m at *;omega
  rw [if_pos rfl,if_pos rfl]
  unfold wtD
  by_cases h0:k=0
  ·rw [if_pos h0,h0,show dcL 0=[] by kernel_rfl,show x+((([48]:List UInt8).length:Nat):Int)-1=x by simp]
   refine ⟨zero_cut s (by omega),?_⟩
   have hlen:(unT [48] x).length<=26:=by have:=unT_brief (D:=[48]) (e:=x) (by omega);rw [List.length_cons,List.length_nil] at this;omega
   rw [List.length_append]
   have:(sgL s).length<=1:=by cases s<;>decide
   omega
  ·rw [if_neg h0]
   refine ⟨dec_cut s f1 (dcL_ne h0 hk) (by omega) (by omega) rfl,?_⟩
   have hlen:=unT_brief (D:=dcL k) (e:=x+(dcL k).length-1) (by omega)
   rw [List.length_append]
   have:(sgL s).length<=1:=by cases s<;>decide
   omega
 ·dsimp only at h1 h2 h3 h4
  subst h1 h2 h3 h4
  have e0:dcL 0=[]:=by kernel_rfl
  rw [e0]
  exact ⟨by cases s<;>kernel_rfl,by cases s<;>decide⟩
 ·dsimp only at h1 h2 h3
  subst h1 h2
  have hlen:(texT 3 s g (dcL k) 0).length<=3001:=by
   have:=tex_len2 (c:=3) (s:=s) (g:=g) (d:=dcL k) (e:=0) (by decide)
   omega
  have hj:=(jn_of_gd (p:=⟨3,s,g,dcL k,0⟩) ⟨f1,Or.inr (Or.inr ⟨rfl,rfl,by show (texT 3 s g (dcL k) 0).length<=4000;omega⟩)⟩).2
  exact ⟨hj,hlen⟩
section
abbrev zd:Array Value:=#[.int .i64 0,.bool false,.bool false,.int .i64 0,.int .u64 0,.int .u64 0,.int .u64 0,.int .u64 0]
theorem below_cellsD {n b:Nat}{a:World}(hb:n<=b):∀ (vs:List Value) (o:Nat) (W:World),Below n a W->Below n a (W.setCells b o vs)
 | [],_,_,h=>h
 | v::r,o,W,h=>below_cellsD hb r (o+1) _ (h.setCell hb v)
def D8 (g:Nat)(cs:Array Value)(w:World):Prop:=g<w.heap.size/\cs.size=8/\(∀ i,i<8->w.cell? ⟨g,i,none⟩=cs[i]?)/\∀ i,w.frozen? ⟨g,i,none⟩=false
theorem D8.next {g:Nat}{cs:Array Value}{w w':World}(h:D8 g cs w)(hb:Below w.heap.size w w'):D8 g cs w' :=
 ⟨Nat.lt_of_lt_of_le h.1 hb.size,h.2.1,fun i hi=>(hb.cell (p:=⟨g,i,none⟩) h.1).trans (h.2.2.1 i hi),fun i=>(hb.frozen (p:=⟨g,i,none⟩) h.1).trans (h.2.2.2 i)⟩
theorem D8.new (w:World):D8 w.heap.size zd (w.alloc (.cells zd 32)):=by
 refine ⟨by simp,rfl,fun i hi=>?_,fun i=>?_⟩
 ·rw [World.cell?_alloc_new]
 ·simp [go_sem]
theorem D8.put {g:Nat}{cs cs':Array Value}{w:World}(h:D8 g cs w)(hs:cs'.size=8):D8 g cs' (w.setCells g 0 cs'.toList):=by
 have hin:=World.cell?_setCells_in g cs'.toList 0 w (fun j hj=>by
  rw [Nat.zero_add,h.2.2.1 j (by simpa [hs] using hj),Array.getElem?_eq_getElem (by rw [h.2.1];simpa [hs] using hj)];rfl)
 refine ⟨Nat.lt_of_lt_of_le h.1 (below_cellsD (n:=0) (Nat.zero_le _) _ _ _ (Below.refl 0 w)).size,hs,fun i hi=>?_,fun i=>?_⟩
 ·have:=hin i (by simpa [hs] using hi)
  rw [Nat.zero_add] at this
  rw [this,Array.getElem?_eq_getElem (by rw [hs];exact hi)]
  simp
 ·rw [World.frozen?_setCells];exact h.2.2.2 i
attribute [local irreducible] W4 Nt NT
section
variable {a:Act}{w:World}{K:Act->World->Prop}{Q:Exit->Act->World->Prop}{d p q:Nat}{ty:TypeId}{pos:String}{after:Array Edge}{gd:Option (Nat×Bool)}
end
end
section
attribute [local irreducible] W4 Nt
def dwT (n:Int)(Bp:Nat):List UInt8:=if goodD n Bp then xtT (vM (fD n) Bp) else []
end
section
attribute [local irreducible] W4 NT NV
def ciV (t d:Int)(D:Dat):Nat:=if D.c=2 then pkV t ⟨2,D.s,false,0,0⟩ else if D.c=3 then pkV t ⟨3,D.s,false,0,if D.k<2^(fN t-1) then D.k else 0⟩ else rdV t d D.s (tN D.k D.x) (tD D.x) D.x
def ciF (t d:Int)(D:Dat):Int:=if D.c=2 then 0 else if D.c=3 then (if D.g then 1 else 0) else rdF t d D.s (tN D.k D.x) (tD D.x) D.x
theorem vI_x {f:DF}(hf:f.ok){v:Dat}(h:vI f v):-10000<=v.x/\v.x<=10000:=by
 obtain ⟨m0,m1,l0,l1,lm,j0,j1⟩:=ok_m hf
 unfold DF.m at *
 rcases h with ⟨_,_,_,a,b⟩|⟨_,_,_,a⟩|⟨_,a,_⟩<;>omega
def xiG (m t d:Int)(B:Nat):Prop:=goodD m B/\binN t/\knB d
instance (m t d:Int) (B:Nat):Decidable (xiG m t d B):=inferInstanceAs (Decidable (_/\_))
def xiV (m t d:Int)(B:Nat):Nat:=if xiG m t d B then ciV t d (vM (fD m) B) else 0
def xiF (m t d:Int)(B:Nat):Int:=if xiG m t d B then ciF t d (vM (fD m) B) else 0
def xiE (m t d:Int)(B:Nat):Int:=if xiG m t d B then 0 else 1
end
noncomputable def coD (t d:Int)(D:Dat):Dat :=
 if D.c=2 then ⟨2,D.s,false,0,0⟩ else if D.c=3 then ⟨3,D.s,false,0,if D.k<10^(3*(fD t).j) then D.k else 0⟩
 else rqD t d D.s (D.k*2^D.x.toNat) (1*2^(-D.x).toNat) 0 0
noncomputable def coF (t d:Int)(D:Dat):Int :=
 if D.c=2 then 0 else if D.c=3 then (if D.g then 1 else 0) else rqF t d D.s (D.k*2^D.x.toNat) (1*2^(-D.x).toNat) 0
theorem whC_half (s:Bool){A Z:Nat}(hZ:0<Z):2*(whC 0 s A Z*Z)<=2*A+Z/\2*A<=2*(whC 0 s A Z*Z)+Z:=by
 have h1:=Nat.div_add_mod A Z
 have h2:=Nat.mod_lt A hZ
 unfold whC
 rw [Nat.mul_comm] at h1
 obtain ⟨f,hf⟩:∃ f,faB 0 s (decide (A/Z%2=1)) (A%Z) Z=f:=⟨_,rfl⟩
 rw [hf]
 unfold faB at hf
 generalize A/Z=q at *
 generalize A%Z=r at *
 by_cases h0:r=0
 ·rw [if_pos h0] at hf
  subst hf
  rw [if_neg (by decide)]
  omega
 ·rw [if_neg h0,if_pos rfl] at hf
  cases f
  ·rw [Bool.or_eq_false_iff] at hf
   have h3:=of_decide_eq_false hf.1
   rw [if_neg (by decide)]
   omega
  ·rw [Bool.or_eq_true,Bool.and_eq_true,decide_eq_true_eq,decide_eq_true_eq] at hf
   rw [if_pos rfl,Nat.add_mul,Nat.one_mul]
   omega
theorem ci_same (t d:Int)(s g:Bool){c C:Nat}{e q l:Int}(hl:l<=e)(hl':l<=q)(h:c*10^(e-l).toNat=C*10^(q-l).toNat) :
  ciV t d ⟨1,s,g,e,c⟩=ciV t d ⟨1,s,g,q,C⟩:=by
 have k1:=(tn_zeros t d s c (e-l).toNat e).1
 have k2:=(tn_zeros t d s C (q-l).toNat q).1
 rw [show e-((e-l).toNat:Int)=l by omega] at k1
 rw [show q-((q-l).toNat:Int)=l by omega] at k2
 show rdV t d s (tN c e) (tD e) e=rdV t d s (tN C q) (tD q) q
 rw [← k1,← k2,h]
theorem bin_small {n:Int}(hb:binN n)(h4:n<=4):fN n<=52/\-1074<=leastN n/\mostN n<=971:=by
 rcases bin_cases hb with rfl|rfl|rfl|rfl|rfl|rfl
 ·decide
 ·decide
 ·decide
 ·decide
 ·omega
 ·omega
theorem rq_clT:clT 0=0:=by decide
theorem big_low:(2:Nat)^1074<=10^339:=by decide +kernel
theorem low_pow {a:Nat}(h:a<=1074):2^a<=10^339:=by
 obtain ⟨p,hp⟩:∃ p,p=1074:=⟨_,rfl⟩
 have h2:=big_low
 rw [← hp] at h h2
 exact Nat.le_trans (Nat.pow_le_pow_right (by decide) h) h2
theorem big_high:(2:Nat)^1024<=10^340:=by decide +kernel
theorem high_pow {a:Nat}(h:a<=1024):2^a<=10^340:=by
 obtain ⟨p,hp⟩:∃ p,p=1024:=⟨_,rfl⟩
 have h2:=big_high
 rw [← hp] at h h2
 exact Nat.le_trans (Nat.pow_le_pow_right (by decide) h) h2
theorem co_back {n t:Int}(hb:binN n)(h4:n<=4)(ht:decN t)(hj:(fD t).j=11/\(fD t).l=-6176/\(fD t).w=12){s:Bool}{x:Int}{k:Nat}(hk:k≠0)
  (h:isD (fN n) (leastN n) (mostN n) ⟨1,s,false,x,k⟩):ciV n 0 (coD t 0 ⟨1,s,false,x,k⟩)=pkV n ⟨1,s,false,x,k⟩:=by
 obtain ⟨f1,f2,f3⟩:=bin_small hb h4
 obtain ⟨j1,j2,j3⟩:=hj
 have hx:leastN n<=x/\x<=mostN n/\k<2^(fN n+1):=by
  rcases h with ⟨_,_,a,b,c,_⟩|⟨a,_⟩|⟨a,_⟩
  ·exact ⟨b,c,a⟩
  ·exact absurd (show (1:Int)=2 from a) (by decide)
  ·exact absurd (show (1:Int)=3 from a) (by decide)
 obtain ⟨x1,x2,x3⟩:=hx
 have hk53:k<2^53:=Nat.lt_of_lt_of_le x3 (Nat.pow_le_pow_right (by decide) (by omega))
 have hm:(fD t).m=6111:=by unfold DF.m;rw [j2,j3];decide
 obtain ⟨N,hN⟩:∃ N,N=k*2^x.toNat:=⟨_,rfl⟩
 obtain ⟨D,hD⟩:∃ D,D=1*2^(-x).toNat:=⟨_,rfl⟩
 have hD0:0<D:=by rw [hD,Nat.one_mul];exact Nat.two_pow_pos _
 have hN0:0<N:=by rw [hN];exact Nat.mul_pos (Nat.pos_of_ne_zero hk) (Nat.two_pow_pos _)
 have bN:bl N<=25600:=by
  have a:=bl_mul k (2^x.toNat)
  have b:bl k<=53:=bl_le.2 hk53
  have c:bl (2^x.toNat)<=x.toNat+1:=bl_le.2 (Nat.pow_lt_pow_right (by decide) (by omega))
  rw [hN]
  omega
 have bD:bl D<=25600:=by
  have c:bl (2^(-x).toNat)<=(-x).toNat+1:=bl_le.2 (Nat.pow_lt_pow_right (by decide) (by omega))
  rw [hD,Nat.one_mul]
  omega
 have hT:=tnX_is hN0 hD0
 obtain ⟨E,hE⟩:∃ E,E=tnX N D:=⟨_,rfl⟩
 rw [← hE] at hT
 have eD:coD t 0 ⟨1,s,false,x,k⟩=dkD (fD t) 0 s N D E 0:=by
  have e0:rqE t 0 N D=0:=by
   unfold rqE
   rw [if_pos ⟨ht,by unfold knB;omega,by omega⟩,if_neg (by omega)]
  show rqD t 0 s (k*2^x.toNat) (1*2^(-x).toNat) 0 0=_
  rw [← hN,← hD]
  unfold rqD
  rw [if_pos e0,if_neg (by omega),rq_clT,hE]
  simp
 -- the first digit's place
 have hE1:-340<=E:=by
  apply Classical.byContradiction
  intro hlt
  apply hT.2
  refine tnG_le (e:=-339) ?_ (by omega)
  unfold tnG
  rw [show (-339:Int).toNat=0 by decide,show (-(-339:Int)).toNat=339 by decide,Nat.pow_zero,Nat.mul_one,hD,Nat.one_mul]
  have hx74:(-x).toNat<=1074:=by omega
  exact Nat.le_trans (low_pow hx74) (Nat.le_mul_of_pos_left _ hN0)
 have hE2:E<=340:=by
  apply Classical.byContradiction
  intro hlt
  have a:=tnG_le (e':=340) hT.1 (by omega)
  unfold tnG at a
  rw [show (340:Int).toNat=340 by decide,show (-(340:Int)).toNat=0 by decide,Nat.pow_zero,Nat.mul_one] at a
  have b:N<2^(53+x.toNat):=by
   rw [hN]
   have b1:k*2^x.toNat<2^53*2^x.toNat:=Nat.mul_lt_mul_of_pos_right hk53 (Nat.two_pow_pos _)
   rw [← Nat.pow_add] at b1
   exact b1
  have hx24:53+x.toNat<=1024:=by omega
  exact absurd (Nat.lt_of_lt_of_le (Nat.lt_of_le_of_lt (Nat.le_trans (Nat.le_mul_of_pos_left _ hD0) a) b) (high_pow hx24)) (Nat.lt_irrefl _)
 obtain ⟨q,hq⟩:∃ q,q=dkQ (fD t) E:=⟨_,rfl⟩
 have hq1:q=E-33:=by rw [hq];unfold dkQ;rw [j1,j2];omega
 have hZ:=dkZ_pos hD0 q
 have hAZ:10^33*dkZ D q<=dkA N q:=by
  have a:=(tnG_add N D 33 q).1 (by rw [hq1,show E-33+((33:Nat):Int)=E by omega];exact hT.1)
  unfold dkA dkZ
  rw [Nat.mul_comm]
  exact a
 obtain ⟨w1,w2⟩:=whC_half s (A:=dkA N q) hZ
 obtain ⟨C,hC⟩:∃ C,C=dkC0 (fD t) 0 s N D E:=⟨_,rfl⟩
 have hC':C=whC 0 s (dkA N q) (dkZ D q):=by rw [hC,hq];rfl
 rw [← hC'] at w1 w2
 have hmo:¬ (fD t).m<dkE (fD t) 0 s N D E:=by
  unfold dkE
  rw [← hq,hm]
  split<;>omega
 have hW:dkW (fD t) (dkD (fD t) 0 s N D E 0)=C*10^(q-(fD t).l).toNat:=by
  rw [dkW_d hmo,dkW_c hD0 hT,← hC,← hq]
 have hi:=dkD_is (want:=0) (d:=0) (s:=s) (fD_ok t) hD0 hT
 rw [eD]
 have hcl:(dkD (fD t) 0 s N D E 0).c=1/\(dkD (fD t) 0 s N D E 0).s=s/\(fD t).l<=(dkD (fD t) 0 s N D E 0).x:=by
  have hsg:=(dk_turn (fD t) 0 s N D E 0).2.2
  have hc1:(dkD (fD t) 0 s N D E 0).c=1:=by
   unfold dkD
   rw [if_neg hmo]
   split<;>rfl
  refine ⟨hc1,hsg,?_⟩
  rcases hi with ⟨_,_,_,a,_⟩|⟨a,_⟩|⟨a,_⟩
  ·exact a
  ·rw [hc1] at a;exact absurd a (by decide)
  ·rw [hc1] at a;exact absurd a (by decide)
 unfold dkW at hW
 generalize dkD (fD t) 0 s N D E 0=V at *
 obtain ⟨vc,vs,vg,vx,vk⟩:=V
 obtain ⟨c1,c2,c3⟩:=hcl
 dsimp only at c1 c2 c3 hW
 subst c1 c2
 rw [ci_same n 0 vs vg c3 (show (fD t).l<=q by rw [j2];omega) hW]
 show rdV n 0 vs (tN C q) (tD q) q=_
 rw [← (ten_shift n 0 vs C q).1]
 have hsh:=(rd_shift n 0 vs (C*10^q.toNat) (D:=10^(-q).toNat) (Nat.pos_iff_ne_zero.1 (ten_pos _)) (-x).toNat x.toNat x).1
 rw [show x+(((-x).toNat:Int)-(x.toNat:Int))=0 by omega] at hsh
 rw [← hsh]
 -- both sides over one denominator
 have eN':C*10^q.toNat*2^(-x).toNat=C*dkZ D q:=by
  unfold dkZ
  rw [hD,Nat.one_mul,Nat.mul_assoc,Nat.mul_comm (10^q.toNat)]
 have eA:k*(10^(-q).toNat*2^x.toNat)=dkA N q:=by
  unfold dkA
  rw [hN,Nat.mul_comm (10^(-q).toNat),Nat.mul_assoc]
 obtain ⟨D',hD'⟩:∃ D',D'=10^(-q).toNat*2^x.toNat:=⟨_,rfl⟩
 rw [eN',← hD']
 rw [← hD'] at eA
 have hDp:0<D':=by rw [hD'];exact Nat.mul_pos (ten_pos _) (Nat.two_pow_pos _)
 have hbig:2*dkZ D q<D':=by
  apply Classical.byContradiction
  intro hle
  have a:k*D'<=k*(2*dkZ D q):=Nat.mul_le_mul_left _ (by omega)
  have b:k*(2*dkZ D q)<=2^53*(2*dkZ D q):=Nat.mul_le_mul_right _ (Nat.le_of_lt hk53)
  have c:(2:Nat)^54<10^33:=by decide
  have e:(2:Nat)^53*(2*dkZ D q)=2^54*dkZ D q:=by rw [← Nat.mul_assoc]
  have e2:2^54*dkZ D q<10^33*dkZ D q:=Nat.mul_lt_mul_of_pos_right c hZ
  omega
 refine (rd_near hb h hk (Nat.pos_iff_ne_zero.1 hDp) ?_).1
 rw [eA]
 generalize C*dkZ D q=P at *
 generalize dkZ D q=Z at *
 generalize dkA N q=A at *
 have hlw:1<=lwN n x k:=by unfold lwN;split<;>omega
 by_cases hPA:A<=P
 ·left
  refine ⟨hPA,?_⟩
  unfold wiN
  rw [decide_eq_true (show 4*P-4*A<2*D' by omega),Bool.true_or]
 ·right
  have e3:1*D'<=lwN n x k*D':=Nat.mul_le_mul_right _ hlw
  refine ⟨by omega,?_⟩
  unfold wiN
  rw [decide_eq_true (show 4*A-4*P<lwN n x k*D' by omega),Bool.true_or]
section
structure DtxC (TT:World->Prop):Prop where
 next:∀ w w',TT w->Below w.heap.size w w'->TT w'
 t10:∀ w,TT w->Tb10 w
 wr:∀ n Bp W,Bp<2^256->TT W->CB 22 #[.int .i64 n,A4 Bp] W (.tuple #[.string (B (dwT n Bp)),.int .i64 (vUE n Bp)])
attribute [local irreducible] W4
end
section
structure CrnC (TT:World->Prop):Prop where
 next:∀ w w',TT w->Below w.heap.size w w'->TT w'
 cv:∀ m t d Bp W,Bp<2^256->TT W->CB 14 #[.int .i64 m,.int .i64 t,.int .i64 d,A4 Bp] W (.tuple #[A4 (xiV m t d Bp),.int .i64 (xiF m t d Bp),.int .i64 (xiE m t d Bp)])
attribute [local irreducible] W4
end
end Go.Proofs.YtahfkpjhlbiamaaGreatDoor
