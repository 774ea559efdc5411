/-
  Texts that the proof leans on.
-/
import Derived.Test.YtgknbdehlmlipaaGreatDoorL43
import Derived.Test.YtgknbdehlmlipaaGreatDoorL24
import Derived.Test.YtgknbdehlmlipaaGreatDoorL36
import Derived.Test.YtgknbdehlmlipaaGreatDoorL30
import Derived.Test.YtgknbdehlmlipaaGreatDoorL2
import Derived.Test.YtgknbdehlmlipaaGreatDoorL29
import Derived.Deep.Cut
import Derived.Deep.CutRange
import Derived.Deep.RegionWith
import Derived.Test.YtgknbdehlmlipaaGreatDoorL22
import Derived.Test.YtgknbdehlmlipaaGreatDoorL18
import Derived.Test.YtgknbdehlmlipaaGreatDoorL6
import Derived.Test.YtgknbdehlmlipaaGreatDoorL20
import Derived.Laws.BytesArg
import Derived.Test.YtgknbdehlmlipaaGreatDoorL1
import Derived.Test.YtgknbdehlmlipaaGreatDoorL38
import Derived.Test.YtgknbdehlmlipaaGreatDoorL33
import Derived.Test.YtgknbdehlmlipaaGreatDoorL9
import Derived.Shelf.SlicesE.Reverse
import Derived.RegionTactic
import Derived.ChangeAlike
import Derived.BigRegion
import Derived.Laws.Strings2
import Derived.Lib.AppendStr
import Derived.Lib.Builder
import Derived.Deep.AppendLies
import Derived.Test.YtgknbdehlmlipaaGreatDoorL5
import Derived.Test.YtgknbdehlmlipaaGreatDoorL4
import Derived.Test.YtgknbdehlmlipaaGreatDoorL3
import Derived.Test.YtgknbdehlmlipaaGreatDoorL7
import Derived.Test.YtgknbdehlmlipaaGreatDoorL8
import Derived.Test.YtgknbdehlmlipaaGreatDoorL41
import Derived.Test.YtgknbdehlmlipaaGreatDoorL32
import Derived.Test.YtgknbdehlmlipaaGreatDoorL39
import Derived.Test.YtgknbdehlmlipaaGreatDoorL40
import Derived.Test.YtgknbdehlmlipaaGreatDoorL10
import Derived.Test.YtgknbdehlmlipaaGreatDoorL42
import Derived.Test.YtgknbdehlmlipaaGreatDoorL34
import Derived.Test.YtgknbdehlmlipaaGreatDoorL37
import Derived.Deep.MidRow
set_option linter.unusedVariables false
set_option linter.unusedSectionVars false
set_option linter.unusedSimpArgs false
set_option maxHeartbeats 8000000
set_option maxRecDepth 20000
namespace Go.Proofs.YtgknbdehlmlipaaGreatDoor
open Go.RowKit
def lwN (n x:Int)(k:Nat):Nat:=if nbB n x k then 1 else 2
def evK (k:Nat):Bool:=decide (k%2=0)
structure Shd (n x:Int) (k:Nat) (E:Int) (K:Nat):Prop where
 t0:tnP k x E
 t1:¬ tnP k x (E+1)
 st:stK (evK k) (4*k*oE x E) (lwN n x k*oE x E) (2*oE x E) (zE x E) K=true
 mn:∀ j,j<K->stK (evK k) (4*k*oE x E) (lwN n x k*oE x E) (2*oE x E) (zE x E) j=false
theorem gs_in {k:Nat}{x:Int}(hk:k<2^256)(hk0:k≠0)(hx:-16990<=x/\x<=16990):tnP k x (gsP k x)/\-6000<=gsP k x/\gsP k x<6000:=by
 have hb:bl k<=256:=bl_le.2 hk
 obtain ⟨b1,b2,b3⟩:=bl_bd hk0
 have e:((bl k-1:Nat):Int)=(bl k:Int)-1:=by omega
 have:=guess_ok (c:=k) (L:=bl k-1) (x:=x) b1 (by omega)
 rw [e] at this
 refine ⟨this,?_⟩
 unfold gsP
 by_cases h0:0<=(bl k:Int)-1+x
 ·rw [Int.tdiv_eq_ediv_of_nonneg (by omega)];omega
 ·rw [show ((bl k:Int)-1+x)*30103=-(-((bl k:Int)-1+x)*30103) by omega,Int.neg_tdiv,Int.tdiv_eq_ediv_of_nonneg (by omega)];omega
theorem Shd.ex {n x:Int}{k:Nat}(hk:k<2^256)(hk0:k≠0)(hx:-16990<=x/\x<=16990):∃ E K,Shd n x k E K:=by
 obtain ⟨g1,g2,g3⟩:=gs_in hk hk0 hx
 obtain ⟨E,e1,e2,e3,e4⟩:=tn_ex (6000-gsP k x).toNat (gsP k x) g1 (by rw [show gsP k x+((6000-gsP k x).toNat:Int)=6000 by omega];exact tn_top hk (by omega))
 have hl:0<lwN n x k*oE x E:=Nat.mul_pos (by unfold lwN;split<;>decide) (oE_pos _ _)
 obtain ⟨K,h1,h2⟩:=st_ex (c:=evK k) (R:=4*k*oE x E) (u:=2*oE x E) (zE_pos x E) hl
 exact ⟨E,K,e3,e4,h1,h2⟩
section
theorem NT.head {K V:Nat}{v:Value}{w:World}(h:NT K V v w)(hV:V≠0):∃ g k cap z0,v=.slice (some ⟨g,0,none⟩) k cap/\0<k/\k<=K/\g<w.heap.size/\w.cell? ⟨g,0,none⟩=some (.int .u64 z0)/\0<=z0/\z0<=18446744073709551615/\z0%2=((V%2:Nat):Int):=by
 have hz:=h.zero
 obtain ⟨g,k,cap,z,rfl,hk,⟨n1,n2,n3,n4,n5⟩,hv,hs⟩:=h
 obtain ⟨g',k',cap',e,_,hz'⟩:=hz
 cases e
 have hk0:k≠0:=fun e=>hV (hz'.1 e)
 rcases n5 with ⟨n5,_⟩|⟨b,off,e,hb,hc⟩
 ·cases n5
 ·cases e
  have hc0:=hc 0 (by omega)
  have hw:=n3 0
  have hp:=val_odd (by omega:0<k) hv
  exact ⟨g,k,cap,z 0,rfl,by omega,hk,hb,hc0,hw.1,hw.2,by omega⟩
attribute [local irreducible] W4 Nz Nt NT NV
end
section
attribute [local irreducible] W4 Nz Nt NT
def TU2 (X:Nat)(v:Value)(w:World):Prop:=∃ q,v=.tuple #[q,.int .i64 0]/\NT 2001 X q w
theorem TU2.next {X:Nat}{v:Value}{w w':World}(h:TU2 X v w)(hb:Below w.heap.size w w'):TU2 X v w':=by
 obtain ⟨q,e,hq⟩:=h
 exact ⟨q,e,hq.next hb⟩
end
section
attribute [local irreducible] W4
section
variable (n:Int)(Bp:Nat)(c x:Int)(s g ok:Bool)(k:Nat)(E:Int)(w:World)
end
theorem mD_256 (n:Int)(B:Nat):(mD n B).k<2^256:=by
 unfold mD
 split
 ·exact unD_k n B
 ·exact vUD_256 n B
end
section
theorem dat_box {w0 w:World}{c x:Int}{s g:Bool}{k:Nat}{t:TypeId}(hk:k<2^256)
  (hb:Below (w0.alloc (.cells #[.int .i64 c,.bool s,.bool g,.int .i64 x,.int .u64 (W4 k 0),.int .u64 (W4 k 1),.int .u64 (W4 k 2),.int .u64 (W4 k 3)] t)).heap.size (w0.alloc (.cells #[.int .i64 c,.bool s,.bool g,.int .i64 x,.int .u64 (W4 k 0),.int .u64 (W4 k 1),.int .u64 (W4 k 2),.int .u64 (W4 k 3)] t)) w) :
  Nt 4 k (.slice (some ⟨w0.heap.size,4,none⟩) 4 4) w:=by
 have hs:w0.heap.size<(w0.alloc (.cells #[.int .i64 c,.bool s,.bool g,.int .i64 x,.int .u64 (W4 k 0),.int .u64 (W4 k 1),.int .u64 (W4 k 2),.int .u64 (W4 k 3)] t)).heap.size:=by simp
 refine ⟨_,4,4,lowW (W4 k) 4,rfl,Nat.le_refl _,⟨Nat.le_refl _,by unfold maxLen;omega,?_,?_,Or.inr ⟨w0.heap.size,4,rfl,Nat.lt_of_lt_of_le hs hb.size,?_⟩⟩,?_⟩
 ·intro i
  by_cases hi:i<4
  ·rw [lowW_lt hi];exact W4_words k i
  ·rw [show lowW (W4 k) 4 i=0 from if_neg hi];exact ⟨Int.le_refl _,by decide⟩
 ·intro i hi
  exact if_neg (by omega)
 ·intro i hi
  rw [lowW_lt hi,hb.cell (p:=⟨w0.heap.size,4+i,none⟩) hs]
  have:i=0∨i=1∨i=2∨i=3:=by omega
  rw [World.cell?_alloc_new]
  rcases this with rfl|rfl|rfl|rfl<;>rfl
 ·rw [val_congr (x:=lowW (W4 k) 4) (y:=W4 k) 4 (fun i hi=>lowW_lt hi),W4_val4 hk]
attribute [local irreducible] W4 Nt
end
section
attribute [local irreducible] W4
section
variable (f g:Int)(Ar Br:Nat)(c x c' x':Int)(s e s' e':Bool)(k k':Nat)(P P':Int)(E E':Int)(w:World)
 (c1:∀ W,CB 15 #[.int .i64 f,A4 Ar] W (.tuple #[DV c s e x k,.int .u64 P,.int .i64 E]))
 (c2:∀ W,CB 15 #[.int .i64 g,A4 Br] W (.tuple #[DV c' s' e' x' k',.int .u64 P',.int .i64 E']))
include c1 c2
variable (hE:(E != 0)=false)(hE':(E' != 0)=false)
include hE hE'
end
theorem mX_or (n:Int):mX n=2∨mX n=10:=by unfold mX;split;exact Or.inl rfl;exact Or.inr rfl
theorem mD_x (n:Int)(B:Nat):(-17000<=(mD n B).x/\(mD n B).x<=17000)/\(mX n=10->-10000<=(mD n B).x/\(mD n B).x<=10000):=by
 unfold mD mX
 by_cases h:binN n
 ·rw [if_pos h,if_pos h]
  refine ⟨?_,fun q=>absurd q (by decide)⟩
  by_cases hg:goodN n B
  ·have hl:-16990<=leastN n/\mostN n<=16990:=by rcases bin_cases h with rfl|rfl|rfl|rfl|rfl|rfl<;>decide
   rcases und_is hg with ⟨h1,h2,h3,h4,h5,h6⟩|⟨h1,h2,h3,h4⟩|⟨h1,h2,h3,h4⟩<;>omega
  ·have e:unD n B=⟨0,false,false,0,0⟩:=if_neg hg
   rw [e]
   decide
 ·rw [if_neg h,if_neg h]
  have hx:-10000<=(vUD n B).x/\(vUD n B).x<=10000:=by
   by_cases hg:goodD n B
   ·rw [show vUD n B=vM (fD n) B from if_pos hg]
    have hf:=fD_ok n
    obtain ⟨m0,m1,l0,l1,lm,j0,j1⟩:=ok_m hf
    rcases vM_is hf B with ⟨h1,h2,h3,h4,h5⟩|⟨h1,h2,h3,h4⟩|⟨h1,h2,h3⟩
    ·unfold DF.m at *;omega
    ·omega
    ·omega
   ·rw [show vUD n B=⟨0,false,false,0,0⟩ from if_neg hg]
    decide
  exact ⟨by omega,fun _=>hx⟩
end
theorem layof_ok (n:Int)(w:World)(hT:Tab w)(hd:decN n):CB 120 #[.int .i64 n] w (.tuple #[LF (fD n),.int .i64 0]):=by
 obtain ⟨hok,f1,f2,f3,f4,f5,f6,f7,f8⟩:=dec_fields hd
 have c1:=fun W hW=>ofv_any n W hW
 rw [show infoE n=0 from if_pos hok,f1,f2,f3,f4,f5,f6,f7,f8] at c1
 have h:=fD_ok n
 have hw:=h.w12
 generalize fD n=f at *
 have hG:((f.t+(f.w+6):Nat):Int)/16+9=((f.w+5:Nat):Int):=by rcases h with ⟨h1,h2,h3,h4⟩|⟨h1,h2,h3,h4⟩|⟨h1,h2,h3,h4⟩<;>rw [h1,h2]<;>rfl
 have cc:=fun W=>dten_v (3*f.j+1) W (by omega)
 have cp:=fun W=>dten_v (3*f.j) W (by omega)
 have e1:((3*f.j+1:Nat):Int)=3*(f.j:Int)+1:=by omega
 have e2:((3*f.j:Nat):Int)=3*(f.j:Int):=by omega
 have cw:=cp
 rw [e1] at cc
 rw [e2] at cp
 unfold LF
 cases e:f.dn
 ·rw [e] at c1
  have eB:vB f=0:=by unfold vB;rw [e,if_neg (by decide)]
  have eQ:vQ f=2^f.t:=by unfold vQ;rw [e,if_neg (by decide)]
  have cs:=fun W=>shl4 1 f.t W (by decide) (by omega)
  rw [Nat.one_mul] at cs
  rw [eB,eQ]
  exact dlay_p n _ n _ _ _ _ _ _ w hT _ _ _ _ (by omega) (by omega) hG (by omega) (by omega) (by omega) (by omega) (by omega) cc cp _ c1 (fun W=>of4 1 W (by decide)) cs
 ·rw [e] at c1
  have eB:vB f=f.w:=by unfold vB;rw [e,if_pos rfl]
  have eQ:vQ f=10^(3*f.j):=by unfold vQ;rw [e,if_pos rfl]
  rw [eB,eQ]
  rw [show ((3*f.j:Nat):Int)=3*(f.j:Int)+1-1 by omega] at cw
  exact dlay_d n _ n _ _ _ _ _ _ w hT _ _ _ _ (by omega) (by omega) hG (by omega) (by omega) (by omega) (by omega) (by omega) cc cp _ _ (by omega) (by omega) (by omega) c1 cw
theorem not_dec {n:Int}(h:¬ decN n):(okN n/\(baseN n != 10)=true)∨¬ okN n:=by
 by_cases hk:okN n
 ·left
  refine ⟨hk,?_⟩
  unfold decN at h
  rcases okN_cases hk with rfl|rfl|rfl|rfl|rfl|rfl|rfl|rfl|rfl|rfl|rfl|rfl<;>first|rfl|omega
 ·exact Or.inr hk
theorem layof_bad (n:Int)(w:World)(hT:Tab w)(hd:¬ decN n):CB 120 #[.int .i64 n] w (.tuple #[ZL,.int .i64 1]):=by
 have c1:=fun W hW=>ofv_any n W hW
 rcases not_dec hd with ⟨hk,hb⟩|hk
 ·rw [show infoE n=0 from if_pos hk] at c1
  exact dlay_b n _ _ _ _ _ _ _ _ _ _ w hT hb c1
 ·rw [show infoE n=1 from if_neg hk] at c1
  exact dlay_e n _ _ _ _ _ _ _ _ _ _ w hT 1 rfl c1
theorem fits_dec {n:Int}(B:Nat)(hd:decN n):(okN n/\B<2^(widthN n).toNat)↔goodD n B:=by
 have hF:=dec_fields hd
 rw [hF.2.2.2.1,Int.toNat_natCast]
 exact ⟨fun h=>⟨hd,h.2⟩,fun h=>⟨hF.1,h.2⟩⟩
theorem layfor_ok (n:Int)(B:Nat)(w:World)(hT:Tab w)(hB:B<2^256)(hg:goodD n B):CB 92 #[.int .i64 n,A4 B] w (.tuple #[LF (fD n),.int .i64 0]):=by
 have c1:=fun W hW=>fits4 n B hB W hW
 rw [decide_eq_true ((fits_dec B hg.1).2 hg)] at c1
 exact dfor_y n B w hT c1 _ _ _ _ _ _ _ _ _ (fun W hW=>layof_ok n W hW hg.1)
theorem layfor_bad (n:Int)(B:Nat)(w:World)(hT:Tab w)(hB:B<2^256)(hg:¬ goodD n B):CB 92 #[.int .i64 n,A4 B] w (.tuple #[ZL,.int .i64 1]):=by
 have c1:=fun W hW=>fits4 n B hB W hW
 by_cases hd:decN n
 ·rw [decide_eq_false (fun q=>hg ((fits_dec B hd).1 q))] at c1
  exact dfor_n n B w hT c1
 ·by_cases hf:okN n/\B<2^(widthN n).toNat
  ·rw [decide_eq_true hf] at c1
   exact dfor_b n B w hT c1 (fun W hW=>layof_bad n W hW hd)
  ·rw [decide_eq_false hf] at c1
   exact dfor_n n B w hT c1
theorem dunpk14 (n:Int)(B:Nat)(hB:B<2^256)(W:World)(hT:Tab W):CB 66 #[.int .i64 n,A4 B] W (.tuple #[(vUD n B).v,.bool (vUC n B),.int .i64 (vUE n B)]):=by
 by_cases hg:goodD n B
 ·obtain ⟨e1,e2,e3⟩:=vU_good hg
  rw [e1,e2,e3]
  have h:=fD_ok n
  have c3:=fun W=>fpack h (vM (fD n) B) W (vM_256 h B)
  rw [if_pos (vM_is h B),if_pos (vM_is h B)] at c3
  refine dunp_y n W hT _ _ _ _ _ _ _ _ _ B (fun W hW=>layfor_ok n B W hW hB hg) _ _ _ _ _ _ _ (fun W=>fmean h B W hB) c3 _ ?_
  exact eq_words (vP_256 h (vM_is h B)) hB
 ·obtain ⟨e1,e2,e3⟩:=vU_bad hg
  rw [e1,e2,e3,zero_v]
  exact dunp_n n W hT B (fun W hW=>layfor_bad n B W hW hB hg)
section
attribute [local irreducible] W4 Nz Nt NT
section
variable (t ba d:Int)(num wi pr ex le mo pa:Int)(nm:ByteArray)(de:Bool)(w:World)(hT:Tab w)
include hT
theorem stg_e (b0:Int)
  (c2:∀ W,Tab W->CB 81 #[.int .i64 t] W (.tuple #[.agg #[.int .i64 num,.string nm,.int .i64 b0,.int .i64 wi,.int .i64 pr,.int .i64 ex,.int .i64 le,.int .i64 mo,.int .i64 pa,.bool de],.int .i64 1])) :
  CB 67 #[.int .i64 t,.int .i64 ba,.int .i64 d] w (.tuple #[IZ,.int .i64 1]):=by
 have hsm:=cell_set_map
 go_enter Tryz.func67,Tryz.ntmps67
 go_wp2_with (go_at_call 81;refine (c2 _ (hT.go bgo)).mono ?_;rintro r w1 ⟨rfl,hb1⟩;obtain ⟨_,_,_,_,hA1,_⟩:=wz w hb1;clear hb1)
 exact bodyPost_ret (v:=.tuple #[IZ,.int .i64 1]) (by simp only [results,Tryz.results67];go_simp) rfl ⟨rfl,bgo⟩
theorem stg_b (b0:Int)(hba:(b0 != ba)=true)
  (c2:∀ W,Tab W->CB 81 #[.int .i64 t] W (.tuple #[.agg #[.int .i64 num,.string nm,.int .i64 b0,.int .i64 wi,.int .i64 pr,.int .i64 ex,.int .i64 le,.int .i64 mo,.int .i64 pa,.bool de],.int .i64 0])) :
  CB 67 #[.int .i64 t,.int .i64 ba,.int .i64 d] w (.tuple #[IZ,.int .i64 1]):=by
 have hsm:=cell_set_map
 go_enter Tryz.func67,Tryz.ntmps67
 go_wp2_with (go_at_call 81;refine (c2 _ (hT.go bgo)).mono ?_;rintro r w1 ⟨rfl,hb1⟩;obtain ⟨_,_,_,_,hA1,_⟩:=wz w hb1;clear hb1)
 exact bodyPost_ret (v:=.tuple #[IZ,.int .i64 1]) (by simp only [results,Tryz.results67];go_simp) rfl ⟨rfl,bgo⟩
variable (c2:∀ W,Tab W->CB 81 #[.int .i64 t] W (.tuple #[.agg #[.int .i64 num,.string nm,.int .i64 ba,.int .i64 wi,.int .i64 pr,.int .i64 ex,.int .i64 le,.int .i64 mo,.int .i64 pa,.bool de],.int .i64 0]))
include c2
theorem stg_k (c3:∀ W,CQ 95 #[.int .i64 d] W (.bool false)) :
  CB 67 #[.int .i64 t,.int .i64 ba,.int .i64 d] w (.tuple #[IZ,.int .i64 1]):=by
 have hsm:=cell_set_map
 have hbb:(ba != ba)=false:=bne_self_eq_false ba
 go_enter Tryz.func67,Tryz.ntmps67
 go_wp2_with (first
  | (go_at_call 81;refine (c2 _ (hT.go bgo)).mono ?_;rintro r w1 ⟨rfl,hb1⟩;obtain ⟨_,_,_,_,hA1,_⟩:=wz w hb1;clear hb1)
  | (go_at_call 95;refine (c3 _).mono ?_;rintro r w2 ⟨rfl,rfl⟩))
 exact bodyPost_ret (v:=.tuple #[IZ,.int .i64 1]) (by simp only [results,Tryz.results67];go_simp) rfl ⟨rfl,bgo⟩
theorem stg_y (c3:∀ W,CQ 95 #[.int .i64 d] W (.bool true)) :
  CB 67 #[.int .i64 t,.int .i64 ba,.int .i64 d] w (.tuple #[.agg #[.int .i64 num,.string nm,.int .i64 ba,.int .i64 wi,.int .i64 pr,.int .i64 ex,.int .i64 le,.int .i64 mo,.int .i64 pa,.bool de],.int .i64 0]):=by
 have hsm:=cell_set_map
 have hbb:(ba != ba)=false:=bne_self_eq_false ba
 go_enter Tryz.func67,Tryz.ntmps67
 go_wp2_with (first
  | (go_at_call 81;refine (c2 _ (hT.go bgo)).mono ?_;rintro r w1 ⟨rfl,hb1⟩;obtain ⟨_,_,_,_,hA1,_⟩:=wz w hb1;clear hb1)
  | (go_at_call 95;refine (c3 _).mono ?_;rintro r w2 ⟨rfl,rfl⟩))
 exact bodyPost_ret (v:=.tuple #[.agg #[.int .i64 num,.string nm,.int .i64 ba,.int .i64 wi,.int .i64 pr,.int .i64 ex,.int .i64 le,.int .i64 mo,.int .i64 pa,.bool de],.int .i64 0]) (by simp only [results,Tryz.results67];go_simp) rfl ⟨rfl,bgo⟩
end
abbrev InfV (t:Int):Value:=.agg #[.int .i64 (numN t),.string (nameN t),.int .i64 (baseN t),.int .i64 (widthN t),.int .i64 (precN t),.int .i64 (expN t),.int .i64 (leastN t),.int .i64 (mostN t),.int .i64 (payN t),.bool (denseN t)]
theorem starg_y {t ba d:Int}(w:World)(hT:Tab w)(h1:okN t)(h2:baseN t=ba)(h3:knB d) :
  CB 67 #[.int .i64 t,.int .i64 ba,.int .i64 d] w (.tuple #[InfV t,.int .i64 0]):=by
 have c2:=fun W h=>ofv_any t W h
 have c3:=fun W=>known_any d W
 rw [decide_eq_true h3] at c3
 rw [show infoE t=0 from if_pos h1,h2] at c2
 unfold InfV
 rw [h2]
 exact stg_y t ba d _ _ _ _ _ _ _ _ _ w hT c2 c3
theorem starg_n {t ba d:Int}(w:World)(hT:Tab w)(h:¬ (okN t/\baseN t=ba/\knB d)) :
  CB 67 #[.int .i64 t,.int .i64 ba,.int .i64 d] w (.tuple #[IZ,.int .i64 1]):=by
 have c2:=fun W h=>ofv_any t W h
 have c3:=fun W=>known_any d W
 by_cases h1:okN t
 ·rw [show infoE t=0 from if_pos h1] at c2
  by_cases h2:baseN t=ba
  ·rw [h2] at c2
   by_cases h3:knB d
   ·exact absurd ⟨h1,h2,h3⟩ h
   ·rw [decide_eq_false h3] at c3
    exact stg_k t ba d _ _ _ _ _ _ _ _ _ w hT c2 c3
  ·exact stg_b t ba d _ _ _ _ _ _ _ _ _ w hT _ (by rw [bne_iff_ne];exact h2) c2
 ·rw [show infoE t=1 from if_neg h1] at c2
  exact stg_e t ba d _ _ _ _ _ _ _ _ _ w hT _ c2
section
variable (num ba wi pr ex le mo pa c x:Int)(nm:ByteArray)(de s g:Bool)(k Q:Nat)(hk:k<2^256)(w:World)(cm:Int)
 (c61:∀ W,Calls Tryz.prog 96 #[.int .i64 ba,.int .i64 pa] W fun r w'=>∃ v,r=.returned (.tuple #[v,.int .i64 0])/\Nt 2001 Q v w'/\Below W.heap.size W w')
 (c64:∀ W v u,Nt 4 k v W->Nt 2001 Q u W->CB 73 #[v,u] W (.int .i64 cm))
include hk c61 c64
theorem scnv_l (h:cm<0) :
  CB 69 #[.agg #[.int .i64 num,.string nm,.int .i64 ba,.int .i64 wi,.int .i64 pr,.int .i64 ex,.int .i64 le,.int .i64 mo,.int .i64 pa,.bool de],DV c s g x k] w (.tuple #[DV c s false x k,.int .i64 (if g then 1 else 0)]):=by
 have hbx:=fun W hW=>dat_box (w0:=w.alloc (.cells #[.int .i64 num,.string nm,.int .i64 ba,.int .i64 wi,.int .i64 pr,.int .i64 ex,.int .i64 le,.int .i64 mo,.int .i64 pa,.bool de] 95)) (w:=W) (c:=c) (s:=s) (g:=g) (x:=x) (t:=34) hk hW
 have h':¬ 0<=cm:=by omega
 have h'':decide (0<=cm)=false:=decide_eq_false h'
 have hsm:=cell_set_map
 cases g
 all_goals (
  go_enter Tryz.func69,Tryz.ntmps69
  go_wp2_with (first
   | (go_at_call 96;refine (c61 _).mono ?_;rintro r w1 ⟨v1,rfl,hv1,hb1⟩;have hv0:=hbx _ (bnx (below1 _ _) hb1);obtain ⟨_,_,_,_,hA1,_⟩:=wz w hb1;obtain ⟨_,_⟩:=zf hb1 (w.heap.size+1);obtain ⟨_,_⟩:=zf hb1 (w.heap.size+1+1);clear hb1)
   | (go_at_call 73;refine (c64 _ _ _ (by simpa using hv0) hv1).mono ?_;rintro r w2 ⟨rfl,hb2⟩;obtain ⟨_,_,_,_,hA2,_⟩:=wz w hb2;obtain ⟨_,_⟩:=zf hb2 (w.heap.size+1);obtain ⟨_,_⟩:=zf hb2 (w.heap.size+1+1);clear hb2))
  exact bodyPost_ret (by simp only [results,Tryz.results69];go_simp) rfl ⟨rfl,bgo⟩)
theorem scnv_g (h:0<=cm) :
  CB 69 #[.agg #[.int .i64 num,.string nm,.int .i64 ba,.int .i64 wi,.int .i64 pr,.int .i64 ex,.int .i64 le,.int .i64 mo,.int .i64 pa,.bool de],DV c s g x k] w (.tuple #[DV c s false x 0,.int .i64 (if g then 1 else 0)]):=by
 have hbx:=fun W hW=>dat_box (w0:=w.alloc (.cells #[.int .i64 num,.string nm,.int .i64 ba,.int .i64 wi,.int .i64 pr,.int .i64 ex,.int .i64 le,.int .i64 mo,.int .i64 pa,.bool de] 95)) (w:=W) (c:=c) (s:=s) (g:=g) (x:=x) (t:=34) hk hW
 have h'':decide (0<=cm)=true:=decide_eq_true h
 have hz:DV c s false x 0=.agg #[.int .i64 c,.bool s,.bool false,.int .i64 x,.int .u64 0,.int .u64 0,.int .u64 0,.int .u64 0]:=by unfold DV;simp only [W4_zero]
 rw [hz]
 clear hz
 have hsm:=cell_set_map
 cases g
 all_goals (
  go_enter Tryz.func69,Tryz.ntmps69
  go_wp2_with (first
   | (go_at_call 96;refine (c61 _).mono ?_;rintro r w1 ⟨v1,rfl,hv1,hb1⟩;have hv0:=hbx _ (bnx (below1 _ _) hb1);obtain ⟨_,_,_,_,hA1,_⟩:=wz w hb1;obtain ⟨_,_⟩:=zf hb1 (w.heap.size+1);obtain ⟨_,_⟩:=zf hb1 (w.heap.size+1+1);clear hb1)
   | (go_at_call 73;refine (c64 _ _ _ (by simpa using hv0) hv1).mono ?_;rintro r w2 ⟨rfl,hb2⟩;obtain ⟨_,_,_,_,hA2,_⟩:=wz w hb2;obtain ⟨_,_⟩:=zf hb2 (w.heap.size+1);obtain ⟨_,_⟩:=zf hb2 (w.heap.size+1+1);clear hb2))
  exact bodyPost_ret (by simp only [results,Tryz.results69];go_simp) rfl ⟨rfl,bgo⟩)
end
theorem sconv_v (t:Int)(Q:Nat)(hQ:∀ W,Calls Tryz.prog 96 #[.int .i64 (baseN t),.int .i64 (payN t)] W fun r w'=>∃ v,r=.returned (.tuple #[v,.int .i64 0])/\Nt 2001 Q v w'/\Below W.heap.size W w')(c x:Int)(s g:Bool){k:Nat}(hk:k<2^256)(w:World) :
  CB 69 #[InfV t,DV c s g x k] w (.tuple #[DV c s false x (if k<Q then k else 0),.int .i64 (if g then 1 else 0)]):=by
 have c64:∀ W v u,Nt 4 k v W->Nt 2001 Q u W->CB 73 #[v,u] W (.int .i64 (sgn (k:Int) (Q:Int))):=fun W v u h1 h2=>ncmp_v (by decide) (by decide) h1 h2
 by_cases h:k<Q
 ·rw [if_pos h]
  refine scnv_l _ _ _ _ _ _ _ _ c x _ _ s g k Q hk w _ hQ c64 ?_
  rcases sgn_ways (k:Int) (Q:Int) with ⟨x,e⟩|⟨x,e⟩|⟨x,e⟩<;>omega
 ·rw [if_neg h]
  refine scnv_g _ _ _ _ _ _ _ _ c x _ _ s g k Q hk w _ hQ c64 ?_
  rcases sgn_ways (k:Int) (Q:Int) with ⟨x,e⟩|⟨x,e⟩|⟨x,e⟩<;>omega
theorem bin_bound {t:Int}(hb:binN t)(W:World):Calls Tryz.prog 96 #[.int .i64 (baseN t),.int .i64 (payN t)] W fun r w'=>∃ v,r=.returned (.tuple #[v,.int .i64 0])/\Nt 2001 (2^(fN t-1)) v w'/\Below W.heap.size W w':=by
 obtain ⟨f1,f2,f3,f4,f5,f6⟩:=bin_fields hb
 have h2:=fN_two hb
 have h240:=(bin_fm hb).f240
 rw [f2,f6,show (fN t:Int)-1=((fN t-1:Nat):Int) by omega]
 exact npow2z (fN t-1) W (by omega)
end
section
theorem nine_cases {i:Nat}(h:i<9):i=0∨i=1∨i=2∨i=3∨i=4∨i=5∨i=6∨i=7∨i=8:=by omega
attribute [local irreducible] W4 Nt Nz NT
section
variable (n:Int)(B:Nat)(c x:Int)(s g:Bool)(k:Nat)(E b num wi pr ex le mo pa:Int)(nm:ByteArray)(de:Bool)(w:World)(hT:Tab w)
include hT
theorem unp_e
  (c1:∀ W,Tab W->CB 81 #[.int .i64 n] W (.tuple #[.agg #[.int .i64 num,.string nm,.int .i64 b,.int .i64 wi,.int .i64 pr,.int .i64 ex,.int .i64 le,.int .i64 mo,.int .i64 pa,.bool de],.int .i64 1])) :
  CB 40 #[.int .i64 n,A4 B] w (.tuple #[OV 0 false false 0 0 0,.int .i64 1]):=by
 have hsm:=cell_set_map
 have z0:W4 0 0=0/\W4 0 1=0/\W4 0 2=0/\W4 0 3=0:=by unfold W4;decide
 obtain ⟨z0,z1,z2,z3⟩:=z0
 unfold OV
 rw [z0,z1,z2,z3]
 go_enter Tryz.func40,Tryz.ntmps40
 go_wp2_with (go_at_call 81;refine (c1 _ (hT.go bgo)).mono ?_;rintro r w1 ⟨rfl,hb1⟩;obtain ⟨_,_,_,_,hA1,_⟩:=wz w hb1;obtain ⟨_,_⟩:=zf hb1 (w.heap.size+1);clear hb1)
 exact bodyPost_ret (by simp only [results,Tryz.results40];go_simp) rfl ⟨rfl,bgo⟩
variable (c1:∀ W,Tab W->CB 81 #[.int .i64 n] W (.tuple #[.agg #[.int .i64 num,.string nm,.int .i64 b,.int .i64 wi,.int .i64 pr,.int .i64 ex,.int .i64 le,.int .i64 mo,.int .i64 pa,.bool de],.int .i64 0]))
include c1
theorem unp_b (hb:b=2)
  (c2:∀ W,Tab W->CB 82 #[.int .i64 n,A4 B] W (.tuple #[DV c s g x k,.int .i64 E])) :
  CB 40 #[.int .i64 n,A4 B] w (.tuple #[OV c s g x k 2,.int .i64 E]):=by
 have hsm:=cell_set_map
 subst hb
 unfold OV
 go_enter Tryz.func40,Tryz.ntmps40
 go_wp2_with (first
  | (go_at_call 81;refine (c1 _ (hT.go bgo)).mono ?_;rintro r w1 ⟨rfl,hb1⟩;obtain ⟨_,_,_,_,hA1,_⟩:=wz w hb1;obtain ⟨_,_⟩:=zf hb1 (w.heap.size+1);clear hb1)
  | (go_at_call 82;refine (c2 _ (hT.go bgo)).mono ?_;rintro r w2 ⟨rfl,hb2⟩;obtain ⟨_,_,_,_,hA2,_⟩:=wz w hb2;obtain ⟨_,_⟩:=zf hb2 (w.heap.size+1);obtain ⟨_,_⟩:=zf hb2 w1.heap.size;obtain ⟨_,_⟩:=zf hb2 (w1.heap.size+1);clear hb2))
 exact bodyPost_ret (by simp only [results,Tryz.results40];go_simp) rfl ⟨rfl,bgo⟩
theorem unp_d (hb:b=10)(ok:Bool)
  (c2:∀ W,Tab W->CB 66 #[.int .i64 n,A4 B] W (.tuple #[DV c s g x k,.bool ok,.int .i64 E])) :
  CB 40 #[.int .i64 n,A4 B] w (.tuple #[OV c s g x k 10,.int .i64 E]):=by
 have hsm:=cell_set_map
 subst hb
 unfold OV
 go_enter Tryz.func40,Tryz.ntmps40
 go_wp2_with (first
  | (go_at_call 81;refine (c1 _ (hT.go bgo)).mono ?_;rintro r w1 ⟨rfl,hb1⟩;obtain ⟨_,_,_,_,hA1,_⟩:=wz w hb1;obtain ⟨_,_⟩:=zf hb1 (w.heap.size+1);clear hb1)
  | (go_at_call 66;refine (c2 _ (hT.go bgo)).mono ?_;rintro r w2 ⟨rfl,hb2⟩;obtain ⟨_,_,_,_,hA2,_⟩:=wz w hb2;obtain ⟨_,_⟩:=zf hb2 (w.heap.size+1);obtain ⟨_,_⟩:=zf hb2 w1.heap.size;obtain ⟨_,_⟩:=zf hb2 (w1.heap.size+1);clear hb2))
 exact bodyPost_ret (by simp only [results,Tryz.results40];go_simp) rfl ⟨rfl,bgo⟩
end
theorem unp_v (n:Int)(B:Nat)(w:World)(hT:Tab w)(hB:B<2^256):∃ c s g x k b,(mE n B=0->OV c s g x k b=OV (mD n B).c (mD n B).s (mD n B).g (mD n B).x (mD n B).k ((mX n:Nat):Int)) /\
  ∀ W,Tab W->CB 40 #[.int .i64 n,A4 B] W (.tuple #[OV c s g x k b,.int .i64 (mE n B)]):=by
 by_cases ho:okN n
 ·have c1:=fun W hW=>ofv_any n W hW
  rw [show infoE n=0 from if_pos ho] at c1
  by_cases hb:binN n
  ·have e1:mE n B=unE n B:=if_pos hb
   have e2:mD n B=unD n B:=if_pos hb
   have e3:mX n=2:=if_pos hb
   rw [e1,e2,e3]
   exact ⟨_,_,_,_,_,_,fun _=>rfl,fun W hW=>unp_b n B _ _ _ _ _ _ _ _ _ _ _ _ _ _ _ _ W hW c1 (bin_fields hb).2.1 (fun W' h=>unpack_any n B W' h hB)⟩
  ·have e1:mE n B=vUE n B:=if_neg hb
   have e2:mD n B=vUD n B:=if_neg hb
   have e3:mX n=10:=if_neg hb
   have h10:baseN n=10:=(not_bin hb).elim (fun h=>h.2) (fun h=>absurd ho h)
   rw [e1,e2,e3]
   exact ⟨_,_,_,_,_,_,fun _=>rfl,fun W hW=>unp_d n B _ _ _ _ _ _ _ _ _ _ _ _ _ _ _ _ W hW c1 h10 _ (fun W' h=>dunpk14 n B hB W' h)⟩
 ·have c1:=fun W hW=>ofv_any n W hW
  rw [show infoE n=1 from if_neg ho] at c1
  have hb:¬ binN n:=fun h=>ho (by unfold binN at h;unfold okN;omega)
  have hd:¬ goodD n B:=fun h=>ho (dec_fields h.1).1
  have e1:mE n B=1:=(if_neg hb).trans (if_neg hd)
  rw [e1]
  exact ⟨_,_,_,_,_,_,fun h=>absurd h (by decide),fun W hW=>unp_e n B _ _ _ _ _ _ _ _ _ _ W hW c1⟩
section
variable (f n:Int)(A B:Nat)(c x b:Int)(s g:Bool)(k:Nat)(c' x' b':Int)(s' g':Bool)(k':Nat)(E E':Int)(w:World)(hT:Tab w)
 (c1:∀ W,Tab W->CB 40 #[.int .i64 f,A4 A] W (.tuple #[OV c s g x k b,.int .i64 E]))
include hT c1
theorem both_e (hE:(E==0)=false) :
  CB 30 #[.int .i64 f,A4 A,.int .i64 n,A4 B] w (.tuple #[OV c s g x k b,OV 0 false false 0 0 0,.int .i64 E]):=by
 have hsm:=cell_set_map
 have z0:W4 0 0=0/\W4 0 1=0/\W4 0 2=0/\W4 0 3=0:=by unfold W4;decide
 obtain ⟨z0,z1,z2,z3⟩:=z0
 have hcs:OCs 0 false false 0 0 0=#[.int .i64 0,.bool false,.bool false,.int .i64 0,.int .u64 0,.int .u64 0,.int .u64 0,.int .u64 0,.int .i64 0]:=by unfold OCs;rw [z0,z1,z2,z3]
 go_enter Tryz.func30,Tryz.ntmps30
 go_wp2_with (go_at_call 40;refine (c1 _ (hT.go bgo)).mono ?_;rintro r w1 ⟨rfl,hb1⟩;obtain ⟨_,_,_,_,hA1,_⟩:=wz w hb1;obtain ⟨_,_⟩:=zf hb1 (w.heap.size+1);obtain ⟨_,_⟩:=zf hb1 (w.heap.size+1+1);obtain ⟨_,_⟩:=zf hb1 (w.heap.size+1+1+1);clear hb1)
 refine regBo (b:=w.heap.size) (w0:=w) (h:=w.heap.size+1+1) (j:=w.heap.size+1+1+1) (c:=c) (s:=s) (g:=g) (x:=x) (k:=k) (e:=b) (c':=0) (s':=false) (g':=false) (x':=0) (k':=0) (e':=0) (E:=E) rfl rfl rfl rfl bgo (by omega) (by omega) (by omega) ⟨by first|omega|(simp;omega)|simp,rfl,fun i hi=>?_,fun i=>by go_simp⟩ ⟨by first|omega|(simp;omega)|simp,rfl,fun i hi=>?_,fun i=>by go_simp⟩ ?_
 ·rcases nine_cases hi with rfl|rfl|rfl|rfl|rfl|rfl|rfl|rfl|rfl<;>go_simp
 ·rw [hcs]
  rcases nine_cases hi with rfl|rfl|rfl|rfl|rfl|rfl|rfl|rfl|rfl<;>go_simp
 intro a' w4 hbe h8 h9 h10 hsz hdf hF2
 have ha:=act_of [25,26,27,0,1,10] 6 rfl hsz hdf hF2
 rw [ha]
 simp only [List.foldl_cons,List.foldl_nil,Act.put,List.setIfInBounds_toArray,List.set_cons_succ,List.set_cons_zero,h10]
 generalize slot a' 25=s25
 generalize slot a' 26=s26
 generalize slot a' 27=s27
 generalize slot a' 0=s0
 generalize slot a' 1=s1
 clear ha h10 hsz hdf hF2
 obtain ⟨l8,_,k8,_⟩:=h8
 obtain ⟨l9,_,k9,_⟩:=h9
 have p0:w4.cell? ⟨w.heap.size+1+1,0,none⟩=some (.int .i64 c):=k8 0 (by decide)
 have p1:w4.cell? ⟨w.heap.size+1+1,1,none⟩=some (.bool s):=k8 1 (by decide)
 have p2:w4.cell? ⟨w.heap.size+1+1,2,none⟩=some (.bool g):=k8 2 (by decide)
 have p3:w4.cell? ⟨w.heap.size+1+1,3,none⟩=some (.int .i64 x):=k8 3 (by decide)
 have p4:w4.cell? ⟨w.heap.size+1+1,4,none⟩=some (.int .u64 (W4 k 0)):=k8 4 (by decide)
 have p5:w4.cell? ⟨w.heap.size+1+1,5,none⟩=some (.int .u64 (W4 k 1)):=k8 5 (by decide)
 have p6:w4.cell? ⟨w.heap.size+1+1,6,none⟩=some (.int .u64 (W4 k 2)):=k8 6 (by decide)
 have p7:w4.cell? ⟨w.heap.size+1+1,7,none⟩=some (.int .u64 (W4 k 3)):=k8 7 (by decide)
 have p8:w4.cell? ⟨w.heap.size+1+1,8,none⟩=some (.int .i64 b):=k8 8 (by decide)
 have q0:w4.cell? ⟨w.heap.size+1+1+1,0,none⟩=some (.int .i64 0):=k9 0 (by decide)
 have q1:w4.cell? ⟨w.heap.size+1+1+1,1,none⟩=some (.bool false):=k9 1 (by decide)
 have q2:w4.cell? ⟨w.heap.size+1+1+1,2,none⟩=some (.bool false):=k9 2 (by decide)
 have q3:w4.cell? ⟨w.heap.size+1+1+1,3,none⟩=some (.int .i64 0):=k9 3 (by decide)
 have q4:w4.cell? ⟨w.heap.size+1+1+1,4,none⟩=some (.int .u64 (W4 0 0)):=k9 4 (by decide)
 have q5:w4.cell? ⟨w.heap.size+1+1+1,5,none⟩=some (.int .u64 (W4 0 1)):=k9 5 (by decide)
 have q6:w4.cell? ⟨w.heap.size+1+1+1,6,none⟩=some (.int .u64 (W4 0 2)):=k9 6 (by decide)
 have q7:w4.cell? ⟨w.heap.size+1+1+1,7,none⟩=some (.int .u64 (W4 0 3)):=k9 7 (by decide)
 have q8:w4.cell? ⟨w.heap.size+1+1+1,8,none⟩=some (.int .i64 0):=k9 8 (by decide)
 clear k8 k9
 go_wp2
 exact bodyPost_ret (by simp only [results,Tryz.results30];go_simp) rfl ⟨rfl,bgo⟩
variable (c2:∀ W,Tab W->CB 40 #[.int .i64 n,A4 B] W (.tuple #[OV c' s' g' x' k' b',.int .i64 E']))
include c2
theorem both_k (hE:E=0) :
  CB 30 #[.int .i64 f,A4 A,.int .i64 n,A4 B] w (.tuple #[OV c s g x k b,OV c' s' g' x' k' b',.int .i64 E']):=by
 subst hE
 have hsm:=cell_set_map
 go_enter Tryz.func30,Tryz.ntmps30
 go_wp2_with (first
  | (have:=hA1;go_at_call 40;refine (c2 _ (hT.go bgo)).mono ?_;rintro r w2 ⟨rfl,hb2⟩;obtain ⟨_,_,_,_,hA2,_⟩:=wz w hb2;obtain ⟨_,_⟩:=zf hb2 (w.heap.size+1);obtain ⟨_,_⟩:=zf hb2 (w.heap.size+1+1);obtain ⟨_,_⟩:=zf hb2 (w.heap.size+1+1+1);clear hb2)
  | (go_at_call 40;refine (c1 _ (hT.go bgo)).mono ?_;rintro r w1 ⟨rfl,hb1⟩;obtain ⟨_,_,_,_,hA1,_⟩:=wz w hb1;obtain ⟨_,_⟩:=zf hb1 (w.heap.size+1);obtain ⟨_,_⟩:=zf hb1 (w.heap.size+1+1);obtain ⟨_,_⟩:=zf hb1 (w.heap.size+1+1+1);clear hb1))
 refine regBo (b:=w.heap.size) (w0:=w) (h:=w.heap.size+1+1) (j:=w.heap.size+1+1+1) (c:=c) (s:=s) (g:=g) (x:=x) (k:=k) (e:=b) (c':=c') (s':=s') (g':=g') (x':=x') (k':=k') (e':=b') (E:=E') rfl rfl rfl rfl bgo (by omega) (by omega) (by omega) ⟨by first|omega|(simp;omega)|simp,rfl,fun i hi=>?_,fun i=>by go_simp⟩ ⟨by first|omega|(simp;omega)|simp,rfl,fun i hi=>?_,fun i=>by go_simp⟩ ?_
 ·rcases nine_cases hi with rfl|rfl|rfl|rfl|rfl|rfl|rfl|rfl|rfl<;>go_simp
 ·rcases nine_cases hi with rfl|rfl|rfl|rfl|rfl|rfl|rfl|rfl|rfl<;>go_simp
 intro a' w4 hbe h8 h9 h10 hsz hdf hF2
 have ha:=act_of [25,26,27,0,1,10] 6 rfl hsz hdf hF2
 rw [ha]
 simp only [List.foldl_cons,List.foldl_nil,Act.put,List.setIfInBounds_toArray,List.set_cons_succ,List.set_cons_zero,h10]
 generalize slot a' 25=s25
 generalize slot a' 26=s26
 generalize slot a' 27=s27
 generalize slot a' 0=s0
 generalize slot a' 1=s1
 clear ha h10 hsz hdf hF2
 obtain ⟨l8,_,k8,_⟩:=h8
 obtain ⟨l9,_,k9,_⟩:=h9
 have p0:w4.cell? ⟨w.heap.size+1+1,0,none⟩=some (.int .i64 c):=k8 0 (by decide)
 have p1:w4.cell? ⟨w.heap.size+1+1,1,none⟩=some (.bool s):=k8 1 (by decide)
 have p2:w4.cell? ⟨w.heap.size+1+1,2,none⟩=some (.bool g):=k8 2 (by decide)
 have p3:w4.cell? ⟨w.heap.size+1+1,3,none⟩=some (.int .i64 x):=k8 3 (by decide)
 have p4:w4.cell? ⟨w.heap.size+1+1,4,none⟩=some (.int .u64 (W4 k 0)):=k8 4 (by decide)
 have p5:w4.cell? ⟨w.heap.size+1+1,5,none⟩=some (.int .u64 (W4 k 1)):=k8 5 (by decide)
 have p6:w4.cell? ⟨w.heap.size+1+1,6,none⟩=some (.int .u64 (W4 k 2)):=k8 6 (by decide)
 have p7:w4.cell? ⟨w.heap.size+1+1,7,none⟩=some (.int .u64 (W4 k 3)):=k8 7 (by decide)
 have p8:w4.cell? ⟨w.heap.size+1+1,8,none⟩=some (.int .i64 b):=k8 8 (by decide)
 have q0:w4.cell? ⟨w.heap.size+1+1+1,0,none⟩=some (.int .i64 c'):=k9 0 (by decide)
 have q1:w4.cell? ⟨w.heap.size+1+1+1,1,none⟩=some (.bool s'):=k9 1 (by decide)
 have q2:w4.cell? ⟨w.heap.size+1+1+1,2,none⟩=some (.bool g'):=k9 2 (by decide)
 have q3:w4.cell? ⟨w.heap.size+1+1+1,3,none⟩=some (.int .i64 x'):=k9 3 (by decide)
 have q4:w4.cell? ⟨w.heap.size+1+1+1,4,none⟩=some (.int .u64 (W4 k' 0)):=k9 4 (by decide)
 have q5:w4.cell? ⟨w.heap.size+1+1+1,5,none⟩=some (.int .u64 (W4 k' 1)):=k9 5 (by decide)
 have q6:w4.cell? ⟨w.heap.size+1+1+1,6,none⟩=some (.int .u64 (W4 k' 2)):=k9 6 (by decide)
 have q7:w4.cell? ⟨w.heap.size+1+1+1,7,none⟩=some (.int .u64 (W4 k' 3)):=k9 7 (by decide)
 have q8:w4.cell? ⟨w.heap.size+1+1+1,8,none⟩=some (.int .i64 b'):=k9 8 (by decide)
 clear k8 k9
 go_wp2
 exact bodyPost_ret (by simp only [results,Tryz.results30];go_simp) rfl ⟨rfl,bgo⟩
end
end
section
abbrev zd:Array Value:=#[.int .i64 0,.bool false,.bool false,.int .i64 0,.int .u64 0,.int .u64 0,.int .u64 0,.int .u64 0]
theorem below_cellsD {n b:Nat}{a:World}(hb:n<=b):∀ (vs:List Value) (o:Nat) (W:World),Below n a W->Below n a (W.setCells b o vs)
 | [],_,_,h=>h
 | v::r,o,W,h=>below_cellsD hb r (o+1) _ (h.setCell hb v)
def D8 (g:Nat)(cs:Array Value)(w:World):Prop:=g<w.heap.size/\cs.size=8/\(∀ i,i<8->w.cell? ⟨g,i,none⟩=cs[i]?)/\∀ i,w.frozen? ⟨g,i,none⟩=false
theorem D8.next {g:Nat}{cs:Array Value}{w w':World}(h:D8 g cs w)(hb:Below w.heap.size w w'):D8 g cs w' :=
 ⟨Nat.lt_of_lt_of_le h.1 hb.size,h.2.1,fun i hi=>(hb.cell (p:=⟨g,i,none⟩) h.1).trans (h.2.2.1 i hi),fun i=>(hb.frozen (p:=⟨g,i,none⟩) h.1).trans (h.2.2.2 i)⟩
theorem D8.new (w:World):D8 w.heap.size zd (w.alloc (.cells zd 34)):=by
 refine ⟨by simp,rfl,fun i hi=>?_,fun i=>?_⟩
 ·rw [World.cell?_alloc_new]
 ·simp [go_sem]
theorem D8.put {g:Nat}{cs cs':Array Value}{w:World}(h:D8 g cs w)(hs:cs'.size=8):D8 g cs' (w.setCells g 0 cs'.toList):=by
 have hin:=World.cell?_setCells_in g cs'.toList 0 w (fun j hj=>by
  rw [Nat.zero_add,h.2.2.1 j (by simpa [hs] using hj),Array.getElem?_eq_getElem (by rw [h.2.1];simpa [hs] using hj)];rfl)
 refine ⟨Nat.lt_of_lt_of_le h.1 (below_cellsD (n:=0) (Nat.zero_le _) _ _ _ (Below.refl 0 w)).size,hs,fun i hi=>?_,fun i=>?_⟩
 ·have:=hin i (by simpa [hs] using hi)
  rw [Nat.zero_add] at this
  rw [this,Array.getElem?_eq_getElem (by rw [hs];exact hi)]
  simp
 ·rw [World.frozen?_setCells];exact h.2.2.2 i
attribute [local irreducible] W4 Nt NT
section
variable {a:Act}{w:World}{K:Act->World->Prop}{Q:Exit->Act->World->Prop}{d p q:Nat}{ty:TypeId}{pos:String}{after:Array Edge}{gd:Option (Nat×Bool)}
end
def M7 (ws:World)(cv:Array Value)(L:Nat->Prop)(f:Nat->Value)(w:World):Prop :=
 Below ws.heap.size ws w/\(L 6->L 10∨Nt 1 1 (f 61) w)/\(L 15->∃ g cs,f 14=.pointer (some ⟨g,0,none⟩)/\ws.heap.size<=g/\D8 g cs w/\(L 16->cs=cv))
theorem M7.step {ws w:World}{cv:Array Value}{k t:Nat}{L:Nat->Prop}{f:Nat->Value}{v:Value}(h:M7 ws cv L f w)(h1:t≠61)(h2:t≠14)(h3:k≠6)(h4:k≠15)(h5:k≠16)(h6:k≠10):M7 ws cv (fun j=>L j∨j=k) (fun u=>if some t=some u then v else f u) w:=by
 obtain ⟨a1,a2,a3⟩:=h
 have e61:(if some t=some 61 then v else f 61)=f 61:=if_neg (fun e=>h1 (Option.some.inj e))
 have e14:(if some t=some 14 then v else f 14)=f 14:=if_neg (fun e=>h2 (Option.some.inj e))
 refine ⟨a1,fun h=>?_,fun h=>?_⟩
 ·rcases a2 (h.resolve_right (fun e=>h3 e.symm)) with q|q
  ·exact Or.inl (Or.inl q)
  ·right;show Nt 1 1 (if some t=some 61 then v else f 61) w;rw [e61];exact q
 ·obtain ⟨g,cs,b1,b2,b3,b4⟩:=a3 (h.resolve_right (fun e=>h4 e.symm))
  exact ⟨g,cs,e14.trans b1,b2,b3,fun h=>b4 (h.resolve_right (fun e=>h5 e.symm))⟩
end
section
attribute [local irreducible] W4 Nt NT NV
section
variable {a:Act}{w:World}{K:Act->World->Prop}{Q:Exit->Act->World->Prop}{d p q:Nat}{ty:TypeId}{pos:String}{after:Array Edge}{gd:Option (Nat×Bool)}
theorem og_dec {x:Int}(hx:-1000000<=x/\x<=1000000)(h1:slot a p=.int .i64 x)(hK:K (a.put (some d) (.int .i64 (x-1))) w):Oper.wp Tryz.prog { dst:=some d,op:=Op.binOp BinOp.sub 3 (Operand.tmp p) (Operand.const (.int .i64 1)) 3,type:=ty,pos:=pos,after:=after,guard:=gd } a w K Q:=by
 unfold slot at h1
 have e:IntKind.i64.wrap (x-1)=x-1:=by rw [IntKind.wrap_i64];omega
 simp [go_sem,h1,e]
 exact hK
theorem og_bldD {x:Int}{k:Nat}(h1:slot a p=.int .i64 x)(h2:slot a q=A4 k)(hK:K (a.put (some d) (DV 1 false false x k)) w):Oper.wp Tryz.prog { dst:=some d,op:=Op.build 34 #[(0,Operand.const (.int .i64 1)),(3,Operand.tmp p),(4,Operand.tmp q)],type:=ty,pos:=pos,after:=after,guard:=gd } a w K Q:=by
 unfold slot at h1 h2
 unfold A4 at h2
 unfold DV at hK
 simp [go_sem,h1,h2]
 exact hK
theorem og_kc2 {F:Nat}{p1:Nat}{u0 u1:Value}{ts:Array TypeId}(hr:Sem.run Tryz.prog (callFunc F #[u0,u1]) w=.ok (.enter F #[u0,u1]) w)(h1:slot a p1=u1)(hc:Calls Tryz.prog F #[u0,u1] w fun e w'=>∃ v,e=.returned v/\K (a.put (some d) v) w'):Oper.wp Tryz.prog { dst:=some d,op:=Op.call { callee:=Callee.value (Operand.func F),args:=#[Operand.const u0,Operand.tmp p1],argTypes:=ts },type:=ty,pos:=pos,after:=after,guard:=gd } a w K Q:=by
 unfold slot at h1
 simp [go_sem,h1,hr]
 refine hc.mono ?_
 rintro e w' ⟨v,rfl,hK⟩
 exact hK
end
noncomputable def opsM14:List Oper:=(Tryz.f7.body.bind (findR 14)).getD []
def slotsM14:List Nat:=[108,109,110,111,112,113,114,107,115,116,16,46]
def slotsAM14:List Nat:=[108,109,110,111,112,113,114,107,115,116,16,46,17]
def MX14 (ws:World)(P:Nat)(L:Nat->Prop)(f:Nat->Value)(w:World):Prop :=
 Below ws.heap.size ws w/\(L 10->∃ g X,f 16=.pointer (some ⟨g,0,none⟩)/\ws.heap.size<=g/\B4 g X w/\(L 11->X=P))
theorem MX14.step {ws w:World}{P k t:Nat}{L:Nat->Prop}{f:Nat->Value}{v:Value}(h:MX14 ws P L f w)(h1:t≠16)(h3:k≠10)(h4:k≠11):MX14 ws P (fun j=>L j∨j=k) (fun u=>if some t=some u then v else f u) w:=by
 obtain ⟨a1,a2⟩:=h
 have e16:(if some t=some 16 then v else f 16)=f 16:=if_neg (fun e=>h1 (Option.some.inj e))
 refine ⟨a1,fun h=>?_⟩
 obtain ⟨g,X,b1,b2,b3,b4⟩:=a2 (h.resolve_right (fun e=>h3 e.symm))
 exact ⟨g,X,e16.trans b1,b2,b3,fun h=>b4 (h.resolve_right (fun e=>h4 e.symm))⟩
theorem regM14 {g7 m P:Nat}{x E:Int}{v:Value}{a0:Act}{ws:World}{Q:Exit->Act->World->Prop}(hs:a0.tmps.size=168)(hx:-1000000<=x/\x<=1000000)
  (g7s:slot a0 7=.pointer (some ⟨g7,0,none⟩)) (g14:slot a0 14=v) (hlt:g7<ws.heap.size) (qx:ws.cell? ⟨g7,3,none⟩=some (.int .i64 x)) (hN:NV 1000 m v ws)
  (cB:∀ W,NV 1000 m v W->CB 28 #[v] W (A4 m))
  (cP:∀ W,CB 27 #[.int .i64 12,DV 1 false false (x-1) m] W (.tuple #[A4 P,.int .i64 E]))
  (hQ:∀ (a:Act) (w:World) (g:Nat),slot a 16=.pointer (some ⟨g,0,none⟩)->slot a 17=.int .i64 E->ws.heap.size<=g->B4 g P w->a.tmps.size=168->a.defers=a0.defers->(∀ t,(∀ i,i<13->slotsAM14.getD i 0≠t)->slot a t=slot a0 t)->Below ws.heap.size ws w->Q .normal a w) :
  (Code.region 14 opsM14.toArray true).wp Tryz.prog Q a0 ws:=by
 refine wp_region_memg 12 168 slotsM14 [iW (.pointer (some ⟨g7,3,none⟩)),iW (.int .i64 x),iW (.int .i64 (x-1)),iW v,iW (A4 m),iW (DV 1 false false (x-1) m),iW (.tuple #[A4 P,.int .i64 E]),iW (.tuple #[A4 P,.int .i64 E]),iW (A4 P),iW (.int .i64 E),(fun _ _=>True),(fun _ _=>True)] (fun _ _=>True) (MX14 ws P) [] [] (by kernel_rfl) (by kernel_rfl) (by kernel_rfl) (by kernel_rfl) hs ?_ (fun _=>trivial) ?_ ?_ ⟨(Below.refl _ _).drew,fun h=>h.elim⟩ ?_ ?_ ?_
 ·intro j c hj hc
  cases hc
 ·intro p hp
  simp only [List.mem_cons,List.not_mem_nil,or_false] at hp
  rcases hp with rfl|rfl|rfl|rfl|rfl|rfl|rfl|rfl|rfl|rfl|rfl|rfl
  all_goals exact fun _ _ _ h _=>h
 ·intro i hi hG
  cases hG
 ·intro L i o a w hi ho hG
  cases hG
 ·intro L i o a w hi ho hG hL hcl he hM hF hv
  have f7:slot a 7=.pointer (some ⟨g7,0,none⟩):=(hF 7 (by decide)).trans g7s
  have f14:slot a 14=v:=(hF 14 (by decide)).trans g14
  have hB:=hM.1
  have kx:w.cell? ⟨g7,3,none⟩=some (.int .i64 x):=(hB.cell (p:=⟨g7,3,none⟩) hlt).trans qx
  have hor:i=0∨i=1∨i=2∨i=3∨i=4∨i=5∨i=6∨i=7∨i=8∨i=9∨i=10∨i=11:=by omega
  rcases hor with rfl|rfl|rfl|rfl|rfl|rfl|rfl|rfl|rfl|rfl|rfl|rfl
  ·obtain rfl:=Option.some.inj (show opsM14[0]?=some o from ho)
   exact og_fad3 f7 ⟨_,rfl,rfl,trivial,hM.step (by decide) (by decide) (by decide)⟩
  ·obtain rfl:=Option.some.inj (show opsM14[1]?=some o from ho)
   exact og_ld3 (hv 0 (by decide) rfl (he ⟨0,.data⟩ (by simp) rfl):slot a 108=.pointer (some ⟨g7,3,none⟩)) kx ⟨_,rfl,rfl,trivial,hM.step (by decide) (by decide) (by decide)⟩
  ·obtain rfl:=Option.some.inj (show opsM14[2]?=some o from ho)
   exact og_dec hx (hv 1 (by decide) rfl (he ⟨1,.data⟩ (by simp) rfl):slot a 109=.int .i64 x) ⟨_,rfl,rfl,trivial,hM.step (by decide) (by decide) (by decide)⟩
  ·obtain rfl:=Option.some.inj (show opsM14[3]?=some o from ho)
   exact og_mv f14 ⟨_,rfl,rfl,trivial,hM.step (by decide) (by decide) (by decide)⟩
  ·obtain rfl:=Option.some.inj (show opsM14[4]?=some o from ho)
   obtain ⟨a1,a2⟩:=hM
   refine og_c1 (by simp [go_sem]) (hv 3 (by decide) rfl (he ⟨3,.data⟩ (by simp) rfl):slot a 111=v) ((cB w (hN.next hB)).mono ?_)
   rintro e w' ⟨rfl,hb⟩
   refine ⟨_,rfl,_,rfl,rfl,trivial,bnx hB hb,fun h10=>?_⟩
   obtain ⟨g,X,b1,b2,b3,b4⟩:=a2 (h10.resolve_right (by decide))
   exact ⟨g,X,b1,b2,b3.next hb,fun h=>b4 (h.resolve_right (by decide))⟩
  ·obtain rfl:=Option.some.inj (show opsM14[5]?=some o from ho)
   exact og_bldD (hv 2 (by decide) rfl (he ⟨2,.data⟩ (by simp) rfl):slot a 110=.int .i64 (x-1)) (hv 4 (by decide) rfl (he ⟨4,.data⟩ (by simp) rfl):slot a 112=A4 m) ⟨_,rfl,rfl,trivial,hM.step (by decide) (by decide) (by decide)⟩
  ·obtain rfl:=Option.some.inj (show opsM14[6]?=some o from ho)
   obtain ⟨a1,a2⟩:=hM
   refine og_kc2 (by simp [go_sem]) (hv 5 (by decide) rfl (he ⟨5,.data⟩ (by simp) rfl):slot a 113=DV 1 false false (x-1) m) ((cP w).mono ?_)
   rintro e w' ⟨rfl,hb⟩
   refine ⟨_,rfl,_,rfl,rfl,trivial,bnx hB hb,fun h10=>?_⟩
   obtain ⟨g,X,b1,b2,b3,b4⟩:=a2 (h10.resolve_right (by decide))
   exact ⟨g,X,b1,b2,b3.next hb,fun h=>b4 (h.resolve_right (by decide))⟩
  ·obtain rfl:=Option.some.inj (show opsM14[7]?=some o from ho)
   exact og_mv (hv 6 (by decide) rfl (he ⟨6,.data⟩ (by simp) rfl):slot a 114=.tuple #[A4 P,.int .i64 E]) ⟨_,rfl,rfl,trivial,hM.step (by decide) (by decide) (by decide)⟩
  ·obtain rfl:=Option.some.inj (show opsM14[8]?=some o from ho)
   exact og_ext (hv 7 (by decide) rfl (he ⟨7,.data⟩ (by simp) rfl):slot a 107=.tuple #[A4 P,.int .i64 E]) rfl ⟨_,rfl,rfl,trivial,hM.step (by decide) (by decide) (by decide)⟩
  ·obtain rfl:=Option.some.inj (show opsM14[9]?=some o from ho)
   exact og_ext (hv 7 (by decide) rfl (he ⟨7,.data⟩ (by simp) rfl):slot a 107=.tuple #[A4 P,.int .i64 E]) rfl ⟨_,rfl,rfl,trivial,hM.step (by decide) (by decide) (by decide)⟩
  ·have hL11:¬ L 11:=fun h=>hL (hcl 11 _ (show opsM14[11]?=some _ from rfl) h ⟨10,.data⟩ (by simp) rfl)
   obtain rfl:=Option.some.inj (show opsM14[10]?=some o from ho)
   have hb:=below1 w (.cells #[.int .u64 0,.int .u64 0,.int .u64 0,.int .u64 0] 24)
   exact og_alB ⟨_,rfl,trivial,trivial,bnx hB hb,fun _=>⟨_,0,rfl,hB.size,B4.new w _,fun h=>absurd (h.resolve_right (by decide)) hL11⟩⟩
  ·obtain rfl:=Option.some.inj (show opsM14[11]?=some o from ho)
   obtain ⟨a1,a2⟩:=hM
   obtain ⟨g,X,b1,b2,b3,b4⟩:=a2 (he ⟨10,.data⟩ (by simp) rfl)
   exact og_stB b1 (hv 8 (by decide) rfl (he ⟨8,.data⟩ (by simp) rfl):slot a 115=A4 P) b3 ⟨.bool false,rfl,trivial,trivial,put4B_below hB b2,fun _=>⟨g,P,b1,b2,b3.put,fun _=>rfl⟩⟩
 ·intro L a w hL hM hsz hdf hF hv
  obtain ⟨hB,a2⟩:=hM
  obtain ⟨g,X,e16,hg,hB1,hX⟩:=a2 (hL 10 (by decide))
  obtain rfl:=hX (hL 11 (by decide))
  have h116:slot a 116=.int .i64 E:=hv 9 (by decide) rfl
  refine BigFrame.wpList_want rfl fun K hK=>og_as h116 (hK _ _ ?_)
  clear K hK
  refine hQ _ _ g (by rw [slot_put_ne (by decide)];exact e16) (slot_put (by omega)) hg hB1 (by simp only [put_sizeV];exact hsz) hdf (fun t ht=>?_) hB
  rw [slot_put_ne (show 17≠t from ht 12 (by decide))]
  exact hF t fun i hi=>by
   have hor:i=0∨i=1∨i=2∨i=3∨i=4∨i=5∨i=6∨i=7∨i=8∨i=9∨i=10∨i=11:=by omega
   rcases hor with rfl|rfl|rfl|rfl|rfl|rfl|rfl|rfl|rfl|rfl|rfl|rfl
   ·exact ht 0 (by decide)
   ·exact ht 1 (by decide)
   ·exact ht 2 (by decide)
   ·exact ht 3 (by decide)
   ·exact ht 4 (by decide)
   ·exact ht 5 (by decide)
   ·exact ht 6 (by decide)
   ·exact ht 7 (by decide)
   ·exact ht 8 (by decide)
   ·exact ht 9 (by decide)
   ·exact ht 10 (by decide)
   ·exact ht 11 (by decide)
end
theorem vI_k {f:DF}(hf:f.ok){v:Dat}(h:vI f v):v.k<2^256:=by
 obtain ⟨m0,m1,l0,l1,lm,j0,j1⟩:=ok_m hf
 have h1:(10:Nat)^(3*f.j+1)<=10^34:=Nat.pow_le_pow_right (by decide) (by omega)
 have h2:(10:Nat)^(3*f.j)<=10^34:=Nat.pow_le_pow_right (by decide) (by omega)
 have h3:(10:Nat)^34<2^256:=by decide
 rcases h with ⟨_,_,a,_⟩|⟨_,_,a,_⟩|⟨_,_,a⟩
 ·omega
 ·rw [a];decide
 ·omega
section
attribute [local irreducible] W4 Nt NT
section
variable {a:Act}{w:World}{K:Act->World->Prop}{Q:Exit->Act->World->Prop}{d p q:Nat}{ty:TypeId}{pos:String}{after:Array Edge}{gd:Option (Nat×Bool)}
end
def K10 (ws:World)(gd N:Nat)(c0 cv:Array Value)(L:Nat->Prop)(f:Nat->Value)(w:World):Prop :=
 (L 6->L 12∨NT 1001 N (f 52) w)/\(L 7->L 12∨NT 1 1 (f 53) w)/\(¬ L 16->Below ws.heap.size ws w/\D8 gd c0 w)/\(L 16->∃ w0,Below ws.heap.size ws w0/\w=w0.setCells gd 0 cv.toList)
theorem K10.step {ws w:World}{gd N:Nat}{c0 cv:Array Value}{k t:Nat}{L:Nat->Prop}{f:Nat->Value}{v:Value}(h:K10 ws gd N c0 cv L f w)(n16:¬ L 16)(h1:t≠52)(h2:t≠53)(h3:k≠6)(h4:k≠7)(h5:k≠16)(h6:k≠12):K10 ws gd N c0 cv (fun j=>L j∨j=k) (fun u=>if some t=some u then v else f u) w:=by
 obtain ⟨a1,a2,a3,a4⟩:=h
 have e52:(if some t=some 52 then v else f 52)=f 52:=if_neg (fun e=>h1 (Option.some.inj e))
 have e53:(if some t=some 53 then v else f 53)=f 53:=if_neg (fun e=>h2 (Option.some.inj e))
 refine ⟨fun h=>?_,fun h=>?_,fun _=>a3 n16,fun h=>absurd (h.resolve_right (fun e=>h5 e.symm)) n16⟩
 ·rcases a1 (h.resolve_right (fun e=>h3 e.symm)) with q|q
  ·exact Or.inl (Or.inl q)
  ·right;show NT 1001 N (if some t=some 52 then v else f 52) w;rw [e52];exact q
 ·rcases a2 (h.resolve_right (fun e=>h4 e.symm)) with q|q
  ·exact Or.inl (Or.inl q)
  ·right;show NT 1 1 (if some t=some 53 then v else f 53) w;rw [e53];exact q
end
section
attribute [local irreducible] W4 NT NV
def ciV (t d:Int)(D:Dat):Nat:=if D.c=2 then pkV t ⟨2,D.s,false,0,0⟩ else if D.c=3 then pkV t ⟨3,D.s,false,0,if D.k<2^(fN t-1) then D.k else 0⟩ else rdV t d D.s (tN D.k D.x) (tD D.x) D.x
def ciF (t d:Int)(D:Dat):Int:=if D.c=2 then 0 else if D.c=3 then (if D.g then 1 else 0) else rdF t d D.s (tN D.k D.x) (tD D.x) D.x
theorem vI_x {f:DF}(hf:f.ok){v:Dat}(h:vI f v):-10000<=v.x/\v.x<=10000:=by
 obtain ⟨m0,m1,l0,l1,lm,j0,j1⟩:=ok_m hf
 unfold DF.m at *
 rcases h with ⟨_,_,_,a,b⟩|⟨_,_,_,a⟩|⟨_,a,_⟩<;>omega
def xiG (m t d:Int)(B:Nat):Prop:=goodD m B/\binN t/\knB d
instance (m t d:Int) (B:Nat):Decidable (xiG m t d B):=inferInstanceAs (Decidable (_/\_))
def xiV (m t d:Int)(B:Nat):Nat:=if xiG m t d B then ciV t d (vM (fD m) B) else 0
def xiF (m t d:Int)(B:Nat):Int:=if xiG m t d B then ciF t d (vM (fD m) B) else 0
def xiE (m t d:Int)(B:Nat):Int:=if xiG m t d B then 0 else 1
end
end Go.Proofs.YtgknbdehlmlipaaGreatDoor
