/-
  Texts that the proof leans on, joined: Ec, Bp.
-/
import Derived.Test.YtpabnhlfbjkmaaaGreatDoorJ18
import Derived.Test.YtpabnhlfbjkmaaaGreatDoorJ17
import Derived.Deep.Cut
import Derived.Test.YtpabnhlfbjkmaaaGreatDoorJ1
set_option maxHeartbeats 8000000
set_option linter.unusedVariables false
set_option linter.unusedSectionVars false
set_option linter.unusedSimpArgs false
set_option maxRecDepth 20000
namespace Go.Proofs.YtpabnhlfbjkmaaaGreatDoor
open Go.RowKit
section
theorem nz_more2 {K V:Nat} {v:Value} {w w':World} (h:Nz K V v w) (hb:Below w.heap.size w w'):Nz (K+2) V v w':=by
 obtain ⟨a,k,cap,z,rfl,hk,hN,hv,hs⟩:=h
 exact ⟨a,k,cap,z,rfl,by omega,hN.next hb,hv,hs⟩
theorem nt_w1 {W:World} {g V:Nat} {vi:Int} (hg:g=W.heap.size) (hv:vi=(V:Int)) (hb:V<18446744073709551616):Nt 1 V (.slice (some ⟨g,0,none⟩) 1 1) (W.alloc (.cells #[.int .u64 vi] 22)):=by
 subst hg hv
 exact ⟨_,1,1,oneW V,rfl,Nat.le_refl _,num_one W V (by omega),val_one1 V⟩
section
variable (d:Int) (s odd far:Bool) (vn vd:Value) (Q R D:Nat) (w:World) (hvb:Nt 2001 D vd w)
 (c59:Calls Tryz.prog 190 #[vn,vd] w fun e w'=>∃ q r,e=.returned (.tuple #[q,r,.int .i64 0])/\Nz 2001 Q q w'/\Nz 2001 R r w'/\Below w.heap.size w w')
 (c60:∀ W vr vb,Nt 2001 R vr W->Nt 2001 D vb W->CB 191 #[.int .i64 d,.bool s,.bool odd,vr,vb] W (.bool far))
 (c26:∀ W vr,Nt 2001 R vr W->CQ 138 #[vr] W (.int .i64 (bl R:Int)))
 (c61:∀ W q v,Nt 2001 Q q W->Nt 1 1 v W->CE 192 #[q,v] W (Nz 2003 (Q+1)))
 (hodd:∀ k z,Words z->val z k=(Q:Int)->0<k->(bits BinOp.and IntKind.u64 (z 0) 1 == 1)=odd)
 (hodd0:Q=0->odd=false)
include hvb c59 c60 c26 c61 hodd hodd0
theorem whole_cw:Calls Tryz.prog 163 #[.int .i64 d,.bool s,vn,vd] w fun e w'=>∃ v,e=.returned (.tuple #[v,.bool (((bl R:Nat):Int) == 0)])/\Nz 2003 (if far then Q+1 else Q) v w'/\Below w.heap.size w w':=by
 go_enter Tryz.func163,Tryz.ntmps163
 go_upto_region 2 with (go_at_call 190;refine c59.mono ?_;rintro e w2 ⟨q,r,rfl,hq,hr,hb2⟩)
 replace hvb:=hvb.next hb2
 have hq':=hq
 obtain ⟨aq,kq,cq,zq,rfl,hkq,hNq,hvq,hsq⟩:=hq
 go_cut [12] from 13 (fun o wc=>o=.bool odd/\wc=w2)
 case first =>
  rcases Nat.eq_zero_or_pos kq with hk0 | hk0
  ·have h0:Q=0:=by
    subst hk0
    have:val zq 0=0:=rfl
    omega
   have ho:=hodd0 h0
   subst ho hk0
   clear hodd hodd0 c59 c60 c61 c26
   go_wp2
   go_meet
   exact ⟨rfl,rfl⟩
  ·have ho:=hodd kq zq hNq.2.2.1 hvq hk0
   have hki:(0:Int)<kq:=by omega
   have hz0:=hNq.2.2.1 0
   obtain ⟨n1,n2,n3,n4,n5⟩:=hNq
   rcases n5 with ⟨_,n6⟩ | ⟨b,off,rfl,n7,n8⟩
   ·omega
   ·have hc0:=n8 0 hk0
    rw [Nat.add_zero] at hc0
    subst ho
    clear hodd hodd0 c59 c60 c61 c26
    go_wp2
    go_meet
    exact ⟨rfl,rfl⟩
 case rest =>
  obtain ⟨rfl,rfl⟩:=hcut
  clear hNq hvq hsq hodd hodd0 c59
  cases far with
  | false =>
   go_wp2_with (first
    | (go_at_call 191;refine (c60 _ _ _ hr.nt hvb).mono ?_;rintro e w3 ⟨rfl,hb3⟩)
    | (go_at_call 138;refine (c26 _ _ (hr.nt.next hb3)).mono ?_;rintro e w4 ⟨rfl,rfl⟩))
   exact bodyPost_ret (v:=.tuple #[_,_]) (by simp only [results,Tryz.results163];go_simp) rfl ⟨_,rfl,nz_more2 hq' hb3,bnx hb2 hb3⟩
  | true =>
   go_wp2_with (first
    | (go_at_call 191;refine (c60 _ _ _ hr.nt hvb).mono ?_;rintro e w3 ⟨rfl,hb3⟩)
    | (go_at_call 192;refine (c61 _ _ _ (hq'.nt.next (bnx hb3 bgo)) (nt_w1 (by simp) rfl (by decide))).mono ?_;rintro e w4 ⟨v4,rfl,h4,hb4⟩;have hA4:Below wc.heap.size wc w4:=bnx (bnx hb3 bgo) hb4)
    | (go_at_call 138;refine (c26 _ _ (hr.nt.next hA4)).mono ?_;rintro e w5 ⟨rfl,rfl⟩))
   exact bodyPost_ret (v:=.tuple #[v4,_]) (by simp only [results,Tryz.results163];go_simp) rfl ⟨_,rfl,h4,bnx hb2 hA4⟩
end
theorem odd_low {k Q:Nat} {z:Nat->Int} (hz:Words z) (hv:val z k=(Q:Int)) (hk:0<k):(bits BinOp.and IntKind.u64 (z 0) 1 == 1)=decide (Q%2=1):=by
 have hb:=hz 0
 rw [show (1:Int)=2^1-1 by decide,and_mask hb (by decide)]
 obtain ⟨k',rfl⟩:∃ k',k=1+k':=⟨k-1,by omega⟩
 have hs:=val_split z 1 k'
 rw [hv] at hs
 have h10:val z 1=z 0:=by show val z 0+z 0*18446744073709551616^0=z 0;simp [val]
 rw [h10,Int.pow_one] at hs
 rcases Nat.mod_two_eq_zero_or_one Q with e | e
 ·rw [decide_eq_false (by omega)]
  rw [beq_eq_false_iff_ne];omega
 ·rw [decide_eq_true e]
  rw [beq_iff_eq];omega
theorem bl_nought (R:Nat):(((bl R:Nat):Int) == 0)=decide (R=0):=by
 by_cases hz:R=0
 ·rw [hz];rfl
 ·rw [decide_eq_false hz,beq_eq_false_iff_ne]
  have:=mt bl_zero.1 hz
  omega
theorem whole_cv (d:Int) (s:Bool) {N D:Nat} {vn vd:Value} {w:World} (h:Nt 2001 N vn w) (h':Nt 2001 D vd w) (hD:D≠0) (h1:bl N<=128000) (h2:bl D<=128000) :
  Calls Tryz.prog 163 #[.int .i64 d,.bool s,vn,vd] w fun e w'=>∃ v,e=.returned (.tuple #[v,.bool (decide (N%D=0))])/\Nz 2003 (if faB d s (decide (N/D%2=1)) (N%D) D then N/D+1 else N/D) v w'/\Below w.heap.size w w':=by
 refine (whole_cw d s (decide (N/D%2=1)) (faB d s (decide (N/D%2=1)) (N%D) D) vn vd (N/D) (N%D) D w h' (ndiv_v (by decide) (by decide) h h' h1 h2 hD) (fun W vr vb a b=>farther_v d s _ (by decide) (by decide) a b) (fun W vr a=>nlen_v (by decide) a) (fun W q v a b=>nadd_v (by decide) (by decide) a b) (fun k z hz hv hk=>odd_low hz hv hk) ?_).mono ?_
 ·intro h0
  rw [h0];rfl
 ·rintro e w' ⟨v,e1,e2,e3⟩
  rw [bl_nought] at e1
  exact ⟨v,e1,e2,e3⟩
end
abbrev Z4:Value:=.agg #[.int .u64 0,.int .u64 0,.int .u64 0,.int .u64 0]
theorem Z4_eq:A4 0=Z4:=by unfold A4 Z4;simp only [W4_zero]
def isD (f:Nat) (l m:Int) (d:Dat):Prop :=
 (d.c=1/\d.g=false/\d.k<2^(f+1)/\l<=d.x/\d.x<=m/\(2^f<=d.k∨d.x=l)) ∨
 (d.c=2/\d.g=false/\d.x=0/\d.k=0) ∨
 (d.c=3/\d.x=0/\d.k<2^(f-1)/\(d.k≠0∨d.g=false))
instance (f:Nat) (l m:Int) (d:Dat):Decidable (isD f l m d):=inferInstanceAs (Decidable (_∨_∨_))
end Go.Proofs.YtpabnhlfbjkmaaaGreatDoor
