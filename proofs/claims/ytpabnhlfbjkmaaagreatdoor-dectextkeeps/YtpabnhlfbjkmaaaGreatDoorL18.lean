/-
  Texts that the proof leans on, joined: Sj8, Sn8, Fb, Fc, Fm, Fqn.
-/
import Derived.Test.YtpabnhlfbjkmaaaGreatDoorL16
import Derived.Test.YtpabnhlfbjkmaaaGreatDoorL1
import Derived.Test.YtpabnhlfbjkmaaaGreatDoorL15
import Derived.Test.YtpabnhlfbjkmaaaGreatDoorL17
import Derived.Test.YtpabnhlfbjkmaaaGreatDoorL2
import Derived.Test.YtpabnhlfbjkmaaaGreatDoorL13
import Derived.Deep.Cut
import Derived.Deep.CutRange
set_option linter.unusedSectionVars false
set_option maxRecDepth 20000
set_option linter.unusedVariables false
set_option linter.unusedSimpArgs false
namespace Go.Proofs.YtpabnhlfbjkmaaaGreatDoor
theorem dec_cut (s:Bool) {D:List UInt8} {e ex:Int} (hg:gdD D) (h0:D≠[]) (hl:D.length<=3950) (he:-50000<=ex/\ex<=50000) (hE:e=ex+D.length-1) :
  cutP (sgL s++unT D e)=some ⟨1,s,false,D,ex⟩:=by
 cases D with
 | nil=>exact absurd rfl h0
 | cons c r =>
  have ha:=gdD_all hg
  rw [List.all_cons,Bool.and_eq_true] at ha
  have hc0:(c.toNat:Int)≠48:=by
   rcases hg with h | ⟨_,h⟩
   ·cases h
   ·rw [by_zero] at h;exact h
  rw [List.length_cons] at hl hE
  have:=un_cut s (e:=e) ha.1 hc0 ha.2 (by omega) (by omega)
  rw [this,hE]
  congr 2
  omega
end Go.Proofs.YtpabnhlfbjkmaaaGreatDoor

namespace Go.Proofs.YtpabnhlfbjkmaaaGreatDoor
theorem rep_all (z:Nat):(List.replicate z (48:UInt8)).all dg=true:=by
 induction z with
 | zero=>rfl
 | succ k ih=>rw [List.replicate_succ,List.all_cons,ih];rfl
end Go.Proofs.YtpabnhlfbjkmaaaGreatDoor

namespace Go.Proofs.YtpabnhlfbjkmaaaGreatDoor
open Go.RowKit
def dcW (X:Nat):List UInt8:=if X=0 then [] else dcD X (bl X)
theorem dcW_facts (X:Nat):gdD (dcW X)/\dV (dcW X)=X:=by
 unfold dcW
 by_cases h0:X=0
 ·rw [if_pos h0]
  exact ⟨Or.inl rfl,h0 ▸ rfl⟩
 ·rw [if_neg h0]
  have hX:(0:Int)<X:=by omega
  have hL:(X:Int)<10^bl X:=by
   have h1:=(bl_bd h0).2.1
   have h2:=Nat.pow_le_pow_left (show 2<=10 by decide) (bl X)
   have h3:X<10^bl X:=by omega
   exact_mod_cast h3
  obtain ⟨d1,d2,d3⟩:=dcD_facts hX hL
  exact ⟨d1,by omega⟩
theorem dcW_ne {X:Nat} (h:X≠0):dcW X≠[]:=fun e=>h (by rw [← (dcW_facts X).2,e];rfl)
theorem gdD_zeros {D:List UInt8} (hg:gdD D) (hne:D≠[]) (z:Nat):gdD (D++List.replicate z 48):=by
 rcases hg with h | ⟨h,h0⟩
 ·exact absurd h hne
 ·refine Or.inr ⟨?_,?_⟩
  ·unfold isd
   rw [List.all_append,isd_all h,rep_all z]
   cases D with
   | nil=>exact absurd rfl hne
   | cons y ys=>rfl
  ·cases D with
   | nil=>exact absurd rfl hne
   | cons y ys =>
    rw [List.cons_append,by_zero]
    rw [by_zero] at h0
    exact h0
theorem ten_28 {m q:Nat} (hm:m<=93*q):2^m<=10^(28*q):=by
 have a1:2^m<=2^(93*q):=Nat.pow_le_pow_right (by decide) hm
 have a2:(2:Nat)^(93*q)<=10^(28*q):=by
  rw [Nat.pow_mul,Nat.pow_mul 10]
  exact Nat.pow_le_pow_left (by decide) _
 exact Nat.le_trans a1 a2
theorem dcW_bd {X:Nat} (h0:X≠0):1<=(dcW X).length/\10^((dcW X).length-1)<=X/\X<10^(dcW X).length:=by
 obtain ⟨d1,d2⟩:=dcW_facts X
 have hne:=dcW_ne h0
 have hlt:=(dV_lt (gdD_all d1)).1
 rcases d1 with h | ⟨h,hh⟩
 ·exact absurd h hne
 have hge:=dV_ge (isd_all h) hh hne
 rw [d2] at hlt hge
 refine ⟨?_,hge,hlt⟩
 rcases Nat.eq_zero_or_pos (dcW X).length with h | h
 ·exact absurd (List.eq_nil_of_length_eq_zero h) hne
 ·exact h
theorem dcW_most {X:Nat} (h0:X≠0) (hb:bl X<=39785):(dcW X).length<=11984:=by
 obtain ⟨h1,h2,h3⟩:=dcW_bd h0
 have h4:X<2^bl X:=bl_le.1 (Nat.le_refl _)
 obtain ⟨q,hq⟩:∃ q:Nat,q=428:=⟨_,rfl⟩
 have h5:=ten_28 (m:=bl X) (q:=q) (by omega)
 have h6:10^((dcW X).length-1)<10^(28*q):=Nat.lt_of_le_of_lt h2 (Nat.lt_of_lt_of_le h4 h5)
 have:=(Nat.pow_lt_pow_iff_right (by decide:1<10)).1 h6
 omega
theorem ndig_nW {K X:Nat} {v:Value} {w:World} (hK:K<100000) (hX:bl X<=128000) (h0:X≠0) (h:Nt K X v w):CB 30 #[v] w (.tuple #[.string (B (dcW X)),.int .i64 0]):=by
 obtain ⟨a,n,c,z,rfl,hn,hN,hv⟩:=h
 have hs:sizeL z n<=2000:=(size_bl hN.2.2.1 hv).2 hX
 unfold dcW
 rw [if_neg h0]
 have hX0:(0:Int)<X:=by omega
 have hL:(X:Int)<10^bl X:=by
  have h1:=(bl_bd h0).2.1
  have h2:=Nat.pow_le_pow_left (show 2<=10 by decide) (bl X)
  have h3:X<10^bl X:=by omega
  exact_mod_cast h3
 refine (ndigits_any a n c z w (by omega) hN hs).mono fun r w' ⟨L,hL',he,hB⟩=>⟨?_,hB⟩
 rw [hv] at hL' he
 rw [he,decL_more (Int.le_of_lt hX0) hL' hL,← decL_rev hX0 hL]
 show _=Ending.returned (.tuple #[.string (B (dcD X (bl X))),.int .i64 0])
 unfold dcD
 rw [B_of]
end Go.Proofs.YtpabnhlfbjkmaaaGreatDoor
