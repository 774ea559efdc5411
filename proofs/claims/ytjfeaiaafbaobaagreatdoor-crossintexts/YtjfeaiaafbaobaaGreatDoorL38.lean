/-
  Texts that the proof leans on.
-/
import Derived.Test.YtjfeaiaafbaobaaGreatDoorL35
import Derived.Test.YtjfeaiaafbaobaaGreatDoorL10
import Derived.Test.YtjfeaiaafbaobaaGreatDoorL32
import Derived.Test.YtjfeaiaafbaobaaGreatDoorL31
import Derived.Test.YtjfeaiaafbaobaaGreatDoorL21
import Derived.Test.YtjfeaiaafbaobaaGreatDoorL1
set_option linter.unusedVariables false
set_option linter.unusedSectionVars false
set_option linter.unusedSimpArgs false
set_option maxRecDepth 20000
namespace Go.Proofs.YtjfeaiaafbaobaaGreatDoor
open Go.RowKit
theorem decL_rev {V:Int}{L:Nat}(h0:0<V)(h:V<10^L):revL V (sizeL (dgt V) L)=decL V L:=by
 unfold decL revL
 rw [if_neg]
 intro e
 have:=lt_sizeL (Int.le_of_lt h0) L h
 rw [e] at this;simp at this;omega
theorem sb_nums {l:List Int}(hl:∀ v ∈ l,48<=v/\v<=57){i:Nat}(hi:i<l.length):sb (strOfNums l) i=l[i]:=by
 unfold sb
 rw [dif_pos (by rw [strOfNums_size];exact hi)]
 have h:=hl l[i] (List.getElem_mem hi)
 have e:(strOfNums l)[i]'(by rw [strOfNums_size];exact hi)=UInt8.ofNat l[i].toNat:=by
  show (strOfNums l).data[i]'_=_
  simp [strOfNums]
 rw [e]
 simp
 omega
theorem numV_rev {V:Int}{K:Nat}{u:ByteArray}(hu:∀ i,i<K->sb u i=48+dgt V (K-1-i))(h0:0<=V)(hV:V<10^K):∀ j,j<=K->numV u j=V/10^(K-j)
 | 0,_=>by rw [Nat.sub_zero,Int.ediv_eq_zero_of_lt h0 hV];rfl
 | j+1,h=>by
  have ih:=numV_rev hu h0 hV j (by omega)
  simp only [numV]
  rw [ih,hu j (by omega)]
  have e1:K-j=(K-(j+1))+1:=by omega
  have e2:K-1-j=K-(j+1):=by omega
  rw [e1,e2]
  unfold dgt
  rw [← div_div10]
  generalize V/10^(K-(j+1))=W
  omega
def dcD (V:Int)(L:Nat):List UInt8:=(strOfNums (revL V (sizeL (dgt V) L))).data.toList
theorem dcD_facts {V:Int}{L:Nat}(h0:0<V)(h:V<10^L):gdD (dcD V L)/\(dV (dcD V L):Int)=V/\(dcD V L).length<=L:=by
 have hK:=lt_sizeL (Int.le_of_lt h0) L h
 have hKp:0<sizeL (dgt V) L:=by
  rcases Nat.eq_zero_or_pos (sizeL (dgt V) L) with e|e
  ·rw [e] at hK;simp at hK;omega
  ·exact e
 have hKL:=sizeL_le (dgt V) L
 have htop:=sizeL_top L hKp
 have hB:B (dcD V L)=strOfNums (revL V (sizeL (dgt V) L)):=B_of _
 have hd:∀ v ∈ revL V (sizeL (dgt V) L),48<=v/\v<=57:=by
  intro v hv
  simp [revL] at hv
  obtain ⟨i,_,rfl⟩:=hv
  have:=dgt_bd V (sizeL (dgt V) L-1-i)
  omega
 have hrl:(revL V (sizeL (dgt V) L)).length=sizeL (dgt V) L:=by simp [revL]
 have hsz:(dcD V L).length=sizeL (dgt V) L:=by
  rw [← B_size,hB,strOfNums_size,hrl]
 have hby:∀ i,i<sizeL (dgt V) L->by_ (dcD V L) i=48+dgt V (sizeL (dgt V) L-1-i):=fun i hi=>by
  rw [← sb_by,hB,sb_nums hd (by rw [hrl];exact hi)];simp [revL]
 have hall:(dcD V L).all dg=true:=(all_dg _).2 fun i hi=>by
  rw [hsz] at hi
  rw [hby i hi]
  have:=dgt_bd V (sizeL (dgt V) L-1-i)
  omega
 refine ⟨Or.inr ⟨?_,?_⟩,?_,by omega⟩
 ·unfold isd
  rw [hall]
  have:dcD V L≠[]:=fun e=>by rw [e] at hsz;simp at hsz;omega
  simp [this]
 ·rw [hby 0 hKp,Nat.sub_zero]
  intro e
  exact htop (by omega)
 ·rw [(dV_lt hall).2,B_size,hsz]
  rw [numV_rev (K:=sizeL (dgt V) L) (fun i hi=>by rw [sb_by];exact hby i hi) (Int.le_of_lt h0) hK _ (Nat.le_refl _)]
  simp
section
theorem NT.head {K V:Nat}{v:Value}{w:World}(h:NT K V v w)(hV:V≠0):∃ g k cap z0,v=.slice (some ⟨g,0,none⟩) k cap/\0<k/\k<=K/\g<w.heap.size/\w.cell? ⟨g,0,none⟩=some (.int .u64 z0)/\0<=z0/\z0<=18446744073709551615/\z0%2=((V%2:Nat):Int):=by
 have hz:=h.zero
 obtain ⟨g,k,cap,z,rfl,hk,⟨n1,n2,n3,n4,n5⟩,hv,hs⟩:=h
 obtain ⟨g',k',cap',e,_,hz'⟩:=hz
 cases e
 have hk0:k≠0:=fun e=>hV (hz'.1 e)
 rcases n5 with ⟨n5,_⟩|⟨b,off,e,hb,hc⟩
 ·cases n5
 ·cases e
  have hc0:=hc 0 (by omega)
  have hw:=n3 0
  have hp:=val_odd (by omega:0<k) hv
  exact ⟨g,k,cap,z 0,rfl,by omega,hk,hb,hc0,hw.1,hw.2,by omega⟩
attribute [local irreducible] W4 Nz Nt NT NV
end
section
def sgL (s:Bool):List UInt8:=if s then [45] else []
attribute [local irreducible] W4
end
section
def dcL (k:Nat):List UInt8:=if k=0 then [] else dcD (k:Int) 660
theorem k660 {k:Nat}(hk:k<2^256):(k:Int)<10^660:=by
 have h:(2:Nat)^256<=10^100:=by decide
 have h2:(10:Int)^100<=10^660:=by decide +kernel
 have h3:((10^100:Nat):Int)=(10:Int)^100:=by decide
 omega
theorem dcL_facts {k:Nat}(hk:k<2^256):gdD (dcL k)/\dV (dcL k)=k/\(dcL k).length<=660:=by
 unfold dcL
 by_cases h:k=0
 ·rw [if_pos h];exact ⟨Or.inl rfl,by rw [h,dV_nil],by decide⟩
 ·rw [if_neg h]
  obtain ⟨h1,h2,h3⟩:=dcD_facts (V:=(k:Int)) (L:=660) (by omega) (k660 hk)
  exact ⟨h1,by omega,h3⟩
theorem ndig_v {K k:Nat}{v:Value}{w:World}(hK:K<=1000)(hk:k<2^256)(hk0:k≠0)(h:Nt K k v w):CB 51 #[v] w (.tuple #[.string (B (dcL k)),.int .i64 0]):=by
 obtain ⟨a,n,c,z,rfl,hn,hN,hz⟩:=h
 have hle:=sizeL_le z n
 refine (ndigits_any a n c z w (by omega) hN (by omega)).mono fun r w' ⟨L,hL,he,hB⟩=>⟨?_,hB⟩
 rw [he,hz] at *
 have h0:(0:Int)<k:=by omega
 have h660:=k660 hk
 rw [decL_more (Int.le_of_lt h0) hL h660,← decL_rev h0 h660]
 unfold dcL
 rw [if_neg hk0]
 unfold dcD
 rw [B_of]
attribute [local irreducible] W4 Nt
end
end Go.Proofs.YtjfeaiaafbaobaaGreatDoor
