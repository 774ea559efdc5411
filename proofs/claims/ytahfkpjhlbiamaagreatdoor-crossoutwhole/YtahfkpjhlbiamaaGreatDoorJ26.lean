/-
  Texts that the proof leans on.
-/
import Derived.Test.YtahfkpjhlbiamaaGreatDoorJ24
import Derived.Test.YtahfkpjhlbiamaaGreatDoorJ25
import Derived.Test.YtahfkpjhlbiamaaGreatDoorJ18
import Derived.Test.YtahfkpjhlbiamaaGreatDoorJ16
import Derived.Test.YtahfkpjhlbiamaaGreatDoorJ1
import Derived.Deep.Cut
import Derived.Deep.CutRange
import Derived.Deep.RegionWith
import Derived.Test.YtahfkpjhlbiamaaGreatDoorJ11
import Derived.Test.YtahfkpjhlbiamaaGreatDoorJ13
import Derived.Test.YtahfkpjhlbiamaaGreatDoorJ23
import Derived.Test.YtahfkpjhlbiamaaGreatDoorJ21
import Derived.Test.YtahfkpjhlbiamaaGreatDoorJ3
import Derived.Test.YtahfkpjhlbiamaaGreatDoorJ10
import Derived.Test.YtahfkpjhlbiamaaGreatDoorJ12
import Derived.Test.YtahfkpjhlbiamaaGreatDoorJ2
import Derived.Test.YtahfkpjhlbiamaaGreatDoorJ19
import Derived.Test.YtahfkpjhlbiamaaGreatDoorJ9
set_option linter.unusedVariables false
set_option linter.unusedSectionVars false
set_option linter.unusedSimpArgs false
set_option maxHeartbeats 8000000
set_option maxRecDepth 20000
namespace Go.Proofs.YtahfkpjhlbiamaaGreatDoor
open Go.RowKit
section
section
variable (x:Int)(vn vd:Value)(A KK:Nat)(w:World)(hx:-12000<=x/\x<=12000)
include hx
end
theorem zGr (k:Nat):bl (10^k)<=4*k+1:=by
 refine bl_le.2 ?_
 have h1:10^k<=16^k:=Nat.pow_le_pow_left (by decide) k
 have h2:(16:Nat)^k=2^(4*k):=by rw [Nat.pow_mul]
 have h3:(2:Nat)^(4*k)<2^(4*k+1):=Nat.pow_lt_pow_right (by decide) (by omega)
 omega
attribute [local irreducible] W4 NT NV
end
section
attribute [local irreducible] NT NV
section
variable (x:Int)(vn vd:Value)(A KK:Nat)(w:World)(hx:-60000<=x/\x<=60000)
include hx
end
theorem zWv {N D:Nat}{E:Int}(hD:0<D)(h:tnG N D E):3*E<=bl N:=by
 rcases Int.lt_or_le E 0 with q|q
 ·omega
 ·unfold tnG at h
  rw [show (-E).toNat=0 by omega,Nat.pow_zero,Nat.mul_one] at h
  have h1:10^E.toNat<=N:=Nat.le_trans (Nat.le_mul_of_pos_left _ hD) h
  have h2:N<2^bl N:=bl_le.1 (Nat.le_refl _)
  have h3:(8:Nat)^E.toNat<=10^E.toNat:=Nat.pow_le_pow_left (by decide) _
  have h4:(2:Nat)^(3*E.toNat)<2^bl N:=by
   rw [Nat.pow_mul]
   exact Nat.lt_of_le_of_lt (Nat.le_trans h3 h1) h2
  have:=(Nat.pow_lt_pow_iff_right (a:=2) (by decide)).1 h4
  omega
theorem tnG_dn {N D:Nat}{E:Int}(hN:0<N)(h:¬ tnG N D E):-(bl D:Int)<=3*E:=by
 rcases Int.lt_or_le 0 E with q|q
 ·omega
 ·unfold tnG at h
  rw [show E.toNat=0 by omega,Nat.pow_zero,Nat.mul_one] at h
  have h1:10^(-E).toNat<D:=by
   have:10^(-E).toNat<=N*10^(-E).toNat:=Nat.le_mul_of_pos_left _ hN
   omega
  have h2:D<2^bl D:=bl_le.1 (Nat.le_refl _)
  have h3:(8:Nat)^(-E).toNat<=10^(-E).toNat:=Nat.pow_le_pow_left (by decide) _
  have h4:(2:Nat)^(3*(-E).toNat)<2^bl D:=by
   rw [Nat.pow_mul]
   exact Nat.lt_of_le_of_lt (Nat.le_trans h3 (Nat.le_of_lt h1)) h2
  have:=(Nat.pow_lt_pow_iff_right (a:=2) (by decide)).1 h4
  omega
end
theorem zEr {N D:Nat}(lo:Int)(h:tnG N D lo):∀ k:Nat,¬ tnG N D (lo+k)->∃ E,TnE N D E
 | 0,h'=>absurd (by simpa using h) h'
 | k+1,h'=>by
  by_cases hk:tnG N D (lo+k)
  ·exact ⟨lo+k,hk,by rw [show lo+(k:Int)+1=lo+((k+1:Nat):Int) by omega];exact h'⟩
  ·exact zEr lo h k hk
theorem tnE_ex {N D:Nat}(hN:0<N)(hD:0<D):∃ E,TnE N D E:=by
 refine zEr (-(D:Int)) ?_ (N+D) ?_
 ·unfold tnG
  rw [show (-(D:Int)).toNat=0 by omega,Int.neg_neg,Int.toNat_natCast,Nat.pow_zero,Nat.mul_one]
  have h1:D<10^D:=Nat.lt_pow_self (by decide)
  exact Nat.le_trans (Nat.le_of_lt h1) (Nat.le_mul_of_pos_left _ hN)
 ·rw [show -(D:Int)+((N+D:Nat):Int)=(N:Int) by omega]
  unfold tnG
  rw [show (-(N:Int)).toNat=0 by omega,Int.toNat_natCast,Nat.pow_zero,Nat.mul_one]
  have h1:N<10^N:=Nat.lt_pow_self (by decide)
  have h2:10^N<=D*10^N:=Nat.le_mul_of_pos_left _ hD
  omega
def clT (x:Int):Int:=min (max x (-20000)) 20000
theorem zKx {f:DF}(h:f.ok):-10000<=f.m/\f.m<=10000/\-10000<=f.l/\f.l<=10000/\f.l<=f.m/\2<=f.j/\f.j<=11:=by
 unfold DF.m
 rcases h with ⟨h1,h2,h3,h4⟩|⟨h1,h2,h3,h4⟩|⟨h1,h2,h3,h4⟩<;>rw [h2,h3,h4]<;>decide
noncomputable def tnX (N D:Nat):Int:=open Classical in if h:∃ E,TnE N D E then Classical.choose h else 0
theorem zJn {N D:Nat}(hN:0<N)(hD:0<D):TnE N D (tnX N D):=by
 have h:=tnE_ex hN hD
 unfold tnX
 rw [dif_pos h]
 exact Classical.choose_spec h
def rqE (n d:Int)(N D:Nat):Int:=if zYb n/\knB d/\D≠0 then (if 25600<bl N∨25600<bl D then 4 else 0) else 1
noncomputable def rqD (n d:Int)(s:Bool)(N D:Nat)(x y:Int):Dat :=
 if rqE n d N D=0 then (if N=0 then ⟨1,s,false,min (max y (fD n).l) (fD n).m,0⟩ else dkD (fD n) d s (N*10^(clT x).toNat) (D*10^(-(clT x)).toNat) (tnX (N*10^(clT x).toNat) (D*10^(-(clT x)).toNat)) y) else ⟨0,false,false,0,0⟩
noncomputable def rqF (n d:Int)(s:Bool)(N D:Nat)(x:Int):Int :=
 if rqE n d N D=0 then (if N=0 then 0 else dkF (fD n) d s (N*10^(clT x).toNat) (D*10^(-(clT x)).toNat) (tnX (N*10^(clT x).toNat) (D*10^(-(clT x)).toNat))) else 0
theorem zSp {n d:Int}{N D:Nat}(h:rqE n d N D=0):zYb n/\knB d/\D≠0/\bl N<=25600/\bl D<=25600:=by
 unfold rqE at h
 split at h
 ·rename_i h1
  split at h
  ·omega
  ·rename_i h2
   exact ⟨h1.1,h1.2.1,h1.2.2,by omega,by omega⟩
 ·omega
theorem rq_not {n d:Int}{s:Bool}{N D:Nat}{x y:Int}(h:rqE n d N D≠0):(rqD n d s N D x y).v=.agg #[.int .i64 0,.bool false,.bool false,.int .i64 0,.int .u64 0,.int .u64 0,.int .u64 0,.int .u64 0]/\rqF n d s N D x=0:=by
 unfold rqD rqF
 rw [if_neg h,if_neg h]
 refine ⟨?_,rfl⟩
 unfold Dat.v DV
 simp only [zOa]
theorem dV_ge {l:List UInt8}(hd:l.all dg=true)(h0:by_ l 0≠48)(hl:l≠[]):10^(l.length-1)<=dV l:=by
 cases l with
 | nil=>exact absurd rfl hl
 | cons c r =>
  have hr:r.all dg=true:=by rw [List.all_cons] at hd;simp at hd;simpa using hd.2
  have hc:dg c=true:=by rw [List.all_cons] at hd;simp at hd;exact hd.1
  unfold dg at hc
  have hc':=of_decide_eq_true hc
  rw [zNg] at h0
  have h:=zTr (s:=B (c::r)) (u:=B r) 1 (B r).size (fun i hi=>by rw [zUt,zUt,Nat.add_comm,zQq])
  have hs:(B (c::r)).size=1+(B r).size:=by rw [zFa,zFa,List.length_cons];omega
  have h1:numV (B (c::r)) 1=(c.toNat:Int)-48:=by
   have:numV (B (c::r)) 1=numV (B (c::r)) 0*10+(sb (B (c::r)) 0-48):=rfl
   rw [this,zUt,zNg]
   have:numV (B (c::r)) 0=0:=rfl
   omega
  have hb:=(zDq _ (dig_B hr)).1
  have e:=(yYb hd).2
  rw [hs,h,h1] at e
  rw [zFa] at e hb
  have hp:((10:Int)^r.length)=((10^r.length:Nat):Int):=by simp
  rw [hp] at e
  show 10^(r.length+1-1)<=_
  rw [Nat.add_sub_cancel]
  have hm:1*((10^r.length:Nat):Int)<=((c.toNat:Int)-48)*((10^r.length:Nat):Int):=Int.mul_le_mul_of_nonneg_right (by omega) (Int.natCast_nonneg _)
  omega
theorem zZ6:dV []=0:=rfl
theorem zA2 {c:Int}{s g:Bool}{d:List UInt8}{e:Int}(he:-9223372036854775808<=e/\e<=9223372036854775807):(zOh c s g d e).length<=d.length+100:=by
 have hi:=Lib.itoa_length_le e he.1 he.2
 have h1:(yEc c g d e).length<=d.length+50:=by
  unfold yEc
  split
  ·simp
  ·split
   ·unfold zDn
    simp only [List.length_append,List.length_cons]
    split<;>split<;>simp<;>omega
   ·unfold zUu dgT exT
    simp only [List.length_append]
    split<;>split<;>simp<;>omega
 unfold zOh
 rw [List.length_append]
 split<;>simp<;>omega
def Prt.at (p:Prt)(s:Bool):Prt:=⟨p.cls,s,p.sn,p.dig,p.ex⟩
/-! Make by value -/
/-! Read by value -/
theorem zXs {V:Int}{L:Nat}(h0:0<V)(h:V<10^L):zT2 V (sizeL (dgt V) L)=zWz V L:=by
 unfold zWz zT2
 rw [if_neg]
 intro e
 have:=zNm (Int.le_of_lt h0) L h
 rw [e] at this;simp at this;omega
theorem zX8 {l:List Int}(hl:∀ v ∈ l,48<=v/\v<=57){i:Nat}(hi:i<l.length):sb (strOfNums l) i=l[i]:=by
 unfold sb
 rw [dif_pos (by rw [strOfNums_size];exact hi)]
 have h:=hl l[i] (List.getElem_mem hi)
 have e:(strOfNums l)[i]'(by rw [strOfNums_size];exact hi)=UInt8.ofNat l[i].toNat:=by
  show (strOfNums l).data[i]'_=_
  simp [strOfNums]
 rw [e]
 simp
 omega
theorem zSr {V:Int}{K:Nat}{u:ByteArray}(hu:∀ i,i<K->sb u i=48+dgt V (K-1-i))(h0:0<=V)(hV:V<10^K):∀ j,j<=K->numV u j=V/10^(K-j)
 | 0,_=>by rw [Nat.sub_zero,Int.ediv_eq_zero_of_lt h0 hV];rfl
 | j+1,h=>by
  have ih:=zSr hu h0 hV j (by omega)
  simp only [numV]
  rw [ih,hu j (by omega)]
  have e1:K-j=(K-(j+1))+1:=by omega
  have e2:K-1-j=K-(j+1):=by omega
  rw [e1,e2]
  unfold dgt
  rw [← zEk]
  generalize V/10^(K-(j+1))=W
  omega
def dcD (V:Int)(L:Nat):List UInt8:=(strOfNums (zT2 V (sizeL (dgt V) L))).data.toList
theorem zZo {V:Int}{L:Nat}(h0:0<V)(h:V<10^L):gdD (dcD V L)/\(dV (dcD V L):Int)=V/\(dcD V L).length<=L:=by
 have hK:=zNm (Int.le_of_lt h0) L h
 have hKp:0<sizeL (dgt V) L:=by
  rcases Nat.eq_zero_or_pos (sizeL (dgt V) L) with e|e
  ·rw [e] at hK;simp at hK;omega
  ·exact e
 have hKL:=zCa (dgt V) L
 have htop:=zVc L hKp
 have hB:B (dcD V L)=strOfNums (zT2 V (sizeL (dgt V) L)):=B_of _
 have hd:∀ v ∈ zT2 V (sizeL (dgt V) L),48<=v/\v<=57:=by
  intro v hv
  simp [zT2] at hv
  obtain ⟨i,_,rfl⟩:=hv
  have:=zTz V (sizeL (dgt V) L-1-i)
  omega
 have hrl:(zT2 V (sizeL (dgt V) L)).length=sizeL (dgt V) L:=by simp [zT2]
 have hsz:(dcD V L).length=sizeL (dgt V) L:=by
  rw [← zFa,hB,strOfNums_size,hrl]
 have hby:∀ i,i<sizeL (dgt V) L->by_ (dcD V L) i=48+dgt V (sizeL (dgt V) L-1-i):=fun i hi=>by
  rw [← zUt,hB,zX8 hd (by rw [hrl];exact hi)];simp [zT2]
 have hall:(dcD V L).all dg=true:=(zU0 _).2 fun i hi=>by
  rw [hsz] at hi
  rw [hby i hi]
  have:=zTz V (sizeL (dgt V) L-1-i)
  omega
 refine ⟨Or.inr ⟨?_,?_⟩,?_,by omega⟩
 ·unfold isd
  rw [hall]
  have:dcD V L≠[]:=fun e=>by rw [e] at hsz;simp at hsz;omega
  simp [this]
 ·rw [hby 0 hKp,Nat.sub_zero]
  intro e
  exact htop (by omega)
 ·rw [(yYb hall).2,zFa,hsz]
  rw [zSr (K:=sizeL (dgt V) L) (fun i hi=>by rw [zUt];exact hby i hi) (Int.le_of_lt h0) hK _ (Nat.le_refl _)]
  simp
section
theorem NT.head {K V:Nat}{v:Value}{w:World}(h:NT K V v w)(hV:V≠0):∃ g k cap z0,v=.slice (some ⟨g,0,none⟩) k cap/\0<k/\k<=K/\g<w.heap.size/\w.cell? ⟨g,0,none⟩=some (.int .u64 z0)/\0<=z0/\z0<=18446744073709551615/\z0%2=((V%2:Nat):Int):=by
 have hz:=h.zero
 obtain ⟨g,k,cap,z,rfl,hk,⟨n1,n2,n3,n4,n5⟩,hv,hs⟩:=h
 obtain ⟨g',k',cap',e,_,hz'⟩:=hz
 cases e
 have hk0:k≠0:=fun e=>hV (hz'.1 e)
 rcases n5 with ⟨n5,_⟩|⟨b,off,e,hb,hc⟩
 ·cases n5
 ·cases e
  have hc0:=hc 0 (by omega)
  have hw:=n3 0
  have hp:=zV7 (by omega:0<k) hv
  exact ⟨g,k,cap,z 0,rfl,by omega,hk,hb,hc0,hw.1,hw.2,by omega⟩
attribute [local irreducible] W4 Nz Nt NT NV
end
section
section
variable (D:List UInt8)(e:Int)(w:World)(hT10:Tb10 w)(he:-100000<=e/\e<=100000)
include hT10 he
theorem zZ9 (hD:D.length=1):CB 46 #[.string (B D),.int .i64 e] w (.string (B (unT D e))):=by
 have hi:=zIl he
 have c53:=fun W (h:Tb10 W)=>zGs e W (by omega) h
 have htl:=zSa
 have hsz:(B D).size=1:=by rw [zFa,hD]
 have HU:Hid (unT D e=(D++[101])++Lib.itoa e):=by
  show _=_
  unfold unT
  rw [if_neg (by omega),List.append_nil,List.take_of_length_le (by omega)]
 have ht:(B D).extract 0 1=B D:=by rw [zXq,List.drop_zero,List.take_of_length_le (by omega)]
 have p0:B D++(⟨#[101]⟩:ByteArray)=B (D++[101]):=zCn D [101]
 have z0:(B (D++[101])).size=2:=by rw [zFa,List.length_append,hD];rfl
 have p1:B (D++[101])++B (Lib.itoa e)=B ((D++[101])++Lib.itoa e):=zCn _ _
 obtain ⟨il,hil⟩:∃ il,(Lib.itoa e).length=il:=⟨_,rfl⟩
 have z2:(B (Lib.itoa e)).size=il:=by rw [zFa];exact hil
 have hil2:il<=100:=by omega
 have hemp:D.isEmpty=false:=by cases D with|nil=>exact absurd hD (by decide)|cons y ys=>rfl
 clear hD hi hil
 generalize hL0:D++[101]=L0 at *
 clear hL0
 generalize Lib.itoa e=I at *
 generalize hL1:L0++I=L1 at *
 clear hL1
 go_enter Tryz.func46,Tryz.ntmps46
 go_wp2_with (go_at_call 100;refine (c53 _ (hT10.next bgo)).mono ?_;rintro r w3 ⟨rfl,hb3⟩)
 go_ret
 exact ⟨by rw [HU.out];rfl,hb3⟩
theorem zY9 (hD:1<D.length)(hD2:D.length<=4000):CB 46 #[.string (B D),.int .i64 e] w (.string (B (unT D e))):=by
 have hi:=zIl he
 have c53:=fun W (h:Tb10 W)=>zGs e W (by omega) h
 have htl:=zSa
 obtain ⟨m,hm⟩:∃ m,D.length=m+2:=⟨D.length-2,by omega⟩
 have hsz:(B D).size=m+2:=by rw [zFa,hm]
 have HU:Hid (unT D e=((D.take 1++([46]++D.drop 1))++[101])++Lib.itoa e):=by
  show _=_
  unfold unT
  rw [if_pos hD]
 have ht:(B D).extract 0 1=B (D.take 1):=by rw [zXq,List.drop_zero]
 have hd:(B D).extract 1 (m+2)=B (D.drop 1):=by have:=B_drop D 1;rw [hsz] at this;exact this
 have hm2:m<=4000:=by omega
 have q0:(⟨#[46]⟩:ByteArray)++B (D.drop 1)=B ([46]++D.drop 1):=zCn [46] _
 have y0:(B (D.drop 1)).size=m+1:=by rw [zFa,List.length_drop,hm];omega
 have y1:(B ([46]++D.drop 1)).size=m+2:=by rw [zFa,List.length_append,List.length_drop,hm];simp;omega
 have y2:(B (D.take 1)).size=1:=by rw [zFa,List.length_take,hm];omega
 have p0:B (D.take 1)++B ([46]++D.drop 1)=B (D.take 1++([46]++D.drop 1)):=zCn _ _
 have z0:(B (D.take 1++([46]++D.drop 1))).size=m+3:=by rw [zFa] at y1 y2 ⊢;rw [List.length_append,y1,y2];omega
 have p1:B (D.take 1++([46]++D.drop 1))++(⟨#[101]⟩:ByteArray)=B ((D.take 1++([46]++D.drop 1))++[101]):=zCn _ [101]
 have z1:(B ((D.take 1++([46]++D.drop 1))++[101])).size=m+4:=by rw [zFa] at z0 ⊢;rw [List.length_append,z0];rfl
 have p2:B ((D.take 1++([46]++D.drop 1))++[101])++B (Lib.itoa e)=B (((D.take 1++([46]++D.drop 1))++[101])++Lib.itoa e):=zCn _ _
 obtain ⟨il,hil⟩:∃ il,(Lib.itoa e).length=il:=⟨_,rfl⟩
 have z2:(B (Lib.itoa e)).size=il:=by rw [zFa];exact hil
 have hil2:il<=100:=by omega
 have hemp:D.isEmpty=false:=by cases D with|nil=>exact absurd hD (by decide)|cons y ys=>rfl
 clear hD hD2 hm hi hil
 generalize Lib.itoa e=I at *
 generalize hL3:((D.take 1++([46]++D.drop 1))++[101])++I=L3 at *
 generalize hL2:(D.take 1++([46]++D.drop 1))++[101]=L2 at *
 generalize hL1:D.take 1++([46]++D.drop 1)=L1 at *
 generalize hL0:[46]++D.drop 1=L0 at *
 generalize hA:D.take 1=A0 at *
 generalize hB:D.drop 1=B0 at *
 clear hL3 hL2 hL1 hL0 hA hB
 go_enter Tryz.func46,Tryz.ntmps46
 go_wp2_with (go_at_call 100;refine (c53 _ (hT10.next bgo)).mono ?_;rintro r w3 ⟨rfl,hb3⟩)
 go_ret
 exact ⟨by rw [HU.out];rfl,hb3⟩
end
theorem zX9 (D:List UInt8)(e:Int)(w:World)(hT10:Tb10 w)(he:-100000<=e/\e<=100000)(hD:1<=D.length)(hD2:D.length<=4000):CB 46 #[.string (B D),.int .i64 e] w (.string (B (unT D e))):=by
 by_cases h:D.length=1
 ·exact zZ9 D e w hT10 he h
 ·exact zY9 D e w hT10 he (by omega) hD2
end
section
def sgL (s:Bool):List UInt8:=if s then [45] else []
attribute [local irreducible] W4
end
section
def dcL (k:Nat):List UInt8:=if k=0 then [] else dcD (k:Int) 660
theorem k660 {k:Nat}(hk:k<2^256):(k:Int)<10^660:=by
 have h:(2:Nat)^256<=10^100:=by decide
 have h2:(10:Int)^100<=10^660:=by decide +kernel
 have h3:((10^100:Nat):Int)=(10:Int)^100:=by decide
 omega
theorem zCh {k:Nat}(hk:k<2^256):gdD (dcL k)/\dV (dcL k)=k/\(dcL k).length<=660:=by
 unfold dcL
 by_cases h:k=0
 ·rw [if_pos h];exact ⟨Or.inl rfl,by rw [h,zZ6],by decide⟩
 ·rw [if_neg h]
  obtain ⟨h1,h2,h3⟩:=zZo (V:=(k:Int)) (L:=660) (by omega) (k660 hk)
  exact ⟨h1,by omega,h3⟩
theorem zE6 {K k:Nat}{v:Value}{w:World}(hK:K<=1000)(hk:k<2^256)(hk0:k≠0)(h:Nt K k v w):CB 48 #[v] w (.tuple #[.string (B (dcL k)),.int .i64 0]):=by
 obtain ⟨a,n,c,z,rfl,hn,hN,hz⟩:=h
 have hle:=zCa z n
 refine (zIg a n c z w (by omega) hN (by omega)).mono fun r w' ⟨L,hL,he,hB⟩=>⟨?_,hB⟩
 rw [he,hz] at *
 have h0:(0:Int)<k:=by omega
 have h660:=k660 hk
 rw [zGk (Int.le_of_lt h0) hL h660,← zXs h0 h660]
 unfold dcL
 rw [if_neg hk0]
 unfold dcD
 rw [B_of]
attribute [local irreducible] W4 Nt
end
theorem zL6 (e:Int)(h:-1000000000<=e/\e<=1000000000):exB (101::Lib.itoa e)=true/\exI (101::Lib.itoa e)=e/\Lib.hasPrefix (101::Lib.itoa e) [46]=false/\dgs (101::Lib.itoa e)=[]/\rst (101::Lib.itoa e)=101::Lib.itoa e:=by
 by_cases h0:e=0
 ·subst h0
  have e0:Lib.itoa 0=[48]:=by kernel_rfl
  rw [e0]
  exact ⟨by decide,by decide,by decide,by decide,by decide⟩
 ·have:=zVy e h
  unfold exT at this
  rw [if_neg h0] at this
  exact this
theorem zYm {e:Int}(h:-1000000000<=e/\e<=1000000000):zZf e=e:=by unfold zZf;omega
theorem un_cut (s:Bool){c:UInt8}{r:List UInt8}{e:Int}(hc:dg c=true)(hc0:(c.toNat:Int)≠48)(hr:r.all dg=true)(hl:r.length<=3950)(he:-100000<=e/\e<=100000) :
  zYs (sgL s++unT (c::r) e)=some ⟨1,s,false,c::r,e-r.length⟩:=by
 have hlen:(unT (c::r) e).length<=r.length+26:=by have:=zZe (D:=c::r) he;rw [List.length_cons] at this;omega
 obtain ⟨x1,x2,x3,x4,x5⟩:=zL6 e (by omega)
 have hcn:=zWs hc
 have hall:[c].all dg=true:=by simp [hc]
 have hbar:bar (c::r)=c::r:=by rw [zBn,if_neg hc0]
 have key:zKl (unT (c::r) e)=true/\finD (unT (c::r) e)=c::r/\finE (unT (c::r) e)=e-r.length/\∃ t,unT (c::r) e=c::t:=by
  cases hr0:r with
  | nil =>
   have hu:unT [c] e=[c]++(101::Lib.itoa e):=rfl
   rw [hu]
   obtain ⟨d1,d2⟩:=zRf (m:=101::Lib.itoa e) hall x4
   have f1:zOo ([c]++101::Lib.itoa e)=[]:=by unfold zOo;rw [d2,x3];rfl
   have f2:zNc ([c]++101::Lib.itoa e)=101::Lib.itoa e:=by unfold zNc;rw [d2,x3];rfl
   refine ⟨?_,?_,?_,_,rfl⟩
   ·unfold zKl;rw [f1,f2,x1,d1];rfl
   ·unfold finD;rw [f1,d1]
    rw [hr0] at hbar
    exact hbar
   ·unfold finE;rw [f1,f2,x2]
    exact zYm (by simp;omega)
  | cons a t =>
   rw [← hr0]
   have hu:unT (c::r) e=[c]++46::(r++(101::Lib.itoa e)):=by
    unfold unT
    rw [hr0]
    simp
   rw [hu]
   obtain ⟨d1,d2⟩:=zRf (m:=46::(r++(101::Lib.itoa e))) hall rfl
   obtain ⟨d3,d4⟩:=zRf (m:=101::Lib.itoa e) hr x4
   have e1:Lib.hasPrefix (46::(r++(101::Lib.itoa e))) [46]=true:=rfl
   have e2:Lib.trimPrefix (46::(r++(101::Lib.itoa e))) [46]=r++(101::Lib.itoa e):=rfl
   have f1:zOo ([c]++46::(r++(101::Lib.itoa e)))=r:=by unfold zOo;rw [d2,e1,e2,d3];rfl
   have f2:zNc ([c]++46::(r++(101::Lib.itoa e)))=101::Lib.itoa e:=by unfold zNc;rw [d2,e1,e2,d4];rfl
   refine ⟨?_,?_,?_,_,rfl⟩
   ·unfold zKl;rw [f1,f2,x1,d1];rfl
   ·unfold finD;rw [f1,d1]
    exact hbar
   ·unfold finE;rw [f1,f2,x2]
    exact zYm (by omega)
 obtain ⟨k1,k2,k3,t,k4⟩:=key
 unfold zYs
 have hs:(sgL s++unT (c::r) e).length<=4000:=by
  rw [List.length_append]
  have:(sgL s).length<=1:=by cases s<;>decide
  omega
 rw [if_neg (by omega)]
 have hsg:gsgB (sgL s++unT (c::r) e)=s/\sgR (sgL s++unT (c::r) e)=unT (c::r) e:=by
  rw [k4]
  exact zQj s c t ⟨by omega,by omega⟩
 rw [hsg.1,hsg.2]
 unfold zB7
 rw [if_pos k1,k2,k3]
end Go.Proofs.YtahfkpjhlbiamaaGreatDoor

namespace Go.Proofs.YtahfkpjhlbiamaaGreatDoor
theorem yQb (s:Bool){D:List UInt8}{e ex:Int}(hg:gdD D)(h0:D≠[])(hl:D.length<=3950)(he:-50000<=ex/\ex<=50000)(hE:e=ex+D.length-1) :
  zYs (sgL s++unT D e)=some ⟨1,s,false,D,ex⟩:=by
 cases D with
 | nil=>exact absurd rfl h0
 | cons c r =>
  have ha:=zAk hg
  rw [List.all_cons,Bool.and_eq_true] at ha
  have hc0:(c.toNat:Int)≠48:=by
   rcases hg with h|⟨_,h⟩
   ·cases h
   ·rw [zNg] at h;exact h
  rw [List.length_cons] at hl hE
  have:=un_cut s (e:=e) ha.1 hc0 ha.2 (by omega) (by omega)
  rw [this,hE]
  congr 2
  omega
end Go.Proofs.YtahfkpjhlbiamaaGreatDoor

namespace Go.Proofs.YtahfkpjhlbiamaaGreatDoor
open Go.RowKit
theorem zAl (N D:Nat){e:Int}{a b:Nat}(h:(a:Int)-b=e):tnG N D e↔D*10^a<=N*10^b:=by
 obtain ⟨k,hk⟩:∃ k:Nat,a=e.toNat+k:=⟨a-e.toNat,by omega⟩
 have hb:b=(-e).toNat+k:=by omega
 unfold tnG
 rw [hk,hb,Nat.pow_add,Nat.pow_add,← Nat.mul_assoc,← Nat.mul_assoc]
 exact (Nat.mul_le_mul_right_iff (zTa k)).symm
theorem zS5 (N D:Nat)(e x:Int):tnG (N*10^x.toNat) (D*10^(-x).toNat) (e+x)↔tnG N D e:=by
 rw [zAl N D (show (((e+x).toNat+(-x).toNat:Nat):Int)-(((-(e+x)).toNat+x.toNat:Nat):Int)=e by omega)]
 unfold tnG
 rw [Nat.pow_add,Nat.pow_add,Nat.mul_assoc,Nat.mul_assoc,Nat.mul_comm (10^(e+x).toNat),Nat.mul_comm (10^(-(e+x)).toNat)]
theorem zDt {N D:Nat}{L:Int}(h:TnE N D L)(x:Int):TnE (N*10^x.toNat) (D*10^(-x).toNat) (L+x):=by
 unfold TnE at *
 rw [show L+x+1=L+1+x by omega,zS5,zS5]
 exact h
theorem tnX_sh {N D:Nat}{L:Int}(hN:0<N)(hD:0<D)(h:TnE N D L)(x:Int):tnX (N*10^x.toNat) (D*10^(-x).toNat)=L+x :=
 (zJn (Nat.mul_pos hN (zTa _)) (Nat.mul_pos hD (zTa _))).only (zDt h x)
theorem dk_at (N D:Nat)(x q:Int):∃ k,0<k/\dkA (N*10^x.toNat) q=N*10^(x-q).toNat*k/\dkZ (D*10^(-x).toNat) q=D*10^(-(x-q)).toNat*k:=by
 refine ⟨10^(x.toNat+(-q).toNat-(x-q).toNat),zTa _,?_,?_⟩
 ·unfold dkA
  rw [Nat.mul_assoc,Nat.mul_assoc,← Nat.pow_add,← Nat.pow_add]
  congr 2
  omega
 ·unfold dkZ
  rw [Nat.mul_assoc,Nat.mul_assoc,← Nat.pow_add,← Nat.pow_add]
  congr 2
  omega
theorem yMb (f:DF)(d:Int)(s:Bool)(N D:Nat)(x E:Int):dkC0 f d s (N*10^x.toNat) (D*10^(-x).toNat) E=whC d s (N*10^(x-dkQ f E).toNat) (D*10^(-(x-dkQ f E)).toNat):=by
 obtain ⟨k,hk,h1,h2⟩:=dk_at N D x (dkQ f E)
 unfold dkC0
 rw [h1,h2,zDv _ _ _ _ hk]
theorem dkX_at (f:DF)(N D:Nat)(x E:Int):dkX f (N*10^x.toNat) (D*10^(-x).toNat) E=decide (N*10^(x-dkQ f E).toNat%(D*10^(-(x-dkQ f E)).toNat)=0):=by
 obtain ⟨k,hk,h1,h2⟩:=dk_at N D x (dkQ f E)
 unfold dkX
 rw [h1,h2,Nat.mul_mod_mul_right]
 refine decide_eq_decide.2 ?_
 rw [Nat.mul_eq_zero]
 omega
theorem zJ7 (d:Int)(s:Bool){A Z:Nat}(hA:0<A)(h:2*A<Z):whC d s A Z=if d≠0/\d≠1/\inB d s=true then 1 else 0:=by
 unfold whC faB
 rw [Nat.div_eq_of_lt (by omega),Nat.mod_eq_of_lt (by omega),if_neg (show ¬ A=0 by omega)]
 by_cases h0:d=0
 ·rw [if_pos h0,if_neg (by simp;omega),if_neg (by omega)]
 ·rw [if_neg h0]
  by_cases h1:d=1
  ·rw [if_pos h1,if_neg (by simp;omega),if_neg (by omega)]
  ·rw [if_neg h1]
   cases inB d s
   ·simp
   ·simp [h0,h1]
theorem zO6 {f:DF}(hf:f.ok)(d:Int)(s:Bool){N D:Nat}{E:Int}(y:Int)(hN:0<N)(h:TnE N D E)(hE:E<=f.l-2) :
  dkD f d s N D E y=⟨1,s,false,f.l,if d≠0/\d≠1/\inB d s=true then 1 else 0⟩/\dkF f d s N D E=12:=by
 obtain ⟨m0,m1,l0,l1,lm,j0,j1⟩:=zKx hf
 have hq:dkQ f E=f.l:=by unfold dkQ;omega
 have hn:¬ tnG N D (f.l-1):=fun g=>h.2 (zKn g (by omega))
 rw [zAl N D (show ((f.l.toNat:Nat):Int)-(((-f.l).toNat+1:Nat):Int)=f.l-1 by omega),Nat.pow_succ,← Nat.mul_assoc] at hn
 have hA:0<dkA N f.l:=Nat.mul_pos hN (zTa _)
 have hAZ:dkA N f.l*10<dkZ D f.l:=by unfold dkA dkZ;omega
 have hC:dkC0 f d s N D E=if d≠0/\d≠1/\inB d s=true then 1 else 0:=by
  unfold dkC0
  rw [hq]
  exact zJ7 d s hA (by omega)
 have hX:dkX f N D E=false:=by
  unfold dkX
  rw [hq,Nat.mod_eq_of_lt (by omega)]
  exact decide_eq_false (by omega)
 have hlt:¬ (10:Nat)^(3*f.j+1)<=dkC0 f d s N D E:=by
  have:(10:Nat)^1<=10^(3*f.j+1):=Nat.pow_le_pow_right (by decide) (by omega)
  rw [hC]
  split<;>omega
 have hEe:dkE f d s N D E=f.l:=by unfold dkE;rw [if_neg hlt,hq]
 have hCc:dkC f d s N D E=if d≠0/\d≠1/\inB d s=true then 1 else 0:=by unfold dkC;rw [if_neg hlt,hC]
 unfold dkD dkF
 rw [hEe,hX,hCc]
 have hml:¬ f.m<f.l:=by omega
 refine ⟨?_,?_⟩
 ·rw [if_neg hml];rfl
 ·rw [if_neg hml]
  show (if E<f.l+3*f.j then (12:Int) else 8)=12
  exact if_pos (by omega)
theorem zIz {f:DF}(d:Int)(s:Bool){N D:Nat}{E:Int}(y:Int)(hE:f.m+(3*f.j+1)<=E) :
  dkD f d s N D E y=(if inB d s then ⟨2,s,false,0,0⟩ else ⟨1,s,false,f.m,10^(3*f.j+1)-1⟩)/\dkF f d s N D E=10:=by
 have hq:f.m<dkE f d s N D E:=by unfold dkE dkQ;split<;>omega
 unfold dkD dkF
 rw [if_pos hq,if_pos hq]
 exact ⟨rfl,rfl⟩
def pX (f:DF)(L x:Int):Int:=min (max x (f.l-2-L)) (f.m+(3*f.j+1)-L)
theorem zV4 {f:DF}(hf:f.ok)(d:Int)(s:Bool){N D:Nat}{L:Int}(x y:Int)(hN:0<N)(h:TnE N D L)(hL:-9000<=L/\L<=9000) :
  dkD f d s (N*10^(clT x).toNat) (D*10^(-(clT x)).toNat) (L+clT x) y=dkD f d s (N*10^(pX f L x).toNat) (D*10^(-(pX f L x)).toNat) (L+pX f L x) y
  /\ dkF f d s (N*10^(clT x).toNat) (D*10^(-(clT x)).toNat) (L+clT x)=dkF f d s (N*10^(pX f L x).toNat) (D*10^(-(pX f L x)).toNat) (L+pX f L x):=by
 obtain ⟨m0,m1,l0,l1,lm,j0,j1⟩:=zKx hf
 rcases Int.lt_or_le x (f.l-2-L) with c|c
 ·have e1:L+clT x<=f.l-2:=by unfold clT;omega
  have e2:L+pX f L x<=f.l-2:=by unfold pX;omega
  obtain ⟨a1,a2⟩:=zO6 hf d s y (Nat.mul_pos hN (zTa _)) (zDt h (clT x)) e1
  obtain ⟨b1,b2⟩:=zO6 hf d s y (Nat.mul_pos hN (zTa _)) (zDt h (pX f L x)) e2
  exact ⟨a1.trans b1.symm,a2.trans b2.symm⟩
 ·rcases Int.lt_or_le (f.m+(3*f.j+1)-L) x with c'|c'
  ·have e1:f.m+(3*f.j+1)<=L+clT x:=by unfold clT;omega
   have e2:f.m+(3*f.j+1)<=L+pX f L x:=by unfold pX;omega
   obtain ⟨a1,a2⟩:=zIz (f:=f) (N:=N*10^(clT x).toNat) (D:=D*10^(-(clT x)).toNat) d s y e1
   obtain ⟨b1,b2⟩:=zIz (f:=f) (N:=N*10^(pX f L x).toNat) (D:=D*10^(-(pX f L x)).toNat) d s y e2
   exact ⟨a1.trans b1.symm,a2.trans b2.symm⟩
  ·have e:clT x=pX f L x:=by unfold clT pX;omega
   rw [e]
   exact ⟨rfl,rfl⟩
theorem tn_bd {N D:Nat}{L:Int}(hN:0<N)(hD:0<D)(h1:bl N<=25600)(h2:bl D<=25600)(h:TnE N D L):-9000<=L/\L<=9000:=by
 have a:=zWv hD h.1
 have b:=tnG_dn hN h.2
 omega
theorem yVa {n d:Int}{s:Bool}{N D:Nat}{x y L:Int}(hE:rqE n d N D=0)(hN:N≠0)(h:TnE N D L) :
  rqD n d s N D x y=dkD (fD n) d s (N*10^(pX (fD n) L x).toNat) (D*10^(-(pX (fD n) L x)).toNat) (L+pX (fD n) L x) y
  /\ rqF n d s N D x=dkF (fD n) d s (N*10^(pX (fD n) L x).toNat) (D*10^(-(pX (fD n) L x)).toNat) (L+pX (fD n) L x):=by
 obtain ⟨h1,h2,h3,h4,h5⟩:=zSp hE
 have hN':0<N:=by omega
 have hD':0<D:=by omega
 obtain ⟨a,b⟩:=zV4 (zTb n) d s x y hN' h (tn_bd hN' hD' h4 h5 h)
 unfold rqD rqF
 rw [if_pos hE,if_pos hE,if_neg hN,if_neg hN,tnX_sh hN' hD' h,a,b]
 exact ⟨rfl,rfl⟩
def dcW (X:Nat):List UInt8:=if X=0 then [] else dcD X (bl X)
theorem zYo (X:Nat):gdD (dcW X)/\dV (dcW X)=X:=by
 unfold dcW
 by_cases h0:X=0
 ·rw [if_pos h0]
  exact ⟨Or.inl rfl,h0▸rfl⟩
 ·rw [if_neg h0]
  have hX:(0:Int)<X:=by omega
  have hL:(X:Int)<10^bl X:=by
   have h1:=(yGc h0).2.1
   have h2:=Nat.pow_le_pow_left (show 2<=10 by decide) (bl X)
   have h3:X<10^bl X:=by omega
   exact_mod_cast h3
  obtain ⟨d1,d2,d3⟩:=zZo hX hL
  exact ⟨d1,by omega⟩
theorem dcW_ne {X:Nat}(h:X≠0):dcW X≠[]:=fun e=>h (by rw [← (zYo X).2,e];rfl)
theorem ten_28 {m q:Nat}(hm:m<=93*q):2^m<=10^(28*q):=by
 have a1:2^m<=2^(93*q):=Nat.pow_le_pow_right (by decide) hm
 have a2:(2:Nat)^(93*q)<=10^(28*q):=by
  rw [Nat.pow_mul,Nat.pow_mul 10]
  exact Nat.pow_le_pow_left (by decide) _
 exact Nat.le_trans a1 a2
theorem zXz {X:Nat}(h0:X≠0):1<=(dcW X).length/\10^((dcW X).length-1)<=X/\X<10^(dcW X).length:=by
 obtain ⟨d1,d2⟩:=zYo X
 have hne:=dcW_ne h0
 have hlt:=(yYb (zAk d1)).1
 rcases d1 with h|⟨h,hh⟩
 ·exact absurd h hne
 have hge:=dV_ge (zGq h) hh hne
 rw [d2] at hlt hge
 refine ⟨?_,hge,hlt⟩
 rcases Nat.eq_zero_or_pos (dcW X).length with h|h
 ·exact absurd (List.eq_nil_of_length_eq_zero h) hne
 ·exact h
theorem zVm {X:Nat}(h0:X≠0)(hb:bl X<=39785):(dcW X).length<=11984:=by
 obtain ⟨h1,h2,h3⟩:=zXz h0
 have h4:X<2^bl X:=bl_le.1 (Nat.le_refl _)
 obtain ⟨q,hq⟩:∃ q:Nat,q=428:=⟨_,rfl⟩
 have h5:=ten_28 (m:=bl X) (q:=q) (by omega)
 have h6:10^((dcW X).length-1)<10^(28*q):=Nat.lt_of_le_of_lt h2 (Nat.lt_of_lt_of_le h4 h5)
 have:=(Nat.pow_lt_pow_iff_right (by decide:1<10)).1 h6
 omega
theorem zT9 {K X:Nat}{v:Value}{w:World}(hK:K<100000)(hX:bl X<=128000)(h0:X≠0)(h:Nt K X v w):CB 48 #[v] w (.tuple #[.string (B (dcW X)),.int .i64 0]):=by
 obtain ⟨a,n,c,z,rfl,hn,hN,hv⟩:=h
 have hs:sizeL z n<=2000:=(zDg hN.2.2.1 hv).2 hX
 unfold dcW
 rw [if_neg h0]
 have hX0:(0:Int)<X:=by omega
 have hL:(X:Int)<10^bl X:=by
  have h1:=(yGc h0).2.1
  have h2:=Nat.pow_le_pow_left (show 2<=10 by decide) (bl X)
  have h3:X<10^bl X:=by omega
  exact_mod_cast h3
 refine (zIg a n c z w (by omega) hN hs).mono fun r w' ⟨L,hL',he,hB⟩=>⟨?_,hB⟩
 rw [hv] at hL' he
 rw [he,zGk (Int.le_of_lt hX0) hL' hL,← zXs hX0 hL]
 show _=Ending.returned (.tuple #[.string (B (dcD X (bl X))),.int .i64 0])
 unfold dcD
 rw [B_of]
section
theorem zQx (m:Nat)(w:World)(hm:m<=12000):Calls Tryz.prog 56 #[.int .i64 10,.int .i64 (m:Int)] w fun r w'=>∃ v,r=.returned (.tuple #[v,.int .i64 0])/\NT 2001 (10^m) v w'/\Below w.heap.size w w':=by
 refine (zG3 10 m w (Or.inr rfl) hm).mono fun r w' ⟨g,k,cap,z,e1,hk,hN,hv,hs,hB⟩=>⟨_,e1,⟨g,k,cap,z,rfl,hk,hN,?_,hs⟩,hB⟩
 rw [hv];simp
attribute [local irreducible] W4 Nz Nt NT
theorem zRm (m:Nat)(w:World)(hm:m<=12000):CE 115 #[.int .i64 (m:Int)] w (NT 2001 (10^m)):=by
 have c1:=fun W=>zQx m W hm
 go_enter Tryz.func115,Tryz.ntmps115
 go_wp2_with (go_at_call 56;refine (c1 _).mono ?_;rintro r w1 ⟨v,rfl,hv,hb1⟩)
 go_ret
 exact ⟨v,rfl,hv,hb1⟩
theorem ddig_w {v:Value}{l:List UInt8}{w:World}(hl:l.length<=100000)(c1:∀ W,Below w.heap.size w W->CB 48 #[v] W (.tuple #[.string (B l),.int .i64 0])) :
  CB 175 #[v] w (.int .i64 (l.length:Int)):=by
 have hB:=zFa l
 go_enter Tryz.func175,Tryz.ntmps175
 go_wp2_with (go_at_call 48;refine (c1 _ bgo).mono ?_;rintro r w1 ⟨rfl,hb1⟩)
 go_ret
 exact ⟨by simp [hB],hb1⟩
theorem zX6 {K X:Nat}{v:Value}{w:World}(hK:K<100000)(h0:X≠0)(hb:bl X<=39785)(h:Nt K X v w):CB 175 #[v] w (.int .i64 ((dcW X).length:Int)):=by
 have:=zVm h0 hb
 exact ddig_w (by omega) fun W hW=>zT9 hK (by omega) h0 (h.next hW)
section
variable (m:Nat)(vn vd:Value)(w:World)(A P:Nat)
theorem zBz (n:Int)(hn:n<0)(hm:-n=(m:Int))(hm2:m<=12000)
  (c1:∀ W,CE 115 #[.int .i64 (m:Int)] W (NT 2001 (10^m)))
  (c2:∀ W p,Below w.heap.size w W->NT 2001 (10^m) p W->Calls Tryz.prog 81 #[vd,p] W fun e w'=>∃ u,e=.returned (.tuple #[u,.int .i64 0])/\NT 2001 P u w'/\Below W.heap.size W w') :
  Calls Tryz.prog 114 #[vn,vd,.int .i64 n] w fun r w'=>∃ v,r=.returned (.tuple #[vn,v])/\NT 2001 P v w'/\Below w.heap.size w w':=by
 obtain rfl:n=-(m:Int):=by omega
 clear hm
 have hm1:0<m:=by omega
 go_enter Tryz.func114,Tryz.ntmps114
 go_wp2_with (first
  | (go_at_call 115;refine (c1 _).mono ?_;rintro r w1 ⟨v1,rfl,hv1,hb1⟩)
  | (go_at_call 81;refine (c2 _ _ hb1 hv1).mono ?_;rintro r w2 ⟨v2,rfl,hv2,hb2⟩))
 exact bodyPost_ret (v:=.tuple #[vn,v2]) (by simp only [results,Tryz.results114];go_simp) rfl ⟨_,rfl,hv2,bnx hb1 hb2⟩
theorem zAz (hm2:m<=12000)
  (c1:∀ W,CE 115 #[.int .i64 (m:Int)] W (NT 2001 (10^m)))
  (c2:∀ W p,Below w.heap.size w W->NT 2001 (10^m) p W->Calls Tryz.prog 81 #[vn,p] W fun e w'=>∃ u,e=.returned (.tuple #[u,.int .i64 0])/\NT 2001 P u w'/\Below W.heap.size W w') :
  Calls Tryz.prog 114 #[vn,vd,.int .i64 (m:Int)] w fun r w'=>∃ v,r=.returned (.tuple #[v,vd])/\NT 2001 P v w'/\Below w.heap.size w w':=by
 go_enter Tryz.func114,Tryz.ntmps114
 go_wp2_with (first
  | (go_at_call 115;refine (c1 _).mono ?_;rintro r w1 ⟨v1,rfl,hv1,hb1⟩)
  | (go_at_call 81;refine (c2 _ _ hb1 hv1).mono ?_;rintro r w2 ⟨v2,rfl,hv2,hb2⟩))
 exact bodyPost_ret (v:=.tuple #[v2,vd]) (by simp only [results,Tryz.results114];go_simp) rfl ⟨_,rfl,hv2,bnx hb1 hb2⟩
end
theorem zTo (n:Int){N D:Nat}{vn vd:Value}{w:World}(h:Nt 2001 N vn w)(h':Nt 2001 D vd w)(hn:-12000<=n/\n<=12000)(h1:bl N+4*n.toNat+1<=127000)(h2:bl D+4*(-n).toNat+1<=127000) :
  Calls Tryz.prog 114 #[vn,vd,.int .i64 n] w fun r w'=>∃ va vb,r=.returned (.tuple #[va,vb])/\Nt 2001 (N*10^n.toNat) va w'/\Nt 2001 (D*10^(-n).toNat) vb w'/\Below w.heap.size w w':=by
 have t1:=zGr n.toNat
 have t2:=zGr (-n).toNat
 by_cases hn0:n<0
 ·have e0:n.toNat=0:=by omega
  rw [e0,Nat.pow_zero,Nat.mul_one]
  refine (zBz (-n).toNat vn vd w (D*10^(-n).toNat) n hn0 (by omega) (by omega) (fun W=>zRm _ W (by omega)) (fun W p hW hp=>zC6 (by decide) (by decide) (h'.next hW) hp.nt (by omega))).mono ?_
  rintro r w' ⟨v,e1,e2,e3⟩
  exact ⟨_,_,e1,h.next e3,e2.nt,e3⟩
 ·have e0:(-n).toNat=0:=by omega
  rw [e0,Nat.pow_zero,Nat.mul_one]
  have:=zAz n.toNat vn vd w (N*10^n.toNat) (by omega) (fun W=>zRm _ W (by omega)) (fun W p hW hp=>zC6 (by decide) (by decide) (h.next hW) hp.nt (by omega))
  rw [Int.toNat_of_nonneg (by omega)] at this
  refine this.mono ?_
  rintro r w' ⟨v,e1,e2,e3⟩
  exact ⟨_,_,e1,e2.nt,h'.next e3,e3⟩
section
variable (vn vd:Value)(w:World)(a b:Nat)(c:Int)(ha:a<=12000)(hb:b<=12000)
 (c1:∀ W,Below w.heap.size w W->CB 175 #[vn] W (.int .i64 (a:Int)))
 (c1d:∀ W,Below w.heap.size w W->CB 175 #[vd] W (.int .i64 (b:Int)))
 (c2:∀ W n,n=(b:Int)-a->Below w.heap.size w W->Calls Tryz.prog 114 #[vn,vd,.int .i64 n] W fun r w'=>∃ va vb,r=.returned (.tuple #[va,vb])/\Below W.heap.size W w'/\(∀ W',Below w'.heap.size w' W'->Calls Tryz.prog 57 #[va,vb] W' fun r w''=>r=.returned (.int .i64 c)/\Below W'.heap.size W' w''))
include ha hb c1 c1d c2
theorem yGb (hc:c<0):CB 112 #[vn,vd] w (.int .i64 ((a:Int)-b-1)):=by
 go_enter Tryz.func112,Tryz.ntmps112
 go_wp2_with (first
  | (have:=hb2;go_at_call 114;refine (c2 _ _ (by omega) (bnx hb1 hb2)).mono ?_;rintro r w3 ⟨va,vb,rfl,hb3,c3⟩)
  | (go_at_call 57;refine (c3 _ (Below.refl _ _)).mono ?_;rintro r w4 ⟨rfl,hb4⟩)
  | (have:=hb1;go_at_call_of 175 vd;refine (c1d _ hb1).mono ?_;rintro r w2 ⟨rfl,hb2⟩)
  | (go_at_call_of 175 vn;refine (c1 _ bgo).mono ?_;rintro r w1 ⟨rfl,hb1⟩))
 go_ret
 exact ⟨rfl,bnx (bnx (bnx hb1 hb2) hb3) hb4⟩
theorem yHb (hc:¬ c<0):CB 112 #[vn,vd] w (.int .i64 ((a:Int)-b)):=by
 go_enter Tryz.func112,Tryz.ntmps112
 go_wp2_with (first
  | (have:=hb2;go_at_call 114;refine (c2 _ _ (by omega) (bnx hb1 hb2)).mono ?_;rintro r w3 ⟨va,vb,rfl,hb3,c3⟩)
  | (go_at_call 57;refine (c3 _ (Below.refl _ _)).mono ?_;rintro r w4 ⟨rfl,hb4⟩)
  | (have:=hb1;go_at_call_of 175 vd;refine (c1d _ hb1).mono ?_;rintro r w2 ⟨rfl,hb2⟩)
  | (go_at_call_of 175 vn;refine (c1 _ bgo).mono ?_;rintro r w1 ⟨rfl,hb1⟩))
 go_ret
 exact ⟨rfl,bnx (bnx (bnx hb1 hb2) hb3) hb4⟩
end
theorem zEz {N D:Nat}{vn vd:Value}{w:World}(h:Nt 2001 N vn w)(h':Nt 2001 D vd w)(hN:N≠0)(hD:D≠0)(h1:bl N<=25600)(h2:bl D<=25600) :
  ∃ L,TnE N D L/\CB 112 #[vn,vd] w (.int .i64 L):=by
 obtain ⟨n1,n2,n3⟩:=zXz hN
 obtain ⟨d1,d2,d3⟩:=zXz hD
 have nm:=zVm hN (by omega)
 have dm:=zVm hD (by omega)
 have c1:=fun W (hb:Below w.heap.size w W)=>zX6 (by decide) hN (by omega) (h.next hb)
 have c1d:=fun W (hb:Below w.heap.size w W)=>zX6 (by decide) hD (by omega) (h'.next hb)
 generalize ha:(dcW N).length=a at *
 generalize hb:(dcW D).length=b at *
 have hab:3*a<=bl N+3/\3*b<=bl D+3:=by
  constructor
  ·have:=zWv (N:=N) (D:=1) (E:=(a:Int)-1) (by decide) (by rw [zAl N 1 (show (((a-1:Nat)):Int)-((0:Nat):Int)=(a:Int)-1 by omega)];omega)
   omega
  ·have:=zWv (N:=D) (D:=1) (E:=(b:Int)-1) (by decide) (by rw [zAl D 1 (show (((b-1:Nat)):Int)-((0:Nat):Int)=(b:Int)-1 by omega)];omega)
   omega
 have c2:∀ W n,n=(b:Int)-a->Below w.heap.size w W->Calls Tryz.prog 114 #[vn,vd,.int .i64 n] W fun r w'=>∃ va vb,r=.returned (.tuple #[va,vb])/\Below W.heap.size W w'/\(∀ W',Below w'.heap.size w' W'->Calls Tryz.prog 57 #[va,vb] W' fun r w''=>r=.returned (.int .i64 (sgn ((N*10^(-((a:Int)-b)).toNat:Nat):Int) ((D*10^((a:Int)-b).toNat:Nat):Int)))/\Below W'.heap.size W' w''):=by
  intro W n hn hW
  refine (zTo n (h.next hW) (h'.next hW) (by omega) (by omega) (by omega)).mono ?_
  rintro r w' ⟨va,vb,e1,e2,e3,e4⟩
  refine ⟨va,vb,e1,e4,fun W' hW'=>?_⟩
  rw [show n=-((a:Int)-b) by omega] at e2 e3
  rw [Int.neg_neg] at e3
  exact zWr (by decide) (by decide) (e2.next hW') (e3.next hW')
 have up:¬ tnG N D ((a:Int)-b+1):=by
  rw [zAl N D (show ((a:Nat):Int)-((b-1:Nat):Int)=(a:Int)-b+1 by omega)]
  intro hh
  have k1:N*10^(b-1)<10^a*10^(b-1):=Nat.mul_lt_mul_of_pos_right n3 (zTa _)
  have k2:10^a*10^(b-1)<=10^a*D:=Nat.mul_le_mul_left _ d2
  rw [Nat.mul_comm (10^a) D] at k2
  omega
 have lo:tnG N D ((a:Int)-b-1):=by
  rw [zAl N D (show ((a-1:Nat):Int)-((b:Nat):Int)=(a:Int)-b-1 by omega)]
  have k1:D*10^(a-1)<=10^b*10^(a-1):=Nat.mul_le_mul_right _ (Nat.le_of_lt d3)
  have k2:10^b*10^(a-1)<=10^b*N:=Nat.mul_le_mul_left _ n2
  rw [Nat.mul_comm (10^b) N] at k2
  omega
 have hcmp:tnG N D ((a:Int)-b)↔¬ sgn ((N*10^(-((a:Int)-b)).toNat:Nat):Int) ((D*10^((a:Int)-b).toNat:Nat):Int)<0:=by
  unfold tnG
  rcases zFd ((N*10^(-((a:Int)-b)).toNat:Nat):Int) ((D*10^((a:Int)-b).toNat:Nat):Int) with ⟨x,e⟩|⟨x,e⟩|⟨x,e⟩<;>omega
 by_cases hg:tnG N D ((a:Int)-b)
 ·exact ⟨(a:Int)-b,⟨hg,up⟩,yHb vn vd w a b _ (by omega) (by omega) c1 c1d c2 (hcmp.1 hg)⟩
 ·refine ⟨(a:Int)-b-1,⟨lo,?_⟩,yGb vn vd w a b _ (by omega) (by omega) c1 c1d c2 (Decidable.not_not.1 (mt hcmp.2 hg))⟩
  rw [show (a:Int)-b-1+1=(a:Int)-b by omega]
  exact hg
theorem zWy (n:Int)(nm:ByteArray)(wd P ex l m pa:Int)(dn:Bool)(lead x:Int)(w:World)(hP:0<=P/\P<=300)(hl:-100000<=l/\l<=100000)(hm:-100000<=m/\m<=100000)(hd:-100000<=lead/\lead<=100000) :
  CB 113 #[zYa n nm wd P ex l m pa dn,.int .i64 lead,.int .i64 x] w (.int .i64 (min (max x (l-2-lead)) (m+P-lead))):=by
 go_enter Tryz.func113,Tryz.ntmps113
 go_wp2
 go_ret
 exact ⟨by first|rfl|simp,bgo⟩
end
section
attribute [local irreducible] W4
section
variable (s:Bool)(x:Int)(z:Nat->Int)(w:World)
theorem zU6 :
  CB 111 #[.bool s,.slice none 0 0,.int .i64 x] w (.agg #[.int .i64 1,.bool s,.bool false,.int .i64 x,.int .u64 0,.int .u64 0,.int .u64 0,.int .u64 0]):=by
 have hsm:=zAa
 have hcp:=copy0
 go_enter Tryz.func111,Tryz.ntmps111
 go_wp2
 exact bodyPost_ret (v:=.agg #[.int .i64 1,.bool s,.bool false,.int .i64 x,.int .u64 0,.int .u64 0,.int .u64 0,.int .u64 0]) (by simp only [results,Tryz.results111];go_simp) rfl ⟨rfl,bgo⟩
theorem dfin_0 (b off cap:Nat)(hb:b<w.heap.size) :
  CB 111 #[.bool s,.slice (some ⟨b,off,none⟩) 0 cap,.int .i64 x] w (.agg #[.int .i64 1,.bool s,.bool false,.int .i64 x,.int .u64 0,.int .u64 0,.int .u64 0,.int .u64 0]):=by
 have hsm:=zAa
 have hcp:=copy0
 go_enter Tryz.func111,Tryz.ntmps111
 go_wp2
 exact bodyPost_ret (v:=.agg #[.int .i64 1,.bool s,.bool false,.int .i64 x,.int .u64 0,.int .u64 0,.int .u64 0,.int .u64 0]) (by simp only [results,Tryz.results111];go_simp) rfl ⟨rfl,bgo⟩
theorem dfin_1 (b off cap:Nat)(hb:b<w.heap.size)(h0:w.cell? ⟨b,off+0,none⟩=some (.int .u64 (z 0))) :
  CB 111 #[.bool s,.slice (some ⟨b,off,none⟩) 1 cap,.int .i64 x] w (.agg #[.int .i64 1,.bool s,.bool false,.int .i64 x,.int .u64 (z 0),.int .u64 0,.int .u64 0,.int .u64 0]):=by
 have hsm:=zAa
 simp only [Nat.add_zero] at h0
 have hcp:=copy1
 have e0:b<=w.heap.size:=by omega
 have e1:b<w.heap.size+1:=by omega
 have e2:b<w.heap.size+1+1:=by omega
 have e3:b<w.heap.size+2:=by omega
 have e4:b<=w.heap.size+1:=by omega
 have n0:¬ b=w.heap.size:=by omega
 have n1:¬ b=w.heap.size+1:=by omega
 have n2:¬ b=w.heap.size+1+1:=by omega
 go_enter Tryz.func111,Tryz.ntmps111
 go_wp2
 exact bodyPost_ret (v:=.agg #[.int .i64 1,.bool s,.bool false,.int .i64 x,.int .u64 (z 0),.int .u64 0,.int .u64 0,.int .u64 0]) (by simp only [results,Tryz.results111];go_simp) rfl ⟨rfl,bgo⟩
theorem dfin_2 (b off cap:Nat)(hb:b<w.heap.size)(h0:w.cell? ⟨b,off+0,none⟩=some (.int .u64 (z 0)))(h1:w.cell? ⟨b,off+1,none⟩=some (.int .u64 (z 1))) :
  CB 111 #[.bool s,.slice (some ⟨b,off,none⟩) 2 cap,.int .i64 x] w (.agg #[.int .i64 1,.bool s,.bool false,.int .i64 x,.int .u64 (z 0),.int .u64 (z 1),.int .u64 0,.int .u64 0]):=by
 have hsm:=zAa
 simp only [Nat.add_zero] at h0
 have hcp:=copy2
 have e0:b<=w.heap.size:=by omega
 have e1:b<w.heap.size+1:=by omega
 have e2:b<w.heap.size+1+1:=by omega
 have e3:b<w.heap.size+2:=by omega
 have e4:b<=w.heap.size+1:=by omega
 have n0:¬ b=w.heap.size:=by omega
 have n1:¬ b=w.heap.size+1:=by omega
 have n2:¬ b=w.heap.size+1+1:=by omega
 go_enter Tryz.func111,Tryz.ntmps111
 go_wp2
 exact bodyPost_ret (v:=.agg #[.int .i64 1,.bool s,.bool false,.int .i64 x,.int .u64 (z 0),.int .u64 (z 1),.int .u64 0,.int .u64 0]) (by simp only [results,Tryz.results111];go_simp) rfl ⟨rfl,bgo⟩
theorem dfin_3 (b off cap:Nat)(hb:b<w.heap.size)(h0:w.cell? ⟨b,off+0,none⟩=some (.int .u64 (z 0)))(h1:w.cell? ⟨b,off+1,none⟩=some (.int .u64 (z 1)))(h2:w.cell? ⟨b,off+2,none⟩=some (.int .u64 (z 2))) :
  CB 111 #[.bool s,.slice (some ⟨b,off,none⟩) 3 cap,.int .i64 x] w (.agg #[.int .i64 1,.bool s,.bool false,.int .i64 x,.int .u64 (z 0),.int .u64 (z 1),.int .u64 (z 2),.int .u64 0]):=by
 have hsm:=zAa
 simp only [Nat.add_zero] at h0
 have hcp:=copy3
 have e0:b<=w.heap.size:=by omega
 have e1:b<w.heap.size+1:=by omega
 have e2:b<w.heap.size+1+1:=by omega
 have e3:b<w.heap.size+2:=by omega
 have e4:b<=w.heap.size+1:=by omega
 have n0:¬ b=w.heap.size:=by omega
 have n1:¬ b=w.heap.size+1:=by omega
 have n2:¬ b=w.heap.size+1+1:=by omega
 go_enter Tryz.func111,Tryz.ntmps111
 go_wp2
 exact bodyPost_ret (v:=.agg #[.int .i64 1,.bool s,.bool false,.int .i64 x,.int .u64 (z 0),.int .u64 (z 1),.int .u64 (z 2),.int .u64 0]) (by simp only [results,Tryz.results111];go_simp) rfl ⟨rfl,bgo⟩
theorem dfin_4 (b off cap:Nat)(hb:b<w.heap.size)(h0:w.cell? ⟨b,off+0,none⟩=some (.int .u64 (z 0)))(h1:w.cell? ⟨b,off+1,none⟩=some (.int .u64 (z 1)))(h2:w.cell? ⟨b,off+2,none⟩=some (.int .u64 (z 2)))(h3:w.cell? ⟨b,off+3,none⟩=some (.int .u64 (z 3))) :
  CB 111 #[.bool s,.slice (some ⟨b,off,none⟩) 4 cap,.int .i64 x] w (.agg #[.int .i64 1,.bool s,.bool false,.int .i64 x,.int .u64 (z 0),.int .u64 (z 1),.int .u64 (z 2),.int .u64 (z 3)]):=by
 have hsm:=zAa
 simp only [Nat.add_zero] at h0
 have hcp:=copy4
 have e0:b<=w.heap.size:=by omega
 have e1:b<w.heap.size+1:=by omega
 have e2:b<w.heap.size+1+1:=by omega
 have e3:b<w.heap.size+2:=by omega
 have e4:b<=w.heap.size+1:=by omega
 have n0:¬ b=w.heap.size:=by omega
 have n1:¬ b=w.heap.size+1:=by omega
 have n2:¬ b=w.heap.size+1+1:=by omega
 go_enter Tryz.func111,Tryz.ntmps111
 go_wp2
 exact bodyPost_ret (v:=.agg #[.int .i64 1,.bool s,.bool false,.int .i64 x,.int .u64 (z 0),.int .u64 (z 1),.int .u64 (z 2),.int .u64 (z 3)]) (by simp only [results,Tryz.results111];go_simp) rfl ⟨rfl,bgo⟩
end
theorem zWo (s:Bool)(x:Int){K C:Nat}{v:Value}{w:World}(h:Nz K C v w)(hC:C<2^256) :
  CB 111 #[.bool s,v,.int .i64 x] w (DV 1 s false x C):=by
 obtain ⟨a,k,cap,z,rfl,hk,hN,hv,hs⟩:=h
 have hk4:k<=4:=by
  have:=(zDg (m:=4) hN.2.2.1 hv).2 (bl_le.2 hC)
  omega
 have hv4:val z 4=(C:Int):=by rw [zLa hN.2.2.2.1 4 hk4,hv]
 have hz:∀ i,i<4->z i=W4 C i:=zLp hN.2.2.1 (zJa C) 4 (by rw [hv4,zRb hC])
 have ed:DV 1 s false x C=.agg #[.int .i64 1,.bool s,.bool false,.int .i64 x,.int .u64 (z 0),.int .u64 (z 1),.int .u64 (z 2),.int .u64 (z 3)]:=by
  unfold DV
  rw [hz 0 (by decide),hz 1 (by decide),hz 2 (by decide),hz 3 (by decide)]
 rw [ed]
 have z0:=hN.2.2.2.1
 obtain ⟨n1,n2,n3,n4,n5⟩:=hN
 rcases n5 with ⟨rfl,rfl⟩|⟨b,off,rfl,hb,hc⟩
 ·obtain rfl:k=0:=by omega
  rw [z0 0 (by omega),z0 1 (by omega),z0 2 (by omega),z0 3 (by omega)]
  exact zU6 s x w
 ·have:k=0∨k=1∨k=2∨k=3∨k=4:=by omega
  rcases this with rfl|rfl|rfl|rfl|rfl
  ·rw [z0 0 (by omega),z0 1 (by omega),z0 2 (by omega),z0 3 (by omega)]
   exact dfin_0 s x w b off cap hb
  ·rw [z0 1 (by omega),z0 2 (by omega),z0 3 (by omega)]
   exact dfin_1 s x z w b off cap hb (hc 0 (by decide))
  ·rw [z0 2 (by omega),z0 3 (by omega)]
   exact dfin_2 s x z w b off cap hb (hc 0 (by decide)) (hc 1 (by decide))
  ·rw [z0 3 (by omega)]
   exact dfin_3 s x z w b off cap hb (hc 0 (by decide)) (hc 1 (by decide)) (hc 2 (by decide))
  ·exact dfin_4 s x z w b off cap hb (hc 0 (by decide)) (hc 1 (by decide)) (hc 2 (by decide)) (hc 3 (by decide))
theorem zQ9 {K K' V V':Nat}{v v':Value}{w:World}(hK:K<100000000)(hK':K'<100000000)(h:Nt K V v w)(h':Nt K' V' v' w)(hle:V'<=V) :
  Calls Tryz.prog 177 #[v,v'] w fun e w'=>∃ r,e=.returned (.tuple #[r,.int .i64 0])/\Nz K (V-V') r w'/\Below w.heap.size w w':=by
 obtain ⟨a,k,cap,z,rfl,hk,hN,hv⟩:=h
 obtain ⟨a',k',cap',z',rfl,hk',hN',hv'⟩:=h'
 have s1:=zCa z k
 refine (nsubF a a' k cap k' cap' z z' w (by omega) (by omega) hN hN' (by rw [hv,hv'];omega)).mono fun e w' ⟨g,k2,cap2,z2,h1,h2,h3,h4,h5,h6,_⟩=>⟨_,h1,⟨_,k2,cap2,z2,rfl,by omega,h3,?_,h5⟩,h6⟩
 rw [h4,hv,hv'];omega
attribute [local irreducible] Nz Nt NT
section
variable (n:Int)(nm:ByteArray)(wd P ex l m pa:Int)(dn:Bool)(d:Int)(s:Bool)(w:World)
theorem yBb (h:inB d s=true) :
  CB 116 #[zYa n nm wd P ex l m pa dn,.int .i64 d,.bool s] w (.agg #[.int .i64 2,.bool s,.bool false,.int .i64 0,.int .u64 0,.int .u64 0,.int .u64 0,.int .u64 0]):=by
 have hsm:=zAa
 have c64:=zMb d s
 rw [h] at c64
 go_enter Tryz.func116,Tryz.ntmps116
 go_wp2_with (go_at_call 176;refine (c64 _).mono ?_;rintro r w0 ⟨rfl,rfl⟩)
 exact bodyPost_ret (v:=.agg #[.int .i64 2,.bool s,.bool false,.int .i64 0,.int .u64 0,.int .u64 0,.int .u64 0,.int .u64 0]) (by simp only [results,Tryz.results116];go_simp) rfl ⟨rfl,bgo⟩
theorem yAb (h:inB d s=false)(T G:Nat)(vc vx V0 V1 V2 V3:Int)(vs vg:Bool)
  (c25:∀ W,CE 115 #[.int .i64 P] W (NT 2001 T))
  (c49:∀ W v u,Nt 2001 T v W->Nt 1 1 u W->Calls Tryz.prog 177 #[v,u] W fun e w'=>∃ r,e=.returned (.tuple #[r,.int .i64 0])/\Nz 2001 G r w'/\Below W.heap.size W w')
  (c19:∀ W v,Nz 2001 G v W->CB 111 #[.bool s,v,.int .i64 m] W (.agg #[.int .i64 vc,.bool vs,.bool vg,.int .i64 vx,.int .u64 V0,.int .u64 V1,.int .u64 V2,.int .u64 V3])) :
  CB 116 #[zYa n nm wd P ex l m pa dn,.int .i64 d,.bool s] w (.agg #[.int .i64 vc,.bool vs,.bool vg,.int .i64 vx,.int .u64 V0,.int .u64 V1,.int .u64 V2,.int .u64 V3]):=by
 have hsm:=zAa
 have c64:=zMb d s
 rw [h] at c64
 go_enter Tryz.func116,Tryz.ntmps116
 go_wp2_with (first
  | (go_at_call 176;refine (c64 _).mono ?_;rintro r w0 ⟨rfl,rfl⟩)
  | (go_at_call 115;refine (c25 _).mono ?_;rintro r w2 ⟨v2,rfl,hv2,hb2⟩;have hk2:=hb2;obtain ⟨_,_,_,_,hA2,_⟩:=wz w hb2;obtain ⟨_,_⟩:=zf hb2 (w.heap.size+1);clear hb2)
  | (go_at_call 177;refine (c49 _ _ _ (hv2.nt.next (zEa _ _)) (zE3 (by simp) rfl (by decide))).mono ?_;rintro r w3 ⟨v3,rfl,hv3,hb3⟩;obtain ⟨_,_,_,_,hA3,_⟩:=wz w hb3;obtain ⟨_,_⟩:=zf hb3 (w.heap.size+1);clear hb3)
  | (go_at_call 111;refine wk w (c19 _ _ hv3) ?_;intro w4 hb4 _ _ _ _ hA4 _;obtain ⟨_,_⟩:=zf hb4 (w.heap.size+1);clear hb4))
 exact bodyPost_ret (v:=.agg #[.int .i64 vc,.bool vs,.bool vg,.int .i64 vx,.int .u64 V0,.int .u64 V1,.int .u64 V2,.int .u64 V3]) (by simp only [results,Tryz.results116];go_simp) rfl ⟨rfl,bgo⟩
end
section
variable (n d:Int)(nm:ByteArray)(wd P ex l m pa b:Int)(dn:Bool)(N D:Nat)(vn vd:Value)(w:World)(hT:Tab w)
 (c66:∀ W,Below w.heap.size w W->CQ 110 #[vn] W (.int .i64 (bl N:Int)))
 (c66d:∀ W,Below w.heap.size w W->CQ 110 #[vd] W (.int .i64 (bl D:Int)))
include hT c66 c66d
theorem zD5 (i0 E:Int)(hE:(E != 0)=true)
  (c52:∀ W,Tab W->CB 53 #[.int .i64 n] W (.tuple #[.agg #[.int .i64 i0,.string nm,.int .i64 b,.int .i64 wd,.int .i64 P,.int .i64 ex,.int .i64 l,.int .i64 m,.int .i64 pa,.bool dn],.int .i64 E])) :
  CB 109 #[.int .i64 n,.int .i64 d,vn,vd] w (.tuple #[IZ,.int .i64 1]):=by
 have hsm:=zAa
 go_enter Tryz.func109,Tryz.ntmps109
 go_wp2_with (first
  | (go_at_call 53;refine wk w (c52 _ (hT.go bgo)) ?_;intro w1 hb1 _ _ _ _ hA1 _;clear hb1))
 exact bodyPost_ret (v:=.tuple #[IZ,.int .i64 1]) (by simp only [results,Tryz.results109];go_simp) rfl ⟨rfl,bgo⟩
theorem zF5 (i0:Int)(hE:(b != 10)=true)
  (c52:∀ W,Tab W->CB 53 #[.int .i64 n] W (.tuple #[.agg #[.int .i64 i0,.string nm,.int .i64 b,.int .i64 wd,.int .i64 P,.int .i64 ex,.int .i64 l,.int .i64 m,.int .i64 pa,.bool dn],.int .i64 0])) :
  CB 109 #[.int .i64 n,.int .i64 d,vn,vd] w (.tuple #[IZ,.int .i64 1]):=by
 have hsm:=zAa
 go_enter Tryz.func109,Tryz.ntmps109
 go_wp2_with (first
  | (go_at_call 53;refine wk w (c52 _ (hT.go bgo)) ?_;intro w1 hb1 _ _ _ _ hA1 _;clear hb1))
 exact bodyPost_ret (v:=.tuple #[IZ,.int .i64 1]) (by simp only [results,Tryz.results109];go_simp) rfl ⟨rfl,bgo⟩
theorem zE5 (hd:decide (knB d)=false)
  (c52:∀ W,Tab W->CB 53 #[.int .i64 n] W (.tuple #[zYa n nm wd P ex l m pa dn,.int .i64 0])) :
  CB 109 #[.int .i64 n,.int .i64 d,vn,vd] w (.tuple #[IZ,.int .i64 1]):=by
 have hsm:=zAa
 have c53:=zPd d
 rw [hd] at c53
 go_enter Tryz.func109,Tryz.ntmps109
 go_wp2_with (first
  | (go_at_call 53;refine wk w (c52 _ (hT.go bgo)) ?_;intro w1 hb1 _ _ _ _ hA1 _;clear hb1)
  | (go_at_call 44;refine (c53 _).mono ?_;rintro r w2 ⟨rfl,rfl⟩))
 exact bodyPost_ret (v:=.tuple #[IZ,.int .i64 1]) (by simp only [results,Tryz.results109];go_simp) rfl ⟨rfl,bgo⟩
theorem zZ4 (hd:decide (knB d)=true)(hD:(((bl D:Nat):Int)==0)=true)
  (c52:∀ W,Tab W->CB 53 #[.int .i64 n] W (.tuple #[zYa n nm wd P ex l m pa dn,.int .i64 0])) :
  CB 109 #[.int .i64 n,.int .i64 d,vn,vd] w (.tuple #[IZ,.int .i64 1]):=by
 have hsm:=zAa
 have c53:=zPd d
 rw [hd] at c53
 go_enter Tryz.func109,Tryz.ntmps109
 go_wp2_with (first
  | (go_at_call 53;refine wk w (c52 _ (hT.go bgo)) ?_;intro w1 hb1 _ _ _ _ hA1 _;clear hb1)
  | (go_at_call 44;refine (c53 _).mono ?_;rintro r w2 ⟨rfl,rfl⟩)
  | (go_at_call_of 110 vd;refine (c66d _ bgo).mono ?_;rintro r w4 ⟨rfl,rfl⟩))
 exact bodyPost_ret (v:=.tuple #[IZ,.int .i64 1]) (by simp only [results,Tryz.results109];go_simp) rfl ⟨rfl,bgo⟩
theorem zA5 (hd:decide (knB d)=true)(hD:(((bl D:Nat):Int)==0)=false)(hN:(25600:Int)<(bl N:Int))
  (c52:∀ W,Tab W->CB 53 #[.int .i64 n] W (.tuple #[zYa n nm wd P ex l m pa dn,.int .i64 0])) :
  CB 109 #[.int .i64 n,.int .i64 d,vn,vd] w (.tuple #[IZ,.int .i64 4]):=by
 have hsm:=zAa
 have c53:=zPd d
 rw [hd] at c53
 go_enter Tryz.func109,Tryz.ntmps109
 go_wp2_with (first
  | (go_at_call 53;refine wk w (c52 _ (hT.go bgo)) ?_;intro w1 hb1 _ _ _ _ hA1 _;clear hb1)
  | (go_at_call 44;refine (c53 _).mono ?_;rintro r w2 ⟨rfl,rfl⟩)
  | (go_at_call_of 110 vn;refine (c66 _ bgo).mono ?_;rintro r w3 ⟨rfl,rfl⟩)
  | (go_at_call_of 110 vd;refine (c66d _ bgo).mono ?_;rintro r w4 ⟨rfl,rfl⟩))
 exact bodyPost_ret (v:=.tuple #[IZ,.int .i64 4]) (by simp only [results,Tryz.results109];go_simp) rfl ⟨rfl,bgo⟩
theorem zB5 (hd:decide (knB d)=true)(hD:(((bl D:Nat):Int)==0)=false)(hN:¬ (25600:Int)<(bl N:Int))(hDl:(25600:Int)<(bl D:Int))
  (c52:∀ W,Tab W->CB 53 #[.int .i64 n] W (.tuple #[zYa n nm wd P ex l m pa dn,.int .i64 0])) :
  CB 109 #[.int .i64 n,.int .i64 d,vn,vd] w (.tuple #[IZ,.int .i64 4]):=by
 have hsm:=zAa
 have c53:=zPd d
 rw [hd] at c53
 go_enter Tryz.func109,Tryz.ntmps109
 go_wp2_with (first
  | (go_at_call 53;refine wk w (c52 _ (hT.go bgo)) ?_;intro w1 hb1 _ _ _ _ hA1 _;clear hb1)
  | (go_at_call 44;refine (c53 _).mono ?_;rintro r w2 ⟨rfl,rfl⟩)
  | (go_at_call_of 110 vn;refine (c66 _ bgo).mono ?_;rintro r w3 ⟨rfl,rfl⟩)
  | (go_at_call_of 110 vd;refine (c66d _ bgo).mono ?_;rintro r w4 ⟨rfl,rfl⟩))
 exact bodyPost_ret (v:=.tuple #[IZ,.int .i64 4]) (by simp only [results,Tryz.results109];go_simp) rfl ⟨rfl,bgo⟩
theorem zC5 (hd:decide (knB d)=true)(hD:(((bl D:Nat):Int)==0)=false)(hN:¬ (25600:Int)<(bl N:Int))(hDl:¬ (25600:Int)<(bl D:Int))
  (c52:∀ W,Tab W->CB 53 #[.int .i64 n] W (.tuple #[zYa n nm wd P ex l m pa dn,.int .i64 0])) :
  CB 109 #[.int .i64 n,.int .i64 d,vn,vd] w (.tuple #[zYa n nm wd P ex l m pa dn,.int .i64 0]):=by
 have hsm:=zAa
 have c53:=zPd d
 rw [hd] at c53
 go_enter Tryz.func109,Tryz.ntmps109
 go_wp2_with (first
  | (go_at_call 53;refine wk w (c52 _ (hT.go bgo)) ?_;intro w1 hb1 _ _ _ _ hA1 _;clear hb1)
  | (go_at_call 44;refine (c53 _).mono ?_;rintro r w2 ⟨rfl,rfl⟩)
  | (go_at_call_of 110 vn;refine (c66 _ bgo).mono ?_;rintro r w3 ⟨rfl,rfl⟩)
  | (go_at_call_of 110 vd;refine (c66d _ bgo).mono ?_;rintro r w4 ⟨rfl,rfl⟩))
 exact bodyPost_ret (v:=.tuple #[zYa n nm wd P ex l m pa dn,.int .i64 0]) (by simp only [results,Tryz.results109];go_simp) rfl ⟨rfl,bgo⟩
end
theorem zBs {mo want:Int}{k c:Nat}{q:Int}(h:¬ (q<want/\q<mo/\c%10=0)):mbr mo want k c q=(c,q):=by
 cases k with
 | zero=>rfl
 | succ k=>show (if _ then _ else _)=_;rw [if_neg h]
theorem zDz (mo want:Int)(c0:Nat)(q0:Int)(v:Value)(w:World)(hq0:-100000<=q0/\q0<=100000)(hmo:-100000<=mo/\mo<=100000)(t:Int)(ht:t=min want mo)(R:Nat×Int)(hR:R=mbr mo want (mo-q0).toNat c0 q0)(hv:Nz 2003 c0 v w)(hc0:c0<2^256)
  (c42:∀ W u t c,c<2^256->Nz 2003 c u W->Nt 1 10 t W->Calls Tryz.prog 164 #[u,t] W fun e w'=>∃ q r,e=.returned (.tuple #[q,r,.int .i64 0])/\Nz 2003 (c/10) q w'/\Nt 2001 (c%10) r w'/\Below W.heap.size W w')
  (c18:∀ W u c,Nt 2001 c u W->CQ 110 #[u] W (.int .i64 (bl c:Int))) :
  Calls Tryz.prog 117 #[v,.int .i64 q0,.int .i64 t] w fun r w'=>∃ u,r=.returned (.tuple #[u,.int .i64 R.2])/\Nz 2003 R.1 u w'/\Below w.heap.size w w':=by
 have HT:Hid (t=min want mo):=ht
 have htb:t<=100000:=by omega
 clear ht
 go_enter Tryz.func117,Tryz.ntmps117
 go_wp2
 go_loopw [0,1,8,9,10,11,12,13,14,15,16,17,18,19,20,21,22,23,24,25,26] (fun u q _ _ _ _ _ _ _ _ _ _ _ _ _ _ _ _ _ _ _ wr=>∃ (c:Nat) (qi:Int),Hid (c<2^256)/\q=.int .i64 qi/\q0<=qi/\qi<=100000/\Nz 2003 c u wr/\R=mbr mo want (mo-qi).toNat c qi/\Below w.heap.size w wr) (fun _ q _ _ _ _ _ _ _ _ _ _ _ _ _ _ _ _ _ _ _ _=>(100001-intOf q).toNat)
 case atStart=>exact ⟨c0,q0,hc0,rfl,Int.le_refl _,hq0.2,hv,hR,Below.refl _ _⟩
 case round =>
  clear hv hR hc0
  obtain ⟨c,qi,Hc,rfl,hqa,hqb,hu,hRR,hB⟩:=hrel
  have hqa':-100000<=qi:=by omega
  have HR:Hid (R=mbr mo want (mo-qi).toNat c qi):=hRR
  clear hRR
  by_cases hlt:qi<t
  ·have hqm:qi<mo/\qi<want:=by have:=HT.out;omega
   by_cases hc:c%10=0
   ·have hb0:((bl (c%10):Nat):Int)=0:=by rw [hc];rfl
    go_wp2_with (first
     | (go_at_call 164;refine (c42 _ _ _ c Hc.out (hu.next (zEa _ _)) (zE3 (by simp) rfl (by decide))).mono ?_;rintro e w5 ⟨v5,r5,rfl,hv5,hr5,hb5⟩;have hB5:=bnx (bnx hB (zEa _ _)) hb5)
     | (go_at_call 110;refine (c18 _ _ _ hr5).mono ?_;rintro e w6 ⟨rfl,rfl⟩;rw [hb0]))
    go_roundw
    case rel =>
     refine ⟨c/10,qi+1,Nat.lt_of_le_of_lt (Nat.div_le_self _ _) Hc.out,by go_num,by omega,by omega,hv5,?_,hB5⟩
     rw [HR.out]
     obtain ⟨k,hk⟩:∃ k,(mo-qi).toNat=k+1:=⟨(mo-qi).toNat-1,by omega⟩
     rw [hk,show (mo-(qi+1)).toNat=k by omega]
     show (if _ then _ else _)=_
     rw [if_pos ⟨hqm.2,hqm.1,hc⟩]
    case measure=>simp [intOf];omega
   ·have hb0:(0:Int)<((bl (c%10):Nat):Int):=by have:=mt bl_zero.1 hc;omega
    have hE:Hid (R=(c,qi)):=HR.out.trans (zBs fun h=>hc h.2.2)
    clear HR HT
    go_wp2_with (first
     | (go_at_call 164;refine (c42 _ _ _ c Hc.out (hu.next (zEa _ _)) (zE3 (by simp) rfl (by decide))).mono ?_;rintro e w5 ⟨v5,r5,rfl,hv5,hr5,hb5⟩;have hBB:=bnx (zEa _ _) hb5;have hB5:=bnx hB hBB)
     | (go_at_call 110;refine (c18 _ _ _ hr5).mono ?_;rintro e w6 ⟨rfl,rfl⟩))
    go_wp2
    refine bodyPost_ret (v:=.tuple #[u0,.int .i64 qi]) (by simp only [results,Tryz.results117];go_simp) rfl ⟨u0,by rw [hE.out],?_,hB5⟩
    rw [hE.out]
    exact hu.next hBB
  ·have hE:Hid (R=(c,qi)):=HR.out.trans (zBs fun h=>by have:=HT.out;omega)
   clear HR HT
   go_wp2
   refine bodyPost_ret (v:=.tuple #[u0,.int .i64 qi]) (by simp only [results,Tryz.results117];go_simp) rfl ⟨u0,by rw [hE.out],?_,hB⟩
   rw [hE.out]
   exact hu
theorem zCq {K K' V:Nat}{v:Value}{w:World}(h:Nz K V v w)(hK:K<=K'):Nz K' V v w:=by
 unfold Nz at *
 obtain ⟨a,k,cap,z,h1,h2,h3⟩:=h
 exact ⟨a,k,cap,z,h1,by omega,h3⟩
theorem zUo (mo want:Int){c0:Nat}{q0:Int}{v:Value}{w:World}(hq0:-100000<=q0/\q0<=100000)(hmo:-100000<=mo/\mo<=100000)(hv:Nz 2003 c0 v w)(hc0:c0<2^256) :
  Calls Tryz.prog 117 #[v,.int .i64 q0,.int .i64 (min want mo)] w fun r w'=>∃ u,r=.returned (.tuple #[u,.int .i64 (mbr mo want (mo-q0).toNat c0 q0).2])/\Nz 2003 (mbr mo want (mo-q0).toNat c0 q0).1 u w'/\Below w.heap.size w w':=by
 refine zDz mo want c0 q0 v w hq0 hmo _ rfl _ rfl hv hc0 ?_ (fun W u c h=>zTi (by decide) h)
 intro W u t c hc hu ht
 have b1:bl c<=256:=bl_le.2 hc
 have b2:bl 10<=4:=bl_le.2 (by decide)
 refine (zD6 (by decide) (by decide) hu.nt ht (by omega) (by omega) (by decide)).mono ?_
 rintro r w' ⟨q,r',e1,e2,e3,e4⟩
 exact ⟨q,r',e1,zCq e2 (by decide),e3.nt,e4⟩
end
section
attribute [local irreducible] W4 Nz Nt NT
def TU2 (X:Nat)(v:Value)(w:World):Prop:=∃ q,v=.tuple #[q,.int .i64 0]/\NT 2001 X q w
theorem TU2.next {X:Nat}{v:Value}{w w':World}(h:TU2 X v w)(hb:Below w.heap.size w w'):TU2 X v w':=by
 obtain ⟨q,e,hq⟩:=h
 exact ⟨q,e,hq.next hb⟩
section
variable (c:Int)(s g:Bool)(x:Int)(k:Nat)(w:World)(hk:k<2^256)(hx:-17000<=x/\x<=17000)
include hk hx
end
end
end Go.Proofs.YtahfkpjhlbiamaaGreatDoor
