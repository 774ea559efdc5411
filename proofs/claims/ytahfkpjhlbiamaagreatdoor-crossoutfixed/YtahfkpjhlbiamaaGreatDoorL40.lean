/-
  Texts that the proof leans on.
-/
import Derived.Test.YtahfkpjhlbiamaaGreatDoorL1
import Derived.Test.YtahfkpjhlbiamaaGreatDoorL37
import Derived.Test.YtahfkpjhlbiamaaGreatDoorL17
import Derived.Test.YtahfkpjhlbiamaaGreatDoorL35
import Derived.Test.YtahfkpjhlbiamaaGreatDoorL24
import Derived.Test.YtahfkpjhlbiamaaGreatDoorL25
import Derived.Test.YtahfkpjhlbiamaaGreatDoorL15
set_option linter.unusedVariables false
set_option linter.unusedSectionVars false
set_option linter.unusedSimpArgs false
set_option maxHeartbeats 8000000
set_option maxRecDepth 20000
namespace Go.Proofs.YtahfkpjhlbiamaaGreatDoor
open Go.RowKit
theorem ndig_nW {K X:Nat}{v:Value}{w:World}(hK:K<100000)(hX:bl X<=128000)(h0:X≠0)(h:Nt K X v w):CB 48 #[v] w (.tuple #[.string (B (dcW X)),.int .i64 0]):=by
 obtain ⟨a,n,c,z,rfl,hn,hN,hv⟩:=h
 have hs:sizeL z n<=2000:=(size_bl hN.2.2.1 hv).2 hX
 unfold dcW
 rw [if_neg h0]
 have hX0:(0:Int)<X:=by omega
 have hL:(X:Int)<10^bl X:=by
  have h1:=(bl_bd h0).2.1
  have h2:=Nat.pow_le_pow_left (show 2<=10 by decide) (bl X)
  have h3:X<10^bl X:=by omega
  exact_mod_cast h3
 refine (ndigits_any a n c z w (by omega) hN hs).mono fun r w' ⟨L,hL',he,hB⟩=>⟨?_,hB⟩
 rw [hv] at hL' he
 rw [he,decL_more (Int.le_of_lt hX0) hL' hL,← decL_rev hX0 hL]
 show _=Ending.returned (.tuple #[.string (B (dcD X (bl X))),.int .i64 0])
 unfold dcD
 rw [B_of]
section
theorem npow10d (m:Nat)(w:World)(hm:m<=12000):Calls Tryz.prog 56 #[.int .i64 10,.int .i64 (m:Int)] w fun r w'=>∃ v,r=.returned (.tuple #[v,.int .i64 0])/\NT 2001 (10^m) v w'/\Below w.heap.size w w':=by
 refine (npow_any 10 m w (Or.inr rfl) hm).mono fun r w' ⟨g,k,cap,z,e1,hk,hN,hv,hs,hB⟩=>⟨_,e1,⟨g,k,cap,z,rfl,hk,hN,?_,hs⟩,hB⟩
 rw [hv];simp
attribute [local irreducible] W4 Nz Nt NT
theorem drten_v (m:Nat)(w:World)(hm:m<=12000):CE 115 #[.int .i64 (m:Int)] w (NT 2001 (10^m)):=by
 have c1:=fun W=>npow10d m W hm
 go_enter Tryz.func115,Tryz.ntmps115
 go_wp2_with (go_at_call 56;refine (c1 _).mono ?_;rintro r w1 ⟨v,rfl,hv,hb1⟩)
 go_ret
 exact ⟨v,rfl,hv,hb1⟩
theorem ddig_w {v:Value}{l:List UInt8}{w:World}(hl:l.length<=100000)(c1:∀ W,Below w.heap.size w W->CB 48 #[v] W (.tuple #[.string (B l),.int .i64 0])) :
  CB 175 #[v] w (.int .i64 (l.length:Int)):=by
 have hB:=B_size l
 go_enter Tryz.func175,Tryz.ntmps175
 go_wp2_with (go_at_call 48;refine (c1 _ bgo).mono ?_;rintro r w1 ⟨rfl,hb1⟩)
 go_ret
 exact ⟨by simp [hB],hb1⟩
theorem ddig_v {K X:Nat}{v:Value}{w:World}(hK:K<100000)(h0:X≠0)(hb:bl X<=39785)(h:Nt K X v w):CB 175 #[v] w (.int .i64 ((dcW X).length:Int)):=by
 have:=dcW_most h0 hb
 exact ddig_w (by omega) fun W hW=>ndig_nW hK (by omega) h0 (h.next hW)
section
variable (m:Nat)(vn vd:Value)(w:World)(A P:Nat)
theorem dscaled_n (n:Int)(hn:n<0)(hm:-n=(m:Int))(hm2:m<=12000)
  (c1:∀ W,CE 115 #[.int .i64 (m:Int)] W (NT 2001 (10^m)))
  (c2:∀ W p,Below w.heap.size w W->NT 2001 (10^m) p W->Calls Tryz.prog 81 #[vd,p] W fun e w'=>∃ u,e=.returned (.tuple #[u,.int .i64 0])/\NT 2001 P u w'/\Below W.heap.size W w') :
  Calls Tryz.prog 114 #[vn,vd,.int .i64 n] w fun r w'=>∃ v,r=.returned (.tuple #[vn,v])/\NT 2001 P v w'/\Below w.heap.size w w':=by
 obtain rfl:n=-(m:Int):=by omega
 clear hm
 have hm1:0<m:=by omega
 go_enter Tryz.func114,Tryz.ntmps114
 go_wp2_with (first
  | (go_at_call 115;refine (c1 _).mono ?_;rintro r w1 ⟨v1,rfl,hv1,hb1⟩)
  | (go_at_call 81;refine (c2 _ _ hb1 hv1).mono ?_;rintro r w2 ⟨v2,rfl,hv2,hb2⟩))
 exact bodyPost_ret (v:=.tuple #[vn,v2]) (by simp only [results,Tryz.results114];go_simp) rfl ⟨_,rfl,hv2,bnx hb1 hb2⟩
theorem dscaled_p (hm2:m<=12000)
  (c1:∀ W,CE 115 #[.int .i64 (m:Int)] W (NT 2001 (10^m)))
  (c2:∀ W p,Below w.heap.size w W->NT 2001 (10^m) p W->Calls Tryz.prog 81 #[vn,p] W fun e w'=>∃ u,e=.returned (.tuple #[u,.int .i64 0])/\NT 2001 P u w'/\Below W.heap.size W w') :
  Calls Tryz.prog 114 #[vn,vd,.int .i64 (m:Int)] w fun r w'=>∃ v,r=.returned (.tuple #[v,vd])/\NT 2001 P v w'/\Below w.heap.size w w':=by
 go_enter Tryz.func114,Tryz.ntmps114
 go_wp2_with (first
  | (go_at_call 115;refine (c1 _).mono ?_;rintro r w1 ⟨v1,rfl,hv1,hb1⟩)
  | (go_at_call 81;refine (c2 _ _ hb1 hv1).mono ?_;rintro r w2 ⟨v2,rfl,hv2,hb2⟩))
 exact bodyPost_ret (v:=.tuple #[v2,vd]) (by simp only [results,Tryz.results114];go_simp) rfl ⟨_,rfl,hv2,bnx hb1 hb2⟩
end
theorem dscaled_v (n:Int){N D:Nat}{vn vd:Value}{w:World}(h:Nt 2001 N vn w)(h':Nt 2001 D vd w)(hn:-12000<=n/\n<=12000)(h1:bl N+4*n.toNat+1<=127000)(h2:bl D+4*(-n).toNat+1<=127000) :
  Calls Tryz.prog 114 #[vn,vd,.int .i64 n] w fun r w'=>∃ va vb,r=.returned (.tuple #[va,vb])/\Nt 2001 (N*10^n.toNat) va w'/\Nt 2001 (D*10^(-n).toNat) vb w'/\Below w.heap.size w w':=by
 have t1:=ten_bl n.toNat
 have t2:=ten_bl (-n).toNat
 by_cases hn0:n<0
 ·have e0:n.toNat=0:=by omega
  rw [e0,Nat.pow_zero,Nat.mul_one]
  refine (dscaled_n (-n).toNat vn vd w (D*10^(-n).toNat) n hn0 (by omega) (by omega) (fun W=>drten_v _ W (by omega)) (fun W p hW hp=>nmul_w (by decide) (by decide) (h'.next hW) hp.nt (by omega))).mono ?_
  rintro r w' ⟨v,e1,e2,e3⟩
  exact ⟨_,_,e1,h.next e3,e2.nt,e3⟩
 ·have e0:(-n).toNat=0:=by omega
  rw [e0,Nat.pow_zero,Nat.mul_one]
  have:=dscaled_p n.toNat vn vd w (N*10^n.toNat) (by omega) (fun W=>drten_v _ W (by omega)) (fun W p hW hp=>nmul_w (by decide) (by decide) (h.next hW) hp.nt (by omega))
  rw [Int.toNat_of_nonneg (by omega)] at this
  refine this.mono ?_
  rintro r w' ⟨v,e1,e2,e3⟩
  exact ⟨_,_,e1,e2.nt,h'.next e3,e3⟩
section
variable (vn vd:Value)(w:World)(a b:Nat)(c:Int)(ha:a<=12000)(hb:b<=12000)
 (c1:∀ W,Below w.heap.size w W->CB 175 #[vn] W (.int .i64 (a:Int)))
 (c1d:∀ W,Below w.heap.size w W->CB 175 #[vd] W (.int .i64 (b:Int)))
 (c2:∀ W n,n=(b:Int)-a->Below w.heap.size w W->Calls Tryz.prog 114 #[vn,vd,.int .i64 n] W fun r w'=>∃ va vb,r=.returned (.tuple #[va,vb])/\Below W.heap.size W w'/\(∀ W',Below w'.heap.size w' W'->Calls Tryz.prog 57 #[va,vb] W' fun r w''=>r=.returned (.int .i64 c)/\Below W'.heap.size W' w''))
include ha hb c1 c1d c2
theorem dlead_l (hc:c<0):CB 112 #[vn,vd] w (.int .i64 ((a:Int)-b-1)):=by
 go_enter Tryz.func112,Tryz.ntmps112
 go_wp2_with (first
  | (have:=hb2;go_at_call 114;refine (c2 _ _ (by omega) (bnx hb1 hb2)).mono ?_;rintro r w3 ⟨va,vb,rfl,hb3,c3⟩)
  | (go_at_call 57;refine (c3 _ (Below.refl _ _)).mono ?_;rintro r w4 ⟨rfl,hb4⟩)
  | (have:=hb1;go_at_call_of 175 vd;refine (c1d _ hb1).mono ?_;rintro r w2 ⟨rfl,hb2⟩)
  | (go_at_call_of 175 vn;refine (c1 _ bgo).mono ?_;rintro r w1 ⟨rfl,hb1⟩))
 go_ret
 exact ⟨rfl,bnx (bnx (bnx hb1 hb2) hb3) hb4⟩
theorem dlead_g (hc:¬ c<0):CB 112 #[vn,vd] w (.int .i64 ((a:Int)-b)):=by
 go_enter Tryz.func112,Tryz.ntmps112
 go_wp2_with (first
  | (have:=hb2;go_at_call 114;refine (c2 _ _ (by omega) (bnx hb1 hb2)).mono ?_;rintro r w3 ⟨va,vb,rfl,hb3,c3⟩)
  | (go_at_call 57;refine (c3 _ (Below.refl _ _)).mono ?_;rintro r w4 ⟨rfl,hb4⟩)
  | (have:=hb1;go_at_call_of 175 vd;refine (c1d _ hb1).mono ?_;rintro r w2 ⟨rfl,hb2⟩)
  | (go_at_call_of 175 vn;refine (c1 _ bgo).mono ?_;rintro r w1 ⟨rfl,hb1⟩))
 go_ret
 exact ⟨rfl,bnx (bnx (bnx hb1 hb2) hb3) hb4⟩
end
theorem dlead_v {N D:Nat}{vn vd:Value}{w:World}(h:Nt 2001 N vn w)(h':Nt 2001 D vd w)(hN:N≠0)(hD:D≠0)(h1:bl N<=25600)(h2:bl D<=25600) :
  ∃ L,TnE N D L/\CB 112 #[vn,vd] w (.int .i64 L):=by
 obtain ⟨n1,n2,n3⟩:=dcW_bd hN
 obtain ⟨d1,d2,d3⟩:=dcW_bd hD
 have nm:=dcW_most hN (by omega)
 have dm:=dcW_most hD (by omega)
 have c1:=fun W (hb:Below w.heap.size w W)=>ddig_v (by decide) hN (by omega) (h.next hb)
 have c1d:=fun W (hb:Below w.heap.size w W)=>ddig_v (by decide) hD (by omega) (h'.next hb)
 generalize ha:(dcW N).length=a at *
 generalize hb:(dcW D).length=b at *
 have hab:3*a<=bl N+3/\3*b<=bl D+3:=by
  constructor
  ·have:=tnG_up (N:=N) (D:=1) (E:=(a:Int)-1) (by decide) (by rw [tnG_ab N 1 (show (((a-1:Nat)):Int)-((0:Nat):Int)=(a:Int)-1 by omega)];omega)
   omega
  ·have:=tnG_up (N:=D) (D:=1) (E:=(b:Int)-1) (by decide) (by rw [tnG_ab D 1 (show (((b-1:Nat)):Int)-((0:Nat):Int)=(b:Int)-1 by omega)];omega)
   omega
 have c2:∀ W n,n=(b:Int)-a->Below w.heap.size w W->Calls Tryz.prog 114 #[vn,vd,.int .i64 n] W fun r w'=>∃ va vb,r=.returned (.tuple #[va,vb])/\Below W.heap.size W w'/\(∀ W',Below w'.heap.size w' W'->Calls Tryz.prog 57 #[va,vb] W' fun r w''=>r=.returned (.int .i64 (sgn ((N*10^(-((a:Int)-b)).toNat:Nat):Int) ((D*10^((a:Int)-b).toNat:Nat):Int)))/\Below W'.heap.size W' w''):=by
  intro W n hn hW
  refine (dscaled_v n (h.next hW) (h'.next hW) (by omega) (by omega) (by omega)).mono ?_
  rintro r w' ⟨va,vb,e1,e2,e3,e4⟩
  refine ⟨va,vb,e1,e4,fun W' hW'=>?_⟩
  rw [show n=-((a:Int)-b) by omega] at e2 e3
  rw [Int.neg_neg] at e3
  exact ncmp_v (by decide) (by decide) (e2.next hW') (e3.next hW')
 have up:¬ tnG N D ((a:Int)-b+1):=by
  rw [tnG_ab N D (show ((a:Nat):Int)-((b-1:Nat):Int)=(a:Int)-b+1 by omega)]
  intro hh
  have k1:N*10^(b-1)<10^a*10^(b-1):=Nat.mul_lt_mul_of_pos_right n3 (ten_pos _)
  have k2:10^a*10^(b-1)<=10^a*D:=Nat.mul_le_mul_left _ d2
  rw [Nat.mul_comm (10^a) D] at k2
  omega
 have lo:tnG N D ((a:Int)-b-1):=by
  rw [tnG_ab N D (show ((a-1:Nat):Int)-((b:Nat):Int)=(a:Int)-b-1 by omega)]
  have k1:D*10^(a-1)<=10^b*10^(a-1):=Nat.mul_le_mul_right _ (Nat.le_of_lt d3)
  have k2:10^b*10^(a-1)<=10^b*N:=Nat.mul_le_mul_left _ n2
  rw [Nat.mul_comm (10^b) N] at k2
  omega
 have hcmp:tnG N D ((a:Int)-b)↔¬ sgn ((N*10^(-((a:Int)-b)).toNat:Nat):Int) ((D*10^((a:Int)-b).toNat:Nat):Int)<0:=by
  unfold tnG
  rcases sgn_ways ((N*10^(-((a:Int)-b)).toNat:Nat):Int) ((D*10^((a:Int)-b).toNat:Nat):Int) with ⟨x,e⟩|⟨x,e⟩|⟨x,e⟩<;>omega
 by_cases hg:tnG N D ((a:Int)-b)
 ·exact ⟨(a:Int)-b,⟨hg,up⟩,dlead_g vn vd w a b _ (by omega) (by omega) c1 c1d c2 (hcmp.1 hg)⟩
 ·refine ⟨(a:Int)-b-1,⟨lo,?_⟩,dlead_l vn vd w a b _ (by omega) (by omega) c1 c1d c2 (Decidable.not_not.1 (mt hcmp.2 hg))⟩
  rw [show (a:Int)-b-1+1=(a:Int)-b by omega]
  exact hg
theorem dwithin_v (n:Int)(nm:ByteArray)(wd P ex l m pa:Int)(dn:Bool)(lead x:Int)(w:World)(hP:0<=P/\P<=300)(hl:-100000<=l/\l<=100000)(hm:-100000<=m/\m<=100000)(hd:-100000<=lead/\lead<=100000) :
  CB 113 #[IDec n nm wd P ex l m pa dn,.int .i64 lead,.int .i64 x] w (.int .i64 (min (max x (l-2-lead)) (m+P-lead))):=by
 go_enter Tryz.func113,Tryz.ntmps113
 go_wp2
 go_ret
 exact ⟨by first|rfl|simp,bgo⟩
end
section
attribute [local irreducible] W4
section
variable (s:Bool)(x:Int)(z:Nat->Int)(w:World)
theorem dfin_n :
  CB 111 #[.bool s,.slice none 0 0,.int .i64 x] w (.agg #[.int .i64 1,.bool s,.bool false,.int .i64 x,.int .u64 0,.int .u64 0,.int .u64 0,.int .u64 0]):=by
 have hsm:=cell_set_map
 have hcp:=copy0
 go_enter Tryz.func111,Tryz.ntmps111
 go_wp2
 exact bodyPost_ret (v:=.agg #[.int .i64 1,.bool s,.bool false,.int .i64 x,.int .u64 0,.int .u64 0,.int .u64 0,.int .u64 0]) (by simp only [results,Tryz.results111];go_simp) rfl ⟨rfl,bgo⟩
theorem dfin_0 (b off cap:Nat)(hb:b<w.heap.size) :
  CB 111 #[.bool s,.slice (some ⟨b,off,none⟩) 0 cap,.int .i64 x] w (.agg #[.int .i64 1,.bool s,.bool false,.int .i64 x,.int .u64 0,.int .u64 0,.int .u64 0,.int .u64 0]):=by
 have hsm:=cell_set_map
 have hcp:=copy0
 go_enter Tryz.func111,Tryz.ntmps111
 go_wp2
 exact bodyPost_ret (v:=.agg #[.int .i64 1,.bool s,.bool false,.int .i64 x,.int .u64 0,.int .u64 0,.int .u64 0,.int .u64 0]) (by simp only [results,Tryz.results111];go_simp) rfl ⟨rfl,bgo⟩
theorem dfin_1 (b off cap:Nat)(hb:b<w.heap.size)(h0:w.cell? ⟨b,off+0,none⟩=some (.int .u64 (z 0))) :
  CB 111 #[.bool s,.slice (some ⟨b,off,none⟩) 1 cap,.int .i64 x] w (.agg #[.int .i64 1,.bool s,.bool false,.int .i64 x,.int .u64 (z 0),.int .u64 0,.int .u64 0,.int .u64 0]):=by
 have hsm:=cell_set_map
 simp only [Nat.add_zero] at h0
 have hcp:=copy1
 have e0:b<=w.heap.size:=by omega
 have e1:b<w.heap.size+1:=by omega
 have e2:b<w.heap.size+1+1:=by omega
 have e3:b<w.heap.size+2:=by omega
 have e4:b<=w.heap.size+1:=by omega
 have n0:¬ b=w.heap.size:=by omega
 have n1:¬ b=w.heap.size+1:=by omega
 have n2:¬ b=w.heap.size+1+1:=by omega
 go_enter Tryz.func111,Tryz.ntmps111
 go_wp2
 exact bodyPost_ret (v:=.agg #[.int .i64 1,.bool s,.bool false,.int .i64 x,.int .u64 (z 0),.int .u64 0,.int .u64 0,.int .u64 0]) (by simp only [results,Tryz.results111];go_simp) rfl ⟨rfl,bgo⟩
theorem dfin_2 (b off cap:Nat)(hb:b<w.heap.size)(h0:w.cell? ⟨b,off+0,none⟩=some (.int .u64 (z 0)))(h1:w.cell? ⟨b,off+1,none⟩=some (.int .u64 (z 1))) :
  CB 111 #[.bool s,.slice (some ⟨b,off,none⟩) 2 cap,.int .i64 x] w (.agg #[.int .i64 1,.bool s,.bool false,.int .i64 x,.int .u64 (z 0),.int .u64 (z 1),.int .u64 0,.int .u64 0]):=by
 have hsm:=cell_set_map
 simp only [Nat.add_zero] at h0
 have hcp:=copy2
 have e0:b<=w.heap.size:=by omega
 have e1:b<w.heap.size+1:=by omega
 have e2:b<w.heap.size+1+1:=by omega
 have e3:b<w.heap.size+2:=by omega
 have e4:b<=w.heap.size+1:=by omega
 have n0:¬ b=w.heap.size:=by omega
 have n1:¬ b=w.heap.size+1:=by omega
 have n2:¬ b=w.heap.size+1+1:=by omega
 go_enter Tryz.func111,Tryz.ntmps111
 go_wp2
 exact bodyPost_ret (v:=.agg #[.int .i64 1,.bool s,.bool false,.int .i64 x,.int .u64 (z 0),.int .u64 (z 1),.int .u64 0,.int .u64 0]) (by simp only [results,Tryz.results111];go_simp) rfl ⟨rfl,bgo⟩
theorem dfin_3 (b off cap:Nat)(hb:b<w.heap.size)(h0:w.cell? ⟨b,off+0,none⟩=some (.int .u64 (z 0)))(h1:w.cell? ⟨b,off+1,none⟩=some (.int .u64 (z 1)))(h2:w.cell? ⟨b,off+2,none⟩=some (.int .u64 (z 2))) :
  CB 111 #[.bool s,.slice (some ⟨b,off,none⟩) 3 cap,.int .i64 x] w (.agg #[.int .i64 1,.bool s,.bool false,.int .i64 x,.int .u64 (z 0),.int .u64 (z 1),.int .u64 (z 2),.int .u64 0]):=by
 have hsm:=cell_set_map
 simp only [Nat.add_zero] at h0
 have hcp:=copy3
 have e0:b<=w.heap.size:=by omega
 have e1:b<w.heap.size+1:=by omega
 have e2:b<w.heap.size+1+1:=by omega
 have e3:b<w.heap.size+2:=by omega
 have e4:b<=w.heap.size+1:=by omega
 have n0:¬ b=w.heap.size:=by omega
 have n1:¬ b=w.heap.size+1:=by omega
 have n2:¬ b=w.heap.size+1+1:=by omega
 go_enter Tryz.func111,Tryz.ntmps111
 go_wp2
 exact bodyPost_ret (v:=.agg #[.int .i64 1,.bool s,.bool false,.int .i64 x,.int .u64 (z 0),.int .u64 (z 1),.int .u64 (z 2),.int .u64 0]) (by simp only [results,Tryz.results111];go_simp) rfl ⟨rfl,bgo⟩
theorem dfin_4 (b off cap:Nat)(hb:b<w.heap.size)(h0:w.cell? ⟨b,off+0,none⟩=some (.int .u64 (z 0)))(h1:w.cell? ⟨b,off+1,none⟩=some (.int .u64 (z 1)))(h2:w.cell? ⟨b,off+2,none⟩=some (.int .u64 (z 2)))(h3:w.cell? ⟨b,off+3,none⟩=some (.int .u64 (z 3))) :
  CB 111 #[.bool s,.slice (some ⟨b,off,none⟩) 4 cap,.int .i64 x] w (.agg #[.int .i64 1,.bool s,.bool false,.int .i64 x,.int .u64 (z 0),.int .u64 (z 1),.int .u64 (z 2),.int .u64 (z 3)]):=by
 have hsm:=cell_set_map
 simp only [Nat.add_zero] at h0
 have hcp:=copy4
 have e0:b<=w.heap.size:=by omega
 have e1:b<w.heap.size+1:=by omega
 have e2:b<w.heap.size+1+1:=by omega
 have e3:b<w.heap.size+2:=by omega
 have e4:b<=w.heap.size+1:=by omega
 have n0:¬ b=w.heap.size:=by omega
 have n1:¬ b=w.heap.size+1:=by omega
 have n2:¬ b=w.heap.size+1+1:=by omega
 go_enter Tryz.func111,Tryz.ntmps111
 go_wp2
 exact bodyPost_ret (v:=.agg #[.int .i64 1,.bool s,.bool false,.int .i64 x,.int .u64 (z 0),.int .u64 (z 1),.int .u64 (z 2),.int .u64 (z 3)]) (by simp only [results,Tryz.results111];go_simp) rfl ⟨rfl,bgo⟩
end
theorem dfin_v (s:Bool)(x:Int){K C:Nat}{v:Value}{w:World}(h:Nz K C v w)(hC:C<2^256) :
  CB 111 #[.bool s,v,.int .i64 x] w (DV 1 s false x C):=by
 obtain ⟨a,k,cap,z,rfl,hk,hN,hv,hs⟩:=h
 have hk4:k<=4:=by
  have:=(size_bl (m:=4) hN.2.2.1 hv).2 (bl_le.2 hC)
  omega
 have hv4:val z 4=(C:Int):=by rw [val_more hN.2.2.2.1 4 hk4,hv]
 have hz:∀ i,i<4->z i=W4 C i:=val_inj hN.2.2.1 (W4_words C) 4 (by rw [hv4,W4_val4 hC])
 have ed:DV 1 s false x C=.agg #[.int .i64 1,.bool s,.bool false,.int .i64 x,.int .u64 (z 0),.int .u64 (z 1),.int .u64 (z 2),.int .u64 (z 3)]:=by
  unfold DV
  rw [hz 0 (by decide),hz 1 (by decide),hz 2 (by decide),hz 3 (by decide)]
 rw [ed]
 have z0:=hN.2.2.2.1
 obtain ⟨n1,n2,n3,n4,n5⟩:=hN
 rcases n5 with ⟨rfl,rfl⟩|⟨b,off,rfl,hb,hc⟩
 ·obtain rfl:k=0:=by omega
  rw [z0 0 (by omega),z0 1 (by omega),z0 2 (by omega),z0 3 (by omega)]
  exact dfin_n s x w
 ·have:k=0∨k=1∨k=2∨k=3∨k=4:=by omega
  rcases this with rfl|rfl|rfl|rfl|rfl
  ·rw [z0 0 (by omega),z0 1 (by omega),z0 2 (by omega),z0 3 (by omega)]
   exact dfin_0 s x w b off cap hb
  ·rw [z0 1 (by omega),z0 2 (by omega),z0 3 (by omega)]
   exact dfin_1 s x z w b off cap hb (hc 0 (by decide))
  ·rw [z0 2 (by omega),z0 3 (by omega)]
   exact dfin_2 s x z w b off cap hb (hc 0 (by decide)) (hc 1 (by decide))
  ·rw [z0 3 (by omega)]
   exact dfin_3 s x z w b off cap hb (hc 0 (by decide)) (hc 1 (by decide)) (hc 2 (by decide))
  ·exact dfin_4 s x z w b off cap hb (hc 0 (by decide)) (hc 1 (by decide)) (hc 2 (by decide)) (hc 3 (by decide))
theorem nsub_vd {K K' V V':Nat}{v v':Value}{w:World}(hK:K<100000000)(hK':K'<100000000)(h:Nt K V v w)(h':Nt K' V' v' w)(hle:V'<=V) :
  Calls Tryz.prog 177 #[v,v'] w fun e w'=>∃ r,e=.returned (.tuple #[r,.int .i64 0])/\Nz K (V-V') r w'/\Below w.heap.size w w':=by
 obtain ⟨a,k,cap,z,rfl,hk,hN,hv⟩:=h
 obtain ⟨a',k',cap',z',rfl,hk',hN',hv'⟩:=h'
 have s1:=sizeL_le z k
 refine (nsubF a a' k cap k' cap' z z' w (by omega) (by omega) hN hN' (by rw [hv,hv'];omega)).mono fun e w' ⟨g,k2,cap2,z2,h1,h2,h3,h4,h5,h6,_⟩=>⟨_,h1,⟨_,k2,cap2,z2,rfl,by omega,h3,?_,h5⟩,h6⟩
 rw [h4,hv,hv'];omega
attribute [local irreducible] Nz Nt NT
section
variable (n:Int)(nm:ByteArray)(wd P ex l m pa:Int)(dn:Bool)(d:Int)(s:Bool)(w:World)
theorem dover_i (h:inB d s=true) :
  CB 116 #[IDec n nm wd P ex l m pa dn,.int .i64 d,.bool s] w (.agg #[.int .i64 2,.bool s,.bool false,.int .i64 0,.int .u64 0,.int .u64 0,.int .u64 0,.int .u64 0]):=by
 have hsm:=cell_set_map
 have c64:=infinite_any d s
 rw [h] at c64
 go_enter Tryz.func116,Tryz.ntmps116
 go_wp2_with (go_at_call 176;refine (c64 _).mono ?_;rintro r w0 ⟨rfl,rfl⟩)
 exact bodyPost_ret (v:=.agg #[.int .i64 2,.bool s,.bool false,.int .i64 0,.int .u64 0,.int .u64 0,.int .u64 0,.int .u64 0]) (by simp only [results,Tryz.results116];go_simp) rfl ⟨rfl,bgo⟩
theorem dover_l (h:inB d s=false)(T G:Nat)(vc vx V0 V1 V2 V3:Int)(vs vg:Bool)
  (c25:∀ W,CE 115 #[.int .i64 P] W (NT 2001 T))
  (c49:∀ W v u,Nt 2001 T v W->Nt 1 1 u W->Calls Tryz.prog 177 #[v,u] W fun e w'=>∃ r,e=.returned (.tuple #[r,.int .i64 0])/\Nz 2001 G r w'/\Below W.heap.size W w')
  (c19:∀ W v,Nz 2001 G v W->CB 111 #[.bool s,v,.int .i64 m] W (.agg #[.int .i64 vc,.bool vs,.bool vg,.int .i64 vx,.int .u64 V0,.int .u64 V1,.int .u64 V2,.int .u64 V3])) :
  CB 116 #[IDec n nm wd P ex l m pa dn,.int .i64 d,.bool s] w (.agg #[.int .i64 vc,.bool vs,.bool vg,.int .i64 vx,.int .u64 V0,.int .u64 V1,.int .u64 V2,.int .u64 V3]):=by
 have hsm:=cell_set_map
 have c64:=infinite_any d s
 rw [h] at c64
 go_enter Tryz.func116,Tryz.ntmps116
 go_wp2_with (first
  | (go_at_call 176;refine (c64 _).mono ?_;rintro r w0 ⟨rfl,rfl⟩)
  | (go_at_call 115;refine (c25 _).mono ?_;rintro r w2 ⟨v2,rfl,hv2,hb2⟩;have hk2:=hb2;obtain ⟨_,_,_,_,hA2,_⟩:=wz w hb2;obtain ⟨_,_⟩:=zf hb2 (w.heap.size+1);clear hb2)
  | (go_at_call 177;refine (c49 _ _ _ (hv2.nt.next (below1 _ _)) (nt_w1 (by simp) rfl (by decide))).mono ?_;rintro r w3 ⟨v3,rfl,hv3,hb3⟩;obtain ⟨_,_,_,_,hA3,_⟩:=wz w hb3;obtain ⟨_,_⟩:=zf hb3 (w.heap.size+1);clear hb3)
  | (go_at_call 111;refine (c19 _ _ hv3).mono ?_;rintro r w4 ⟨rfl,hb4⟩;obtain ⟨_,_,_,_,hA4,_⟩:=wz w hb4;obtain ⟨_,_⟩:=zf hb4 (w.heap.size+1);clear hb4))
 exact bodyPost_ret (v:=.agg #[.int .i64 vc,.bool vs,.bool vg,.int .i64 vx,.int .u64 V0,.int .u64 V1,.int .u64 V2,.int .u64 V3]) (by simp only [results,Tryz.results116];go_simp) rfl ⟨rfl,bgo⟩
end
section
variable (n d:Int)(nm:ByteArray)(wd P ex l m pa b:Int)(dn:Bool)(N D:Nat)(vn vd:Value)(w:World)(hT:Tab w)
 (c66:∀ W,Below w.heap.size w W->CQ 110 #[vn] W (.int .i64 (bl N:Int)))
 (c66d:∀ W,Below w.heap.size w W->CQ 110 #[vd] W (.int .i64 (bl D:Int)))
include hT c66 c66d
theorem dcheck_e (i0 E:Int)(hE:(E != 0)=true)
  (c52:∀ W,Tab W->CB 53 #[.int .i64 n] W (.tuple #[.agg #[.int .i64 i0,.string nm,.int .i64 b,.int .i64 wd,.int .i64 P,.int .i64 ex,.int .i64 l,.int .i64 m,.int .i64 pa,.bool dn],.int .i64 E])) :
  CB 109 #[.int .i64 n,.int .i64 d,vn,vd] w (.tuple #[IZ,.int .i64 1]):=by
 have hsm:=cell_set_map
 go_enter Tryz.func109,Tryz.ntmps109
 go_wp2_with (first
  | (go_at_call 53;refine (c52 _ (hT.go bgo)).mono ?_;rintro r w1 ⟨rfl,hb1⟩;obtain ⟨_,_,_,_,hA1,_⟩:=wz w hb1;clear hb1))
 exact bodyPost_ret (v:=.tuple #[IZ,.int .i64 1]) (by simp only [results,Tryz.results109];go_simp) rfl ⟨rfl,bgo⟩
theorem dcheck_b (i0:Int)(hE:(b != 10)=true)
  (c52:∀ W,Tab W->CB 53 #[.int .i64 n] W (.tuple #[.agg #[.int .i64 i0,.string nm,.int .i64 b,.int .i64 wd,.int .i64 P,.int .i64 ex,.int .i64 l,.int .i64 m,.int .i64 pa,.bool dn],.int .i64 0])) :
  CB 109 #[.int .i64 n,.int .i64 d,vn,vd] w (.tuple #[IZ,.int .i64 1]):=by
 have hsm:=cell_set_map
 go_enter Tryz.func109,Tryz.ntmps109
 go_wp2_with (first
  | (go_at_call 53;refine (c52 _ (hT.go bgo)).mono ?_;rintro r w1 ⟨rfl,hb1⟩;obtain ⟨_,_,_,_,hA1,_⟩:=wz w hb1;clear hb1))
 exact bodyPost_ret (v:=.tuple #[IZ,.int .i64 1]) (by simp only [results,Tryz.results109];go_simp) rfl ⟨rfl,bgo⟩
theorem dcheck_d (hd:decide (knB d)=false)
  (c52:∀ W,Tab W->CB 53 #[.int .i64 n] W (.tuple #[IDec n nm wd P ex l m pa dn,.int .i64 0])) :
  CB 109 #[.int .i64 n,.int .i64 d,vn,vd] w (.tuple #[IZ,.int .i64 1]):=by
 have hsm:=cell_set_map
 have c53:=known_any d
 rw [hd] at c53
 go_enter Tryz.func109,Tryz.ntmps109
 go_wp2_with (first
  | (go_at_call 53;refine (c52 _ (hT.go bgo)).mono ?_;rintro r w1 ⟨rfl,hb1⟩;obtain ⟨_,_,_,_,hA1,_⟩:=wz w hb1;clear hb1)
  | (go_at_call 44;refine (c53 _).mono ?_;rintro r w2 ⟨rfl,rfl⟩))
 exact bodyPost_ret (v:=.tuple #[IZ,.int .i64 1]) (by simp only [results,Tryz.results109];go_simp) rfl ⟨rfl,bgo⟩
theorem dcheck_z (hd:decide (knB d)=true)(hD:(((bl D:Nat):Int)==0)=true)
  (c52:∀ W,Tab W->CB 53 #[.int .i64 n] W (.tuple #[IDec n nm wd P ex l m pa dn,.int .i64 0])) :
  CB 109 #[.int .i64 n,.int .i64 d,vn,vd] w (.tuple #[IZ,.int .i64 1]):=by
 have hsm:=cell_set_map
 have c53:=known_any d
 rw [hd] at c53
 go_enter Tryz.func109,Tryz.ntmps109
 go_wp2_with (first
  | (go_at_call 53;refine (c52 _ (hT.go bgo)).mono ?_;rintro r w1 ⟨rfl,hb1⟩;obtain ⟨_,_,_,_,hA1,_⟩:=wz w hb1;clear hb1)
  | (go_at_call 44;refine (c53 _).mono ?_;rintro r w2 ⟨rfl,rfl⟩)
  | (go_at_call_of 110 vd;refine (c66d _ bgo).mono ?_;rintro r w4 ⟨rfl,rfl⟩))
 exact bodyPost_ret (v:=.tuple #[IZ,.int .i64 1]) (by simp only [results,Tryz.results109];go_simp) rfl ⟨rfl,bgo⟩
theorem dcheck_n (hd:decide (knB d)=true)(hD:(((bl D:Nat):Int)==0)=false)(hN:(25600:Int)<(bl N:Int))
  (c52:∀ W,Tab W->CB 53 #[.int .i64 n] W (.tuple #[IDec n nm wd P ex l m pa dn,.int .i64 0])) :
  CB 109 #[.int .i64 n,.int .i64 d,vn,vd] w (.tuple #[IZ,.int .i64 4]):=by
 have hsm:=cell_set_map
 have c53:=known_any d
 rw [hd] at c53
 go_enter Tryz.func109,Tryz.ntmps109
 go_wp2_with (first
  | (go_at_call 53;refine (c52 _ (hT.go bgo)).mono ?_;rintro r w1 ⟨rfl,hb1⟩;obtain ⟨_,_,_,_,hA1,_⟩:=wz w hb1;clear hb1)
  | (go_at_call 44;refine (c53 _).mono ?_;rintro r w2 ⟨rfl,rfl⟩)
  | (go_at_call_of 110 vn;refine (c66 _ bgo).mono ?_;rintro r w3 ⟨rfl,rfl⟩)
  | (go_at_call_of 110 vd;refine (c66d _ bgo).mono ?_;rintro r w4 ⟨rfl,rfl⟩))
 exact bodyPost_ret (v:=.tuple #[IZ,.int .i64 4]) (by simp only [results,Tryz.results109];go_simp) rfl ⟨rfl,bgo⟩
theorem dcheck_l (hd:decide (knB d)=true)(hD:(((bl D:Nat):Int)==0)=false)(hN:¬ (25600:Int)<(bl N:Int))(hDl:(25600:Int)<(bl D:Int))
  (c52:∀ W,Tab W->CB 53 #[.int .i64 n] W (.tuple #[IDec n nm wd P ex l m pa dn,.int .i64 0])) :
  CB 109 #[.int .i64 n,.int .i64 d,vn,vd] w (.tuple #[IZ,.int .i64 4]):=by
 have hsm:=cell_set_map
 have c53:=known_any d
 rw [hd] at c53
 go_enter Tryz.func109,Tryz.ntmps109
 go_wp2_with (first
  | (go_at_call 53;refine (c52 _ (hT.go bgo)).mono ?_;rintro r w1 ⟨rfl,hb1⟩;obtain ⟨_,_,_,_,hA1,_⟩:=wz w hb1;clear hb1)
  | (go_at_call 44;refine (c53 _).mono ?_;rintro r w2 ⟨rfl,rfl⟩)
  | (go_at_call_of 110 vn;refine (c66 _ bgo).mono ?_;rintro r w3 ⟨rfl,rfl⟩)
  | (go_at_call_of 110 vd;refine (c66d _ bgo).mono ?_;rintro r w4 ⟨rfl,rfl⟩))
 exact bodyPost_ret (v:=.tuple #[IZ,.int .i64 4]) (by simp only [results,Tryz.results109];go_simp) rfl ⟨rfl,bgo⟩
theorem dcheck_k (hd:decide (knB d)=true)(hD:(((bl D:Nat):Int)==0)=false)(hN:¬ (25600:Int)<(bl N:Int))(hDl:¬ (25600:Int)<(bl D:Int))
  (c52:∀ W,Tab W->CB 53 #[.int .i64 n] W (.tuple #[IDec n nm wd P ex l m pa dn,.int .i64 0])) :
  CB 109 #[.int .i64 n,.int .i64 d,vn,vd] w (.tuple #[IDec n nm wd P ex l m pa dn,.int .i64 0]):=by
 have hsm:=cell_set_map
 have c53:=known_any d
 rw [hd] at c53
 go_enter Tryz.func109,Tryz.ntmps109
 go_wp2_with (first
  | (go_at_call 53;refine (c52 _ (hT.go bgo)).mono ?_;rintro r w1 ⟨rfl,hb1⟩;obtain ⟨_,_,_,_,hA1,_⟩:=wz w hb1;clear hb1)
  | (go_at_call 44;refine (c53 _).mono ?_;rintro r w2 ⟨rfl,rfl⟩)
  | (go_at_call_of 110 vn;refine (c66 _ bgo).mono ?_;rintro r w3 ⟨rfl,rfl⟩)
  | (go_at_call_of 110 vd;refine (c66d _ bgo).mono ?_;rintro r w4 ⟨rfl,rfl⟩))
 exact bodyPost_ret (v:=.tuple #[IDec n nm wd P ex l m pa dn,.int .i64 0]) (by simp only [results,Tryz.results109];go_simp) rfl ⟨rfl,bgo⟩
end
theorem mbr_stop {mo want:Int}{k c:Nat}{q:Int}(h:¬ (q<want/\q<mo/\c%10=0)):mbr mo want k c q=(c,q):=by
 cases k with
 | zero=>rfl
 | succ k=>show (if _ then _ else _)=_;rw [if_neg h]
theorem dmember_w (mo want:Int)(c0:Nat)(q0:Int)(v:Value)(w:World)(hq0:-100000<=q0/\q0<=100000)(hmo:-100000<=mo/\mo<=100000)(t:Int)(ht:t=min want mo)(R:Nat×Int)(hR:R=mbr mo want (mo-q0).toNat c0 q0)(hv:Nz 2003 c0 v w)(hc0:c0<2^256)
  (c42:∀ W u t c,c<2^256->Nz 2003 c u W->Nt 1 10 t W->Calls Tryz.prog 164 #[u,t] W fun e w'=>∃ q r,e=.returned (.tuple #[q,r,.int .i64 0])/\Nz 2003 (c/10) q w'/\Nt 2001 (c%10) r w'/\Below W.heap.size W w')
  (c18:∀ W u c,Nt 2001 c u W->CQ 110 #[u] W (.int .i64 (bl c:Int))) :
  Calls Tryz.prog 117 #[v,.int .i64 q0,.int .i64 t] w fun r w'=>∃ u,r=.returned (.tuple #[u,.int .i64 R.2])/\Nz 2003 R.1 u w'/\Below w.heap.size w w':=by
 have HT:Hid (t=min want mo):=ht
 have htb:t<=100000:=by omega
 clear ht
 go_enter Tryz.func117,Tryz.ntmps117
 go_wp2
 go_loopw [0,1,8,9,10,11,12,13,14,15,16,17,18,19,20,21,22,23,24,25,26] (fun u q _ _ _ _ _ _ _ _ _ _ _ _ _ _ _ _ _ _ _ wr=>∃ (c:Nat) (qi:Int),Hid (c<2^256)/\q=.int .i64 qi/\q0<=qi/\qi<=100000/\Nz 2003 c u wr/\R=mbr mo want (mo-qi).toNat c qi/\Below w.heap.size w wr) (fun _ q _ _ _ _ _ _ _ _ _ _ _ _ _ _ _ _ _ _ _ _=>(100001-intOf q).toNat)
 case atStart=>exact ⟨c0,q0,hc0,rfl,Int.le_refl _,hq0.2,hv,hR,Below.refl _ _⟩
 case round =>
  clear hv hR hc0
  obtain ⟨c,qi,Hc,rfl,hqa,hqb,hu,hRR,hB⟩:=hrel
  have hqa':-100000<=qi:=by omega
  have HR:Hid (R=mbr mo want (mo-qi).toNat c qi):=hRR
  clear hRR
  by_cases hlt:qi<t
  ·have hqm:qi<mo/\qi<want:=by have:=HT.out;omega
   by_cases hc:c%10=0
   ·have hb0:((bl (c%10):Nat):Int)=0:=by rw [hc];rfl
    go_wp2_with (first
     | (go_at_call 164;refine (c42 _ _ _ c Hc.out (hu.next (below1 _ _)) (nt_w1 (by simp) rfl (by decide))).mono ?_;rintro e w5 ⟨v5,r5,rfl,hv5,hr5,hb5⟩;have hB5:=bnx (bnx hB (below1 _ _)) hb5)
     | (go_at_call 110;refine (c18 _ _ _ hr5).mono ?_;rintro e w6 ⟨rfl,rfl⟩;rw [hb0]))
    go_roundw
    case rel =>
     refine ⟨c/10,qi+1,Nat.lt_of_le_of_lt (Nat.div_le_self _ _) Hc.out,by go_num,by omega,by omega,hv5,?_,hB5⟩
     rw [HR.out]
     obtain ⟨k,hk⟩:∃ k,(mo-qi).toNat=k+1:=⟨(mo-qi).toNat-1,by omega⟩
     rw [hk,show (mo-(qi+1)).toNat=k by omega]
     show (if _ then _ else _)=_
     rw [if_pos ⟨hqm.2,hqm.1,hc⟩]
    case measure=>simp [intOf];omega
   ·have hb0:(0:Int)<((bl (c%10):Nat):Int):=by have:=mt bl_zero.1 hc;omega
    have hE:Hid (R=(c,qi)):=HR.out.trans (mbr_stop fun h=>hc h.2.2)
    clear HR HT
    go_wp2_with (first
     | (go_at_call 164;refine (c42 _ _ _ c Hc.out (hu.next (below1 _ _)) (nt_w1 (by simp) rfl (by decide))).mono ?_;rintro e w5 ⟨v5,r5,rfl,hv5,hr5,hb5⟩;have hBB:=bnx (below1 _ _) hb5;have hB5:=bnx hB hBB)
     | (go_at_call 110;refine (c18 _ _ _ hr5).mono ?_;rintro e w6 ⟨rfl,rfl⟩))
    go_wp2
    refine bodyPost_ret (v:=.tuple #[u0,.int .i64 qi]) (by simp only [results,Tryz.results117];go_simp) rfl ⟨u0,by rw [hE.out],?_,hB5⟩
    rw [hE.out]
    exact hu.next hBB
  ·have hE:Hid (R=(c,qi)):=HR.out.trans (mbr_stop fun h=>by have:=HT.out;omega)
   clear HR HT
   go_wp2
   refine bodyPost_ret (v:=.tuple #[u0,.int .i64 qi]) (by simp only [results,Tryz.results117];go_simp) rfl ⟨u0,by rw [hE.out],?_,hB⟩
   rw [hE.out]
   exact hu
theorem nz_wide {K K' V:Nat}{v:Value}{w:World}(h:Nz K V v w)(hK:K<=K'):Nz K' V v w:=by
 unfold Nz at *
 obtain ⟨a,k,cap,z,h1,h2,h3⟩:=h
 exact ⟨a,k,cap,z,h1,by omega,h3⟩
theorem dmember_v (mo want:Int){c0:Nat}{q0:Int}{v:Value}{w:World}(hq0:-100000<=q0/\q0<=100000)(hmo:-100000<=mo/\mo<=100000)(hv:Nz 2003 c0 v w)(hc0:c0<2^256) :
  Calls Tryz.prog 117 #[v,.int .i64 q0,.int .i64 (min want mo)] w fun r w'=>∃ u,r=.returned (.tuple #[u,.int .i64 (mbr mo want (mo-q0).toNat c0 q0).2])/\Nz 2003 (mbr mo want (mo-q0).toNat c0 q0).1 u w'/\Below w.heap.size w w':=by
 refine dmember_w mo want c0 q0 v w hq0 hmo _ rfl _ rfl hv hc0 ?_ (fun W u c h=>nlen_v (by decide) h)
 intro W u t c hc hu ht
 have b1:bl c<=256:=bl_le.2 hc
 have b2:bl 10<=4:=bl_le.2 (by decide)
 refine (ndiv_v (by decide) (by decide) hu.nt ht (by omega) (by omega) (by decide)).mono ?_
 rintro r w' ⟨q,r',e1,e2,e3,e4⟩
 exact ⟨q,r',e1,nz_wide e2 (by decide),e3.nt,e4⟩
end
end Go.Proofs.YtahfkpjhlbiamaaGreatDoor
