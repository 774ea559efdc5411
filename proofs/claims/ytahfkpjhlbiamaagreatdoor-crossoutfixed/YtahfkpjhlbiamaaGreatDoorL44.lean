/-
  Texts that the proof leans on.
-/
import Derived.Test.YtahfkpjhlbiamaaGreatDoorL37
import Derived.Test.YtahfkpjhlbiamaaGreatDoorL1
import Derived.Test.YtahfkpjhlbiamaaGreatDoorL40
import Derived.Shelf.Strings.Repeat
import Derived.Shelf.Strings.Trim
import Derived.Test.YtahfkpjhlbiamaaGreatDoorProg
import Derived.Test.YtahfkpjhlbiamaaGreatDoorL17
set_option maxHeartbeats 8000000
set_option linter.unusedVariables false
set_option linter.unusedSectionVars false
set_option linter.unusedSimpArgs false
set_option maxRecDepth 20000
namespace Go.Proofs.YtahfkpjhlbiamaaGreatDoor
open Go.RowKit
section
attribute [local irreducible] W4 Nz Nt NT
theorem size_w {X L c0:Nat}{v:Value}{w:World}(b:Int)(hb:1<=b/\b<=100000)(hc0:(b-1)*30103/100000=(c0:Int))(hcL:c0<=L)(hL:L<=12000)
  (c66:∀ W,Below w.heap.size w W->CQ 110 #[v] W (.int .i64 b))
  (c61:∀ W,CE 98 #[.int .i64 (c0:Int)] W (NT 2001 (10^c0)))
  (c106:∀ W u j,j<=L->Below w.heap.size w W->NT 2001 (10^j) u W->Calls Tryz.prog 57 #[u,v] W fun e w'=>∃ c,e=.returned (.int .i64 c)/\(c<=0↔j<L)/\Below W.heap.size W w')
  (c62:∀ W u t j,j<L->NT 2001 (10^j) u W->NT 1 10 t W->Calls Tryz.prog 81 #[u,t] W fun r w'=>∃ q,r=.returned (.tuple #[q,.int .i64 0])/\NT 2001 (10^(j+1)) q w'/\Below W.heap.size W w') :
  CB 97 #[v] w (.int .i64 (L:Int)):=by
 have hb1:0<=(b-1)*30103:=by omega
 have hb2:(b-1)*30103<=3010300000:=by omega
 have ht:((b-1)*30103).tdiv 100000=(c0:Int):=by rw [Int.tdiv_eq_ediv_of_nonneg hb1];exact hc0
 have hcb:(c0:Int)<=12000:=by omega
 have HL:Hid (c0<=L/\L<=12000):=⟨hcL,hL⟩
 clear hcL hL
 go_enter Tryz.func97,Tryz.ntmps97
 go_wp2_with (first
  | (go_at_call 110;refine (c66 _ bgo).mono ?_;rintro e w1 ⟨rfl,rfl⟩)
  | (go_at_call 98;refine (c61 _).mono ?_;rintro r w2 ⟨v2,rfl,hv2,hb2⟩))
 clear c66 c61 ht
 go_loopw [3,4,12,13,14,15,16,17,18,19,20,21,22,23] (fun t3 t4 _ _ _ _ _ _ _ _ _ _ _ _ wr=>∃ (j:Nat),j<=L/\t3=.int .i64 (j:Int)/\NT 2001 (10^j) t4 wr/\Below w.heap.size w wr) (fun t3 _ _ _ _ _ _ _ _ _ _ _ _ _ _=>L-(intOf t3).toNat)
 case atStart=>exact ⟨c0,HL.out.1,rfl,hv2,hb2⟩
 case round =>
  obtain ⟨j,hj,rfl,hv,hB⟩:=hrel
  have hjb:(j:Int)<=12000:=by have:=HL.out.2;omega
  by_cases h4:j<L
  ·go_wp2_with (first
    | (go_at_call 57;refine (c106 _ _ j hj hB hv).mono ?_;rintro e w5 ⟨c5,rfl,hc5,hb5⟩;replace hc5:=hc5.2 h4;have hB5:=bnx hB hb5;replace hv:=hv.next hb5)
    | (go_at_call 81;refine (c62 _ _ _ j h4 (hv.next (below1 _ _)) (nt_un1 (by simp) rfl (by decide) (by decide))).mono ?_;rintro e w6 ⟨v6,rfl,hv6,hb6⟩;have hB6:=bnx (bnx hB5 (below1 _ _)) hb6))
   go_roundw
   case rel=>exact ⟨j+1,h4,by go_num,hv6,hB6⟩
   case measure=>simp [intOf];omega
  ·have hjL:j=L:=by omega
   subst hjL
   go_wp2_with (go_at_call 57;refine (c106 _ _ j hj hB hv).mono ?_;rintro e w5 ⟨c5,rfl,hc5,hb5⟩;replace hc5:¬ c5<=0:=fun h=>absurd (hc5.1 h) (by omega);have hB5:=bnx hB hb5)
   go_ret
   exact ⟨rfl,hB5⟩
theorem size_v {X:Nat}{v:Value}{w:World}(h0:X≠0)(hb:bl X<=39785)(h:NT 2001 X v w):CB 97 #[v] w (.int .i64 ((dcW X).length:Int)):=by
 obtain ⟨h1,h2,h3⟩:=dcW_bd h0
 have hmost:=dcW_most h0 hb
 have hg:=sz_guess h0 hb
 have hbp:bl X≠0:=fun e=>h0 (bl_zero.1 e)
 have hbt:∀ j,j<=12000->bl (10^j)<=4*j+1:=fun j hj=>bl_le.2 (by
  have a1:10^j<=(2^4)^j:=Nat.pow_le_pow_left (by decide) _
  rw [← Nat.pow_mul] at a1
  exact Nat.lt_of_le_of_lt a1 (Nat.pow_lt_pow_succ (by decide)))
 refine size_w (X:=X) (c0:=(bl X-1)*30103/100000) (bl X:Int) (by omega) (by omega) hg (by omega) (fun W hW=>nlen_v (by decide) (h.nt.next hW)) (fun W=>ten_v _ W (by omega)) (fun W u j hj hW hu=>?_) (fun W u t j hj hu ht=>?_)
 ·refine (ncmp_v (by decide) (by decide) hu.nt (h.nt.next hW)).mono fun e w' ⟨e1,e2⟩=>⟨_,e1,?_,e2⟩
  rcases Nat.lt_or_ge j (dcW X).length with hl|hl
  ·have:10^j<=X:=Nat.le_trans (Nat.pow_le_pow_right (by decide) (by omega)) h2
   refine ⟨fun _=>hl,fun _=>?_⟩
   rcases sgn_ways ((10^j:Nat):Int) (X:Int) with ⟨a,e⟩|⟨a,e⟩|⟨a,e⟩<;>omega
  ·have ej:j=(dcW X).length:=by omega
   rw [← ej] at h3
   refine ⟨fun hc=>?_,fun hc=>absurd hc (by omega)⟩
   rcases sgn_ways ((10^j:Nat):Int) (X:Int) with ⟨a,e⟩|⟨a,e⟩|⟨a,e⟩<;>omega
 ·have b1:=hbt j (by omega)
  have b2:bl 10<=4:=bl_small (by decide)
  have:=nmul_w (by decide) (by decide) hu.nt ht.nt (show bl (10^j)+bl 10<=127000 by omega)
  rw [← Nat.pow_succ] at this
  exact this
end
section
attribute [local irreducible] W4 Nz Nt NT
section
variable (d:Int)(m:Nat)(c:Int)(s g:Bool)(x:Int)(k:Nat)(w:World)(hm:1<=m/\m<=800)
include hm
variable (X N U Sc C:Nat)(L E:Int)(D D':List UInt8)(exa:Bool)(hL:1<=L/\L<=12000)(hE:-17000<=E/\E<=17000)
 (hD:D.length<=1000) (hDm:m<=D.length) (hD':(B D).extract 0 m=B D')
 (c32:∀ W,CB 94 #[DV c s g x k] W (.bool false))
 (c33:∀ W,Calls Tryz.prog 96 #[DV c s g x k] W fun r w'=>∃ v,r=.returned (.tuple #[v,.int .i64 E])/\NT 2001 X v w'/\Below W.heap.size W w')
 (c60:∀ W v,NT 2001 X v W->CB 97 #[v] W (.int .i64 L))
 (c61:∀ W,CE 98 #[.int .i64 (max (L-m) 0)] W (NT 2001 U))
 (c61':∀ W,CE 98 #[.int .i64 (max (-(L-m)) 0)] W (NT 2001 Sc))
 (c62:∀ W v v',NT 2001 X v W->NT 2001 Sc v' W->Calls Tryz.prog 81 #[v,v'] W fun r w'=>∃ q,r=.returned (.tuple #[q,.int .i64 0])/\NT 2001 N q w'/\Below W.heap.size W w')
 (c63:∀ W v v',NT 2001 N v W->NT 2001 U v' W->Calls Tryz.prog 99 #[.int .i64 d,.bool s,v,v'] W fun e w'=>∃ q,e=.returned (.tuple #[q,.bool exa])/\Nz 2003 C q w'/\Below W.heap.size W w')
 (c34:∀ W v,Nt 2003 C v W->CB 48 #[v] W (.tuple #[.string (B D),.int .i64 0]))
include hL hE hD hDm hD' c32 c33 c60 c61 c61' c62 c63 c34
theorem sig_w :
  CB 45 #[.int .i64 d,.int .i64 (m:Int),DV c s g x k] w (.tuple #[.string (B D'),.int .i64 (E+(L-m)+D.length-1),.bool exa]):=by
 have hsm:=cell_set_map
 have hz:(B D).size=D.length:=B_size D
 unfold DV at *
 go_enter Tryz.func45,Tryz.ntmps45
 go_wp2_with (first
  | (go_at_call 94;refine (c32 _).mono ?_;rintro r w1 ⟨rfl,hb1⟩;obtain ⟨_,_,_,_,hA1,_⟩:=wz w hb1;clear hb1)
  | (go_at_call 96;refine (c33 _).mono ?_;rintro r w2 ⟨v2,rfl,hv2,hb2⟩;obtain ⟨_,_,_,_,hA2,_⟩:=wz w hb2;clear hb2)
  | (go_at_call 97;refine (c60 _ _ hv2).mono ?_;rintro r w3 ⟨rfl,hb3⟩;have hv3:=hv2.next hb3;obtain ⟨_,_,_,_,hA3,_⟩:=wz w hb3;clear hb3)
  | (have hh:=hv4;go_at_call 98;refine (c61' _).mono ?_;rintro r w5 ⟨v5,rfl,hv5,hb5⟩;have hu5:=hv4.next hb5;have hx5:=hx4.next hb5;obtain ⟨_,_,_,_,hA5,_⟩:=wz w hb5;clear hb5)
  | (go_at_call 98;refine (c61 _).mono ?_;rintro r w4 ⟨v4,rfl,hv4,hb4⟩;have hx4:=hv3.next hb4;obtain ⟨_,_,_,_,hA4,_⟩:=wz w hb4;clear hb4)
  | (go_at_call 81;refine (c62 _ _ _ hx5 hv5).mono ?_;rintro r w6 ⟨v6,rfl,hv6,hb6⟩;have hu6:=hu5.next hb6;obtain ⟨_,_,_,_,hA6,_⟩:=wz w hb6;clear hb6)
  | (go_at_call 99;refine (c63 _ _ _ hv6 hu6).mono ?_;rintro r w7 ⟨q7,rfl,hq7,hb7⟩;obtain ⟨_,_,_,_,hA7,_⟩:=wz w hb7;clear hb7)
  | (go_at_call 48;refine (c34 _ _ hq7.nt).mono ?_;rintro r w9 ⟨rfl,hb9⟩;obtain ⟨_,_,_,_,hA9,_⟩:=wz w hb9;clear hb9))
 exact bodyPost_ret (v:=.tuple #[.string (B D'),.int .i64 (E+(L-m)+D.length-1),.bool exa]) (by simp only [results,Tryz.results45];go_simp) rfl ⟨rfl,bgo⟩
end
end
theorem sig_v (d:Int)(m:Nat)(c:Int)(s g:Bool)(x:Int)(k:Nat)(w:World)(hm:1<=m/\m<=800)(hk0:k≠0)(hk:k<2^256)(hx:-16990<=x/\x<=16990) :
  CB 45 #[.int .i64 d,.int .i64 (m:Int),DV c s g x k] w (.tuple #[.string (B (fxD m (fxC d s k x (cuE k x) m))),.int .i64 (fxX m (fxC d s k x (cuE k x) m) (cuE k x-m+1)+m-1),.bool (!fxI k x (cuE k x) m)]):=by
 have hX0:=ex_ne hk0 x
 have hXb:=ex_short hk hx
 obtain ⟨l1,l2,l3⟩:=dcW_bd hX0
 have lm:=dcW_most hX0 hXb
 obtain ⟨t0,t1⟩:=cu_top hk0 x
 obtain ⟨f1,f2⟩:=fx_digits d s t0 t1 hm.1 (a:=cuE k x-m+1) rfl
 obtain ⟨x1,x2,x3⟩:=fx_text hm.1 f1 f2 (cuE k x-m+1)
 obtain ⟨e1,e2⟩:=cu_whole d s k x m
 change 10^(m-1)<=fxC d s k x (cuE k x) m at f1
 change fxC d s k x (cuE k x) m<=10^m at f2
 change gdD (fxD m (fxC d s k x (cuE k x) m)) at x1
 change (fxD m (fxC d s k x (cuE k x) m)).length=m at x2
 have hU0:=cuU_pos k x m
 have p10b:∀ j:Nat,bl (10^j)<=4*j+1:=fun j=>bl_le.2 (by
  have a1:10^j<=(2^4)^j:=Nat.pow_le_pow_left (by decide) _
  rw [← Nat.pow_mul] at a1
  exact Nat.lt_of_le_of_lt a1 (Nat.pow_lt_pow_succ (by decide)))
 have bU:bl (cuU k x m)<=48000:=by
  have:=p10b ((dcW (exX k x)).length-(m:Int)).toNat
  unfold cuU
  omega
 have bS:=p10b (-((dcW (exX k x)).length-(m:Int))).toNat
 have bN:bl (cuN k x m)<=43000:=by
  have:=bl_mul (exX k x) (10^(-((dcW (exX k x)).length-(m:Int))).toNat)
  unfold cuN
  omega
 have hlen:(dcW (fxC d s k x (cuE k x) m)).length=m∨(dcW (fxC d s k x (cuE k x) m)).length=m+1:=by
  rcases Nat.lt_or_ge (fxC d s k x (cuE k x) m) (10^m) with h|h
  ·exact Or.inl (dcW_len hm.1 f1 h)
  ·right
   rw [show fxC d s k x (cuE k x) m=10^m by omega,dcW_pow]
   simp
 have hC0:fxC d s k x (cuE k x) m≠0:=by
  have:0<10^(m-1):=Nat.pow_pos (by decide)
  omega
 have hbC:bl (fxC d s k x (cuE k x) m)<=4000:=by
  have a1:=p10b m
  have a2:fxC d s k x (cuE k x) m<2^(4*m+1):=Nat.lt_of_le_of_lt f2 (bl_le.1 a1)
  have:=bl_le.2 a2
  omega
 have c32:∀ W,CB 94 #[DV c s g x k] W (.bool false):=fun W=>by
  have:=fnone_v c s g x k W hk
  rw [decide_eq_false hk0] at this
  exact this
 have c61:∀ (z:Int),z<=12000->∀ W,CE 98 #[.int .i64 (max z 0)] W (NT 2001 (10^z.toNat)):=fun z hz W=>by
  have:=ten_v z.toNat W (by omega)
  rw [show ((z.toNat:Nat):Int)=max z 0 by omega] at this
  exact this
 have hplace:exA x+(((dcW (exX k x)).length:Int)-m)+(dcW (fxC d s k x (cuE k x) m)).length-1=fxX m (fxC d s k x (cuE k x) m) (cuE k x-m+1)+m-1:=by
  unfold fxX cuE
  rcases hlen with h|h
  ·rw [show (dcW (fxC d s k x (exA x+(dcW (exX k x)).length-1) m)).length=m from h,if_neg (by omega)]
   omega
  ·rw [show (dcW (fxC d s k x (exA x+(dcW (exX k x)).length-1) m)).length=m+1 from h,if_pos (by omega)]
   omega
 have hex:decide (cuN k x m%cuU k x m=0)=!fxI k x (cuE k x) m:=by
  rw [e2,Bool.not_not]
 have hExt:(B (dcW (fxC d s k x (cuE k x) m))).extract 0 m=B (fxD m (fxC d s k x (cuE k x) m)):=by
  rw [B_ext,List.drop_zero]
  rfl
 have hxA:-17000<=exA x/\exA x<=17000:=by unfold exA;split<;>omega
 rw [← hplace,← hex]
 have c62:∀ W v v',NT 2001 (exX k x) v W->NT 2001 (10^(-((dcW (exX k x)).length-(m:Int))).toNat) v' W->Calls Tryz.prog 81 #[v,v'] W fun r w'=>∃ q,r=.returned (.tuple #[q,.int .i64 0])/\NT 2001 (cuN k x m) q w'/\Below W.heap.size W w':=fun W v v' h h'=>nmul_w (by decide) (by decide) h.nt h'.nt (by omega)
 have c63:∀ W v v',NT 2001 (cuN k x m) v W->NT 2001 (cuU k x m) v' W->Calls Tryz.prog 99 #[.int .i64 d,.bool s,v,v'] W fun e w'=>∃ q,e=.returned (.tuple #[q,.bool (decide (cuN k x m%cuU k x m=0))])/\Nz 2003 (fxC d s k x (cuE k x) m) q w'/\Below W.heap.size W w':=fun W v v' h h'=>by
  have:=whole_cv d s h.nt h'.nt (show cuU k x m≠0 by omega) (by omega) (by omega)
  rw [e1]
  exact this
 have c34:∀ W v,Nt 2003 (fxC d s k x (cuE k x) m) v W->CB 48 #[v] W (.tuple #[.string (B (dcW (fxC d s k x (cuE k x) m))),.int .i64 0]):=fun W v h=>ndig_nW (by decide) (by omega) hC0 h
 exact sig_w d m c s g x k w hm (exX k x) (cuN k x m) (cuU k x m) _ (fxC d s k x (cuE k x) m) ((dcW (exX k x)).length:Int) (exA x) (dcW (fxC d s k x (cuE k x) m)) _ _ (by omega) hxA (by omega) (by omega) hExt c32 (fun W=>whole_v c s g x k W hk (by omega)) (fun W v h=>size_v hX0 hXb h) (c61 _ (by omega)) (c61 _ (by omega)) c62 c63 c34
section
attribute [local irreducible] W4 NT NV
section
variable (n d cnt:Int)(V:Nat)(c:Int)(s g:Bool)(x:Int)(k:Nat)(w:World)(hT:Tab w)
include hT
variable (c23:∀ W,Tab W->CB 13 #[.int .i64 n,A4 V] W (.tuple #[DV c s g x k,.int .i64 0]))
include c23
variable (c24:∀ W,CQ 44 #[.int .i64 d] W (.bool true))
include c24
variable (hc1:1<=cnt)(hc8:cnt<=800)
include hc1 hc8
variable (hc:c=1)(hT10:Tb10 w)(D T:List UInt8)(e:Int)(ex:Bool)(hl:T.length<=100000)
 (c25:∀ W,CB 45 #[.int .i64 d,.int .i64 cnt,DV 1 s g x k] W (.tuple #[.string (B D),.int .i64 e,.bool ex]))
 (c26:∀ W,Tb10 W->CB 46 #[.string (B D),.int .i64 e] W (.string (B T)))
include hc hT10 hl c25 c26
theorem fw_p (hs:s=false) :
  CB 21 #[.int .i64 n,.int .i64 d,.int .i64 cnt,A4 V] w (.tuple #[.string (B T),.bool (!ex),.int .i64 0]):=by
 subst hc hs
 have hsm:=cell_set_map
 unfold DV A4 at *
 go_enter Tryz.func21,Tryz.ntmps21
 go_wp2_with (first
  | (go_at_call 13;refine (c23 _ (hT.go bgo)).mono ?_;rintro r w1 ⟨rfl,hb1⟩;obtain ⟨hc1,_,_,_,hA1,_⟩:=wz w hb1;clear hb1)
  | (go_at_call 44;refine (c24 _).mono ?_;rintro r w2 ⟨rfl,rfl⟩)
  | (go_at_call 45;refine (c25 _).mono ?_;rintro r w3 ⟨rfl,hb3⟩;obtain ⟨_,_,_,_,hA3,_⟩:=wz w hb3;obtain ⟨_,_⟩:=zf hb3 w1.heap.size;clear hb3)
  | (go_at_call 46;refine (c26 _ (hT10.next bgo)).mono ?_;rintro r w4 ⟨rfl,hb4⟩;obtain ⟨_,_,_,_,hA4,_⟩:=wz w hb4;obtain ⟨_,_⟩:=zf hb4 w1.heap.size;clear hb4))
 exact bodyPost_ret (v:=.tuple #[.string (B T),.bool (!ex),.int .i64 0]) (by simp only [results,Tryz.results21];go_simp) rfl ⟨rfl,bgo⟩
theorem fw_m (hs:s=true) :
  CB 21 #[.int .i64 n,.int .i64 d,.int .i64 cnt,A4 V] w (.tuple #[.string (B ([45]++T)),.bool (!ex),.int .i64 0]):=by
 subst hc hs
 have hsm:=cell_set_map
 have htl:=B_toList
 have p0:(⟨#[45]⟩:ByteArray)++B T=B ([45]++T):=B_app [45] T
 have z0:(B T).size=T.length:=B_size T
 generalize [45]++T=T2 at *
 unfold DV A4 at *
 go_enter Tryz.func21,Tryz.ntmps21
 go_wp2_with (first
  | (go_at_call 13;refine (c23 _ (hT.go bgo)).mono ?_;rintro r w1 ⟨rfl,hb1⟩;obtain ⟨hc1,_,_,_,hA1,_⟩:=wz w hb1;clear hb1)
  | (go_at_call 44;refine (c24 _).mono ?_;rintro r w2 ⟨rfl,rfl⟩)
  | (go_at_call 45;refine (c25 _).mono ?_;rintro r w3 ⟨rfl,hb3⟩;obtain ⟨_,_,_,_,hA3,_⟩:=wz w hb3;obtain ⟨_,_⟩:=zf hb3 w1.heap.size;clear hb3)
  | (go_at_call 46;refine (c26 _ (hT10.next bgo)).mono ?_;rintro r w4 ⟨rfl,hb4⟩;obtain ⟨_,_,_,_,hA4,_⟩:=wz w hb4;obtain ⟨_,_⟩:=zf hb4 w1.heap.size;clear hb4))
 exact bodyPost_ret (v:=.tuple #[.string (B T2),.bool (!ex),.int .i64 0]) (by simp only [results,Tryz.results21];go_simp) rfl ⟨rfl,bgo⟩
end
section
variable {n d:Int}{V:Nat}(hV:V<2^256)(hd:knB d)(hg:goodN n V)(w:World)(hT:Tab w)
include hV hd hg hT
variable {m:Nat}(hm1:1<=m)(hm8:m<=800)
include hm1 hm8
variable (hT10:Tb10 w)(hc:(unD n V).c=1)
include hT10 hc
theorem fwrite_t {D T:List UInt8}{e:Int}{ex:Bool}(hl:T.length<=100000)
  (c25:∀ W,CB 45 #[.int .i64 d,.int .i64 (m:Int),DV 1 (unD n V).s (unD n V).g (unD n V).x (unD n V).k] W (.tuple #[.string (B D),.int .i64 e,.bool ex]))
  (c26:∀ W,Tb10 W->CB 46 #[.string (B D),.int .i64 e] W (.string (B T))) :
  CB 21 #[.int .i64 n,.int .i64 d,.int .i64 (m:Int),A4 V] w (.tuple #[.string (B (sgL (unD n V).s++T)),.bool (!ex),.int .i64 0]):=by
 have c23:=fun W hW=>unpack_any n V W hW hV
 rw [show unE n V=0 from if_pos hg] at c23
 have eD:(unD n V).v=DV 1 (unD n V).s (unD n V).g (unD n V).x (unD n V).k:=by rw [← hc]
 rw [eD] at c23
 have c24:=fun W=>known_any d W
 rw [decide_eq_true hd] at c24
 cases hs:(unD n V).s
 ·rw [hs] at c23 c25
  exact fw_p n d m V 1 false (unD n V).g (unD n V).x (unD n V).k w hT c23 c24 (by omega) (by omega) rfl hT10 D T e ex hl c25 c26 rfl
 ·rw [hs] at c23 c25
  exact fw_m n d m V 1 true (unD n V).g (unD n V).x (unD n V).k w hT c23 c24 (by omega) (by omega) rfl hT10 D T e ex hl c25 c26 rfl
theorem fwrite_k (hk:(unD n V).k≠0){E:Int}(hE:E=cuE (unD n V).k (unD n V).x) :
  CB 21 #[.int .i64 n,.int .i64 d,.int .i64 (m:Int),A4 V] w (.tuple #[.string (B (fxT d (unD n V).s (unD n V).k (unD n V).x E m)),.bool (fxI (unD n V).k (unD n V).x E m),.int .i64 0]):=by
 subst hE
 obtain ⟨hb,hkb,hx1,hx2,hD⟩:=fin_facts ⟨hg,hc,hk⟩
 obtain ⟨t0,t1⟩:=cu_top hk (unD n V).x
 have hfar:=tn_far hkb hx2 t0
 have hlow:=tn_low hk hx1 t1
 obtain ⟨f1,f2⟩:=fx_digits d (unD n V).s t0 t1 hm1 (a:=cuE (unD n V).k (unD n V).x-m+1) rfl
 obtain ⟨x1,x2,x3⟩:=fx_text hm1 f1 f2 (cuE (unD n V).k (unD n V).x-m+1)
 have hX:cuE (unD n V).k (unD n V).x-m+1<=fxX m (fxC d (unD n V).s (unD n V).k (unD n V).x (cuE (unD n V).k (unD n V).x) m) (cuE (unD n V).k (unD n V).x-m+1)/\fxX m (fxC d (unD n V).s (unD n V).k (unD n V).x (cuE (unD n V).k (unD n V).x) m) (cuE (unD n V).k (unD n V).x-m+1)<=cuE (unD n V).k (unD n V).x-m+1+1:=by
  unfold fxX
  split<;>omega
 have x2':(fxD m (fxC d (unD n V).s (unD n V).k (unD n V).x (cuE (unD n V).k (unD n V).x) m)).length=m:=x2
 have hbr:=unT_brief (D:=fxD m (fxC d (unD n V).s (unD n V).k (unD n V).x (cuE (unD n V).k (unD n V).x) m)) (e:=fxX m (fxC d (unD n V).s (unD n V).k (unD n V).x (cuE (unD n V).k (unD n V).x) m) (cuE (unD n V).k (unD n V).x-m+1)+m-1) (by omega)
 have:=fwrite_t hV hd hg w hT hm1 hm8 hT10 hc (by omega) (fun W=>sig_v d m 1 (unD n V).s (unD n V).g (unD n V).x (unD n V).k W ⟨hm1,hm8⟩ hk hkb ⟨hx1,hx2⟩) (fun W hW=>ltext_v _ _ W hW (by omega) (by omega) (by omega))
 rw [Bool.not_not] at this
 exact this
end
end
end Go.Proofs.YtahfkpjhlbiamaaGreatDoor
