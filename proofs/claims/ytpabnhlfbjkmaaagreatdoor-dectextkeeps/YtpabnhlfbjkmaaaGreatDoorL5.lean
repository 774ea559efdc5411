/-
  Texts that the proof leans on, joined: Cmp, Nad, Nsb, Nln, Nsf.
-/
import Derived.Test.YtpabnhlfbjkmaaaGreatDoorL1
import Derived.Test.YtpabnhlfbjkmaaaGreatDoorL4
set_option maxHeartbeats 8000000
set_option linter.unusedVariables false
set_option linter.unusedSimpArgs false
set_option linter.unusedSectionVars false
set_option maxRecDepth 20000
namespace Go.Proofs.YtpabnhlfbjkmaaaGreatDoor
open Go.RowKit
theorem sizeL_congr {x y:Nat->Int}:∀ n,(∀ i,i<n->x i=y i)->sizeL x n=sizeL y n
 | 0,_=>rfl
 | n+1,h=>by simp only [sizeL];rw [h n (by omega),sizeL_congr n fun i hi=>h i (by omega)]
theorem val_bare {x:Nat->Int} (m:Nat):val x (sizeL x m)=val x m:=by
 have h1:=val_more (sizeL_zero m fun i hi=>segW_zero x 0 m i hi) m (sizeL_le _ m)
 have h2:sizeL (segW x 0 m) m=sizeL x m:=sizeL_congr m fun i hi=>by rw [segW_lt x 0 m i hi,Nat.zero_add]
 rw [h2] at h1
 have hle:=sizeL_le x m
 rw [val_congr (x:=segW x 0 m) (y:=x) m fun i hi=>by rw [segW_lt x 0 m i hi,Nat.zero_add],val_congr (x:=segW x 0 m) (y:=x) (sizeL x m) fun i hi=>by rw [segW_lt x 0 m i (by omega),Nat.zero_add]] at h1
 exact h1.symm
def sgn (a b:Int):Int:=if a<b then -1 else if b<a then 1 else 0
theorem sgn_add (a b t:Int):sgn (a+t) (b+t)=sgn a b:=by
 unfold sgn
 by_cases h:a<b
 ·rw [if_pos h,if_pos (by omega)]
 ·rw [if_neg h,if_neg (by omega)]
  by_cases h':b<a
  ·rw [if_pos h',if_pos (by omega)]
  ·rw [if_neg h',if_neg (by omega)]
theorem sgn_bd (a b:Int):-1<=sgn a b/\sgn a b<=1:=by unfold sgn;split <;> (try split) <;> omega
theorem drw2 (w:World) (m a b:Nat):∃ k,w.drewN k=((w.drewN m).drewN a).drewN b:=⟨m+a+b,by simp [World.drewN,Nat.add_assoc]⟩
theorem compare_u64 (a b:Int) (w:World):CQ 194 #[.int .u64 a,.int .u64 b] w (.int .i64 (sgn a b)):=by
 have hN:∀ (a:Int),CQ 216 #[.int .u64 a] w (.bool false):=by
  intro a
  go_enter Tryz.func216,Tryz.ntmps216
  go_wp2
  go_ret
  exact ⟨rfl,rfl⟩
 have ha:=hN a
 have hb:=hN b
 clear hN
 by_cases h1:a<b
 ·have HS:Hid (sgn a b=-1):=by show _=_;unfold sgn;rw [if_pos h1]
  go_enter Tryz.func194,Tryz.ntmps194
  go_wp2_with (go_at_call 216;first | (refine ha.mono ?_;rintro e w' ⟨rfl,rfl⟩) | (refine hb.mono ?_;rintro e w' ⟨rfl,rfl⟩))
  go_ret
  exact ⟨ret_int HS.out.symm,rfl⟩
 ·by_cases h2:b<a
  ·have HS:Hid (sgn a b=1):=by show _=_;unfold sgn;rw [if_neg h1,if_pos h2]
   go_enter Tryz.func194,Tryz.ntmps194
   go_wp2_with (go_at_call 216;first | (refine ha.mono ?_;rintro e w' ⟨rfl,rfl⟩) | (refine hb.mono ?_;rintro e w' ⟨rfl,rfl⟩))
   go_ret
   exact ⟨ret_int HS.out.symm,rfl⟩
  ·have HS:Hid (sgn a b=0):=by show _=_;unfold sgn;rw [if_neg h1,if_neg h2]
   go_enter Tryz.func194,Tryz.ntmps194
   go_wp2_with (go_at_call 216;first | (refine ha.mono ?_;rintro e w' ⟨rfl,rfl⟩) | (refine hb.mono ?_;rintro e w' ⟨rfl,rfl⟩))
   go_ret
   exact ⟨ret_int HS.out.symm,rfl⟩
theorem compare_int (a b:Int) (w:World):CQ 193 #[.int .i64 a,.int .i64 b] w (.int .i64 (sgn a b)):=by
 have hN:∀ (a:Int),CQ 215 #[.int .i64 a] w (.bool false):=by
  intro a
  go_enter Tryz.func215,Tryz.ntmps215
  go_wp2
  go_ret
  exact ⟨rfl,rfl⟩
 have ha:=hN a
 have hb:=hN b
 clear hN
 by_cases h1:a<b
 ·have HS:Hid (sgn a b=-1):=by show _=_;unfold sgn;rw [if_pos h1]
  go_enter Tryz.func193,Tryz.ntmps193
  go_wp2_with (go_at_call 215;first | (refine ha.mono ?_;rintro e w' ⟨rfl,rfl⟩) | (refine hb.mono ?_;rintro e w' ⟨rfl,rfl⟩))
  go_ret
  exact ⟨ret_int HS.out.symm,rfl⟩
 ·by_cases h2:b<a
  ·have HS:Hid (sgn a b=1):=by show _=_;unfold sgn;rw [if_neg h1,if_pos h2]
   go_enter Tryz.func193,Tryz.ntmps193
   go_wp2_with (go_at_call 215;first | (refine ha.mono ?_;rintro e w' ⟨rfl,rfl⟩) | (refine hb.mono ?_;rintro e w' ⟨rfl,rfl⟩))
   go_ret
   exact ⟨ret_int HS.out.symm,rfl⟩
  ·have HS:Hid (sgn a b=0):=by show _=_;unfold sgn;rw [if_neg h1,if_neg h2]
   go_enter Tryz.func193,Tryz.ntmps193
   go_wp2_with (go_at_call 215;first | (refine ha.mono ?_;rintro e w' ⟨rfl,rfl⟩) | (refine hb.mono ?_;rintro e w' ⟨rfl,rfl⟩))
   go_ret
   exact ⟨ret_int HS.out.symm,rfl⟩
theorem cmpL_val {x y:Nat->Int} (hx:Words x) (hy:Words y):∀ n,cmpL x y n=sgn (val x n) (val y n)
 | 0=>by simp [cmpL,sgn,val]
 | n+1=>by
  have hxb:=val_bd hx n
  have hyb:=val_bd hy n
  have ih:=cmpL_val hx hy n
  have hp:=pw_pos n
  have e1:val x (n+1)=val x n+x n*18446744073709551616^n:=rfl
  have e2:val y (n+1)=val y n+y n*18446744073709551616^n:=rfl
  rw [e1,e2]
  simp only [cmpL]
  generalize (18446744073709551616:Int)^n=P at *
  by_cases h1:x n<y n
  ·rw [if_pos h1]
   have:(x n+1)*P<=y n*P:=Int.mul_le_mul_of_nonneg_right (by omega) (by omega)
   rw [Int.add_mul,Int.one_mul] at this
   unfold sgn;rw [if_pos (by omega)]
  ·rw [if_neg h1]
   by_cases h2:y n<x n
   ·rw [if_pos h2]
    have:(y n+1)*P<=x n*P:=Int.mul_le_mul_of_nonneg_right (by omega) (by omega)
    rw [Int.add_mul,Int.one_mul] at this
    unfold sgn;rw [if_neg (by omega),if_pos (by omega)]
   ·have e:x n=y n:=by omega
    rw [if_neg h2,ih,e,sgn_add]
theorem val_longer {x y:Nat->Int} (hx:Words x) (hy:Words y) {n m:Nat} (h:n<m) (hm:sizeL y m=m):val x n<val y m:=by
 obtain ⟨k,rfl⟩:∃ k,m=k+1:=⟨m-1,by omega⟩
 have hne:y k≠0:=by
  intro e
  have:sizeL y (k+1)=sizeL y k:=by simp [sizeL,e]
  have:=sizeL_le y k
  omega
 have h1:=(val_bd hx n).2
 have h2:=(val_bd hy k).1
 have h3:=pw_pos k
 have h4:=hy k
 have h5:(18446744073709551616:Int)^n<=18446744073709551616^k:=by
  obtain ⟨q,rfl⟩:∃ q,k=n+q:=⟨k-n,by omega⟩
  rw [Int.pow_add]
  have:=pw_pos n
  have:=pw_pos q
  have:(18446744073709551616:Int)^n*1<=18446744073709551616^n*18446744073709551616^q:=Int.mul_le_mul_of_nonneg_left (by omega) (by omega)
  omega
 show _<val y k+y k*18446744073709551616^k
 have:1*18446744073709551616^k<=y k*18446744073709551616^k:=Int.mul_le_mul_of_nonneg_right (by omega) (by omega)
 omega
theorem ncmp_any (a a':Option Addr) (n c n' c':Nat) (x y:Nat->Int) (w:World) (hn:n<4294967296) (hn':n'<4294967296) (h:Num w a n c x) (h':Num w a' n' c' y) :
  Calls Tryz.prog 164 #[.slice a n c,.slice a' n' c'] w fun e w'=>e=.returned (.int .i64 (sgn (val x n) (val y n')))/\∃ m,w.drewN m=w':=by
 have hb:=bare_any a n c x w hn h
 have hb':=bare_any a' n' c' y w hn' h'
 rw [← val_bare n,← val_bare n']
 have hx:=h.2.2.1
 have hy:=h'.2.2.1
 have h1:=sizeL_sizeL x n
 have h1':=sizeL_sizeL y n'
 have hle:=sizeL_le x n
 have hle':=sizeL_le y n'
 have hN:=h.bare
 have hN':=h'.bare
 generalize sizeL x n=s at *
 generalize sizeL y n'=s' at *
 have HV:Hid (∀ k,cmpL x y k=sgn (val x k) (val y k)):=cmpL_val hx hy
 have HL1:Hid (s<s'->sgn (val x s) (val y s')=sgn s s'):=fun hlt=>by
  have:=val_longer hx hy hlt h1'
  unfold sgn;rw [if_pos this,if_pos (by omega)]
 have HL2:Hid (s'<s->sgn (val x s) (val y s')=sgn s s'):=fun hlt=>by
  have:=val_longer hy hx hlt h1
  unfold sgn;rw [if_neg (by omega),if_pos this,if_neg (by omega),if_pos (by omega)]
 clear h h' h1 h1' hx hy
 by_cases e:s=s'
 ·subst e
  have hc:∀ i,i<s->∃ b off,a=some ⟨b,off,none⟩/\w.cell? ⟨b,off+i,none⟩=some (.int .u64 (x i)):=by
   intro i hi
   have h5:=hN.2.2.2.2
   rcases h5 with ⟨_,h⟩ | ⟨b,off,h,_,hc⟩
   ·have:=hN.1;omega
   ·exact ⟨b,off,h,hc i hi⟩
  have hc':∀ i,i<s->∃ b off,a'=some ⟨b,off,none⟩/\w.cell? ⟨b,off+i,none⟩=some (.int .u64 (y i)):=by
   intro i hi
   have h5:=hN'.2.2.2.2
   rcases h5 with ⟨_,h⟩ | ⟨b,off,h,_,hc⟩
   ·have:=hN'.1;omega
   ·exact ⟨b,off,h,hc i hi⟩
  clear hN hN' HL1 HL2
  go_enter Tryz.func164,Tryz.ntmps164
  go_wp2_with (first | (go_at_call_of 63 (Value.slice a n c);refine hb.mono ?_;rintro e w' ⟨rfl,rfl⟩) | (go_at_call_of 63 (Value.slice a' n' c');refine hb'.mono ?_;rintro e w' ⟨rfl,rfl⟩))
  go_loopw [7] (fun t wr=>∃ k m:Nat,k<=s/\cmpL x y k=cmpL x y s/\t=.int .i64 ((k:Int)-1)/\w.drewN m=wr) (fun t _=>(intOf t+1).toNat)
  case atStart=>exact ⟨s,0,Nat.le_refl _,rfl,by go_num,rfl⟩
  case round =>
   obtain ⟨k,m,hk,hs,rfl,rfl⟩:=hrel
   by_cases h0:k=0
   ·subst h0
    have HS:Hid (sgn (val x s) (val y s)=0):=by show _=_;rw [← HV.out,← hs];rfl
    clear hs hc hc'
    go_wp2
    go_ret
    exact ⟨ret_int HS.out.symm,_,rfl⟩
   ·obtain ⟨j,rfl⟩:∃ j,k=j+1:=⟨k-1,by omega⟩
    have ej:((j+1:Nat):Int)-1=j:=by omega
    have hjs:(j:Int)<s:=by omega
    rw [ej]
    obtain ⟨b,off,rfl,hcj⟩:=hc j (by omega)
    obtain ⟨b',off',rfl,hcj'⟩:=hc' j (by omega)
    have hs':(if x j<y j then -1 else if y j<x j then 1 else cmpL x y j)=cmpL x y s:=hs
    have hcmp:=compare_u64 (x j) (y j)
    by_cases he:x j=y j
    ·have HR:Hid (cmpL x y j=cmpL x y s):=by rw [← hs',if_neg (by omega),if_neg (by omega)];rfl
     have hne:(x j != y j)=false:=by simp [he]
     rw [he] at hcj
     clear hs hs' hc hc' hcmp
     go_wp2
     go_quiet (fail)
     go_wp2
     go_roundw
     case rel=>exact ⟨j,m+nq,by omega,HR.out,by go_num,rfl⟩
     case measure=>simp [intOf]
    ·have HR:Hid (sgn (val x s) (val y s)=sgn (x j) (y j)):=by
      show _=_
      rw [← HV.out,← hs']
      unfold sgn
      by_cases h1:x j<y j
      ·rw [if_pos h1,if_pos h1]
      ·rw [if_neg h1,if_neg h1,if_pos (by omega),if_pos (by omega)]
     have hne:(x j != y j)=true:=by simp [he]
     clear hs hs' hc hc'
     go_wp2
     go_quiet (fail)
     go_wp2
     go_quiet ((go_at_call 194;exact (hcmp _).mono fun _ _ h=>⟨h.1,_,h.2.symm⟩))
     go_wp2
     go_ret
     exact ⟨ret_int HR.out.symm,drw2 _ _ _ _⟩
 ·have hne:((s:Int) != s')=true:=by simp;omega
  have hcmp:=compare_int s s' w
  have HR:Hid (sgn (val x s) (val y s')=sgn s s'):=by
   rcases Nat.lt_or_gt_of_ne e with h | h
   ·exact HL1.out h
   ·exact HL2.out h
  clear HL1 HL2 hN hN'
  go_enter Tryz.func164,Tryz.ntmps164
  go_wp2_with (first | (first | (go_at_call_of 63 (Value.slice a n c);refine hb.mono ?_;rintro e w' ⟨rfl,rfl⟩) | (go_at_call_of 63 (Value.slice a' n' c');refine hb'.mono ?_;rintro e w' ⟨rfl,rfl⟩)) | (go_at_call 193;refine hcmp.mono ?_;rintro e w' ⟨rfl,rfl⟩))
  go_ret
  exact ⟨ret_int HR.out.symm,0,rfl⟩
theorem rcmp_any (a a':Option Addr) (n c n' c':Nat) (x y:Nat->Int) (w:World) (hn:n<4294967296) (hn':n'<4294967296) (h:Num w a n c x) (h':Num w a' n' c' y) :
  CQ 42 #[.slice a n c,.slice a' n' c'] w (.int .i64 (sgn (val x n) (val y n'))):=by
 refine (cmp_any a a' n c n' c' x y w hn hn' h h').mono fun e w' hw=>⟨?_,hw.2.symm⟩
 rw [hw.1,cmpL_val h.2.2.1 h'.2.2.1,val_more h.2.2.2.1 _ (Nat.le_max_left n n'),val_more h'.2.2.2.1 _ (Nat.le_max_right n n')]
theorem size_num (a:Option Addr) (n c:Nat) (x:Nat->Int) (w:World) (hn:n<4294967296) (h:Num w a n c x) :
  CQ 98 #[.slice a n c] w (.int .i64 (sizeL x n)):=by
 have h':=h
 obtain ⟨h1,h2,h3,h4,h5⟩:=h'
 rcases h5 with ⟨rfl,rfl⟩ | ⟨b,off,rfl,hb,hc⟩
 ·obtain rfl:n=0:=by omega
  exact (size_nil w).mono fun e w' hw=>⟨hw.1,hw.2.symm⟩
 ·exact (size_any b off n c x w (by omega) hc).mono fun e w' hw=>⟨hw.1,hw.2.symm⟩
def addZ (x y:Nat->Int) (off k j:Nat):Int:=if off<=j/\j<off+k then sumW (fun i=>x (off+i)) y (j-off) else x j
theorem addZ_next (x y:Nat->Int) (off k j:Nat):(if j=off+k then sumW (fun i=>x (off+i)) y k else addZ x y off k j)=addZ x y off (k+1) j:=by
 unfold addZ
 by_cases e:j=off+k
 ·subst e
  rw [if_pos rfl,if_pos (by omega)];congr 1;omega
 ·rw [if_neg e]
  by_cases e2:off<=j/\j<off+k
  ·rw [if_pos e2,if_pos (by omega)]
  ·rw [if_neg e2,if_neg (by omega)]
theorem addZ_at (x y:Nat->Int) (off k:Nat):addZ x y off k (off+k)=x (off+k):=by unfold addZ;rw [if_neg (by omega)]
theorem Num.cells {w:World} {a:Option Addr} {n c:Nat} {x:Nat->Int} (h:Num w a n c x) (hn:0<n):∃ b off,a=some ⟨b,off,none⟩/\b<w.heap.size/\∀ i,i<n->w.cell? ⟨b,off+i,none⟩=some (.int .u64 (x i)):=by
 rcases h.2.2.2.2 with ⟨_,h'⟩ | ⟨b,off,h',hb,hc⟩
 ·have:=h.1;omega
 ·exact ⟨b,off,h',hb,hc⟩
theorem addInto_any (g N off m c k c':Nat) (a':Option Addr) (x y:Nat->Int) (w:World) (hm:off+m<=N) (hN:N<4294967296) (hk:k<=m) (hx:Words x) (h:Own g N x w) (h':Num w a' k c' y) (hA:Apart a' g) :
  Calls Tryz.prog 214 #[.slice (some ⟨g,off,none⟩) m c,.slice a' k c'] w fun e w'=>e=.returned (.int .u64 (carryW (fun i=>x (off+i)) y k))/\Own g N (addZ x y off k) w'/\Upd g w w':=by
 have hy:=h'.2.2.1
 have hX:Words (fun i=>x (off+i)):=fun i=>hx (off+i)
 have HX:Hid (Words (fun i=>x (off+i))):=hX
 go_enter Tryz.func214,Tryz.ntmps214
 go_wp2
 go_loopw [5,6,7,10,15] (fun cv u6 u7 i u15 wr=>∃ (j:Nat),j<=k/\i=.int .i64 j/\cv=.int .u64 (carryW (fun i=>x (off+i)) y j)/\Own g N (addZ x y off j) wr/\Upd g w wr) (fun _ _ _ i _ _=>k-(intOf i).toNat)
 case atStart=>exact ⟨0,Nat.zero_le _,rfl,rfl,h.congr fun i _=>by unfold addZ;rw [if_neg (by omega)],Upd.refl _ _⟩
 case round =>
  obtain ⟨j,hj,rfl,rfl,hO,hU⟩:=hrel
  have hcar:=carryW_01 HX.out hy j
  by_cases hlt:j<k
  ·have hji:(j:Int)<k:=by omega
   have hjm:(j:Int)<m:=by omega
   obtain ⟨b,off',rfl,hb,hc⟩:=(hU.num' hA h').cells (by omega)
   have hcj:=hc j hlt
   have hco:=hO.cell (off+j) (by omega)
   rw [addZ_at] at hco
   have hfo:=hO.frozen (off+j)
   have bx:=hx (off+j)
   have b_y:=hy j
   have hadd:=fun w=>add64 (x (off+j)) (y j) (carryW (fun i=>x (off+i)) y j) bx.1 b_y.1 hcar.1 hcar.2 w
   have HO:Hid (Own g N (addZ x y off (j+1)) (wr.setCell ⟨g,off+j,none⟩ (.int .u64 (sumW (fun i=>x (off+i)) y j)))):=(hO.set (off+j) _).congr fun i _=>addZ_next x y off j i
   have HU:Hid (Upd g w (wr.setCell ⟨g,off+j,none⟩ (.int .u64 (sumW (fun i=>x (off+i)) y j)))):=hU.set (off+j) _
   clear hO hU hc h h' hA hx hy hX
   go_wp2
   go_roundw
   case rel=>exact ⟨j+1,by omega,by go_num,rfl,HO.out,HU.out⟩
   case measure=>simp [intOf];omega
  ·obtain rfl:j=k:=by omega
   have HO:Hid (Own g N (addZ x y off j) wr):=hO
   have HU:Hid (Upd g w wr):=hU
   clear hO hU h h' hA hx hy hX
   go_wp2
   go_ret
   exact ⟨rfl,HO.out,HU.out⟩
theorem carryW_stop {x y:Nat->Int} (hx:Words x) {k:Nat} (zy:∀ i,k<=i->y i=0) {i:Nat} (hi:k<=i) (h0:carryW x y i=0):∀ j,i<=j->carryW x y j=0/\sumW x y j=x j:=by
  have h1:∀ j,i<=j->carryW x y j=0:=by
    intro j hj
    induction j with
    | zero => obtain rfl : i = 0 := by omega
              exact h0
    | succ j ih =>
      by_cases e:i=j+1
      · rw [← e];exact h0
      · have hb:=hx j
        simp only [carryW];rw [ih (by omega),zy j (by omega)];omega
  intro j hj
  refine ⟨h1 j hj,?_⟩
  have hb:=hx j
  unfold sumW
  rw [h1 j hj,zy j (by omega)];omega
theorem carryInto_any (g N k c:Nat) (x y:Nat->Int) (w:World) (hk:k<=N) (hN:N<4294967296) (hx:Words x) (hy:Words y) (zy:∀ i,k<=i->y i=0) (hend:carryW x y N=0) (h:Own g N (addZ x y 0 k) w) :
  Calls Tryz.prog 213 #[.slice (some ⟨g,k,none⟩) (N-k) c,.int .u64 (carryW x y k)] w fun e w'=>e=.returned (.tuple #[])/\Own g N (sumW x y) w'/\Upd g w w':=by
 have e0:(fun i=>x (0+i))=x:=by funext i;rw [Nat.zero_add]
 go_enter Tryz.func213,Tryz.ntmps213
 go_wp2
 go_loopw [1,4,9] (fun cv i u9 wr=>∃ (j:Nat),k+j<=N/\i=.int .i64 j/\cv=.int .u64 (carryW x y (k+j))/\Own g N (addZ x y 0 (k+j)) wr/\Upd g w wr) (fun _ i _ _=>N-(intOf i).toNat)
 case atStart=>exact ⟨0,by omega,rfl,rfl,h,Upd.refl _ _⟩
 case round =>
  obtain ⟨j,hj,rfl,rfl,hO,hU⟩:=hrel
  have hcar:=carryW_01 hx hy (k+j)
  by_cases hc0:carryW x y (k+j)=0
  ·have HO:Hid (Own g N (sumW x y) wr):=hO.congr fun i hi=>by
    unfold addZ
    by_cases e:0<=i/\i<0+(k+j)
    ·rw [if_pos e,e0];rfl
    ·rw [if_neg e];exact ((carryW_stop hx zy (by omega) hc0 i (by omega)).2).symm
   have HU:Hid (Upd g w wr):=hU
   rw [hc0]
   clear hO hU h hend hcar e0
   go_wp2
   go_end0
   exact ⟨rfl,HO.out,HU.out⟩
  ·have hlt:k+j<N:=by
    rcases Nat.lt_or_ge (k+j) N with h' | h'
    ·exact h'
    ·obtain e:k+j=N:=by omega
     rw [e] at hc0;exact absurd hend hc0
   have hpos:0<carryW x y (k+j):=by omega
   have hji:(j:Int)<((N-k:Nat):Int):=by omega
   have hco:=hO.cell (k+j) hlt
   have e1:addZ x y 0 (k+j) (k+j)=x (k+j):=by have:=addZ_at x y 0 (k+j);simpa using this
   rw [e1] at hco
   have hfo:=hO.frozen (k+j)
   have bx:=hx (k+j)
   have hs:sumW x y (k+j)=(x (k+j)+carryW x y (k+j))%18446744073709551616:=by unfold sumW;rw [zy _ (by omega),Int.add_zero]
   have hcn:carryW x y (k+(j+1))=(x (k+j)+carryW x y (k+j))/18446744073709551616:=by
    show (x (k+j)+y (k+j)+carryW x y (k+j))/18446744073709551616=_
    rw [zy _ (by omega),Int.add_zero]
   have hadd:=fun w=>add64 (x (k+j)) 0 (carryW x y (k+j)) bx.1 (by decide) hcar.1 hcar.2 w
   have HO:Hid (Own g N (addZ x y 0 (k+(j+1))) (wr.setCell ⟨g,k+j,none⟩ (.int .u64 (sumW x y (k+j))))):=(hO.set (k+j) _).congr fun i _=>by
    have:=addZ_next x y 0 (k+j) i
    rw [e0,Nat.zero_add] at this
    exact this
   have HU:Hid (Upd g w (wr.setCell ⟨g,k+j,none⟩ (.int .u64 (sumW x y (k+j))))):=hU.set (k+j) _
   have HC:Hid (carryW x y (k+(j+1))=(x (k+j)+carryW x y (k+j))/18446744073709551616):=hcn
   rw [hs] at HO HU
   clear hO hU h hend hx hy zy hc0 e1 hs hcn e0
   go_wp2
   go_roundw
   case rel=>exact ⟨j+1,by omega,by go_num,by rw [HC.out],HO.out,HU.out⟩
   case measure=>simp [intOf];omega
theorem sum_end {x y:Nat->Int} {s s' N:Nat} (hx:Words x) (hy:Words y) (zx:∀ i,s<=i->x i=0) (zy:∀ i,s'<=i->y i=0) (h:s<N) (h':s'<N):carryW x y N=0:=by
 obtain ⟨q,rfl⟩:∃ q,N=q+1:=⟨N-1,by omega⟩
 have:=carryW_01 hx hy q
 simp only [carryW];rw [zx q (by omega),zy q (by omega)];omega
theorem sum_num {x y:Nat->Int} {g N s s':Nat} {w:World} (hx:Words x) (hy:Words y) (zx:∀ i,s<=i->x i=0) (zy:∀ i,s'<=i->y i=0) (h:s<N) (h':s'<N) (hN:N<4294967296) (hO:Own g N (sumW x y) w) :
  Num w (some ⟨g,0,none⟩) N N (segW (sumW x y) 0 N)/\val (segW (sumW x y) 0 N) N=val x s+val y s':=by
 refine ⟨hO.num (sumW_words x y) 0 N N (by omega) (Nat.le_refl _) (by unfold maxLen;omega),?_⟩
 rw [val_congr (x:=segW (sumW x y) 0 N) (y:=sumW x y) N fun i hi=>by rw [segW_lt _ 0 N i hi,Nat.zero_add]]
 have e:=sum_val (x:=x) (y:=y) N
 rw [sum_end hx hy zx zy h h',val_more zx N (by omega),val_more zy N (by omega)] at e
 omega
theorem nadd_any (a a':Option Addr) (n c n' c':Nat) (x y:Nat->Int) (w:World) (hn:n<4000000000) (hn':n'<4000000000) (h:Num w a n c x) (h':Num w a' n' c' y) :
  Calls Tryz.prog 192 #[.slice a n c,.slice a' n' c'] w fun e w'=>∃ g k cap z,e=.returned (.slice (some ⟨g,0,none⟩) k cap)/\k<=max (sizeL x n) (sizeL y n')+1/\Num w' (some ⟨g,0,none⟩) k cap z/\val z k=val x n+val y n'/\sizeL z k=k/\Below w.heap.size w w':=by
 have hb:=bare_any a n c x w (by omega) h
 have hb':=bare_any a' n' c' y w (by omega) h'
 rw [← val_bare n,← val_bare n']
 have hx:=h.2.2.1
 have hy:=h'.2.2.1
 have hle:=sizeL_le x n
 have hle':=sizeL_le y n'
 have hN:=h.bare
 have hN':=h'.bare
 generalize sizeL x n=s at *
 generalize sizeL y n'=s' at *
 clear h h'
 by_cases hlt:s<s'
 ·have hlt':(s:Int)<s':=by omega
  obtain ⟨N,hNs⟩:∃ N,s'+1=N:=⟨_,rfl⟩
  have hNi:(s':Int)+1=N:=by omega
  have hmk:=fun w=>make_any ((s':Int)+1) N hNi (by omega) w
  have hcp:=fun ty=>copy_num (N:=N) (C:=N) ty hN' (by omega)
  have hO:=Own.new w y N
  have hA:Apart a w.heap.size:=by
   intro p hp
   rcases hN.2.2.2.2 with ⟨h,_⟩ | ⟨b,off,h,hb,_⟩
   ·rw [h] at hp;cases hp
   ·rw [h] at hp;cases hp;exact Nat.ne_of_lt hb
  have hnS:=hN.next (below1 w (.cells (arrOf y N) 22))
  have hai:=fun wr hO hn=>addInto_any w.heap.size N 0 N N s c a y x wr (by omega) (by omega) (by omega) hy hO hn hA
  rw [show (fun i=>y (0+i))=y by funext i;rw [Nat.zero_add]] at hai
  have hci:=fun wr hO=>carryInto_any w.heap.size N s (N-s) y x wr (by omega) (by omega) hy hx hN.2.2.2.1 (sum_end hy hx hN'.2.2.2.1 hN.2.2.2.1 (by omega) (by omega)) hO
  have HSN:Hid (∀ w2,Own w.heap.size N (sumW y x) w2->Num w2 (some ⟨w.heap.size,0,none⟩) N N (segW (sumW y x) 0 N)/\val (segW (sumW y x) 0 N) N=val y s'+val x s):=fun w2 h2=>sum_num hy hx hN'.2.2.2.1 hN.2.2.2.1 (by omega) (by omega) (by omega) h2
  have HBW:Hid (Below w.heap.size w (w.alloc (.cells (arrOf y N) 22))):=below1 w _
  have hsN:(s:Int)<=N:=by omega
  clear hN hN' hNi hA hx hy
  go_enter Tryz.func192,Tryz.ntmps192
  go_wp2_with (first | (go_at_call_of 63 (Value.slice a n c);refine hb.mono ?_;rintro e w' ⟨rfl,rfl⟩) | (go_at_call_of 63 (Value.slice a' n' c');refine hb'.mono ?_;rintro e w' ⟨rfl,rfl⟩))
  generalize w.alloc (.cells (arrOf y N) 22)=wA at *
  go_region_with (first | (go_at_call 214;refine (hai wA.drew hO hnS).mono ?_;rintro e w1 ⟨rfl,hO1,hU1⟩) | (go_at_call 213;refine (hci _ hO1).mono ?_;rintro e w2 ⟨rfl,hO2,hU2⟩))
  have hsn:=HSN.out w2 hO2
  have hbr:=bare_any (some ⟨w.heap.size,0,none⟩) N N (segW (sumW y x) 0 N) w2 (by omega) hsn.1
  have HN2:Hid (Num w2 (some ⟨w.heap.size,0,none⟩) (sizeL (segW (sumW y x) 0 N) N) N (segW (sumW y x) 0 N)):=hsn.1.bare
  have HV2:Hid (val (segW (sumW y x) 0 N) (sizeL (segW (sumW y x) 0 N) N)=val y s'+val x s):=by show _=_;rw [val_bare,hsn.2]
  have HS2:Hid (sizeL (segW (sumW y x) 0 N) (sizeL (segW (sumW y x) 0 N) N)=sizeL (segW (sumW y x) 0 N) N):=sizeL_sizeL _ _
  have HLE:Hid (sizeL (segW (sumW y x) 0 N) N<=N):=sizeL_le _ _
  generalize segW (sumW y x) 0 N=z at *
  generalize sizeL z N=k at *
  have HB2:Hid (Below w.heap.size w w2):=(HBW.out.drew.trans (hU1.below (Nat.le_refl _))).trans (hU2.below (Nat.le_refl _))
  clear hsn hO1 hO2 hU1 hU2 hO hnS hai hci hb hb'
  go_wp2_with (go_at_call 63;refine hbr.mono ?_;rintro e w3 ⟨rfl,rfl⟩)
  go_ret
  exact ⟨_,k,N,z,rfl,by have:=HLE.out;omega,HN2.out,by rw [HV2.out];omega,HS2.out,HB2.out⟩
 ·have hlt':¬ (s:Int)<s':=by omega
  obtain ⟨N,hNs⟩:∃ N,s+1=N:=⟨_,rfl⟩
  have hNi:(s:Int)+1=N:=by omega
  have hmk:=fun w=>make_any ((s:Int)+1) N hNi (by omega) w
  have hcp:=fun ty=>copy_num (N:=N) (C:=N) ty hN (by omega)
  have hO:=Own.new w x N
  have hA:Apart a' w.heap.size:=by
   intro p hp
   rcases hN'.2.2.2.2 with ⟨h,_⟩ | ⟨b,off,h,hb,_⟩
   ·rw [h] at hp;cases hp
   ·rw [h] at hp;cases hp;exact Nat.ne_of_lt hb
  have hnS:=hN'.next (below1 w (.cells (arrOf x N) 22))
  have hai:=fun wr hO hn=>addInto_any w.heap.size N 0 N N s' c' a' x y wr (by omega) (by omega) (by omega) hx hO hn hA
  rw [show (fun i=>x (0+i))=x by funext i;rw [Nat.zero_add]] at hai
  have hci:=fun wr hO=>carryInto_any w.heap.size N s' (N-s') x y wr (by omega) (by omega) hx hy hN'.2.2.2.1 (sum_end hx hy hN.2.2.2.1 hN'.2.2.2.1 (by omega) (by omega)) hO
  have HSN:Hid (∀ w2,Own w.heap.size N (sumW x y) w2->Num w2 (some ⟨w.heap.size,0,none⟩) N N (segW (sumW x y) 0 N)/\val (segW (sumW x y) 0 N) N=val x s+val y s'):=fun w2 h2=>sum_num hx hy hN.2.2.2.1 hN'.2.2.2.1 (by omega) (by omega) (by omega) h2
  have HBW:Hid (Below w.heap.size w (w.alloc (.cells (arrOf x N) 22))):=below1 w _
  have hsN:(s':Int)<=N:=by omega
  clear hN hN' hNi hA hx hy
  go_enter Tryz.func192,Tryz.ntmps192
  go_wp2_with (first | (go_at_call_of 63 (Value.slice a n c);refine hb.mono ?_;rintro e w' ⟨rfl,rfl⟩) | (go_at_call_of 63 (Value.slice a' n' c');refine hb'.mono ?_;rintro e w' ⟨rfl,rfl⟩))
  generalize w.alloc (.cells (arrOf x N) 22)=wA at *
  go_region_with (first | (go_at_call 214;refine (hai wA.drew hO hnS).mono ?_;rintro e w1 ⟨rfl,hO1,hU1⟩) | (go_at_call 213;refine (hci _ hO1).mono ?_;rintro e w2 ⟨rfl,hO2,hU2⟩))
  have hsn:=HSN.out w2 hO2
  have hbr:=bare_any (some ⟨w.heap.size,0,none⟩) N N (segW (sumW x y) 0 N) w2 (by omega) hsn.1
  have HN2:Hid (Num w2 (some ⟨w.heap.size,0,none⟩) (sizeL (segW (sumW x y) 0 N) N) N (segW (sumW x y) 0 N)):=hsn.1.bare
  have HV2:Hid (val (segW (sumW x y) 0 N) (sizeL (segW (sumW x y) 0 N) N)=val x s+val y s'):=by show _=_;rw [val_bare,hsn.2]
  have HS2:Hid (sizeL (segW (sumW x y) 0 N) (sizeL (segW (sumW x y) 0 N) N)=sizeL (segW (sumW x y) 0 N) N):=sizeL_sizeL _ _
  have HLE:Hid (sizeL (segW (sumW x y) 0 N) N<=N):=sizeL_le _ _
  generalize segW (sumW x y) 0 N=z at *
  generalize sizeL z N=k at *
  have HB2:Hid (Below w.heap.size w w2):=(HBW.out.drew.trans (hU1.below (Nat.le_refl _))).trans (hU2.below (Nat.le_refl _))
  clear hsn hO1 hO2 hU1 hU2 hO hnS hai hci hb hb'
  go_wp2_with (go_at_call 63;refine hbr.mono ?_;rintro e w3 ⟨rfl,rfl⟩)
  go_ret
  exact ⟨_,k,N,z,rfl,by have:=HLE.out;omega,HN2.out,by rw [HV2.out],HS2.out,HB2.out⟩
def subZ (x y:Nat->Int) (k j:Nat):Int:=if j<k then difW x y j else x j
theorem subZ_next (x y:Nat->Int) (k j:Nat):(if j=k then difW x y k else subZ x y k j)=subZ x y (k+1) j:=by
 unfold subZ
 by_cases e:j=k
 ·subst e
  rw [if_pos rfl,if_pos (by omega)]
 ·rw [if_neg e]
  by_cases e2:j<k
  ·rw [if_pos e2,if_pos (by omega)]
  ·rw [if_neg e2,if_neg (by omega)]
theorem subZ_at (x y:Nat->Int) (k:Nat):subZ x y k k=x k:=by unfold subZ;rw [if_neg (by omega)]
theorem bor_val {x y b:Int} (hx:0<=x/\x<=18446744073709551615) (hy:0<=y/\y<=18446744073709551615) (hb:0<=b/\b<=1):(x-y-b)%18446744073709551616-bor x y b*18446744073709551616=x-y-b:=by
 unfold bor;split <;> omega
theorem dif_val {x y:Nat->Int} (hx:Words x) (hy:Words y):∀ n,val (difW x y) n-borW x y n*18446744073709551616^n=val x n-val y n
 | 0=>by simp [val,borW]
 | n+1=>by
  have ih:=dif_val hx hy n
  have h:=bor_val (hx n) (hy n) (borW_01 x y n)
  show val (difW x y) n+difW x y n*18446744073709551616^n-bor (x n) (y n) (borW x y n)*18446744073709551616^(n+1)=val x n+x n*18446744073709551616^n-(val y n+y n*18446744073709551616^n)
  have hd:difW x y n=(x n-y n-borW x y n)%18446744073709551616:=rfl
  rw [← hd] at h
  rw [Int.pow_succ]
  generalize (18446744073709551616:Int)^n=P at *
  grind
theorem borW_stop {x y:Nat->Int} (hx:Words x) {k:Nat} (zy:∀ i,k<=i->y i=0) {i:Nat} (hi:k<=i) (h0:borW x y i=0):∀ j,i<=j->borW x y j=0/\difW x y j=x j:=by
  have h1:∀ j,i<=j->borW x y j=0:=by
    intro j hj
    induction j with
    | zero => obtain rfl : i = 0 := by omega
              exact h0
    | succ j ih =>
      by_cases e:i=j+1
      · rw [← e];exact h0
      · have hb:=hx j
        show bor (x j) (y j) (borW x y j)=0
        rw [ih (by omega),zy j (by omega)];unfold bor;rw [if_neg (by omega)]
  intro j hj
  refine ⟨h1 j hj,?_⟩
  have hb:=hx j
  unfold difW
  rw [h1 j hj,zy j (by omega)];omega
theorem borW_end {x y:Nat->Int} (hx:Words x) (hy:Words y) {n:Nat} (h:val y n<=val x n):borW x y n=0:=by
 have e:=dif_val hx hy n
 have h1:=val_bd (difW_words x y) n
 have h2:=borW_01 x y n
 have h3:=pw_pos n
 by_cases h0:borW x y n=0
 ·exact h0
 ·have:borW x y n=1:=by omega
  rw [this] at e;omega
theorem nlen_any (a:Option Addr) (n c:Nat) (x:Nat->Int) (w:World) (hn:n<100000000) (h:Num w a n c x) :
  CQ 138 #[.slice a n c] w (.int .i64 (lenL x n)):=by
 have hb:=bare_any a n c x w (by omega) h
 have hle:=sizeL_le x n
 by_cases h0:sizeL x n=0
 ·have HL:Hid (lenL x n=0):=by show _=_;simp [lenL,h0]
  rw [h0] at hb
  clear h0 h
  go_enter Tryz.func138,Tryz.ntmps138
  go_wp2_with (go_at_call 63;refine hb.mono ?_;rintro e w' ⟨rfl,rfl⟩)
  go_ret
  exact ⟨ret_int HL.out.symm,rfl⟩
 ·obtain ⟨j,hj⟩:∃ j,sizeL x n=j+1:=⟨sizeL x n-1,by omega⟩
  have HL:Hid (lenL x n=64*(j:Int)+Lib.bitLen (x j).toNat):=by show _=_;simp [lenL,hj];omega
  obtain ⟨b,off,rfl,hbs,hc⟩:=h.cells (by omega)
  rw [hj] at hb
  have hcj:=hc j (by omega)
  have hbx:=h.2.2.1 j
  have hbl:=bitLen64 (x j).toNat
  have hj':j+1<=n:=by omega
  clear h0 hc hj hle h
  have hcl:=Tryz.bits_Len64 (x j) w hbx.1 hbx.2
  generalize Lib.bitLen (x j).toNat=L at *
  go_enter Tryz.func138,Tryz.ntmps138
  go_wp2_with (first | (go_at_call 63;refine hb.mono ?_;rintro e w' ⟨rfl,rfl⟩) | (go_at_call 134;refine hcl.mono ?_;rintro e w' ⟨rfl,rfl⟩))
  go_ret
  exact ⟨ret_int (by rw [HL.out];omega),rfl⟩
theorem rlen_nil (w:World):CQ 91 #[.slice none 0 0] w (.int .i64 0):=by
 have hs:=size_nil w
 go_enter Tryz.func91,Tryz.ntmps91
 go_wp2_with (go_at_call 98;refine hs.mono ?_;rintro e w' ⟨rfl,rfl⟩)
 go_ret
 exact ⟨rfl,rfl⟩
theorem rlen_num (a:Option Addr) (n c:Nat) (x:Nat->Int) (w:World) (hn:n<100000000) (h:Num w a n c x) :
  CQ 91 #[.slice a n c] w (.int .i64 (lenL x n)):=by
 have h':=h
 obtain ⟨h1,h2,h3,h4,h5⟩:=h'
 rcases h5 with ⟨rfl,rfl⟩ | ⟨b,off,rfl,hb,hc⟩
 ·obtain rfl:n=0:=by omega
  exact rlen_nil w
 ·exact (len_any b off n c x w hn h3 hc).mono fun e w' hw=>⟨hw.1,hw.2.symm⟩
theorem radd_val (a a':Option Addr) (n c n' c':Nat) (x y:Nat->Int) (w:World) (hn:n<4000000000) (hn':n'<4000000000) (h:Num w a n c x) (h':Num w a' n' c' y) :
  Calls Tryz.prog 48 #[.slice a n c,.slice a' n' c'] w fun e w'=>∃ g k cap z,e=.returned (.slice (some ⟨g,0,none⟩) k cap)/\k<=max n n'+1/\Num w' (some ⟨g,0,none⟩) k cap z/\val z k=val x n+val y n'/\Below w.heap.size w w':=by
 refine (radd_any a a' n c n' c' x y w (by omega) (by omega) h h').mono fun e w' ⟨g,k,cap,e1,hk,hN,hB⟩=>⟨g,k,cap,_,e1,hk,hN,?_,hB⟩
 have e:=sum_val (x:=x) (y:=y) (max n n'+1)
 rw [sum_end h.2.2.1 h'.2.2.1 h.2.2.2.1 h'.2.2.2.1 (by omega) (by omega),val_more h.2.2.2.1 _ (by omega),val_more h'.2.2.2.1 _ (by omega),val_more hN.2.2.2.1 _ hk] at e
 omega
theorem nsubF (a a':Option Addr) (n c n' c':Nat) (x y:Nat->Int) (w:World) (hn:n<4000000000) (hn':n'<4000000000) (h:Num w a n c x) (h':Num w a' n' c' y) (hv:val y n'<=val x n) :
  Calls Tryz.prog 197 #[.slice a n c,.slice a' n' c'] w fun e w'=>∃ g k cap z,e=.returned (.tuple #[.slice (some ⟨g,0,none⟩) k cap,.int .i64 0])/\k<=sizeL x n/\Num w' (some ⟨g,0,none⟩) k cap z/\val z k=val x n-val y n'/\sizeL z k=k/\Below w.heap.size w w'/\w.heap.size<=g/\∀ i,w'.frozen? ⟨g,i,none⟩=false:=by
 have hc:=ncmp_any a a' n c n' c' x y w (by omega) (by omega) h h'
 have hsg:0<=sgn (val x n) (val y n'):=by unfold sgn;rw [if_neg (by omega)];split <;> omega
 have hsb:=sgn_bd (val x n) (val y n')
 generalize sgn (val x n) (val y n')=sg at *
 have ht:=fun wr hN=>ntrim_any a n c x wr (by omega) hN
 have hb':=fun wr hN=>bare_any a' n' c' y wr (by omega) hN
 have hx:=h.2.2.1
 have hy:=h'.2.2.1
 have hle:=sizeL_le x n
 have hle':=sizeL_le y n'
 have hvx:=val_bare (x:=x) n
 have hvy:=val_bare (x:=y) n'
 have hss:sizeL y n'<=sizeL x n:=by
  rcases Nat.lt_or_ge (sizeL x n) (sizeL y n') with h1 | h1
  ·have:=val_longer hx hy h1 (sizeL_sizeL y n');omega
  ·exact h1
 have zx:=h.bare.2.2.2.1
 have zy:=h'.bare.2.2.2.1
 have HNb:Hid (Num w a' (sizeL y n') c' y):=h'.bare
 rw [← hvx,← hvy] at hv ⊢
 generalize sizeL x n=s at *
 generalize sizeL y n'=s' at *
 have hend:borW x y s=0:=borW_end hx hy (by rw [val_more zy s hss];exact hv)
 have HV:Hid (val (difW x y) s=val x s-val y s'):=by
  show _=_
  have e:=dif_val hx hy s
  rw [hend,val_more zy s hss] at e
  omega
 have HN:Hid (Num w a n c x):=h
 have HN':Hid (Num w a' n' c' y):=h'
 clear h h' hv hvx hvy zx
 go_enter Tryz.func197,Tryz.ntmps197
 go_wp2_with (go_at_call 164;refine hc.mono ?_;rintro e wC ⟨rfl,m,hwC⟩)
 have hBC:Below w.heap.size w wC:=by rw [← hwC];exact below_drewN (Below.refl _ _) m
 have hg:wC.heap.size=w.heap.size:=by rw [← hwC];rfl
 have h1:=ht wC (HN.out.next hBC)
 rw [hg] at h1
 go_wp2_with (go_at_call 64;refine h1.mono ?_;rintro e w1 ⟨rfl,hw1⟩)
 have hB1:Below w.heap.size wC w1:=by rw [← hw1];have:=below1 wC (.cells (arrOf x s) 22);rw [hg] at this;exact this
 have hO1:Own w.heap.size s x w1:=by rw [← hw1];have:=Own.new wC x s;rw [hg] at this;exact this
 have hBw1:=hBC.trans hB1
 have h2:=hb' w1 (HN'.out.next hBw1)
 clear hw1 h1 ht hb' hc hB1 hBC hwC hg
 go_wp2_with (go_at_call 63;refine h2.mono ?_;rintro e w2 ⟨rfl,rfl⟩)
 have hNb:=HNb.out.next hBw1
 have hA:Apart a' w.heap.size:=by
  intro p hp
  rcases HNb.out.2.2.2.2 with ⟨h,_⟩ | ⟨b,off,h,hb,_⟩
  ·rw [h] at hp;cases hp
  ·rw [h] at hp;cases hp;exact Nat.ne_of_lt hb
 clear h2 HNb HN HN'
 go_loopw [8,9,10,22,27] (fun bv u9 u10 i u27 wr=>∃ (j:Nat),j<=s'/\i=.int .i64 j/\bv=.int .u64 (borW x y j)/\Own w.heap.size s (subZ x y j) wr/\Upd w.heap.size w1 wr) (fun _ _ _ i _ _=>s'-(intOf i).toNat)
 case atStart=>exact ⟨0,Nat.zero_le _,rfl,rfl,hO1.congr fun i _=>by unfold subZ;rw [if_neg (by omega)],Upd.refl _ _⟩
 case round =>
  clear hO1
  obtain ⟨j,hj,rfl,rfl,hO,hU⟩:=hrel
  have hbo:=borW_01 x y j
  by_cases hlt:j<s'
  ·have hji:(j:Int)<s':=by omega
   have hjm:(j:Int)<s:=by omega
   obtain ⟨b,off',rfl,hb,hc⟩:=(hU.num' hA hNb).cells (by omega)
   have hcj:=hc j hlt
   have hco:=hO.cell j (by omega)
   rw [subZ_at] at hco
   have hfo:=hO.frozen j
   have bx:=hx j
   have b_y:=hy j
   have hadd:=fun w=>sub64 (x j) (y j) (borW x y j) bx.1 b_y.1 (by omega) hbo.1 hbo.2 w
   have HO:Hid (Own w.heap.size s (subZ x y (j+1)) (wr.setCell ⟨w.heap.size,j,none⟩ (.int .u64 (difW x y j)))):=(hO.set j _).congr fun i _=>subZ_next x y j i
   have HU:Hid (Upd w.heap.size w1 (wr.setCell ⟨w.heap.size,j,none⟩ (.int .u64 (difW x y j)))):=hU.set j _
   clear hO hU hc hNb hA hx hy zy hend
   go_wp2
   go_roundw
   case rel=>exact ⟨j+1,by omega,by go_num,rfl,HO.out,HU.out⟩
   case measure=>simp [intOf];omega
  ·obtain rfl:j=s':=by omega
   have HO:Hid (Own w.heap.size s (subZ x y j) wr):=hO
   have HU:Hid (Upd w.heap.size w1 wr):=hU
   clear hO hU hNb hA
   go_wp2
   go_loopw [8,11,47] (fun bv i u47 wr=>∃ (q:Nat),j+q<=s/\i=.int .i64 ((j:Int)+q)/\bv=.int .u64 (borW x y (j+q))/\Own w.heap.size s (subZ x y (j+q)) wr/\Upd w.heap.size w1 wr) (fun _ i _ _=>s-(intOf i).toNat)
   case atStart=>exact ⟨0,by omega,by go_num,rfl,HO.out,HU.out⟩
   case round =>
    clear HO HU
    obtain ⟨q,hq,rfl,rfl,hO,hU⟩:=hrel
    have hbo:=borW_01 x y (j+q)
    by_cases hb0:borW x y (j+q)=0
    ·have hO2:Own w.heap.size s (difW x y) wr:=hO.congr fun i hi=>by
      unfold subZ
      by_cases e:i<j+q
      ·rw [if_pos e]
      ·rw [if_neg e];exact ((borW_stop hx zy (by omega) hb0 i (by omega)).2).symm
     have hN2:=hO2.num (difW_words x y) 0 s s (by omega) (Nat.le_refl _) (by unfold maxLen;omega)
     have hbr:=bare_any (some ⟨w.heap.size,0,none⟩) s s (segW (difW x y) 0 s) wr (by omega) hN2
     have HN2:Hid (Num wr (some ⟨w.heap.size,0,none⟩) (sizeL (segW (difW x y) 0 s) s) s (segW (difW x y) 0 s)):=hN2.bare
     have HV2:Hid (val (segW (difW x y) 0 s) (sizeL (segW (difW x y) 0 s) s)=val x s-val y j):=by
      show _=_
      rw [val_bare,val_congr (x:=segW (difW x y) 0 s) (y:=difW x y) s fun i hi=>by rw [segW_lt _ 0 s i hi,Nat.zero_add],HV.out]
     have HS2:Hid (sizeL (segW (difW x y) 0 s) (sizeL (segW (difW x y) 0 s) s)=sizeL (segW (difW x y) 0 s) s):=sizeL_sizeL _ _
     have HLE:Hid (sizeL (segW (difW x y) 0 s) s<=s):=sizeL_le _ _
     generalize segW (difW x y) 0 s=z at *
     generalize sizeL z s=k at *
     have HF2:Hid (∀ i,wr.frozen? ⟨w.heap.size,i,none⟩=false):=fun i=>hO.frozen i
     have HB2:Hid (Below w.heap.size w wr):=hBw1.trans (hU.below (Nat.le_refl _))
     rw [hb0]
     clear hO hO2 hU hN2 hx hy zy hend HV
     go_wp2_with (go_at_call 63;refine hbr.mono ?_;rintro e w3 ⟨rfl,rfl⟩)
     go_ret2
     exact ⟨_,k,s,z,rfl,HLE.out,HN2.out,HV2.out,HS2.out,HB2.out,Nat.le_refl _,HF2.out⟩
    ·have hlt2:j+q<s:=by
      rcases Nat.lt_or_ge (j+q) s with h' | h'
      ·exact h'
      ·obtain e:j+q=s:=by omega
       rw [e] at hb0;exact absurd hend hb0
     have hpos:0<borW x y (j+q):=by omega
     have hji:(j:Int)+q<s:=by omega
     have e1:((j:Int)+q).toNat=j+q:=by omega
     have hco:=hO.cell (j+q) hlt2
     rw [subZ_at] at hco
     have hfo:=hO.frozen (j+q)
     have bx:=hx (j+q)
     have hs:difW x y (j+q)=(x (j+q)-borW x y (j+q))%18446744073709551616:=by unfold difW;rw [zy _ (by omega),Int.sub_zero]
     have HC:Hid (borW x y (j+(q+1))=bor (x (j+q)) 0 (borW x y (j+q))):=by
      show bor (x (j+q)) (y (j+q)) (borW x y (j+q))=_
      rw [zy _ (by omega)]
     have hadd:=fun w=>sub64 (x (j+q)) 0 (borW x y (j+q)) bx.1 (by decide) (by decide) hbo.1 hbo.2 w
     have HO:Hid (Own w.heap.size s (subZ x y (j+(q+1))) (wr.setCell ⟨w.heap.size,j+q,none⟩ (.int .u64 (difW x y (j+q))))):=(hO.set (j+q) _).congr fun i _=>subZ_next x y (j+q) i
     have HU:Hid (Upd w.heap.size w1 (wr.setCell ⟨w.heap.size,j+q,none⟩ (.int .u64 (difW x y (j+q))))):=hU.set (j+q) _
     rw [hs] at HO HU
     clear hO hU hx hy zy hb0 hs hend
     go_wp2
     go_roundw
     case rel=>exact ⟨q+1,by omega,by go_num,by rw [HC.out],HO.out,HU.out⟩
     case measure=>simp [intOf];omega
end Go.Proofs.YtpabnhlfbjkmaaaGreatDoor
