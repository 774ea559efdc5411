/-
  Texts that the proof leans on.
-/
import Derived.Test.YtpabnhlfbjkmaaaGreatDoorR1
import Derived.Test.YtpabnhlfbjkmaaaGreatDoorR8
import Derived.Test.YtpabnhlfbjkmaaaGreatDoorR4
set_option maxHeartbeats 8000000
set_option linter.unusedVariables false
set_option linter.unusedSimpArgs false
set_option linter.unusedSectionVars false
set_option maxRecDepth 20000
namespace Go.Proofs.YtpabnhlfbjkmaaaGreatDoor
open Go.RowKit
theorem zRe {x y:Nat->Int}:∀ n,(∀ i,i<n->x i=y i)->sizeL x n=sizeL y n
 | 0,_=>rfl
 | n+1,h=>by simp only [sizeL];rw [h n (by omega),zRe n fun i hi=>h i (by omega)]
theorem zOa {x:Nat->Int}(m:Nat):val x (sizeL x m)=val x m:=by
 have h1:=zMa (zWf m fun i hi=>zAh x 0 m i hi) m (zGa _ m)
 have h2:sizeL (segW x 0 m) m=sizeL x m:=zRe m fun i hi=>by rw [zUa x 0 m i hi,Nat.zero_add]
 rw [h2] at h1
 have hle:=zGa x m
 rw [zIa (x:=segW x 0 m) (y:=x) m fun i hi=>by rw [zUa x 0 m i hi,Nat.zero_add],zIa (x:=segW x 0 m) (y:=x) (sizeL x m) fun i hi=>by rw [zUa x 0 m i (by omega),Nat.zero_add]] at h1
 exact h1.symm
def sgn (a b:Int):Int:=if a<b then -1 else if b<a then 1 else 0
theorem zD9 (a b t:Int):sgn (a+t) (b+t)=sgn a b:=by
 unfold sgn
 by_cases h:a<b
 ·rw [if_pos h,if_pos (by omega)]
 ·rw [if_neg h,if_neg (by omega)]
  by_cases h':b<a
  ·rw [if_pos h',if_pos (by omega)]
  ·rw [if_neg h',if_neg (by omega)]
theorem sgn_bd (a b:Int):-1<=sgn a b/\sgn a b<=1:=by unfold sgn;split<;>(try split)<;>omega
theorem drw2 (w:World)(m a b:Nat):∃ k,w.drewN k=((w.drewN m).drewN a).drewN b:=⟨m+a+b,by simp [World.drewN,Nat.add_assoc]⟩
theorem zSq (a b:Int)(w:World):CQ 194 #[.int .u64 a,.int .u64 b] w (.int .i64 (sgn a b)):=by
 have hN:∀ (a:Int),CQ 216 #[.int .u64 a] w (.bool false):=by
  intro a
  go_enter Tryz.func216,Tryz.ntmps216
  go_wp2
  go_ret
  exact ⟨rfl,rfl⟩
 have ha:=hN a
 have hb:=hN b
 clear hN
 by_cases h1:a<b
 ·have HS:Hid (sgn a b=-1):=by show _=_;unfold sgn;rw [if_pos h1]
  go_enter Tryz.func194,Tryz.ntmps194
  go_wp2_with (go_at_call 216;first|(refine ha.mono ?_;rintro e w' ⟨rfl,rfl⟩)|(refine hb.mono ?_;rintro e w' ⟨rfl,rfl⟩))
  go_ret
  exact ⟨zVa HS.out.symm,rfl⟩
 ·by_cases h2:b<a
  ·have HS:Hid (sgn a b=1):=by show _=_;unfold sgn;rw [if_neg h1,if_pos h2]
   go_enter Tryz.func194,Tryz.ntmps194
   go_wp2_with (go_at_call 216;first|(refine ha.mono ?_;rintro e w' ⟨rfl,rfl⟩)|(refine hb.mono ?_;rintro e w' ⟨rfl,rfl⟩))
   go_ret
   exact ⟨zVa HS.out.symm,rfl⟩
  ·have HS:Hid (sgn a b=0):=by show _=_;unfold sgn;rw [if_neg h1,if_neg h2]
   go_enter Tryz.func194,Tryz.ntmps194
   go_wp2_with (go_at_call 216;first|(refine ha.mono ?_;rintro e w' ⟨rfl,rfl⟩)|(refine hb.mono ?_;rintro e w' ⟨rfl,rfl⟩))
   go_ret
   exact ⟨zVa HS.out.symm,rfl⟩
theorem zTq (a b:Int)(w:World):CQ 193 #[.int .i64 a,.int .i64 b] w (.int .i64 (sgn a b)):=by
 have hN:∀ (a:Int),CQ 215 #[.int .i64 a] w (.bool false):=by
  intro a
  go_enter Tryz.func215,Tryz.ntmps215
  go_wp2
  go_ret
  exact ⟨rfl,rfl⟩
 have ha:=hN a
 have hb:=hN b
 clear hN
 by_cases h1:a<b
 ·have HS:Hid (sgn a b=-1):=by show _=_;unfold sgn;rw [if_pos h1]
  go_enter Tryz.func193,Tryz.ntmps193
  go_wp2_with (go_at_call 215;first|(refine ha.mono ?_;rintro e w' ⟨rfl,rfl⟩)|(refine hb.mono ?_;rintro e w' ⟨rfl,rfl⟩))
  go_ret
  exact ⟨zVa HS.out.symm,rfl⟩
 ·by_cases h2:b<a
  ·have HS:Hid (sgn a b=1):=by show _=_;unfold sgn;rw [if_neg h1,if_pos h2]
   go_enter Tryz.func193,Tryz.ntmps193
   go_wp2_with (go_at_call 215;first|(refine ha.mono ?_;rintro e w' ⟨rfl,rfl⟩)|(refine hb.mono ?_;rintro e w' ⟨rfl,rfl⟩))
   go_ret
   exact ⟨zVa HS.out.symm,rfl⟩
  ·have HS:Hid (sgn a b=0):=by show _=_;unfold sgn;rw [if_neg h1,if_neg h2]
   go_enter Tryz.func193,Tryz.ntmps193
   go_wp2_with (go_at_call 215;first|(refine ha.mono ?_;rintro e w' ⟨rfl,rfl⟩)|(refine hb.mono ?_;rintro e w' ⟨rfl,rfl⟩))
   go_ret
   exact ⟨zVa HS.out.symm,rfl⟩
theorem zKj {x y:Nat->Int}(hx:zFa x)(hy:zFa y):∀ n,zRg x y n=sgn (val x n) (val y n)
 | 0=>by simp [zRg,sgn,val]
 | n+1=>by
  have hxb:=zRa hx n
  have hyb:=zRa hy n
  have ih:=zKj hx hy n
  have hp:=zXb n
  have e1:val x (n+1)=val x n+x n*18446744073709551616^n:=rfl
  have e2:val y (n+1)=val y n+y n*18446744073709551616^n:=rfl
  rw [e1,e2]
  simp only [zRg]
  generalize (18446744073709551616:Int)^n=P at *
  by_cases h1:x n<y n
  ·rw [if_pos h1]
   have:(x n+1)*P<=y n*P:=Int.mul_le_mul_of_nonneg_right (by omega) (by omega)
   rw [Int.add_mul,Int.one_mul] at this
   unfold sgn;rw [if_pos (by omega)]
  ·rw [if_neg h1]
   by_cases h2:y n<x n
   ·rw [if_pos h2]
    have:(y n+1)*P<=x n*P:=Int.mul_le_mul_of_nonneg_right (by omega) (by omega)
    rw [Int.add_mul,Int.one_mul] at this
    unfold sgn;rw [if_neg (by omega),if_pos (by omega)]
   ·have e:x n=y n:=by omega
    rw [if_neg h2,ih,e,zD9]
theorem zQc {x y:Nat->Int}(hx:zFa x)(hy:zFa y){n m:Nat}(h:n<m)(hm:sizeL y m=m):val x n<val y m:=by
 obtain ⟨k,rfl⟩:∃ k,m=k+1:=⟨m-1,by omega⟩
 have hne:y k≠0:=by
  intro e
  have:sizeL y (k+1)=sizeL y k:=by simp [sizeL,e]
  have:=zGa y k
  omega
 have h1:=(zRa hx n).2
 have h2:=(zRa hy k).1
 have h3:=zXb k
 have h4:=hy k
 have h5:(18446744073709551616:Int)^n<=18446744073709551616^k:=by
  obtain ⟨q,rfl⟩:∃ q,k=n+q:=⟨k-n,by omega⟩
  rw [Int.pow_add]
  have:=zXb n
  have:=zXb q
  have:(18446744073709551616:Int)^n*1<=18446744073709551616^n*18446744073709551616^q:=Int.mul_le_mul_of_nonneg_left (by omega) (by omega)
  omega
 show _<val y k+y k*18446744073709551616^k
 have:1*18446744073709551616^k<=y k*18446744073709551616^k:=Int.mul_le_mul_of_nonneg_right (by omega) (by omega)
 omega
theorem zTr (a a':Option Addr)(n c n' c':Nat)(x y:Nat->Int)(w:World)(hn:n<4294967296)(hn':n'<4294967296)(h:Num w a n c x)(h':Num w a' n' c' y) :
  Calls Tryz.prog 164 #[.slice a n c,.slice a' n' c'] w fun e w'=>e=.returned (.int .i64 (sgn (val x n) (val y n')))/\∃ m,w.drewN m=w':=by
 have hb:=zYa a n c x w hn h
 have hb':=zYa a' n' c' y w hn' h'
 rw [← zOa n,← zOa n']
 have hx:=h.2.2.1
 have hy:=h'.2.2.1
 have h1:=zHa x n
 have h1':=zHa y n'
 have hle:=zGa x n
 have hle':=zGa y n'
 have hN:=h.bare
 have hN':=h'.bare
 generalize sizeL x n=s at *
 generalize sizeL y n'=s' at *
 have HV:Hid (∀ k,zRg x y k=sgn (val x k) (val y k)):=zKj hx hy
 have HL1:Hid (s<s'->sgn (val x s) (val y s')=sgn s s'):=fun hlt=>by
  have:=zQc hx hy hlt h1'
  unfold sgn;rw [if_pos this,if_pos (by omega)]
 have HL2:Hid (s'<s->sgn (val x s) (val y s')=sgn s s'):=fun hlt=>by
  have:=zQc hy hx hlt h1
  unfold sgn;rw [if_neg (by omega),if_pos this,if_neg (by omega),if_pos (by omega)]
 clear h h' h1 h1' hx hy
 by_cases e:s=s'
 ·subst e
  have hc:∀ i,i<s->∃ b off,a=some ⟨b,off,none⟩/\w.cell? ⟨b,off+i,none⟩=some (.int .u64 (x i)):=by
   intro i hi
   have h5:=hN.2.2.2.2
   rcases h5 with ⟨_,h⟩|⟨b,off,h,_,hc⟩
   ·have:=hN.1;omega
   ·exact ⟨b,off,h,hc i hi⟩
  have hc':∀ i,i<s->∃ b off,a'=some ⟨b,off,none⟩/\w.cell? ⟨b,off+i,none⟩=some (.int .u64 (y i)):=by
   intro i hi
   have h5:=hN'.2.2.2.2
   rcases h5 with ⟨_,h⟩|⟨b,off,h,_,hc⟩
   ·have:=hN'.1;omega
   ·exact ⟨b,off,h,hc i hi⟩
  clear hN hN' HL1 HL2
  go_enter Tryz.func164,Tryz.ntmps164
  go_wp2_with (first|(go_at_call_of 63 (Value.slice a n c);refine hb.mono ?_;rintro e w' ⟨rfl,rfl⟩)|(go_at_call_of 63 (Value.slice a' n' c');refine hb'.mono ?_;rintro e w' ⟨rfl,rfl⟩))
  go_loopw [7] (fun t wr=>∃ k m:Nat,k<=s/\zRg x y k=zRg x y s/\t=.int .i64 ((k:Int)-1)/\w.drewN m=wr) (fun t _=>(intOf t+1).toNat)
  case atStart=>exact ⟨s,0,Nat.le_refl _,rfl,by go_num,rfl⟩
  case round =>
   obtain ⟨k,m,hk,hs,rfl,rfl⟩:=hrel
   by_cases h0:k=0
   ·subst h0
    have HS:Hid (sgn (val x s) (val y s)=0):=by show _=_;rw [← HV.out,← hs];rfl
    clear hs hc hc'
    go_wp2
    go_ret
    exact ⟨zVa HS.out.symm,_,rfl⟩
   ·obtain ⟨j,rfl⟩:∃ j,k=j+1:=⟨k-1,by omega⟩
    have ej:((j+1:Nat):Int)-1=j:=by omega
    have hjs:(j:Int)<s:=by omega
    rw [ej]
    obtain ⟨b,off,rfl,hcj⟩:=hc j (by omega)
    obtain ⟨b',off',rfl,hcj'⟩:=hc' j (by omega)
    have hs':(if x j<y j then -1 else if y j<x j then 1 else zRg x y j)=zRg x y s:=hs
    have hcmp:=zSq (x j) (y j)
    by_cases he:x j=y j
    ·have HR:Hid (zRg x y j=zRg x y s):=by rw [← hs',if_neg (by omega),if_neg (by omega)];rfl
     have hne:(x j != y j)=false:=by simp [he]
     rw [he] at hcj
     clear hs hs' hc hc' hcmp
     go_wp2
     go_quiet (fail)
     go_wp2
     go_roundw
     case rel=>exact ⟨j,m+nq,by omega,HR.out,by go_num,rfl⟩
     case measure=>simp [intOf]
    ·have HR:Hid (sgn (val x s) (val y s)=sgn (x j) (y j)):=by
      show _=_
      rw [← HV.out,← hs']
      unfold sgn
      by_cases h1:x j<y j
      ·rw [if_pos h1,if_pos h1]
      ·rw [if_neg h1,if_neg h1,if_pos (by omega),if_pos (by omega)]
     have hne:(x j != y j)=true:=by simp [he]
     clear hs hs' hc hc'
     go_wp2
     go_quiet (fail)
     go_wp2
     go_quiet ((go_at_call 194;exact (hcmp _).mono fun _ _ h=>⟨h.1,_,h.2.symm⟩))
     go_wp2
     go_ret
     exact ⟨zVa HR.out.symm,drw2 _ _ _ _⟩
 ·have hne:((s:Int) != s')=true:=by simp;omega
  have hcmp:=zTq s s' w
  have HR:Hid (sgn (val x s) (val y s')=sgn s s'):=by
   rcases Nat.lt_or_gt_of_ne e with h|h
   ·exact HL1.out h
   ·exact HL2.out h
  clear HL1 HL2 hN hN'
  go_enter Tryz.func164,Tryz.ntmps164
  go_wp2_with (first|(first|(go_at_call_of 63 (Value.slice a n c);refine hb.mono ?_;rintro e w' ⟨rfl,rfl⟩)|(go_at_call_of 63 (Value.slice a' n' c');refine hb'.mono ?_;rintro e w' ⟨rfl,rfl⟩))|(go_at_call 193;refine hcmp.mono ?_;rintro e w' ⟨rfl,rfl⟩))
  go_ret
  exact ⟨zVa HR.out.symm,0,rfl⟩
theorem zGj (a a':Option Addr)(n c n' c':Nat)(x y:Nat->Int)(w:World)(hn:n<4294967296)(hn':n'<4294967296)(h:Num w a n c x)(h':Num w a' n' c' y) :
  CQ 42 #[.slice a n c,.slice a' n' c'] w (.int .i64 (sgn (val x n) (val y n'))):=by
 refine (yJd a a' n c n' c' x y w hn hn' h h').mono fun e w' hw=>⟨?_,hw.2.symm⟩
 rw [hw.1,zKj h.2.2.1 h'.2.2.1,zMa h.2.2.2.1 _ (Nat.le_max_left n n'),zMa h'.2.2.2.1 _ (Nat.le_max_right n n')]
theorem zZg (a:Option Addr)(n c:Nat)(x:Nat->Int)(w:World)(hn:n<4294967296)(h:Num w a n c x) :
  CQ 98 #[.slice a n c] w (.int .i64 (sizeL x n)):=by
 have h':=h
 obtain ⟨h1,h2,h3,h4,h5⟩:=h'
 rcases h5 with ⟨rfl,rfl⟩|⟨b,off,rfl,hb,hc⟩
 ·obtain rfl:n=0:=by omega
  exact (zFr w).mono fun e w' hw=>⟨hw.1,hw.2.symm⟩
 ·exact (zEm b off n c x w (by omega) hc).mono fun e w' hw=>⟨hw.1,hw.2.symm⟩
def zPk (x y:Nat->Int)(off k j:Nat):Int:=if off<=j/\j<off+k then zWb (fun i=>x (off+i)) y (j-off) else x j
theorem zMp (x y:Nat->Int)(off k j:Nat):(if j=off+k then zWb (fun i=>x (off+i)) y k else zPk x y off k j)=zPk x y off (k+1) j:=by
 unfold zPk
 by_cases e:j=off+k
 ·subst e
  rw [if_pos rfl,if_pos (by omega)];congr 1;omega
 ·rw [if_neg e]
  by_cases e2:off<=j/\j<off+k
  ·rw [if_pos e2,if_pos (by omega)]
  ·rw [if_neg e2,if_neg (by omega)]
theorem zI1 (x y:Nat->Int)(off k:Nat):zPk x y off k (off+k)=x (off+k):=by unfold zPk;rw [if_neg (by omega)]
theorem Num.cells {w:World}{a:Option Addr}{n c:Nat}{x:Nat->Int}(h:Num w a n c x)(hn:0<n):∃ b off,a=some ⟨b,off,none⟩/\b<w.heap.size/\∀ i,i<n->w.cell? ⟨b,off+i,none⟩=some (.int .u64 (x i)):=by
 rcases h.2.2.2.2 with ⟨_,h'⟩|⟨b,off,h',hb,hc⟩
 ·have:=h.1;omega
 ·exact ⟨b,off,h',hb,hc⟩
theorem zXg (g N off m c k c':Nat)(a':Option Addr)(x y:Nat->Int)(w:World)(hm:off+m<=N)(hN:N<4294967296)(hk:k<=m)(hx:zFa x)(h:Own g N x w)(h':Num w a' k c' y)(hA:zTi a' g) :
  Calls Tryz.prog 214 #[.slice (some ⟨g,off,none⟩) m c,.slice a' k c'] w fun e w'=>e=.returned (.int .u64 (carryW (fun i=>x (off+i)) y k))/\Own g N (zPk x y off k) w'/\Upd g w w':=by
 have hy:=h'.2.2.1
 have hX:zFa (fun i=>x (off+i)):=fun i=>hx (off+i)
 have HX:Hid (zFa (fun i=>x (off+i))):=hX
 go_enter Tryz.func214,Tryz.ntmps214
 go_wp2
 go_loopw [5,6,7,10,15] (fun cv u6 u7 i u15 wr=>∃ (j:Nat),j<=k/\i=.int .i64 j/\cv=.int .u64 (carryW (fun i=>x (off+i)) y j)/\Own g N (zPk x y off j) wr/\Upd g w wr) (fun _ _ _ i _ _=>k-(intOf i).toNat)
 case atStart=>exact ⟨0,Nat.zero_le _,rfl,rfl,h.congr fun i _=>by unfold zPk;rw [if_neg (by omega)],Upd.refl _ _⟩
 case round =>
  obtain ⟨j,hj,rfl,rfl,hO,hU⟩:=hrel
  have hcar:=zDd HX.out hy j
  by_cases hlt:j<k
  ·have hji:(j:Int)<k:=by omega
   have hjm:(j:Int)<m:=by omega
   obtain ⟨b,off',rfl,hb,hc⟩:=(hU.num' hA h').cells (by omega)
   have hcj:=hc j hlt
   have hco:=hO.cell (off+j) (by omega)
   rw [zI1] at hco
   have hfo:=hO.frozen (off+j)
   have bx:=hx (off+j)
   have b_y:=hy j
   have hadd:=fun w=>zKu (x (off+j)) (y j) (carryW (fun i=>x (off+i)) y j) bx.1 b_y.1 hcar.1 hcar.2 w
   have HO:Hid (Own g N (zPk x y off (j+1)) (wr.setCell ⟨g,off+j,none⟩ (.int .u64 (zWb (fun i=>x (off+i)) y j)))):=(hO.set (off+j) _).congr fun i _=>zMp x y off j i
   have HU:Hid (Upd g w (wr.setCell ⟨g,off+j,none⟩ (.int .u64 (zWb (fun i=>x (off+i)) y j)))):=hU.set (off+j) _
   clear hO hU hc h h' hA hx hy hX
   go_wp2
   go_roundw
   case rel=>exact ⟨j+1,by omega,by go_num,rfl,HO.out,HU.out⟩
   case measure=>simp [intOf];omega
  ·obtain rfl:j=k:=by omega
   have HO:Hid (Own g N (zPk x y off j) wr):=hO
   have HU:Hid (Upd g w wr):=hU
   clear hO hU h h' hA hx hy hX
   go_wp2
   go_ret
   exact ⟨rfl,HO.out,HU.out⟩
theorem zUq {x y:Nat->Int}(hx:zFa x){k:Nat}(zy:∀ i,k<=i->y i=0){i:Nat}(hi:k<=i)(h0:carryW x y i=0):∀ j,i<=j->carryW x y j=0/\zWb x y j=x j:=by
  have h1:∀ j,i<=j->carryW x y j=0:=by
    intro j hj
    induction j with
    | zero => obtain rfl : i = 0 := by omega
              exact h0
    | succ j ih =>
      by_cases e:i=j+1
      · rw [← e];exact h0
      · have hb:=hx j
        simp only [carryW];rw [ih (by omega),zy j (by omega)];omega
  intro j hj
  refine ⟨h1 j hj,?_⟩
  have hb:=hx j
  unfold zWb
  rw [h1 j hj,zy j (by omega)];omega
theorem zSh (g N k c:Nat)(x y:Nat->Int)(w:World)(hk:k<=N)(hN:N<4294967296)(hx:zFa x)(hy:zFa y)(zy:∀ i,k<=i->y i=0)(hend:carryW x y N=0)(h:Own g N (zPk x y 0 k) w) :
  Calls Tryz.prog 213 #[.slice (some ⟨g,k,none⟩) (N-k) c,.int .u64 (carryW x y k)] w fun e w'=>e=.returned (.tuple #[])/\Own g N (zWb x y) w'/\Upd g w w':=by
 have e0:(fun i=>x (0+i))=x:=by funext i;rw [Nat.zero_add]
 go_enter Tryz.func213,Tryz.ntmps213
 go_wp2
 go_loopw [1,4,9] (fun cv i u9 wr=>∃ (j:Nat),k+j<=N/\i=.int .i64 j/\cv=.int .u64 (carryW x y (k+j))/\Own g N (zPk x y 0 (k+j)) wr/\Upd g w wr) (fun _ i _ _=>N-(intOf i).toNat)
 case atStart=>exact ⟨0,by omega,rfl,rfl,h,Upd.refl _ _⟩
 case round =>
  obtain ⟨j,hj,rfl,rfl,hO,hU⟩:=hrel
  have hcar:=zDd hx hy (k+j)
  by_cases hc0:carryW x y (k+j)=0
  ·have HO:Hid (Own g N (zWb x y) wr):=hO.congr fun i hi=>by
    unfold zPk
    by_cases e:0<=i/\i<0+(k+j)
    ·rw [if_pos e,e0];rfl
    ·rw [if_neg e];exact ((zUq hx zy (by omega) hc0 i (by omega)).2).symm
   have HU:Hid (Upd g w wr):=hU
   rw [hc0]
   clear hO hU h hend hcar e0
   go_wp2
   go_end0
   exact ⟨rfl,HO.out,HU.out⟩
  ·have hlt:k+j<N:=by
    rcases Nat.lt_or_ge (k+j) N with h'|h'
    ·exact h'
    ·obtain e:k+j=N:=by omega
     rw [e] at hc0;exact absurd hend hc0
   have hpos:0<carryW x y (k+j):=by omega
   have hji:(j:Int)<((N-k:Nat):Int):=by omega
   have hco:=hO.cell (k+j) hlt
   have e1:zPk x y 0 (k+j) (k+j)=x (k+j):=by have:=zI1 x y 0 (k+j);simpa using this
   rw [e1] at hco
   have hfo:=hO.frozen (k+j)
   have bx:=hx (k+j)
   have hs:zWb x y (k+j)=(x (k+j)+carryW x y (k+j))%18446744073709551616:=by unfold zWb;rw [zy _ (by omega),Int.add_zero]
   have hcn:carryW x y (k+(j+1))=(x (k+j)+carryW x y (k+j))/18446744073709551616:=by
    show (x (k+j)+y (k+j)+carryW x y (k+j))/18446744073709551616=_
    rw [zy _ (by omega),Int.add_zero]
   have hadd:=fun w=>zKu (x (k+j)) 0 (carryW x y (k+j)) bx.1 (by decide) hcar.1 hcar.2 w
   have HO:Hid (Own g N (zPk x y 0 (k+(j+1))) (wr.setCell ⟨g,k+j,none⟩ (.int .u64 (zWb x y (k+j))))):=(hO.set (k+j) _).congr fun i _=>by
    have:=zMp x y 0 (k+j) i
    rw [e0,Nat.zero_add] at this
    exact this
   have HU:Hid (Upd g w (wr.setCell ⟨g,k+j,none⟩ (.int .u64 (zWb x y (k+j))))):=hU.set (k+j) _
   have HC:Hid (carryW x y (k+(j+1))=(x (k+j)+carryW x y (k+j))/18446744073709551616):=hcn
   rw [hs] at HO HU
   clear hO hU h hend hx hy zy hc0 e1 hs hcn e0
   go_wp2
   go_roundw
   case rel=>exact ⟨j+1,by omega,by go_num,by rw [HC.out],HO.out,HU.out⟩
   case measure=>simp [intOf];omega
theorem zPj {x y:Nat->Int}{s s' N:Nat}(hx:zFa x)(hy:zFa y)(zx:∀ i,s<=i->x i=0)(zy:∀ i,s'<=i->y i=0)(h:s<N)(h':s'<N):carryW x y N=0:=by
 obtain ⟨q,rfl⟩:∃ q,N=q+1:=⟨N-1,by omega⟩
 have:=zDd hx hy q
 simp only [carryW];rw [zx q (by omega),zy q (by omega)];omega
theorem zCv {x y:Nat->Int}{g N s s':Nat}{w:World}(hx:zFa x)(hy:zFa y)(zx:∀ i,s<=i->x i=0)(zy:∀ i,s'<=i->y i=0)(h:s<N)(h':s'<N)(hN:N<4294967296)(hO:Own g N (zWb x y) w) :
  Num w (some ⟨g,0,none⟩) N N (segW (zWb x y) 0 N)/\val (segW (zWb x y) 0 N) N=val x s+val y s':=by
 refine ⟨hO.num (zOd x y) 0 N N (by omega) (Nat.le_refl _) (by unfold maxLen;omega),?_⟩
 rw [zIa (x:=segW (zWb x y) 0 N) (y:=zWb x y) N fun i hi=>by rw [zUa _ 0 N i hi,Nat.zero_add]]
 have e:=zAi (x:=x) (y:=y) N
 rw [zPj hx hy zx zy h h',zMa zx N (by omega),zMa zy N (by omega)] at e
 omega
theorem zD4 (a a':Option Addr)(n c n' c':Nat)(x y:Nat->Int)(w:World)(hn:n<4000000000)(hn':n'<4000000000)(h:Num w a n c x)(h':Num w a' n' c' y) :
  Calls Tryz.prog 192 #[.slice a n c,.slice a' n' c'] w fun e w'=>∃ g k cap z,e=.returned (.slice (some ⟨g,0,none⟩) k cap)/\k<=max (sizeL x n) (sizeL y n')+1/\Num w' (some ⟨g,0,none⟩) k cap z/\val z k=val x n+val y n'/\sizeL z k=k/\Below w.heap.size w w':=by
 have hb:=zYa a n c x w (by omega) h
 have hb':=zYa a' n' c' y w (by omega) h'
 rw [← zOa n,← zOa n']
 have hx:=h.2.2.1
 have hy:=h'.2.2.1
 have hle:=zGa x n
 have hle':=zGa y n'
 have hN:=h.bare
 have hN':=h'.bare
 generalize sizeL x n=s at *
 generalize sizeL y n'=s' at *
 clear h h'
 by_cases hlt:s<s'
 ·have hlt':(s:Int)<s':=by omega
  obtain ⟨N,hNs⟩:∃ N,s'+1=N:=⟨_,rfl⟩
  have hNi:(s':Int)+1=N:=by omega
  have hmk:=fun w=>zWa ((s':Int)+1) N hNi (by omega) w
  have hcp:=fun ty=>zGn (N:=N) (C:=N) ty hN' (by omega)
  have hO:=Own.new w y N
  have hA:zTi a w.heap.size:=by
   intro p hp
   rcases hN.2.2.2.2 with ⟨h,_⟩|⟨b,off,h,hb,_⟩
   ·rw [h] at hp;cases hp
   ·rw [h] at hp;cases hp;exact Nat.ne_of_lt hb
  have hnS:=hN.next (zEa w (.cells (arrOf y N) 22))
  have hai:=fun wr hO hn=>zXg w.heap.size N 0 N N s c a y x wr (by omega) (by omega) (by omega) hy hO hn hA
  rw [show (fun i=>y (0+i))=y by funext i;rw [Nat.zero_add]] at hai
  have hci:=fun wr hO=>zSh w.heap.size N s (N-s) y x wr (by omega) (by omega) hy hx hN.2.2.2.1 (zPj hy hx hN'.2.2.2.1 hN.2.2.2.1 (by omega) (by omega)) hO
  have HSN:Hid (∀ w2,Own w.heap.size N (zWb y x) w2->Num w2 (some ⟨w.heap.size,0,none⟩) N N (segW (zWb y x) 0 N)/\val (segW (zWb y x) 0 N) N=val y s'+val x s):=fun w2 h2=>zCv hy hx hN'.2.2.2.1 hN.2.2.2.1 (by omega) (by omega) (by omega) h2
  have HBW:Hid (Below w.heap.size w (w.alloc (.cells (arrOf y N) 22))):=zEa w _
  have hsN:(s:Int)<=N:=by omega
  clear hN hN' hNi hA hx hy
  go_enter Tryz.func192,Tryz.ntmps192
  go_wp2_with (first|(go_at_call_of 63 (Value.slice a n c);refine hb.mono ?_;rintro e w' ⟨rfl,rfl⟩)|(go_at_call_of 63 (Value.slice a' n' c');refine hb'.mono ?_;rintro e w' ⟨rfl,rfl⟩))
  generalize w.alloc (.cells (arrOf y N) 22)=wA at *
  go_region_with (first|(go_at_call 214;refine (hai wA.drew hO hnS).mono ?_;rintro e w1 ⟨rfl,hO1,hU1⟩)|(go_at_call 213;refine (hci _ hO1).mono ?_;rintro e w2 ⟨rfl,hO2,hU2⟩))
  have hsn:=HSN.out w2 hO2
  have hbr:=zYa (some ⟨w.heap.size,0,none⟩) N N (segW (zWb y x) 0 N) w2 (by omega) hsn.1
  have HN2:Hid (Num w2 (some ⟨w.heap.size,0,none⟩) (sizeL (segW (zWb y x) 0 N) N) N (segW (zWb y x) 0 N)):=hsn.1.bare
  have HV2:Hid (val (segW (zWb y x) 0 N) (sizeL (segW (zWb y x) 0 N) N)=val y s'+val x s):=by show _=_;rw [zOa,hsn.2]
  have HS2:Hid (sizeL (segW (zWb y x) 0 N) (sizeL (segW (zWb y x) 0 N) N)=sizeL (segW (zWb y x) 0 N) N):=zHa _ _
  have HLE:Hid (sizeL (segW (zWb y x) 0 N) N<=N):=zGa _ _
  generalize segW (zWb y x) 0 N=z at *
  generalize sizeL z N=k at *
  have HB2:Hid (Below w.heap.size w w2):=(HBW.out.drew.trans (hU1.below (Nat.le_refl _))).trans (hU2.below (Nat.le_refl _))
  clear hsn hO1 hO2 hU1 hU2 hO hnS hai hci hb hb'
  go_wp2_with (go_at_call 63;refine hbr.mono ?_;rintro e w3 ⟨rfl,rfl⟩)
  go_ret
  exact ⟨_,k,N,z,rfl,by have:=HLE.out;omega,HN2.out,by rw [HV2.out];omega,HS2.out,HB2.out⟩
 ·have hlt':¬ (s:Int)<s':=by omega
  obtain ⟨N,hNs⟩:∃ N,s+1=N:=⟨_,rfl⟩
  have hNi:(s:Int)+1=N:=by omega
  have hmk:=fun w=>zWa ((s:Int)+1) N hNi (by omega) w
  have hcp:=fun ty=>zGn (N:=N) (C:=N) ty hN (by omega)
  have hO:=Own.new w x N
  have hA:zTi a' w.heap.size:=by
   intro p hp
   rcases hN'.2.2.2.2 with ⟨h,_⟩|⟨b,off,h,hb,_⟩
   ·rw [h] at hp;cases hp
   ·rw [h] at hp;cases hp;exact Nat.ne_of_lt hb
  have hnS:=hN'.next (zEa w (.cells (arrOf x N) 22))
  have hai:=fun wr hO hn=>zXg w.heap.size N 0 N N s' c' a' x y wr (by omega) (by omega) (by omega) hx hO hn hA
  rw [show (fun i=>x (0+i))=x by funext i;rw [Nat.zero_add]] at hai
  have hci:=fun wr hO=>zSh w.heap.size N s' (N-s') x y wr (by omega) (by omega) hx hy hN'.2.2.2.1 (zPj hx hy hN.2.2.2.1 hN'.2.2.2.1 (by omega) (by omega)) hO
  have HSN:Hid (∀ w2,Own w.heap.size N (zWb x y) w2->Num w2 (some ⟨w.heap.size,0,none⟩) N N (segW (zWb x y) 0 N)/\val (segW (zWb x y) 0 N) N=val x s+val y s'):=fun w2 h2=>zCv hx hy hN.2.2.2.1 hN'.2.2.2.1 (by omega) (by omega) (by omega) h2
  have HBW:Hid (Below w.heap.size w (w.alloc (.cells (arrOf x N) 22))):=zEa w _
  have hsN:(s':Int)<=N:=by omega
  clear hN hN' hNi hA hx hy
  go_enter Tryz.func192,Tryz.ntmps192
  go_wp2_with (first|(go_at_call_of 63 (Value.slice a n c);refine hb.mono ?_;rintro e w' ⟨rfl,rfl⟩)|(go_at_call_of 63 (Value.slice a' n' c');refine hb'.mono ?_;rintro e w' ⟨rfl,rfl⟩))
  generalize w.alloc (.cells (arrOf x N) 22)=wA at *
  go_region_with (first|(go_at_call 214;refine (hai wA.drew hO hnS).mono ?_;rintro e w1 ⟨rfl,hO1,hU1⟩)|(go_at_call 213;refine (hci _ hO1).mono ?_;rintro e w2 ⟨rfl,hO2,hU2⟩))
  have hsn:=HSN.out w2 hO2
  have hbr:=zYa (some ⟨w.heap.size,0,none⟩) N N (segW (zWb x y) 0 N) w2 (by omega) hsn.1
  have HN2:Hid (Num w2 (some ⟨w.heap.size,0,none⟩) (sizeL (segW (zWb x y) 0 N) N) N (segW (zWb x y) 0 N)):=hsn.1.bare
  have HV2:Hid (val (segW (zWb x y) 0 N) (sizeL (segW (zWb x y) 0 N) N)=val x s+val y s'):=by show _=_;rw [zOa,hsn.2]
  have HS2:Hid (sizeL (segW (zWb x y) 0 N) (sizeL (segW (zWb x y) 0 N) N)=sizeL (segW (zWb x y) 0 N) N):=zHa _ _
  have HLE:Hid (sizeL (segW (zWb x y) 0 N) N<=N):=zGa _ _
  generalize segW (zWb x y) 0 N=z at *
  generalize sizeL z N=k at *
  have HB2:Hid (Below w.heap.size w w2):=(HBW.out.drew.trans (hU1.below (Nat.le_refl _))).trans (hU2.below (Nat.le_refl _))
  clear hsn hO1 hO2 hU1 hU2 hO hnS hai hci hb hb'
  go_wp2_with (go_at_call 63;refine hbr.mono ?_;rintro e w3 ⟨rfl,rfl⟩)
  go_ret
  exact ⟨_,k,N,z,rfl,by have:=HLE.out;omega,HN2.out,by rw [HV2.out],HS2.out,HB2.out⟩
def zMu (x y:Nat->Int)(k j:Nat):Int:=if j<k then zFd x y j else x j
theorem zWn (x y:Nat->Int)(k j:Nat):(if j=k then zFd x y k else zMu x y k j)=zMu x y (k+1) j:=by
 unfold zMu
 by_cases e:j=k
 ·subst e
  rw [if_pos rfl,if_pos (by omega)]
 ·rw [if_neg e]
  by_cases e2:j<k
  ·rw [if_pos e2,if_pos (by omega)]
  ·rw [if_neg e2,if_neg (by omega)]
theorem zEv (x y:Nat->Int)(k:Nat):zMu x y k k=x k:=by unfold zMu;rw [if_neg (by omega)]
theorem zT0 {x y b:Int}(hx:0<=x/\x<=18446744073709551615)(hy:0<=y/\y<=18446744073709551615)(hb:0<=b/\b<=1):(x-y-b)%18446744073709551616-bor x y b*18446744073709551616=x-y-b:=by
 unfold bor;split<;>omega
theorem zPi {x y:Nat->Int}(hx:zFa x)(hy:zFa y):∀ n,val (zFd x y) n-zGf x y n*18446744073709551616^n=val x n-val y n
 | 0=>by simp [val,zGf]
 | n+1=>by
  have ih:=zPi hx hy n
  have h:=zT0 (hx n) (hy n) (zSf x y n)
  show val (zFd x y) n+zFd x y n*18446744073709551616^n-bor (x n) (y n) (zGf x y n)*18446744073709551616^(n+1)=val x n+x n*18446744073709551616^n-(val y n+y n*18446744073709551616^n)
  have hd:zFd x y n=(x n-y n-zGf x y n)%18446744073709551616:=rfl
  rw [← hd] at h
  rw [Int.pow_succ]
  generalize (18446744073709551616:Int)^n=P at *
  grind
theorem zV0 {x y:Nat->Int}(hx:zFa x){k:Nat}(zy:∀ i,k<=i->y i=0){i:Nat}(hi:k<=i)(h0:zGf x y i=0):∀ j,i<=j->zGf x y j=0/\zFd x y j=x j:=by
  have h1:∀ j,i<=j->zGf x y j=0:=by
    intro j hj
    induction j with
    | zero => obtain rfl : i = 0 := by omega
              exact h0
    | succ j ih =>
      by_cases e:i=j+1
      · rw [← e];exact h0
      · have hb:=hx j
        show bor (x j) (y j) (zGf x y j)=0
        rw [ih (by omega),zy j (by omega)];unfold bor;rw [if_neg (by omega)]
  intro j hj
  refine ⟨h1 j hj,?_⟩
  have hb:=hx j
  unfold zFd
  rw [h1 j hj,zy j (by omega)];omega
theorem zIn {x y:Nat->Int}(hx:zFa x)(hy:zFa y){n:Nat}(h:val y n<=val x n):zGf x y n=0:=by
 have e:=zPi hx hy n
 have h1:=zRa (zKe x y) n
 have h2:=zSf x y n
 have h3:=zXb n
 by_cases h0:zGf x y n=0
 ·exact h0
 ·have:zGf x y n=1:=by omega
  rw [this] at e;omega
theorem zSr (a:Option Addr)(n c:Nat)(x:Nat->Int)(w:World)(hn:n<100000000)(h:Num w a n c x) :
  CQ 138 #[.slice a n c] w (.int .i64 (lenL x n)):=by
 have hb:=zYa a n c x w (by omega) h
 have hle:=zGa x n
 by_cases h0:sizeL x n=0
 ·have HL:Hid (lenL x n=0):=by show _=_;simp [lenL,h0]
  rw [h0] at hb
  clear h0 h
  go_enter Tryz.func138,Tryz.ntmps138
  go_wp2_with (go_at_call 63;refine hb.mono ?_;rintro e w' ⟨rfl,rfl⟩)
  go_ret
  exact ⟨zVa HL.out.symm,rfl⟩
 ·obtain ⟨j,hj⟩:∃ j,sizeL x n=j+1:=⟨sizeL x n-1,by omega⟩
  have HL:Hid (lenL x n=64*(j:Int)+Lib.bitLen (x j).toNat):=by show _=_;simp [lenL,hj];omega
  obtain ⟨b,off,rfl,hbs,hc⟩:=h.cells (by omega)
  rw [hj] at hb
  have hcj:=hc j (by omega)
  have hbx:=h.2.2.1 j
  have hbl:=zXc (x j).toNat
  have hj':j+1<=n:=by omega
  clear h0 hc hj hle h
  have hcl:=Tryz.bits_Len64 (x j) w hbx.1 hbx.2
  generalize Lib.bitLen (x j).toNat=L at *
  go_enter Tryz.func138,Tryz.ntmps138
  go_wp2_with (first|(go_at_call 63;refine hb.mono ?_;rintro e w' ⟨rfl,rfl⟩)|(go_at_call 134;refine hcl.mono ?_;rintro e w' ⟨rfl,rfl⟩))
  go_ret
  exact ⟨zVa (by rw [HL.out];omega),rfl⟩
theorem zE3 (w:World):CQ 91 #[.slice none 0 0] w (.int .i64 0):=by
 have hs:=zFr w
 go_enter Tryz.func91,Tryz.ntmps91
 go_wp2_with (go_at_call 98;refine hs.mono ?_;rintro e w' ⟨rfl,rfl⟩)
 go_ret
 exact ⟨rfl,rfl⟩
theorem zTe (a:Option Addr)(n c:Nat)(x:Nat->Int)(w:World)(hn:n<100000000)(h:Num w a n c x) :
  CQ 91 #[.slice a n c] w (.int .i64 (lenL x n)):=by
 have h':=h
 obtain ⟨h1,h2,h3,h4,h5⟩:=h'
 rcases h5 with ⟨rfl,rfl⟩|⟨b,off,rfl,hb,hc⟩
 ·obtain rfl:n=0:=by omega
  exact zE3 w
 ·exact (yOb b off n c x w hn h3 hc).mono fun e w' hw=>⟨hw.1,hw.2.symm⟩
theorem zK3 (a a':Option Addr)(n c n' c':Nat)(x y:Nat->Int)(w:World)(hn:n<4000000000)(hn':n'<4000000000)(h:Num w a n c x)(h':Num w a' n' c' y) :
  Calls Tryz.prog 48 #[.slice a n c,.slice a' n' c'] w fun e w'=>∃ g k cap z,e=.returned (.slice (some ⟨g,0,none⟩) k cap)/\k<=max n n'+1/\Num w' (some ⟨g,0,none⟩) k cap z/\val z k=val x n+val y n'/\Below w.heap.size w w':=by
 refine (zL3 a a' n c n' c' x y w (by omega) (by omega) h h').mono fun e w' ⟨g,k,cap,e1,hk,hN,hB⟩=>⟨g,k,cap,_,e1,hk,hN,?_,hB⟩
 have e:=zAi (x:=x) (y:=y) (max n n'+1)
 rw [zPj h.2.2.1 h'.2.2.1 h.2.2.2.1 h'.2.2.2.1 (by omega) (by omega),zMa h.2.2.2.1 _ (by omega),zMa h'.2.2.2.1 _ (by omega),zMa hN.2.2.2.1 _ hk] at e
 omega
theorem ncmp_b (a a':Option Addr)(n c n' c':Nat)(x y:Nat->Int)(w:World)(hn:n<4294967296)(hn':n'<4294967296)(h:Num w a n c x)(h':Num w a' n' c' y) :
  CB 164 #[.slice a n c,.slice a' n' c'] w (.int .i64 (sgn (val x n) (val y n'))) :=
 (zTr a a' n c n' c' x y w hn hn' h h').mono fun e w' ⟨h1,m,hm⟩=>⟨h1,hm▸below_drewN (Below.refl _ _) m⟩
theorem zX3 (w:World):Num w none 0 0 (fun _=>0):=⟨Nat.le_refl _,by unfold maxLen;omega,fun _=>(by decide:(0:Int)<=0/\(0:Int)<=18446744073709551615),fun _ _=>rfl,Or.inl ⟨rfl,rfl⟩⟩
theorem zIi (a n z C:Int)(w:World)(ha:0<=a/\a<=18446744073709551615)(hn:0<=n/\n<=18446744073709551615)(hz:0<=z/\z<=18446744073709551615)(hC:0<=C/\C<=18446744073709551615) :
  Calls Tryz.prog 198 #[.int .u64 a,.int .u64 n,.int .u64 z,.int .u64 C] w fun e w'=>∃ l h,e=.returned (.tuple #[.int .u64 l,.int .u64 h])/\l+h*18446744073709551616=a*n+z+C/\(0<=l/\l<=18446744073709551615)/\(0<=h/\h<=18446744073709551615)/\w=w':=by
 have hms:=zPm a n z C ha hn hz hC
 have hmul:=zJy a n ha hn w
 have hL0:0<=a*n%18446744073709551616:=Int.emod_nonneg _ (by decide)
 have hA1:=fun w=>zNk (a*n%18446744073709551616) z hL0 hz.1 w
 have hs0:0<=(a*n%18446744073709551616+z)%18446744073709551616:=Int.emod_nonneg _ (by decide)
 have hA2:=fun w=>zNk ((a*n%18446744073709551616+z)%18446744073709551616) C hs0 hC.1 w
 have ht0:0<=((a*n%18446744073709551616+z)%18446744073709551616+C)%18446744073709551616/\((a*n%18446744073709551616+z)%18446744073709551616+C)%18446744073709551616<=18446744073709551615:=by omega
 generalize ((a*n%18446744073709551616+z)%18446744073709551616+C)%18446744073709551616=t2 at *
 generalize ((a*n%18446744073709551616+z)%18446744073709551616+C)/18446744073709551616=f2 at *
 generalize (a*n%18446744073709551616+z)%18446744073709551616=t1 at *
 generalize (a*n%18446744073709551616+z)/18446744073709551616=f1 at *
 generalize a*n%18446744073709551616=lo at *
 generalize a*n/18446744073709551616=hi at *
 have HMS:Hid (t2+(hi+f1+f2)*18446744073709551616=a*n+z+C):=hms.1
 have hb1:0<=hi+f1:=hms.2.1
 have hb2:hi+f1<=18446744073709551615:=hms.2.2.1
 have hb3:0<=hi+f1+f2:=hms.2.2.2.1
 have hb4:hi+f1+f2<=18446744073709551615:=hms.2.2.2.2
 clear hms
 go_enter Tryz.func198,Tryz.ntmps198
 go_wp2_with (go_at_call 49;refine hmul.mono ?_;rintro e w' ⟨rfl,rfl⟩)
 go_ret2
 exact ⟨t2,hi+f1+f2,rfl,HMS.out,ht0,⟨hb3,hb4⟩,rfl⟩
theorem zYk (g N off m c k c':Nat)(a':Option Addr)(x y:Nat->Int)(n:Int)(w:World)(hm:off+m<=N)(hN:N<4294967296)(hk:k<=m)(hx:zFa x)(hn:0<=n/\n<=18446744073709551615)(h:Own g N x w)(h':Num w a' k c' y)(hA:zTi a' g) :
  Calls Tryz.prog 211 #[.slice (some ⟨g,off,none⟩) m c,.slice a' k c',.int .u64 n] w fun e w'=>∃ C z,e=.returned (.int .u64 C)/\(0<=C/\C<=18446744073709551615)/\Own g N z w'/\zFa z/\val z N+C*18446744073709551616^(off+k)=val x N+n*val y k*18446744073709551616^off/\(∀ i,off+k<=i->z i=x i)/\Upd g w w':=by
 have hy:=h'.2.2.1
 go_enter Tryz.func211,Tryz.ntmps211
 go_wp2
 go_loopw [7,8,9,12,17] (fun cv u8 u9 i u17 wr=>∃ (j:Nat) (C:Int) (z:Nat->Int),j<=k/\i=.int .i64 j/\cv=.int .u64 C/\(0<=C/\C<=18446744073709551615)/\Own g N z wr/\zFa z/\Hid (val z N+C*18446744073709551616^(off+j)=val x N+n*val y j*18446744073709551616^off)/\(∀ i,off+j<=i->z i=x i)/\Upd g w wr) (fun _ _ _ i _ _=>k-(intOf i).toNat)
 case atStart=>exact ⟨0,0,x,Nat.zero_le _,rfl,rfl,by decide,h,hx,by show _=_;simp [val],fun _ _=>rfl,Upd.refl _ _⟩
 case round =>
  obtain ⟨j,C,z,hj,rfl,rfl,hCb,hO,hzw,hv,hzx,hU⟩:=hrel
  by_cases hlt:j<k
  ·have hji:(j:Int)<k:=by omega
   have hjm:(j:Int)<m:=by omega
   obtain ⟨b,off',rfl,hb,hc⟩:=(hU.num' hA h').cells (by omega)
   have hcj:=hc j hlt
   have hco:=hO.cell (off+j) (by omega)
   have hfo:=hO.frozen (off+j)
   have hma:=fun w=>zIi (y j) n (z (off+j)) C w (hy j) hn (hzw (off+j)) hCb
   have HO:Hid (Own g N z wr):=hO
   have HU:Hid (Upd g w wr):=hU
   have HZW:Hid (zFa z):=hzw
   have HZX:Hid (∀ i,off+j<=i->z i=x i):=hzx
   clear hO hU hc h h' hA hx hy hzw hzx
   go_wp2_with (go_at_call 198;refine (hma _).mono ?_;rintro e w1 ⟨l,hi,rfl,hlh,hlb,hhb,rfl⟩)
   go_roundw
   case rel =>
    refine ⟨j+1,hi,fun i=>if i=off+j then l else z i,by omega,by go_num,rfl,hhb,HO.out.set (off+j) l,zTb HZW.out hlb,?_,?_,HU.out.set (off+j) _⟩
    ·show _=_
     rw [zGd z (off+j) l N (by omega)]
     exact zAk _ _ _ _ _ _ _ _ _ off j hv.out (by rw [hlh,Int.mul_comm (y j) n])
    ·intro i hi2
     exact (if_neg (show ¬ i=off+j by omega)).trans (HZX.out i (by omega))
   case measure=>simp [intOf];omega
  ·obtain rfl:j=k:=by omega
   have HO:Hid (Own g N z wr):=hO
   have HU:Hid (Upd g w wr):=hU
   have HZW:Hid (zFa z):=hzw
   have HZX:Hid (∀ i,off+j<=i->z i=x i):=hzx
   clear hO hU h h' hA hx hy hzw hzx
   go_wp2
   go_ret
   exact ⟨C,z,rfl,hCb,HO.out,HZW.out,hv.out,HZX.out,HU.out⟩
theorem zBf {w:World}{a:Option Addr}{n c:Nat}{x:Nat->Int}(h:Num w a n c x):zTi a w.heap.size:=by
 intro p hp
 rcases h.2.2.2.2 with ⟨h,_⟩|⟨b,off,h,hb,_⟩
 ·rw [h] at hp;cases hp
 ·rw [h] at hp;cases hp;exact Nat.ne_of_lt hb
theorem zWd:∀ m,val (fun _=>0) m=0:=by intro m;induction m with|zero=>rfl|succ m ih=>simp only [val];rw [ih];simp
theorem zOm (a a':Option Addr)(n c n' c':Nat)(x y:Nat->Int)(w:World)(hn:n<4000000000)(hn':n'<4000000000)(h:Num w a n c x)(h':Num w a' n' c' y)(hs:sizeL x n+sizeL y n'<=2000) :
  Calls Tryz.prog 189 #[.slice a n c,.slice a' n' c'] w fun e w'=>∃ g k cap z,e=.returned (.tuple #[.slice (some ⟨g,0,none⟩) k cap,.int .i64 0])/\k<=sizeL x n+sizeL y n'/\Num w' (some ⟨g,0,none⟩) k cap z/\val z k=val x n*val y n'/\sizeL z k=k/\Below w.heap.size w w':=by
 have hb:=zYa a n c x w (by omega) h
 have hb':=zYa a' n' c' y w (by omega) h'
 rw [← zOa n,← zOa n']
 have hx:=h.2.2.1
 have hy:=h'.2.2.1
 have hle:=zGa x n
 have hle':=zGa y n'
 have hN:=h.bare
 have hN':=h'.bare
 generalize sizeL x n=s at *
 generalize sizeL y n'=s' at *
 clear h h'
 obtain ⟨N,hNs⟩:∃ N,s+s'=N:=⟨_,rfl⟩
 have hNi:(s:Int)+s'=N:=by omega
 have hmk:=fun w=>zWa ((s:Int)+s') N hNi (by omega) w
 have hN2:(s:Int)+s'<=2000:=by omega
 have HNS:Hid (s+s'=N):=hNs
 have hA:=zBf hN
 have hA':=zBf hN'
 have hO:=Own.new w (fun _=>0) N
 have hBW:=zEa w (.cells (arrOf (fun _=>0) N) 22)
 have hnx:=hN.next hBW
 have hny:=hN'.next hBW
 have hap:=fun wr z off hO hzw hU (hoff:off+s<=N) n hn=>zYk w.heap.size N off (N-off) (N-off) s c a z x n wr (by omega) (by omega) (by omega) hzw hn hO (Upd.num' (w:=w.alloc (.cells (arrOf (fun _=>0) N) 22)) hU hA hnx) hA
 have HBW:Hid (Below w.heap.size w (w.alloc (.cells (arrOf (fun _=>0) N) 22))):=hBW
 clear hBW hN hN' hNi hNs
 go_enter Tryz.func189,Tryz.ntmps189
 go_wp2_with (first|(go_at_call_of 63 (Value.slice a n c);refine hb.mono ?_;rintro e w' ⟨rfl,rfl⟩)|(go_at_call_of 63 (Value.slice a' n' c');refine hb'.mono ?_;rintro e w' ⟨rfl,rfl⟩))
 generalize w.alloc (.cells (arrOf (fun _=>0) N) 22)=wA at *
 go_loopw [9,10,29] (fun u9 u10 i wr=>∃ (j:Nat) (z:Nat->Int),j<=s'/\i=.int .i64 j/\Own w.heap.size N z wr/\zFa z/\(∀ q,s+j<=q->z q=0)/\Hid (val z N=val x s*val y j)/\Upd w.heap.size wA wr) (fun _ _ i _=>s'-(intOf i).toNat)
 case atStart=>exact ⟨0,fun _=>0,Nat.zero_le _,rfl,hO,fun _=>(by decide:(0:Int)<=0/\(0:Int)<=18446744073709551615),fun _ _=>rfl,by show _=_;rw [zWd];simp [val],Upd.refl _ _⟩
 case round =>
  clear hO
  obtain ⟨j,z,hj,rfl,hO,hzw,hz0,hv,hU⟩:=hrel
  by_cases hlt:j<s'
  ·have hji:(j:Int)<s':=by omega
   obtain ⟨b,off',rfl,hbb,hc⟩:=(hU.num' hA' hny).cells (by omega)
   have hcj:=hc j hlt
   have hap1:=hap wr z j hO hzw hU (by have:=HNS.out;omega) (y j) (hy j)
   have hjN:(j:Int)<=N:=by have:=HNS.out;omega
   have hjs:(j:Int)+s<N:=by have:=HNS.out;omega
   have e1:((j:Int)+s).toNat=j+s:=by omega
   have HU:Hid (Upd w.heap.size wA wr):=hU
   have HZ0:Hid (∀ q,s+j<=q->z q=0):=hz0
   clear hO hU hc hzw hz0 hap hx hy hA hA' hnx hny
   go_wp2_with (go_at_call 211;refine hap1.mono ?_;rintro e w1 ⟨C,z1,rfl,hCb,hO1,hw1,hv1,hzx1,hU1⟩;have hc1:=hO1.cell (j+s) (by have:=HNS.out;omega);have hf1:=hO1.frozen (j+s))
   go_roundw
   case rel =>
    have e2:z1 (j+s)=0:=by rw [hzx1 (j+s) (Nat.le_refl _)];exact HZ0.out _ (by omega)
    refine ⟨j+1,fun i=>if i=j+s then C else z1 i,by omega,by go_num,hO1.set (j+s) C,zTb hw1 hCb,?_,?_,(HU.out.trans hU1).set (j+s) _⟩
    ·intro q hq
     exact (if_neg (show ¬ q=j+s by omega)).trans ((hzx1 q (by omega)).trans (HZ0.out q (by omega)))
    ·show _=_
     rw [zGd z1 (j+s) C N (by have:=HNS.out;omega),e2,Int.sub_zero,hv1,hv.out]
     show _=val x s*(val y j+y j*18446744073709551616^j)
     generalize (18446744073709551616:Int)^j=P
     grind
   case measure=>simp [intOf];omega
  ·obtain rfl:j=s':=by omega
   have hN2':=hO.num hzw 0 N N (by omega) (Nat.le_refl _) (by unfold maxLen;have:=HNS.out;omega)
   have hbr:=zYa (some ⟨w.heap.size,0,none⟩) N N (segW z 0 N) wr (by have:=HNS.out;omega) hN2'
   have HN2:Hid (Num wr (some ⟨w.heap.size,0,none⟩) (sizeL (segW z 0 N) N) N (segW z 0 N)):=hN2'.bare
   have HV2:Hid (val (segW z 0 N) (sizeL (segW z 0 N) N)=val x s*val y j):=by
    show _=_
    rw [zOa,zIa (x:=segW z 0 N) (y:=z) N fun i hi=>by rw [zUa _ 0 N i hi,Nat.zero_add],hv.out]
   have HS2:Hid (sizeL (segW z 0 N) (sizeL (segW z 0 N) N)=sizeL (segW z 0 N) N):=zHa _ _
   have HLE:Hid (sizeL (segW z 0 N) N<=N):=zGa _ _
   generalize segW z 0 N=z2 at *
   generalize sizeL z2 N=k at *
   have HB2:Hid (Below w.heap.size w wr):=HBW.out.trans (hU.below (Nat.le_refl _))
   clear hO hU hN2' hx hy hzw hz0 hap hA hA' hnx hny
   go_wp2_with (go_at_call 63;refine hbr.mono ?_;rintro e w3 ⟨rfl,rfl⟩)
   go_ret2
   exact ⟨_,k,N,z2,rfl,by rw [HNS.out];exact HLE.out,HN2.out,HV2.out,HS2.out,HB2.out⟩
theorem zFj (a:Int):IntKind.u64.wrap a=a%18446744073709551616:=by
 simp only [IntKind.wrap,IntKind.bits,IntKind.signed]
 simp
theorem zHb (n:Nat):(0:Int)<2^n:=Int.pow_pos (by decide)
theorem zUe {r:Nat}(hr:r<=64):(2:Int)^(64-r)*2^r=18446744073709551616:=by
 rw [← Int.pow_add,show 64-r+r=64 by omega];rfl
def hiW (x:Int)(r:Nat):Int:=x*2^r/18446744073709551616
theorem zD7 (x:Int){r:Nat}(hr:r<=64):x/2^(64-r)=hiW x r:=by
 unfold hiW
 rw [← zUe hr,Int.mul_ediv_mul_of_pos_left _ _ (zHb r)]
theorem hiW_bd {x:Int}(hx:0<=x/\x<=18446744073709551615)(r:Nat):0<=hiW x r/\hiW x r<2^r:=by
 have hp:=zHb r
 unfold hiW
 refine ⟨Int.ediv_nonneg (Int.mul_nonneg hx.1 (by omega)) (by decide),Int.ediv_lt_of_lt_mul (by decide) ?_⟩
 rw [Int.mul_comm (2^r)]
 exact Int.mul_lt_mul_of_pos_right (by omega) hp
theorem zKm {r:Nat}(hr:r<64):(2:Int)^r<=9223372036854775808:=by
 have h:=zUe (show r<=64 by omega)
 have h1:(2:Int)^(64-r)=2^(63-r)*2:=by rw [← Int.pow_succ];congr 1;omega
 have h2:=zHb (63-r)
 rw [h1] at h
 have:(1:Int)*(2*2^r)<=2^(63-r)*(2*2^r):=Int.mul_le_mul_of_nonneg_right (by omega) (by have:=zHb r;omega)
 rw [← Int.mul_assoc] at this
 have e:(2:Int)^(63-r)*(2*2^r)=18446744073709551616:=by rw [← Int.mul_assoc];exact h
 omega
theorem zR6 {y b:Int}{r:Nat}(hr:r<64)(hy:0<=y)(hb:0<=b/\b<2^r):orW b (IntKind.u64.wrap (y*2^r))=y*2^r%18446744073709551616+b:=by
 have hle:=zKm hr
 have hp:=zHb r
 have hme:y*2^r%(2^(64-r)*2^r)=y%2^(64-r)*2^r:=by
  have:=Int.mul_emod_mul_of_pos y (2^(64-r)) hp
  rw [Int.mul_comm y,Int.mul_comm (2^(64-r)),this,Int.mul_comm]
 rw [zJg b _ (by omega) (zAc _),zFj,← zUe (show r<=64 by omega),hme]
 have hm0:=Int.emod_nonneg y (show (2:Int)^(64-r)≠0 by have:=zHb (64-r);omega)
 obtain ⟨u,hu⟩:=Int.eq_ofNat_of_zero_le hm0
 obtain ⟨b',rfl⟩:=Int.eq_ofNat_of_zero_le hb.1
 rw [hu]
 have e1:((u:Int)*2^r).toNat=2^r*u:=by
  have:((u:Int)*2^r)=((2^r*u:Nat):Int):=by rw [Int.natCast_mul,zPb,Int.mul_comm]
  rw [this];exact Int.toNat_natCast _
 have hb2:b'<2^r:=by
  have h:=hb.2
  rw [← zPb] at h;omega
 rw [e1,Int.toNat_natCast,Nat.or_comm,← Nat.two_pow_add_eq_or_of_lt hb2]
 rw [Int.natCast_add,Int.natCast_mul,zPb,Int.mul_comm]
def prevW (x:Nat->Int)(r i:Nat):Int:=if i=0 then 0 else hiW (x (i-1)) r
def shW (x:Nat->Int)(r i:Nat):Int:=x i*2^r%18446744073709551616+prevW x r i
theorem zJm {x:Nat->Int}(hx:zFa x)(r i:Nat):0<=prevW x r i/\prevW x r i<2^r:=by
 unfold prevW;split
 ·have:=zHb r;omega
 ·exact hiW_bd (hx _) r
theorem zNv {x:Nat->Int}(hx:zFa x){r:Nat}(hr:r<64)(i:Nat):orW (prevW x r i) (IntKind.u64.wrap (x i*2^r))=shW x r i:=zR6 hr (hx i).1 (zJm hx r i)
theorem zJl {x:Nat->Int}(hx:zFa x){r:Nat}(hr:r<64)(i:Nat):0<=prevW x r i/\prevW x r i<=18446744073709551615:=by
 have:=zJm hx r i
 have:=zKm hr
 omega
theorem zCo {x:Nat->Int}(hx:zFa x){r:Nat}(hr:r<64):zFa (shW x r):=fun i=>by
 rw [← zNv hx hr i];exact zCh _ _ (zJl hx hr i) (zAc _)
theorem zMv (x:Nat->Int)(r:Nat):∀ m,val (shW x r) m+prevW x r m*18446744073709551616^m=val x m*2^r
 | 0=>by simp [val,prevW]
 | m+1=>by
  have ih:=zMv x r m
  show val (shW x r) m+shW x r m*18446744073709551616^m+prevW x r (m+1)*18446744073709551616^(m+1)=(val x m+x m*18446744073709551616^m)*2^r
  have e1:prevW x r (m+1)=x m*2^r/18446744073709551616:=rfl
  have e2:shW x r m=x m*2^r%18446744073709551616+prevW x r m:=rfl
  have e3:=Int.emod_add_mul_ediv (x m*2^r) 18446744073709551616
  rw [e1,e2,Int.pow_succ]
  generalize x m*2^r/18446744073709551616=K at *
  generalize x m*2^r%18446744073709551616=R at *
  generalize (18446744073709551616:Int)^m=P at *
  grind
theorem zO6 {x:Nat->Int}{n:Nat}(zx:∀ i,n<=i->x i=0)(r m:Nat)(h:n<m):val (shW x r) m=val x n*2^r:=by
 have e:=zMv x r m
 have e1:prevW x r m=0:=by
  unfold prevW hiW;rw [if_neg (by omega),zx (m-1) (by omega)];simp
 rw [e1,zMa zx m (by omega)] at e
 omega
def upW (f:Nat->Int)(q j:Nat):Int:=if q<=j then f (j-q) else 0
theorem zG6 (f:Nat->Int)(q:Nat):∀ m,val (upW f q) (q+m)=val f m*18446744073709551616^q
 | 0=>by
  have:∀ k,k<=q->val (upW f q) k=0:=by
   intro k
   induction k with
   | zero=>intro _;rfl
   | succ k ih =>
    intro hk
    show val (upW f q) k+upW f q k*18446744073709551616^k=0
    rw [ih (by omega)]
    unfold upW;rw [if_neg (by omega)];simp
  rw [Nat.add_zero,this q (Nat.le_refl _)];simp [val]
 | m+1=>by
  have ih:=zG6 f q m
  show val (upW f q) (q+m)+upW f q (q+m)*18446744073709551616^(q+m)=(val f m+f m*18446744073709551616^m)*18446744073709551616^q
  rw [ih]
  have e:upW f q (q+m)=f m:=by unfold upW;rw [if_pos (by omega)];congr 1;omega
  rw [e,Int.pow_add]
  generalize (18446744073709551616:Int)^m=P
  generalize (18446744073709551616:Int)^q=Q
  grind
theorem yZb {x:Nat->Int}(hx:zFa x)(q:Nat){r:Nat}(hr:r<64):zPc x q r=upW (shW x r) q:=by
 funext j
 unfold zPc upW
 by_cases h:q<=j
 ·rw [if_pos h,if_pos h,← zNv hx hr (j-q)]
  congr 1
  unfold zPf prevW
  by_cases h0:j-q=0
  ·rw [if_pos h0,if_neg (by omega)]
  ·rw [if_neg h0]
   by_cases hr0:0<r
   ·rw [if_pos (by omega),zD7 _ (by omega)]
   ·obtain rfl:r=0:=by omega
    rw [if_neg (by omega)]
    unfold hiW
    have:=hx (j-q-1)
    omega
 ·rw [if_neg h,if_neg h]
theorem p64 (q r:Nat):(2:Int)^r*18446744073709551616^q=2^(64*q+r):=by
 rw [Int.pow_add,Int.pow_mul,Int.mul_comm];rfl
theorem zYm {x:Nat->Int}{n:Nat}(hx:zFa x)(zx:∀ i,n<=i->x i=0)(q:Nat){r:Nat}(hr:r<64):val (zPc x q r) (n+q+1)=val x n*2^(64*q+r):=by
 rw [yZb hx q hr,show n+q+1=q+(n+1) by omega,zG6,zO6 zx r (n+1) (by omega),Int.mul_assoc,p64]
theorem yLa (a a':Option Addr)(n c n' c':Nat)(x y:Nat->Int)(w:World)(hn:n<4294967290)(hn':n'<4294967290)(h:Num w a n c x)(h':Num w a' n' c' y) :
  Calls Tryz.prog 48 #[.slice a n c,.slice a' n' c'] w fun e w'=>∃ g k cap,e=.returned (.slice (some ⟨g,0,none⟩) k cap)/\k<=max n n'+1/\Num w' (some ⟨g,0,none⟩) k cap (zWb x y)/\Below w.heap.size w w'/\sizeL (zWb x y) k=k:=by
 have hx:=h.2.2.1
 have hy:=h'.2.2.1
 have zx:=h.2.2.2.1
 have zy:=h'.2.2.2.1
 obtain ⟨M,hM⟩:∃ M,max n n'+1=M:=⟨_,rfl⟩
 have hMi:max (n:Int) n'+1=(M:Int):=by omega
 have hMb:M<4294967292:=by omega
 have hmk:=fun w=>zWa (max (n:Int) n'+1) M hMi (by omega) w
 have hfin:∀ (ss:Array Value),ss.size=M->(∀ j h,ss[j]'h=Value.int .u64 (zWb x y j))->Num (w.alloc (.cells ss 22)) (some ⟨w.heap.size,0,none⟩) M M (zWb x y):=fun ss h1 h2=>zZa (by omega) (zOd x y) (fun i hi=>zVn (n:=max n n') hx hy (fun i hi=>zx i (by omega)) (fun i hi=>zy i (by omega)) i (by omega)) h1 (fun j hj=>by rw [h2 j hj])
 have hw1:=fun (i:Nat) (ss:Array Value)=>zRb a n c i x (w.alloc (.cells ss 22)) (h.next (zEa w _))
 have hw2:=fun (i:Nat) (ss:Array Value)=>zRb a' n' c' i y (w.alloc (.cells ss 22)) (h'.next (zEa w _))
 have HM:Hid (max n n'+1=M):=hM
 have HZ:Hid ((arrOf (fun _=>0) M).size=M/\∀ j h,(arrOf (fun _=>0) M)[j]'h=Value.int .u64 0):=⟨arrOf_size _ _,fun j h=>zJa _ _ _ _⟩
 clear h h' zx zy hM hMi
 generalize arrOf (fun _=>0) M=zz at *
 go_enter Tryz.func48,Tryz.ntmps48
 go_wp2
 go_loopw [6,7,17,20] (fun c u7 i u20 wr=>∃ (k:Nat) (ss:Array Value),k<=M/\i=.int .i64 k/\c=.int .u64 (carryW x y k)/\ss.size=M/\(∀ j h,ss[j]'h=Value.int .u64 (if j<k then zWb x y j else 0))/\wr=w.alloc (.cells ss 22)) (fun _ _ i _ _=>M-(intOf i).toNat)
 case atStart=>exact ⟨0,zz,Nat.zero_le _,rfl,rfl,HZ.out.1,fun j h=>by rw [HZ.out.2 j h];simp,rfl⟩
 case round =>
  obtain ⟨k,ss,hk,rfl,rfl,hsz,hss,rfl⟩:=hrel
  have hcar:=zDd hx hy k
  by_cases h8:k<M
  ·have h8i:(k:Int)<M:=by omega
   have h8s:k<ss.size:=by omega
   have bx:=hx k
   have b_y:=hy k
   have hsk:ss[k]?=some (.int .u64 0):=by rw [Array.getElem?_eq_getElem h8s,hss k h8s,if_neg (by omega)]
   have hadd:=fun w=>zKu (x k) (y k) (carryW x y k) bx.1 b_y.1 hcar.1 hcar.2 w
   have hwa:=hw1 k ss
   have hwb:=hw2 k ss
   have HR:Hid (∀ (i:Nat) (h:i<(ss.setIfInBounds k (.int .u64 (zWb x y k))).size),(ss.setIfInBounds k (.int .u64 (zWb x y k)))[i]'h=Value.int .u64 (if i<k+1 then zWb x y i else 0)):=zKc hss
   clear hss hw1 hw2 hfin hmk hx hy
   go_wp2_with (first|(go_at_call_of 46 (Value.slice a n c);refine hwa.mono ?_;rintro e w' ⟨rfl,rfl⟩)|(go_at_call_of 46 (Value.slice a' n' c');refine hwb.mono ?_;rintro e w' ⟨rfl,rfl⟩))
   go_roundw
   case rel=>exact ⟨k+1,ss.setIfInBounds k (.int .u64 (zWb x y k)),by omega,by go_num,rfl,by simp [hsz],HR.out,rfl⟩
   case measure=>simp [intOf];omega
  ·obtain rfl:k=M:=by omega
   have hss':∀ j h,ss[j]'h=Value.int .u64 (zWb x y j):=by
    intro j h;rw [hss j h,if_pos (by omega)]
   have hT:=zMb _ _ _ _ _ (by omega) (hfin ss hsz hss')
   have hle:=zGa (zWb x y) k
   clear hss hss' hw1 hw2 hfin hmk hx hy
   go_wp2_with (go_at_call 44;refine hT.mono ?_;rintro e w1 ⟨g,cap,rfl,hN,hB⟩)
   go_ret
   exact ⟨g,_,cap,rfl,Nat.le_trans hle (Nat.le_of_eq HM.out.symm),hN,(zEa w _).trans (hB.mono (by simp)),zHa _ _⟩
theorem yKa (a a':Option Addr)(n c n' c':Nat)(x y:Nat->Int)(w:World)(hn:n<4000000000)(hn':n'<4000000000)(h:Num w a n c x)(h':Num w a' n' c' y) :
  Calls Tryz.prog 48 #[.slice a n c,.slice a' n' c'] w fun e w'=>∃ g k cap z,e=.returned (.slice (some ⟨g,0,none⟩) k cap)/\k<=max n n'+1/\Num w' (some ⟨g,0,none⟩) k cap z/\val z k=val x n+val y n'/\Below w.heap.size w w'/\sizeL z k=k:=by
 refine (yLa a a' n c n' c' x y w (by omega) (by omega) h h').mono fun e w' ⟨g,k,cap,e1,hk,hN,hB,ht⟩=>⟨g,k,cap,_,e1,hk,hN,?_,hB,ht⟩
 have e:=zAi (x:=x) (y:=y) (max n n'+1)
 rw [zPj h.2.2.1 h'.2.2.1 h.2.2.2.1 h'.2.2.2.1 (by omega) (by omega),zMa h.2.2.2.1 _ (by omega),zMa h'.2.2.2.1 _ (by omega),zMa hN.2.2.2.1 _ hk] at e
 omega
theorem nsubF (a a':Option Addr)(n c n' c':Nat)(x y:Nat->Int)(w:World)(hn:n<4000000000)(hn':n'<4000000000)(h:Num w a n c x)(h':Num w a' n' c' y)(hv:val y n'<=val x n) :
  Calls Tryz.prog 197 #[.slice a n c,.slice a' n' c'] w fun e w'=>∃ g k cap z,e=.returned (.tuple #[.slice (some ⟨g,0,none⟩) k cap,.int .i64 0])/\k<=sizeL x n/\Num w' (some ⟨g,0,none⟩) k cap z/\val z k=val x n-val y n'/\sizeL z k=k/\Below w.heap.size w w'/\w.heap.size<=g/\∀ i,w'.frozen? ⟨g,i,none⟩=false:=by
 have hc:=zTr a a' n c n' c' x y w (by omega) (by omega) h h'
 have hsg:0<=sgn (val x n) (val y n'):=by unfold sgn;rw [if_neg (by omega)];split<;>omega
 have hsb:=sgn_bd (val x n) (val y n')
 generalize sgn (val x n) (val y n')=sg at *
 have ht:=fun wr hN=>zFh a n c x wr (by omega) hN
 have hb':=fun wr hN=>zYa a' n' c' y wr (by omega) hN
 have hx:=h.2.2.1
 have hy:=h'.2.2.1
 have hle:=zGa x n
 have hle':=zGa y n'
 have hvx:=zOa (x:=x) n
 have hvy:=zOa (x:=y) n'
 have hss:sizeL y n'<=sizeL x n:=by
  rcases Nat.lt_or_ge (sizeL x n) (sizeL y n') with h1|h1
  ·have:=zQc hx hy h1 (zHa y n');omega
  ·exact h1
 have zx:=h.bare.2.2.2.1
 have zy:=h'.bare.2.2.2.1
 have HNb:Hid (Num w a' (sizeL y n') c' y):=h'.bare
 rw [← hvx,← hvy] at hv ⊢
 generalize sizeL x n=s at *
 generalize sizeL y n'=s' at *
 have hend:zGf x y s=0:=zIn hx hy (by rw [zMa zy s hss];exact hv)
 have HV:Hid (val (zFd x y) s=val x s-val y s'):=by
  show _=_
  have e:=zPi hx hy s
  rw [hend,zMa zy s hss] at e
  omega
 have HN:Hid (Num w a n c x):=h
 have HN':Hid (Num w a' n' c' y):=h'
 clear h h' hv hvx hvy zx
 go_enter Tryz.func197,Tryz.ntmps197
 go_wp2_with (go_at_call 164;refine hc.mono ?_;rintro e wC ⟨rfl,m,hwC⟩)
 have hBC:Below w.heap.size w wC:=by rw [← hwC];exact below_drewN (Below.refl _ _) m
 have hg:wC.heap.size=w.heap.size:=by rw [← hwC];rfl
 have h1:=ht wC (HN.out.next hBC)
 rw [hg] at h1
 go_wp2_with (go_at_call 64;refine h1.mono ?_;rintro e w1 ⟨rfl,hw1⟩)
 have hB1:Below w.heap.size wC w1:=by rw [← hw1];have:=zEa wC (.cells (arrOf x s) 22);rw [hg] at this;exact this
 have hO1:Own w.heap.size s x w1:=by rw [← hw1];have:=Own.new wC x s;rw [hg] at this;exact this
 have hBw1:=hBC.trans hB1
 have h2:=hb' w1 (HN'.out.next hBw1)
 clear hw1 h1 ht hb' hc hB1 hBC hwC hg
 go_wp2_with (go_at_call 63;refine h2.mono ?_;rintro e w2 ⟨rfl,rfl⟩)
 have hNb:=HNb.out.next hBw1
 have hA:zTi a' w.heap.size:=by
  intro p hp
  rcases HNb.out.2.2.2.2 with ⟨h,_⟩|⟨b,off,h,hb,_⟩
  ·rw [h] at hp;cases hp
  ·rw [h] at hp;cases hp;exact Nat.ne_of_lt hb
 clear h2 HNb HN HN'
 go_loopw [8,9,10,22,27] (fun bv u9 u10 i u27 wr=>∃ (j:Nat),j<=s'/\i=.int .i64 j/\bv=.int .u64 (zGf x y j)/\Own w.heap.size s (zMu x y j) wr/\Upd w.heap.size w1 wr) (fun _ _ _ i _ _=>s'-(intOf i).toNat)
 case atStart=>exact ⟨0,Nat.zero_le _,rfl,rfl,hO1.congr fun i _=>by unfold zMu;rw [if_neg (by omega)],Upd.refl _ _⟩
 case round =>
  clear hO1
  obtain ⟨j,hj,rfl,rfl,hO,hU⟩:=hrel
  have hbo:=zSf x y j
  by_cases hlt:j<s'
  ·have hji:(j:Int)<s':=by omega
   have hjm:(j:Int)<s:=by omega
   obtain ⟨b,off',rfl,hb,hc⟩:=(hU.num' hA hNb).cells (by omega)
   have hcj:=hc j hlt
   have hco:=hO.cell j (by omega)
   rw [zEv] at hco
   have hfo:=hO.frozen j
   have bx:=hx j
   have b_y:=hy j
   have hadd:=fun w=>zDt (x j) (y j) (zGf x y j) bx.1 b_y.1 (by omega) hbo.1 hbo.2 w
   have HO:Hid (Own w.heap.size s (zMu x y (j+1)) (wr.setCell ⟨w.heap.size,j,none⟩ (.int .u64 (zFd x y j)))):=(hO.set j _).congr fun i _=>zWn x y j i
   have HU:Hid (Upd w.heap.size w1 (wr.setCell ⟨w.heap.size,j,none⟩ (.int .u64 (zFd x y j)))):=hU.set j _
   clear hO hU hc hNb hA hx hy zy hend
   go_wp2
   go_roundw
   case rel=>exact ⟨j+1,by omega,by go_num,rfl,HO.out,HU.out⟩
   case measure=>simp [intOf];omega
  ·obtain rfl:j=s':=by omega
   have HO:Hid (Own w.heap.size s (zMu x y j) wr):=hO
   have HU:Hid (Upd w.heap.size w1 wr):=hU
   clear hO hU hNb hA
   go_wp2
   go_loopw [8,11,47] (fun bv i u47 wr=>∃ (q:Nat),j+q<=s/\i=.int .i64 ((j:Int)+q)/\bv=.int .u64 (zGf x y (j+q))/\Own w.heap.size s (zMu x y (j+q)) wr/\Upd w.heap.size w1 wr) (fun _ i _ _=>s-(intOf i).toNat)
   case atStart=>exact ⟨0,by omega,by go_num,rfl,HO.out,HU.out⟩
   case round =>
    clear HO HU
    obtain ⟨q,hq,rfl,rfl,hO,hU⟩:=hrel
    have hbo:=zSf x y (j+q)
    by_cases hb0:zGf x y (j+q)=0
    ·have hO2:Own w.heap.size s (zFd x y) wr:=hO.congr fun i hi=>by
      unfold zMu
      by_cases e:i<j+q
      ·rw [if_pos e]
      ·rw [if_neg e];exact ((zV0 hx zy (by omega) hb0 i (by omega)).2).symm
     have hN2:=hO2.num (zKe x y) 0 s s (by omega) (Nat.le_refl _) (by unfold maxLen;omega)
     have hbr:=zYa (some ⟨w.heap.size,0,none⟩) s s (segW (zFd x y) 0 s) wr (by omega) hN2
     have HN2:Hid (Num wr (some ⟨w.heap.size,0,none⟩) (sizeL (segW (zFd x y) 0 s) s) s (segW (zFd x y) 0 s)):=hN2.bare
     have HV2:Hid (val (segW (zFd x y) 0 s) (sizeL (segW (zFd x y) 0 s) s)=val x s-val y j):=by
      show _=_
      rw [zOa,zIa (x:=segW (zFd x y) 0 s) (y:=zFd x y) s fun i hi=>by rw [zUa _ 0 s i hi,Nat.zero_add],HV.out]
     have HS2:Hid (sizeL (segW (zFd x y) 0 s) (sizeL (segW (zFd x y) 0 s) s)=sizeL (segW (zFd x y) 0 s) s):=zHa _ _
     have HLE:Hid (sizeL (segW (zFd x y) 0 s) s<=s):=zGa _ _
     generalize segW (zFd x y) 0 s=z at *
     generalize sizeL z s=k at *
     have HF2:Hid (∀ i,wr.frozen? ⟨w.heap.size,i,none⟩=false):=fun i=>hO.frozen i
     have HB2:Hid (Below w.heap.size w wr):=hBw1.trans (hU.below (Nat.le_refl _))
     rw [hb0]
     clear hO hO2 hU hN2 hx hy zy hend HV
     go_wp2_with (go_at_call 63;refine hbr.mono ?_;rintro e w3 ⟨rfl,rfl⟩)
     go_ret2
     exact ⟨_,k,s,z,rfl,HLE.out,HN2.out,HV2.out,HS2.out,HB2.out,Nat.le_refl _,HF2.out⟩
    ·have hlt2:j+q<s:=by
      rcases Nat.lt_or_ge (j+q) s with h'|h'
      ·exact h'
      ·obtain e:j+q=s:=by omega
       rw [e] at hb0;exact absurd hend hb0
     have hpos:0<zGf x y (j+q):=by omega
     have hji:(j:Int)+q<s:=by omega
     have e1:((j:Int)+q).toNat=j+q:=by omega
     have hco:=hO.cell (j+q) hlt2
     rw [zEv] at hco
     have hfo:=hO.frozen (j+q)
     have bx:=hx (j+q)
     have hs:zFd x y (j+q)=(x (j+q)-zGf x y (j+q))%18446744073709551616:=by unfold zFd;rw [zy _ (by omega),Int.sub_zero]
     have HC:Hid (zGf x y (j+(q+1))=bor (x (j+q)) 0 (zGf x y (j+q))):=by
      show bor (x (j+q)) (y (j+q)) (zGf x y (j+q))=_
      rw [zy _ (by omega)]
     have hadd:=fun w=>zDt (x (j+q)) 0 (zGf x y (j+q)) bx.1 (by decide) (by decide) hbo.1 hbo.2 w
     have HO:Hid (Own w.heap.size s (zMu x y (j+(q+1))) (wr.setCell ⟨w.heap.size,j+q,none⟩ (.int .u64 (zFd x y (j+q))))):=(hO.set (j+q) _).congr fun i _=>zWn x y (j+q) i
     have HU:Hid (Upd w.heap.size w1 (wr.setCell ⟨w.heap.size,j+q,none⟩ (.int .u64 (zFd x y (j+q))))):=hU.set (j+q) _
     rw [hs] at HO HU
     clear hO hU hx hy zy hb0 hs hend
     go_wp2
     go_roundw
     case rel=>exact ⟨q+1,by omega,by go_num,by rw [HC.out],HO.out,HU.out⟩
     case measure=>simp [intOf];omega
end Go.Proofs.YtpabnhlfbjkmaaaGreatDoor
