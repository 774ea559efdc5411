/-
  Texts that the proof leans on.
-/
import Derived.Test.YtgknbdehlmlipaaGreatDoorJ2
import Derived.Test.YtgknbdehlmlipaaGreatDoorJ16
import Derived.Laws.IdiomCopy
import Derived.Laws.CopyRow
import Derived.Deep.WholeRow
import Derived.Test.YtgknbdehlmlipaaGreatDoorJ3
import Derived.Test.YtgknbdehlmlipaaGreatDoorJ15
import Derived.BigRegion
import Derived.Test.YtgknbdehlmlipaaGreatDoorJ13
import Derived.Test.YtgknbdehlmlipaaGreatDoorJ11
set_option maxHeartbeats 8000000
set_option linter.unusedVariables false
set_option linter.unusedSimpArgs false
set_option linter.unusedSectionVars false
set_option maxRecDepth 20000
namespace Go.Proofs.YtgknbdehlmlipaaGreatDoor
open Go.RowKit
theorem bare_any (a:Option Addr)(n c:Nat)(x:Nat->Int)(w:World)(hn:n<4294967296)(h:Num w a n c x) :
  CQ 103 #[.slice a n c] w (.slice a (sizeL x n) c):=by
 obtain ⟨h1,h2,h3,h4,h5⟩:=h
 rcases h5 with ⟨rfl,rfl⟩|⟨b,off,rfl,hbs,hc⟩
 ·obtain rfl:n=0:=by omega
  go_enter Tryz.func103,Tryz.ntmps103
  go_wp2
  go_loop [3] (fun t=>t=.int .i64 0) (fun t=>(intOf t).toNat)
  case atStart=>rfl
  case round =>
   subst hrel
   go_wp2
   go_ret
   exact ⟨rfl,rfl⟩
 ·unfold maxLen at h2
  clear h3 h4
  go_enter Tryz.func103,Tryz.ntmps103
  go_wp2
  go_loop [3] (fun t=>∃ k:Nat,k<=n/\sizeL x k=sizeL x n/\t=.int .i64 k) (fun t=>(intOf t).toNat)
  case atStart=>exact ⟨n,Nat.le_refl _,rfl,rfl⟩
  case round =>
   obtain ⟨k,hk,hs,rfl⟩:=hrel
   by_cases h0:k=0
   ·subst h0
    have HS:Hid (sizeL x n=0):=hs.symm
    clear hs hc
    go_wp2
    go_ret
    exact ⟨by rw [HS.out];rfl,rfl⟩
   ·obtain ⟨j,rfl⟩:∃ j,k=j+1:=⟨k-1,by omega⟩
    have hcj:=hc j (by omega)
    by_cases hzj:x j=0
    ·have HS:Hid (sizeL x j=sizeL x n):=by
      have:sizeL x (j+1)=sizeL x j:=by simp [sizeL,hzj]
      exact this.symm.trans hs
     clear hs hc
     go_wp2
     go_round
     case rel=>exact ⟨j,by omega,HS.out,by go_num⟩
     case measure=>simp [intOf]
    ·have HS:Hid (sizeL x n=j+1):=by
      have:sizeL x (j+1)=j+1:=by simp [sizeL,hzj]
      exact hs.symm.trans this
     clear hs hc
     go_wp2
     go_ret
     exact ⟨by rw [HS.out];rfl,rfl⟩
theorem sizeL_zero {x:Nat->Int}:∀ n,(∀ i,n<=i->x i=0)->∀ i,sizeL x n<=i->x i=0
 | 0,h,i,_=>h i (Nat.zero_le _)
 | n+1,h,i,hi=>by
  by_cases hz:x n=0
  ·rw [show sizeL x (n+1)=sizeL x n by simp [sizeL,hz]] at hi
   exact sizeL_zero n (fun j hj=>if e:j=n then e▸hz else h j (by omega)) i hi
  ·rw [show sizeL x (n+1)=n+1 by simp [sizeL,hz]] at hi
   exact h i hi
theorem sizeL_top {x:Nat->Int}:∀ n,0<sizeL x n->x (sizeL x n-1)≠0
 | 0,h=>by simp [sizeL] at h
 | n+1,h=>by
  by_cases hz:x n=0
  ·rw [show sizeL x (n+1)=sizeL x n by simp [sizeL,hz]] at h ⊢
   exact sizeL_top n h
  ·rw [show sizeL x (n+1)=n+1 by simp [sizeL,hz]]
   exact hz
theorem sizeL_sizeL (x:Nat->Int):∀ n,sizeL x (sizeL x n)=sizeL x n
 | 0=>rfl
 | n+1=>by
  by_cases hz:x n=0
  ·rw [show sizeL x (n+1)=sizeL x n by simp [sizeL,hz]];exact sizeL_sizeL x n
  ·have:sizeL x (n+1)=n+1:=by simp [sizeL,hz]
   rw [this];exact this
theorem Num.bare {w:World}{a:Option Addr}{n c:Nat}{x:Nat->Int}(h:Num w a n c x):Num w a (sizeL x n) c x:=by
 obtain ⟨h1,h2,h3,h4,h5⟩:=h
 have hle:=sizeL_le x n
 refine ⟨by omega,h2,h3,sizeL_zero n h4,?_⟩
 rcases h5 with ⟨h,h'⟩|⟨b,off,h,hb,hc⟩
 ·exact Or.inl ⟨h,h'⟩
 ·exact Or.inr ⟨b,off,h,hb,fun i hi=>hc i (by omega)⟩
section
attribute [local go_sem ↓] Go.wp_at_zero Go.wp_at_succ
attribute [local go_sem] setCell_drewN alloc_drewN
theorem limAdd4 (x y:Nat->Int)(w:World)(hx:Words x)(hy:Words y) :
  CB 86 #[.agg (arrOf x 4),.agg (arrOf y 4)] w (.tuple #[.agg (arrOf (sumW x y) 4),.int .u64 (carryW x y 4)]):=by
 have sx:(arrOf x 4).size=4:=arrOf_size x 4
 have sy:(arrOf y 4).size=4:=arrOf_size y 4
 have gx:=fun i h=>arrOf_get x 4 i h
 have gy:=fun i h=>arrOf_get y 4 i h
 generalize arrOf x 4=ax at *
 generalize arrOf y 4=ay at *
 go_enter Tryz.func86,Tryz.ntmps86
 go_wp2
 go_loopw [7,8,11,14] (fun c u8 i u14 wr=>∃ (k m:Nat) (ss:Array Value),k<=4/\i=.int .i64 k/\c=.int .u64 (carryW x y k)/\ss.size=4/\(∀ j h,ss[j]'h=Value.int .u64 (if j<k then sumW x y j else 0))/\wr=(((((w.alloc (.cells ax 23)).alloc (.cells ay 23)).alloc (.cells #[.int .u64 0,.int .u64 0,.int .u64 0,.int .u64 0] 23)).alloc (.cells ss 23)).drewN m)) (fun _ _ i _ _=>4-(intOf i).toNat)
 case atStart=>exact ⟨0,0,_,Nat.zero_le _,rfl,rfl,rfl,by intro j h;have h':j<4:=h;match j,h' with|0,_=>rfl|1,_=>rfl|2,_=>rfl|3,_=>rfl,rfl⟩
 case round =>
  obtain ⟨k,m,ss,hk,rfl,rfl,hsz,hss,rfl⟩:=hrel
  have hcar:=carryW_01 hx hy k
  by_cases h8:k<4
  ·have h8i:(k:Int)<4:=by omega
   have h8s:k<ss.size:=by omega
   have bx:=hx k
   have b_y:=hy k
   have hcx:(ax[k]'(by omega))=.int .u64 (x k):=gx k _
   have hcy:(ay[k]'(by omega))=.int .u64 (y k):=gy k _
   have hadd:=fun w=>add64 (x k) (y k) (carryW x y k) bx.1 b_y.1 hcar.1 hcar.2 w
   go_wp2
   go_region_held3 (fun w'=>w'.cell? ⟨w.heap.size,k,none⟩=some (.int .u64 (x k))/\w'.cell? ⟨w.heap.size+1,k,none⟩=some (.int .u64 (y k))) ((simp [go_sem,hcx,hcy,sx,sy,h8])) (fail)
   go_wp2
   go_roundw
   case rel=>exact ⟨k+1,m+1,ss.setIfInBounds k (.int .u64 (sumW x y k)),by omega,by go_num,rfl,by simp [hsz],set_next hss,rfl⟩
   case measure=>simp [intOf];omega
  ·obtain rfl:k=4:=by omega
   have hss':∀ j h,ss[j]'h=Value.int .u64 (sumW x y j):=by
    intro j h;rw [hss j h,if_pos (by omega)]
   clear hss
   go_wp2
   exact bodyPost_ret (v:=.tuple #[.agg (arrOf (sumW x y) 4),.int .u64 (carryW x y 4)]) (by simp [results,Tryz.results86,go_sem];rfl) rfl ⟨rfl,below_alloc4 _ _ _ _ _ _⟩
theorem limSub4 (x y:Nat->Int)(w:World)(hx:Words x)(hy:Words y) :
  CB 85 #[.agg (arrOf x 4),.agg (arrOf y 4)] w (.tuple #[.agg (arrOf (difW x y) 4),.int .u64 (borW x y 4)]):=by
 have sx:(arrOf x 4).size=4:=arrOf_size x 4
 have sy:(arrOf y 4).size=4:=arrOf_size y 4
 have gx:=fun i h=>arrOf_get x 4 i h
 have gy:=fun i h=>arrOf_get y 4 i h
 generalize arrOf x 4=ax at *
 generalize arrOf y 4=ay at *
 go_enter Tryz.func85,Tryz.ntmps85
 go_wp2
 go_loopw [7,8,11,14] (fun c u8 i u14 wr=>∃ (k m:Nat) (ss:Array Value),k<=4/\i=.int .i64 k/\c=.int .u64 (borW x y k)/\ss.size=4/\(∀ j h,ss[j]'h=Value.int .u64 (if j<k then difW x y j else 0))/\wr=(((((w.alloc (.cells ax 23)).alloc (.cells ay 23)).alloc (.cells #[.int .u64 0,.int .u64 0,.int .u64 0,.int .u64 0] 23)).alloc (.cells ss 23)).drewN m)) (fun _ _ i _ _=>4-(intOf i).toNat)
 case atStart=>exact ⟨0,0,_,Nat.zero_le _,rfl,rfl,rfl,by intro j h;have h':j<4:=h;match j,h' with|0,_=>rfl|1,_=>rfl|2,_=>rfl|3,_=>rfl,rfl⟩
 case round =>
  obtain ⟨k,m,ss,hk,rfl,rfl,hsz,hss,rfl⟩:=hrel
  have hcar:=borW_01 x y k
  by_cases h8:k<4
  ·have h8i:(k:Int)<4:=by omega
   have h8s:k<ss.size:=by omega
   have bx:=hx k
   have b_y:=hy k
   have hcx:(ax[k]'(by omega))=.int .u64 (x k):=gx k _
   have hcy:(ay[k]'(by omega))=.int .u64 (y k):=gy k _
   have hadd:=fun w=>sub64 (x k) (y k) (borW x y k) bx.1 b_y.1 (by omega) hcar.1 hcar.2 w
   go_wp2
   go_region_held3 (fun w'=>w'.cell? ⟨w.heap.size,k,none⟩=some (.int .u64 (x k))/\w'.cell? ⟨w.heap.size+1,k,none⟩=some (.int .u64 (y k))) ((simp [go_sem,hcx,hcy,sx,sy,h8])) (fail)
   go_wp2
   go_roundw
   case rel=>exact ⟨k+1,m+1,ss.setIfInBounds k (.int .u64 (difW x y k)),by omega,by go_num,rfl,by simp [hsz],set_next hss,rfl⟩
   case measure=>simp [intOf];omega
  ·obtain rfl:k=4:=by omega
   have hss':∀ j h,ss[j]'h=Value.int .u64 (difW x y j):=by
    intro j h;rw [hss j h,if_pos (by omega)]
   clear hss
   go_wp2
   exact bodyPost_ret (v:=.tuple #[.agg (arrOf (difW x y) 4),.int .u64 (borW x y 4)]) (by simp [results,Tryz.results85,go_sem];rfl) rfl ⟨rfl,below_alloc4 _ _ _ _ _ _⟩
def shlL (x:Nat->Int)(q r j:Nat):Int:=if q<=j then (if q<j then bits BinOp.or IntKind.u64 (IntKind.u64.wrap (x (j-q)*2^r)) (x (j-q-1)/2^(64-r)) else IntKind.u64.wrap (x (j-q)*2^r)) else 0
def shrL (x:Nat->Int)(q r n j:Nat):Int:=if q+j<n then (if q+j+1<n then bits BinOp.or IntKind.u64 (x (q+j)/2^r) (IntKind.u64.wrap (x (q+j+1)*2^(64-r))) else x (q+j)/2^r) else 0
theorem limShl4 (x:Nat->Int)(n:Int)(q r:Nat)(w:World)(hx:Words x)(hn:1<=n)(hn2:n<=9223372036854775807)(hq:n/64=q)(hr:n%64=r)(hr6:r<64) :
  CB 150 #[.agg (arrOf x 4),.int .i64 n] w (.agg (arrOf (shlL x q r) 4)):=by
 have sx:(arrOf x 4).size=4:=arrOf_size x 4
 have gx:=fun i h=>arrOf_get x 4 i h
 generalize arrOf x 4=ax at *
 have hn1:¬ n<1:=by omega
 go_enter Tryz.func150,Tryz.ntmps150
 go_wp2
 go_loopw [8] (fun i wr=>∃ (j m:Nat) (ss:Array Value),q<=j/\i=.int .i64 j/\(j<=4∨j=q)/\ss.size=4/\(∀ k h,ss[k]'h=Value.int .u64 (if k<j then shlL x q r k else 0))/\wr=((((w.alloc (.cells ax 23)).alloc (.cells #[.int .u64 0,.int .u64 0,.int .u64 0,.int .u64 0] 23)).alloc (.cells ss 23)).drewN m)) (fun i _=>4-(intOf i).toNat)
 case atStart=>exact ⟨q,0,_,Nat.le_refl _,rfl,Or.inr rfl,rfl,by intro k h;have h':k<4:=h;by_cases e:k<q;(rw [if_pos e];unfold shlL;rw [if_neg (by omega)];match k,h' with|0,_=>rfl|1,_=>rfl|2,_=>rfl|3,_=>rfl);(rw [if_neg e];match k,h' with|0,_=>rfl|1,_=>rfl|2,_=>rfl|3,_=>rfl),rfl⟩
 case round =>
  obtain ⟨j,m,ss,hqj,rfl,hj,hsz,hss,rfl⟩:=hrel
  by_cases h8:j<4
  ·have h8i:(j:Int)<4:=by omega
   have h8s:j<ss.size:=by omega
   have hqi:(q:Int)<=j:=by omega
   have e1:((j:Int)-q).toNat=j-q:=by omega
   have hlt:(j:Int)-q<4:=by omega
   have hge:0<=(j:Int)-q:=by omega
   have bx:=hx (j-q)
   have hcx:ax[j-q]?=some (.int .u64 (x (j-q))):=by rw [Array.getElem?_eq_getElem (by omega),gx _ (by omega)]
   have hsk:ss[j]?=some (.int .u64 0):=by rw [Array.getElem?_eq_getElem h8s,hss j h8s,if_neg (by omega)]
   have HR:Hid (∀ (i:Nat) (h:i<(ss.setIfInBounds j (.int .u64 (shlL x q r j))).size),(ss.setIfInBounds j (.int .u64 (shlL x q r j)))[i]'h=Value.int .u64 (if i<j+1 then shlL x q r i else 0)):=set_next hss
   by_cases hqq:q<j
   ·have hqq':(q:Int)<j:=by omega
    have e2:((j:Int)-q-1).toNat=j-q-1:=by omega
    have hlt2:(j:Int)-q-1<4:=by omega
    have hge2:0<=(j:Int)-q-1:=by omega
    have bx2:=hx (j-q-1)
    have hcx2:ax[j-q-1]?=some (.int .u64 (x (j-q-1))):=by rw [Array.getElem?_eq_getElem (by omega),gx _ (by omega)]
    have HV:Hid (shlL x q r j=bits BinOp.or IntKind.u64 (IntKind.u64.wrap (x (j-q)*2^r)) (x (j-q-1)/2^(64-r))):=by show _=_;unfold shlL;rw [if_pos hqj,if_pos hqq]
    clear hss gx hx
    go_wp2
    go_region
    go_wp2
    go_roundw
    case rel=>refine ⟨j+1,m+1,ss.setIfInBounds j (.int .u64 (shlL x q r j)),by omega,by go_num,Or.inl (by omega),by simp [hsz],HR.out,?_⟩;rw [HV.out]
    case measure=>simp [intOf];omega
   ·have hqq':¬ (q:Int)<j:=by omega
    have HV:Hid (shlL x q r j=IntKind.u64.wrap (x (j-q)*2^r)):=by show _=_;unfold shlL;rw [if_pos hqj,if_neg hqq]
    clear hss gx hx
    go_wp2
    go_roundw
    case rel=>refine ⟨j+1,m,ss.setIfInBounds j (.int .u64 (shlL x q r j)),by omega,by go_num,Or.inl (by omega),by simp [hsz],HR.out,?_⟩;rw [HV.out]
    case measure=>simp [intOf];omega
  ·have h8i:¬ (j:Int)<4:=by omega
   have hss':∀ k h,ss[k]'h=Value.int .u64 (shlL x q r k):=by
    intro k h;rw [hss k h,if_pos (by omega)]
   clear hss gx
   go_wp2
   exact bodyPost_ret (v:=.agg (arrOf (shlL x q r) 4)) (by simp [results,Tryz.results150,go_sem];rfl) rfl ⟨rfl,below_alloc3 _ _ _ _ _⟩
theorem limShl4_0 (x:Nat->Int)(n:Int)(w:World)(hn:n<1) :
  CB 150 #[.agg (arrOf x 4),.int .i64 n] w (.agg (arrOf x 4)):=by
 have sx:(arrOf x 4).size=4:=arrOf_size x 4
 have gx:=fun i h=>arrOf_get x 4 i h
 have hl:arrOf x 4=#[.int .u64 (x 0),.int .u64 (x 1),.int .u64 (x 2),.int .u64 (x 3)]:=rfl
 rw [hl]
 rw [hl] at sx gx
 clear gx sx
 go_enter Tryz.func150,Tryz.ntmps150
 go_wp2
 exact bodyPost_ret (v:=.agg #[.int .u64 (x 0),.int .u64 (x 1),.int .u64 (x 2),.int .u64 (x 3)]) (by simp [results,Tryz.results150,go_sem]) rfl ⟨rfl,((Below.refl _ _).alloc (Nat.le_refl _) _).alloc (by simp) _⟩
theorem limShr4 (x:Nat->Int)(n:Int)(q r:Nat)(w:World)(hx:Words x)(hn:1<=n)(hn2:n<=9223372036854775807)(hq:n/64=q)(hr:n%64=r)(hr6:r<64) :
  CB 149 #[.agg (arrOf x 4),.int .i64 n] w (.agg (arrOf (shrL x q r 4) 4)):=by
 have sx:(arrOf x 4).size=4:=arrOf_size x 4
 have gx:=fun i h=>arrOf_get x 4 i h
 generalize arrOf x 4=ax at *
 have hn1:¬ n<1:=by omega
 go_enter Tryz.func149,Tryz.ntmps149
 go_wp2
 go_loopw [8] (fun i wr=>∃ (j m:Nat) (ss:Array Value),q<=j/\i=.int .i64 j/\(j<=4∨j=q)/\ss.size=4/\(∀ k h,ss[k]'h=Value.int .u64 (if k<j-q then shrL x q r 4 k else 0))/\wr=((((w.alloc (.cells ax 23)).alloc (.cells #[.int .u64 0,.int .u64 0,.int .u64 0,.int .u64 0] 23)).alloc (.cells ss 23)).drewN m)) (fun i _=>4-(intOf i).toNat)
 case atStart=>exact ⟨q,0,_,Nat.le_refl _,rfl,Or.inr rfl,rfl,by intro k h;have h':k<4:=h;rw [if_neg (by omega)];match k,h' with|0,_=>rfl|1,_=>rfl|2,_=>rfl|3,_=>rfl,rfl⟩
 case round =>
  obtain ⟨j,m,ss,hqj,rfl,hj,hsz,hss,rfl⟩:=hrel
  by_cases h8:j<4
  ·have h8i:(j:Int)<4:=by omega
   have h8s:j-q<ss.size:=by omega
   have hqi:(q:Int)<=j:=by omega
   have e1:((j:Int)-q).toNat=j-q:=by omega
   have hlt:(j:Int)-q<4:=by omega
   have hge:0<=(j:Int)-q:=by omega
   have bx:=hx j
   have hcx:ax[j]?=some (.int .u64 (x j)):=by rw [Array.getElem?_eq_getElem (by omega),gx _ (by omega)]
   have hcx':∀ h,ax[j]'h=.int .u64 (x j):=fun h=>gx j h
   have hsk:ss[j-q]?=some (.int .u64 0):=by rw [Array.getElem?_eq_getElem h8s,hss _ h8s,if_neg (by omega)]
   have HR0:∀ (i:Nat) (h:i<(ss.setIfInBounds (j-q) (.int .u64 (shrL x q r 4 (j-q)))).size),(ss.setIfInBounds (j-q) (.int .u64 (shrL x q r 4 (j-q))))[i]'h=Value.int .u64 (if i<(j-q)+1 then shrL x q r 4 i else 0):=set_next hss
   have HR:Hid (∀ (i:Nat) (h:i<(ss.setIfInBounds (j-q) (.int .u64 (shrL x q r 4 (j-q)))).size),(ss.setIfInBounds (j-q) (.int .u64 (shrL x q r 4 (j-q))))[i]'h=Value.int .u64 (if i<j+1-q then shrL x q r 4 i else 0)):=by
    intro i h;rw [HR0 i h,show j-q+1=j+1-q by omega]
   clear HR0
   have ejq:q+(j-q)=j:=by omega
   have hget:∀ v:Value,(ss.setIfInBounds (j-q) v)[j-q]?=some v:=fun v=>by rw [Array.getElem?_setIfInBounds_self_of_lt h8s]
   by_cases hqq:j+1<4
   ·have hqq':(j:Int)+1<4:=by omega
    have bx2:=hx (j+1)
    have e2:((j:Int)+1).toNat=j+1:=by omega
    have hcx2:ax[j+1]?=some (.int .u64 (x (j+1))):=by rw [Array.getElem?_eq_getElem (by omega),gx _ (by omega)]
    have hcx2':∀ h,ax[j+1]'h=.int .u64 (x (j+1)):=fun h=>gx (j+1) h
    have HV:Hid (shrL x q r 4 (j-q)=bits BinOp.or IntKind.u64 (x j/2^r) (IntKind.u64.wrap (x (j+1)*2^(64-r)))):=by show _=_;unfold shrL;rw [ejq,if_pos h8,if_pos hqq]
    clear hss gx hx ejq
    go_wp2
    go_region
    go_wp2
    go_roundw
    case rel=>refine ⟨j+1,m+1,ss.setIfInBounds (j-q) (.int .u64 (shrL x q r 4 (j-q))),by omega,by go_num,Or.inl (by omega),by simp [hsz],HR.out,?_⟩;rw [HV.out]
    case measure=>simp [intOf];omega
   ·have hqq':¬ (j:Int)+1<4:=by omega
    have HV:Hid (shrL x q r 4 (j-q)=x j/2^r):=by show _=_;unfold shrL;rw [ejq,if_pos h8,if_neg hqq]
    clear hss gx hx ejq
    go_wp2
    go_roundw
    case rel=>refine ⟨j+1,m,ss.setIfInBounds (j-q) (.int .u64 (shrL x q r 4 (j-q))),by omega,by go_num,Or.inl (by omega),by simp [hsz],HR.out,?_⟩;rw [HV.out]
    case measure=>simp [intOf];omega
  ·have h8i:¬ (j:Int)<4:=by omega
   have hss':∀ k h,ss[k]'h=Value.int .u64 (shrL x q r 4 k):=by
    intro k h;rw [hss k h]
    split
    ·rfl
    ·unfold shrL;rw [if_neg (by omega)]
   clear hss gx
   go_wp2
   exact bodyPost_ret (v:=.agg (arrOf (shrL x q r 4) 4)) (by simp [results,Tryz.results149,go_sem];rfl) rfl ⟨rfl,below_alloc3 _ _ _ _ _⟩
theorem limShr4_0 (x:Nat->Int)(n:Int)(w:World)(hn:n<1) :
  CB 149 #[.agg (arrOf x 4),.int .i64 n] w (.agg (arrOf x 4)):=by
 have sx:(arrOf x 4).size=4:=arrOf_size x 4
 have gx:=fun i h=>arrOf_get x 4 i h
 have hl:arrOf x 4=#[.int .u64 (x 0),.int .u64 (x 1),.int .u64 (x 2),.int .u64 (x 3)]:=rfl
 rw [hl]
 rw [hl] at sx gx
 clear gx sx
 go_enter Tryz.func149,Tryz.ntmps149
 go_wp2
 exact bodyPost_ret (v:=.agg #[.int .u64 (x 0),.int .u64 (x 1),.int .u64 (x 2),.int .u64 (x 3)]) (by simp [results,Tryz.results149,go_sem]) rfl ⟨rfl,((Below.refl _ _).alloc (Nat.le_refl _) _).alloc (by simp) _⟩
theorem lenL_succ (x:Nat->Int)(n:Nat):lenL x (n+1)=if x n=0 then lenL x n else 64*(n:Int)+Lib.bitLen (x n).toNat:=by
 by_cases h:x n=0
 ·simp [lenL,sizeL,h]
 ·simp [lenL,sizeL,h];omega
theorem limLen4 (cs:Array Value)(x:Nat->Int)(w:World)(hx:∀ i,0<=x i/\x i<=18446744073709551615)(hsz:cs.size=4)(hc:∀ i,i<4->cs[i]?=some (.int .u64 (x i))) :
  Calls Tryz.prog 143 #[.agg cs] w fun e w'=>e=.returned (.int .i64 (lenL x 4))/\w'=w.alloc (.cells cs 23):=by
 go_enter Tryz.func143,Tryz.ntmps143
 go_wp2
 go_loop [3] (fun t=>∃ k:Nat,k<=4/\lenL x k=lenL x 4/\t=.int .i64 ((k:Int)-1)) (fun t=>(intOf t+1).toNat)
 case atStart=>exact ⟨4,Nat.le_refl _,rfl,rfl⟩
 case round =>
  obtain ⟨k,hk,hs,rfl⟩:=hrel
  by_cases h0:k=0
  ·subst h0
   have HS:Hid (lenL x 4=0):=hs.symm
   clear hs
   go_wp2
   go_ret
   exact ⟨ret_int HS.out.symm,rfl⟩
  ·obtain ⟨j,rfl⟩:∃ j,k=j+1:=⟨k-1,by omega⟩
   have hcj:=hc j (by omega)
   have hb:=hx j
   have hbl:=bitLen64 (x j).toNat
   have hj8:(j:Int)<4:=by omega
   have ej:((j+1:Nat):Int)-1=j:=by omega
   rw [ej]
   by_cases hz:x j=0
   ·have HS:Hid (lenL x j=lenL x 4):=by
     have:=lenL_succ x j
     rw [if_pos hz] at this
     exact this.symm.trans hs
    clear hs hc hx
    go_wp2
    go_round
    case rel=>exact ⟨j,by omega,HS.out,by go_num⟩
    case measure=>simp [intOf]
   ·have HS:Hid (64*(j:Int)+Lib.bitLen (x j).toNat=lenL x 4):=by
     have:=lenL_succ x j
     rw [if_neg hz] at this
     exact this.symm.trans hs
    have hcl:=Tryz.bits_Len64 (x j) (w.alloc (.cells cs 23)) hb.1 hb.2
    clear hs hc hx
    generalize Lib.bitLen (x j).toNat=L at *
    go_wp2_with (go_at_call 58;refine hcl.mono ?_;rintro e w' ⟨rfl,rfl⟩)
    go_ret
    exact ⟨ret_int (by rw [← HS.out];omega),rfl⟩
def bitV (v n:Int):Int:=bits BinOp.and IntKind.u64 (v/2^(n%64).toNat) 1
theorem limBit4 (x:Nat->Int)(n:Int)(w:World)(hx:Words x)(h0:0<=n)(h1:n<256) :
  CB 148 #[.agg (arrOf x 4),.int .i64 n] w (.int .u64 (bitV (x (n/64).toNat) n)):=by
 have hsz:(arrOf x 4).size=4:=arrOf_size x 4
 have hc:∀ h,(arrOf x 4)[(n/64).toNat]'h=.int .u64 (x (n/64).toNat):=fun h=>arrOf_get x 4 _ h
 have hb:=hx (n/64).toNat
 generalize arrOf x 4=cs at *
 generalize hv:x (n/64).toNat=v at *
 clear hv
 have hj:n/64<4:=by omega
 have hj0:0<=n/64:=by omega
 have hm:n%64<64:=by omega
 have hm0:0<=n%64:=by omega
 go_enter Tryz.func148,Tryz.ntmps148
 go_wp2
 go_ret
 exact ⟨rfl,(Below.refl _ _).alloc (Nat.le_refl _) _⟩
theorem len4 (x:Nat->Int)(w:World)(hx:Words x):CB 143 #[.agg (arrOf x 4)] w (.int .i64 (lenL x 4)) :=
 (limLen4 (arrOf x 4) x w hx (by simp) (fun i h=>arrOf_get? x 4 i h)).mono fun _ _ ⟨h1,h2⟩=>⟨h1,by rw [h2];exact (Below.refl _ _).alloc (Nat.le_refl _) _⟩
def shlA (x:Nat->Int)(n:Int)(j:Nat):Int:=if n<1 then x j else shlL x (n/64).toNat (n%64).toNat j
def shrA (x:Nat->Int)(n:Int)(N j:Nat):Int:=if n<1 then x j else shrL x (n/64).toNat (n%64).toNat N j
theorem lowW_lt {x:Nat->Int}{N i:Nat}(h:i<N):lowW x N i=x i:=by unfold lowW;rw [if_pos h]
theorem lowW_ge {x:Nat->Int}{N i:Nat}(h:N<=i):lowW x N i=0:=by unfold lowW;rw [if_neg (by omega)]
theorem div64_zero (a:Int)(h:0<=a/\a<=18446744073709551615):a/2^(64-0)=0:=by
 have e:(2:Int)^(64-0)=18446744073709551616:=by decide
 rw [e];omega
theorem wrap64_zero (a:Int):IntKind.u64.wrap (a*2^(64-0))=0:=by
 have e:(2:Int)^(64-0)=18446744073709551616:=by decide
 rw [e]
 simp only [IntKind.wrap,IntKind.bits,IntKind.signed]
 simp
theorem shlL_fin {x:Nat->Int}(hx:Words x){N:Nat}(q r:Nat):lowW (shlL x q r) N=lowW (finL (lowW x N) q r) N:=by
 funext j
 by_cases hj:j<N
 ·rw [lowW_lt hj,lowW_lt hj]
  unfold shlL finL
  by_cases hq:q<=j
  ·rw [if_pos hq,if_pos hq,lowW_lt (x:=x) (N:=N) (i:=j-q) (by omega)]
   by_cases h:q<j
   ·rw [if_pos h]
    have e:lowp (lowW x N) q r j=x (j-q-1)/2^(64-r):=by
     unfold lowp
     rw [lowW_lt (x:=x) (N:=N) (i:=j-q-1) (by omega)]
     by_cases hr:0<r
     ·rw [if_pos ⟨by omega,hr⟩]
     ·have hr0:r=0:=by omega
      subst hr0
      rw [if_neg (by omega),div64_zero _ (hx _)]
    rw [e]
    exact orW_comm _ _ (wrap_word _) (div_word _ _ (hx _))
   ·rw [if_neg h]
    have e:lowp (lowW x N) q r j=0:=by unfold lowp;rw [if_neg (by omega)]
    rw [e,zero_orW _ (wrap_word _)]
  ·rw [if_neg hq,if_neg hq]
 ·rw [lowW_ge (by omega),lowW_ge (by omega)]
theorem shrL_fin {x:Nat->Int}(hx:Words x){N:Nat}(q r:Nat):lowW (shrL x q r N) N=shrW (lowW x N) q r:=by
 funext j
 by_cases hj:j<N
 ·rw [lowW_lt hj]
  by_cases hq:q+j<N
  ·unfold shrL shrW
   rw [if_pos hq,lowW_lt hq]
   by_cases hr:r=0
   ·subst hr
    rw [if_pos rfl]
    have e:x (q+j)/2^0=x (q+j):=by simp
    rw [e,wrap64_zero]
    by_cases h:q+j+1<N
    ·rw [if_pos h];exact orW_zero _ (hx _)
    ·rw [if_neg h]
   ·rw [if_neg hr]
    by_cases h:q+j+1<N
    ·rw [if_pos h,lowW_lt h];rfl
    ·rw [if_neg h,lowW_ge (x:=x) (N:=N) (i:=q+j+1) (by omega),Int.zero_mul]
     rw [show IntKind.u64.wrap 0=0 by decide,orW_zero _ (div_word _ _ (hx _))]
  ·rw [shrW_zero (n:=N) (fun i hi=>lowW_ge hi) q r j (by omega)]
   unfold shrL;rw [if_neg hq]
 ·rw [lowW_ge (by omega),shrW_zero (n:=N) (fun i hi=>lowW_ge hi) q r j (by omega)]
theorem shlA_words {x:Nat->Int}(hx:Words x)(n:Int):Words (shlA x n):=fun j=>by
 unfold shlA;split
 ·exact hx j
 ·unfold shlL;split
  ·split
   ·exact orW_word _ _ (wrap_word _) (div_word _ _ (hx _))
   ·exact wrap_word _
  ·decide
theorem shrA_words {x:Nat->Int}(hx:Words x)(n:Int)(N:Nat):Words (shrA x n N):=fun j=>by
 unfold shrA;split
 ·exact hx j
 ·unfold shrL;split
  ·split
   ·exact orW_word _ _ (div_word _ _ (hx _)) (wrap_word _)
   ·exact div_word _ _ (hx _)
  ·decide
theorem shlA4 (x:Nat->Int)(n:Int)(w:World)(hx:Words x)(hn2:n<=9223372036854775807) :
  CB 150 #[.agg (arrOf x 4),.int .i64 n] w (.agg (arrOf (shlA x n) 4)):=by
 by_cases h1:n<1
 ·have e:shlA x n=x:=by funext j;unfold shlA;rw [if_pos h1]
  rw [e];exact limShl4_0 x n w h1
 ·have e:shlA x n=shlL x (n/64).toNat (n%64).toNat:=by funext j;unfold shlA;rw [if_neg h1]
  rw [e];exact limShl4 x n _ _ w hx (by omega) hn2 (by omega) (by omega) (by omega)
theorem shrA4 (x:Nat->Int)(n:Int)(w:World)(hx:Words x)(hn2:n<=9223372036854775807) :
  CB 149 #[.agg (arrOf x 4),.int .i64 n] w (.agg (arrOf (shrA x n 4) 4)):=by
 by_cases h1:n<1
 ·have e:shrA x n 4=x:=by funext j;unfold shrA;rw [if_pos h1]
  rw [e];exact limShr4_0 x n w h1
 ·have e:shrA x n 4=shrL x (n/64).toNat (n%64).toNat 4:=by funext j;unfold shrA;rw [if_neg h1]
  rw [e];exact limShr4 x n _ _ w hx (by omega) hn2 (by omega) (by omega) (by omega)
end
def Own (g N:Nat)(x:Nat->Int)(w:World):Prop:=w.heap[g]?=some (.cells (arrOf x N) 22)
structure Upd (g:Nat) (w w':World):Prop where
 os:w'.os=w.os
 tape:w'.tape=w.tape
 output:w'.output=w.output
 size:w'.heap.size=w.heap.size
 block:∀ k,k≠g->w'.heap[k]?=w.heap[k]?
theorem Upd.refl (g:Nat)(w:World):Upd g w w:=⟨rfl,rfl,rfl,rfl,fun _ _=>rfl⟩
theorem Upd.trans {g:Nat}{a b c:World}(h:Upd g a b)(k:Upd g b c):Upd g a c :=
 ⟨k.os.trans h.os,k.tape.trans h.tape,k.output.trans h.output,k.size.trans h.size,fun i hi=>(k.block i hi).trans (h.block i hi)⟩
theorem Upd.drewN {g:Nat}{a b:World}(h:Upd g a b)(m:Nat):Upd g a (b.drewN m):=⟨h.os,h.tape,h.output,h.size,h.block⟩
theorem Upd.drew {g:Nat}{a b:World}(h:Upd g a b):Upd g a b.drew:=⟨h.os,h.tape,h.output,h.size,h.block⟩
theorem Upd.set {g:Nat}{a b:World}(h:Upd g a b)(i:Nat)(v:Value):Upd g a (b.setCell ⟨g,i,none⟩ v) :=
 h.trans ⟨rfl,rfl,rfl,by simp [World.setCell],fun k hk=>Below.heap_setCell _ _ _ _ hk⟩
theorem Upd.below {g B:Nat}{w w':World}(h:Upd g w w')(hB:B<=g):Below B w w':=⟨h.os,h.tape,h.output,Nat.le_of_eq h.size.symm,fun k hk=>h.block k (by omega)⟩
theorem Upd.num {g:Nat}{w w':World}{b off n c:Nat}{x:Nat->Int}(h:Upd g w w')(hb:b≠g)(hN:Num w (some ⟨b,off,none⟩) n c x):Num w' (some ⟨b,off,none⟩) n c x:=by
 obtain ⟨h1,h2,h3,h4,h5⟩:=hN
 refine ⟨h1,h2,h3,h4,?_⟩
 rcases h5 with ⟨h5,_⟩|⟨b',off',h6,h7,h8⟩
 ·cases h5
 ·cases h6
  exact Or.inr ⟨b,off,rfl,by rw [h.size];exact h7,fun i hi=>(World.cell?_of_block (w:=w) (a:=⟨b,off+i,none⟩) (h.block b hb)).trans (h8 i hi)⟩
def Apart (a:Option Addr)(g:Nat):Prop:=∀ p,a=some p->p.block≠g
theorem Upd.num' {g:Nat}{w w':World}{a:Option Addr}{n c:Nat}{x:Nat->Int}(h:Upd g w w')(hb:Apart a g)(hN:Num w a n c x):Num w' a n c x:=by
 have hN':=hN
 obtain ⟨h1,h2,h3,h4,h5⟩:=hN'
 rcases h5 with ⟨rfl,rfl⟩|⟨b',off',rfl,h7,h8⟩
 ·exact ⟨h1,h2,h3,h4,Or.inl ⟨rfl,rfl⟩⟩
 ·exact h.num (hb _ rfl) hN
theorem Upd.own {g g' N:Nat}{w w':World}{x:Nat->Int}(h:Upd g w w')(hb:g'≠g)(hN:Own g' N x w):Own g' N x w':=(h.block g' hb).trans hN
theorem Below.own {B g N:Nat}{w w':World}{x:Nat->Int}(h:Below B w w')(hb:g<B)(hN:Own g N x w):Own g N x w':=(h.block g hb).trans hN
theorem Own.lt {g N:Nat}{x:Nat->Int}{w:World}(h:Own g N x w):g<w.heap.size:=by
 rcases Nat.lt_or_ge g w.heap.size with h'|h'
 ·exact h'
 ·unfold Own at h;rw [Array.getElem?_eq_none h'] at h;cases h
theorem Own.cell {g N:Nat}{x:Nat->Int}{w:World}(h:Own g N x w)(i:Nat)(hi:i<N):w.cell? ⟨g,i,none⟩=some (.int .u64 (x i)):=by
 unfold World.cell?
 have hh:w.heap[g]?=some (.cells (arrOf x N) 22):=h
 simp [hh,arrOf_get? x N i hi]
theorem Own.frozen {g N:Nat}{x:Nat->Int}{w:World}(h:Own g N x w)(i:Nat):w.frozen? ⟨g,i,none⟩=false:=by
 unfold World.frozen?
 have hh:w.heap[g]?=some (.cells (arrOf x N) 22):=h
 simp [hh]
theorem Own.set {g N:Nat}{x:Nat->Int}{w:World}(h:Own g N x w)(i:Nat)(v:Int):Own g N (fun j=>if j=i then v else x j) (w.setCell ⟨g,i,none⟩ (.int .u64 v)):=by
 have hh:w.heap[g]?=some (.cells (arrOf x N) 22):=h
 show (w.setCell ⟨g,i,none⟩ (.int .u64 v)).heap[g]?=_
 simp only [World.setCell,Array.getElem?_modify,if_true,hh]
 simp [arrOf_set]
theorem Own.congr {g N:Nat}{x y:Nat->Int}{w:World}(h:Own g N x w)(e:∀ i,i<N->x i=y i):Own g N y w:=by
 unfold Own;rw [← arrOf_congr e];exact h
theorem Own.new (w:World)(x:Nat->Int)(N:Nat):Own w.heap.size N x (w.alloc (.cells (arrOf x N) 22)):=(MapKept.heap_alloc w _).1
def segW (x:Nat->Int)(off m i:Nat):Int:=if i<m then x (off+i) else 0
theorem segW_words {x:Nat->Int}(hx:Words x)(off m:Nat):Words (segW x off m):=fun i=>by unfold segW;split;exact hx _;decide
theorem segW_zero (x:Nat->Int)(off m i:Nat)(h:m<=i):segW x off m i=0:=by unfold segW;rw [if_neg (by omega)]
theorem segW_lt (x:Nat->Int)(off m i:Nat)(h:i<m):segW x off m i=x (off+i):=by unfold segW;rw [if_pos h]
theorem Own.num {g N:Nat}{x:Nat->Int}{w:World}(h:Own g N x w)(hx:Words x)(off m c:Nat)(hm:off+m<=N)(hc:m<=c)(hc2:c<=maxLen):Num w (some ⟨g,off,none⟩) m c (segW x off m) :=
 ⟨hc,hc2,segW_words hx off m,fun i hi=>segW_zero x off m i hi,Or.inr ⟨g,off,rfl,h.lt,fun i hi=>by rw [h.cell (off+i) (by omega),segW_lt x off m i hi]⟩⟩
theorem sizeL_congr {x y:Nat->Int}:∀ n,(∀ i,i<n->x i=y i)->sizeL x n=sizeL y n
 | 0,_=>rfl
 | n+1,h=>by simp only [sizeL];rw [h n (by omega),sizeL_congr n fun i hi=>h i (by omega)]
theorem val_bare {x:Nat->Int}(m:Nat):val x (sizeL x m)=val x m:=by
 have h1:=val_more (sizeL_zero m fun i hi=>segW_zero x 0 m i hi) m (sizeL_le _ m)
 have h2:sizeL (segW x 0 m) m=sizeL x m:=sizeL_congr m fun i hi=>by rw [segW_lt x 0 m i hi,Nat.zero_add]
 rw [h2] at h1
 have hle:=sizeL_le x m
 rw [val_congr (x:=segW x 0 m) (y:=x) m fun i hi=>by rw [segW_lt x 0 m i hi,Nat.zero_add],val_congr (x:=segW x 0 m) (y:=x) (sizeL x m) fun i hi=>by rw [segW_lt x 0 m i (by omega),Nat.zero_add]] at h1
 exact h1.symm
def sgn (a b:Int):Int:=if a<b then -1 else if b<a then 1 else 0
theorem sgn_neg (a b:Int):sgn b a=- sgn a b:=by unfold sgn;split<;>split<;>first|omega|(split<;>omega)|rfl
theorem sgn_add (a b t:Int):sgn (a+t) (b+t)=sgn a b:=by
 unfold sgn
 by_cases h:a<b
 ·rw [if_pos h,if_pos (by omega)]
 ·rw [if_neg h,if_neg (by omega)]
  by_cases h':b<a
  ·rw [if_pos h',if_pos (by omega)]
  ·rw [if_neg h',if_neg (by omega)]
theorem sgn_bd (a b:Int):-1<=sgn a b/\sgn a b<=1:=by unfold sgn;split<;>(try split)<;>omega
theorem drw2 (w:World)(m a b:Nat):∃ k,w.drewN k=((w.drewN m).drewN a).drewN b:=⟨m+a+b,by simp [World.drewN,Nat.add_assoc]⟩
theorem compare_u64 (a b:Int)(w:World):CQ 105 #[.int .u64 a,.int .u64 b] w (.int .i64 (sgn a b)):=by
 have hN:∀ (a:Int),CQ 146 #[.int .u64 a] w (.bool false):=by
  intro a
  go_enter Tryz.func146,Tryz.ntmps146
  go_wp2
  go_ret
  exact ⟨rfl,rfl⟩
 have ha:=hN a
 have hb:=hN b
 clear hN
 by_cases h1:a<b
 ·have HS:Hid (sgn a b=-1):=by show _=_;unfold sgn;rw [if_pos h1]
  go_enter Tryz.func105,Tryz.ntmps105
  go_wp2_with (go_at_call 146;first|(refine ha.mono ?_;rintro e w' ⟨rfl,rfl⟩)|(refine hb.mono ?_;rintro e w' ⟨rfl,rfl⟩))
  go_ret
  exact ⟨ret_int HS.out.symm,rfl⟩
 ·by_cases h2:b<a
  ·have HS:Hid (sgn a b=1):=by show _=_;unfold sgn;rw [if_neg h1,if_pos h2]
   go_enter Tryz.func105,Tryz.ntmps105
   go_wp2_with (go_at_call 146;first|(refine ha.mono ?_;rintro e w' ⟨rfl,rfl⟩)|(refine hb.mono ?_;rintro e w' ⟨rfl,rfl⟩))
   go_ret
   exact ⟨ret_int HS.out.symm,rfl⟩
  ·have HS:Hid (sgn a b=0):=by show _=_;unfold sgn;rw [if_neg h1,if_neg h2]
   go_enter Tryz.func105,Tryz.ntmps105
   go_wp2_with (go_at_call 146;first|(refine ha.mono ?_;rintro e w' ⟨rfl,rfl⟩)|(refine hb.mono ?_;rintro e w' ⟨rfl,rfl⟩))
   go_ret
   exact ⟨ret_int HS.out.symm,rfl⟩
theorem compare_int (a b:Int)(w:World):CQ 72 #[.int .i64 a,.int .i64 b] w (.int .i64 (sgn a b)):=by
 have hN:∀ (a:Int),CQ 104 #[.int .i64 a] w (.bool false):=by
  intro a
  go_enter Tryz.func104,Tryz.ntmps104
  go_wp2
  go_ret
  exact ⟨rfl,rfl⟩
 have ha:=hN a
 have hb:=hN b
 clear hN
 by_cases h1:a<b
 ·have HS:Hid (sgn a b=-1):=by show _=_;unfold sgn;rw [if_pos h1]
  go_enter Tryz.func72,Tryz.ntmps72
  go_wp2_with (go_at_call 104;first|(refine ha.mono ?_;rintro e w' ⟨rfl,rfl⟩)|(refine hb.mono ?_;rintro e w' ⟨rfl,rfl⟩))
  go_ret
  exact ⟨ret_int HS.out.symm,rfl⟩
 ·by_cases h2:b<a
  ·have HS:Hid (sgn a b=1):=by show _=_;unfold sgn;rw [if_neg h1,if_pos h2]
   go_enter Tryz.func72,Tryz.ntmps72
   go_wp2_with (go_at_call 104;first|(refine ha.mono ?_;rintro e w' ⟨rfl,rfl⟩)|(refine hb.mono ?_;rintro e w' ⟨rfl,rfl⟩))
   go_ret
   exact ⟨ret_int HS.out.symm,rfl⟩
  ·have HS:Hid (sgn a b=0):=by show _=_;unfold sgn;rw [if_neg h1,if_neg h2]
   go_enter Tryz.func72,Tryz.ntmps72
   go_wp2_with (go_at_call 104;first|(refine ha.mono ?_;rintro e w' ⟨rfl,rfl⟩)|(refine hb.mono ?_;rintro e w' ⟨rfl,rfl⟩))
   go_ret
   exact ⟨ret_int HS.out.symm,rfl⟩
theorem cmpL_val {x y:Nat->Int}(hx:Words x)(hy:Words y):∀ n,cmpL x y n=sgn (val x n) (val y n)
 | 0=>by simp [cmpL,sgn,val]
 | n+1=>by
  have hxb:=val_bd hx n
  have hyb:=val_bd hy n
  have ih:=cmpL_val hx hy n
  have hp:=pw_pos n
  have e1:val x (n+1)=val x n+x n*18446744073709551616^n:=rfl
  have e2:val y (n+1)=val y n+y n*18446744073709551616^n:=rfl
  rw [e1,e2]
  simp only [cmpL]
  generalize (18446744073709551616:Int)^n=P at *
  by_cases h1:x n<y n
  ·rw [if_pos h1]
   have:(x n+1)*P<=y n*P:=Int.mul_le_mul_of_nonneg_right (by omega) (by omega)
   rw [Int.add_mul,Int.one_mul] at this
   unfold sgn;rw [if_pos (by omega)]
  ·rw [if_neg h1]
   by_cases h2:y n<x n
   ·rw [if_pos h2]
    have:(y n+1)*P<=x n*P:=Int.mul_le_mul_of_nonneg_right (by omega) (by omega)
    rw [Int.add_mul,Int.one_mul] at this
    unfold sgn;rw [if_neg (by omega),if_pos (by omega)]
   ·have e:x n=y n:=by omega
    rw [if_neg h2,ih,e,sgn_add]
theorem val_longer {x y:Nat->Int}(hx:Words x)(hy:Words y){n m:Nat}(h:n<m)(hm:sizeL y m=m):val x n<val y m:=by
 obtain ⟨k,rfl⟩:∃ k,m=k+1:=⟨m-1,by omega⟩
 have hne:y k≠0:=by
  intro e
  have:sizeL y (k+1)=sizeL y k:=by simp [sizeL,e]
  have:=sizeL_le y k
  omega
 have h1:=(val_bd hx n).2
 have h2:=(val_bd hy k).1
 have h3:=pw_pos k
 have h4:=hy k
 have h5:(18446744073709551616:Int)^n<=18446744073709551616^k:=by
  obtain ⟨q,rfl⟩:∃ q,k=n+q:=⟨k-n,by omega⟩
  rw [Int.pow_add]
  have:=pw_pos n
  have:=pw_pos q
  have:(18446744073709551616:Int)^n*1<=18446744073709551616^n*18446744073709551616^q:=Int.mul_le_mul_of_nonneg_left (by omega) (by omega)
  omega
 show _<val y k+y k*18446744073709551616^k
 have:1*18446744073709551616^k<=y k*18446744073709551616^k:=Int.mul_le_mul_of_nonneg_right (by omega) (by omega)
 omega
theorem ncmp_any (a a':Option Addr)(n c n' c':Nat)(x y:Nat->Int)(w:World)(hn:n<4294967296)(hn':n'<4294967296)(h:Num w a n c x)(h':Num w a' n' c' y) :
  Calls Tryz.prog 73 #[.slice a n c,.slice a' n' c'] w fun e w'=>e=.returned (.int .i64 (sgn (val x n) (val y n')))/\∃ m,w.drewN m=w':=by
 have hb:=bare_any a n c x w hn h
 have hb':=bare_any a' n' c' y w hn' h'
 rw [← val_bare n,← val_bare n']
 have hx:=h.2.2.1
 have hy:=h'.2.2.1
 have h1:=sizeL_sizeL x n
 have h1':=sizeL_sizeL y n'
 have hle:=sizeL_le x n
 have hle':=sizeL_le y n'
 have hN:=h.bare
 have hN':=h'.bare
 generalize sizeL x n=s at *
 generalize sizeL y n'=s' at *
 have HV:Hid (∀ k,cmpL x y k=sgn (val x k) (val y k)):=cmpL_val hx hy
 have HL1:Hid (s<s'->sgn (val x s) (val y s')=sgn s s'):=fun hlt=>by
  have:=val_longer hx hy hlt h1'
  unfold sgn;rw [if_pos this,if_pos (by omega)]
 have HL2:Hid (s'<s->sgn (val x s) (val y s')=sgn s s'):=fun hlt=>by
  have:=val_longer hy hx hlt h1
  unfold sgn;rw [if_neg (by omega),if_pos this,if_neg (by omega),if_pos (by omega)]
 clear h h' h1 h1' hx hy
 by_cases e:s=s'
 ·subst e
  have hc:∀ i,i<s->∃ b off,a=some ⟨b,off,none⟩/\w.cell? ⟨b,off+i,none⟩=some (.int .u64 (x i)):=by
   intro i hi
   have h5:=hN.2.2.2.2
   rcases h5 with ⟨_,h⟩|⟨b,off,h,_,hc⟩
   ·have:=hN.1;omega
   ·exact ⟨b,off,h,hc i hi⟩
  have hc':∀ i,i<s->∃ b off,a'=some ⟨b,off,none⟩/\w.cell? ⟨b,off+i,none⟩=some (.int .u64 (y i)):=by
   intro i hi
   have h5:=hN'.2.2.2.2
   rcases h5 with ⟨_,h⟩|⟨b,off,h,_,hc⟩
   ·have:=hN'.1;omega
   ·exact ⟨b,off,h,hc i hi⟩
  clear hN hN' HL1 HL2
  go_enter Tryz.func73,Tryz.ntmps73
  go_wp2_with (first|(go_at_call_of 103 (Value.slice a n c);refine hb.mono ?_;rintro e w' ⟨rfl,rfl⟩)|(go_at_call_of 103 (Value.slice a' n' c');refine hb'.mono ?_;rintro e w' ⟨rfl,rfl⟩))
  go_loopw [7] (fun t wr=>∃ k m:Nat,k<=s/\cmpL x y k=cmpL x y s/\t=.int .i64 ((k:Int)-1)/\w.drewN m=wr) (fun t _=>(intOf t+1).toNat)
  case atStart=>exact ⟨s,0,Nat.le_refl _,rfl,by go_num,rfl⟩
  case round =>
   obtain ⟨k,m,hk,hs,rfl,rfl⟩:=hrel
   by_cases h0:k=0
   ·subst h0
    have HS:Hid (sgn (val x s) (val y s)=0):=by show _=_;rw [← HV.out,← hs];rfl
    clear hs hc hc'
    go_wp2
    go_ret
    exact ⟨ret_int HS.out.symm,_,rfl⟩
   ·obtain ⟨j,rfl⟩:∃ j,k=j+1:=⟨k-1,by omega⟩
    have ej:((j+1:Nat):Int)-1=j:=by omega
    have hjs:(j:Int)<s:=by omega
    rw [ej]
    obtain ⟨b,off,rfl,hcj⟩:=hc j (by omega)
    obtain ⟨b',off',rfl,hcj'⟩:=hc' j (by omega)
    have hs':(if x j<y j then -1 else if y j<x j then 1 else cmpL x y j)=cmpL x y s:=hs
    have hcmp:=compare_u64 (x j) (y j)
    by_cases he:x j=y j
    ·have HR:Hid (cmpL x y j=cmpL x y s):=by rw [← hs',if_neg (by omega),if_neg (by omega)];rfl
     have hne:(x j != y j)=false:=by simp [he]
     rw [he] at hcj
     clear hs hs' hc hc' hcmp
     go_wp2
     go_quiet (fail)
     go_wp2
     go_roundw
     case rel=>exact ⟨j,m+nq,by omega,HR.out,by go_num,rfl⟩
     case measure=>simp [intOf]
    ·have HR:Hid (sgn (val x s) (val y s)=sgn (x j) (y j)):=by
      show _=_
      rw [← HV.out,← hs']
      unfold sgn
      by_cases h1:x j<y j
      ·rw [if_pos h1,if_pos h1]
      ·rw [if_neg h1,if_neg h1,if_pos (by omega),if_pos (by omega)]
     have hne:(x j != y j)=true:=by simp [he]
     clear hs hs' hc hc'
     go_wp2
     go_quiet (fail)
     go_wp2
     go_quiet ((go_at_call 105;exact (hcmp _).mono fun _ _ h=>⟨h.1,_,h.2.symm⟩))
     go_wp2
     go_ret
     exact ⟨ret_int HR.out.symm,drw2 _ _ _ _⟩
 ·have hne:((s:Int) != s')=true:=by simp;omega
  have hcmp:=compare_int s s' w
  have HR:Hid (sgn (val x s) (val y s')=sgn s s'):=by
   rcases Nat.lt_or_gt_of_ne e with h|h
   ·exact HL1.out h
   ·exact HL2.out h
  clear HL1 HL2 hN hN'
  go_enter Tryz.func73,Tryz.ntmps73
  go_wp2_with (first|(first|(go_at_call_of 103 (Value.slice a n c);refine hb.mono ?_;rintro e w' ⟨rfl,rfl⟩)|(go_at_call_of 103 (Value.slice a' n' c');refine hb'.mono ?_;rintro e w' ⟨rfl,rfl⟩))|(go_at_call 72;refine hcmp.mono ?_;rintro e w' ⟨rfl,rfl⟩))
  go_ret
  exact ⟨ret_int HR.out.symm,0,rfl⟩
theorem rcmp_any (a a':Option Addr)(n c n' c':Nat)(x y:Nat->Int)(w:World)(hn:n<4294967296)(hn':n'<4294967296)(h:Num w a n c x)(h':Num w a' n' c' y) :
  CQ 25 #[.slice a n c,.slice a' n' c'] w (.int .i64 (sgn (val x n) (val y n'))):=by
 refine (cmp_any a a' n c n' c' x y w hn hn' h h').mono fun e w' hw=>⟨?_,hw.2.symm⟩
 rw [hw.1,cmpL_val h.2.2.1 h'.2.2.1,val_more h.2.2.2.1 _ (Nat.le_max_left n n'),val_more h'.2.2.2.1 _ (Nat.le_max_right n n')]
theorem sgn_self (a:Int):sgn a a=0:=by unfold sgn;rw [if_neg (by omega),if_neg (by omega)]
theorem size_num (a:Option Addr)(n c:Nat)(x:Nat->Int)(w:World)(hn:n<4294967296)(h:Num w a n c x) :
  CQ 57 #[.slice a n c] w (.int .i64 (sizeL x n)):=by
 have h':=h
 obtain ⟨h1,h2,h3,h4,h5⟩:=h'
 rcases h5 with ⟨rfl,rfl⟩|⟨b,off,rfl,hb,hc⟩
 ·obtain rfl:n=0:=by omega
  exact (size_nil w).mono fun e w' hw=>⟨hw.1,hw.2.symm⟩
 ·exact (size_any b off n c x w (by omega) hc).mono fun e w' hw=>⟨hw.1,hw.2.symm⟩
theorem Num.cells {w:World}{a:Option Addr}{n c:Nat}{x:Nat->Int}(h:Num w a n c x)(hn:0<n):∃ b off,a=some ⟨b,off,none⟩/\b<w.heap.size/\∀ i,i<n->w.cell? ⟨b,off+i,none⟩=some (.int .u64 (x i)):=by
 rcases h.2.2.2.2 with ⟨_,h'⟩|⟨b,off,h',hb,hc⟩
 ·have:=h.1;omega
 ·exact ⟨b,off,h',hb,hc⟩
theorem sum_end {x y:Nat->Int}{s s' N:Nat}(hx:Words x)(hy:Words y)(zx:∀ i,s<=i->x i=0)(zy:∀ i,s'<=i->y i=0)(h:s<N)(h':s'<N):carryW x y N=0:=by
 obtain ⟨q,rfl⟩:∃ q,N=q+1:=⟨N-1,by omega⟩
 have:=carryW_01 hx hy q
 simp only [carryW];rw [zx q (by omega),zy q (by omega)];omega
theorem bor_val {x y b:Int}(hx:0<=x/\x<=18446744073709551615)(hy:0<=y/\y<=18446744073709551615)(hb:0<=b/\b<=1):(x-y-b)%18446744073709551616-bor x y b*18446744073709551616=x-y-b:=by
 unfold bor;split<;>omega
theorem dif_val {x y:Nat->Int}(hx:Words x)(hy:Words y):∀ n,val (difW x y) n-borW x y n*18446744073709551616^n=val x n-val y n
 | 0=>by simp [val,borW]
 | n+1=>by
  have ih:=dif_val hx hy n
  have h:=bor_val (hx n) (hy n) (borW_01 x y n)
  show val (difW x y) n+difW x y n*18446744073709551616^n-bor (x n) (y n) (borW x y n)*18446744073709551616^(n+1)=val x n+x n*18446744073709551616^n-(val y n+y n*18446744073709551616^n)
  have hd:difW x y n=(x n-y n-borW x y n)%18446744073709551616:=rfl
  rw [← hd] at h
  rw [Int.pow_succ]
  generalize (18446744073709551616:Int)^n=P at *
  grind
theorem borW_end {x y:Nat->Int}(hx:Words x)(hy:Words y){n:Nat}(h:val y n<=val x n):borW x y n=0:=by
 have e:=dif_val hx hy n
 have h1:=val_bd (difW_words x y) n
 have h2:=borW_01 x y n
 have h3:=pw_pos n
 by_cases h0:borW x y n=0
 ·exact h0
 ·have:borW x y n=1:=by omega
  rw [this] at e;omega
theorem nlen_any (a:Option Addr)(n c:Nat)(x:Nat->Int)(w:World)(hn:n<100000000)(h:Num w a n c x) :
  CQ 71 #[.slice a n c] w (.int .i64 (lenL x n)):=by
 have hb:=bare_any a n c x w (by omega) h
 have hle:=sizeL_le x n
 by_cases h0:sizeL x n=0
 ·have HL:Hid (lenL x n=0):=by show _=_;simp [lenL,h0]
  rw [h0] at hb
  clear h0 h
  go_enter Tryz.func71,Tryz.ntmps71
  go_wp2_with (go_at_call 103;refine hb.mono ?_;rintro e w' ⟨rfl,rfl⟩)
  go_ret
  exact ⟨ret_int HL.out.symm,rfl⟩
 ·obtain ⟨j,hj⟩:∃ j,sizeL x n=j+1:=⟨sizeL x n-1,by omega⟩
  have HL:Hid (lenL x n=64*(j:Int)+Lib.bitLen (x j).toNat):=by show _=_;simp [lenL,hj];omega
  obtain ⟨b,off,rfl,hbs,hc⟩:=h.cells (by omega)
  rw [hj] at hb
  have hcj:=hc j (by omega)
  have hbx:=h.2.2.1 j
  have hbl:=bitLen64 (x j).toNat
  have hj':j+1<=n:=by omega
  clear h0 hc hj hle h
  have hcl:=Tryz.bits_Len64 (x j) w hbx.1 hbx.2
  generalize Lib.bitLen (x j).toNat=L at *
  go_enter Tryz.func71,Tryz.ntmps71
  go_wp2_with (first|(go_at_call 103;refine hb.mono ?_;rintro e w' ⟨rfl,rfl⟩)|(go_at_call 58;refine hcl.mono ?_;rintro e w' ⟨rfl,rfl⟩))
  go_ret
  exact ⟨ret_int (by rw [HL.out];omega),rfl⟩
theorem rlen_nil (w:World):CQ 23 #[.slice none 0 0] w (.int .i64 0):=by
 have hs:=size_nil w
 go_enter Tryz.func23,Tryz.ntmps23
 go_wp2_with (go_at_call 57;refine hs.mono ?_;rintro e w' ⟨rfl,rfl⟩)
 go_ret
 exact ⟨rfl,rfl⟩
theorem rlen_num (a:Option Addr)(n c:Nat)(x:Nat->Int)(w:World)(hn:n<100000000)(h:Num w a n c x) :
  CQ 23 #[.slice a n c] w (.int .i64 (lenL x n)):=by
 have h':=h
 obtain ⟨h1,h2,h3,h4,h5⟩:=h'
 rcases h5 with ⟨rfl,rfl⟩|⟨b,off,rfl,hb,hc⟩
 ·obtain rfl:n=0:=by omega
  exact rlen_nil w
 ·exact (len_any b off n c x w hn h3 hc).mono fun e w' hw=>⟨hw.1,hw.2.symm⟩
theorem radd_val (a a':Option Addr)(n c n' c':Nat)(x y:Nat->Int)(w:World)(hn:n<4000000000)(hn':n'<4000000000)(h:Num w a n c x)(h':Num w a' n' c' y) :
  Calls Tryz.prog 21 #[.slice a n c,.slice a' n' c'] w fun e w'=>∃ g k cap z,e=.returned (.slice (some ⟨g,0,none⟩) k cap)/\k<=max n n'+1/\Num w' (some ⟨g,0,none⟩) k cap z/\val z k=val x n+val y n'/\Below w.heap.size w w':=by
 refine (radd_any a a' n c n' c' x y w (by omega) (by omega) h h').mono fun e w' ⟨g,k,cap,e1,hk,hN,hB⟩=>⟨g,k,cap,_,e1,hk,hN,?_,hB⟩
 have e:=sum_val (x:=x) (y:=y) (max n n'+1)
 rw [sum_end h.2.2.1 h'.2.2.1 h.2.2.2.1 h'.2.2.2.1 (by omega) (by omega),val_more h.2.2.2.1 _ (by omega),val_more h'.2.2.2.1 _ (by omega),val_more hN.2.2.2.1 _ hk] at e
 omega
theorem ncmp_b (a a':Option Addr)(n c n' c':Nat)(x y:Nat->Int)(w:World)(hn:n<4294967296)(hn':n'<4294967296)(h:Num w a n c x)(h':Num w a' n' c' y) :
  CB 73 #[.slice a n c,.slice a' n' c'] w (.int .i64 (sgn (val x n) (val y n'))) :=
 (ncmp_any a a' n c n' c' x y w hn hn' h h').mono fun e w' ⟨h1,m,hm⟩=>⟨h1,hm▸below_drewN (Below.refl _ _) m⟩
theorem mulAdd_any (a n z C:Int)(w:World)(ha:0<=a/\a<=18446744073709551615)(hn:0<=n/\n<=18446744073709551615)(hz:0<=z/\z<=18446744073709551615)(hC:0<=C/\C<=18446744073709551615) :
  Calls Tryz.prog 162 #[.int .u64 a,.int .u64 n,.int .u64 z,.int .u64 C] w fun e w'=>∃ l h,e=.returned (.tuple #[.int .u64 l,.int .u64 h])/\l+h*18446744073709551616=a*n+z+C/\(0<=l/\l<=18446744073709551615)/\(0<=h/\h<=18446744073709551615)/\w=w':=by
 have hms:=mul_step a n z C ha hn hz hC
 have hmul:=mul64 a n ha hn w
 have hL0:0<=a*n%18446744073709551616:=Int.emod_nonneg _ (by decide)
 have hA1:=fun w=>add64z (a*n%18446744073709551616) z hL0 hz.1 w
 have hs0:0<=(a*n%18446744073709551616+z)%18446744073709551616:=Int.emod_nonneg _ (by decide)
 have hA2:=fun w=>add64z ((a*n%18446744073709551616+z)%18446744073709551616) C hs0 hC.1 w
 have ht0:0<=((a*n%18446744073709551616+z)%18446744073709551616+C)%18446744073709551616/\((a*n%18446744073709551616+z)%18446744073709551616+C)%18446744073709551616<=18446744073709551615:=by omega
 generalize ((a*n%18446744073709551616+z)%18446744073709551616+C)%18446744073709551616=t2 at *
 generalize ((a*n%18446744073709551616+z)%18446744073709551616+C)/18446744073709551616=f2 at *
 generalize (a*n%18446744073709551616+z)%18446744073709551616=t1 at *
 generalize (a*n%18446744073709551616+z)/18446744073709551616=f1 at *
 generalize a*n%18446744073709551616=lo at *
 generalize a*n/18446744073709551616=hi at *
 have HMS:Hid (t2+(hi+f1+f2)*18446744073709551616=a*n+z+C):=hms.1
 have hb1:0<=hi+f1:=hms.2.1
 have hb2:hi+f1<=18446744073709551615:=hms.2.2.1
 have hb3:0<=hi+f1+f2:=hms.2.2.2.1
 have hb4:hi+f1+f2<=18446744073709551615:=hms.2.2.2.2
 clear hms
 go_enter Tryz.func162,Tryz.ntmps162
 go_wp2_with (go_at_call 59;refine hmul.mono ?_;rintro e w' ⟨rfl,rfl⟩)
 go_ret2
 exact ⟨t2,hi+f1+f2,rfl,HMS.out,ht0,⟨hb3,hb4⟩,rfl⟩
theorem addProduct_any (g N off m c k c':Nat)(a':Option Addr)(x y:Nat->Int)(n:Int)(w:World)(hm:off+m<=N)(hN:N<4294967296)(hk:k<=m)(hx:Words x)(hn:0<=n/\n<=18446744073709551615)(h:Own g N x w)(h':Num w a' k c' y)(hA:Apart a' g) :
  Calls Tryz.prog 133 #[.slice (some ⟨g,off,none⟩) m c,.slice a' k c',.int .u64 n] w fun e w'=>∃ C z,e=.returned (.int .u64 C)/\(0<=C/\C<=18446744073709551615)/\Own g N z w'/\Words z/\val z N+C*18446744073709551616^(off+k)=val x N+n*val y k*18446744073709551616^off/\(∀ i,off+k<=i->z i=x i)/\Upd g w w':=by
 have hy:=h'.2.2.1
 go_enter Tryz.func133,Tryz.ntmps133
 go_wp2
 go_loopw [7,8,9,12,17] (fun cv u8 u9 i u17 wr=>∃ (j:Nat) (C:Int) (z:Nat->Int),j<=k/\i=.int .i64 j/\cv=.int .u64 C/\(0<=C/\C<=18446744073709551615)/\Own g N z wr/\Words z/\Hid (val z N+C*18446744073709551616^(off+j)=val x N+n*val y j*18446744073709551616^off)/\(∀ i,off+j<=i->z i=x i)/\Upd g w wr) (fun _ _ _ i _ _=>k-(intOf i).toNat)
 case atStart=>exact ⟨0,0,x,Nat.zero_le _,rfl,rfl,by decide,h,hx,by show _=_;simp [val],fun _ _=>rfl,Upd.refl _ _⟩
 case round =>
  obtain ⟨j,C,z,hj,rfl,rfl,hCb,hO,hzw,hv,hzx,hU⟩:=hrel
  by_cases hlt:j<k
  ·have hji:(j:Int)<k:=by omega
   have hjm:(j:Int)<m:=by omega
   obtain ⟨b,off',rfl,hb,hc⟩:=(hU.num' hA h').cells (by omega)
   have hcj:=hc j hlt
   have hco:=hO.cell (off+j) (by omega)
   have hfo:=hO.frozen (off+j)
   have hma:=fun w=>mulAdd_any (y j) n (z (off+j)) C w (hy j) hn (hzw (off+j)) hCb
   have HO:Hid (Own g N z wr):=hO
   have HU:Hid (Upd g w wr):=hU
   have HZW:Hid (Words z):=hzw
   have HZX:Hid (∀ i,off+j<=i->z i=x i):=hzx
   clear hO hU hc h h' hA hx hy hzw hzx
   go_wp2_with (go_at_call 162;refine (hma _).mono ?_;rintro e w1 ⟨l,hi,rfl,hlh,hlb,hhb,rfl⟩)
   go_roundw
   case rel =>
    refine ⟨j+1,hi,fun i=>if i=off+j then l else z i,by omega,by go_num,rfl,hhb,HO.out.set (off+j) l,upd_words HZW.out hlb,?_,?_,HU.out.set (off+j) _⟩
    ·show _=_
     rw [val_set z (off+j) l N (by omega)]
     exact mul_inner _ _ _ _ _ _ _ _ _ off j hv.out (by rw [hlh,Int.mul_comm (y j) n])
    ·intro i hi2
     exact (if_neg (show ¬ i=off+j by omega)).trans (HZX.out i (by omega))
   case measure=>simp [intOf];omega
  ·obtain rfl:j=k:=by omega
   have HO:Hid (Own g N z wr):=hO
   have HU:Hid (Upd g w wr):=hU
   have HZW:Hid (Words z):=hzw
   have HZX:Hid (∀ i,off+j<=i->z i=x i):=hzx
   clear hO hU h h' hA hx hy hzw hzx
   go_wp2
   go_ret
   exact ⟨C,z,rfl,hCb,HO.out,HZW.out,hv.out,HZX.out,HU.out⟩
theorem apart_of {w:World}{a:Option Addr}{n c:Nat}{x:Nat->Int}(h:Num w a n c x):Apart a w.heap.size:=by
 intro p hp
 rcases h.2.2.2.2 with ⟨h,_⟩|⟨b,off,h,hb,_⟩
 ·rw [h] at hp;cases hp
 ·rw [h] at hp;cases hp;exact Nat.ne_of_lt hb
theorem val_zero:∀ m,val (fun _=>0) m=0:=by intro m;induction m with|zero=>rfl|succ m ih=>simp only [val];rw [ih];simp
theorem nmul_any (a a':Option Addr)(n c n' c':Nat)(x y:Nat->Int)(w:World)(hn:n<4000000000)(hn':n'<4000000000)(h:Num w a n c x)(h':Num w a' n' c' y)(hs:sizeL x n+sizeL y n'<=2000) :
  Calls Tryz.prog 97 #[.slice a n c,.slice a' n' c'] w fun e w'=>∃ g k cap z,e=.returned (.tuple #[.slice (some ⟨g,0,none⟩) k cap,.int .i64 0])/\k<=sizeL x n+sizeL y n'/\Num w' (some ⟨g,0,none⟩) k cap z/\val z k=val x n*val y n'/\sizeL z k=k/\Below w.heap.size w w':=by
 have hb:=bare_any a n c x w (by omega) h
 have hb':=bare_any a' n' c' y w (by omega) h'
 rw [← val_bare n,← val_bare n']
 have hx:=h.2.2.1
 have hy:=h'.2.2.1
 have hle:=sizeL_le x n
 have hle':=sizeL_le y n'
 have hN:=h.bare
 have hN':=h'.bare
 generalize sizeL x n=s at *
 generalize sizeL y n'=s' at *
 clear h h'
 obtain ⟨N,hNs⟩:∃ N,s+s'=N:=⟨_,rfl⟩
 have hNi:(s:Int)+s'=N:=by omega
 have hmk:=fun w=>make_any ((s:Int)+s') N hNi (by omega) w
 have hN2:(s:Int)+s'<=2000:=by omega
 have HNS:Hid (s+s'=N):=hNs
 have hA:=apart_of hN
 have hA':=apart_of hN'
 have hO:=Own.new w (fun _=>0) N
 have hBW:=below1 w (.cells (arrOf (fun _=>0) N) 22)
 have hnx:=hN.next hBW
 have hny:=hN'.next hBW
 have hap:=fun wr z off hO hzw hU (hoff:off+s<=N) n hn=>addProduct_any w.heap.size N off (N-off) (N-off) s c a z x n wr (by omega) (by omega) (by omega) hzw hn hO (Upd.num' (w:=w.alloc (.cells (arrOf (fun _=>0) N) 22)) hU hA hnx) hA
 have HBW:Hid (Below w.heap.size w (w.alloc (.cells (arrOf (fun _=>0) N) 22))):=hBW
 clear hBW hN hN' hNi hNs
 go_enter Tryz.func97,Tryz.ntmps97
 go_wp2_with (first|(go_at_call_of 103 (Value.slice a n c);refine hb.mono ?_;rintro e w' ⟨rfl,rfl⟩)|(go_at_call_of 103 (Value.slice a' n' c');refine hb'.mono ?_;rintro e w' ⟨rfl,rfl⟩))
 generalize w.alloc (.cells (arrOf (fun _=>0) N) 22)=wA at *
 go_loopw [9,10,29] (fun u9 u10 i wr=>∃ (j:Nat) (z:Nat->Int),j<=s'/\i=.int .i64 j/\Own w.heap.size N z wr/\Words z/\(∀ q,s+j<=q->z q=0)/\Hid (val z N=val x s*val y j)/\Upd w.heap.size wA wr) (fun _ _ i _=>s'-(intOf i).toNat)
 case atStart=>exact ⟨0,fun _=>0,Nat.zero_le _,rfl,hO,fun _=>(by decide:(0:Int)<=0/\(0:Int)<=18446744073709551615),fun _ _=>rfl,by show _=_;rw [val_zero];simp [val],Upd.refl _ _⟩
 case round =>
  clear hO
  obtain ⟨j,z,hj,rfl,hO,hzw,hz0,hv,hU⟩:=hrel
  by_cases hlt:j<s'
  ·have hji:(j:Int)<s':=by omega
   obtain ⟨b,off',rfl,hbb,hc⟩:=(hU.num' hA' hny).cells (by omega)
   have hcj:=hc j hlt
   have hap1:=hap wr z j hO hzw hU (by have:=HNS.out;omega) (y j) (hy j)
   have hjN:(j:Int)<=N:=by have:=HNS.out;omega
   have hjs:(j:Int)+s<N:=by have:=HNS.out;omega
   have e1:((j:Int)+s).toNat=j+s:=by omega
   have HU:Hid (Upd w.heap.size wA wr):=hU
   have HZ0:Hid (∀ q,s+j<=q->z q=0):=hz0
   clear hO hU hc hzw hz0 hap hx hy hA hA' hnx hny
   go_wp2_with (go_at_call 133;refine hap1.mono ?_;rintro e w1 ⟨C,z1,rfl,hCb,hO1,hw1,hv1,hzx1,hU1⟩;have hc1:=hO1.cell (j+s) (by have:=HNS.out;omega);have hf1:=hO1.frozen (j+s))
   go_roundw
   case rel =>
    have e2:z1 (j+s)=0:=by rw [hzx1 (j+s) (Nat.le_refl _)];exact HZ0.out _ (by omega)
    refine ⟨j+1,fun i=>if i=j+s then C else z1 i,by omega,by go_num,hO1.set (j+s) C,upd_words hw1 hCb,?_,?_,(HU.out.trans hU1).set (j+s) _⟩
    ·intro q hq
     exact (if_neg (show ¬ q=j+s by omega)).trans ((hzx1 q (by omega)).trans (HZ0.out q (by omega)))
    ·show _=_
     rw [val_set z1 (j+s) C N (by have:=HNS.out;omega),e2,Int.sub_zero,hv1,hv.out]
     show _=val x s*(val y j+y j*18446744073709551616^j)
     generalize (18446744073709551616:Int)^j=P
     grind
   case measure=>simp [intOf];omega
  ·obtain rfl:j=s':=by omega
   have hN2':=hO.num hzw 0 N N (by omega) (Nat.le_refl _) (by unfold maxLen;have:=HNS.out;omega)
   have hbr:=bare_any (some ⟨w.heap.size,0,none⟩) N N (segW z 0 N) wr (by have:=HNS.out;omega) hN2'
   have HN2:Hid (Num wr (some ⟨w.heap.size,0,none⟩) (sizeL (segW z 0 N) N) N (segW z 0 N)):=hN2'.bare
   have HV2:Hid (val (segW z 0 N) (sizeL (segW z 0 N) N)=val x s*val y j):=by
    show _=_
    rw [val_bare,val_congr (x:=segW z 0 N) (y:=z) N fun i hi=>by rw [segW_lt _ 0 N i hi,Nat.zero_add],hv.out]
   have HS2:Hid (sizeL (segW z 0 N) (sizeL (segW z 0 N) N)=sizeL (segW z 0 N) N):=sizeL_sizeL _ _
   have HLE:Hid (sizeL (segW z 0 N) N<=N):=sizeL_le _ _
   generalize segW z 0 N=z2 at *
   generalize sizeL z2 N=k at *
   have HB2:Hid (Below w.heap.size w wr):=HBW.out.trans (hU.below (Nat.le_refl _))
   clear hO hU hN2' hx hy hzw hz0 hap hA hA' hnx hny
   go_wp2_with (go_at_call 103;refine hbr.mono ?_;rintro e w3 ⟨rfl,rfl⟩)
   go_ret2
   exact ⟨_,k,N,z2,rfl,by rw [HNS.out];exact HLE.out,HN2.out,HV2.out,HS2.out,HB2.out⟩
theorem wrap_mod (a:Int):IntKind.u64.wrap a=a%18446744073709551616:=by
 simp only [IntKind.wrap,IntKind.bits,IntKind.signed]
 simp
theorem p2_pos (n:Nat):(0:Int)<2^n:=Int.pow_pos (by decide)
theorem p2_split {r:Nat}(hr:r<=64):(2:Int)^(64-r)*2^r=18446744073709551616:=by
 rw [← Int.pow_add,show 64-r+r=64 by omega];rfl
def hiW (x:Int)(r:Nat):Int:=x*2^r/18446744073709551616
theorem hiW_eq (x:Int){r:Nat}(hr:r<=64):x/2^(64-r)=hiW x r:=by
 unfold hiW
 rw [← p2_split hr,Int.mul_ediv_mul_of_pos_left _ _ (p2_pos r)]
theorem hiW_bd {x:Int}(hx:0<=x/\x<=18446744073709551615)(r:Nat):0<=hiW x r/\hiW x r<2^r:=by
 have hp:=p2_pos r
 unfold hiW
 refine ⟨Int.ediv_nonneg (Int.mul_nonneg hx.1 (by omega)) (by decide),Int.ediv_lt_of_lt_mul (by decide) ?_⟩
 rw [Int.mul_comm (2^r)]
 exact Int.mul_lt_mul_of_pos_right (by omega) hp
theorem p2_le {r:Nat}(hr:r<64):(2:Int)^r<=9223372036854775808:=by
 have h:=p2_split (show r<=64 by omega)
 have h1:(2:Int)^(64-r)=2^(63-r)*2:=by rw [← Int.pow_succ];congr 1;omega
 have h2:=p2_pos (63-r)
 rw [h1] at h
 have:(1:Int)*(2*2^r)<=2^(63-r)*(2*2^r):=Int.mul_le_mul_of_nonneg_right (by omega) (by have:=p2_pos r;omega)
 rw [← Int.mul_assoc] at this
 have e:(2:Int)^(63-r)*(2*2^r)=18446744073709551616:=by rw [← Int.mul_assoc];exact h
 omega
theorem or_shl {y b:Int}{r:Nat}(hr:r<64)(hy:0<=y)(hb:0<=b/\b<2^r):orW b (IntKind.u64.wrap (y*2^r))=y*2^r%18446744073709551616+b:=by
 have hle:=p2_le hr
 have hp:=p2_pos r
 have hme:y*2^r%(2^(64-r)*2^r)=y%2^(64-r)*2^r:=by
  have:=Int.mul_emod_mul_of_pos y (2^(64-r)) hp
  rw [Int.mul_comm y,Int.mul_comm (2^(64-r)),this,Int.mul_comm]
 rw [orW_eq b _ (by omega) (wrap_word _),wrap_mod,← p2_split (show r<=64 by omega),hme]
 have hm0:=Int.emod_nonneg y (show (2:Int)^(64-r)≠0 by have:=p2_pos (64-r);omega)
 obtain ⟨u,hu⟩:=Int.eq_ofNat_of_zero_le hm0
 obtain ⟨b',rfl⟩:=Int.eq_ofNat_of_zero_le hb.1
 rw [hu]
 have e1:((u:Int)*2^r).toNat=2^r*u:=by
  have:((u:Int)*2^r)=((2^r*u:Nat):Int):=by rw [Int.natCast_mul,powCast,Int.mul_comm]
  rw [this];exact Int.toNat_natCast _
 have hb2:b'<2^r:=by
  have h:=hb.2
  rw [← powCast] at h;omega
 rw [e1,Int.toNat_natCast,Nat.or_comm,← Nat.two_pow_add_eq_or_of_lt hb2]
 rw [Int.natCast_add,Int.natCast_mul,powCast,Int.mul_comm]
def prevW (x:Nat->Int)(r i:Nat):Int:=if i=0 then 0 else hiW (x (i-1)) r
def shW (x:Nat->Int)(r i:Nat):Int:=x i*2^r%18446744073709551616+prevW x r i
theorem prevW_bd {x:Nat->Int}(hx:Words x)(r i:Nat):0<=prevW x r i/\prevW x r i<2^r:=by
 unfold prevW;split
 ·have:=p2_pos r;omega
 ·exact hiW_bd (hx _) r
theorem shW_or {x:Nat->Int}(hx:Words x){r:Nat}(hr:r<64)(i:Nat):orW (prevW x r i) (IntKind.u64.wrap (x i*2^r))=shW x r i:=or_shl hr (hx i).1 (prevW_bd hx r i)
theorem prevW_word {x:Nat->Int}(hx:Words x){r:Nat}(hr:r<64)(i:Nat):0<=prevW x r i/\prevW x r i<=18446744073709551615:=by
 have:=prevW_bd hx r i
 have:=p2_le hr
 omega
theorem shW_words {x:Nat->Int}(hx:Words x){r:Nat}(hr:r<64):Words (shW x r):=fun i=>by
 rw [← shW_or hx hr i];exact orW_word _ _ (prevW_word hx hr i) (wrap_word _)
theorem sh_val (x:Nat->Int)(r:Nat):∀ m,val (shW x r) m+prevW x r m*18446744073709551616^m=val x m*2^r
 | 0=>by simp [val,prevW]
 | m+1=>by
  have ih:=sh_val x r m
  show val (shW x r) m+shW x r m*18446744073709551616^m+prevW x r (m+1)*18446744073709551616^(m+1)=(val x m+x m*18446744073709551616^m)*2^r
  have e1:prevW x r (m+1)=x m*2^r/18446744073709551616:=rfl
  have e2:shW x r m=x m*2^r%18446744073709551616+prevW x r m:=rfl
  have e3:=Int.emod_add_mul_ediv (x m*2^r) 18446744073709551616
  rw [e1,e2,Int.pow_succ]
  generalize x m*2^r/18446744073709551616=K at *
  generalize x m*2^r%18446744073709551616=R at *
  generalize (18446744073709551616:Int)^m=P at *
  grind
theorem sh_end {x:Nat->Int}{n:Nat}(zx:∀ i,n<=i->x i=0)(r m:Nat)(h:n<m):val (shW x r) m=val x n*2^r:=by
 have e:=sh_val x r m
 have e1:prevW x r m=0:=by
  unfold prevW hiW;rw [if_neg (by omega),zx (m-1) (by omega)];simp
 rw [e1,val_more zx m (by omega)] at e
 omega
def upW (f:Nat->Int)(q j:Nat):Int:=if q<=j then f (j-q) else 0
theorem val_up (f:Nat->Int)(q:Nat):∀ m,val (upW f q) (q+m)=val f m*18446744073709551616^q
 | 0=>by
  have:∀ k,k<=q->val (upW f q) k=0:=by
   intro k
   induction k with
   | zero=>intro _;rfl
   | succ k ih =>
    intro hk
    show val (upW f q) k+upW f q k*18446744073709551616^k=0
    rw [ih (by omega)]
    unfold upW;rw [if_neg (by omega)];simp
  rw [Nat.add_zero,this q (Nat.le_refl _)];simp [val]
 | m+1=>by
  have ih:=val_up f q m
  show val (upW f q) (q+m)+upW f q (q+m)*18446744073709551616^(q+m)=(val f m+f m*18446744073709551616^m)*18446744073709551616^q
  rw [ih]
  have e:upW f q (q+m)=f m:=by unfold upW;rw [if_pos (by omega)];congr 1;omega
  rw [e,Int.pow_add]
  generalize (18446744073709551616:Int)^m=P
  generalize (18446744073709551616:Int)^q=Q
  grind
theorem finL_up {x:Nat->Int}(hx:Words x)(q:Nat){r:Nat}(hr:r<64):finL x q r=upW (shW x r) q:=by
 funext j
 unfold finL upW
 by_cases h:q<=j
 ·rw [if_pos h,if_pos h,← shW_or hx hr (j-q)]
  congr 1
  unfold lowp prevW
  by_cases h0:j-q=0
  ·rw [if_pos h0,if_neg (by omega)]
  ·rw [if_neg h0]
   by_cases hr0:0<r
   ·rw [if_pos (by omega),hiW_eq _ (by omega)]
   ·obtain rfl:r=0:=by omega
    rw [if_neg (by omega)]
    unfold hiW
    have:=hx (j-q-1)
    omega
 ·rw [if_neg h,if_neg h]
theorem p64 (q r:Nat):(2:Int)^r*18446744073709551616^q=2^(64*q+r):=by
 rw [Int.pow_add,Int.pow_mul,Int.mul_comm];rfl
theorem finL_val {x:Nat->Int}{n:Nat}(hx:Words x)(zx:∀ i,n<=i->x i=0)(q:Nat){r:Nat}(hr:r<64):val (finL x q r) (n+q+1)=val x n*2^(64*q+r):=by
 rw [finL_up hx q hr,show n+q+1=q+(n+1) by omega,val_up,sh_end zx r (n+1) (by omega),Int.mul_assoc,p64]
theorem times_val (b off n c b' off' n' c':Nat)(x y:Nat->Int)(w:World)(hn:n<1000000)(hn':n'<1000000)(h:Num w (some ⟨b,off,none⟩) n c x)(h':Num w (some ⟨b',off',none⟩) n' c' y) :
  Calls Tryz.prog 24 #[.slice (some ⟨b,off,none⟩) n c,.slice (some ⟨b',off',none⟩) n' c'] w fun e w'=>∃ g k cap z,e=.returned (.slice (some ⟨g,0,none⟩) k cap)/\k<=n+n'+1/\Num w' (some ⟨g,0,none⟩) k cap z/\val z k=val x n*val y n'/\Below w.heap.size w w' :=
 (times_raw b off n c b' off' n' c' x y w hn hn' h h').mono fun e w' ⟨g,k,cap,z,e1,hk,hN,hv,hB⟩=>⟨g,k,cap,z,e1,hk,hN,by rw [← hv,val_more hN.2.2.2.1 _ hk],hB⟩
section
attribute [local go_sem] setCell_drewN alloc_drewN
theorem times_tr (b off n c b' off' n' c':Nat)(x y:Nat->Int)(w:World)(hn:n<1000000)(hn':n'<1000000)(h:Num w (some ⟨b,off,none⟩) n c x)(h':Num w (some ⟨b',off',none⟩) n' c' y) :
  Calls Tryz.prog 24 #[.slice (some ⟨b,off,none⟩) n c,.slice (some ⟨b',off',none⟩) n' c'] w fun e w'=>∃ g k cap z,e=.returned (.slice (some ⟨g,0,none⟩) k cap)/\k<=n+n'+1/\Num w' (some ⟨g,0,none⟩) k cap z/\val z (n+n'+1)=val x n*val y n'/\Below w.heap.size w w'/\sizeL z k=k:=by
 have hx:=h.2.2.1
 have hy:=h'.2.2.1
 have hc:b<w.heap.size/\∀ i,i<n->w.cell? ⟨b,off+i,none⟩=some (.int .u64 (x i)):=by
  rcases h.2.2.2.2 with ⟨h,_⟩|⟨b',off',h,hbs,hc⟩
  ·cases h
  ·cases h;exact ⟨hbs,hc⟩
 have hc':b'<w.heap.size/\∀ i,i<n'->w.cell? ⟨b',off'+i,none⟩=some (.int .u64 (y i)):=by
  rcases h'.2.2.2.2 with ⟨h,_⟩|⟨b',off',h,hbs,hc⟩
  ·cases h
  ·cases h;exact ⟨hbs,hc⟩
 have hcap:=h.1
 have hcap':=h'.1
 obtain ⟨M,hM⟩:∃ M,n+n'+1=M:=⟨_,rfl⟩
 have hMi:(n:Int)+n'+1=(M:Int):=by omega
 have hmk:=fun w=>make_any ((n:Int)+n'+1) M hMi (by omega) w
 have hcw:∀ (ss:Array Value) i,i<n->(w.alloc (.cells ss 22)).cell? ⟨b,off+i,none⟩=some (.int .u64 (x i)):=fun ss i hi=>((below1 w _).cell (p:=⟨b,off+i,none⟩) hc.1).trans (hc.2 i hi)
 have hcw':∀ (ss:Array Value) i,i<n'->(w.alloc (.cells ss 22)).cell? ⟨b',off'+i,none⟩=some (.int .u64 (y i)):=fun ss i hi=>((below1 w _).cell (p:=⟨b',off'+i,none⟩) hc'.1).trans (hc'.2 i hi)
 have HM:Hid (n+n'+1=M):=hM
 have HZ:Hid ((arrOf (fun _=>0) M).size=M/\∀ j h,(arrOf (fun _=>0) M)[j]'h=Value.int .u64 0):=⟨arrOf_size _ _,fun j h=>arrOf_get _ _ _ _⟩
 clear h h' hMi hc hc' hM
 generalize arrOf (fun _=>0) M=zz at *
 go_enter Tryz.func24,Tryz.ntmps24
 go_wp2
 go_loopw [22] (fun i wr=>∃ (k m:Nat) (ss:Array Value) (z:Nat->Int),k<=n/\i=.int .i64 k/\ss.size=M/\(∀ j h,ss[j]'h=Value.int .u64 (z j))/\Words z/\(∀ j,k+n'<=j->z j=0)/\val z M=val x k*val y n'/\wr=(w.alloc (.cells ss 22)).drewN m) (fun i _=>n-(intOf i).toNat)
 case atStart =>
  refine ⟨0,0,zz,fun _=>0,Nat.zero_le _,rfl,HZ.out.1,HZ.out.2,fun _=>(by decide:(0:Int)<=0/\(0:Int)<=18446744073709551615),fun _ _=>rfl,?_,rfl⟩
  have:∀ m,val (fun _=>0) m=0:=by intro m;induction m with|zero=>rfl|succ m ih=>simp only [val];rw [ih];simp
  rw [this];simp [val]
 case round =>
  obtain ⟨k,m,ss,z,hk,rfl,hsz,hss,hzw,hz0,hv,rfl⟩:=hrel
  by_cases h8:k<n
  ·have h8i:(k:Int)<n:=by omega
   have bx:=hx k
   have hcx:=fun ss=>hcw ss k h8
   have h0p:(∀ j,k+n'<=j->z j=0):=hz0
   go_wp2
   go_loopw [7,27] (fun cc kk wr=>∃ (q m:Nat) (ss:Array Value) (z:Nat->Int) (C:Int),q<=n'/\kk=.int .i64 q/\cc=.int .u64 C/\(0<=C/\C<=18446744073709551615)/\ss.size=M/\(∀ j h,ss[j]'h=Value.int .u64 (z j))/\Words z/\(∀ j,k+n'<=j->z j=0)/\Hid (val z M+C*18446744073709551616^(k+q)=val x k*val y n'+x k*val y q*18446744073709551616^k)/\wr=(w.alloc (.cells ss 22)).drewN m) (fun _ kk _=>n'-(intOf kk).toNat)
   case atStart=>exact ⟨0,m,ss,z,0,Nat.zero_le _,rfl,rfl,by decide,hsz,hss,hzw,hz0,by show _=_;rw [hv];simp [val],rfl⟩
   case round =>
    clear hss hsz hzw hz0 hv h0p
    obtain ⟨q,m2,s2,z2,C,hq,rfl,rfl,hCb,hsz,hss,hzw,hz0,hv,rfl⟩:=hrel
    by_cases hqn:q<n'
    ·have hqi:(q:Int)<n':=by omega
     have b_y:=hy q
     have hcy:=hcw' s2 q hqn
     have hcx2:=hcx s2
     have hp:k+q<s2.size:=by have:=HM.out;omega
     have hpi:(k:Int)+q<M:=by have:=HM.out;omega
     have e1:((k:Int)+q).toNat=k+q:=by omega
     have hsp:s2[k+q]?=some (.int .u64 (z2 (k+q))):=by rw [Array.getElem?_eq_getElem hp,hss _ hp]
     have hsp':∀ h,s2[k+q]'h=.int .u64 (z2 (k+q)):=fun h=>hss _ h
     have hzp:=hzw (k+q)
     have hms:=mul_step (x k) (y q) (z2 (k+q)) C bx b_y hzp hCb
     have hmul:=mul64 (x k) (y q) bx b_y
     have hL0:0<=x k*y q%18446744073709551616:=Int.emod_nonneg _ (by decide)
     have hH0:0<=x k*y q/18446744073709551616:=Int.ediv_nonneg (Int.mul_nonneg bx.1 b_y.1) (by decide)
     have hA1:=fun w=>add64z (x k*y q%18446744073709551616) (z2 (k+q)) hL0 hzp.1 w
     have hs0:0<=(x k*y q%18446744073709551616+z2 (k+q))%18446744073709551616:=Int.emod_nonneg _ (by decide)
     have hd0:0<=(x k*y q%18446744073709551616+z2 (k+q))/18446744073709551616:=Int.ediv_nonneg (by omega) (by decide)
     have hA2:=fun w=>add64z ((x k*y q%18446744073709551616+z2 (k+q))%18446744073709551616) C hs0 hCb.1 w
     have ht0:0<=((x k*y q%18446744073709551616+z2 (k+q))%18446744073709551616+C)%18446744073709551616/\((x k*y q%18446744073709551616+z2 (k+q))%18446744073709551616+C)%18446744073709551616<=18446744073709551615:=by omega
     have hf0:0<=((x k*y q%18446744073709551616+z2 (k+q))%18446744073709551616+C)/18446744073709551616:=Int.ediv_nonneg (by omega) (by decide)
     generalize ((x k*y q%18446744073709551616+z2 (k+q))%18446744073709551616+C)%18446744073709551616=t2 at *
     generalize ((x k*y q%18446744073709551616+z2 (k+q))%18446744073709551616+C)/18446744073709551616=f2 at *
     generalize (x k*y q%18446744073709551616+z2 (k+q))%18446744073709551616=t1 at *
     generalize (x k*y q%18446744073709551616+z2 (k+q))/18446744073709551616=f1 at *
     generalize x k*y q%18446744073709551616=lo at *
     generalize x k*y q/18446744073709551616=hi at *
     have HMS:Hid (t2+(hi+f1+f2)*18446744073709551616=x k*y q+z2 (k+q)+C):=hms.1
     have hb1:0<=hi+f1:=hms.2.1
     have hb2:hi+f1<=18446744073709551615:=hms.2.2.1
     have hb3:0<=hi+f1+f2:=hms.2.2.2.1
     have hb4:hi+f1+f2<=18446744073709551615:=hms.2.2.2.2
     have HSS:Hid (∀ j h,s2[j]'h=Value.int .u64 (z2 j)):=hss
     have HZW:Hid (Words z2):=hzw
     have HZ0:Hid (∀ j,k+n'<=j->z2 j=0):=hz0
     have HR:Hid (val (fun j=>if j=k+q then t2 else z2 j) M+(hi+f1+f2)*18446744073709551616^(k+(q+1))=val x k*val y n'+x k*val y (q+1)*18446744073709551616^k):=by
      show _=_
      rw [val_set z2 (k+q) t2 M (by have:=HM.out;omega)]
      exact mul_inner _ _ _ _ _ _ _ _ _ k q hv.out hms.1
     clear hms hss hzw hz0 hx hy hcw hcw' hmk hv
     go_wp2
     go_quiet ((go_at_call 59;exact (hmul _).mono fun _ _ h=>⟨h.1,_,h.2⟩))
     go_wp2
     go_roundw
     case rel=>exact ⟨q+1,m2+nq,s2.setIfInBounds (k+q) (.int .u64 t2),fun j=>if j=k+q then t2 else z2 j,hi+f1+f2,by omega,by go_num,rfl,⟨hb3,hb4⟩,by simp [hsz],upd_get HSS.out,upd_words HZW.out ht0,fun j hj=>(if_neg (show ¬ j=k+q by omega)).trans (HZ0.out j hj),HR,by simp [go_sem]⟩
     case measure=>simp [intOf];omega
    ·obtain rfl:q=n':=by omega
     have hp:k+q<s2.size:=by have:=HM.out;omega
     have hpi:(k:Int)+q<M:=by have:=HM.out;omega
     have e1:((k:Int)+q).toNat=k+q:=by omega
     have hsp:s2[k+q]?=some (.int .u64 0):=by rw [Array.getElem?_eq_getElem hp,hss _ hp,hz0 _ (Nat.le_refl _)]
     have HR:Hid (val (fun j=>if j=k+q then C else z2 j) M=val x (k+1)*val y q):=by
      show _=_
      rw [val_set z2 (k+q) C M (by have:=HM.out;omega),hz0 _ (Nat.le_refl _)]
      exact mul_outer _ _ _ _ _ k q hv.out
     have HSS:Hid (∀ j h,s2[j]'h=Value.int .u64 (z2 j)):=hss
     have HZW:Hid (Words z2):=hzw
     have HZ0:Hid (∀ j,k+q<=j->z2 j=0):=hz0
     clear hss hzw hz0 hx hy hcw hcw' hmk hv hcx
     go_wp2
     go_roundw
     case rel=>exact ⟨k+1,m2,s2.setIfInBounds (k+q) (.int .u64 C),fun j=>if j=k+q then C else z2 j,by omega,by go_num,by simp [hsz],upd_get HSS.out,upd_words HZW.out hCb,fun j hj=>(if_neg (show ¬ j=k+q by omega)).trans (HZ0.out j (by omega)),HR.out,by simp [go_sem]⟩
     case measure=>simp [intOf];omega
  ·obtain rfl:k=n:=by omega
   have hT:=trim_any _ _ _ _ _ (by have:=HM.out;omega) ((num_of_block (w:=w) (by have:=HM.out;omega) hzw (fun i hi=>hz0 i (by have:=HM.out;omega)) hsz hss).drewN m)
   have hle:=sizeL_le z M
   clear hss hmk hx hy hcw hcw' hzw hz0
   go_wp2_with (go_at_call 56;refine hT.mono ?_;rintro e w1 ⟨g,cap,rfl,hN,hB⟩)
   go_ret
   exact ⟨g,_,cap,z,rfl,Nat.le_trans hle (Nat.le_of_eq HM.out.symm),hN,by rw [HM.out];exact hv,(below_drewN (below1 w _) m).trans (hB.mono (by simp)),sizeL_sizeL _ _⟩
end
theorem radd_tr (a a':Option Addr)(n c n' c':Nat)(x y:Nat->Int)(w:World)(hn:n<4294967290)(hn':n'<4294967290)(h:Num w a n c x)(h':Num w a' n' c' y) :
  Calls Tryz.prog 21 #[.slice a n c,.slice a' n' c'] w fun e w'=>∃ g k cap,e=.returned (.slice (some ⟨g,0,none⟩) k cap)/\k<=max n n'+1/\Num w' (some ⟨g,0,none⟩) k cap (sumW x y)/\Below w.heap.size w w'/\sizeL (sumW x y) k=k:=by
 have hx:=h.2.2.1
 have hy:=h'.2.2.1
 have zx:=h.2.2.2.1
 have zy:=h'.2.2.2.1
 obtain ⟨M,hM⟩:∃ M,max n n'+1=M:=⟨_,rfl⟩
 have hMi:max (n:Int) n'+1=(M:Int):=by omega
 have hMb:M<4294967292:=by omega
 have hmk:=fun w=>make_any (max (n:Int) n'+1) M hMi (by omega) w
 have hfin:∀ (ss:Array Value),ss.size=M->(∀ j h,ss[j]'h=Value.int .u64 (sumW x y j))->Num (w.alloc (.cells ss 22)) (some ⟨w.heap.size,0,none⟩) M M (sumW x y):=fun ss h1 h2=>num_of_block (by omega) (sumW_words x y) (fun i hi=>sumW_zero (n:=max n n') hx hy (fun i hi=>zx i (by omega)) (fun i hi=>zy i (by omega)) i (by omega)) h1 (fun j hj=>by rw [h2 j hj])
 have hw1:=fun (i:Nat) (ss:Array Value)=>word_any a n c i x (w.alloc (.cells ss 22)) (h.next (below1 w _))
 have hw2:=fun (i:Nat) (ss:Array Value)=>word_any a' n' c' i y (w.alloc (.cells ss 22)) (h'.next (below1 w _))
 have HM:Hid (max n n'+1=M):=hM
 have HZ:Hid ((arrOf (fun _=>0) M).size=M/\∀ j h,(arrOf (fun _=>0) M)[j]'h=Value.int .u64 0):=⟨arrOf_size _ _,fun j h=>arrOf_get _ _ _ _⟩
 clear h h' zx zy hM hMi
 generalize arrOf (fun _=>0) M=zz at *
 go_enter Tryz.func21,Tryz.ntmps21
 go_wp2
 go_loopw [6,7,17,20] (fun c u7 i u20 wr=>∃ (k:Nat) (ss:Array Value),k<=M/\i=.int .i64 k/\c=.int .u64 (carryW x y k)/\ss.size=M/\(∀ j h,ss[j]'h=Value.int .u64 (if j<k then sumW x y j else 0))/\wr=w.alloc (.cells ss 22)) (fun _ _ i _ _=>M-(intOf i).toNat)
 case atStart=>exact ⟨0,zz,Nat.zero_le _,rfl,rfl,HZ.out.1,fun j h=>by rw [HZ.out.2 j h];simp,rfl⟩
 case round =>
  obtain ⟨k,ss,hk,rfl,rfl,hsz,hss,rfl⟩:=hrel
  have hcar:=carryW_01 hx hy k
  by_cases h8:k<M
  ·have h8i:(k:Int)<M:=by omega
   have h8s:k<ss.size:=by omega
   have bx:=hx k
   have b_y:=hy k
   have hsk:ss[k]?=some (.int .u64 0):=by rw [Array.getElem?_eq_getElem h8s,hss k h8s,if_neg (by omega)]
   have hadd:=fun w=>add64 (x k) (y k) (carryW x y k) bx.1 b_y.1 hcar.1 hcar.2 w
   have hwa:=hw1 k ss
   have hwb:=hw2 k ss
   have HR:Hid (∀ (i:Nat) (h:i<(ss.setIfInBounds k (.int .u64 (sumW x y k))).size),(ss.setIfInBounds k (.int .u64 (sumW x y k)))[i]'h=Value.int .u64 (if i<k+1 then sumW x y i else 0)):=set_next hss
   clear hss hw1 hw2 hfin hmk hx hy
   go_wp2_with (first|(go_at_call_of 55 (Value.slice a n c);refine hwa.mono ?_;rintro e w' ⟨rfl,rfl⟩)|(go_at_call_of 55 (Value.slice a' n' c');refine hwb.mono ?_;rintro e w' ⟨rfl,rfl⟩))
   go_roundw
   case rel=>exact ⟨k+1,ss.setIfInBounds k (.int .u64 (sumW x y k)),by omega,by go_num,rfl,by simp [hsz],HR.out,rfl⟩
   case measure=>simp [intOf];omega
  ·obtain rfl:k=M:=by omega
   have hss':∀ j h,ss[j]'h=Value.int .u64 (sumW x y j):=by
    intro j h;rw [hss j h,if_pos (by omega)]
   have hT:=trim_any _ _ _ _ _ (by omega) (hfin ss hsz hss')
   have hle:=sizeL_le (sumW x y) k
   clear hss hss' hw1 hw2 hfin hmk hx hy
   go_wp2_with (go_at_call 56;refine hT.mono ?_;rintro e w1 ⟨g,cap,rfl,hN,hB⟩)
   go_ret
   exact ⟨g,_,cap,rfl,Nat.le_trans hle (Nat.le_of_eq HM.out.symm),hN,(below1 w _).trans (hB.mono (by simp)),sizeL_sizeL _ _⟩
theorem radd_vt (a a':Option Addr)(n c n' c':Nat)(x y:Nat->Int)(w:World)(hn:n<4000000000)(hn':n'<4000000000)(h:Num w a n c x)(h':Num w a' n' c' y) :
  Calls Tryz.prog 21 #[.slice a n c,.slice a' n' c'] w fun e w'=>∃ g k cap z,e=.returned (.slice (some ⟨g,0,none⟩) k cap)/\k<=max n n'+1/\Num w' (some ⟨g,0,none⟩) k cap z/\val z k=val x n+val y n'/\Below w.heap.size w w'/\sizeL z k=k:=by
 refine (radd_tr a a' n c n' c' x y w (by omega) (by omega) h h').mono fun e w' ⟨g,k,cap,e1,hk,hN,hB,ht⟩=>⟨g,k,cap,_,e1,hk,hN,?_,hB,ht⟩
 have e:=sum_val (x:=x) (y:=y) (max n n'+1)
 rw [sum_end h.2.2.1 h'.2.2.1 h.2.2.2.1 h'.2.2.2.1 (by omega) (by omega),val_more h.2.2.2.1 _ (by omega),val_more h'.2.2.2.1 _ (by omega),val_more hN.2.2.2.1 _ hk] at e
 omega
end Go.Proofs.YtgknbdehlmlipaaGreatDoor
