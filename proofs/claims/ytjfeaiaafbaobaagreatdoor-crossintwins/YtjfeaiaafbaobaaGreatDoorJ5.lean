/-
  Texts that the proof leans on.
-/
import Derived.Test.YtjfeaiaafbaobaaGreatDoorJ2
import Derived.Laws.Externs
import Derived.Deep.RegionHeld3
import Derived.Deep.DrawnRows
import Derived.BigQuiet
import Derived.Deep.AppendLies
import Derived.BigRegion
import Derived.Test.YtjfeaiaafbaobaaGreatDoorJ1
import Derived.Test.YtjfeaiaafbaobaaGreatDoorJ4
import Derived.Test.YtjfeaiaafbaobaaGreatDoorJ3
import Derived.Deep.Cut
import Derived.Deep.CutRange
import Derived.Laws.IdiomCopy
import Derived.Laws.CopyRow
import Derived.Deep.WholeRow
import Derived.ChangeKeysEq
set_option linter.unusedVariables false
set_option linter.unusedSectionVars false
set_option linter.unusedSimpArgs false
set_option maxHeartbeats 8000000
set_option maxRecDepth 20000
namespace Go.Proofs.YtjfeaiaafbaobaaGreatDoor
open Go.RowKit
def arrOf (f:Nat->Int)(n:Nat):Array Value:=((List.range n).map fun i=>Value.int .u64 (f i)).toArray
@[simp] theorem arrOf_size (f:Nat->Int) (n:Nat):(arrOf f n).size=n:=by simp [arrOf]
theorem arrOf_get (f:Nat->Int)(n i:Nat)(h:i<(arrOf f n).size):(arrOf f n)[i]'h=.int .u64 (f i):=by simp [arrOf]
theorem arrOf_get? (f:Nat->Int)(n i:Nat)(h:i<n):(arrOf f n)[i]?=some (.int .u64 (f i)):=by simp [arrOf,h]
theorem arrOf_set (f:Nat->Int)(n k:Nat)(v:Int):(arrOf f n).setIfInBounds k (.int .u64 v)=arrOf (fun i=>if i=k then v else f i) n:=by
 apply Array.ext
 ·simp
 ·intro i h1 h2
  rw [Array.getElem_setIfInBounds]
  simp only [arrOf_get]
  by_cases h:k=i
  ·subst h;simp
  ·simp [h,Ne.symm h];exact arrOf_get _ _ _ _
  simpa using h2
theorem arrOf_congr {f g:Nat->Int}{n:Nat}(h:∀ i,i<n->f i=g i):arrOf f n=arrOf g n:=by
 apply Array.ext
 ·simp
 ·intro i h1 h2
  simp only [arrOf_get]
  rw [h i (by simpa using h1)]
theorem arrOf_of (cs:Array Value)(n:Nat)(f:Nat->Int)(hs:cs.size=n)(h:∀ i,i<n->cs[i]?=some (.int .u64 (f i))):cs=arrOf f n:=by
 apply Array.ext
 ·simp [hs]
 ·intro i h1 h2
  rw [arrOf_get]
  have:=h i (by omega)
  rw [Array.getElem?_eq_getElem h1] at this
  exact Option.some.inj this
theorem add64 (x y c:Int)(hx:0<=x)(hy:0<=y)(hc0:0<=c)(hc:c<=1)(w:World):(callFunc 36 #[.int .u64 x,.int .u64 y,.int .u64 c]).run Tryz.prog w =
  .ok (.value (.tuple #[.int .u64 ((x+y+c)%18446744073709551616),.int .u64 ((x+y+c)/18446744073709551616)])) w:=by
 rw [run_callFunc_extern Tryz.func36 (by kernel_rfl) (by kernel_rfl) (by kernel_rfl) (e:=add64Entry) (by kernel_rfl),run_add64 x y c hx hy hc0 hc]
 rfl
def sub64E:Array Value->Sem Value:=fun args=>do
 let (x,y,b) ← Extern.MathBitsCarry.three "Sub64" args
 pure (Extern.MathBitsCarry.pair ((x+Extern.MathBitsCarry.m64-y-b)%Extern.MathBitsCarry.m64) (if x<y+b then 1 else 0))
theorem run_sub64E (x y b:Nat)(hb:b<=1)(w:World) :
  (sub64E #[.int .u64 x,.int .u64 y,.int .u64 b]).run Tryz.prog w =
   .ok (.tuple #[.int .u64 (((x+18446744073709551616-y-b)%18446744073709551616:Nat):Int),.int .u64 ((if x<y+b then 1 else 0:Nat):Int)]) w:=by
 have:b=0∨b=1:=by omega
 rcases this with rfl|rfl<;>rfl
def bor (x y b:Int):Int:=if x<y+b then 1 else 0
theorem sub64 (x y b:Int)(hx:0<=x)(hy:0<=y)(hy':y<18446744073709551616)(hb0:0<=b)(hb:b<=1)(w:World):(callFunc 135 #[.int .u64 x,.int .u64 y,.int .u64 b]).run Tryz.prog w =
  .ok (.value (.tuple #[.int .u64 ((x-y-b)%18446744073709551616),.int .u64 (bor x y b)])) w:=by
 obtain ⟨x,rfl⟩:=Int.eq_ofNat_of_zero_le hx
 obtain ⟨y,rfl⟩:=Int.eq_ofNat_of_zero_le hy
 obtain ⟨b,rfl⟩:=Int.eq_ofNat_of_zero_le hb0
 have e1:(((x+18446744073709551616-y-b)%18446744073709551616:Nat):Int)=((x:Int)-y-b)%18446744073709551616:=by omega
 have e2:((if x<y+b then 1 else 0:Nat):Int)=bor x y b:=by unfold bor;split<;>split<;>omega
 rw [run_callFunc_extern Tryz.func135 (by kernel_rfl) (by kernel_rfl) (by kernel_rfl) (e:=sub64E) (by kernel_rfl),run_sub64E x y b (by omega),← e1,← e2]
 rfl
section
attribute [local go_sem ↓] Go.wp_at_zero Go.wp_at_succ
theorem setCell_drewN (w:World)(n:Nat)(a:Addr)(v:Value):(w.drewN n).setCell a v=(w.setCell a v).drewN n:=rfl
theorem alloc_drewN (w:World)(n:Nat)(o:Obj):(w.drewN n).alloc o=(w.alloc o).drewN n:=rfl
attribute [local go_sem] setCell_drewN alloc_drewN
def carryW (x y:Nat->Int):Nat->Int
 | 0=>0
 | k+1=>(x k+y k+carryW x y k)/18446744073709551616
def sumW (x y:Nat->Int)(k:Nat):Int:=(x k+y k+carryW x y k)%18446744073709551616
def Words (x:Nat->Int):Prop:=∀ i,0<=x i/\x i<=18446744073709551615
theorem carryW_01 {x y:Nat->Int}(hx:Words x)(hy:Words y)(k:Nat):0<=carryW x y k/\carryW x y k<=1:=by
 induction k with
 | zero=>simp [carryW]
 | succ k ih=>have:=hx k;have:=hy k;simp only [carryW];omega
def borW (x y:Nat->Int):Nat->Int
 | 0=>0
 | k+1=>bor (x k) (y k) (borW x y k)
def difW (x y:Nat->Int)(k:Nat):Int:=(x k-y k-borW x y k)%18446744073709551616
theorem bor_01 (x y b:Int):0<=bor x y b/\bor x y b<=1:=by unfold bor;split<;>omega
theorem borW_01 (x y:Nat->Int)(k:Nat):0<=borW x y k/\borW x y k<=1:=by
 cases k with
 | zero=>simp [borW]
 | succ k=>exact bor_01 _ _ _
theorem below_alloc4 (w:World)(o1 o2 o3 o4:Obj)(m:Nat):Below w.heap.size w ((((((w.alloc o1).alloc o2).alloc o3).alloc o4).drewN m)):=by
 have h:=((((Below.refl w.heap.size w).alloc (Nat.le_refl _) o1).alloc (by simp) o2).alloc (by simp;omega) o3).alloc (by simp;omega) o4
 exact ⟨h.os,h.tape,h.output,h.size,h.block⟩
theorem below_alloc3 (w:World)(o1 o2 o3:Obj)(m:Nat):Below w.heap.size w (((((w.alloc o1).alloc o2).alloc o3).drewN m)):=by
 have h:=(((Below.refl w.heap.size w).alloc (Nat.le_refl _) o1).alloc (by simp) o2).alloc (by simp;omega) o3
 exact ⟨h.os,h.tape,h.output,h.size,h.block⟩
theorem set_next {ss:Array Value}{k:Nat}{f:Nat->Int}(hss:∀ j h,ss[j]'h=Value.int .u64 (if j<k then f j else 0))(j:Nat)(h:j<(ss.setIfInBounds k (.int .u64 (f k))).size):(ss.setIfInBounds k (.int .u64 (f k)))[j]'h=Value.int .u64 (if j<k+1 then f j else 0):=by
 have h':j<ss.size:=by simpa using h
 rw [Array.getElem_setIfInBounds]
 by_cases e:k=j
 ·subst e;simp
 ·rw [if_neg e,hss j h']
  by_cases e2:j<k
  ·simp [e2,Nat.lt_succ_of_lt e2]
  ·simp [e2,show ¬ j<k+1 by omega]
 exact h'
end
section
attribute [local go_sem] setCell_drewN alloc_drewN
theorem div64_0 (lo y:Int)(w:World)(hl:0<=lo/\lo<=18446744073709551615)(hy:0<y/\y<=18446744073709551615) :
  Calls Tryz.prog 132 #[.int .u64 0,.int .u64 lo,.int .u64 y] w fun e w'=>e=.returned (.tuple #[.int .u64 (lo/y),.int .u64 (lo%y)])/\∃ m,w'=w.drewN m:=by
 have hy0:¬ y=0:=by omega
 go_enter Tryz.func132,Tryz.ntmps132
 go_wp2
 go_quiet (fail)
 go_wp2
 go_ret2
 exact ⟨rfl,_,rfl⟩
def remJ (x:Nat->Int)(d:Int)(n:Nat):Nat->Int
 | 0=>0
 | j+1=>(remJ x d n j*18446744073709551616+x (n-1-j))%d
def quoW (x:Nat->Int)(d:Int)(n j:Nat):Int:=(remJ x d n (n-1-j)*18446744073709551616+x j)/d
theorem remJ_bd (x:Nat->Int)(d:Int)(n j:Nat)(hd:0<d):0<=remJ x d n j/\remJ x d n j<d:=by
 cases j with
 | zero=>exact ⟨Int.le_refl _,hd⟩
 | succ j=>exact ⟨Int.emod_nonneg _ (by omega),Int.emod_lt_of_pos _ hd⟩
theorem set_prev {ss:Array Value}{k:Nat}{f:Nat->Int}(hss:∀ j h,ss[j]'h=Value.int .u64 (if k+1<=j then f j else 0))(j:Nat)(h:j<(ss.setIfInBounds k (.int .u64 (f k))).size):(ss.setIfInBounds k (.int .u64 (f k)))[j]'h=Value.int .u64 (if k<=j then f j else 0):=by
 have h':j<ss.size:=by simpa using h
 rw [Array.getElem_setIfInBounds]
 by_cases e:k=j
 ·subst e;simp
 ·rw [if_neg e,hss j h']
  by_cases e2:k<=j
  ·simp [e2,show k+1<=j by omega]
  ·simp [e2,show ¬ k+1<=j by omega]
 exact h'
theorem bcell {W w1:World}(hb:Below W.heap.size W w1):(∀ b o,b<W.heap.size->w1.cell? ⟨b,o,none⟩=W.cell? ⟨b,o,none⟩)/\(∀ b o,b<W.heap.size->w1.frozen? ⟨b,o,none⟩=W.frozen? ⟨b,o,none⟩) :=
 ⟨fun b o h=>hb.cell (p:=⟨b,o,none⟩) h,fun b o h=>hb.frozen (p:=⟨b,o,none⟩) h⟩
end
def Num (w:World)(a:Option Addr)(n c:Nat)(x:Nat->Int):Prop :=
 n<=c/\c<=maxLen/\Words x/\(∀ i,n<=i->x i=0)/\((a=none/\c=0)∨∃ b off,a=some ⟨b,off,none⟩/\b<w.heap.size/\∀ i,i<n->w.cell? ⟨b,off+i,none⟩=some (.int .u64 (x i)))
theorem Num.next {w w':World}{a:Option Addr}{n c:Nat}{x:Nat->Int}(h:Num w a n c x)(hb:Below w.heap.size w w'):Num w' a n c x:=by
 obtain ⟨h1,h2,h3,h4,h5⟩:=h
 refine ⟨h1,h2,h3,h4,?_⟩
 rcases h5 with h5|⟨b,off,h6,h7,h8⟩
 ·exact Or.inl h5
 ·exact Or.inr ⟨b,off,h6,Nat.lt_of_lt_of_le h7 hb.size,fun i hi=>(hb.cell (p:=⟨b,off+i,none⟩) h7).trans (h8 i hi)⟩
theorem Num.drewN {w:World}{a:Option Addr}{n c:Nat}{x:Nat->Int}(h:Num w a n c x)(m:Nat):Num (w.drewN m) a n c x:=h
theorem word_any (a:Option Addr)(n c i:Nat)(x:Nat->Int)(w:World)(h:Num w a n c x) :
  Calls Tryz.prog 34 #[.slice a n c,.int .i64 i] w fun e w'=>e=.returned (.int .u64 (x i))/\w'=w:=by
 obtain ⟨h1,h2,h3,h4,h5⟩:=h
 by_cases hi:i<n
 ·rcases h5 with ⟨rfl,rfl⟩|⟨b,off,rfl,hbs,hc⟩
  ·omega
  ·have hci:=hc i hi
   have hi':(i:Int)<n:=by omega
   clear hc h4 h3
   go_enter Tryz.func34,Tryz.ntmps34
   go_wp2
   go_ret
   exact ⟨rfl,rfl⟩
 ·have hz:=h4 i (by omega)
  have HZ:Hid (x i=0):=hz
  clear hz h4 h3 h5
  go_enter Tryz.func34,Tryz.ntmps34
  go_wp2
  go_ret
  exact ⟨ret_int HZ.out.symm,rfl⟩
def cmpL (x y:Nat->Int):Nat->Int
 | 0=>0
 | n+1=>if x n<y n then -1 else if y n<x n then 1 else cmpL x y n
theorem cmp_any (a a':Option Addr)(n c n' c':Nat)(x y:Nat->Int)(w:World)(hn:n<4294967296)(hn':n'<4294967296)(h:Num w a n c x)(h':Num w a' n' c' y) :
  Calls Tryz.prog 73 #[.slice a n c,.slice a' n' c'] w fun e w'=>e=.returned (.int .i64 (cmpL x y (max n n')))/\w'=w:=by
 have hw1:=fun i=>word_any a n c i x w h
 have hw2:=fun i=>word_any a' n' c' i y w h'
 clear h h'
 go_enter Tryz.func73,Tryz.ntmps73
 go_wp2
 go_loop [5,6,7] (fun t u6 u7=>∃ k:Nat,k<=max n n'/\cmpL x y k=cmpL x y (max n n')/\t=.int .i64 ((k:Int)-1)) (fun t _ _=>(intOf t+1).toNat)
 case atStart=>exact ⟨max n n',Nat.le_refl _,rfl,by go_num⟩
 case round =>
  obtain ⟨k,hk,hs,rfl⟩:=hrel
  by_cases h0:k=0
  ·subst h0
   have HS:Hid (cmpL x y (max n n')=0):=hs.symm
   clear hs
   go_wp2
   go_ret
   exact ⟨ret_int HS.out.symm,rfl⟩
  ·obtain ⟨j,rfl⟩:∃ j,k=j+1:=⟨k-1,by omega⟩
   have ej:((j+1:Nat):Int)-1=j:=by omega
   have hj:j<4294967296:=by omega
   rw [ej]
   have HS:Hid ((if x j<y j then -1 else if y j<x j then 1 else cmpL x y j)=cmpL x y (max n n')):=hs
   have hkm:j<=max n n':=by omega
   clear hs ej hk
   have hwa:=hw1 j
   have hwb:=hw2 j
   by_cases hlt:x j<y j
   ·have HR:Hid (cmpL x y (max n n')=-1):=by rw [← HS.out,if_pos hlt];rfl
    clear HS
    go_wp2_with (first|(go_at_call_of 34 (Value.slice a n c);refine hwa.mono ?_;rintro e w' ⟨rfl,rfl⟩)|(go_at_call_of 34 (Value.slice a' n' c');refine hwb.mono ?_;rintro e w' ⟨rfl,rfl⟩))
    go_ret
    exact ⟨ret_int HR.out.symm,rfl⟩
   ·by_cases hgt:y j<x j
    ·have HR:Hid (cmpL x y (max n n')=1):=by rw [← HS.out,if_neg hlt,if_pos hgt];rfl
     clear HS
     go_wp2_with (first|(go_at_call_of 34 (Value.slice a n c);refine hwa.mono ?_;rintro e w' ⟨rfl,rfl⟩)|(go_at_call_of 34 (Value.slice a' n' c');refine hwb.mono ?_;rintro e w' ⟨rfl,rfl⟩))
     go_ret
     exact ⟨ret_int HR.out.symm,rfl⟩
    ·have HR:Hid (cmpL x y j=cmpL x y (max n n')):=by rw [← HS.out,if_neg hlt,if_neg hgt];rfl
     clear HS
     go_wp2_with (first|(go_at_call_of 34 (Value.slice a n c);refine hwa.mono ?_;rintro e w' ⟨rfl,rfl⟩)|(go_at_call_of 34 (Value.slice a' n' c');refine hwb.mono ?_;rintro e w' ⟨rfl,rfl⟩))
     go_round
     case rel=>exact ⟨j,hkm,HR.out,by go_num⟩
     case measure=>simp [intOf]
theorem Tryz.info22:(Tryz.prog.info? 22).map (fun i=>(i.zero,i.size,i.bytes))=some (some (.int .u64 0),1,8):=by kernel_rfl
theorem num_of_owns {w w':World}{g k cap base:Nat}{x:Nat->Int}(hx:Words x)(hz:∀ i,k<=i->x i=0)(h:w'.ownsRow base 22 1 (.slice (some ⟨g,0,none⟩) k cap) k ((List.range k).map fun i=>Value.int .u64 (x i)))(hg:g<w'.heap.size):Num w' (some ⟨g,0,none⟩) k cap x:=by
 obtain ⟨hl,h⟩:=h
 rcases h with ⟨h,_⟩|⟨g',cap',cur,he,hb,hh,h1,h2,h3,h4⟩
 ·cases h
 ·cases he
  refine ⟨h1,h2,hx,hz,Or.inr ⟨g,0,rfl,hg,fun i hi=>?_⟩⟩
  rw [Nat.zero_add]
  have hcur:cur[i]?=some (.int .u64 (x i)):=by
   have:(cur.toList.take (k*1))[i]?=some (.int .u64 (x i)):=by rw [h4];simp [hi]
   rw [List.getElem?_take] at this
   simpa [hi] using this
  unfold World.cell?
  simp [hh,hcur]
theorem trim_some (b off n c:Nat)(x:Nat->Int)(w:World)(hn:n<4294967296)(h:Num w (some ⟨b,off,none⟩) n c x) :
  Calls Tryz.prog 37 #[.slice (some ⟨b,off,none⟩) n c] w fun e w'=>∃ g cap,e=.returned (.slice (some ⟨g,0,none⟩) (sizeL x n) cap)/\Num w' (some ⟨g,0,none⟩) (sizeL x n) cap x/\Below w.heap.size w w':=by
 obtain ⟨h1,h2,h3,h4,h5⟩:=h
 have hc:b<w.heap.size/\∀ i,i<n->w.cell? ⟨b,off+i,none⟩=some (.int .u64 (x i)):=by
  rcases h5 with ⟨h,_⟩|⟨b',off',h,hbs,hc⟩
  ·cases h
  ·cases h;exact ⟨hbs,hc⟩
 obtain ⟨hbs,hc⟩:=hc
 clear h5
 obtain ⟨i0,hi,hz0,hz1,hz2⟩:=info_parts Tryz.info22
 unfold maxLen at h2
 go_enter Tryz.func37,Tryz.ntmps37
 go_wp2
 go_loop [3] (fun t=>∃ k:Nat,k<=n/\sizeL x k=sizeL x n/\(∀ i,k<=i->x i=0)/\t=.int .i64 k) (fun t=>(intOf t).toNat)
 case atStart=>exact ⟨n,Nat.le_refl _,rfl,h4,rfl⟩
 case round =>
  obtain ⟨k,hk,hs,hz,rfl⟩:=hrel
  clear h4
  by_cases h0:k=0
  ·subst h0
   have HS:Hid (sizeL x n=0):=hs.symm
   have HN:Hid (Num (w.alloc (.cells #[] 22)) (some ⟨w.heap.size,0,none⟩) 0 0 x):=⟨Nat.le_refl _,by unfold maxLen;omega,h3,hz,Or.inr ⟨w.heap.size,0,rfl,by simp,fun i hi=>by omega⟩⟩
   clear hs hz hc h3
   go_wp2
   go_ret
   refine ⟨w.heap.size,0,?_,?_,(Below.refl _ _).alloc (Nat.le_refl _) _⟩
   ·rw [HS.out];rfl
   ·rw [HS.out];exact HN.out
  ·obtain ⟨j,rfl⟩:∃ j,k=j+1:=⟨k-1,by omega⟩
   have hcj:=hc j (by omega)
   by_cases hzj:x j=0
   ·have HS:Hid (sizeL x j=sizeL x n):=by
     have:sizeL x (j+1)=sizeL x j:=by simp [sizeL,hzj]
     exact this.symm.trans hs
    have HZ:Hid (∀ i,j<=i->x i=0):=fun i hji=>by
     by_cases e:i=j
     ·rw [e];exact hzj
     ·exact hz i (by omega)
    clear hs hz hc
    go_wp2
    go_round
    case rel=>exact ⟨j,by omega,HS.out,HZ.out,by go_num⟩
    case measure=>simp [intOf]
   ·have HS:Hid (sizeL x n=j+1):=by
     have:sizeL x (j+1)=j+1:=by simp [sizeL,hzj]
     exact hs.symm.trans this
    have HZ:Hid (∀ i,j+1<=i->x i=0):=hz
    have HC:Hid (∀ i,i<n->w.cell? ⟨b,off+i,none⟩=some (.int .u64 (x i))):=hc
    clear hs hz hc
    have HOWN:(w.alloc (.cells #[] 22)).ownsRow w.heap.size 22 1 (.slice (some ⟨w.heap.size,0,none⟩) 0 0) 0 [] :=
     ⟨rfl,Or.inr ⟨w.heap.size,0,#[],rfl,Nat.le_refl _,(MapKept.heap_alloc w _).1,Nat.le_refl _,by unfold maxLen;omega,rfl,rfl⟩⟩
    have HNEWS:∀ (q:Nat) (u:Value),((List.range (j+1)).map fun i=>Value.int .u64 (x i))[q]?=some u->(w.alloc (.cells #[] 22)).cell? ((⟨b,off,none⟩:Addr).add q)=some u:=by
     intro q u hq
     have hql:q<j+1:=by
      rcases Nat.lt_or_ge q (j+1) with h|h
      ·exact h
      ·rw [List.getElem?_eq_none (by simpa using h)] at hq;cases hq
     have e2:u=.int .u64 (x q):=by simpa [hql] using hq.symm
     rw [e2]
     have ea:(⟨b,off,none⟩:Addr).add q=⟨b,off+q,none⟩:=by simp [Addr.add]
     rw [ea]
     exact (((Below.refl w.heap.size w).alloc (Nat.le_refl _) _).cell (p:=⟨b,off+q,none⟩) hbs).trans (HC.out q (by omega))
    have HONE:∀ u ∈ ((List.range (j+1)).map fun i=>Value.int .u64 (x i)),u.oneCell'=true:=by
     intro u hu
     obtain ⟨q,_,rfl⟩:=List.mem_map.1 hu
     rfl
    go_wp2_with (at_builtin;refine wpList_append_lies _ rfl (.tmp 18) (.tmp 21) 40 rfl w.heap.size 22 i0 (.int .u64 0) 1 8 Tryz.underlying40 hi hz0 hz1 hz2 rfl (by decide) (.slice (some ⟨w.heap.size,0,none⟩) 0 0) 0 [] rfl HOWN ⟨b,off,none⟩ (j+1) c ((List.range (j+1)).map fun i=>Value.int .u64 (x i)) rfl (by simp) HNEWS HONE (by omega) (by unfold maxLen;omega) (by omega) (by simp) (w.heap.size+1) (by simp) ?_;intro g cap w1 hown hgrow hat hlt;clear HOWN HNEWS HONE)
    have hown':w1.ownsRow w.heap.size 22 1 (.slice (some ⟨g,0,none⟩) (j+1) cap) (j+1) ((List.range (j+1)).map fun i=>Value.int .u64 (x i)):=by
     have e0:0+(j+1)=j+1:=by omega
     rw [e0] at hown
     simpa using hown
    have HN:=num_of_owns (w:=w) h3 HZ.out hown' hlt
    have HB:Below w.heap.size w w1:=((Below.refl _ _).alloc (Nat.le_refl _) _).grown hgrow (by simp) (by intro k hk;cases hk;exact Nat.le_refl _)
    clear hown hown' hgrow
    go_wp2
    go_ret
    refine ⟨g,cap,?_,?_,HB⟩
    ·rw [HS.out];simp
    ·rw [HS.out];exact HN
theorem trim_nil (x:Nat->Int)(w:World)(hx:∀ i,x i=0) :
  Calls Tryz.prog 37 #[.slice none 0 0] w fun e w'=>∃ g cap,e=.returned (.slice (some ⟨g,0,none⟩) 0 cap)/\Num w' (some ⟨g,0,none⟩) 0 cap x/\Below w.heap.size w w':=by
 go_enter Tryz.func37,Tryz.ntmps37
 go_wp2
 go_loop [3] (fun t=>t=.int .i64 0) (fun t=>(intOf t).toNat)
 case atStart=>rfl
 case round =>
  subst hrel
  go_wp2
  go_ret
  refine ⟨w.heap.size,0,rfl,?_,(Below.refl _ _).alloc (Nat.le_refl _) _⟩
  exact ⟨Nat.le_refl _,by unfold maxLen;omega,fun i=>by rw [hx i];decide,fun i _=>hx i,Or.inr ⟨w.heap.size,0,rfl,by simp,fun i hi=>by omega⟩⟩
theorem trim_any (a:Option Addr)(n c:Nat)(x:Nat->Int)(w:World)(hn:n<4294967296)(h:Num w a n c x) :
  Calls Tryz.prog 37 #[.slice a n c] w fun e w'=>∃ g cap,e=.returned (.slice (some ⟨g,0,none⟩) (sizeL x n) cap)/\Num w' (some ⟨g,0,none⟩) (sizeL x n) cap x/\Below w.heap.size w w':=by
 have h':=h
 obtain ⟨h1,h2,h3,h4,h5⟩:=h'
 rcases h5 with ⟨rfl,rfl⟩|⟨b,off,rfl,_,_⟩
 ·obtain rfl:n=0:=by omega
  exact trim_nil x w (fun i=>h4 i (Nat.zero_le _))
 ·exact trim_some b off n c x w hn h
theorem made_zero (k:Nat):madeCells (Value.int .u64 0).cells k=arrOf (fun _=>0) k:=by
 apply Array.ext
 ·simp [madeCells]
 ·intro i h1 h2
  rw [arrOf_get]
  simp [madeCells,Value.cells,Nat.mod_one]
theorem make_any (L:Int)(k:Nat)(hL:L=k)(hk:k<8589934592)(w:World):(Instr.makeSlice 40 (.int .i64 L) (.int .i64 L)).run Tryz.prog w=.ok (.slice (some ⟨w.heap.size,0,none⟩) k k) (w.alloc (.cells (arrOf (fun _=>0) k) 22)):=by
 obtain ⟨i0,hi,hz0,hz1,hz2⟩:=info_parts Tryz.info22
 rw [run_make w 40 22 i0 (.int .u64 0) Tryz.underlying40 hi hz0 .i64 .i64 L L (by omega) (by omega) (by rw [hz2];omega) (by omega)]
 have e1:L.toNat=k:=by omega
 rw [e1,hz1,Nat.mul_one,made_zero]
theorem num_of_block {w:World}{k:Nat}{x:Nat->Int}{ss:Array Value}(hk:k<8589934592)(hx:Words x)(hz:∀ i,k<=i->x i=0)(hsz:ss.size=k)(hss:∀ j h,ss[j]'h=Value.int .u64 (x j)):Num (w.alloc (.cells ss 22)) (some ⟨w.heap.size,0,none⟩) k k x:=by
 refine ⟨Nat.le_refl _,by unfold maxLen;omega,hx,hz,Or.inr ⟨w.heap.size,0,rfl,by simp,fun i hi=>?_⟩⟩
 rw [Nat.zero_add,World.cell?_alloc_new,Array.getElem?_eq_getElem (by omega),hss i (by omega)]
theorem below1 (w:World)(o:Obj):Below w.heap.size w (w.alloc o):=(Below.refl _ _).alloc (Nat.le_refl _) _
theorem sumW_words (x y:Nat->Int):Words (sumW x y):=fun i=>⟨Int.emod_nonneg _ (by decide),by have:=Int.emod_lt_of_pos (x i+y i+carryW x y i) (b:=18446744073709551616) (by decide);unfold sumW;omega⟩
theorem sumW_zero {x y:Nat->Int}{n:Nat}(hx:Words x)(hy:Words y)(zx:∀ i,n<=i->x i=0)(zy:∀ i,n<=i->y i=0):∀ i,n+1<=i->sumW x y i=0:=by
 have hc:∀ j,n+1<=j->carryW x y j=0:=by
  intro j hj
  obtain ⟨q,rfl⟩:∃ q,j=q+1:=⟨j-1,by omega⟩
  have:=carryW_01 hx hy q
  simp only [carryW];rw [zx q (by omega),zy q (by omega)];omega
 intro i hi
 unfold sumW
 rw [zx i (by omega),zy i (by omega),hc i hi];rfl
theorem difW_words (x y:Nat->Int):Words (difW x y):=fun i=>⟨Int.emod_nonneg _ (by decide),by have:=Int.emod_lt_of_pos (x i-y i-borW x y i) (b:=18446744073709551616) (by decide);unfold difW;omega⟩
def difZ (x y:Nat->Int)(M i:Nat):Int:=if i<M then difW x y i else 0
theorem difZ_words (x y:Nat->Int)(M:Nat):Words (difZ x y M):=fun i=>by unfold difZ;split;exact difW_words x y i;decide
theorem radd_any (a a':Option Addr)(n c n' c':Nat)(x y:Nat->Int)(w:World)(hn:n<4294967290)(hn':n'<4294967290)(h:Num w a n c x)(h':Num w a' n' c' y) :
  Calls Tryz.prog 27 #[.slice a n c,.slice a' n' c'] w fun e w'=>∃ g k cap,e=.returned (.slice (some ⟨g,0,none⟩) k cap)/\k<=max n n'+1/\Num w' (some ⟨g,0,none⟩) k cap (sumW x y)/\Below w.heap.size w w':=by
 have hx:=h.2.2.1
 have hy:=h'.2.2.1
 have zx:=h.2.2.2.1
 have zy:=h'.2.2.2.1
 obtain ⟨M,hM⟩:∃ M,max n n'+1=M:=⟨_,rfl⟩
 have hMi:max (n:Int) n'+1=(M:Int):=by omega
 have hMb:M<4294967292:=by omega
 have hmk:=fun w=>make_any (max (n:Int) n'+1) M hMi (by omega) w
 have hfin:∀ (ss:Array Value),ss.size=M->(∀ j h,ss[j]'h=Value.int .u64 (sumW x y j))->Num (w.alloc (.cells ss 22)) (some ⟨w.heap.size,0,none⟩) M M (sumW x y):=fun ss h1 h2=>num_of_block (by omega) (sumW_words x y) (fun i hi=>sumW_zero (n:=max n n') hx hy (fun i hi=>zx i (by omega)) (fun i hi=>zy i (by omega)) i (by omega)) h1 (fun j hj=>by rw [h2 j hj])
 have hw1:=fun (i:Nat) (ss:Array Value)=>word_any a n c i x (w.alloc (.cells ss 22)) (h.next (below1 w _))
 have hw2:=fun (i:Nat) (ss:Array Value)=>word_any a' n' c' i y (w.alloc (.cells ss 22)) (h'.next (below1 w _))
 have HM:Hid (max n n'+1=M):=hM
 have HZ:Hid ((arrOf (fun _=>0) M).size=M/\∀ j h,(arrOf (fun _=>0) M)[j]'h=Value.int .u64 0):=⟨arrOf_size _ _,fun j h=>arrOf_get _ _ _ _⟩
 clear h h' zx zy hM hMi
 generalize arrOf (fun _=>0) M=zz at *
 go_enter Tryz.func27,Tryz.ntmps27
 go_wp2
 go_loopw [6,7,17,20] (fun c u7 i u20 wr=>∃ (k:Nat) (ss:Array Value),k<=M/\i=.int .i64 k/\c=.int .u64 (carryW x y k)/\ss.size=M/\(∀ j h,ss[j]'h=Value.int .u64 (if j<k then sumW x y j else 0))/\wr=w.alloc (.cells ss 22)) (fun _ _ i _ _=>M-(intOf i).toNat)
 case atStart=>exact ⟨0,zz,Nat.zero_le _,rfl,rfl,HZ.out.1,fun j h=>by rw [HZ.out.2 j h];simp,rfl⟩
 case round =>
  obtain ⟨k,ss,hk,rfl,rfl,hsz,hss,rfl⟩:=hrel
  have hcar:=carryW_01 hx hy k
  by_cases h8:k<M
  ·have h8i:(k:Int)<M:=by omega
   have h8s:k<ss.size:=by omega
   have bx:=hx k
   have b_y:=hy k
   have hsk:ss[k]?=some (.int .u64 0):=by rw [Array.getElem?_eq_getElem h8s,hss k h8s,if_neg (by omega)]
   have hadd:=fun w=>add64 (x k) (y k) (carryW x y k) bx.1 b_y.1 hcar.1 hcar.2 w
   have hwa:=hw1 k ss
   have hwb:=hw2 k ss
   have HR:Hid (∀ (i:Nat) (h:i<(ss.setIfInBounds k (.int .u64 (sumW x y k))).size),(ss.setIfInBounds k (.int .u64 (sumW x y k)))[i]'h=Value.int .u64 (if i<k+1 then sumW x y i else 0)):=set_next hss
   clear hss hw1 hw2 hfin hmk hx hy
   go_wp2_with (first|(go_at_call_of 34 (Value.slice a n c);refine hwa.mono ?_;rintro e w' ⟨rfl,rfl⟩)|(go_at_call_of 34 (Value.slice a' n' c');refine hwb.mono ?_;rintro e w' ⟨rfl,rfl⟩))
   go_roundw
   case rel=>exact ⟨k+1,ss.setIfInBounds k (.int .u64 (sumW x y k)),by omega,by go_num,rfl,by simp [hsz],HR.out,rfl⟩
   case measure=>simp [intOf];omega
  ·obtain rfl:k=M:=by omega
   have hss':∀ j h,ss[j]'h=Value.int .u64 (sumW x y j):=by
    intro j h;rw [hss j h,if_pos (by omega)]
   have hT:=trim_any _ _ _ _ _ (by omega) (hfin ss hsz hss')
   have hle:=sizeL_le (sumW x y) k
   clear hss hss' hw1 hw2 hfin hmk hx hy
   go_wp2_with (go_at_call 37;refine hT.mono ?_;rintro e w1 ⟨g,cap,rfl,hN,hB⟩)
   go_ret
   exact ⟨g,_,cap,rfl,Nat.le_trans hle (Nat.le_of_eq HM.out.symm),hN,(below1 w _).trans (hB.mono (by simp))⟩
section
attribute [local go_sem ↓] Go.wp_at_zero Go.wp_at_succ
attribute [local go_sem] setCell_drewN alloc_drewN
def orW (a b:Int):Int:=bits BinOp.or IntKind.u64 a b
theorem orW_eq (a b:Int)(ha:0<=a/\a<=18446744073709551615)(hb:0<=b/\b<=18446744073709551615):orW a b=((a.toNat ||| b.toNat:Nat):Int):=u64_or a b ha.1 (by omega) hb.1 (by omega)
theorem orW_comm (a b:Int)(ha:0<=a/\a<=18446744073709551615)(hb:0<=b/\b<=18446744073709551615):orW a b=orW b a:=by
 rw [orW_eq a b ha hb,orW_eq b a hb ha,Nat.or_comm]
theorem orW_zero (a:Int)(ha:0<=a/\a<=18446744073709551615):orW a 0=a:=by
 rw [orW_eq a 0 ha (by decide)];simp;omega
theorem zero_orW (a:Int)(ha:0<=a/\a<=18446744073709551615):orW 0 a=a:=by
 rw [orW_eq 0 a (by decide) ha];simp;omega
theorem orW_word (a b:Int)(ha:0<=a/\a<=18446744073709551615)(hb:0<=b/\b<=18446744073709551615):0<=orW a b/\orW a b<=18446744073709551615:=by
 rw [orW_eq a b ha hb]
 have:a.toNat ||| b.toNat<2^64:=Nat.or_lt_two_pow (by omega) (by omega)
 omega
theorem wrap_word (a:Int):0<=IntKind.u64.wrap a/\IntKind.u64.wrap a<=18446744073709551615:=by
 simp only [IntKind.wrap,IntKind.bits,IntKind.signed]
 have h1:=Int.emod_nonneg a (b:=18446744073709551616) (by decide)
 have h2:=Int.emod_lt_of_pos a (b:=18446744073709551616) (by decide)
 simp;omega
theorem wrap_id (a:Int)(ha:0<=a/\a<=18446744073709551615):IntKind.u64.wrap a=a:=by
 simp only [IntKind.wrap,IntKind.bits,IntKind.signed]
 simp;omega
theorem div_word (a:Int)(e:Nat)(ha:0<=a/\a<=18446744073709551615):0<=a/2^e/\a/2^e<=18446744073709551615:=by
 have hp:(0:Int)<2^e:=Int.pow_pos (by decide)
 have h1:=Int.ediv_nonneg ha.1 (Int.le_of_lt hp)
 have h2:=Int.ediv_le_self (2^e) ha.1
 omega
def lowp (x:Nat->Int)(q r j:Nat):Int:=if q+1<=j/\0<r then x (j-q-1)/2^(64-r) else 0
def finL (x:Nat->Int)(q r j:Nat):Int:=if q<=j then orW (lowp x q r j) (IntKind.u64.wrap (x (j-q)*2^r)) else 0
def stL (x:Nat->Int)(q r k j:Nat):Int:=if j<q+k then finL x q r j else if j=q+k then lowp x q r j else 0
theorem lowp_word {x:Nat->Int}(hx:Words x)(q r j:Nat):0<=lowp x q r j/\lowp x q r j<=18446744073709551615:=by
 unfold lowp;split
 ·exact div_word _ _ (hx _)
 ·decide
theorem finL_words {x:Nat->Int}(hx:Words x)(q r:Nat):Words (finL x q r):=fun j=>by
 unfold finL;split
 ·exact orW_word _ _ (lowp_word hx q r j) (wrap_word _)
 ·decide
theorem finL_zero {x:Nat->Int}{n:Nat}(hx:Words x)(zx:∀ i,n<=i->x i=0)(q r:Nat)(hr:r<64):∀ j,n+q+1<=j->finL x q r j=0:=by
 intro j hj
 unfold finL
 rw [if_pos (by omega),zx (j-q) (by omega)]
 have:lowp x q r j=0:=by
  unfold lowp;split
  ·rw [zx (j-q-1) (by omega)];simp
  ·rfl
 rw [this,Int.zero_mul,wrap_id 0 (by decide),orW_zero 0 (by decide)]
theorem stL_end {x:Nat->Int}{n:Nat}(hx:Words x)(zx:∀ i,n<=i->x i=0)(q r j:Nat)(hj:j<n+q+1):stL x q r n j=finL x q r j:=by
 unfold stL
 by_cases h:j<q+n
 ·rw [if_pos h]
 ·obtain rfl:j=q+n:=by omega
  rw [if_neg h,if_pos rfl]
  unfold finL
  rw [if_pos (by omega),zx (q+n-q) (by omega),Int.zero_mul,wrap_id 0 (by decide),orW_zero _ (lowp_word hx q r _)]
theorem stL_step0 {x:Nat->Int}{q k:Nat}{ss:Array Value}(hss:∀ j h,ss[j]'h=Value.int .u64 (stL x q 0 k j))(j:Nat)(h:j<(ss.setIfInBounds (k+q) (.int .u64 (finL x q 0 (q+k)))).size):(ss.setIfInBounds (k+q) (.int .u64 (finL x q 0 (q+k))))[j]'h=Value.int .u64 (stL x q 0 (k+1) j):=by
 have h':j<ss.size:=by simpa using h
 rw [Array.getElem_setIfInBounds]
 by_cases e:k+q=j
 ·subst e;rw [if_pos rfl];unfold stL;rw [if_pos (by omega),Nat.add_comm]
 ·rw [if_neg e,hss j h']
  unfold stL
  by_cases e2:j<q+k
  ·rw [if_pos e2,if_pos (by omega)]
  ·rw [if_neg e2,if_neg (by omega),if_neg (by omega)]
   have:lowp x q 0 j=0:=by unfold lowp;rw [if_neg (by omega)]
   rw [this];split<;>rfl
 exact h'
theorem stL_step1 {x:Nat->Int}{q r k:Nat}(hr:0<r){ss:Array Value}(hss:∀ j h,ss[j]'h=Value.int .u64 (stL x q r k j))(j:Nat)(h:j<((ss.setIfInBounds (k+q) (.int .u64 (finL x q r (q+k)))).setIfInBounds (k+q+1) (.int .u64 (x k/2^(64-r)))).size):((ss.setIfInBounds (k+q) (.int .u64 (finL x q r (q+k)))).setIfInBounds (k+q+1) (.int .u64 (x k/2^(64-r))))[j]'h=Value.int .u64 (stL x q r (k+1) j):=by
 have h':j<ss.size:=by simpa using h
 rw [Array.getElem_setIfInBounds (by simpa using h')]
 by_cases e0:k+q+1=j
 ·subst e0;rw [if_pos rfl];unfold stL;rw [if_neg (by omega),if_pos (by omega)];unfold lowp;rw [if_pos ⟨by omega,hr⟩,show k+q+1-q-1=k by omega]
 ·rw [if_neg e0,Array.getElem_setIfInBounds h']
  by_cases e:k+q=j
  ·subst e;rw [if_pos rfl];unfold stL;rw [if_pos (by omega),Nat.add_comm]
  ·rw [if_neg e,hss j h']
   unfold stL
   by_cases e2:j<q+k
   ·rw [if_pos e2,if_pos (by omega)]
   ·rw [if_neg e2,if_neg (by omega),if_neg (by omega),if_neg (by omega)]
theorem left_z (b off n c q:Nat)(s:Int)(x:Nat->Int)(w:World)(hn:n<4000000000)(hq0:q<100000)(hq:s/64=q)(hr:s%64=0)(hs:0<=s)(h:Num w (some ⟨b,off,none⟩) n c x) :
  Calls Tryz.prog 26 #[.slice (some ⟨b,off,none⟩) n c,.int .i64 s] w fun e w'=>∃ g k cap,e=.returned (.slice (some ⟨g,0,none⟩) k cap)/\k<=n+q+1/\Num w' (some ⟨g,0,none⟩) k cap (finL x q 0)/\Below w.heap.size w w':=by
 have hx:=h.2.2.1
 have zx:=h.2.2.2.1
 have hc:b<w.heap.size/\∀ i,i<n->w.cell? ⟨b,off+i,none⟩=some (.int .u64 (x i)):=by
  rcases h.2.2.2.2 with ⟨h,_⟩|⟨b',off',h,hbs,hc⟩
  ·cases h
  ·cases h;exact ⟨hbs,hc⟩
 obtain ⟨hbs,hc⟩:=hc
 have hcap:=h.1
 have hs6:s<6400064:=by omega
 obtain ⟨M,hM⟩:∃ M,n+q+1=M:=⟨_,rfl⟩
 have hMi:(n:Int)+q+1=(M:Int):=by omega
 have hmk:=fun w=>make_any ((n:Int)+q+1) M hMi (by omega) w
 have hfin:∀ (ss:Array Value) (m:Nat),ss.size=M->(∀ j h,ss[j]'h=Value.int .u64 (stL x q 0 n j))->Num ((w.alloc (.cells ss 22)).drewN m) (some ⟨w.heap.size,0,none⟩) M M (finL x q 0):=fun ss m h1 h2=>(num_of_block (by omega) (finL_words hx q 0) (fun i hi=>finL_zero hx zx q 0 (by omega) i (by omega)) h1 (fun j hj=>by rw [h2 j hj,stL_end hx zx q 0 j (by omega)])).drewN m
 have HM:Hid (n+q+1=M):=hM
 have HZ:Hid ((arrOf (fun _=>0) M).size=M/\∀ j h,(arrOf (fun _=>0) M)[j]'h=Value.int .u64 0):=⟨arrOf_size _ _,fun j h=>arrOf_get _ _ _ _⟩
 have hcw:∀ (ss:Array Value) i,i<n->(w.alloc (.cells ss 22)).cell? ⟨b,off+i,none⟩=some (.int .u64 (x i)):=fun ss i hi=>((below1 w _).cell (p:=⟨b,off+i,none⟩) hbs).trans (hc i hi)
 clear h zx hMi hc
 generalize arrOf (fun _=>0) M=zz at *
 go_enter Tryz.func26,Tryz.ntmps26
 go_wp2
 go_loopw [6,16] (fun u6 i wr=>∃ (k m:Nat) (ss:Array Value),k<=n/\i=.int .i64 k/\ss.size=M/\(∀ j h,ss[j]'h=Value.int .u64 (stL x q 0 k j))/\wr=(w.alloc (.cells ss 22)).drewN m) (fun _ i _=>n-(intOf i).toNat)
 case atStart=>exact ⟨0,0,zz,Nat.zero_le _,rfl,HZ.out.1,fun j h=>by rw [HZ.out.2 j h];unfold stL;(by_cases e:j<q+0);(rw [if_pos e];unfold finL;rw [if_neg (by omega)]);(rw [if_neg e];split;(unfold lowp;rw [if_neg (by omega)]);rfl),rfl⟩
 case round =>
  obtain ⟨k,m,ss,hk,rfl,hsz,hss,rfl⟩:=hrel
  by_cases h8:k<n
  ·have h8i:(k:Int)<n:=by omega
   have h8s:k+q<ss.size:=by omega
   have h8t:(k:Int)+q<M:=by omega
   have h8u:(k:Int)+q+1<M:=by omega
   have bx:=hx k
   have hcx:=hcw ss k h8
   have hsk:ss[k+q]?=some (.int .u64 (lowp x q 0 (q+k))):=by rw [Array.getElem?_eq_getElem h8s,hss _ h8s];unfold stL;rw [if_neg (by omega),if_pos (by omega),Nat.add_comm]
   have hgo:∀ h,ss[k+q]'h=.int .u64 (lowp x q 0 (q+k)):=fun h=>by rw [hss _ h];unfold stL;rw [if_neg (by omega),if_pos (by omega),Nat.add_comm]
   have hlow:=lowp_word hx q 0 (q+k)
   have e1:((k:Int)+q).toNat=k+q:=by omega
   have e2:((k:Int)+q+1).toNat=k+q+1:=by omega
   have HF:Hid (finL x q 0 (q+k)=bits BinOp.or IntKind.u64 (lowp x q 0 (q+k)) (x k)):=by
    show _=_;unfold finL;rw [if_pos (by omega),show q+k-q=k by omega];simp [orW,wrap_id _ bx]
   have HR:Hid (∀ (i:Nat) (h:i<(ss.setIfInBounds (k+q) (.int .u64 (finL x q 0 (q+k)))).size),(ss.setIfInBounds (k+q) (.int .u64 (finL x q 0 (q+k))))[i]'h=Value.int .u64 (stL x q 0 (k+1) i)):=stL_step0 hss
   clear hss hfin hmk hx
   generalize hlo:lowp x q 0 (q+k)=lo at *
   clear hcw
   go_wp2
   go_region
   go_wp2
   go_roundw
   case rel=>refine ⟨k+1,m+1,ss.setIfInBounds (k+q) (.int .u64 (finL x q 0 (q+k))),by omega,by go_num,by simp [hsz],HR.out,?_⟩;rw [HF.out]
   case measure=>simp [intOf];omega
  ·obtain rfl:k=n:=by omega
   have hT:=trim_any _ _ _ _ _ (by omega) (hfin ss m hsz hss)
   have hle:=sizeL_le (finL x q 0) M
   clear hss hfin hmk hx hcw
   go_wp2_with (go_at_call 37;refine hT.mono ?_;rintro e w1 ⟨g,cap,rfl,hN,hB⟩)
   go_ret
   exact ⟨g,_,cap,rfl,Nat.le_trans hle (Nat.le_of_eq HM.out.symm),hN,(below_drewN (below1 w _) m).trans (hB.mono (by simp))⟩
theorem left_p (b off n c q r:Nat)(s:Int)(x:Nat->Int)(w:World)(hn:n<4000000000)(hq0:q<100000)(hr0:r<64)(hrp:0<r)(hq:s/64=q)(hr:s%64=r)(hs:0<=s)(h:Num w (some ⟨b,off,none⟩) n c x) :
  Calls Tryz.prog 26 #[.slice (some ⟨b,off,none⟩) n c,.int .i64 s] w fun e w'=>∃ g k cap,e=.returned (.slice (some ⟨g,0,none⟩) k cap)/\k<=n+q+1/\Num w' (some ⟨g,0,none⟩) k cap (finL x q r)/\Below w.heap.size w w':=by
 have hx:=h.2.2.1
 have zx:=h.2.2.2.1
 have hc:b<w.heap.size/\∀ i,i<n->w.cell? ⟨b,off+i,none⟩=some (.int .u64 (x i)):=by
  rcases h.2.2.2.2 with ⟨h,_⟩|⟨b',off',h,hbs,hc⟩
  ·cases h
  ·cases h;exact ⟨hbs,hc⟩
 obtain ⟨hbs,hc⟩:=hc
 have hcap:=h.1
 have hs6:s<6400064:=by omega
 obtain ⟨M,hM⟩:∃ M,n+q+1=M:=⟨_,rfl⟩
 have hMi:(n:Int)+q+1=(M:Int):=by omega
 have hmk:=fun w=>make_any ((n:Int)+q+1) M hMi (by omega) w
 have hfin:∀ (ss:Array Value) (m:Nat),ss.size=M->(∀ j h,ss[j]'h=Value.int .u64 (stL x q r n j))->Num ((w.alloc (.cells ss 22)).drewN m) (some ⟨w.heap.size,0,none⟩) M M (finL x q r):=fun ss m h1 h2=>(num_of_block (by omega) (finL_words hx q r) (fun i hi=>finL_zero hx zx q r (by omega) i (by omega)) h1 (fun j hj=>by rw [h2 j hj,stL_end hx zx q r j (by omega)])).drewN m
 have HM:Hid (n+q+1=M):=hM
 have HZ:Hid ((arrOf (fun _=>0) M).size=M/\∀ j h,(arrOf (fun _=>0) M)[j]'h=Value.int .u64 0):=⟨arrOf_size _ _,fun j h=>arrOf_get _ _ _ _⟩
 have hcw:∀ (ss:Array Value) i,i<n->(w.alloc (.cells ss 22)).cell? ⟨b,off+i,none⟩=some (.int .u64 (x i)):=fun ss i hi=>((below1 w _).cell (p:=⟨b,off+i,none⟩) hbs).trans (hc i hi)
 clear h zx hMi hc
 generalize arrOf (fun _=>0) M=zz at *
 go_enter Tryz.func26,Tryz.ntmps26
 go_wp2
 go_loopw [6,16] (fun u6 i wr=>∃ (k m:Nat) (ss:Array Value),k<=n/\i=.int .i64 k/\ss.size=M/\(∀ j h,ss[j]'h=Value.int .u64 (stL x q r k j))/\wr=(w.alloc (.cells ss 22)).drewN m) (fun _ i _=>n-(intOf i).toNat)
 case atStart=>exact ⟨0,0,zz,Nat.zero_le _,rfl,HZ.out.1,fun j h=>by rw [HZ.out.2 j h];unfold stL;(by_cases e:j<q+0);(rw [if_pos e];unfold finL;rw [if_neg (by omega)]);(rw [if_neg e];split;(unfold lowp;rw [if_neg (by omega)]);rfl),rfl⟩
 case round =>
  obtain ⟨k,m,ss,hk,rfl,hsz,hss,rfl⟩:=hrel
  by_cases h8:k<n
  ·have h8i:(k:Int)<n:=by omega
   have h8s:k+q<ss.size:=by omega
   have h8t:(k:Int)+q<M:=by omega
   have h8u:(k:Int)+q+1<M:=by omega
   have bx:=hx k
   have hcx:=hcw ss k h8
   have hsk:ss[k+q]?=some (.int .u64 (lowp x q r (q+k))):=by rw [Array.getElem?_eq_getElem h8s,hss _ h8s];unfold stL;rw [if_neg (by omega),if_pos (by omega),Nat.add_comm]
   have hgo:∀ h,ss[k+q]'h=.int .u64 (lowp x q r (q+k)):=fun h=>by rw [hss _ h];unfold stL;rw [if_neg (by omega),if_pos (by omega),Nat.add_comm]
   have h8v:k+q+1<ss.size:=by omega
   have hsl:ss[k+q+1]?=some (.int .u64 0):=by rw [Array.getElem?_eq_getElem h8v,hss _ h8v];unfold stL;rw [if_neg (by omega),if_neg (by omega)]
   have hlow:=lowp_word hx q r (q+k)
   have e1:((k:Int)+q).toNat=k+q:=by omega
   have e2:((k:Int)+q+1).toNat=k+q+1:=by omega
   have HF:Hid (finL x q r (q+k)=bits BinOp.or IntKind.u64 (lowp x q r (q+k)) (IntKind.u64.wrap (x k*2^r))):=by
    show _=_;unfold finL;rw [if_pos (by omega),show q+k-q=k by omega];rfl
   have HR:Hid (∀ (i:Nat) (h:i<((ss.setIfInBounds (k+q) (.int .u64 (finL x q r (q+k)))).setIfInBounds (k+q+1) (.int .u64 (x k/2^(64-r)))).size),((ss.setIfInBounds (k+q) (.int .u64 (finL x q r (q+k)))).setIfInBounds (k+q+1) (.int .u64 (x k/2^(64-r))))[i]'h=Value.int .u64 (stL x q r (k+1) i)):=stL_step1 hrp hss
   clear hss hfin hmk hx
   generalize hlo:lowp x q r (q+k)=lo at *
   have hcx':=hcw (ss.setIfInBounds (k+q) (.int .u64 (bits BinOp.or IntKind.u64 lo (IntKind.u64.wrap (x k*2^r))))) k h8
   clear hcw
   go_wp2
   go_region
   go_wp2
   go_roundw
   case rel=>refine ⟨k+1,m+1,(ss.setIfInBounds (k+q) (.int .u64 (finL x q r (q+k)))).setIfInBounds (k+q+1) (.int .u64 (x k/2^(64-r))),by omega,by go_num,by simp [hsz],HR.out,?_⟩;rw [HF.out]
   case measure=>simp [intOf];omega
  ·obtain rfl:k=n:=by omega
   have hT:=trim_any _ _ _ _ _ (by omega) (hfin ss m hsz hss)
   have hle:=sizeL_le (finL x q r) M
   clear hss hfin hmk hx hcw
   go_wp2_with (go_at_call 37;refine hT.mono ?_;rintro e w1 ⟨g,cap,rfl,hN,hB⟩)
   go_ret
   exact ⟨g,_,cap,rfl,Nat.le_trans hle (Nat.le_of_eq HM.out.symm),hN,(below_drewN (below1 w _) m).trans (hB.mono (by simp))⟩
end
def shrW (x:Nat->Int)(q r j:Nat):Int:=if r=0 then x (q+j) else orW (x (q+j)/2^r) (IntKind.u64.wrap (x (q+j+1)*2^(64-r)))
theorem shrW_words {x:Nat->Int}(hx:Words x)(q r:Nat):Words (shrW x q r):=fun j=>by
 unfold shrW;split
 ·exact hx _
 ·exact orW_word _ _ (div_word _ _ (hx _)) (wrap_word _)
theorem shrW_zero {x:Nat->Int}{n:Nat}(zx:∀ i,n<=i->x i=0)(q r j:Nat)(hj:n<=q+j):shrW x q r j=0:=by
 unfold shrW;split
 ·exact zx _ hj
 ·rw [zx _ hj,zx (q+j+1) (by omega),Int.zero_mul,Int.zero_ediv,wrap_id 0 (by decide),orW_zero 0 (by decide)]
def wl (f:Nat->Int)(k:Nat):List Value:=(List.range k).map fun i=>Value.int .u64 (f i)
theorem wl_succ (f:Nat->Int)(k:Nat):wl f k++[Value.int .u64 (f k)]=wl f (k+1):=by simp [wl,List.range_succ]
theorem num_of_owns' {w':World}{ao:Option Addr}{k cap base:Nat}{x:Nat->Int}(hx:Words x)(hz:∀ i,k<=i->x i=0)(h:w'.ownsRow base 22 1 (.slice ao k cap) k (wl x k)):Num w' ao k cap x:=by
 have h0:=h
 obtain ⟨hl,h1⟩:=h0
 rcases h1 with ⟨h1,h2⟩|⟨g,cap',cur,he,hb,hh,_⟩
 ·cases h1
  exact ⟨Nat.le_refl _,by unfold maxLen;omega,hx,hz,Or.inl ⟨rfl,rfl⟩⟩
 ·cases he
  exact num_of_owns (w:=w') hx hz h (by
   rcases Nat.lt_or_ge g w'.heap.size with h3|h3
   ·exact h3
   ·rw [Array.getElem?_eq_none h3] at hh;cases hh)
theorem right_z (b off n c q:Nat)(s:Int)(x:Nat->Int)(w:World)(hn:n<4000000000)(hq0:q<100000)(hq:s/64=q)(hr:s%64=0)(hs:0<=s)(h:Num w (some ⟨b,off,none⟩) n c x) :
  Calls Tryz.prog 45 #[.slice (some ⟨b,off,none⟩) n c,.int .i64 s] w fun e w'=>∃ g k cap z,e=.returned (.tuple #[.slice (some ⟨g,0,none⟩) k cap,.bool z])/\k<=n/\Num w' (some ⟨g,0,none⟩) k cap (shrW x q 0)/\Below w.heap.size w w':=by
 have hx:=h.2.2.1
 have zx:=h.2.2.2.1
 have hc:b<w.heap.size/\∀ i,i<n->w.cell? ⟨b,off+i,none⟩=some (.int .u64 (x i)):=by
  rcases h.2.2.2.2 with ⟨h,_⟩|⟨b',off',h,hbs,hc⟩
  ·cases h
  ·cases h;exact ⟨hbs,hc⟩
 obtain ⟨hbs,hc⟩:=hc
 have hcap:=h.1
 have hs6:s<6400064:=by omega
 obtain ⟨i0,hi,hz0,hz1,hz2⟩:=info_parts Tryz.info22
 have HX:Hid (Num w (some ⟨b,off,none⟩) n c x):=h
 clear h
 go_enter Tryz.func45,Tryz.ntmps45
 go_wp2
 go_loop [6,7,13] (fun g u7 i=>∃ (k:Nat) (z:Bool),k<=n/\i=.int .i64 k/\g=.bool z) (fun _ _ i=>n-(intOf i).toNat)
 case atStart=>exact ⟨0,false,Nat.zero_le _,rfl,rfl⟩
 case round =>
  obtain ⟨k,z,hk,rfl,rfl⟩:=hrel
  by_cases h8:k<n
  ·have h8i:(k:Int)<n:=by omega
   by_cases hkq:k<q
   ·have bx:=hx k
    have hcx:=hc k h8
    clear hc hx zx hi hz0 hz1 hz2
    have hkq':(k:Int)<q:=by omega
    by_cases hz:x k=0
    ·have hz':(x k != 0)=false:=by simp [hz]
     have hne:((k:Int)==q)=false:=by simp;omega
     go_wp2
     go_round
     case rel=>exact ⟨k+1,z,by omega,by go_num,rfl⟩
     case measure=>simp [intOf];omega
    ·have hz':(x k != 0)=true:=by simp [hz]
     go_wp2
     go_round
     case rel=>exact ⟨k+1,true,by omega,by go_num,rfl⟩
     case measure=>simp [intOf];omega
   ·have hkq':¬ (k:Int)<q:=by omega
    by_cases hke:k=q
    ·subst hke
     have bx:=hx k
     have hcx:=hc k h8
     clear hc hx zx hi hz0 hz1 hz2
     go_wp2
     all_goals
      go_round
      case rel=>first|exact ⟨k+1,true,by omega,by go_num,rfl⟩|exact ⟨k+1,z,by omega,by go_num,rfl⟩
      case measure=>simp [intOf];omega
    ·have hcx:=hc k h8
     clear hc hx zx hi hz0 hz1 hz2
     have hne:((k:Int)==q)=false:=by simp;omega
     go_wp2
     go_round
     case rel=>exact ⟨k+1,z,by omega,by go_num,rfl⟩
     case measure=>simp [intOf];omega
  ·obtain rfl:k=n:=by omega
   go_wp2
   go_loopw [8,9,10] (fun v i u10 wr=>∃ (j:Nat) (ao:Option Addr) (cp:Nat),j<=k-q/\i=.int .i64 ((q:Int)+j)/\v=.slice ao j cp/\wr.ownsRow w.heap.size 22 1 (.slice ao j cp) j (wl (shrW x q 0) j)/\Below w.heap.size w wr) (fun _ i _ _=>k+1-(intOf i).toNat)
   case atStart=>exact ⟨0,none,0,Nat.zero_le _,by go_num,rfl,World.ownsRow_nil _ _ _ _,Below.refl _ _⟩
   case round =>
    obtain ⟨j,ao,cp,hj,rfl,rfl,hown,hB⟩:=hrel
    by_cases hlt:q+j<k
    ·have hlt':(q:Int)+j<k:=by omega
     have bx:=hx (q+j)
     have b_y:=hx (q+j+1)
     have e1:((q:Int)+j).toNat=q+j:=by omega
     have hcx:wr.cell? ⟨b,off+(q+j),none⟩=some (.int .u64 (x (q+j))):=(hB.cell (p:=⟨b,off+(q+j),none⟩) hbs).trans (hc (q+j) hlt)
     have HW:Hid (CQ 34 #[.slice (some ⟨b,off,none⟩) k c,.int .i64 ((q:Int)+j+1)] wr (.int .u64 (x (q+j+1)))):=by
      have:=word_any (some ⟨b,off,none⟩) k c (q+j+1) x wr (HX.out.next hB)
      rw [show ((q+j+1:Nat):Int)=(q:Int)+j+1 by omega] at this
      exact this.mono fun _ _ h=>⟨h.1,h.2.symm⟩
     have hbw:=hB.size
     have HO:Hid (wr.ownsRow w.heap.size 22 1 (.slice ao j cp) j (wl (shrW x q 0) j)):=hown
     have HVAL:Hid (shrW x q 0 j=x (q+j)):=by show _=_;simp [shrW]
     have HOWN:(wr.alloc (.cells #[.int .u64 (x (q+j))] 22)).ownsRow w.heap.size 22 1 (.slice ao j cp) j (wl (shrW x q 0) j):=hown.alloc _
     have HNEWS:∀ (p:Nat) (u:Value),[Value.int .u64 (x (q+j))][p]?=some u->(wr.alloc (.cells #[.int .u64 (x (q+j))] 22)).cell? ((⟨wr.heap.size,0,none⟩:Addr).add p)=some u:=by
      intro p u hp
      match p,hp with
      | 0,hp=>simp at hp;subst hp;simp [Addr.add]
     have HONE:∀ u ∈ [Value.int .u64 (x (q+j))],u.oneCell'=true:=by
      intro u hu;simp at hu;subst hu;rfl
     clear hc hx zx hown
     go_wp2_with (first|(at_builtin;refine wpList_append_lies _ rfl (.tmp 77) (.tmp 79) 40 rfl w.heap.size 22 i0 (.int .u64 0) 1 8 Tryz.underlying40 hi hz0 hz1 hz2 rfl (by decide) (.slice ao j cp) j (wl (shrW x q 0) j) rfl HOWN ⟨wr.heap.size,0,none⟩ 1 1 [Value.int .u64 (x (q+j))] rfl rfl HNEWS HONE (by omega) (by unfold maxLen;omega) (by omega) (by simp;omega) (wr.heap.size+1) (by simp) ?_;intro g cap w1 hown1 hgrow hat hlt1;clear HOWN HNEWS HONE)|(go_at_call 34;refine HW.out.mono ?_;rintro e w' ⟨rfl,rfl⟩))
     have hown2:w1.ownsRow w.heap.size 22 1 (.slice (some ⟨g,0,none⟩) (j+1) cap) (j+1) (wl (shrW x q 0) (j+1)):=by
      rw [← HVAL.out,wl_succ] at hown1;exact hown1
     have HB2:Below w.heap.size w w1:=(hB.alloc hbw _).grown hgrow (by simp;omega) (by
      intro p hp
      rcases ao with _|⟨bb,oo,sp⟩
      ·cases hp
      ·cases hp
       obtain ⟨_,h1⟩:=HO.out
       rcases h1 with ⟨h1,_⟩|⟨g',_,_,h1,h2,_⟩
       ·cases h1
       ·cases h1;exact h2)
     clear hown1 hgrow
     go_wp2
     go_roundw
     case rel=>exact ⟨j+1,some ⟨g,0,none⟩,cap,by omega,by go_num,rfl,hown2,HB2⟩
     case measure=>simp [intOf];omega
    ·have HZ:∀ i,j<=i->shrW x q 0 i=0:=fun i hi=>shrW_zero zx q 0 i (by omega)
     have hT:=trim_any ao j cp _ wr (by omega) (num_of_owns' (shrW_words hx q 0) HZ hown)
     have hle:=sizeL_le (shrW x q 0) j
     have hlt':¬ (q:Int)+j<k:=by omega
     clear hc hx zx hown HZ
     go_wp2_with (go_at_call 37;refine hT.mono ?_;rintro e w1 ⟨g,cap,rfl,hN,hB1⟩)
     go_ret2
     exact ⟨g,_,cap,_,rfl,by omega,hN,hB.trans (hB1.mono hB.size)⟩
theorem right_p (b off n c q r:Nat)(s:Int)(x:Nat->Int)(w:World)(hn:n<4000000000)(hq0:q<100000)(hr0:r<64)(hrp:0<r)(hq:s/64=q)(hr:s%64=r)(hs:0<=s)(h:Num w (some ⟨b,off,none⟩) n c x) :
  Calls Tryz.prog 45 #[.slice (some ⟨b,off,none⟩) n c,.int .i64 s] w fun e w'=>∃ g k cap z,e=.returned (.tuple #[.slice (some ⟨g,0,none⟩) k cap,.bool z])/\k<=n/\Num w' (some ⟨g,0,none⟩) k cap (shrW x q r)/\Below w.heap.size w w':=by
 have hx:=h.2.2.1
 have zx:=h.2.2.2.1
 have hc:b<w.heap.size/\∀ i,i<n->w.cell? ⟨b,off+i,none⟩=some (.int .u64 (x i)):=by
  rcases h.2.2.2.2 with ⟨h,_⟩|⟨b',off',h,hbs,hc⟩
  ·cases h
  ·cases h;exact ⟨hbs,hc⟩
 obtain ⟨hbs,hc⟩:=hc
 have hcap:=h.1
 have hs6:s<6400064:=by omega
 obtain ⟨i0,hi,hz0,hz1,hz2⟩:=info_parts Tryz.info22
 have HX:Hid (Num w (some ⟨b,off,none⟩) n c x):=h
 clear h
 go_enter Tryz.func45,Tryz.ntmps45
 go_wp2
 go_loop [6,7,13] (fun g u7 i=>∃ (k:Nat) (z:Bool),k<=n/\i=.int .i64 k/\g=.bool z) (fun _ _ i=>n-(intOf i).toNat)
 case atStart=>exact ⟨0,false,Nat.zero_le _,rfl,rfl⟩
 case round =>
  obtain ⟨k,z,hk,rfl,rfl⟩:=hrel
  by_cases h8:k<n
  ·have h8i:(k:Int)<n:=by omega
   by_cases hkq:k<q
   ·have bx:=hx k
    have hcx:=hc k h8
    clear hc hx zx hi hz0 hz1 hz2
    have hkq':(k:Int)<q:=by omega
    by_cases hz:x k=0
    ·have hz':(x k != 0)=false:=by simp [hz]
     have hne:((k:Int)==q)=false:=by simp;omega
     go_wp2
     go_round
     case rel=>exact ⟨k+1,z,by omega,by go_num,rfl⟩
     case measure=>simp [intOf];omega
    ·have hz':(x k != 0)=true:=by simp [hz]
     go_wp2
     go_round
     case rel=>exact ⟨k+1,true,by omega,by go_num,rfl⟩
     case measure=>simp [intOf];omega
   ·have hkq':¬ (k:Int)<q:=by omega
    by_cases hke:k=q
    ·subst hke
     have bx:=hx k
     have hcx:=hc k h8
     clear hc hx zx hi hz0 hz1 hz2
     go_wp2
     all_goals
      go_round
      case rel=>first|exact ⟨k+1,true,by omega,by go_num,rfl⟩|exact ⟨k+1,z,by omega,by go_num,rfl⟩
      case measure=>simp [intOf];omega
    ·have hcx:=hc k h8
     clear hc hx zx hi hz0 hz1 hz2
     have hne:((k:Int)==q)=false:=by simp;omega
     go_wp2
     go_round
     case rel=>exact ⟨k+1,z,by omega,by go_num,rfl⟩
     case measure=>simp [intOf];omega
  ·obtain rfl:k=n:=by omega
   go_wp2
   go_loopw [8,9,10] (fun v i u10 wr=>∃ (j:Nat) (ao:Option Addr) (cp:Nat),j<=k-q/\i=.int .i64 ((q:Int)+j)/\v=.slice ao j cp/\wr.ownsRow w.heap.size 22 1 (.slice ao j cp) j (wl (shrW x q r) j)/\Below w.heap.size w wr) (fun _ i _ _=>k+1-(intOf i).toNat)
   case atStart=>exact ⟨0,none,0,Nat.zero_le _,by go_num,rfl,World.ownsRow_nil _ _ _ _,Below.refl _ _⟩
   case round =>
    obtain ⟨j,ao,cp,hj,rfl,rfl,hown,hB⟩:=hrel
    by_cases hlt:q+j<k
    ·have hlt':(q:Int)+j<k:=by omega
     have bx:=hx (q+j)
     have b_y:=hx (q+j+1)
     have e1:((q:Int)+j).toNat=q+j:=by omega
     have hcx:wr.cell? ⟨b,off+(q+j),none⟩=some (.int .u64 (x (q+j))):=(hB.cell (p:=⟨b,off+(q+j),none⟩) hbs).trans (hc (q+j) hlt)
     have HW:Hid (CQ 34 #[.slice (some ⟨b,off,none⟩) k c,.int .i64 ((q:Int)+j+1)] wr (.int .u64 (x (q+j+1)))):=by
      have:=word_any (some ⟨b,off,none⟩) k c (q+j+1) x wr (HX.out.next hB)
      rw [show ((q+j+1:Nat):Int)=(q:Int)+j+1 by omega] at this
      exact this.mono fun _ _ h=>⟨h.1,h.2.symm⟩
     have hbw:=hB.size
     have HO:Hid (wr.ownsRow w.heap.size 22 1 (.slice ao j cp) j (wl (shrW x q r) j)):=hown
     have HVAL:Hid (shrW x q r j=bits BinOp.or IntKind.u64 (x (q+j)/2^r) (IntKind.u64.wrap (x (q+j+1)*2^(64-r)))):=by show _=_;unfold shrW;rw [if_neg (by omega)];rfl
     have HOWN:(wr.alloc (.cells #[.int .u64 (bits BinOp.or IntKind.u64 (x (q+j)/2^r) (IntKind.u64.wrap (x (q+j+1)*2^(64-r))))] 22)).ownsRow w.heap.size 22 1 (.slice ao j cp) j (wl (shrW x q r) j):=hown.alloc _
     have HNEWS:∀ (p:Nat) (u:Value),[Value.int .u64 (bits BinOp.or IntKind.u64 (x (q+j)/2^r) (IntKind.u64.wrap (x (q+j+1)*2^(64-r))))][p]?=some u->(wr.alloc (.cells #[.int .u64 (bits BinOp.or IntKind.u64 (x (q+j)/2^r) (IntKind.u64.wrap (x (q+j+1)*2^(64-r))))] 22)).cell? ((⟨wr.heap.size,0,none⟩:Addr).add p)=some u:=by
      intro p u hp
      match p,hp with
      | 0,hp=>simp at hp;subst hp;simp [Addr.add]
     have HONE:∀ u ∈ [Value.int .u64 (bits BinOp.or IntKind.u64 (x (q+j)/2^r) (IntKind.u64.wrap (x (q+j+1)*2^(64-r))))],u.oneCell'=true:=by
      intro u hu;simp at hu;subst hu;rfl
     clear hc hx zx hown
     go_wp2_with (first|(at_builtin;refine wpList_append_lies _ rfl (.tmp 77) (.tmp 79) 40 rfl w.heap.size 22 i0 (.int .u64 0) 1 8 Tryz.underlying40 hi hz0 hz1 hz2 rfl (by decide) (.slice ao j cp) j (wl (shrW x q r) j) rfl HOWN ⟨wr.heap.size,0,none⟩ 1 1 [Value.int .u64 (bits BinOp.or IntKind.u64 (x (q+j)/2^r) (IntKind.u64.wrap (x (q+j+1)*2^(64-r))))] rfl rfl HNEWS HONE (by omega) (by unfold maxLen;omega) (by omega) (by simp;omega) (wr.heap.size+1) (by simp) ?_;intro g cap w1 hown1 hgrow hat hlt1;clear HOWN HNEWS HONE)|(go_at_call 34;refine HW.out.mono ?_;rintro e w' ⟨rfl,rfl⟩))
     have hown2:w1.ownsRow w.heap.size 22 1 (.slice (some ⟨g,0,none⟩) (j+1) cap) (j+1) (wl (shrW x q r) (j+1)):=by
      rw [← HVAL.out,wl_succ] at hown1;exact hown1
     have HB2:Below w.heap.size w w1:=(hB.alloc hbw _).grown hgrow (by simp;omega) (by
      intro p hp
      rcases ao with _|⟨bb,oo,sp⟩
      ·cases hp
      ·cases hp
       obtain ⟨_,h1⟩:=HO.out
       rcases h1 with ⟨h1,_⟩|⟨g',_,_,h1,h2,_⟩
       ·cases h1
       ·cases h1;exact h2)
     clear hown1 hgrow
     go_wp2
     go_roundw
     case rel=>exact ⟨j+1,some ⟨g,0,none⟩,cap,by omega,by go_num,rfl,hown2,HB2⟩
     case measure=>simp [intOf];omega
    ·have HZ:∀ i,j<=i->shrW x q r i=0:=fun i hi=>shrW_zero zx q r i (by omega)
     have hT:=trim_any ao j cp _ wr (by omega) (num_of_owns' (shrW_words hx q r) HZ hown)
     have hle:=sizeL_le (shrW x q r) j
     have hlt':¬ (q:Int)+j<k:=by omega
     clear hc hx zx hown HZ
     go_wp2_with (go_at_call 37;refine hT.mono ?_;rintro e w1 ⟨g,cap,rfl,hN,hB1⟩)
     go_ret2
     exact ⟨g,_,cap,_,rfl,by omega,hN,hB.trans (hB1.mono hB.size)⟩
def lowW (x:Nat->Int)(q i:Nat):Int:=if i<q then x i else 0
theorem lowW_words {x:Nat->Int}(hx:Words x)(q:Nat):Words (lowW x q):=fun i=>by unfold lowW;split;exact hx i;decide
def oneW (c:Int)(j:Nat):Int:=if j=0 then c else 0
theorem num_one (w:World)(c:Int)(hc:0<=c/\c<=18446744073709551615):Num (w.alloc (.cells #[.int .u64 c] 22)) (some ⟨w.heap.size,0,none⟩) 1 1 (oneW c) :=
 num_of_block (by omega) (fun i=>by unfold oneW;split;exact hc;decide) (fun i hi=>by unfold oneW;rw [if_neg (by omega)]) rfl (fun j hj=>match j,hj with|0,_=>rfl)
section
attribute [local go_sem] setCell_drewN alloc_drewN
theorem mul64 (x y:Int)(hx:0<=x/\x<=18446744073709551615)(hy:0<=y/\y<=18446744073709551615)(w:World) :
  Calls Tryz.prog 35 #[.int .u64 x,.int .u64 y] w fun e w'=>e=.returned (.tuple #[.int .u64 (x*y/18446744073709551616),.int .u64 (x*y%18446744073709551616)])/\w'=w:=by
 obtain ⟨a,rfl⟩:=Int.eq_ofNat_of_zero_le hx.1
 obtain ⟨b,rfl⟩:=Int.eq_ofNat_of_zero_le hy.1
 have h:=Tryz.bits_Mul64 a b (by omega) (by omega) w
 rw [Int.natCast_ediv,Int.natCast_emod,Int.natCast_mul] at h
 exact h
theorem add64z (x y:Int)(hx:0<=x)(hy:0<=y)(w:World):(callFunc 36 #[.int .u64 x,.int .u64 y,.int .u64 0]).run Tryz.prog w =
  .ok (.value (.tuple #[.int .u64 ((x+y)%18446744073709551616),.int .u64 ((x+y)/18446744073709551616)])) w:=by
 simpa using add64 x y 0 hx hy (Int.le_refl 0) (by decide) w
def mulC (x:Nat->Int)(n:Int):Nat->Int
 | 0=>0
 | k+1=>x k*n/18446744073709551616+(x k*n%18446744073709551616+mulC x n k)/18446744073709551616
def mulP (x:Nat->Int)(n:Int)(k:Nat):Int:=(x k*n%18446744073709551616+mulC x n k)%18446744073709551616
theorem mul_bd (a b c:Int)(ha:0<=a/\a<=18446744073709551615)(hb:0<=b/\b<=18446744073709551615)(hc:0<=c/\c<=18446744073709551615):0<=a*b/18446744073709551616+(a*b%18446744073709551616+c)/18446744073709551616/\a*b/18446744073709551616+(a*b%18446744073709551616+c)/18446744073709551616<=18446744073709551615:=by
 have h1:0<=a*b:=Int.mul_nonneg ha.1 hb.1
 have h2:a*b<=18446744073709551615*18446744073709551615:=Int.mul_le_mul ha.2 hb.2 hb.1 (by decide)
 generalize a*b=P at *
 omega
theorem mulC_word {x:Nat->Int}{n:Int}(hx:Words x)(hn:0<=n/\n<=18446744073709551615):∀ k,0<=mulC x n k/\mulC x n k<=18446744073709551615
 | 0=>by simp [mulC]
 | k+1=>mul_bd _ _ _ (hx k) hn (mulC_word hx hn k)
theorem mulP_words (x:Nat->Int)(n:Int):Words (mulP x n):=fun i=>⟨Int.emod_nonneg _ (by decide),by have:=Int.emod_lt_of_pos (x i*n%18446744073709551616+mulC x n i) (b:=18446744073709551616) (by decide);unfold mulP;omega⟩
theorem mul_val (x:Nat->Int)(n:Int):∀ k,val (mulP x n) k+mulC x n k*18446744073709551616^k=val x k*n
 | 0=>by simp [val,mulC]
 | k+1=>by
  have ih:=mul_val x n k
  have e1:mulP x n k+mulC x n (k+1)*18446744073709551616=x k*n+mulC x n k:=by
   simp only [mulP,mulC];generalize x k*n=P;omega
  simp only [val]
  rw [Int.pow_succ]
  generalize (18446744073709551616:Int)^k=p at *
  generalize mulC x n (k+1)=c' at *
  generalize mulP x n k=d at *
  have e2:d=x k*n+mulC x n k-c'*18446744073709551616:=by omega
  rw [e2]
  grind
end
section
attribute [local go_sem] setCell_drewN alloc_drewN
theorem upd_get {ss:Array Value}{z:Nat->Int}{p:Nat}{v:Int}(h:∀ j h,ss[j]'h=Value.int .u64 (z j))(j:Nat)(hj:j<(ss.setIfInBounds p (.int .u64 v)).size):(ss.setIfInBounds p (.int .u64 v))[j]'hj=Value.int .u64 (if j=p then v else z j):=by
 have h':j<ss.size:=by simpa using hj
 rw [Array.getElem_setIfInBounds h']
 by_cases e:p=j
 ·subst e;simp
 ·rw [if_neg e,h j h',if_neg (Ne.symm e)]
theorem upd_words {z:Nat->Int}{p:Nat}{v:Int}(hz:Words z)(hv:0<=v/\v<=18446744073709551615):Words (fun j=>if j=p then v else z j):=fun i=>by
 show 0<=(if i=p then v else z i)/\(if i=p then v else z i)<=_
 split
 ·exact hv
 ·exact hz i
theorem mul_outer (V Vi a vb c:Int)(i k:Nat)(h:V+c*18446744073709551616^(i+k)=Vi*vb+a*vb*18446744073709551616^i):V+(c-0)*18446744073709551616^(i+k)=(Vi+a*18446744073709551616^i)*vb:=by
 rw [Int.sub_zero,h];generalize (18446744073709551616:Int)^i=p;grind
theorem times_raw (b off n c b' off' n' c':Nat)(x y:Nat->Int)(w:World)(hn:n<1000000)(hn':n'<1000000)(h:Num w (some ⟨b,off,none⟩) n c x)(h':Num w (some ⟨b',off',none⟩) n' c' y) :
  Calls Tryz.prog 16 #[.slice (some ⟨b,off,none⟩) n c,.slice (some ⟨b',off',none⟩) n' c'] w fun e w'=>∃ g k cap z,e=.returned (.slice (some ⟨g,0,none⟩) k cap)/\k<=n+n'+1/\Num w' (some ⟨g,0,none⟩) k cap z/\val z (n+n'+1)=val x n*val y n'/\Below w.heap.size w w':=by
 have hx:=h.2.2.1
 have hy:=h'.2.2.1
 have hc:b<w.heap.size/\∀ i,i<n->w.cell? ⟨b,off+i,none⟩=some (.int .u64 (x i)):=by
  rcases h.2.2.2.2 with ⟨h,_⟩|⟨b',off',h,hbs,hc⟩
  ·cases h
  ·cases h;exact ⟨hbs,hc⟩
 have hc':b'<w.heap.size/\∀ i,i<n'->w.cell? ⟨b',off'+i,none⟩=some (.int .u64 (y i)):=by
  rcases h'.2.2.2.2 with ⟨h,_⟩|⟨b',off',h,hbs,hc⟩
  ·cases h
  ·cases h;exact ⟨hbs,hc⟩
 have hcap:=h.1
 have hcap':=h'.1
 obtain ⟨M,hM⟩:∃ M,n+n'+1=M:=⟨_,rfl⟩
 have hMi:(n:Int)+n'+1=(M:Int):=by omega
 have hmk:=fun w=>make_any ((n:Int)+n'+1) M hMi (by omega) w
 have hcw:∀ (ss:Array Value) i,i<n->(w.alloc (.cells ss 22)).cell? ⟨b,off+i,none⟩=some (.int .u64 (x i)):=fun ss i hi=>((below1 w _).cell (p:=⟨b,off+i,none⟩) hc.1).trans (hc.2 i hi)
 have hcw':∀ (ss:Array Value) i,i<n'->(w.alloc (.cells ss 22)).cell? ⟨b',off'+i,none⟩=some (.int .u64 (y i)):=fun ss i hi=>((below1 w _).cell (p:=⟨b',off'+i,none⟩) hc'.1).trans (hc'.2 i hi)
 have HM:Hid (n+n'+1=M):=hM
 have HZ:Hid ((arrOf (fun _=>0) M).size=M/\∀ j h,(arrOf (fun _=>0) M)[j]'h=Value.int .u64 0):=⟨arrOf_size _ _,fun j h=>arrOf_get _ _ _ _⟩
 clear h h' hMi hc hc' hM
 generalize arrOf (fun _=>0) M=zz at *
 go_enter Tryz.func16,Tryz.ntmps16
 go_wp2
 go_loopw [22] (fun i wr=>∃ (k m:Nat) (ss:Array Value) (z:Nat->Int),k<=n/\i=.int .i64 k/\ss.size=M/\(∀ j h,ss[j]'h=Value.int .u64 (z j))/\Words z/\(∀ j,k+n'<=j->z j=0)/\val z M=val x k*val y n'/\wr=(w.alloc (.cells ss 22)).drewN m) (fun i _=>n-(intOf i).toNat)
 case atStart =>
  refine ⟨0,0,zz,fun _=>0,Nat.zero_le _,rfl,HZ.out.1,HZ.out.2,fun _=>(by decide:(0:Int)<=0/\(0:Int)<=18446744073709551615),fun _ _=>rfl,?_,rfl⟩
  have:∀ m,val (fun _=>0) m=0:=by intro m;induction m with|zero=>rfl|succ m ih=>simp only [val];rw [ih];simp
  rw [this];simp [val]
 case round =>
  obtain ⟨k,m,ss,z,hk,rfl,hsz,hss,hzw,hz0,hv,rfl⟩:=hrel
  by_cases h8:k<n
  ·have h8i:(k:Int)<n:=by omega
   have bx:=hx k
   have hcx:=fun ss=>hcw ss k h8
   have h0p:(∀ j,k+n'<=j->z j=0):=hz0
   go_wp2
   go_loopw [7,27] (fun cc kk wr=>∃ (q m:Nat) (ss:Array Value) (z:Nat->Int) (C:Int),q<=n'/\kk=.int .i64 q/\cc=.int .u64 C/\(0<=C/\C<=18446744073709551615)/\ss.size=M/\(∀ j h,ss[j]'h=Value.int .u64 (z j))/\Words z/\(∀ j,k+n'<=j->z j=0)/\Hid (val z M+C*18446744073709551616^(k+q)=val x k*val y n'+x k*val y q*18446744073709551616^k)/\wr=(w.alloc (.cells ss 22)).drewN m) (fun _ kk _=>n'-(intOf kk).toNat)
   case atStart=>exact ⟨0,m,ss,z,0,Nat.zero_le _,rfl,rfl,by decide,hsz,hss,hzw,hz0,by show _=_;rw [hv];simp [val],rfl⟩
   case round =>
    clear hss hsz hzw hz0 hv h0p
    obtain ⟨q,m2,s2,z2,C,hq,rfl,rfl,hCb,hsz,hss,hzw,hz0,hv,rfl⟩:=hrel
    by_cases hqn:q<n'
    ·have hqi:(q:Int)<n':=by omega
     have b_y:=hy q
     have hcy:=hcw' s2 q hqn
     have hcx2:=hcx s2
     have hp:k+q<s2.size:=by have:=HM.out;omega
     have hpi:(k:Int)+q<M:=by have:=HM.out;omega
     have e1:((k:Int)+q).toNat=k+q:=by omega
     have hsp:s2[k+q]?=some (.int .u64 (z2 (k+q))):=by rw [Array.getElem?_eq_getElem hp,hss _ hp]
     have hsp':∀ h,s2[k+q]'h=.int .u64 (z2 (k+q)):=fun h=>hss _ h
     have hzp:=hzw (k+q)
     have hms:=mul_step (x k) (y q) (z2 (k+q)) C bx b_y hzp hCb
     have hmul:=mul64 (x k) (y q) bx b_y
     have hL0:0<=x k*y q%18446744073709551616:=Int.emod_nonneg _ (by decide)
     have hH0:0<=x k*y q/18446744073709551616:=Int.ediv_nonneg (Int.mul_nonneg bx.1 b_y.1) (by decide)
     have hA1:=fun w=>add64z (x k*y q%18446744073709551616) (z2 (k+q)) hL0 hzp.1 w
     have hs0:0<=(x k*y q%18446744073709551616+z2 (k+q))%18446744073709551616:=Int.emod_nonneg _ (by decide)
     have hd0:0<=(x k*y q%18446744073709551616+z2 (k+q))/18446744073709551616:=Int.ediv_nonneg (by omega) (by decide)
     have hA2:=fun w=>add64z ((x k*y q%18446744073709551616+z2 (k+q))%18446744073709551616) C hs0 hCb.1 w
     have ht0:0<=((x k*y q%18446744073709551616+z2 (k+q))%18446744073709551616+C)%18446744073709551616/\((x k*y q%18446744073709551616+z2 (k+q))%18446744073709551616+C)%18446744073709551616<=18446744073709551615:=by omega
     have hf0:0<=((x k*y q%18446744073709551616+z2 (k+q))%18446744073709551616+C)/18446744073709551616:=Int.ediv_nonneg (by omega) (by decide)
     generalize ((x k*y q%18446744073709551616+z2 (k+q))%18446744073709551616+C)%18446744073709551616=t2 at *
     generalize ((x k*y q%18446744073709551616+z2 (k+q))%18446744073709551616+C)/18446744073709551616=f2 at *
     generalize (x k*y q%18446744073709551616+z2 (k+q))%18446744073709551616=t1 at *
     generalize (x k*y q%18446744073709551616+z2 (k+q))/18446744073709551616=f1 at *
     generalize x k*y q%18446744073709551616=lo at *
     generalize x k*y q/18446744073709551616=hi at *
     have HMS:Hid (t2+(hi+f1+f2)*18446744073709551616=x k*y q+z2 (k+q)+C):=hms.1
     have hb1:0<=hi+f1:=hms.2.1
     have hb2:hi+f1<=18446744073709551615:=hms.2.2.1
     have hb3:0<=hi+f1+f2:=hms.2.2.2.1
     have hb4:hi+f1+f2<=18446744073709551615:=hms.2.2.2.2
     have HSS:Hid (∀ j h,s2[j]'h=Value.int .u64 (z2 j)):=hss
     have HZW:Hid (Words z2):=hzw
     have HZ0:Hid (∀ j,k+n'<=j->z2 j=0):=hz0
     have HR:Hid (val (fun j=>if j=k+q then t2 else z2 j) M+(hi+f1+f2)*18446744073709551616^(k+(q+1))=val x k*val y n'+x k*val y (q+1)*18446744073709551616^k):=by
      show _=_
      rw [val_set z2 (k+q) t2 M (by have:=HM.out;omega)]
      exact mul_inner _ _ _ _ _ _ _ _ _ k q hv.out hms.1
     clear hms hss hzw hz0 hx hy hcw hcw' hmk hv
     go_wp2
     go_quiet ((go_at_call 35;exact (hmul _).mono fun _ _ h=>⟨h.1,_,h.2⟩))
     go_wp2
     go_roundw
     case rel=>exact ⟨q+1,m2+nq,s2.setIfInBounds (k+q) (.int .u64 t2),fun j=>if j=k+q then t2 else z2 j,hi+f1+f2,by omega,by go_num,rfl,⟨hb3,hb4⟩,by simp [hsz],upd_get HSS.out,upd_words HZW.out ht0,fun j hj=>(if_neg (show ¬ j=k+q by omega)).trans (HZ0.out j hj),HR,by simp [go_sem]⟩
     case measure=>simp [intOf];omega
    ·obtain rfl:q=n':=by omega
     have hp:k+q<s2.size:=by have:=HM.out;omega
     have hpi:(k:Int)+q<M:=by have:=HM.out;omega
     have e1:((k:Int)+q).toNat=k+q:=by omega
     have hsp:s2[k+q]?=some (.int .u64 0):=by rw [Array.getElem?_eq_getElem hp,hss _ hp,hz0 _ (Nat.le_refl _)]
     have HR:Hid (val (fun j=>if j=k+q then C else z2 j) M=val x (k+1)*val y q):=by
      show _=_
      rw [val_set z2 (k+q) C M (by have:=HM.out;omega),hz0 _ (Nat.le_refl _)]
      exact mul_outer _ _ _ _ _ k q hv.out
     have HSS:Hid (∀ j h,s2[j]'h=Value.int .u64 (z2 j)):=hss
     have HZW:Hid (Words z2):=hzw
     have HZ0:Hid (∀ j,k+q<=j->z2 j=0):=hz0
     clear hss hzw hz0 hx hy hcw hcw' hmk hv hcx
     go_wp2
     go_roundw
     case rel=>exact ⟨k+1,m2,s2.setIfInBounds (k+q) (.int .u64 C),fun j=>if j=k+q then C else z2 j,by omega,by go_num,by simp [hsz],upd_get HSS.out,upd_words HZW.out hCb,fun j hj=>(if_neg (show ¬ j=k+q by omega)).trans (HZ0.out j (by omega)),HR.out,by simp [go_sem]⟩
     case measure=>simp [intOf];omega
  ·obtain rfl:k=n:=by omega
   have hT:=trim_any _ _ _ _ _ (by have:=HM.out;omega) ((num_of_block (w:=w) (by have:=HM.out;omega) hzw (fun i hi=>hz0 i (by have:=HM.out;omega)) hsz hss).drewN m)
   have hle:=sizeL_le z M
   clear hss hmk hx hy hcw hcw' hzw hz0
   go_wp2_with (go_at_call 37;refine hT.mono ?_;rintro e w1 ⟨g,cap,rfl,hN,hB⟩)
   go_ret
   exact ⟨g,_,cap,z,rfl,Nat.le_trans hle (Nat.le_of_eq HM.out.symm),hN,by rw [HM.out];exact hv,(below_drewN (below1 w _) m).trans (hB.mono (by simp))⟩
end
def HasN (g n:Nat)(x:Nat->Int)(w:World):Prop:=g<w.heap.size/\∀ i,i<n->w.cell? ⟨g,i,none⟩=some (.int .u64 (x i))
theorem HasN.next {g n:Nat}{x:Nat->Int}{w w':World}(h:HasN g n x w)(hb:Below w.heap.size w w'):HasN g n x w' :=
 ⟨Nat.lt_of_lt_of_le h.1 hb.size,fun i hi=>(hb.cell (p:=⟨g,i,none⟩) h.1).trans (h.2 i hi)⟩
theorem HasN.of_alloc (w:World)(cs:Array Value)(t:TypeId)(n:Nat)(x:Nat->Int)(h:∀ i,i<n->cs[i]?=some (.int .u64 (x i))):HasN w.heap.size n x (w.alloc (.cells cs t)) :=
 ⟨by simp,fun i hi=>by rw [World.cell?_alloc_new];exact h i hi⟩
theorem HasN.num {g n c m:Nat}{x:Nat->Int}{w:World}(h:HasN g m x w)(hx:Words x)(hn:n<=m)(hc:n<=c)(hcm:c<=maxLen):Num w (some ⟨g,0,none⟩) n c (lowW x n) :=
 ⟨hc,hcm,lowW_words hx n,fun i hi=>by unfold lowW;rw [if_neg (by omega)],Or.inr ⟨g,0,rfl,h.1,fun i hi=>by rw [Nat.zero_add,h.2 i (by omega)];unfold lowW;rw [if_pos hi]⟩⟩
def KP (w0:World)(l:List (Nat×Nat×(Nat->Int)))(w:World):Prop:=Below w0.heap.size w0 w/\∀ e ∈ l,HasN e.1 e.2.1 e.2.2 w
theorem KP.next {w0:World}{l:List (Nat×Nat×(Nat->Int))}{w w':World}(h:KP w0 l w)(hb:Below w.heap.size w w'):KP w0 l w':=⟨h.1.trans (hb.mono h.1.size),fun e he=>(h.2 e he).next hb⟩
theorem KP.drew {w0:World}{l:List (Nat×Nat×(Nat->Int))}{w:World}(h:KP w0 l w):KP w0 l w.drew:=⟨h.1.drew,h.2⟩
theorem KP.alloc {w0:World}{l:List (Nat×Nat×(Nat->Int))}{w:World}(h:KP w0 l w)(o:Obj):KP w0 l (w.alloc o):=h.next (below1 w o)
theorem KP.setg {w0:World}{l:List (Nat×Nat×(Nat->Int))}{w wg:World}(h:KP w0 l w)(hg:KP w0 l wg)(i:Nat)(v:Value):KP w0 l (w.setCell ⟨wg.heap.size,i,none⟩ v):=by
 refine ⟨h.1.setCell hg.1.size v,fun e he=>?_⟩
 have h1:=h.2 e he
 have h2:=(hg.2 e he).1
 have hb:Below (e.1+1) w (w.setCell ⟨wg.heap.size,i,none⟩ v):=(Below.refl _ _).setCell (by show e.1+1<=wg.heap.size;omega) v
 exact ⟨Nat.lt_of_lt_of_le h1.1 hb.size,fun j hj=>(hb.cell (p:=⟨e.1,j,none⟩) (by show e.1<e.1+1;omega)).trans (h1.2 j hj)⟩
theorem KP.cons {w0:World}{l:List (Nat×Nat×(Nat->Int))}{w:World}(h:KP w0 l w){g n:Nat}{x:Nat->Int}(hg:HasN g n x w):KP w0 ((g,n,x)::l) w:=⟨h.1,fun e he=>by
 rcases List.mem_cons.1 he with rfl|he
 ·exact hg
 ·exact h.2 e he⟩
theorem KP.at {w0:World}{l:List (Nat×Nat×(Nat->Int))}{w:World}(h:KP w0 l w){g n:Nat}{x:Nat->Int}(hm:(g,n,x) ∈ l):HasN g n x w:=h.2 _ hm
theorem lt_alloc' {W w3:World}{o:Obj}{n:Nat}(hb:Below n (W.alloc o) w3):W.heap.size<w3.heap.size:=by
 have h:=hb.size
 have h2:(W.alloc o).heap.size=W.heap.size+1:=World.size_alloc W o
 omega
theorem KP.new {w0:World}{l:List (Nat×Nat×(Nat->Int))}{w:World}(h:KP w0 l w)(cs:Array Value)(t:TypeId)(n:Nat)(x:Nat->Int)(hc:∀ i,i<n->cs[i]?=some (.int .u64 (x i))):KP w0 ((w.heap.size,n,x)::l) (w.alloc (.cells cs t)) :=
 (h.alloc _).cons (HasN.of_alloc w cs t n x hc)
def putN (w:World)(g:Nat)(x:Nat->Int):Nat->World
 | 0=>w
 | n+1=>(putN w g x n).setCell ⟨g,n,none⟩ (.int .u64 (x n))
theorem putN_kp {w0:World}{l:List (Nat×Nat×(Nat->Int))}{w wg:World}(h:KP w0 l w)(hg:KP w0 l wg)(x:Nat->Int):∀ n,KP w0 l (putN w wg.heap.size x n)
 | 0=>h
 | n+1=>(putN_kp h hg x n).setg hg n _
theorem putN_size (w:World)(g:Nat)(x:Nat->Int):∀ n,w.heap.size<=(putN w g x n).heap.size
 | 0=>Nat.le_refl _
 | n+1=>Nat.le_trans (putN_size w g x n) ((Below.refl 0 _).setCell (Nat.zero_le _) _:Below 0 _ _).size
theorem putN_cell (w:World)(g N:Nat)(x:Nat->Int)(hc:∀ i,i<N->(w.cell? ⟨g,i,none⟩).isSome=true):∀ n,n<=N->∀ i,i<N->(putN w g x n).cell? ⟨g,i,none⟩=if i<n then some (.int .u64 (x i)) else w.cell? ⟨g,i,none⟩
 | 0,_,i,_=>by rw [if_neg (by omega)];rfl
 | n+1,hn,i,hi=>by
  have ih:=putN_cell w g N x hc n (by omega)
  show ((putN w g x n).setCell ⟨g,n,none⟩ (.int .u64 (x n))).cell? ⟨g,i,none⟩=_
  by_cases e:i=n
  ·subst e
   rw [if_pos (by omega)]
   have:=ih i hi
   rw [if_neg (by omega)] at this
   exact World.cell?_setCell_same' _ _ _ (by rw [this];exact hc i hi)
  ·have hne:(⟨g,n,none⟩:Addr)≠⟨g,i,none⟩:=by intro h;injection h with h1 h2;exact e h2.symm
   refine Eq.trans (World.cell?_setCell_other (h:=hne) ..) ?_
   rw [ih i hi]
   by_cases e2:i<n
   ·rw [if_pos e2,if_pos (by omega)]
   ·rw [if_neg e2,if_neg (by omega)]
theorem KP.put {w0:World}{l:List (Nat×Nat×(Nat->Int))}{w wg:World}(h:KP w0 l w)(hg:KP w0 l wg)(hlt:wg.heap.size<w.heap.size)(x:Nat->Int)(n:Nat)(hc:∀ i,i<n->(w.cell? ⟨wg.heap.size,i,none⟩).isSome=true):KP w0 ((wg.heap.size,n,x)::l) (putN w wg.heap.size x n) :=
 (putN_kp h hg x n).cons ⟨Nat.lt_of_lt_of_le hlt (putN_size w _ x n),fun i hi=>by rw [putN_cell w wg.heap.size n x hc n (Nat.le_refl _) i hi,if_pos hi]⟩
theorem bare_any (a:Option Addr)(n c:Nat)(x:Nat->Int)(w:World)(hn:n<4294967296)(h:Num w a n c x) :
  CQ 83 #[.slice a n c] w (.slice a (sizeL x n) c):=by
 obtain ⟨h1,h2,h3,h4,h5⟩:=h
 rcases h5 with ⟨rfl,rfl⟩|⟨b,off,rfl,hbs,hc⟩
 ·obtain rfl:n=0:=by omega
  go_enter Tryz.func83,Tryz.ntmps83
  go_wp2
  go_loop [3] (fun t=>t=.int .i64 0) (fun t=>(intOf t).toNat)
  case atStart=>rfl
  case round =>
   subst hrel
   go_wp2
   go_ret
   exact ⟨rfl,rfl⟩
 ·unfold maxLen at h2
  clear h3 h4
  go_enter Tryz.func83,Tryz.ntmps83
  go_wp2
  go_loop [3] (fun t=>∃ k:Nat,k<=n/\sizeL x k=sizeL x n/\t=.int .i64 k) (fun t=>(intOf t).toNat)
  case atStart=>exact ⟨n,Nat.le_refl _,rfl,rfl⟩
  case round =>
   obtain ⟨k,hk,hs,rfl⟩:=hrel
   by_cases h0:k=0
   ·subst h0
    have HS:Hid (sizeL x n=0):=hs.symm
    clear hs hc
    go_wp2
    go_ret
    exact ⟨by rw [HS.out];rfl,rfl⟩
   ·obtain ⟨j,rfl⟩:∃ j,k=j+1:=⟨k-1,by omega⟩
    have hcj:=hc j (by omega)
    by_cases hzj:x j=0
    ·have HS:Hid (sizeL x j=sizeL x n):=by
      have:sizeL x (j+1)=sizeL x j:=by simp [sizeL,hzj]
      exact this.symm.trans hs
     clear hs hc
     go_wp2
     go_round
     case rel=>exact ⟨j,by omega,HS.out,by go_num⟩
     case measure=>simp [intOf]
    ·have HS:Hid (sizeL x n=j+1):=by
      have:sizeL x (j+1)=j+1:=by simp [sizeL,hzj]
      exact hs.symm.trans this
     clear hs hc
     go_wp2
     go_ret
     exact ⟨by rw [HS.out];rfl,rfl⟩
theorem sizeL_zero {x:Nat->Int}:∀ n,(∀ i,n<=i->x i=0)->∀ i,sizeL x n<=i->x i=0
 | 0,h,i,_=>h i (Nat.zero_le _)
 | n+1,h,i,hi=>by
  by_cases hz:x n=0
  ·rw [show sizeL x (n+1)=sizeL x n by simp [sizeL,hz]] at hi
   exact sizeL_zero n (fun j hj=>if e:j=n then e▸hz else h j (by omega)) i hi
  ·rw [show sizeL x (n+1)=n+1 by simp [sizeL,hz]] at hi
   exact h i hi
theorem sizeL_top {x:Nat->Int}:∀ n,0<sizeL x n->x (sizeL x n-1)≠0
 | 0,h=>by simp [sizeL] at h
 | n+1,h=>by
  by_cases hz:x n=0
  ·rw [show sizeL x (n+1)=sizeL x n by simp [sizeL,hz]] at h ⊢
   exact sizeL_top n h
  ·rw [show sizeL x (n+1)=n+1 by simp [sizeL,hz]]
   exact hz
theorem sizeL_sizeL (x:Nat->Int):∀ n,sizeL x (sizeL x n)=sizeL x n
 | 0=>rfl
 | n+1=>by
  by_cases hz:x n=0
  ·rw [show sizeL x (n+1)=sizeL x n by simp [sizeL,hz]];exact sizeL_sizeL x n
  ·have:sizeL x (n+1)=n+1:=by simp [sizeL,hz]
   rw [this];exact this
theorem Num.bare {w:World}{a:Option Addr}{n c:Nat}{x:Nat->Int}(h:Num w a n c x):Num w a (sizeL x n) c x:=by
 obtain ⟨h1,h2,h3,h4,h5⟩:=h
 have hle:=sizeL_le x n
 refine ⟨by omega,h2,h3,sizeL_zero n h4,?_⟩
 rcases h5 with ⟨h,h'⟩|⟨b,off,h,hb,hc⟩
 ·exact Or.inl ⟨h,h'⟩
 ·exact Or.inr ⟨b,off,h,hb,fun i hi=>hc i (by omega)⟩
theorem setRow_new (w:World)(cs ds:Array Value)(t:TypeId):(w.alloc (.cells cs t)).setRow w.heap.size ds=w.alloc (.cells ds t):=World.setRow_alloc_new w cs ds t
theorem wl_get (x:Nat->Int)(k j:Nat)(v:Value)(h:(wl x k)[j]?=some v):j<k/\v=.int .u64 (x j):=by
 have hj:j<k:=by
  rcases Nat.lt_or_ge j k with h'|h'
  ·exact h'
  ·rw [List.getElem?_eq_none (by simpa [wl] using h')] at h;cases h
 refine ⟨hj,?_⟩
 simpa [wl,hj] using h.symm
theorem copy_num {w:World}{a:Option Addr}{k c N C:Nat}{x:Nat->Int}(ty:TypeId)(h:Num w a k c x)(hN:k<=N) :
  (Builtin.copy_ #[40,40] ty #[.slice (some ⟨w.heap.size,0,none⟩) N C,.slice a k c]).run Tryz.prog (w.alloc (.cells (arrOf (fun _=>0) N) 22))=.ok (goInt k) (w.alloc (.cells (arrOf x N) 22)):=by
 obtain ⟨h1,h2,h3,h4,h5⟩:=h
 have hsz:(Tryz.prog.info? 22).map (·.size)=some 1:=by kernel_rfl
 rcases h5 with ⟨rfl,rfl⟩|⟨b,off,rfl,hb,hc⟩
 ·obtain rfl:k=0:=by omega
  rw [run_copy_none _ 40 40 ty 22 _ _ _ _ _ _ Tryz.underlying40 hsz (by simp)]
  have:arrOf (fun _=>0) N=arrOf x N:=arrOf_congr fun i _=>(h4 i (Nat.zero_le _)).symm
  rw [this];rfl
 ·have hl:(wl x k).length=k:=by simp [wl]
  rw [run_copy_row _ _ 40 40 ty 22 w.heap.size 0 N C ⟨b,off,none⟩ k c (arrOf (fun _=>0) N) 22 (wl x k) Tryz.underlying40 hsz (MapKept.heap_alloc w _).1 (by rw [hl];exact (Nat.min_eq_left hN).symm) ?_ (by rw [hl,arrOf_size];omega) ?_]
  ·rw [hl,setRow_new]
   have:((arrOf (fun _=>0) N).toList.take 0++wl x k++(arrOf (fun _=>0) N).toList.drop (0+k)).toArray=arrOf x N:=by
    apply arrOf_of
    ·simp [wl,arrOf];omega
    ·intro i hi
     by_cases hik:i<k
     ·simp [wl,arrOf,List.getElem?_append,hik]
     ·simp [wl,arrOf,List.getElem?_append,hik]
      rw [h4 i (by omega)]
      have:k+(i-k)=i:=by omega
      simp [this,hi]
   rw [this]
  ·intro j v hj
   obtain ⟨hjk,rfl⟩:=wl_get x k j v hj
   have ea:(⟨b,off,none⟩:Addr).add j=⟨b,off+j,none⟩:=by simp [Addr.add]
   rw [ea]
   exact ((below1 w _).cell (p:=⟨b,off+j,none⟩) hb).trans (hc j hjk)
  ·intro v hv
   obtain ⟨q,_,rfl⟩:=List.mem_map.1 hv
   rfl
theorem ntrim_any (a:Option Addr)(n c:Nat)(x:Nat->Int)(w:World)(hn:n<4294967296)(h:Num w a n c x) :
  Calls Tryz.prog 84 #[.slice a n c] w fun e w'=>e=.returned (.slice (some ⟨w.heap.size,0,none⟩) (sizeL x n) (sizeL x n))/\w.alloc (.cells (arrOf x (sizeL x n)) 22)=w':=by
 have hb:=bare_any a n c x w hn h
 have hle:=sizeL_le x n
 have hmk:=fun w=>make_any (sizeL x n:Int) (sizeL x n) rfl (by omega) w
 have hcp:=fun ty=>copy_num (N:=sizeL x n) (C:=sizeL x n) ty h.bare (Nat.le_refl _)
 clear h
 generalize sizeL x n=s at *
 go_enter Tryz.func84,Tryz.ntmps84
 go_wp2_with (go_at_call 83;refine hb.mono ?_;rintro e w' ⟨rfl,rfl⟩)
 go_ret
 exact ⟨rfl,rfl⟩
section
attribute [local go_sem ↓] Go.wp_at_zero Go.wp_at_succ
attribute [local go_sem] setCell_drewN alloc_drewN
theorem limAdd4 (x y:Nat->Int)(w:World)(hx:Words x)(hy:Words y) :
  CB 102 #[.agg (arrOf x 4),.agg (arrOf y 4)] w (.tuple #[.agg (arrOf (sumW x y) 4),.int .u64 (carryW x y 4)]):=by
 have sx:(arrOf x 4).size=4:=arrOf_size x 4
 have sy:(arrOf y 4).size=4:=arrOf_size y 4
 have gx:=fun i h=>arrOf_get x 4 i h
 have gy:=fun i h=>arrOf_get y 4 i h
 generalize arrOf x 4=ax at *
 generalize arrOf y 4=ay at *
 go_enter Tryz.func102,Tryz.ntmps102
 go_wp2
 go_loopw [7,8,11,14] (fun c u8 i u14 wr=>∃ (k m:Nat) (ss:Array Value),k<=4/\i=.int .i64 k/\c=.int .u64 (carryW x y k)/\ss.size=4/\(∀ j h,ss[j]'h=Value.int .u64 (if j<k then sumW x y j else 0))/\wr=(((((w.alloc (.cells ax 23)).alloc (.cells ay 23)).alloc (.cells #[.int .u64 0,.int .u64 0,.int .u64 0,.int .u64 0] 23)).alloc (.cells ss 23)).drewN m)) (fun _ _ i _ _=>4-(intOf i).toNat)
 case atStart=>exact ⟨0,0,_,Nat.zero_le _,rfl,rfl,rfl,by intro j h;have h':j<4:=h;match j,h' with|0,_=>rfl|1,_=>rfl|2,_=>rfl|3,_=>rfl,rfl⟩
 case round =>
  obtain ⟨k,m,ss,hk,rfl,rfl,hsz,hss,rfl⟩:=hrel
  have hcar:=carryW_01 hx hy k
  by_cases h8:k<4
  ·have h8i:(k:Int)<4:=by omega
   have h8s:k<ss.size:=by omega
   have bx:=hx k
   have b_y:=hy k
   have hcx:(ax[k]'(by omega))=.int .u64 (x k):=gx k _
   have hcy:(ay[k]'(by omega))=.int .u64 (y k):=gy k _
   have hadd:=fun w=>add64 (x k) (y k) (carryW x y k) bx.1 b_y.1 hcar.1 hcar.2 w
   go_wp2
   go_region_held3 (fun w'=>w'.cell? ⟨w.heap.size,k,none⟩=some (.int .u64 (x k))/\w'.cell? ⟨w.heap.size+1,k,none⟩=some (.int .u64 (y k))) ((simp [go_sem,hcx,hcy,sx,sy,h8])) (fail)
   go_wp2
   go_roundw
   case rel=>exact ⟨k+1,m+1,ss.setIfInBounds k (.int .u64 (sumW x y k)),by omega,by go_num,rfl,by simp [hsz],set_next hss,rfl⟩
   case measure=>simp [intOf];omega
  ·obtain rfl:k=4:=by omega
   have hss':∀ j h,ss[j]'h=Value.int .u64 (sumW x y j):=by
    intro j h;rw [hss j h,if_pos (by omega)]
   clear hss
   go_wp2
   exact bodyPost_ret (v:=.tuple #[.agg (arrOf (sumW x y) 4),.int .u64 (carryW x y 4)]) (by simp [results,Tryz.results102,go_sem];rfl) rfl ⟨rfl,below_alloc4 _ _ _ _ _ _⟩
theorem limSub4 (x y:Nat->Int)(w:World)(hx:Words x)(hy:Words y) :
  CB 155 #[.agg (arrOf x 4),.agg (arrOf y 4)] w (.tuple #[.agg (arrOf (difW x y) 4),.int .u64 (borW x y 4)]):=by
 have sx:(arrOf x 4).size=4:=arrOf_size x 4
 have sy:(arrOf y 4).size=4:=arrOf_size y 4
 have gx:=fun i h=>arrOf_get x 4 i h
 have gy:=fun i h=>arrOf_get y 4 i h
 generalize arrOf x 4=ax at *
 generalize arrOf y 4=ay at *
 go_enter Tryz.func155,Tryz.ntmps155
 go_wp2
 go_loopw [7,8,11,14] (fun c u8 i u14 wr=>∃ (k m:Nat) (ss:Array Value),k<=4/\i=.int .i64 k/\c=.int .u64 (borW x y k)/\ss.size=4/\(∀ j h,ss[j]'h=Value.int .u64 (if j<k then difW x y j else 0))/\wr=(((((w.alloc (.cells ax 23)).alloc (.cells ay 23)).alloc (.cells #[.int .u64 0,.int .u64 0,.int .u64 0,.int .u64 0] 23)).alloc (.cells ss 23)).drewN m)) (fun _ _ i _ _=>4-(intOf i).toNat)
 case atStart=>exact ⟨0,0,_,Nat.zero_le _,rfl,rfl,rfl,by intro j h;have h':j<4:=h;match j,h' with|0,_=>rfl|1,_=>rfl|2,_=>rfl|3,_=>rfl,rfl⟩
 case round =>
  obtain ⟨k,m,ss,hk,rfl,rfl,hsz,hss,rfl⟩:=hrel
  have hcar:=borW_01 x y k
  by_cases h8:k<4
  ·have h8i:(k:Int)<4:=by omega
   have h8s:k<ss.size:=by omega
   have bx:=hx k
   have b_y:=hy k
   have hcx:(ax[k]'(by omega))=.int .u64 (x k):=gx k _
   have hcy:(ay[k]'(by omega))=.int .u64 (y k):=gy k _
   have hadd:=fun w=>sub64 (x k) (y k) (borW x y k) bx.1 b_y.1 (by omega) hcar.1 hcar.2 w
   go_wp2
   go_region_held3 (fun w'=>w'.cell? ⟨w.heap.size,k,none⟩=some (.int .u64 (x k))/\w'.cell? ⟨w.heap.size+1,k,none⟩=some (.int .u64 (y k))) ((simp [go_sem,hcx,hcy,sx,sy,h8])) (fail)
   go_wp2
   go_roundw
   case rel=>exact ⟨k+1,m+1,ss.setIfInBounds k (.int .u64 (difW x y k)),by omega,by go_num,rfl,by simp [hsz],set_next hss,rfl⟩
   case measure=>simp [intOf];omega
  ·obtain rfl:k=4:=by omega
   have hss':∀ j h,ss[j]'h=Value.int .u64 (difW x y j):=by
    intro j h;rw [hss j h,if_pos (by omega)]
   clear hss
   go_wp2
   exact bodyPost_ret (v:=.tuple #[.agg (arrOf (difW x y) 4),.int .u64 (borW x y 4)]) (by simp [results,Tryz.results155,go_sem];rfl) rfl ⟨rfl,below_alloc4 _ _ _ _ _ _⟩
def shlL (x:Nat->Int)(q r j:Nat):Int:=if q<=j then (if q<j then bits BinOp.or IntKind.u64 (IntKind.u64.wrap (x (j-q)*2^r)) (x (j-q-1)/2^(64-r)) else IntKind.u64.wrap (x (j-q)*2^r)) else 0
def shrL (x:Nat->Int)(q r n j:Nat):Int:=if q+j<n then (if q+j+1<n then bits BinOp.or IntKind.u64 (x (q+j)/2^r) (IntKind.u64.wrap (x (q+j+1)*2^(64-r))) else x (q+j)/2^r) else 0
theorem limShl4 (x:Nat->Int)(n:Int)(q r:Nat)(w:World)(hx:Words x)(hn:1<=n)(hn2:n<=9223372036854775807)(hq:n/64=q)(hr:n%64=r)(hr6:r<64) :
  CB 137 #[.agg (arrOf x 4),.int .i64 n] w (.agg (arrOf (shlL x q r) 4)):=by
 have sx:(arrOf x 4).size=4:=arrOf_size x 4
 have gx:=fun i h=>arrOf_get x 4 i h
 generalize arrOf x 4=ax at *
 have hn1:¬ n<1:=by omega
 go_enter Tryz.func137,Tryz.ntmps137
 go_wp2
 go_loopw [8] (fun i wr=>∃ (j m:Nat) (ss:Array Value),q<=j/\i=.int .i64 j/\(j<=4∨j=q)/\ss.size=4/\(∀ k h,ss[k]'h=Value.int .u64 (if k<j then shlL x q r k else 0))/\wr=((((w.alloc (.cells ax 23)).alloc (.cells #[.int .u64 0,.int .u64 0,.int .u64 0,.int .u64 0] 23)).alloc (.cells ss 23)).drewN m)) (fun i _=>4-(intOf i).toNat)
 case atStart=>exact ⟨q,0,_,Nat.le_refl _,rfl,Or.inr rfl,rfl,by intro k h;have h':k<4:=h;by_cases e:k<q;(rw [if_pos e];unfold shlL;rw [if_neg (by omega)];match k,h' with|0,_=>rfl|1,_=>rfl|2,_=>rfl|3,_=>rfl);(rw [if_neg e];match k,h' with|0,_=>rfl|1,_=>rfl|2,_=>rfl|3,_=>rfl),rfl⟩
 case round =>
  obtain ⟨j,m,ss,hqj,rfl,hj,hsz,hss,rfl⟩:=hrel
  by_cases h8:j<4
  ·have h8i:(j:Int)<4:=by omega
   have h8s:j<ss.size:=by omega
   have hqi:(q:Int)<=j:=by omega
   have e1:((j:Int)-q).toNat=j-q:=by omega
   have hlt:(j:Int)-q<4:=by omega
   have hge:0<=(j:Int)-q:=by omega
   have bx:=hx (j-q)
   have hcx:ax[j-q]?=some (.int .u64 (x (j-q))):=by rw [Array.getElem?_eq_getElem (by omega),gx _ (by omega)]
   have hsk:ss[j]?=some (.int .u64 0):=by rw [Array.getElem?_eq_getElem h8s,hss j h8s,if_neg (by omega)]
   have HR:Hid (∀ (i:Nat) (h:i<(ss.setIfInBounds j (.int .u64 (shlL x q r j))).size),(ss.setIfInBounds j (.int .u64 (shlL x q r j)))[i]'h=Value.int .u64 (if i<j+1 then shlL x q r i else 0)):=set_next hss
   by_cases hqq:q<j
   ·have hqq':(q:Int)<j:=by omega
    have e2:((j:Int)-q-1).toNat=j-q-1:=by omega
    have hlt2:(j:Int)-q-1<4:=by omega
    have hge2:0<=(j:Int)-q-1:=by omega
    have bx2:=hx (j-q-1)
    have hcx2:ax[j-q-1]?=some (.int .u64 (x (j-q-1))):=by rw [Array.getElem?_eq_getElem (by omega),gx _ (by omega)]
    have HV:Hid (shlL x q r j=bits BinOp.or IntKind.u64 (IntKind.u64.wrap (x (j-q)*2^r)) (x (j-q-1)/2^(64-r))):=by show _=_;unfold shlL;rw [if_pos hqj,if_pos hqq]
    clear hss gx hx
    go_wp2
    go_region
    go_wp2
    go_roundw
    case rel=>refine ⟨j+1,m+1,ss.setIfInBounds j (.int .u64 (shlL x q r j)),by omega,by go_num,Or.inl (by omega),by simp [hsz],HR.out,?_⟩;rw [HV.out]
    case measure=>simp [intOf];omega
   ·have hqq':¬ (q:Int)<j:=by omega
    have HV:Hid (shlL x q r j=IntKind.u64.wrap (x (j-q)*2^r)):=by show _=_;unfold shlL;rw [if_pos hqj,if_neg hqq]
    clear hss gx hx
    go_wp2
    go_roundw
    case rel=>refine ⟨j+1,m,ss.setIfInBounds j (.int .u64 (shlL x q r j)),by omega,by go_num,Or.inl (by omega),by simp [hsz],HR.out,?_⟩;rw [HV.out]
    case measure=>simp [intOf];omega
  ·have h8i:¬ (j:Int)<4:=by omega
   have hss':∀ k h,ss[k]'h=Value.int .u64 (shlL x q r k):=by
    intro k h;rw [hss k h,if_pos (by omega)]
   clear hss gx
   go_wp2
   exact bodyPost_ret (v:=.agg (arrOf (shlL x q r) 4)) (by simp [results,Tryz.results137,go_sem];rfl) rfl ⟨rfl,below_alloc3 _ _ _ _ _⟩
theorem limShl4_0 (x:Nat->Int)(n:Int)(w:World)(hn:n<1) :
  CB 137 #[.agg (arrOf x 4),.int .i64 n] w (.agg (arrOf x 4)):=by
 have sx:(arrOf x 4).size=4:=arrOf_size x 4
 have gx:=fun i h=>arrOf_get x 4 i h
 have hl:arrOf x 4=#[.int .u64 (x 0),.int .u64 (x 1),.int .u64 (x 2),.int .u64 (x 3)]:=rfl
 rw [hl]
 rw [hl] at sx gx
 clear gx sx
 go_enter Tryz.func137,Tryz.ntmps137
 go_wp2
 exact bodyPost_ret (v:=.agg #[.int .u64 (x 0),.int .u64 (x 1),.int .u64 (x 2),.int .u64 (x 3)]) (by simp [results,Tryz.results137,go_sem]) rfl ⟨rfl,((Below.refl _ _).alloc (Nat.le_refl _) _).alloc (by simp) _⟩
theorem limShr4 (x:Nat->Int)(n:Int)(q r:Nat)(w:World)(hx:Words x)(hn:1<=n)(hn2:n<=9223372036854775807)(hq:n/64=q)(hr:n%64=r)(hr6:r<64) :
  CB 154 #[.agg (arrOf x 4),.int .i64 n] w (.agg (arrOf (shrL x q r 4) 4)):=by
 have sx:(arrOf x 4).size=4:=arrOf_size x 4
 have gx:=fun i h=>arrOf_get x 4 i h
 generalize arrOf x 4=ax at *
 have hn1:¬ n<1:=by omega
 go_enter Tryz.func154,Tryz.ntmps154
 go_wp2
 go_loopw [8] (fun i wr=>∃ (j m:Nat) (ss:Array Value),q<=j/\i=.int .i64 j/\(j<=4∨j=q)/\ss.size=4/\(∀ k h,ss[k]'h=Value.int .u64 (if k<j-q then shrL x q r 4 k else 0))/\wr=((((w.alloc (.cells ax 23)).alloc (.cells #[.int .u64 0,.int .u64 0,.int .u64 0,.int .u64 0] 23)).alloc (.cells ss 23)).drewN m)) (fun i _=>4-(intOf i).toNat)
 case atStart=>exact ⟨q,0,_,Nat.le_refl _,rfl,Or.inr rfl,rfl,by intro k h;have h':k<4:=h;rw [if_neg (by omega)];match k,h' with|0,_=>rfl|1,_=>rfl|2,_=>rfl|3,_=>rfl,rfl⟩
 case round =>
  obtain ⟨j,m,ss,hqj,rfl,hj,hsz,hss,rfl⟩:=hrel
  by_cases h8:j<4
  ·have h8i:(j:Int)<4:=by omega
   have h8s:j-q<ss.size:=by omega
   have hqi:(q:Int)<=j:=by omega
   have e1:((j:Int)-q).toNat=j-q:=by omega
   have hlt:(j:Int)-q<4:=by omega
   have hge:0<=(j:Int)-q:=by omega
   have bx:=hx j
   have hcx:ax[j]?=some (.int .u64 (x j)):=by rw [Array.getElem?_eq_getElem (by omega),gx _ (by omega)]
   have hcx':∀ h,ax[j]'h=.int .u64 (x j):=fun h=>gx j h
   have hsk:ss[j-q]?=some (.int .u64 0):=by rw [Array.getElem?_eq_getElem h8s,hss _ h8s,if_neg (by omega)]
   have HR0:∀ (i:Nat) (h:i<(ss.setIfInBounds (j-q) (.int .u64 (shrL x q r 4 (j-q)))).size),(ss.setIfInBounds (j-q) (.int .u64 (shrL x q r 4 (j-q))))[i]'h=Value.int .u64 (if i<(j-q)+1 then shrL x q r 4 i else 0):=set_next hss
   have HR:Hid (∀ (i:Nat) (h:i<(ss.setIfInBounds (j-q) (.int .u64 (shrL x q r 4 (j-q)))).size),(ss.setIfInBounds (j-q) (.int .u64 (shrL x q r 4 (j-q))))[i]'h=Value.int .u64 (if i<j+1-q then shrL x q r 4 i else 0)):=by
    intro i h;rw [HR0 i h,show j-q+1=j+1-q by omega]
   clear HR0
   have ejq:q+(j-q)=j:=by omega
   have hget:∀ v:Value,(ss.setIfInBounds (j-q) v)[j-q]?=some v:=fun v=>by rw [Array.getElem?_setIfInBounds_self_of_lt h8s]
   by_cases hqq:j+1<4
   ·have hqq':(j:Int)+1<4:=by omega
    have bx2:=hx (j+1)
    have e2:((j:Int)+1).toNat=j+1:=by omega
    have hcx2:ax[j+1]?=some (.int .u64 (x (j+1))):=by rw [Array.getElem?_eq_getElem (by omega),gx _ (by omega)]
    have hcx2':∀ h,ax[j+1]'h=.int .u64 (x (j+1)):=fun h=>gx (j+1) h
    have HV:Hid (shrL x q r 4 (j-q)=bits BinOp.or IntKind.u64 (x j/2^r) (IntKind.u64.wrap (x (j+1)*2^(64-r)))):=by show _=_;unfold shrL;rw [ejq,if_pos h8,if_pos hqq]
    clear hss gx hx ejq
    go_wp2
    go_region
    go_wp2
    go_roundw
    case rel=>refine ⟨j+1,m+1,ss.setIfInBounds (j-q) (.int .u64 (shrL x q r 4 (j-q))),by omega,by go_num,Or.inl (by omega),by simp [hsz],HR.out,?_⟩;rw [HV.out]
    case measure=>simp [intOf];omega
   ·have hqq':¬ (j:Int)+1<4:=by omega
    have HV:Hid (shrL x q r 4 (j-q)=x j/2^r):=by show _=_;unfold shrL;rw [ejq,if_pos h8,if_neg hqq]
    clear hss gx hx ejq
    go_wp2
    go_roundw
    case rel=>refine ⟨j+1,m,ss.setIfInBounds (j-q) (.int .u64 (shrL x q r 4 (j-q))),by omega,by go_num,Or.inl (by omega),by simp [hsz],HR.out,?_⟩;rw [HV.out]
    case measure=>simp [intOf];omega
  ·have h8i:¬ (j:Int)<4:=by omega
   have hss':∀ k h,ss[k]'h=Value.int .u64 (shrL x q r 4 k):=by
    intro k h;rw [hss k h]
    split
    ·rfl
    ·unfold shrL;rw [if_neg (by omega)]
   clear hss gx
   go_wp2
   exact bodyPost_ret (v:=.agg (arrOf (shrL x q r 4) 4)) (by simp [results,Tryz.results154,go_sem];rfl) rfl ⟨rfl,below_alloc3 _ _ _ _ _⟩
theorem limShr4_0 (x:Nat->Int)(n:Int)(w:World)(hn:n<1) :
  CB 154 #[.agg (arrOf x 4),.int .i64 n] w (.agg (arrOf x 4)):=by
 have sx:(arrOf x 4).size=4:=arrOf_size x 4
 have gx:=fun i h=>arrOf_get x 4 i h
 have hl:arrOf x 4=#[.int .u64 (x 0),.int .u64 (x 1),.int .u64 (x 2),.int .u64 (x 3)]:=rfl
 rw [hl]
 rw [hl] at sx gx
 clear gx sx
 go_enter Tryz.func154,Tryz.ntmps154
 go_wp2
 exact bodyPost_ret (v:=.agg #[.int .u64 (x 0),.int .u64 (x 1),.int .u64 (x 2),.int .u64 (x 3)]) (by simp [results,Tryz.results154,go_sem]) rfl ⟨rfl,((Below.refl _ _).alloc (Nat.le_refl _) _).alloc (by simp) _⟩
theorem lenL_succ (x:Nat->Int)(n:Nat):lenL x (n+1)=if x n=0 then lenL x n else 64*(n:Int)+Lib.bitLen (x n).toNat:=by
 by_cases h:x n=0
 ·simp [lenL,sizeL,h]
 ·simp [lenL,sizeL,h];omega
theorem limLen4 (cs:Array Value)(x:Nat->Int)(w:World)(hx:∀ i,0<=x i/\x i<=18446744073709551615)(hsz:cs.size=4)(hc:∀ i,i<4->cs[i]?=some (.int .u64 (x i))) :
  Calls Tryz.prog 121 #[.agg cs] w fun e w'=>e=.returned (.int .i64 (lenL x 4))/\w'=w.alloc (.cells cs 23):=by
 go_enter Tryz.func121,Tryz.ntmps121
 go_wp2
 go_loop [3] (fun t=>∃ k:Nat,k<=4/\lenL x k=lenL x 4/\t=.int .i64 ((k:Int)-1)) (fun t=>(intOf t+1).toNat)
 case atStart=>exact ⟨4,Nat.le_refl _,rfl,rfl⟩
 case round =>
  obtain ⟨k,hk,hs,rfl⟩:=hrel
  by_cases h0:k=0
  ·subst h0
   have HS:Hid (lenL x 4=0):=hs.symm
   clear hs
   go_wp2
   go_ret
   exact ⟨ret_int HS.out.symm,rfl⟩
  ·obtain ⟨j,rfl⟩:∃ j,k=j+1:=⟨k-1,by omega⟩
   have hcj:=hc j (by omega)
   have hb:=hx j
   have hbl:=bitLen64 (x j).toNat
   have hj8:(j:Int)<4:=by omega
   have ej:((j+1:Nat):Int)-1=j:=by omega
   rw [ej]
   by_cases hz:x j=0
   ·have HS:Hid (lenL x j=lenL x 4):=by
     have:=lenL_succ x j
     rw [if_pos hz] at this
     exact this.symm.trans hs
    clear hs hc hx
    go_wp2
    go_round
    case rel=>exact ⟨j,by omega,HS.out,by go_num⟩
    case measure=>simp [intOf]
   ·have HS:Hid (64*(j:Int)+Lib.bitLen (x j).toNat=lenL x 4):=by
     have:=lenL_succ x j
     rw [if_neg hz] at this
     exact this.symm.trans hs
    have hcl:=Tryz.bits_Len64 (x j) (w.alloc (.cells cs 23)) hb.1 hb.2
    clear hs hc hx
    generalize Lib.bitLen (x j).toNat=L at *
    go_wp2_with (go_at_call 134;refine hcl.mono ?_;rintro e w' ⟨rfl,rfl⟩)
    go_ret
    exact ⟨ret_int (by rw [← HS.out];omega),rfl⟩
def bitV (v n:Int):Int:=bits BinOp.and IntKind.u64 (v/2^(n%64).toNat) 1
theorem limBit4 (x:Nat->Int)(n:Int)(w:World)(hx:Words x)(h0:0<=n)(h1:n<256) :
  CB 156 #[.agg (arrOf x 4),.int .i64 n] w (.int .u64 (bitV (x (n/64).toNat) n)):=by
 have hsz:(arrOf x 4).size=4:=arrOf_size x 4
 have hc:∀ h,(arrOf x 4)[(n/64).toNat]'h=.int .u64 (x (n/64).toNat):=fun h=>arrOf_get x 4 _ h
 have hb:=hx (n/64).toNat
 generalize arrOf x 4=cs at *
 generalize hv:x (n/64).toNat=v at *
 clear hv
 have hj:n/64<4:=by omega
 have hj0:0<=n/64:=by omega
 have hm:n%64<64:=by omega
 have hm0:0<=n%64:=by omega
 go_enter Tryz.func156,Tryz.ntmps156
 go_wp2
 go_ret
 exact ⟨rfl,(Below.refl _ _).alloc (Nat.le_refl _) _⟩
theorem len4 (x:Nat->Int)(w:World)(hx:Words x):CB 121 #[.agg (arrOf x 4)] w (.int .i64 (lenL x 4)) :=
 (limLen4 (arrOf x 4) x w hx (by simp) (fun i h=>arrOf_get? x 4 i h)).mono fun _ _ ⟨h1,h2⟩=>⟨h1,by rw [h2];exact (Below.refl _ _).alloc (Nat.le_refl _) _⟩
def shlA (x:Nat->Int)(n:Int)(j:Nat):Int:=if n<1 then x j else shlL x (n/64).toNat (n%64).toNat j
def shrA (x:Nat->Int)(n:Int)(N j:Nat):Int:=if n<1 then x j else shrL x (n/64).toNat (n%64).toNat N j
theorem lowW_lt {x:Nat->Int}{N i:Nat}(h:i<N):lowW x N i=x i:=by unfold lowW;rw [if_pos h]
theorem lowW_ge {x:Nat->Int}{N i:Nat}(h:N<=i):lowW x N i=0:=by unfold lowW;rw [if_neg (by omega)]
theorem div64_zero (a:Int)(h:0<=a/\a<=18446744073709551615):a/2^(64-0)=0:=by
 have e:(2:Int)^(64-0)=18446744073709551616:=by decide
 rw [e];omega
theorem wrap64_zero (a:Int):IntKind.u64.wrap (a*2^(64-0))=0:=by
 have e:(2:Int)^(64-0)=18446744073709551616:=by decide
 rw [e]
 simp only [IntKind.wrap,IntKind.bits,IntKind.signed]
 simp
theorem shlL_fin {x:Nat->Int}(hx:Words x){N:Nat}(q r:Nat):lowW (shlL x q r) N=lowW (finL (lowW x N) q r) N:=by
 funext j
 by_cases hj:j<N
 ·rw [lowW_lt hj,lowW_lt hj]
  unfold shlL finL
  by_cases hq:q<=j
  ·rw [if_pos hq,if_pos hq,lowW_lt (x:=x) (N:=N) (i:=j-q) (by omega)]
   by_cases h:q<j
   ·rw [if_pos h]
    have e:lowp (lowW x N) q r j=x (j-q-1)/2^(64-r):=by
     unfold lowp
     rw [lowW_lt (x:=x) (N:=N) (i:=j-q-1) (by omega)]
     by_cases hr:0<r
     ·rw [if_pos ⟨by omega,hr⟩]
     ·have hr0:r=0:=by omega
      subst hr0
      rw [if_neg (by omega),div64_zero _ (hx _)]
    rw [e]
    exact orW_comm _ _ (wrap_word _) (div_word _ _ (hx _))
   ·rw [if_neg h]
    have e:lowp (lowW x N) q r j=0:=by unfold lowp;rw [if_neg (by omega)]
    rw [e,zero_orW _ (wrap_word _)]
  ·rw [if_neg hq,if_neg hq]
 ·rw [lowW_ge (by omega),lowW_ge (by omega)]
theorem shrL_fin {x:Nat->Int}(hx:Words x){N:Nat}(q r:Nat):lowW (shrL x q r N) N=shrW (lowW x N) q r:=by
 funext j
 by_cases hj:j<N
 ·rw [lowW_lt hj]
  by_cases hq:q+j<N
  ·unfold shrL shrW
   rw [if_pos hq,lowW_lt hq]
   by_cases hr:r=0
   ·subst hr
    rw [if_pos rfl]
    have e:x (q+j)/2^0=x (q+j):=by simp
    rw [e,wrap64_zero]
    by_cases h:q+j+1<N
    ·rw [if_pos h];exact orW_zero _ (hx _)
    ·rw [if_neg h]
   ·rw [if_neg hr]
    by_cases h:q+j+1<N
    ·rw [if_pos h,lowW_lt h];rfl
    ·rw [if_neg h,lowW_ge (x:=x) (N:=N) (i:=q+j+1) (by omega),Int.zero_mul]
     rw [show IntKind.u64.wrap 0=0 by decide,orW_zero _ (div_word _ _ (hx _))]
  ·rw [shrW_zero (n:=N) (fun i hi=>lowW_ge hi) q r j (by omega)]
   unfold shrL;rw [if_neg hq]
 ·rw [lowW_ge (by omega),shrW_zero (n:=N) (fun i hi=>lowW_ge hi) q r j (by omega)]
theorem shlA_words {x:Nat->Int}(hx:Words x)(n:Int):Words (shlA x n):=fun j=>by
 unfold shlA;split
 ·exact hx j
 ·unfold shlL;split
  ·split
   ·exact orW_word _ _ (wrap_word _) (div_word _ _ (hx _))
   ·exact wrap_word _
  ·decide
theorem shrA_words {x:Nat->Int}(hx:Words x)(n:Int)(N:Nat):Words (shrA x n N):=fun j=>by
 unfold shrA;split
 ·exact hx j
 ·unfold shrL;split
  ·split
   ·exact orW_word _ _ (div_word _ _ (hx _)) (wrap_word _)
   ·exact div_word _ _ (hx _)
  ·decide
theorem shlA4 (x:Nat->Int)(n:Int)(w:World)(hx:Words x)(hn2:n<=9223372036854775807) :
  CB 137 #[.agg (arrOf x 4),.int .i64 n] w (.agg (arrOf (shlA x n) 4)):=by
 by_cases h1:n<1
 ·have e:shlA x n=x:=by funext j;unfold shlA;rw [if_pos h1]
  rw [e];exact limShl4_0 x n w h1
 ·have e:shlA x n=shlL x (n/64).toNat (n%64).toNat:=by funext j;unfold shlA;rw [if_neg h1]
  rw [e];exact limShl4 x n _ _ w hx (by omega) hn2 (by omega) (by omega) (by omega)
theorem shrA4 (x:Nat->Int)(n:Int)(w:World)(hx:Words x)(hn2:n<=9223372036854775807) :
  CB 154 #[.agg (arrOf x 4),.int .i64 n] w (.agg (arrOf (shrA x n 4) 4)):=by
 by_cases h1:n<1
 ·have e:shrA x n 4=x:=by funext j;unfold shrA;rw [if_pos h1]
  rw [e];exact limShr4_0 x n w h1
 ·have e:shrA x n 4=shrL x (n/64).toNat (n%64).toNat 4:=by funext j;unfold shrA;rw [if_neg h1]
  rw [e];exact limShr4 x n _ _ w hx (by omega) hn2 (by omega) (by omega) (by omega)
end
theorem wrap3 {a e b R:Int}(h:a*4294967296+e-b=R)(h0:0<=R)(h1:R<=18446744073709551615):IntKind.u64.wrap (IntKind.u64.wrap (IntKind.u64.wrap (a*4294967296)+e)-IntKind.u64.wrap b)=R:=by
 simp only [IntKind.wrap,IntKind.bits,IntKind.signed]
 simp
 omega
theorem div64_core (hi lo y Y d1 d0 u v e1 e0 Q1 R1 Q0 R0:Int)(S:Nat)(w:World)(hh:0<hi)(hl:0<=lo/\lo<=18446744073709551615)(hy:hi<y/\y<=18446744073709551615)(hS:S<64)
  (hlz:CQ 177 #[.int .u64 y] w (.int .i64 (S:Int)))
  (hY:IntKind.u64.wrap (y*2^S)=Y) (hd1:Y/4294967296=d1) (hd0:bits BinOp.and IntKind.u64 Y 4294967295=d0)
  (hu:bits BinOp.or IntKind.u64 (IntKind.u64.wrap (hi*2^S)) (lo/2^(64-S))=u) (hv:IntKind.u64.wrap (lo*2^S)=v) (he1:v/4294967296=e1) (he0:bits BinOp.and IntKind.u64 v 4294967295=e0)
  (D1:Dg u d1 d0 e1) (D0:Dg R1 d1 d0 e0) (hYe:Y=d1*4294967296+d0) (hY64:Y<=18446744073709551615)
  (hQ1:(u*4294967296+e1)/(d1*4294967296+d0)=Q1) (hR1:u*4294967296+e1-Q1*Y=R1) (hQ0:(R1*4294967296+e0)/(d1*4294967296+d0)=Q0) (hR0:R1*4294967296+e0-Q0*Y=R0) (hR0b:0<=R0/\R0<=18446744073709551615) :
  Calls Tryz.prog 132 #[.int .u64 hi,.int .u64 lo,.int .u64 y] w fun e w'=>e=.returned (.tuple #[.int .u64 (Q1*4294967296+Q0),.int .u64 (R0/2^S)])/\∃ m,w'=w.drewN m:=by
 have hy0:(y==0)=false:=by simp;omega
 have hh0:(hi==0)=false:=by simp;omega
 have f1:=D1.first
 have f0:=D0.first
 rw [hQ1] at f1
 rw [hQ0] at f0
 have d1p:=D1.a1
 have d1q:=D1.a2
 have d0p:=D1.b1
 have d0q:=D1.b2
 have e1p:=D1.e1
 have e1q:=D1.e2
 have e0p:=D0.e1
 have e0q:=D0.e2
 have up:=D1.u1
 have uq:u<=18446744073709551615:=by have:=D1.u2;omega
 have vp:=D0.u1
 have vq:R1<=18446744073709551615:=by have:=D0.u2;omega
 have hW1:IntKind.u64.wrap (IntKind.u64.wrap (IntKind.u64.wrap (u*4294967296)+e1)-IntKind.u64.wrap (Q1*Y))=R1:=wrap3 hR1 vp vq
 have hW0:IntKind.u64.wrap (IntKind.u64.wrap (IntKind.u64.wrap (R1*4294967296)+e0)-IntKind.u64.wrap (Q0*Y))=R0:=wrap3 hR0 hR0b.1 hR0b.2
 have HQ1:Hid ((u*4294967296+e1)/(d1*4294967296+d0)=Q1):=hQ1
 have HQ0:Hid ((R1*4294967296+e0)/(d1*4294967296+d0)=Q0):=hQ0
 have k1:Q1<4294967296:=by rw [← hQ1];exact D1.lt
 have k0:Q0<4294967296:=by rw [← hQ0];exact D0.lt
 have hq10:0<=Q1:=by rw [← hQ1];exact D1.nonneg
 have hq00:0<=Q0:=by rw [← hQ0];exact D0.nonneg
 clear hQ1 hYe hR1 hQ0 hR0
 obtain ⟨q,hq⟩:∃ q,u/d1=q:=⟨_,rfl⟩
 obtain ⟨r,hr⟩:∃ r,u%d1=r:=⟨_,rfl⟩
 rw [hq,hr] at f1
 obtain ⟨p2,hp2⟩:∃ q,R1/d1=q:=⟨_,rfl⟩
 obtain ⟨s2,hs2⟩:∃ r,R1%d1=r:=⟨_,rfl⟩
 rw [hp2,hs2] at f0
 obtain ⟨f1a,f1b,f1c,f1d,f1e⟩:=f1
 obtain ⟨f0a,f0b,f0c,f0d,f0e⟩:=f0
 have hqd0:0<=q*d1:=Int.mul_nonneg (by omega) (by omega)
 have hqd1:q*d1<=18446744073709551615:=by omega
 have hqr:u-q*d1=r:=by omega
 have hpd0:0<=p2*d1:=Int.mul_nonneg (by omega) (by omega)
 have hpd1:p2*d1<=18446744073709551615:=by omega
 have hpr:R1-p2*d1=s2:=by omega
 have F1A:Hid (q*d1+r=u):=f1a
 have F0A:Hid (p2*d1+s2=R1):=f0a
 have D1H:Hid (Dg u d1 d0 e1):=D1
 have D0H:Hid (Dg R1 d1 d0 e0):=D0
 clear f1a hr f0a hs2 D1 D0
 go_enter Tryz.func132,Tryz.ntmps132
 go_wp2_with (first|(go_at_call 177;refine hlz.mono ?_;rintro e w' ⟨rfl,rfl⟩))
 go_loop [15,16] (fun a b=>∃ q r,a=.int .u64 q/\b=.int .u64 r/\Hid (q*d1+r=u)/\Q1<=q/\q<=4294967297/\0<=r/\r<4294967296) (fun a _=>(intOf a).toNat)
 case atStart=>exact ⟨q,r,by first|rfl|rw [hq],rfl,F1A,f1b,f1c,f1d,f1e⟩
 case round =>
  clear f1b f1c f1d f1e hqd0 hqd1 F1A hqr
  obtain ⟨q1,r1,rfl,rfl,hqr,hge,hle,hr0,hr1⟩:=hrel
  have hm0:0<=q1*d0:=Int.mul_nonneg (by omega) d0p
  by_cases hbig:4294967296<=q1
  ·have hg1:Q1<=q1-1:=by have:=D1H.out.big' hbig;rw [HQ1.out] at this;exact this
   by_cases hb:r1+d1<4294967296
   ·go_wp2
    go_round
    case rel=>exact ⟨q1-1,r1+d1,rfl,rfl,by show _=_;rw [Int.sub_mul];have:=hqr.out;omega,hg1,by omega,by omega,hb⟩
    case measure=>simp [intOf];omega
   ·have hqq:q1-1=Q1:=by
     have:=D1H.out.right' (q:=q1-1) (r:=r1+d1) (by rw [Int.sub_mul];have:=hqr.out;omega) (by rw [HQ1.out];exact hg1) (by omega) (by omega)
     rw [HQ1.out] at this;exact this.symm
    go_wp2
    clear hqr hge hle hr0 hr1 hm0
    go_loop [18,16] (fun a b=>∃ q r,a=.int .u64 q/\b=.int .u64 r/\Hid (q*d1+r=R1)/\Q0<=q/\q<=4294967297/\0<=r/\r<4294967296) (fun a _=>(intOf a).toNat)
    case atStart=>exact ⟨p2,s2,by first|rfl|rw [hp2],rfl,F0A,f0b,f0c,f0d,f0e⟩
    case round =>
     clear f0b f0c f0d f0e hpd0 hpd1 F0A hpr
     obtain ⟨q3,r3,rfl,rfl,hqr,hge,hle,hr0,hr1⟩:=hrel
     have hm0:0<=q3*d0:=Int.mul_nonneg (by omega) d0p
     by_cases hbig:4294967296<=q3
     ·have hg1:Q0<=q3-1:=by have:=D0H.out.big' hbig;rw [HQ0.out] at this;exact this
      by_cases hb:r3+d1<4294967296
      ·go_wp2
       go_round
       case rel=>exact ⟨q3-1,r3+d1,rfl,rfl,by show _=_;rw [Int.sub_mul];have:=hqr.out;omega,hg1,by omega,by omega,hb⟩
       case measure=>simp [intOf];omega
      ·have hqq:q3-1=Q0:=by
        have:=D0H.out.right' (q:=q3-1) (r:=r3+d1) (by rw [Int.sub_mul];have:=hqr.out;omega) (by rw [HQ0.out];exact hg1) (by omega) (by omega)
        rw [HQ0.out] at this;exact this.symm
       go_wp2
       go_ret2
       exact ⟨rfl,0,rfl⟩
     ·have hsm:q3<4294967296:=by omega
      have hm1:q3*d0<=4294967295*4294967295:=Int.mul_le_mul (by omega) (by omega) d0p (by decide)
      by_cases ht:4294967296*r3+e0<q3*d0
      ·have hg1:Q0<=q3-1:=by have:=D0H.out.big hqr.out ht;rw [HQ0.out] at this;exact this
       by_cases hb:r3+d1<4294967296
       ·go_wp2
        go_round
        case rel=>exact ⟨q3-1,r3+d1,rfl,rfl,by show _=_;rw [Int.sub_mul];have:=hqr.out;omega,hg1,by omega,by omega,hb⟩
        case measure=>simp [intOf];omega
       ·have hqq:q3-1=Q0:=by
         have:=D0H.out.right' (q:=q3-1) (r:=r3+d1) (by rw [Int.sub_mul];have:=hqr.out;omega) (by rw [HQ0.out];exact hg1) (by omega) (by omega)
         rw [HQ0.out] at this;exact this.symm
        go_wp2
        go_ret2
        exact ⟨rfl,0,rfl⟩
      ·obtain rfl:Q0=q3:=by
        have:=D0H.out.right hqr.out (by rw [HQ0.out];exact hge) (by omega)
        rw [HQ0.out] at this;exact this
       go_wp2
       go_ret2
       exact ⟨rfl,0,rfl⟩
  ·have hsm:q1<4294967296:=by omega
   have hm1:q1*d0<=4294967295*4294967295:=Int.mul_le_mul (by omega) (by omega) d0p (by decide)
   by_cases ht:4294967296*r1+e1<q1*d0
   ·have hg1:Q1<=q1-1:=by have:=D1H.out.big hqr.out ht;rw [HQ1.out] at this;exact this
    by_cases hb:r1+d1<4294967296
    ·go_wp2
     go_round
     case rel=>exact ⟨q1-1,r1+d1,rfl,rfl,by show _=_;rw [Int.sub_mul];have:=hqr.out;omega,hg1,by omega,by omega,hb⟩
     case measure=>simp [intOf];omega
    ·have hqq:q1-1=Q1:=by
      have:=D1H.out.right' (q:=q1-1) (r:=r1+d1) (by rw [Int.sub_mul];have:=hqr.out;omega) (by rw [HQ1.out];exact hg1) (by omega) (by omega)
      rw [HQ1.out] at this;exact this.symm
     go_wp2
     clear hqr hge hle hr0 hr1 hm0
     go_loop [18,16] (fun a b=>∃ q r,a=.int .u64 q/\b=.int .u64 r/\Hid (q*d1+r=R1)/\Q0<=q/\q<=4294967297/\0<=r/\r<4294967296) (fun a _=>(intOf a).toNat)
     case atStart=>exact ⟨p2,s2,by first|rfl|rw [hp2],rfl,F0A,f0b,f0c,f0d,f0e⟩
     case round =>
      clear f0b f0c f0d f0e hpd0 hpd1 F0A hpr
      obtain ⟨q3,r3,rfl,rfl,hqr,hge,hle,hr0,hr1⟩:=hrel
      have hm0:0<=q3*d0:=Int.mul_nonneg (by omega) d0p
      by_cases hbig:4294967296<=q3
      ·have hg1:Q0<=q3-1:=by have:=D0H.out.big' hbig;rw [HQ0.out] at this;exact this
       by_cases hb:r3+d1<4294967296
       ·go_wp2
        go_round
        case rel=>exact ⟨q3-1,r3+d1,rfl,rfl,by show _=_;rw [Int.sub_mul];have:=hqr.out;omega,hg1,by omega,by omega,hb⟩
        case measure=>simp [intOf];omega
       ·have hqq:q3-1=Q0:=by
         have:=D0H.out.right' (q:=q3-1) (r:=r3+d1) (by rw [Int.sub_mul];have:=hqr.out;omega) (by rw [HQ0.out];exact hg1) (by omega) (by omega)
         rw [HQ0.out] at this;exact this.symm
        go_wp2
        go_ret2
        exact ⟨rfl,0,rfl⟩
      ·have hsm:q3<4294967296:=by omega
       have hm1:q3*d0<=4294967295*4294967295:=Int.mul_le_mul (by omega) (by omega) d0p (by decide)
       by_cases ht:4294967296*r3+e0<q3*d0
       ·have hg1:Q0<=q3-1:=by have:=D0H.out.big hqr.out ht;rw [HQ0.out] at this;exact this
        by_cases hb:r3+d1<4294967296
        ·go_wp2
         go_round
         case rel=>exact ⟨q3-1,r3+d1,rfl,rfl,by show _=_;rw [Int.sub_mul];have:=hqr.out;omega,hg1,by omega,by omega,hb⟩
         case measure=>simp [intOf];omega
        ·have hqq:q3-1=Q0:=by
          have:=D0H.out.right' (q:=q3-1) (r:=r3+d1) (by rw [Int.sub_mul];have:=hqr.out;omega) (by rw [HQ0.out];exact hg1) (by omega) (by omega)
          rw [HQ0.out] at this;exact this.symm
         go_wp2
         go_ret2
         exact ⟨rfl,0,rfl⟩
       ·obtain rfl:Q0=q3:=by
         have:=D0H.out.right hqr.out (by rw [HQ0.out];exact hge) (by omega)
         rw [HQ0.out] at this;exact this
        go_wp2
        go_ret2
        exact ⟨rfl,0,rfl⟩
   ·obtain rfl:Q1=q1:=by
     have:=D1H.out.right hqr.out (by rw [HQ1.out];exact hge) (by omega)
     rw [HQ1.out] at this;exact this
    go_wp2
    clear hqr hge hle hr0 hr1 hm0
    go_loop [18,16] (fun a b=>∃ q r,a=.int .u64 q/\b=.int .u64 r/\Hid (q*d1+r=R1)/\Q0<=q/\q<=4294967297/\0<=r/\r<4294967296) (fun a _=>(intOf a).toNat)
    case atStart=>exact ⟨p2,s2,by first|rfl|rw [hp2],rfl,F0A,f0b,f0c,f0d,f0e⟩
    case round =>
     clear f0b f0c f0d f0e hpd0 hpd1 F0A hpr
     obtain ⟨q3,r3,rfl,rfl,hqr,hge,hle,hr0,hr1⟩:=hrel
     have hm0:0<=q3*d0:=Int.mul_nonneg (by omega) d0p
     by_cases hbig:4294967296<=q3
     ·have hg1:Q0<=q3-1:=by have:=D0H.out.big' hbig;rw [HQ0.out] at this;exact this
      by_cases hb:r3+d1<4294967296
      ·go_wp2
       go_round
       case rel=>exact ⟨q3-1,r3+d1,rfl,rfl,by show _=_;rw [Int.sub_mul];have:=hqr.out;omega,hg1,by omega,by omega,hb⟩
       case measure=>simp [intOf];omega
      ·have hqq:q3-1=Q0:=by
        have:=D0H.out.right' (q:=q3-1) (r:=r3+d1) (by rw [Int.sub_mul];have:=hqr.out;omega) (by rw [HQ0.out];exact hg1) (by omega) (by omega)
        rw [HQ0.out] at this;exact this.symm
       go_wp2
       go_ret2
       exact ⟨rfl,0,rfl⟩
     ·have hsm:q3<4294967296:=by omega
      have hm1:q3*d0<=4294967295*4294967295:=Int.mul_le_mul (by omega) (by omega) d0p (by decide)
      by_cases ht:4294967296*r3+e0<q3*d0
      ·have hg1:Q0<=q3-1:=by have:=D0H.out.big hqr.out ht;rw [HQ0.out] at this;exact this
       by_cases hb:r3+d1<4294967296
       ·go_wp2
        go_round
        case rel=>exact ⟨q3-1,r3+d1,rfl,rfl,by show _=_;rw [Int.sub_mul];have:=hqr.out;omega,hg1,by omega,by omega,hb⟩
        case measure=>simp [intOf];omega
       ·have hqq:q3-1=Q0:=by
         have:=D0H.out.right' (q:=q3-1) (r:=r3+d1) (by rw [Int.sub_mul];have:=hqr.out;omega) (by rw [HQ0.out];exact hg1) (by omega) (by omega)
         rw [HQ0.out] at this;exact this.symm
        go_wp2
        go_ret2
        exact ⟨rfl,0,rfl⟩
      ·obtain rfl:Q0=q3:=by
        have:=D0H.out.right hqr.out (by rw [HQ0.out];exact hge) (by omega)
        rw [HQ0.out] at this;exact this
       go_wp2
       go_ret2
       exact ⟨rfl,0,rfl⟩
theorem wrapNat (a:Nat):IntKind.u64.wrap (a:Int)=((a%18446744073709551616:Nat):Int):=by
 simp only [IntKind.wrap,IntKind.bits,IntKind.signed]
 simp
theorem andLow (a:Nat)(h:a<18446744073709551616):bits BinOp.and IntKind.u64 (a:Int) 4294967295=((a%4294967296:Nat):Int):=by
 have h1:=u64_and_nat a 4294967295 h (by decide)
 rw [show ((4294967295:Nat):Int)=4294967295 from rfl] at h1
 rw [h1]
 have:=Nat.and_two_pow_sub_one_eq_mod a 32
 rw [show (2:Nat)^32-1=4294967295 by decide,show (2:Nat)^32=4294967296 by decide] at this
 rw [this]
theorem powCast (s:Nat):((2^s:Nat):Int)=(2:Int)^s:=by simp
theorem div64_pos (h l y:Nat)(w:World)(hh:0<h)(hl:l<18446744073709551616)(hy:h<y)(hy64:y<18446744073709551616) :
  Calls Tryz.prog 132 #[.int .u64 h,.int .u64 l,.int .u64 y] w fun e w'=>e=.returned (.tuple #[.int .u64 (((h*18446744073709551616+l)/y:Nat):Int),.int .u64 (((h*18446744073709551616+l)%y:Nat):Int)])/\∃ m,w'=w.drewN m:=by
 obtain ⟨n1,n2,n3⟩:=norm_bd y (by omega) hy64
 have hbl:=bitLen_spec y (by omega) hy64
 obtain ⟨S,hS⟩:∃ S,64-Lib.bitLen y=S:=⟨_,rfl⟩
 rw [hS] at n1 n2 n3
 obtain ⟨j1,j2,j3⟩:=norm_join h l y S n3 hy hl n2
 have hlz:CQ 177 #[.int .u64 y] w (.int .i64 (S:Int)):=by
  refine (Tryz.bits_LeadingZeros64 (y:Int) w (by omega) (by omega)).mono fun e w' hw=>⟨?_,hw.2.symm⟩
  rw [hw.1,Int.toNat_natCast]
  have e0:(64:Int)-(Lib.bitLen y:Int)=(S:Int):=by omega
  rw [e0]
 obtain ⟨Y,hYn⟩:∃ Y,y*2^S=Y:=⟨_,rfl⟩
 obtain ⟨u,hun⟩:∃ u,h*2^S+l/2^(64-S)=u:=⟨_,rfl⟩
 obtain ⟨v,hvn⟩:∃ v,l*2^S%18446744073709551616=v:=⟨_,rfl⟩
 have hv64:v<18446744073709551616:=by rw [← hvn];exact Nat.mod_lt _ (by decide)
 have hhS:h*2^S<18446744073709551616:=by
  have:h*2^S<=y*2^S:=Nat.mul_le_mul_right _ (by omega)
  omega
 have hls:l/2^(64-S)<18446744073709551616:=Nat.lt_of_le_of_lt (Nat.div_le_self _ _) hl
 rw [hYn] at n1 n2 j3
 rw [hun] at j1 j2 j3
 rw [hvn] at j2
 -- the digits
 obtain ⟨d1,hd1⟩:∃ d1,Y/4294967296=d1:=⟨_,rfl⟩
 obtain ⟨d0,hd0⟩:∃ d0,Y%4294967296=d0:=⟨_,rfl⟩
 obtain ⟨e1,he1⟩:∃ e1,v/4294967296=e1:=⟨_,rfl⟩
 obtain ⟨e0,he0⟩:∃ e0,v%4294967296=e0:=⟨_,rfl⟩
 have hYd:Y=d1*4294967296+d0:=by omega
 have hve:v=e1*4294967296+e0:=by omega
 have hYpos:0<Y:=by omega
 obtain ⟨Q1,hQ1⟩:∃ Q1,(u*4294967296+e1)/Y=Q1:=⟨_,rfl⟩
 obtain ⟨R1,hR1⟩:∃ R1,(u*4294967296+e1)%Y=R1:=⟨_,rfl⟩
 have hR1l:R1<Y:=by rw [← hR1];exact Nat.mod_lt _ hYpos
 obtain ⟨Q0,hQ0⟩:∃ Q0,(R1*4294967296+e0)/Y=Q0:=⟨_,rfl⟩
 obtain ⟨R0,hR0⟩:∃ R0,(R1*4294967296+e0)%Y=R0:=⟨_,rfl⟩
 have hR0l:R0<Y:=by rw [← hR0];exact Nat.mod_lt _ hYpos
 have m1:Q1*Y+R1=u*4294967296+e1:=by
  have:=Nat.div_add_mod (u*4294967296+e1) Y
  rw [hQ1,hR1,Nat.mul_comm] at this;exact this
 have m0:Q0*Y+R0=R1*4294967296+e0:=by
  have:=Nat.div_add_mod (R1*4294967296+e0) Y
  rw [hQ0,hR0,Nat.mul_comm] at this;exact this
 have cY:(d1:Int)*4294967296+d0=(Y:Int):=by omega
 have iQ1:((u:Int)*4294967296+e1)/(d1*4294967296+d0)=Q1:=by
  rw [cY,show (u:Int)*4294967296+e1=((u*4294967296+e1:Nat):Int) by omega,← Int.natCast_ediv,hQ1]
 have iQ0:((R1:Int)*4294967296+e0)/(d1*4294967296+d0)=Q0:=by
  rw [cY,show (R1:Int)*4294967296+e0=((R1*4294967296+e0:Nat):Int) by omega,← Int.natCast_ediv,hQ0]
 have p1:((Q1*Y:Nat):Int)=(Q1:Int)*Y:=Int.natCast_mul ..
 have p0:((Q0*Y:Nat):Int)=(Q0:Int)*Y:=Int.natCast_mul ..
 have iR1:(u:Int)*4294967296+e1-Q1*Y=R1:=by rw [← p1];omega
 have iR0:(R1:Int)*4294967296+e0-Q0*Y=R0:=by rw [← p0];omega
 have D1:Dg (u:Int) d1 d0 e1:=⟨by omega,by omega,by omega,by omega,by omega,by omega,by omega,by omega⟩
 have D0:Dg (R1:Int) d1 d0 e0:=⟨by omega,by omega,by omega,by omega,by omega,by omega,by omega,by omega⟩
 have wY:IntKind.u64.wrap ((y:Int)*2^S)=(Y:Int):=by
  rw [← powCast,← Int.natCast_mul,wrapNat,hYn,Nat.mod_eq_of_lt n2]
 have wv:IntKind.u64.wrap ((l:Int)*2^S)=(v:Int):=by
  rw [← powCast,← Int.natCast_mul,wrapNat,hvn]
 have wu:bits BinOp.or IntKind.u64 (IntKind.u64.wrap ((h:Int)*2^S)) ((l:Int)/2^(64-S))=(u:Int):=by
  rw [← powCast,← powCast,← Int.natCast_mul,wrapNat,← Int.natCast_ediv,Nat.mod_eq_of_lt hhS,u64_or_nat _ _ hhS hls,j1]
 have fin:=norm_back (h*18446744073709551616+l) y S (Q1*4294967296+Q0) R0 (by
  rw [← j2,hYn,Nat.add_mul,Nat.mul_right_comm]
  omega) (by rw [hYn];exact hR0l)
 have core:=div64_core (h:Int) l y Y d1 d0 u v e1 e0 Q1 R1 Q0 R0 S w (by omega) ⟨by omega,by omega⟩ ⟨by omega,by omega⟩ n3 hlz wY (by omega) (by rw [andLow Y n2,hd0]) wu wv (by omega) (by rw [andLow v hv64,he0]) D1 D0 cY.symm (by omega) iQ1 iR1 iQ0 iR0 ⟨by omega,by omega⟩
 refine core.mono fun e w' hw=>⟨?_,hw.2⟩
 rw [hw.1]
 have c1:(Q1:Int)*4294967296+Q0=(((h*18446744073709551616+l)/y:Nat):Int):=by rw [← fin.1];omega
 have c2:(R0:Int)/2^S=(((h*18446744073709551616+l)%y:Nat):Int):=by rw [← fin.2,← powCast,← Int.natCast_ediv]
 rw [c1,c2]
theorem div64_all (hi lo y:Int)(w:World)(h0:0<=hi)(hy:hi<y)(hy64:y<=18446744073709551615)(hl:0<=lo/\lo<=18446744073709551615) :
  Calls Tryz.prog 132 #[.int .u64 hi,.int .u64 lo,.int .u64 y] w fun e w'=>e=.returned (.tuple #[.int .u64 ((hi*18446744073709551616+lo)/y),.int .u64 ((hi*18446744073709551616+lo)%y)])/\∃ m,w'=w.drewN m:=by
 by_cases e:hi=0
 ·subst e
  have:=div64_0 lo y w hl ⟨by omega,hy64⟩
  simpa using this
 ·obtain ⟨h,rfl⟩:=Int.eq_ofNat_of_zero_le h0
  obtain ⟨l,rfl⟩:=Int.eq_ofNat_of_zero_le hl.1
  obtain ⟨z,rfl⟩:=Int.eq_ofNat_of_zero_le (show 0<=y by omega)
  refine (div64_pos h l z w (by omega) (by omega) (by omega) (by omega)).mono fun e w' hw=>⟨?_,hw.2⟩
  rw [hw.1,Int.natCast_ediv,Int.natCast_emod,Int.natCast_add,Int.natCast_mul]
  rfl
section
attribute [local go_sem] setCell_drewN alloc_drewN
theorem quoW_words {x:Nat->Int}{d:Int}(hx:Words x)(hd:0<d)(n:Nat):Words (quoW x d n):=fun j=>by
 have hr:=remJ_bd x d n (n-1-j) hd
 have hb:=hx j
 unfold quoW
 refine ⟨Int.ediv_nonneg (by omega) (by omega),?_⟩
 have:(remJ x d n (n-1-j)*18446744073709551616+x j)/d<18446744073709551616:=by
  apply Int.ediv_lt_of_lt_mul hd
  rw [Int.mul_comm 18446744073709551616 d]
  have:(remJ x d n (n-1-j)+1)*18446744073709551616<=d*18446744073709551616:=Int.mul_le_mul_of_nonneg_right (by omega) (by decide)
  omega
 omega
theorem div_val (x:Nat->Int)(d:Int)(n:Nat):∀ j,j<=n->val x (n-j)+remJ x d n j*18446744073709551616^(n-j)+d*(val (quoW x d n) n-val (quoW x d n) (n-j))=val x n
 | 0,_=>by simp [remJ]
 | j+1,h=>by
  have ih:=div_val x d n j (by omega)
  obtain ⟨k,hk⟩:∃ k,n-j=k+1:=⟨n-j-1,by omega⟩
  have hk2:n-(j+1)=k:=by omega
  have hk3:n-1-j=k:=by omega
  have hk4:n-1-k=j:=by omega
  rw [hk] at ih
  rw [hk2]
  have hq:quoW x d n k=(remJ x d n j*18446744073709551616+x k)/d:=by unfold quoW;rw [hk4]
  have hr:remJ x d n (j+1)=(remJ x d n j*18446744073709551616+x k)%d:=by simp only [remJ];rw [hk3]
  have hdm:=Int.mul_ediv_add_emod (remJ x d n j*18446744073709551616+x k) d
  rw [← hq,← hr] at hdm
  simp only [val] at ih
  rw [Int.pow_succ] at ih
  generalize (18446744073709551616:Int)^k=p at *
  generalize remJ x d n (j+1)=r' at *
  generalize remJ x d n j=r at *
  generalize quoW x d n k=q at *
  have e1:x k=d*q+r'-r*18446744073709551616:=by omega
  rw [e1] at ih
  grind
theorem sum_val {x y:Nat->Int}:∀ n,val (sumW x y) n+carryW x y n*18446744073709551616^n=val x n+val y n
 | 0=>by simp [val,carryW]
 | n+1=>by
  have ih:=sum_val (x:=x) (y:=y) n
  have e1:sumW x y n+carryW x y (n+1)*18446744073709551616=x n+y n+carryW x y n:=by simp only [sumW,carryW];omega
  simp only [val]
  rw [Int.pow_succ]
  generalize (18446744073709551616:Int)^n=p at *
  generalize carryW x y (n+1)=c' at *
  have e2:sumW x y n=x n+y n+carryW x y n-c'*18446744073709551616:=by omega
  rw [e2]
  grind
theorem val_one (r:Int):∀ n,0<n->val (oneW r) n=r
 | 0,h=>by omega
 | 1,_=>by simp [val,oneW]
 | n+2,_=>by
  have ih:=val_one r (n+1) (by omega)
  show val (oneW r) (n+1)+oneW r (n+1)*_=r
  rw [ih];simp [oneW]
theorem limDiv_ok (x:Nat->Int)(d:Int)(n:Nat)(hx:Words x)(hd:0<d/\d<=18446744073709551615)(j:Nat)(hj:j<n)(w:World):Calls Tryz.prog 132 #[.int .u64 (remJ x d n (n-1-j)),.int .u64 (x j),.int .u64 d] w fun e w'=>e=.returned (.tuple #[.int .u64 (quoW x d n j),.int .u64 (remJ x d n (n-j))])/\∃ m,w'=w.drewN m:=by
 have hr:=remJ_bd x d n (n-1-j) hd.1
 have h:=div64_all (remJ x d n (n-1-j)) (x j) d w hr.1 hr.2 hd.2 (hx j)
 have e1:remJ x d n (n-j)=(remJ x d n (n-1-j)*18446744073709551616+x j)%d:=by
  obtain ⟨k,hk⟩:∃ k,n-j=k+1:=⟨n-j-1,by omega⟩
  rw [hk,show n-1-j=k by omega]
  simp only [remJ];rw [show n-1-k=j by omega]
 rw [e1];exact h
end
def dlG (n:Nat):Nat:=n/100/8*4+n/10%10/8*2+n%10/8
def dlR (g:Nat):Nat×Nat×Nat :=
 if g=0 then (10,11,22) else if g=1 then (10,11,4) else if g=2 then (10,12,5) else if g=4 then (12,11,6) else if g=3 then (10,2,7) else if g=5 then (11,1,7) else if g=6 then (12,0,7) else (0,3,7)
def dlT (n r:Nat):Nat:=if 10<=r then (if r%10=0 then n/100 else if r%10=1 then n/10%10 else n%10)/2%4 else r
def dlE (n:Nat):Nat:=dlT n (dlR (dlG n)).1*256+n/100%2*128+dlT n (dlR (dlG n)).2.1*32+n/10%10%2*16+dlT n (dlR (dlG n)).2.2*2+n%10%2
def dlM (d n:Nat):Bool:=dlE n==d||(d/32%4==3&&d/2%8==7&&dlE n==d%256)
def dlD (d:Nat):Nat :=
 let a:=d/128;let b:=d/16%8;let x:=d%2
 let p:=d/256;let q:=d/128%2;let s:=d/32%4;let t:=d/16%2
 if d/8%2=0 then a*100+b*10+d%8
 else if d/2%4=0 then a*100+b*10+(8+x)
 else if d/2%4=1 then a*100+(8+t)*10+(s*2+x)
 else if d/2%4=2 then (8+q)*100+b*10+(p*2+x)
 else if s=0 then (8+q)*100+(8+t)*10+(p*2+x)
 else if s=1 then (8+q)*100+(p*2+t)*10+(8+x)
 else if s=2 then a*100+(8+t)*10+(8+x)
 else (8+q)*100+(8+t)*10+(8+x)
def upTo (f:Nat->Bool):Nat->Bool
 | 0=>true
 | i+1=>f i&&upTo f i
theorem upTo_all {f:Nat->Bool}:∀ {m:Nat},upTo f m=true->∀ i,i<m->f i=true
 | 0,_,i,hi=>absurd hi (Nat.not_lt_zero i)
 | m+1,h,i,hi=>by
  unfold upTo at h
  rw [Bool.and_eq_true] at h
  rcases Nat.lt_succ_iff_lt_or_eq.1 hi with h1|h1
  ·exact upTo_all h.2 i h1
  ·rw [h1];exact h.1
theorem dl_back:∀ n,n<1000->dlD (dlE n)=n/\dlE n<1024:=fun n hn=>by
 have h:=upTo_all (f:=fun n=>decide (dlD (dlE n)=n/\dlE n<1024)) (m:=1000) (by decide +kernel) n hn
 exact of_decide_eq_true h
theorem dl_means:∀ d,d<1024->dlD d<1000/\dlM d (dlD d)=true/\(d/32%4=3->d/2%8=7->dlD (d%256)=dlD d):=fun d hd=>by
 have h:=upTo_all (f:=fun d=>decide (dlD d<1000/\dlM d (dlD d)=true/\(d/32%4=3->d/2%8=7->dlD (d%256)=dlD d))) (m:=1024) (by decide +kernel) d hd
 exact of_decide_eq_true h
theorem dl_only {d n:Nat}(hd:d<1024)(hn:n<1000):dlM d n=true↔n=dlD d:=by
 constructor
 ·intro h
  unfold dlM at h
  rw [Bool.or_eq_true,Bool.and_eq_true,Bool.and_eq_true] at h
  have hb:=(dl_back n hn).1
  rcases h with h|⟨⟨h1,h2⟩,h3⟩
  ·rw [beq_iff_eq] at h
   rw [← hb,h]
  ·rw [beq_iff_eq] at h1 h2 h3
   rw [← hb,h3]
   exact (dl_means d hd).2.2 h1 h2
 ·rintro rfl
  exact (dl_means d hd).2.1
/-! declets in a row -/
def dlP:Nat->Nat->Nat
 | 0,_=>0
 | c+1,a=>dlE (a%1000)+1024*dlP c (a/1000)
def dlU:Nat->Nat->Nat
 | 0,_=>0
 | c+1,b=>dlD (b%1024)+1000*dlU c (b/1024)
theorem dlP_lt:∀ (c a:Nat),dlP c a<1024^c
 | 0,a=>by unfold dlP;decide
 | c+1,a=>by
  unfold dlP
  have h1:=(dl_back (a%1000) (Nat.mod_lt _ (by decide))).2
  have h2:=dlP_lt c (a/1000)
  rw [Nat.pow_succ]
  omega
theorem dlU_lt:∀ (c b:Nat),dlU c b<1000^c
 | 0,b=>by unfold dlU;decide
 | c+1,b=>by
  unfold dlU
  have h1:=(dl_means (b%1024) (Nat.mod_lt _ (by decide))).1
  have h2:=dlU_lt c (b/1024)
  rw [Nat.pow_succ]
  omega
theorem dl_there:∀ (c a:Nat),a<1000^c->dlU c (dlP c a)=a
 | 0,a,h=>by
  rw [Nat.pow_zero] at h
  unfold dlU
  omega
 | c+1,a,h=>by
  unfold dlU dlP
  obtain ⟨h1,h2⟩:=dl_back (a%1000) (Nat.mod_lt _ (by decide))
  rw [Nat.add_mul_mod_self_left,Nat.mod_eq_of_lt h2,h1,Nat.add_mul_div_left _ _ (by decide),Nat.div_eq_of_lt h2,Nat.zero_add,dl_there c (a/1000) (by rw [Nat.pow_succ] at h;omega)]
  omega
def dPv (C:Nat)(n:Int):Nat:=if 0<=n/\n<=11 then (if C<1000^n.toNat then dlP n.toNat C else 0) else 0
def dPe (C:Nat)(n:Int):Int:=if 0<=n/\n<=11 then (if C<1000^n.toNat then 0 else 3) else 1
def dUv (B:Nat)(n:Int):Nat:=if 0<=n/\n<=11 then (if B<1024^n.toNat then dlU n.toNat B else 0) else 0
def dUe (B:Nat)(n:Int):Int:=if 0<=n/\n<=11 then (if B<1024^n.toNat then 0 else 3) else 1
theorem dlP_snoc:∀ (c a:Nat),dlP (c+1) a=dlP c a+dlE (a/1000^c%1000)*1024^c
 | 0,a=>by
  show dlE (a%1000)+1024*dlP 0 (a/1000)=dlP 0 a+_
  rw [show dlP 0 (a/1000)=0 from rfl,show dlP 0 a=0 from rfl]
  simp
 | c+1,a=>by
  show dlE (a%1000)+1024*dlP (c+1) (a/1000)=(dlE (a%1000)+1024*dlP c (a/1000))+_
  rw [dlP_snoc c (a/1000),Nat.div_div_eq_div_mul,show 1000*1000^c=1000^(c+1) by rw [Nat.pow_succ,Nat.mul_comm],Nat.pow_succ 1024 c,Nat.mul_add,Nat.mul_comm 1024 (dlE _*_),Nat.mul_assoc,Nat.add_assoc]
theorem dlP_256 (c a:Nat)(hc:c<=11):dlP c a<2^256:=by
 have h:=dlP_lt c a
 have h2:(1024:Nat)^c<=1024^11:=Nat.pow_le_pow_right (by decide) hc
 have h3:(1024:Nat)^11<2^256:=by decide
 omega
theorem dlU_256 (c a:Nat)(hc:c<=11):dlU c a<2^256:=by
 have h:=dlU_lt c a
 have h2:(1000:Nat)^c<=1000^11:=Nat.pow_le_pow_right (by decide) hc
 have h3:(1000:Nat)^11<2^256:=by decide
 omega
theorem dlU_step:∀ (c b:Nat),dlU (c+1) b=dlU c (b/1024)*1000+dlD (b%1024):=fun c b=>by
 show dlD (b%1024)+1000*dlU c (b/1024)=_
 omega
theorem dlG_lt {n:Nat}(hn:n<1000):dlG n<8:=by
 unfold dlG;omega
theorem row_v (g:Nat)(hg:g<8)(w:World):CB 131 #[.int .i64 (g:Int)] w (.agg #[.int .i64 ((dlR g).1:Int),.int .i64 ((dlR g).2.1:Int),.int .i64 ((dlR g).2.2:Int)]):=by
 have h:g=0∨g=1∨g=2∨g=3∨g=4∨g=5∨g=6∨g=7:=by omega
 rcases h with rfl|rfl|rfl|rfl|rfl|rfl|rfl|rfl
 all_goals (
  go_enter Tryz.func131,Tryz.ntmps131
  go_wp2
  exact bodyPost_ret (by simp only [results,Tryz.results131];go_simp;exact ⟨rfl,rfl,rfl⟩) rfl ⟨rfl,bgo⟩)
end Go.Proofs.YtjfeaiaafbaobaaGreatDoor
