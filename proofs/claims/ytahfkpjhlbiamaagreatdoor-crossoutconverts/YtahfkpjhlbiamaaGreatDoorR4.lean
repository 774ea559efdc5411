/-
  Texts that the proof leans on.
-/
import Derived.Test.YtahfkpjhlbiamaaGreatDoorRows
import Derived.Test.YtahfkpjhlbiamaaGreatDoorR2
import Derived.WalkKit
import Derived.WalkSpells
import Derived.WalkLawsBesides
import Derived.Laws.Externs
import Derived.Deep.RegionHeld3
import Derived.Deep.DrawnRows
import Derived.BigQuiet
import Derived.Deep.AppendLies
import Derived.BigRegion
import Derived.Test.YtahfkpjhlbiamaaGreatDoorR3
import Derived.Test.YtahfkpjhlbiamaaGreatDoorR1
import Derived.Deep.Cut
import Derived.Deep.CutRange
set_option maxHeartbeats 8000000
set_option linter.unusedVariables false
set_option linter.unusedSectionVars false
set_option linter.unusedSimpArgs false
set_option maxRecDepth 20000
namespace Go.Proofs.YtahfkpjhlbiamaaGreatDoor
open Go.RowKit
def sizeL (x:Nat->Int):Nat->Nat
 | 0=>0
 | n+1=>if x n=0 then sizeL x n else n+1
theorem zCa (x:Nat->Int)(n:Nat):sizeL x n<=n:=by
 induction n with
 | zero=>simp [sizeL]
 | succ n ih=>simp only [sizeL];split<;>omega
theorem zTa {k:IntKind}{a b:Int}(h:a=b):Ending.returned (.int k a)=.returned (.int k b):=by rw [h]
theorem zMl (b off n c:Nat)(x:Nat->Int)(w:World)(hn:n<9223372036854775808)(hc:∀ i,i<n->w.cell? ⟨b,off+i,none⟩=some (.int .u64 (x i))) :
  Calls Tryz.prog 134 #[.slice (some ⟨b,off,none⟩) n c] w fun e w'=>e=.returned (.int .i64 (sizeL x n))/\w'=w:=by
 go_enter Tryz.func134,Tryz.ntmps134
 go_wp2
 go_loop [3] (fun t=>∃ k:Nat,k<=n/\sizeL x k=sizeL x n/\t=.int .i64 k) (fun t=>(intOf t).toNat)
 case atStart=>exact ⟨n,Nat.le_refl _,rfl,rfl⟩
 case round =>
  obtain ⟨k,hk,hs,rfl⟩:=hrel
  by_cases h0:k=0
  ·subst h0
   go_wp2
   go_ret
   exact ⟨zTa (by rw [← hs];rfl),rfl⟩
  ·obtain ⟨j,rfl⟩:∃ j,k=j+1:=⟨k-1,by omega⟩
   have hcj:=hc j (by omega)
   by_cases hz:x j=0
   ·have HS:Hid (sizeL x j=sizeL x n):=by
     have:sizeL x (j+1)=sizeL x j:=by simp [sizeL,hz]
     exact this.symm.trans hs
    clear hs
    go_wp2
    go_round
    case rel=>exact ⟨j,by omega,HS.out,by go_num⟩
    case measure=>simp [intOf]
   ·have HS:Hid (((j:Int)+1)=(sizeL x n:Nat)):=by
     have:sizeL x (j+1)=j+1:=by simp [sizeL,hz]
     show _=_
     rw [← hs,this];omega
    clear hs
    go_wp2
    go_ret
    exact ⟨zTa (by exact HS.out),rfl⟩
theorem zMq (w:World) :
  Calls Tryz.prog 134 #[.slice none 0 0] w fun e w'=>e=.returned (.int .i64 0)/\w'=w:=by
 go_enter Tryz.func134,Tryz.ntmps134
 go_wp2
 go_loop [3] (fun t=>t=.int .i64 0) (fun t=>(intOf t).toNat)
 case atStart=>rfl
 case round =>
  subst hrel
  go_wp2
  go_ret
  exact ⟨rfl,rfl⟩
def lenL (x:Nat->Int)(n:Nat):Int:=if sizeL x n=0 then 0 else 64*(sizeL x n:Int)-64+Lib.bitLen (x (sizeL x n-1)).toNat
theorem zGi:∀ f x:Nat,Lib.bitLenAux f x<=f
 | 0,x=>by simp [Lib.bitLenAux]
 | f+1,x=>by
  have:=zGi f (x/2)
  simp only [Lib.bitLenAux];split<;>omega
theorem zSc (x:Nat):Lib.bitLen x<=64:=zGi 64 x
theorem zF8 (b off n c:Nat)(x:Nat->Int)(w:World)(hn:n<100000000)(hx:∀ i,0<=x i/\x i<=18446744073709551615)(hc:∀ i,i<n->w.cell? ⟨b,off+i,none⟩=some (.int .u64 (x i))) :
  Calls Tryz.prog 69 #[.slice (some ⟨b,off,none⟩) n c] w fun e w'=>e=.returned (.int .i64 (lenL x n))/\w'=w:=by
 have hle:=zCa x n
 by_cases h0:sizeL x n=0
 ·have HL:Hid (lenL x n=0):=by show _=_;simp [lenL,h0]
  have hs:Calls Tryz.prog 134 #[.slice (some ⟨b,off,none⟩) n c] w fun e w'=>e=.returned (.int .i64 0)/\w'=w:=by
   have:=zMl b off n c x w (by omega) hc
   rw [h0] at this;exact this
  clear h0 hc hx
  go_enter Tryz.func69,Tryz.ntmps69
  go_wp2_with (go_at_call 134;refine hs.mono ?_;rintro e w' ⟨rfl,rfl⟩)
  go_ret
  exact ⟨zTa HL.out.symm,rfl⟩
 ·obtain ⟨j,hj⟩:∃ j,sizeL x n=j+1:=⟨sizeL x n-1,by omega⟩
  have hs:=zMl b off n c x w (by omega) hc
  have HL:Hid (lenL x n=64*(j:Int)+Lib.bitLen (x j).toNat):=by show _=_;simp [lenL,hj];omega
  rw [hj] at hs
  have hcj:=hc j (by omega)
  have hb:=hx j
  have hbl:=zSc (x j).toNat
  have hj':j+1<=n:=by omega
  clear h0 hc hx hj hle
  have hcl:=Tryz.bits_Len64 (x j) w hb.1 hb.2
  generalize Lib.bitLen (x j).toNat=L at *
  go_enter Tryz.func69,Tryz.ntmps69
  go_wp2_with (first|(go_at_call 134;refine hs.mono ?_;rintro e w' ⟨rfl,rfl⟩)|(go_at_call 135;refine hcl.mono ?_;rintro e w' ⟨rfl,rfl⟩))
  go_ret
  exact ⟨zTa (by rw [HL.out];omega),rfl⟩
section
def wiN (c:Bool)(a b:Nat):Bool:=decide (a<b)||(decide (a=b)&&c)
def rsN (R Z:Nat):Nat->Nat
 | 0=>R
 | k+1=>10*(rsN R Z k%Z)
def unK (c:Bool)(R d Z k:Nat):Bool:=wiN c (rsN R Z k%Z) (10^k*d)
def ovK (c:Bool)(R u Z k:Nat):Bool:=wiN c (Z-rsN R Z k%Z) (10^k*u)
def stK (c:Bool)(R d u Z k:Nat):Bool:=unK c R d Z k||ovK c R u Z k
section
variable {c:Bool}{R d u Z:Nat}(hZ:0<Z)
include hZ
theorem un_big {k:Nat}(h:Z<=10^k*d):stK c R d u Z k=true:=by
 unfold stK unK wiN
 have:=Nat.mod_lt (rsN R Z k) hZ
 have:rsN R Z k%Z<10^k*d:=by omega
 simp [this]
theorem st_ex (hd:0<d):∃ K,stK c R d u Z K=true/\∀ k,k<K->stK c R d u Z k=false:=by
 have h1:∃ K,stK c R d u Z K=true:=⟨Z,un_big hZ (by
  have h1:Z<10^Z:=Nat.lt_pow_self (by decide)
  have h2:10^Z*1<=10^Z*d:=Nat.mul_le_mul_left _ hd
  omega)⟩
 obtain ⟨K,hK⟩:=h1
 induction K using Nat.strongRecOn with
 | ind K ih =>
  by_cases h:∃ k,k<K/\stK c R d u Z k=true
  ·obtain ⟨k,h1,h2⟩:=h
   exact ih k h1 h2
  ·refine ⟨K,hK,fun k hk=>?_⟩
   cases hh:stK c R d u Z k
   ·rfl
   ·exact absurd ⟨k,hk,hh⟩ h
end
def zE (x e:Int):Nat:=4*2^(-x).toNat*10^e.toNat
def oE (x e:Int):Nat:=2^x.toNat*10^(-e).toNat
theorem zE_pos (x e:Int):0<zE x e:=Nat.mul_pos (Nat.mul_pos (by decide) (Nat.two_pow_pos _)) (Nat.pow_pos (by decide))
theorem oE_pos (x e:Int):0<oE x e:=Nat.mul_pos (Nat.two_pow_pos _) (Nat.pow_pos (by decide))
def tnP (c:Nat)(x e:Int):Prop:=zE x e<=4*c*oE x e
theorem zLs {t p:Nat}(h:196*t<=59*p):10^t<=2^p:=by
 rcases Nat.lt_or_ge (2^p) (10^t) with h1|h1
 ·exfalso
  have h2:(2^p)^59<(10^t)^59:=Nat.pow_lt_pow_left h1 (by decide)
  have h3:(10^59)^t<=(2^196)^t:=Nat.pow_le_pow_left (by decide) t
  have h4:2^(196*t)<=2^(59*p):=Nat.pow_le_pow_right (by decide) h
  have e1:((2:Nat)^p)^59=2^(59*p):=by rw [← Nat.pow_mul,Nat.mul_comm]
  have e2:((10:Nat)^t)^59=(10^59)^t:=by rw [← Nat.pow_mul,← Nat.pow_mul,Nat.mul_comm]
  have e3:((2:Nat)^196)^t=2^(196*t):=by rw [← Nat.pow_mul]
  rw [e1,e2] at h2
  rw [e3] at h3
  omega
 ·exact h1
theorem yAa:(2:Nat)^100000<=10^30103:=by decide +kernel
theorem zTm {n m t q:Nat}(hn:n≠0)(hb:(2:Nat)^n<=10^m)(h:m*q<=n*t):2^q<=10^t:=by
 rcases Nat.lt_or_ge (10^t) (2^q) with h1|h1
 ·exfalso
  have h2:(10^t)^n<(2^q)^n:=Nat.pow_lt_pow_left h1 hn
  have h3:(2^n)^q<=(10^m)^q:=Nat.pow_le_pow_left hb q
  have h4:10^(m*q)<=10^(n*t):=Nat.pow_le_pow_right (by decide) h
  have e1:((10:Nat)^t)^n=10^(n*t):=by rw [← Nat.pow_mul,Nat.mul_comm]
  have e2:((2:Nat)^q)^n=(2^n)^q:=by rw [← Nat.pow_mul,← Nat.pow_mul,Nat.mul_comm]
  have e3:((10:Nat)^m)^q=10^(m*q):=by rw [← Nat.pow_mul]
  rw [e1,e2] at h2
  rw [e3] at h3
  omega
 ·exact h1
theorem zIs {t q:Nat}(h:30103*q<=100000*t):2^q<=10^t:=zTm (by decide) yAa h
theorem zB2 {c L:Nat}{x:Int}(hL:2^L<=c)(hb:-20000<=(L:Int)+x/\(L:Int)+x<=20000):tnP c x ((((L:Int)+x)*30103).tdiv 100000-1):=by
 have hq:(((L:Int)+x)*30103).tdiv 100000=if 0<=(L:Int)+x then (((L:Int)+x)*30103)/100000 else -((-((L:Int)+x)*30103)/100000):=by
  split
  ·rw [Int.tdiv_eq_ediv_of_nonneg (by omega)]
  ·rw [show ((L:Int)+x)*30103=-(-((L:Int)+x)*30103) by omega,Int.neg_tdiv,Int.tdiv_eq_ediv_of_nonneg (by omega)]
 generalize hg:(((L:Int)+x)*30103).tdiv 100000-1=g at *
 unfold tnP zE oE
 rw [Nat.mul_assoc 4,Nat.mul_assoc 4]
 refine Nat.mul_le_mul_left 4 ?_
 by_cases hg0:0<=g
 ·have hp:0<=(L:Int)+x:=by
   rcases Int.lt_or_le ((L:Int)+x) 0 with h|h
   ·rw [if_neg (by omega)] at hq;omega
   ·exact h
  rw [if_pos hp] at hq
  have h1:10^g.toNat<=2^((L:Int)+x).toNat:=zLs (by omega)
  rw [show (-g).toNat=0 by omega,Nat.pow_zero,Nat.mul_one]
  by_cases hx:0<=x
  ·rw [show (-x).toNat=0 by omega,Nat.pow_zero,Nat.one_mul]
   rw [show ((L:Int)+x).toNat=L+x.toNat by omega,Nat.pow_add] at h1
   exact Nat.le_trans h1 (Nat.mul_le_mul_right _ hL)
  ·rw [show x.toNat=0 by omega,Nat.pow_zero,Nat.mul_one]
   have h2:=Nat.mul_le_mul_left (2^(-x).toNat) h1
   rw [← Nat.pow_add,show (-x).toNat+((L:Int)+x).toNat=L by omega] at h2
   exact Nat.le_trans h2 hL
 ·rw [show g.toNat=0 by omega,Nat.pow_zero,Nat.mul_one]
  by_cases hp:0<=(L:Int)+x
  ·have h1:2^(-x).toNat<=c*2^x.toNat:=by
    by_cases hx:0<=x
    ·rw [show (-x).toNat=0 by omega,Nat.pow_zero]
     have:=Nat.two_pow_pos L
     exact Nat.mul_pos (by omega) (Nat.two_pow_pos _)
    ·rw [show x.toNat=0 by omega,Nat.pow_zero,Nat.mul_one]
     exact Nat.le_trans (Nat.pow_le_pow_right (by decide) (by omega)) hL
   rw [← Nat.mul_assoc]
   exact Nat.le_trans h1 (Nat.le_mul_of_pos_right _ (Nat.pow_pos (by decide)))
  ·rw [if_neg hp] at hq
   have h1:2^(-((L:Int)+x)).toNat<=10^(-g).toNat:=zIs (by omega)
   rw [show x.toNat=0 by omega,Nat.pow_zero,Nat.one_mul]
   rw [show (-x).toNat=L+(-((L:Int)+x)).toNat by omega,Nat.pow_add]
   exact Nat.mul_le_mul hL h1
end
def arrOf (f:Nat->Int)(n:Nat):Array Value:=((List.range n).map fun i=>Value.int .u64 (f i)).toArray
@[simp] theorem arrOf_size (f:Nat->Int) (n:Nat):(arrOf f n).size=n:=by simp [arrOf]
theorem zJa (f:Nat->Int)(n i:Nat)(h:i<(arrOf f n).size):(arrOf f n)[i]'h=.int .u64 (f i):=by simp [arrOf]
theorem zJa? (f:Nat->Int)(n i:Nat)(h:i<n):(arrOf f n)[i]?=some (.int .u64 (f i)):=by simp [arrOf,h]
theorem zQy (f:Nat->Int)(n k:Nat)(v:Int):(arrOf f n).setIfInBounds k (.int .u64 v)=arrOf (fun i=>if i=k then v else f i) n:=by
 apply Array.ext
 ·simp
 ·intro i h1 h2
  rw [Array.getElem_setIfInBounds]
  simp only [zJa]
  by_cases h:k=i
  ·subst h;simp
  ·simp [h,Ne.symm h];exact zJa _ _ _ _
  simpa using h2
theorem zOg {f g:Nat->Int}{n:Nat}(h:∀ i,i<n->f i=g i):arrOf f n=arrOf g n:=by
 apply Array.ext
 ·simp
 ·intro i h1 h2
  simp only [zJa]
  rw [h i (by simpa using h1)]
theorem zZr (cs:Array Value)(n:Nat)(f:Nat->Int)(hs:cs.size=n)(h:∀ i,i<n->cs[i]?=some (.int .u64 (f i))):cs=arrOf f n:=by
 apply Array.ext
 ·simp [hs]
 ·intro i h1 h2
  rw [zJa]
  have:=h i (by omega)
  rw [Array.getElem?_eq_getElem h1] at this
  exact Option.some.inj this
theorem zCz (x y c:Int)(hx:0<=x)(hy:0<=y)(hc0:0<=c)(hc:c<=1)(w:World):(callFunc 77 #[.int .u64 x,.int .u64 y,.int .u64 c]).run Tryz.prog w =
  .ok (.value (.tuple #[.int .u64 ((x+y+c)%18446744073709551616),.int .u64 ((x+y+c)/18446744073709551616)])) w:=by
 rw [run_callFunc_extern Tryz.func77 (by kernel_rfl) (by kernel_rfl) (by kernel_rfl) (e:=add64Entry) (by kernel_rfl),run_add64 x y c hx hy hc0 hc]
 rfl
def zV3:Array Value->Sem Value:=fun args=>do
 let (x,y,b) ← Extern.MathBitsCarry.three "Sub64" args
 pure (Extern.MathBitsCarry.pair ((x+Extern.MathBitsCarry.m64-y-b)%Extern.MathBitsCarry.m64) (if x<y+b then 1 else 0))
theorem zTs (x y b:Nat)(hb:b<=1)(w:World) :
  (zV3 #[.int .u64 x,.int .u64 y,.int .u64 b]).run Tryz.prog w =
   .ok (.tuple #[.int .u64 (((x+18446744073709551616-y-b)%18446744073709551616:Nat):Int),.int .u64 ((if x<y+b then 1 else 0:Nat):Int)]) w:=by
 have:b=0∨b=1:=by omega
 rcases this with rfl|rfl<;>rfl
def bor (x y b:Int):Int:=if x<y+b then 1 else 0
theorem zNs (x y b:Int)(hx:0<=x)(hy:0<=y)(hy':y<18446744073709551616)(hb0:0<=b)(hb:b<=1)(w:World):(callFunc 136 #[.int .u64 x,.int .u64 y,.int .u64 b]).run Tryz.prog w =
  .ok (.value (.tuple #[.int .u64 ((x-y-b)%18446744073709551616),.int .u64 (bor x y b)])) w:=by
 obtain ⟨x,rfl⟩:=Int.eq_ofNat_of_zero_le hx
 obtain ⟨y,rfl⟩:=Int.eq_ofNat_of_zero_le hy
 obtain ⟨b,rfl⟩:=Int.eq_ofNat_of_zero_le hb0
 have e1:(((x+18446744073709551616-y-b)%18446744073709551616:Nat):Int)=((x:Int)-y-b)%18446744073709551616:=by omega
 have e2:((if x<y+b then 1 else 0:Nat):Int)=bor x y b:=by unfold bor;split<;>split<;>omega
 rw [run_callFunc_extern Tryz.func136 (by kernel_rfl) (by kernel_rfl) (by kernel_rfl) (e:=zV3) (by kernel_rfl),zTs x y b (by omega),← e1,← e2]
 rfl
section
attribute [local go_sem ↓] Go.wp_at_zero Go.wp_at_succ
theorem zPa (w:World)(n:Nat)(a:Addr)(v:Value):(w.drewN n).setCell a v=(w.setCell a v).drewN n:=rfl
theorem zAb (w:World)(n:Nat)(o:Obj):(w.drewN n).alloc o=(w.alloc o).drewN n:=rfl
attribute [local go_sem] zPa zAb
def carryW (x y:Nat->Int):Nat->Int
 | 0=>0
 | k+1=>(x k+y k+carryW x y k)/18446744073709551616
def zVb (x y:Nat->Int)(k:Nat):Int:=(x k+y k+carryW x y k)%18446744073709551616
def zDa (x:Nat->Int):Prop:=∀ i,0<=x i/\x i<=18446744073709551615
theorem zOd {x y:Nat->Int}(hx:zDa x)(hy:zDa y)(k:Nat):0<=carryW x y k/\carryW x y k<=1:=by
 induction k with
 | zero=>simp [carryW]
 | succ k ih=>have:=hx k;have:=hy k;simp only [carryW];omega
def zFf (x y:Nat->Int):Nat->Int
 | 0=>0
 | k+1=>bor (x k) (y k) (zFf x y k)
def zVc (x y:Nat->Int)(k:Nat):Int:=(x k-y k-zFf x y k)%18446744073709551616
theorem zMy (x y b:Int):0<=bor x y b/\bor x y b<=1:=by unfold bor;split<;>omega
theorem zLf (x y:Nat->Int)(k:Nat):0<=zFf x y k/\zFf x y k<=1:=by
 cases k with
 | zero=>simp [zFf]
 | succ k=>exact zMy _ _ _
theorem zIi (w:World)(o1 o2 o3 o4:Obj)(m:Nat):Below w.heap.size w ((((((w.alloc o1).alloc o2).alloc o3).alloc o4).drewN m)):=by
 have h:=((((Below.refl w.heap.size w).alloc (Nat.le_refl _) o1).alloc (by simp) o2).alloc (by simp;omega) o3).alloc (by simp;omega) o4
 exact ⟨h.os,h.tape,h.output,h.size,h.block⟩
theorem zXd (w:World)(o1 o2 o3:Obj)(m:Nat):Below w.heap.size w (((((w.alloc o1).alloc o2).alloc o3).drewN m)):=by
 have h:=(((Below.refl w.heap.size w).alloc (Nat.le_refl _) o1).alloc (by simp) o2).alloc (by simp;omega) o3
 exact ⟨h.os,h.tape,h.output,h.size,h.block⟩
theorem zYc {ss:Array Value}{k:Nat}{f:Nat->Int}(hss:∀ j h,ss[j]'h=Value.int .u64 (if j<k then f j else 0))(j:Nat)(h:j<(ss.setIfInBounds k (.int .u64 (f k))).size):(ss.setIfInBounds k (.int .u64 (f k)))[j]'h=Value.int .u64 (if j<k+1 then f j else 0):=by
 have h':j<ss.size:=by simpa using h
 rw [Array.getElem_setIfInBounds]
 by_cases e:k=j
 ·subst e;simp
 ·rw [if_neg e,hss j h']
  by_cases e2:j<k
  ·simp [e2,Nat.lt_succ_of_lt e2]
  ·simp [e2,show ¬ j<k+1 by omega]
 exact h'
end
section
attribute [local go_sem] zPa zAb
theorem zI9 (lo y:Int)(w:World)(hl:0<=lo/\lo<=18446744073709551615)(hy:0<y/\y<=18446744073709551615) :
  Calls Tryz.prog 170 #[.int .u64 0,.int .u64 lo,.int .u64 y] w fun e w'=>e=.returned (.tuple #[.int .u64 (lo/y),.int .u64 (lo%y)])/\∃ m,w'=w.drewN m:=by
 have hy0:¬ y=0:=by omega
 go_enter Tryz.func170,Tryz.ntmps170
 go_wp2
 go_quiet (fail)
 go_wp2
 go_ret2
 exact ⟨rfl,_,rfl⟩
def remJ (x:Nat->Int)(d:Int)(n:Nat):Nat->Int
 | 0=>0
 | j+1=>(remJ x d n j*18446744073709551616+x (n-1-j))%d
def quoW (x:Nat->Int)(d:Int)(n j:Nat):Int:=(remJ x d n (n-1-j)*18446744073709551616+x j)/d
theorem zIf (x:Nat->Int)(d:Int)(n j:Nat)(hd:0<d):0<=remJ x d n j/\remJ x d n j<d:=by
 cases j with
 | zero=>exact ⟨Int.le_refl _,hd⟩
 | succ j=>exact ⟨Int.emod_nonneg _ (by omega),Int.emod_lt_of_pos _ hd⟩
theorem zN0 {ss:Array Value}{k:Nat}{f:Nat->Int}(hss:∀ j h,ss[j]'h=Value.int .u64 (if k+1<=j then f j else 0))(j:Nat)(h:j<(ss.setIfInBounds k (.int .u64 (f k))).size):(ss.setIfInBounds k (.int .u64 (f k)))[j]'h=Value.int .u64 (if k<=j then f j else 0):=by
 have h':j<ss.size:=by simpa using h
 rw [Array.getElem_setIfInBounds]
 by_cases e:k=j
 ·subst e;simp
 ·rw [if_neg e,hss j h']
  by_cases e2:k<=j
  ·simp [e2,show k+1<=j by omega]
  ·simp [e2,show ¬ k+1<=j by omega]
 exact h'
theorem yBa {W w1:World}(hb:Below W.heap.size W w1):(∀ b o,b<W.heap.size->w1.cell? ⟨b,o,none⟩=W.cell? ⟨b,o,none⟩)/\(∀ b o,b<W.heap.size->w1.frozen? ⟨b,o,none⟩=W.frozen? ⟨b,o,none⟩) :=
 ⟨fun b o h=>hb.cell (p:=⟨b,o,none⟩) h,fun b o h=>hb.frozen (p:=⟨b,o,none⟩) h⟩
end
def Num (w:World)(a:Option Addr)(n c:Nat)(x:Nat->Int):Prop :=
 n<=c/\c<=maxLen/\zDa x/\(∀ i,n<=i->x i=0)/\((a=none/\c=0)∨∃ b off,a=some ⟨b,off,none⟩/\b<w.heap.size/\∀ i,i<n->w.cell? ⟨b,off+i,none⟩=some (.int .u64 (x i)))
theorem Num.next {w w':World}{a:Option Addr}{n c:Nat}{x:Nat->Int}(h:Num w a n c x)(hb:Below w.heap.size w w'):Num w' a n c x:=by
 obtain ⟨h1,h2,h3,h4,h5⟩:=h
 refine ⟨h1,h2,h3,h4,?_⟩
 rcases h5 with h5|⟨b,off,h6,h7,h8⟩
 ·exact Or.inl h5
 ·exact Or.inr ⟨b,off,h6,Nat.lt_of_lt_of_le h7 hb.size,fun i hi=>(hb.cell (p:=⟨b,off+i,none⟩) h7).trans (h8 i hi)⟩
theorem Num.drewN {w:World}{a:Option Addr}{n c:Nat}{x:Nat->Int}(h:Num w a n c x)(m:Nat):Num (w.drewN m) a n c x:=h
theorem zUb (a:Option Addr)(n c i:Nat)(x:Nat->Int)(w:World)(h:Num w a n c x) :
  Calls Tryz.prog 127 #[.slice a n c,.int .i64 i] w fun e w'=>e=.returned (.int .u64 (x i))/\w'=w:=by
 obtain ⟨h1,h2,h3,h4,h5⟩:=h
 by_cases hi:i<n
 ·rcases h5 with ⟨rfl,rfl⟩|⟨b,off,rfl,hbs,hc⟩
  ·omega
  ·have hci:=hc i hi
   have hi':(i:Int)<n:=by omega
   clear hc h4 h3
   go_enter Tryz.func127,Tryz.ntmps127
   go_wp2
   go_ret
   exact ⟨rfl,rfl⟩
 ·have hz:=h4 i (by omega)
  have HZ:Hid (x i=0):=hz
  clear hz h4 h3 h5
  go_enter Tryz.func127,Tryz.ntmps127
  go_wp2
  go_ret
  exact ⟨zTa HZ.out.symm,rfl⟩
def zLg (x y:Nat->Int):Nat->Int
 | 0=>0
 | n+1=>if x n<y n then -1 else if y n<x n then 1 else zLg x y n
theorem zW9 (a a':Option Addr)(n c n' c':Nat)(x y:Nat->Int)(w:World)(hn:n<4294967296)(hn':n'<4294967296)(h:Num w a n c x)(h':Num w a' n' c' y) :
  Calls Tryz.prog 88 #[.slice a n c,.slice a' n' c'] w fun e w'=>e=.returned (.int .i64 (zLg x y (max n n')))/\w'=w:=by
 have hw1:=fun i=>zUb a n c i x w h
 have hw2:=fun i=>zUb a' n' c' i y w h'
 clear h h'
 go_enter Tryz.func88,Tryz.ntmps88
 go_wp2
 go_loop [5,6,7] (fun t u6 u7=>∃ k:Nat,k<=max n n'/\zLg x y k=zLg x y (max n n')/\t=.int .i64 ((k:Int)-1)) (fun t _ _=>(intOf t+1).toNat)
 case atStart=>exact ⟨max n n',Nat.le_refl _,rfl,by go_num⟩
 case round =>
  obtain ⟨k,hk,hs,rfl⟩:=hrel
  by_cases h0:k=0
  ·subst h0
   have HS:Hid (zLg x y (max n n')=0):=hs.symm
   clear hs
   go_wp2
   go_ret
   exact ⟨zTa HS.out.symm,rfl⟩
  ·obtain ⟨j,rfl⟩:∃ j,k=j+1:=⟨k-1,by omega⟩
   have ej:((j+1:Nat):Int)-1=j:=by omega
   have hj:j<4294967296:=by omega
   rw [ej]
   have HS:Hid ((if x j<y j then -1 else if y j<x j then 1 else zLg x y j)=zLg x y (max n n')):=hs
   have hkm:j<=max n n':=by omega
   clear hs ej hk
   have hwa:=hw1 j
   have hwb:=hw2 j
   by_cases hlt:x j<y j
   ·have HR:Hid (zLg x y (max n n')=-1):=by rw [← HS.out,if_pos hlt];rfl
    clear HS
    go_wp2_with (first|(go_at_call_of 127 (Value.slice a n c);refine hwa.mono ?_;rintro e w' ⟨rfl,rfl⟩)|(go_at_call_of 127 (Value.slice a' n' c');refine hwb.mono ?_;rintro e w' ⟨rfl,rfl⟩))
    go_ret
    exact ⟨zTa HR.out.symm,rfl⟩
   ·by_cases hgt:y j<x j
    ·have HR:Hid (zLg x y (max n n')=1):=by rw [← HS.out,if_neg hlt,if_pos hgt];rfl
     clear HS
     go_wp2_with (first|(go_at_call_of 127 (Value.slice a n c);refine hwa.mono ?_;rintro e w' ⟨rfl,rfl⟩)|(go_at_call_of 127 (Value.slice a' n' c');refine hwb.mono ?_;rintro e w' ⟨rfl,rfl⟩))
     go_ret
     exact ⟨zTa HR.out.symm,rfl⟩
    ·have HR:Hid (zLg x y j=zLg x y (max n n')):=by rw [← HS.out,if_neg hlt,if_neg hgt];rfl
     clear HS
     go_wp2_with (first|(go_at_call_of 127 (Value.slice a n c);refine hwa.mono ?_;rintro e w' ⟨rfl,rfl⟩)|(go_at_call_of 127 (Value.slice a' n' c');refine hwb.mono ?_;rintro e w' ⟨rfl,rfl⟩))
     go_round
     case rel=>exact ⟨j,hkm,HR.out,by go_num⟩
     case measure=>simp [intOf]
theorem Tryz.info22:(Tryz.prog.info? 22).map (fun i=>(i.zero,i.size,i.bytes))=some (some (.int .u64 0),1,8):=by kernel_rfl
theorem zXe {w w':World}{g k cap base:Nat}{x:Nat->Int}(hx:zDa x)(hz:∀ i,k<=i->x i=0)(h:w'.ownsRow base 22 1 (.slice (some ⟨g,0,none⟩) k cap) k ((List.range k).map fun i=>Value.int .u64 (x i)))(hg:g<w'.heap.size):Num w' (some ⟨g,0,none⟩) k cap x:=by
 obtain ⟨hl,h⟩:=h
 rcases h with ⟨h,_⟩|⟨g',cap',cur,he,hb,hh,h1,h2,h3,h4⟩
 ·cases h
 ·cases he
  refine ⟨h1,h2,hx,hz,Or.inr ⟨g,0,rfl,hg,fun i hi=>?_⟩⟩
  rw [Nat.zero_add]
  have hcur:cur[i]?=some (.int .u64 (x i)):=by
   have:(cur.toList.take (k*1))[i]?=some (.int .u64 (x i)):=by rw [h4];simp [hi]
   rw [List.getElem?_take] at this
   simpa [hi] using this
  unfold World.cell?
  simp [hh,hcur]
theorem zKu (b off n c:Nat)(x:Nat->Int)(w:World)(hn:n<4294967296)(h:Num w (some ⟨b,off,none⟩) n c x) :
  Calls Tryz.prog 128 #[.slice (some ⟨b,off,none⟩) n c] w fun e w'=>∃ g cap,e=.returned (.slice (some ⟨g,0,none⟩) (sizeL x n) cap)/\Num w' (some ⟨g,0,none⟩) (sizeL x n) cap x/\Below w.heap.size w w':=by
 obtain ⟨h1,h2,h3,h4,h5⟩:=h
 have hc:b<w.heap.size/\∀ i,i<n->w.cell? ⟨b,off+i,none⟩=some (.int .u64 (x i)):=by
  rcases h5 with ⟨h,_⟩|⟨b',off',h,hbs,hc⟩
  ·cases h
  ·cases h;exact ⟨hbs,hc⟩
 obtain ⟨hbs,hc⟩:=hc
 clear h5
 obtain ⟨i0,hi,hz0,hz1,hz2⟩:=info_parts Tryz.info22
 unfold maxLen at h2
 go_enter Tryz.func128,Tryz.ntmps128
 go_wp2
 go_loop [3] (fun t=>∃ k:Nat,k<=n/\sizeL x k=sizeL x n/\(∀ i,k<=i->x i=0)/\t=.int .i64 k) (fun t=>(intOf t).toNat)
 case atStart=>exact ⟨n,Nat.le_refl _,rfl,h4,rfl⟩
 case round =>
  obtain ⟨k,hk,hs,hz,rfl⟩:=hrel
  clear h4
  by_cases h0:k=0
  ·subst h0
   have HS:Hid (sizeL x n=0):=hs.symm
   have HN:Hid (Num (w.alloc (.cells #[] 22)) (some ⟨w.heap.size,0,none⟩) 0 0 x):=⟨Nat.le_refl _,by unfold maxLen;omega,h3,hz,Or.inr ⟨w.heap.size,0,rfl,by simp,fun i hi=>by omega⟩⟩
   clear hs hz hc h3
   go_wp2
   go_ret
   refine ⟨w.heap.size,0,?_,?_,(Below.refl _ _).alloc (Nat.le_refl _) _⟩
   ·rw [HS.out];rfl
   ·rw [HS.out];exact HN.out
  ·obtain ⟨j,rfl⟩:∃ j,k=j+1:=⟨k-1,by omega⟩
   have hcj:=hc j (by omega)
   by_cases hzj:x j=0
   ·have HS:Hid (sizeL x j=sizeL x n):=by
     have:sizeL x (j+1)=sizeL x j:=by simp [sizeL,hzj]
     exact this.symm.trans hs
    have HZ:Hid (∀ i,j<=i->x i=0):=fun i hji=>by
     by_cases e:i=j
     ·rw [e];exact hzj
     ·exact hz i (by omega)
    clear hs hz hc
    go_wp2
    go_round
    case rel=>exact ⟨j,by omega,HS.out,HZ.out,by go_num⟩
    case measure=>simp [intOf]
   ·have HS:Hid (sizeL x n=j+1):=by
     have:sizeL x (j+1)=j+1:=by simp [sizeL,hzj]
     exact hs.symm.trans this
    have HZ:Hid (∀ i,j+1<=i->x i=0):=hz
    have HC:Hid (∀ i,i<n->w.cell? ⟨b,off+i,none⟩=some (.int .u64 (x i))):=hc
    clear hs hz hc
    have HOWN:(w.alloc (.cells #[] 22)).ownsRow w.heap.size 22 1 (.slice (some ⟨w.heap.size,0,none⟩) 0 0) 0 [] :=
     ⟨rfl,Or.inr ⟨w.heap.size,0,#[],rfl,Nat.le_refl _,(MapKept.heap_alloc w _).1,Nat.le_refl _,by unfold maxLen;omega,rfl,rfl⟩⟩
    have HNEWS:∀ (q:Nat) (u:Value),((List.range (j+1)).map fun i=>Value.int .u64 (x i))[q]?=some u->(w.alloc (.cells #[] 22)).cell? ((⟨b,off,none⟩:Addr).add q)=some u:=by
     intro q u hq
     have hql:q<j+1:=by
      rcases Nat.lt_or_ge q (j+1) with h|h
      ·exact h
      ·rw [List.getElem?_eq_none (by simpa using h)] at hq;cases hq
     have e2:u=.int .u64 (x q):=by simpa [hql] using hq.symm
     rw [e2]
     have ea:(⟨b,off,none⟩:Addr).add q=⟨b,off+q,none⟩:=by simp [Addr.add]
     rw [ea]
     exact (((Below.refl w.heap.size w).alloc (Nat.le_refl _) _).cell (p:=⟨b,off+q,none⟩) hbs).trans (HC.out q (by omega))
    have HONE:∀ u ∈ ((List.range (j+1)).map fun i=>Value.int .u64 (x i)),u.oneCell'=true:=by
     intro u hu
     obtain ⟨q,_,rfl⟩:=List.mem_map.1 hu
     rfl
    go_wp2_with (at_builtin;refine wpList_append_lies _ rfl (.tmp 18) (.tmp 21) 61 rfl w.heap.size 22 i0 (.int .u64 0) 1 8 Tryz.underlying61 hi hz0 hz1 hz2 rfl (by decide) (.slice (some ⟨w.heap.size,0,none⟩) 0 0) 0 [] rfl HOWN ⟨b,off,none⟩ (j+1) c ((List.range (j+1)).map fun i=>Value.int .u64 (x i)) rfl (by simp) HNEWS HONE (by omega) (by unfold maxLen;omega) (by omega) (by simp) (w.heap.size+1) (by simp) ?_;intro g cap w1 hown hgrow hat hlt;clear HOWN HNEWS HONE)
    have hown':w1.ownsRow w.heap.size 22 1 (.slice (some ⟨g,0,none⟩) (j+1) cap) (j+1) ((List.range (j+1)).map fun i=>Value.int .u64 (x i)):=by
     have e0:0+(j+1)=j+1:=by omega
     rw [e0] at hown
     simpa using hown
    have HN:=zXe (w:=w) h3 HZ.out hown' hlt
    have HB:Below w.heap.size w w1:=((Below.refl _ _).alloc (Nat.le_refl _) _).grown hgrow (by simp) (by intro k hk;cases hk;exact Nat.le_refl _)
    clear hown hown' hgrow
    go_wp2
    go_ret
    refine ⟨g,cap,?_,?_,HB⟩
    ·rw [HS.out];simp
    ·rw [HS.out];exact HN
theorem zD0 (x:Nat->Int)(w:World)(hx:∀ i,x i=0) :
  Calls Tryz.prog 128 #[.slice none 0 0] w fun e w'=>∃ g cap,e=.returned (.slice (some ⟨g,0,none⟩) 0 cap)/\Num w' (some ⟨g,0,none⟩) 0 cap x/\Below w.heap.size w w':=by
 go_enter Tryz.func128,Tryz.ntmps128
 go_wp2
 go_loop [3] (fun t=>t=.int .i64 0) (fun t=>(intOf t).toNat)
 case atStart=>rfl
 case round =>
  subst hrel
  go_wp2
  go_ret
  refine ⟨w.heap.size,0,rfl,?_,(Below.refl _ _).alloc (Nat.le_refl _) _⟩
  exact ⟨Nat.le_refl _,by unfold maxLen;omega,fun i=>by rw [hx i];decide,fun i _=>hx i,Or.inr ⟨w.heap.size,0,rfl,by simp,fun i hi=>by omega⟩⟩
theorem zHb (a:Option Addr)(n c:Nat)(x:Nat->Int)(w:World)(hn:n<4294967296)(h:Num w a n c x) :
  Calls Tryz.prog 128 #[.slice a n c] w fun e w'=>∃ g cap,e=.returned (.slice (some ⟨g,0,none⟩) (sizeL x n) cap)/\Num w' (some ⟨g,0,none⟩) (sizeL x n) cap x/\Below w.heap.size w w':=by
 have h':=h
 obtain ⟨h1,h2,h3,h4,h5⟩:=h'
 rcases h5 with ⟨rfl,rfl⟩|⟨b,off,rfl,_,_⟩
 ·obtain rfl:n=0:=by omega
  exact zD0 x w (fun i=>h4 i (Nat.zero_le _))
 ·exact zKu b off n c x w hn h
theorem zNw (k:Nat):madeCells (Value.int .u64 0).cells k=arrOf (fun _=>0) k:=by
 apply Array.ext
 ·simp [madeCells]
 ·intro i h1 h2
  rw [zJa]
  simp [madeCells,Value.cells,Nat.mod_one]
theorem zUa (L:Int)(k:Nat)(hL:L=k)(hk:k<8589934592)(w:World):(Instr.makeSlice 61 (.int .i64 L) (.int .i64 L)).run Tryz.prog w=.ok (.slice (some ⟨w.heap.size,0,none⟩) k k) (w.alloc (.cells (arrOf (fun _=>0) k) 22)):=by
 obtain ⟨i0,hi,hz0,hz1,hz2⟩:=info_parts Tryz.info22
 rw [run_make w 61 22 i0 (.int .u64 0) Tryz.underlying61 hi hz0 .i64 .i64 L L (by omega) (by omega) (by rw [hz2];omega) (by omega)]
 have e1:L.toNat=k:=by omega
 rw [e1,hz1,Nat.mul_one,zNw]
theorem zXa {w:World}{k:Nat}{x:Nat->Int}{ss:Array Value}(hk:k<8589934592)(hx:zDa x)(hz:∀ i,k<=i->x i=0)(hsz:ss.size=k)(hss:∀ j h,ss[j]'h=Value.int .u64 (x j)):Num (w.alloc (.cells ss 22)) (some ⟨w.heap.size,0,none⟩) k k x:=by
 refine ⟨Nat.le_refl _,by unfold maxLen;omega,hx,hz,Or.inr ⟨w.heap.size,0,rfl,by simp,fun i hi=>?_⟩⟩
 rw [Nat.zero_add,World.cell?_alloc_new,Array.getElem?_eq_getElem (by omega),hss i (by omega)]
theorem zBa (w:World)(o:Obj):Below w.heap.size w (w.alloc o):=(Below.refl _ _).alloc (Nat.le_refl _) _
theorem zEe (x y:Nat->Int):zDa (zVb x y):=fun i=>⟨Int.emod_nonneg _ (by decide),by have:=Int.emod_lt_of_pos (x i+y i+carryW x y i) (b:=18446744073709551616) (by decide);unfold zVb;omega⟩
theorem zQu {x y:Nat->Int}{n:Nat}(hx:zDa x)(hy:zDa y)(zx:∀ i,n<=i->x i=0)(zy:∀ i,n<=i->y i=0):∀ i,n+1<=i->zVb x y i=0:=by
 have hc:∀ j,n+1<=j->carryW x y j=0:=by
  intro j hj
  obtain ⟨q,rfl⟩:∃ q,j=q+1:=⟨j-1,by omega⟩
  have:=zOd hx hy q
  simp only [carryW];rw [zx q (by omega),zy q (by omega)];omega
 intro i hi
 unfold zVb
 rw [zx i (by omega),zy i (by omega),hc i hi];rfl
theorem zLe (x y:Nat->Int):zDa (zVc x y):=fun i=>⟨Int.emod_nonneg _ (by decide),by have:=Int.emod_lt_of_pos (x i-y i-zFf x y i) (b:=18446744073709551616) (by decide);unfold zVc;omega⟩
def zMo (x y:Nat->Int)(M i:Nat):Int:=if i<M then zVc x y i else 0
theorem zVk (x y:Nat->Int)(M:Nat):zDa (zMo x y M):=fun i=>by unfold zMo;split;exact zLe x y i;decide
theorem zC1 (a a':Option Addr)(n c n' c':Nat)(x y:Nat->Int)(w:World)(hn:n<4294967290)(hn':n'<4294967290)(h:Num w a n c x)(h':Num w a' n' c' y) :
  Calls Tryz.prog 63 #[.slice a n c,.slice a' n' c'] w fun e w'=>∃ g k cap,e=.returned (.slice (some ⟨g,0,none⟩) k cap)/\k<=max n n'+1/\Num w' (some ⟨g,0,none⟩) k cap (zVb x y)/\Below w.heap.size w w':=by
 have hx:=h.2.2.1
 have hy:=h'.2.2.1
 have zx:=h.2.2.2.1
 have zy:=h'.2.2.2.1
 obtain ⟨M,hM⟩:∃ M,max n n'+1=M:=⟨_,rfl⟩
 have hMi:max (n:Int) n'+1=(M:Int):=by omega
 have hMb:M<4294967292:=by omega
 have hmk:=fun w=>zUa (max (n:Int) n'+1) M hMi (by omega) w
 have hfin:∀ (ss:Array Value),ss.size=M->(∀ j h,ss[j]'h=Value.int .u64 (zVb x y j))->Num (w.alloc (.cells ss 22)) (some ⟨w.heap.size,0,none⟩) M M (zVb x y):=fun ss h1 h2=>zXa (by omega) (zEe x y) (fun i hi=>zQu (n:=max n n') hx hy (fun i hi=>zx i (by omega)) (fun i hi=>zy i (by omega)) i (by omega)) h1 (fun j hj=>by rw [h2 j hj])
 have hw1:=fun (i:Nat) (ss:Array Value)=>zUb a n c i x (w.alloc (.cells ss 22)) (h.next (zBa w _))
 have hw2:=fun (i:Nat) (ss:Array Value)=>zUb a' n' c' i y (w.alloc (.cells ss 22)) (h'.next (zBa w _))
 have HM:Hid (max n n'+1=M):=hM
 have HZ:Hid ((arrOf (fun _=>0) M).size=M/\∀ j h,(arrOf (fun _=>0) M)[j]'h=Value.int .u64 0):=⟨arrOf_size _ _,fun j h=>zJa _ _ _ _⟩
 clear h h' zx zy hM hMi
 generalize arrOf (fun _=>0) M=zz at *
 go_enter Tryz.func63,Tryz.ntmps63
 go_wp2
 go_loopw [6,7,17,20] (fun c u7 i u20 wr=>∃ (k:Nat) (ss:Array Value),k<=M/\i=.int .i64 k/\c=.int .u64 (carryW x y k)/\ss.size=M/\(∀ j h,ss[j]'h=Value.int .u64 (if j<k then zVb x y j else 0))/\wr=w.alloc (.cells ss 22)) (fun _ _ i _ _=>M-(intOf i).toNat)
 case atStart=>exact ⟨0,zz,Nat.zero_le _,rfl,rfl,HZ.out.1,fun j h=>by rw [HZ.out.2 j h];simp,rfl⟩
 case round =>
  obtain ⟨k,ss,hk,rfl,rfl,hsz,hss,rfl⟩:=hrel
  have hcar:=zOd hx hy k
  by_cases h8:k<M
  ·have h8i:(k:Int)<M:=by omega
   have h8s:k<ss.size:=by omega
   have bx:=hx k
   have b_y:=hy k
   have hsk:ss[k]?=some (.int .u64 0):=by rw [Array.getElem?_eq_getElem h8s,hss k h8s,if_neg (by omega)]
   have hadd:=fun w=>zCz (x k) (y k) (carryW x y k) bx.1 b_y.1 hcar.1 hcar.2 w
   have hwa:=hw1 k ss
   have hwb:=hw2 k ss
   have HR:Hid (∀ (i:Nat) (h:i<(ss.setIfInBounds k (.int .u64 (zVb x y k))).size),(ss.setIfInBounds k (.int .u64 (zVb x y k)))[i]'h=Value.int .u64 (if i<k+1 then zVb x y i else 0)):=zYc hss
   clear hss hw1 hw2 hfin hmk hx hy
   go_wp2_with (first|(go_at_call_of 127 (Value.slice a n c);refine hwa.mono ?_;rintro e w' ⟨rfl,rfl⟩)|(go_at_call_of 127 (Value.slice a' n' c');refine hwb.mono ?_;rintro e w' ⟨rfl,rfl⟩))
   go_roundw
   case rel=>exact ⟨k+1,ss.setIfInBounds k (.int .u64 (zVb x y k)),by omega,by go_num,rfl,by simp [hsz],HR.out,rfl⟩
   case measure=>simp [intOf];omega
  ·obtain rfl:k=M:=by omega
   have hss':∀ j h,ss[j]'h=Value.int .u64 (zVb x y j):=by
    intro j h;rw [hss j h,if_pos (by omega)]
   have hT:=zHb _ _ _ _ _ (by omega) (hfin ss hsz hss')
   have hle:=zCa (zVb x y) k
   clear hss hss' hw1 hw2 hfin hmk hx hy
   go_wp2_with (go_at_call 128;refine hT.mono ?_;rintro e w1 ⟨g,cap,rfl,hN,hB⟩)
   go_ret
   exact ⟨g,_,cap,rfl,Nat.le_trans hle (Nat.le_of_eq HM.out.symm),hN,(zBa w _).trans (hB.mono (by simp))⟩
section
attribute [local go_sem ↓] Go.wp_at_zero Go.wp_at_succ
attribute [local go_sem] zPa zAb
def orW (a b:Int):Int:=bits BinOp.or IntKind.u64 a b
theorem zEg (a b:Int)(ha:0<=a/\a<=18446744073709551615)(hb:0<=b/\b<=18446744073709551615):orW a b=((a.toNat ||| b.toNat:Nat):Int):=u64_or a b ha.1 (by omega) hb.1 (by omega)
theorem zVq (a b:Int)(ha:0<=a/\a<=18446744073709551615)(hb:0<=b/\b<=18446744073709551615):orW a b=orW b a:=by
 rw [zEg a b ha hb,zEg b a hb ha,Nat.or_comm]
theorem zWe (a:Int)(ha:0<=a/\a<=18446744073709551615):orW a 0=a:=by
 rw [zEg a 0 ha (by decide)];simp;omega
theorem zEz (a:Int)(ha:0<=a/\a<=18446744073709551615):orW 0 a=a:=by
 rw [zEg 0 a (by decide) ha];simp;omega
theorem zVg (a b:Int)(ha:0<=a/\a<=18446744073709551615)(hb:0<=b/\b<=18446744073709551615):0<=orW a b/\orW a b<=18446744073709551615:=by
 rw [zEg a b ha hb]
 have:a.toNat ||| b.toNat<2^64:=Nat.or_lt_two_pow (by omega) (by omega)
 omega
theorem zRb (a:Int):0<=IntKind.u64.wrap a/\IntKind.u64.wrap a<=18446744073709551615:=by
 simp only [IntKind.wrap,IntKind.bits,IntKind.signed]
 have h1:=Int.emod_nonneg a (b:=18446744073709551616) (by decide)
 have h2:=Int.emod_lt_of_pos a (b:=18446744073709551616) (by decide)
 simp;omega
theorem zNh (a:Int)(ha:0<=a/\a<=18446744073709551615):IntKind.u64.wrap a=a:=by
 simp only [IntKind.wrap,IntKind.bits,IntKind.signed]
 simp;omega
theorem zRc (a:Int)(e:Nat)(ha:0<=a/\a<=18446744073709551615):0<=a/2^e/\a/2^e<=18446744073709551615:=by
 have hp:(0:Int)<2^e:=Int.pow_pos (by decide)
 have h1:=Int.ediv_nonneg ha.1 (Int.le_of_lt hp)
 have h2:=Int.ediv_le_self (2^e) ha.1
 omega
def zJf (x:Nat->Int)(q r j:Nat):Int:=if q+1<=j/\0<r then x (j-q-1)/2^(64-r) else 0
def zIc (x:Nat->Int)(q r j:Nat):Int:=if q<=j then orW (zJf x q r j) (IntKind.u64.wrap (x (j-q)*2^r)) else 0
def stL (x:Nat->Int)(q r k j:Nat):Int:=if j<q+k then zIc x q r j else if j=q+k then zJf x q r j else 0
theorem zHe {x:Nat->Int}(hx:zDa x)(q r j:Nat):0<=zJf x q r j/\zJf x q r j<=18446744073709551615:=by
 unfold zJf;split
 ·exact zRc _ _ (hx _)
 ·decide
theorem zJe {x:Nat->Int}(hx:zDa x)(q r:Nat):zDa (zIc x q r):=fun j=>by
 unfold zIc;split
 ·exact zVg _ _ (zHe hx q r j) (zRb _)
 ·decide
theorem zEh {x:Nat->Int}{n:Nat}(hx:zDa x)(zx:∀ i,n<=i->x i=0)(q r:Nat)(hr:r<64):∀ j,n+q+1<=j->zIc x q r j=0:=by
 intro j hj
 unfold zIc
 rw [if_pos (by omega),zx (j-q) (by omega)]
 have:zJf x q r j=0:=by
  unfold zJf;split
  ·rw [zx (j-q-1) (by omega)];simp
  ·rfl
 rw [this,Int.zero_mul,zNh 0 (by decide),zWe 0 (by decide)]
theorem zLl {x:Nat->Int}{n:Nat}(hx:zDa x)(zx:∀ i,n<=i->x i=0)(q r j:Nat)(hj:j<n+q+1):stL x q r n j=zIc x q r j:=by
 unfold stL
 by_cases h:j<q+n
 ·rw [if_pos h]
 ·obtain rfl:j=q+n:=by omega
  rw [if_neg h,if_pos rfl]
  unfold zIc
  rw [if_pos (by omega),zx (q+n-q) (by omega),Int.zero_mul,zNh 0 (by decide),zWe _ (zHe hx q r _)]
theorem zZm {x:Nat->Int}{q k:Nat}{ss:Array Value}(hss:∀ j h,ss[j]'h=Value.int .u64 (stL x q 0 k j))(j:Nat)(h:j<(ss.setIfInBounds (k+q) (.int .u64 (zIc x q 0 (q+k)))).size):(ss.setIfInBounds (k+q) (.int .u64 (zIc x q 0 (q+k))))[j]'h=Value.int .u64 (stL x q 0 (k+1) j):=by
 have h':j<ss.size:=by simpa using h
 rw [Array.getElem_setIfInBounds]
 by_cases e:k+q=j
 ·subst e;rw [if_pos rfl];unfold stL;rw [if_pos (by omega),Nat.add_comm]
 ·rw [if_neg e,hss j h']
  unfold stL
  by_cases e2:j<q+k
  ·rw [if_pos e2,if_pos (by omega)]
  ·rw [if_neg e2,if_neg (by omega),if_neg (by omega)]
   have:zJf x q 0 j=0:=by unfold zJf;rw [if_neg (by omega)]
   rw [this];split<;>rfl
 exact h'
theorem zYm {x:Nat->Int}{q r k:Nat}(hr:0<r){ss:Array Value}(hss:∀ j h,ss[j]'h=Value.int .u64 (stL x q r k j))(j:Nat)(h:j<((ss.setIfInBounds (k+q) (.int .u64 (zIc x q r (q+k)))).setIfInBounds (k+q+1) (.int .u64 (x k/2^(64-r)))).size):((ss.setIfInBounds (k+q) (.int .u64 (zIc x q r (q+k)))).setIfInBounds (k+q+1) (.int .u64 (x k/2^(64-r))))[j]'h=Value.int .u64 (stL x q r (k+1) j):=by
 have h':j<ss.size:=by simpa using h
 rw [Array.getElem_setIfInBounds (by simpa using h')]
 by_cases e0:k+q+1=j
 ·subst e0;rw [if_pos rfl];unfold stL;rw [if_neg (by omega),if_pos (by omega)];unfold zJf;rw [if_pos ⟨by omega,hr⟩,show k+q+1-q-1=k by omega]
 ·rw [if_neg e0,Array.getElem_setIfInBounds h']
  by_cases e:k+q=j
  ·subst e;rw [if_pos rfl];unfold stL;rw [if_pos (by omega),Nat.add_comm]
  ·rw [if_neg e,hss j h']
   unfold stL
   by_cases e2:j<q+k
   ·rw [if_pos e2,if_pos (by omega)]
   ·rw [if_neg e2,if_neg (by omega),if_neg (by omega),if_neg (by omega)]
theorem left_z (b off n c q:Nat)(s:Int)(x:Nat->Int)(w:World)(hn:n<4000000000)(hq0:q<100000)(hq:s/64=q)(hr:s%64=0)(hs:0<=s)(h:Num w (some ⟨b,off,none⟩) n c x) :
  Calls Tryz.prog 87 #[.slice (some ⟨b,off,none⟩) n c,.int .i64 s] w fun e w'=>∃ g k cap,e=.returned (.slice (some ⟨g,0,none⟩) k cap)/\k<=n+q+1/\Num w' (some ⟨g,0,none⟩) k cap (zIc x q 0)/\Below w.heap.size w w':=by
 have hx:=h.2.2.1
 have zx:=h.2.2.2.1
 have hc:b<w.heap.size/\∀ i,i<n->w.cell? ⟨b,off+i,none⟩=some (.int .u64 (x i)):=by
  rcases h.2.2.2.2 with ⟨h,_⟩|⟨b',off',h,hbs,hc⟩
  ·cases h
  ·cases h;exact ⟨hbs,hc⟩
 obtain ⟨hbs,hc⟩:=hc
 have hcap:=h.1
 have hs6:s<6400064:=by omega
 obtain ⟨M,hM⟩:∃ M,n+q+1=M:=⟨_,rfl⟩
 have hMi:(n:Int)+q+1=(M:Int):=by omega
 have hmk:=fun w=>zUa ((n:Int)+q+1) M hMi (by omega) w
 have hfin:∀ (ss:Array Value) (m:Nat),ss.size=M->(∀ j h,ss[j]'h=Value.int .u64 (stL x q 0 n j))->Num ((w.alloc (.cells ss 22)).drewN m) (some ⟨w.heap.size,0,none⟩) M M (zIc x q 0):=fun ss m h1 h2=>(zXa (by omega) (zJe hx q 0) (fun i hi=>zEh hx zx q 0 (by omega) i (by omega)) h1 (fun j hj=>by rw [h2 j hj,zLl hx zx q 0 j (by omega)])).drewN m
 have HM:Hid (n+q+1=M):=hM
 have HZ:Hid ((arrOf (fun _=>0) M).size=M/\∀ j h,(arrOf (fun _=>0) M)[j]'h=Value.int .u64 0):=⟨arrOf_size _ _,fun j h=>zJa _ _ _ _⟩
 have hcw:∀ (ss:Array Value) i,i<n->(w.alloc (.cells ss 22)).cell? ⟨b,off+i,none⟩=some (.int .u64 (x i)):=fun ss i hi=>((zBa w _).cell (p:=⟨b,off+i,none⟩) hbs).trans (hc i hi)
 clear h zx hMi hc
 generalize arrOf (fun _=>0) M=zz at *
 go_enter Tryz.func87,Tryz.ntmps87
 go_wp2
 go_loopw [6,16] (fun u6 i wr=>∃ (k m:Nat) (ss:Array Value),k<=n/\i=.int .i64 k/\ss.size=M/\(∀ j h,ss[j]'h=Value.int .u64 (stL x q 0 k j))/\wr=(w.alloc (.cells ss 22)).drewN m) (fun _ i _=>n-(intOf i).toNat)
 case atStart=>exact ⟨0,0,zz,Nat.zero_le _,rfl,HZ.out.1,fun j h=>by rw [HZ.out.2 j h];unfold stL;(by_cases e:j<q+0);(rw [if_pos e];unfold zIc;rw [if_neg (by omega)]);(rw [if_neg e];split;(unfold zJf;rw [if_neg (by omega)]);rfl),rfl⟩
 case round =>
  obtain ⟨k,m,ss,hk,rfl,hsz,hss,rfl⟩:=hrel
  by_cases h8:k<n
  ·have h8i:(k:Int)<n:=by omega
   have h8s:k+q<ss.size:=by omega
   have h8t:(k:Int)+q<M:=by omega
   have h8u:(k:Int)+q+1<M:=by omega
   have bx:=hx k
   have hcx:=hcw ss k h8
   have hsk:ss[k+q]?=some (.int .u64 (zJf x q 0 (q+k))):=by rw [Array.getElem?_eq_getElem h8s,hss _ h8s];unfold stL;rw [if_neg (by omega),if_pos (by omega),Nat.add_comm]
   have hgo:∀ h,ss[k+q]'h=.int .u64 (zJf x q 0 (q+k)):=fun h=>by rw [hss _ h];unfold stL;rw [if_neg (by omega),if_pos (by omega),Nat.add_comm]
   have hlow:=zHe hx q 0 (q+k)
   have e1:((k:Int)+q).toNat=k+q:=by omega
   have e2:((k:Int)+q+1).toNat=k+q+1:=by omega
   have HF:Hid (zIc x q 0 (q+k)=bits BinOp.or IntKind.u64 (zJf x q 0 (q+k)) (x k)):=by
    show _=_;unfold zIc;rw [if_pos (by omega),show q+k-q=k by omega];simp [orW,zNh _ bx]
   have HR:Hid (∀ (i:Nat) (h:i<(ss.setIfInBounds (k+q) (.int .u64 (zIc x q 0 (q+k)))).size),(ss.setIfInBounds (k+q) (.int .u64 (zIc x q 0 (q+k))))[i]'h=Value.int .u64 (stL x q 0 (k+1) i)):=zZm hss
   clear hss hfin hmk hx
   generalize hlo:zJf x q 0 (q+k)=lo at *
   clear hcw
   go_wp2
   go_region
   go_wp2
   go_roundw
   case rel=>refine ⟨k+1,m+1,ss.setIfInBounds (k+q) (.int .u64 (zIc x q 0 (q+k))),by omega,by go_num,by simp [hsz],HR.out,?_⟩;rw [HF.out]
   case measure=>simp [intOf];omega
  ·obtain rfl:k=n:=by omega
   have hT:=zHb _ _ _ _ _ (by omega) (hfin ss m hsz hss)
   have hle:=zCa (zIc x q 0) M
   clear hss hfin hmk hx hcw
   go_wp2_with (go_at_call 128;refine hT.mono ?_;rintro e w1 ⟨g,cap,rfl,hN,hB⟩)
   go_ret
   exact ⟨g,_,cap,rfl,Nat.le_trans hle (Nat.le_of_eq HM.out.symm),hN,(below_drewN (zBa w _) m).trans (hB.mono (by simp))⟩
theorem left_p (b off n c q r:Nat)(s:Int)(x:Nat->Int)(w:World)(hn:n<4000000000)(hq0:q<100000)(hr0:r<64)(hrp:0<r)(hq:s/64=q)(hr:s%64=r)(hs:0<=s)(h:Num w (some ⟨b,off,none⟩) n c x) :
  Calls Tryz.prog 87 #[.slice (some ⟨b,off,none⟩) n c,.int .i64 s] w fun e w'=>∃ g k cap,e=.returned (.slice (some ⟨g,0,none⟩) k cap)/\k<=n+q+1/\Num w' (some ⟨g,0,none⟩) k cap (zIc x q r)/\Below w.heap.size w w':=by
 have hx:=h.2.2.1
 have zx:=h.2.2.2.1
 have hc:b<w.heap.size/\∀ i,i<n->w.cell? ⟨b,off+i,none⟩=some (.int .u64 (x i)):=by
  rcases h.2.2.2.2 with ⟨h,_⟩|⟨b',off',h,hbs,hc⟩
  ·cases h
  ·cases h;exact ⟨hbs,hc⟩
 obtain ⟨hbs,hc⟩:=hc
 have hcap:=h.1
 have hs6:s<6400064:=by omega
 obtain ⟨M,hM⟩:∃ M,n+q+1=M:=⟨_,rfl⟩
 have hMi:(n:Int)+q+1=(M:Int):=by omega
 have hmk:=fun w=>zUa ((n:Int)+q+1) M hMi (by omega) w
 have hfin:∀ (ss:Array Value) (m:Nat),ss.size=M->(∀ j h,ss[j]'h=Value.int .u64 (stL x q r n j))->Num ((w.alloc (.cells ss 22)).drewN m) (some ⟨w.heap.size,0,none⟩) M M (zIc x q r):=fun ss m h1 h2=>(zXa (by omega) (zJe hx q r) (fun i hi=>zEh hx zx q r (by omega) i (by omega)) h1 (fun j hj=>by rw [h2 j hj,zLl hx zx q r j (by omega)])).drewN m
 have HM:Hid (n+q+1=M):=hM
 have HZ:Hid ((arrOf (fun _=>0) M).size=M/\∀ j h,(arrOf (fun _=>0) M)[j]'h=Value.int .u64 0):=⟨arrOf_size _ _,fun j h=>zJa _ _ _ _⟩
 have hcw:∀ (ss:Array Value) i,i<n->(w.alloc (.cells ss 22)).cell? ⟨b,off+i,none⟩=some (.int .u64 (x i)):=fun ss i hi=>((zBa w _).cell (p:=⟨b,off+i,none⟩) hbs).trans (hc i hi)
 clear h zx hMi hc
 generalize arrOf (fun _=>0) M=zz at *
 go_enter Tryz.func87,Tryz.ntmps87
 go_wp2
 go_loopw [6,16] (fun u6 i wr=>∃ (k m:Nat) (ss:Array Value),k<=n/\i=.int .i64 k/\ss.size=M/\(∀ j h,ss[j]'h=Value.int .u64 (stL x q r k j))/\wr=(w.alloc (.cells ss 22)).drewN m) (fun _ i _=>n-(intOf i).toNat)
 case atStart=>exact ⟨0,0,zz,Nat.zero_le _,rfl,HZ.out.1,fun j h=>by rw [HZ.out.2 j h];unfold stL;(by_cases e:j<q+0);(rw [if_pos e];unfold zIc;rw [if_neg (by omega)]);(rw [if_neg e];split;(unfold zJf;rw [if_neg (by omega)]);rfl),rfl⟩
 case round =>
  obtain ⟨k,m,ss,hk,rfl,hsz,hss,rfl⟩:=hrel
  by_cases h8:k<n
  ·have h8i:(k:Int)<n:=by omega
   have h8s:k+q<ss.size:=by omega
   have h8t:(k:Int)+q<M:=by omega
   have h8u:(k:Int)+q+1<M:=by omega
   have bx:=hx k
   have hcx:=hcw ss k h8
   have hsk:ss[k+q]?=some (.int .u64 (zJf x q r (q+k))):=by rw [Array.getElem?_eq_getElem h8s,hss _ h8s];unfold stL;rw [if_neg (by omega),if_pos (by omega),Nat.add_comm]
   have hgo:∀ h,ss[k+q]'h=.int .u64 (zJf x q r (q+k)):=fun h=>by rw [hss _ h];unfold stL;rw [if_neg (by omega),if_pos (by omega),Nat.add_comm]
   have h8v:k+q+1<ss.size:=by omega
   have hsl:ss[k+q+1]?=some (.int .u64 0):=by rw [Array.getElem?_eq_getElem h8v,hss _ h8v];unfold stL;rw [if_neg (by omega),if_neg (by omega)]
   have hlow:=zHe hx q r (q+k)
   have e1:((k:Int)+q).toNat=k+q:=by omega
   have e2:((k:Int)+q+1).toNat=k+q+1:=by omega
   have HF:Hid (zIc x q r (q+k)=bits BinOp.or IntKind.u64 (zJf x q r (q+k)) (IntKind.u64.wrap (x k*2^r))):=by
    show _=_;unfold zIc;rw [if_pos (by omega),show q+k-q=k by omega];rfl
   have HR:Hid (∀ (i:Nat) (h:i<((ss.setIfInBounds (k+q) (.int .u64 (zIc x q r (q+k)))).setIfInBounds (k+q+1) (.int .u64 (x k/2^(64-r)))).size),((ss.setIfInBounds (k+q) (.int .u64 (zIc x q r (q+k)))).setIfInBounds (k+q+1) (.int .u64 (x k/2^(64-r))))[i]'h=Value.int .u64 (stL x q r (k+1) i)):=zYm hrp hss
   clear hss hfin hmk hx
   generalize hlo:zJf x q r (q+k)=lo at *
   have hcx':=hcw (ss.setIfInBounds (k+q) (.int .u64 (bits BinOp.or IntKind.u64 lo (IntKind.u64.wrap (x k*2^r))))) k h8
   clear hcw
   go_wp2
   go_region
   go_wp2
   go_roundw
   case rel=>refine ⟨k+1,m+1,(ss.setIfInBounds (k+q) (.int .u64 (zIc x q r (q+k)))).setIfInBounds (k+q+1) (.int .u64 (x k/2^(64-r))),by omega,by go_num,by simp [hsz],HR.out,?_⟩;rw [HF.out]
   case measure=>simp [intOf];omega
  ·obtain rfl:k=n:=by omega
   have hT:=zHb _ _ _ _ _ (by omega) (hfin ss m hsz hss)
   have hle:=zCa (zIc x q r) M
   clear hss hfin hmk hx hcw
   go_wp2_with (go_at_call 128;refine hT.mono ?_;rintro e w1 ⟨g,cap,rfl,hN,hB⟩)
   go_ret
   exact ⟨g,_,cap,rfl,Nat.le_trans hle (Nat.le_of_eq HM.out.symm),hN,(below_drewN (zBa w _) m).trans (hB.mono (by simp))⟩
end
section
attribute [local go_sem] zPa zAb
theorem zMw (x y:Int)(hx:0<=x/\x<=18446744073709551615)(hy:0<=y/\y<=18446744073709551615)(w:World) :
  Calls Tryz.prog 154 #[.int .u64 x,.int .u64 y] w fun e w'=>e=.returned (.tuple #[.int .u64 (x*y/18446744073709551616),.int .u64 (x*y%18446744073709551616)])/\w'=w:=by
 obtain ⟨a,rfl⟩:=Int.eq_ofNat_of_zero_le hx.1
 obtain ⟨b,rfl⟩:=Int.eq_ofNat_of_zero_le hy.1
 have h:=Tryz.bits_Mul64 a b (by omega) (by omega) w
 rw [Int.natCast_ediv,Int.natCast_emod,Int.natCast_mul] at h
 exact h
theorem zQj (x y:Int)(hx:0<=x)(hy:0<=y)(w:World):(callFunc 77 #[.int .u64 x,.int .u64 y,.int .u64 0]).run Tryz.prog w =
  .ok (.value (.tuple #[.int .u64 ((x+y)%18446744073709551616),.int .u64 ((x+y)/18446744073709551616)])) w:=by
 simpa using zCz x y 0 hx hy (Int.le_refl 0) (by decide) w
def mulC (x:Nat->Int)(n:Int):Nat->Int
 | 0=>0
 | k+1=>x k*n/18446744073709551616+(x k*n%18446744073709551616+mulC x n k)/18446744073709551616
def mulP (x:Nat->Int)(n:Int)(k:Nat):Int:=(x k*n%18446744073709551616+mulC x n k)%18446744073709551616
theorem mul_bd (a b c:Int)(ha:0<=a/\a<=18446744073709551615)(hb:0<=b/\b<=18446744073709551615)(hc:0<=c/\c<=18446744073709551615):0<=a*b/18446744073709551616+(a*b%18446744073709551616+c)/18446744073709551616/\a*b/18446744073709551616+(a*b%18446744073709551616+c)/18446744073709551616<=18446744073709551615:=by
 have h1:0<=a*b:=Int.mul_nonneg ha.1 hb.1
 have h2:a*b<=18446744073709551615*18446744073709551615:=Int.mul_le_mul ha.2 hb.2 hb.1 (by decide)
 generalize a*b=P at *
 omega
theorem zYg {x:Nat->Int}{n:Int}(hx:zDa x)(hn:0<=n/\n<=18446744073709551615):∀ k,0<=mulC x n k/\mulC x n k<=18446744073709551615
 | 0=>by simp [mulC]
 | k+1=>mul_bd _ _ _ (hx k) hn (zYg hx hn k)
theorem zOk (x:Nat->Int)(n:Int):zDa (mulP x n):=fun i=>⟨Int.emod_nonneg _ (by decide),by have:=Int.emod_lt_of_pos (x i*n%18446744073709551616+mulC x n i) (b:=18446744073709551616) (by decide);unfold mulP;omega⟩
theorem zLw (x:Nat->Int)(n:Int):∀ k,val (mulP x n) k+mulC x n k*18446744073709551616^k=val x k*n
 | 0=>by simp [val,mulC]
 | k+1=>by
  have ih:=zLw x n k
  have e1:mulP x n k+mulC x n (k+1)*18446744073709551616=x k*n+mulC x n k:=by
   simp only [mulP,mulC];generalize x k*n=P;omega
  simp only [val]
  rw [Int.pow_succ]
  generalize (18446744073709551616:Int)^k=p at *
  generalize mulC x n (k+1)=c' at *
  generalize mulP x n k=d at *
  have e2:d=x k*n+mulC x n k-c'*18446744073709551616:=by omega
  rw [e2]
  grind
end
theorem wrap3 {a e b R:Int}(h:a*4294967296+e-b=R)(h0:0<=R)(h1:R<=18446744073709551615):IntKind.u64.wrap (IntKind.u64.wrap (IntKind.u64.wrap (a*4294967296)+e)-IntKind.u64.wrap b)=R:=by
 simp only [IntKind.wrap,IntKind.bits,IntKind.signed]
 simp
 omega
theorem zSt (hi lo y Y d1 d0 u v e1 e0 Q1 R1 Q0 R0:Int)(S:Nat)(w:World)(hh:0<hi)(hl:0<=lo/\lo<=18446744073709551615)(hy:hi<y/\y<=18446744073709551615)(hS:S<64)
  (hlz:CQ 207 #[.int .u64 y] w (.int .i64 (S:Int)))
  (hY:IntKind.u64.wrap (y*2^S)=Y) (hd1:Y/4294967296=d1) (hd0:bits BinOp.and IntKind.u64 Y 4294967295=d0)
  (hu:bits BinOp.or IntKind.u64 (IntKind.u64.wrap (hi*2^S)) (lo/2^(64-S))=u) (hv:IntKind.u64.wrap (lo*2^S)=v) (he1:v/4294967296=e1) (he0:bits BinOp.and IntKind.u64 v 4294967295=e0)
  (D1:Dg u d1 d0 e1) (D0:Dg R1 d1 d0 e0) (hYe:Y=d1*4294967296+d0) (hY64:Y<=18446744073709551615)
  (hQ1:(u*4294967296+e1)/(d1*4294967296+d0)=Q1) (hR1:u*4294967296+e1-Q1*Y=R1) (hQ0:(R1*4294967296+e0)/(d1*4294967296+d0)=Q0) (hR0:R1*4294967296+e0-Q0*Y=R0) (hR0b:0<=R0/\R0<=18446744073709551615) :
  Calls Tryz.prog 170 #[.int .u64 hi,.int .u64 lo,.int .u64 y] w fun e w'=>e=.returned (.tuple #[.int .u64 (Q1*4294967296+Q0),.int .u64 (R0/2^S)])/\∃ m,w'=w.drewN m:=by
 have hy0:(y==0)=false:=by simp;omega
 have hh0:(hi==0)=false:=by simp;omega
 have f1:=D1.first
 have f0:=D0.first
 rw [hQ1] at f1
 rw [hQ0] at f0
 have d1p:=D1.a1
 have d1q:=D1.a2
 have d0p:=D1.b1
 have d0q:=D1.b2
 have e1p:=D1.e1
 have e1q:=D1.e2
 have e0p:=D0.e1
 have e0q:=D0.e2
 have up:=D1.u1
 have uq:u<=18446744073709551615:=by have:=D1.u2;omega
 have vp:=D0.u1
 have vq:R1<=18446744073709551615:=by have:=D0.u2;omega
 have hW1:IntKind.u64.wrap (IntKind.u64.wrap (IntKind.u64.wrap (u*4294967296)+e1)-IntKind.u64.wrap (Q1*Y))=R1:=wrap3 hR1 vp vq
 have hW0:IntKind.u64.wrap (IntKind.u64.wrap (IntKind.u64.wrap (R1*4294967296)+e0)-IntKind.u64.wrap (Q0*Y))=R0:=wrap3 hR0 hR0b.1 hR0b.2
 have HQ1:Hid ((u*4294967296+e1)/(d1*4294967296+d0)=Q1):=hQ1
 have HQ0:Hid ((R1*4294967296+e0)/(d1*4294967296+d0)=Q0):=hQ0
 have k1:Q1<4294967296:=by rw [← hQ1];exact D1.lt
 have k0:Q0<4294967296:=by rw [← hQ0];exact D0.lt
 have hq10:0<=Q1:=by rw [← hQ1];exact D1.nonneg
 have hq00:0<=Q0:=by rw [← hQ0];exact D0.nonneg
 clear hQ1 hYe hR1 hQ0 hR0
 obtain ⟨q,hq⟩:∃ q,u/d1=q:=⟨_,rfl⟩
 obtain ⟨r,hr⟩:∃ r,u%d1=r:=⟨_,rfl⟩
 rw [hq,hr] at f1
 obtain ⟨p2,hp2⟩:∃ q,R1/d1=q:=⟨_,rfl⟩
 obtain ⟨s2,hs2⟩:∃ r,R1%d1=r:=⟨_,rfl⟩
 rw [hp2,hs2] at f0
 obtain ⟨f1a,f1b,f1c,f1d,f1e⟩:=f1
 obtain ⟨f0a,f0b,f0c,f0d,f0e⟩:=f0
 have hqd0:0<=q*d1:=Int.mul_nonneg (by omega) (by omega)
 have hqd1:q*d1<=18446744073709551615:=by omega
 have hqr:u-q*d1=r:=by omega
 have hpd0:0<=p2*d1:=Int.mul_nonneg (by omega) (by omega)
 have hpd1:p2*d1<=18446744073709551615:=by omega
 have hpr:R1-p2*d1=s2:=by omega
 have F1A:Hid (q*d1+r=u):=f1a
 have F0A:Hid (p2*d1+s2=R1):=f0a
 have D1H:Hid (Dg u d1 d0 e1):=D1
 have D0H:Hid (Dg R1 d1 d0 e0):=D0
 clear f1a hr f0a hs2 D1 D0
 go_enter Tryz.func170,Tryz.ntmps170
 go_wp2_with (first|(go_at_call 207;refine hlz.mono ?_;rintro e w' ⟨rfl,rfl⟩))
 go_loop [15,16] (fun a b=>∃ q r,a=.int .u64 q/\b=.int .u64 r/\Hid (q*d1+r=u)/\Q1<=q/\q<=4294967297/\0<=r/\r<4294967296) (fun a _=>(intOf a).toNat)
 case atStart=>exact ⟨q,r,by first|rfl|rw [hq],rfl,F1A,f1b,f1c,f1d,f1e⟩
 case round =>
  clear f1b f1c f1d f1e hqd0 hqd1 F1A hqr
  obtain ⟨q1,r1,rfl,rfl,hqr,hge,hle,hr0,hr1⟩:=hrel
  have hm0:0<=q1*d0:=Int.mul_nonneg (by omega) d0p
  by_cases hbig:4294967296<=q1
  ·have hg1:Q1<=q1-1:=by have:=D1H.out.big' hbig;rw [HQ1.out] at this;exact this
   by_cases hb:r1+d1<4294967296
   ·go_wp2
    go_round
    case rel=>exact ⟨q1-1,r1+d1,rfl,rfl,by show _=_;rw [Int.sub_mul];have:=hqr.out;omega,hg1,by omega,by omega,hb⟩
    case measure=>simp [intOf];omega
   ·have hqq:q1-1=Q1:=by
     have:=D1H.out.right' (q:=q1-1) (r:=r1+d1) (by rw [Int.sub_mul];have:=hqr.out;omega) (by rw [HQ1.out];exact hg1) (by omega) (by omega)
     rw [HQ1.out] at this;exact this.symm
    go_wp2
    clear hqr hge hle hr0 hr1 hm0
    go_loop [18,16] (fun a b=>∃ q r,a=.int .u64 q/\b=.int .u64 r/\Hid (q*d1+r=R1)/\Q0<=q/\q<=4294967297/\0<=r/\r<4294967296) (fun a _=>(intOf a).toNat)
    case atStart=>exact ⟨p2,s2,by first|rfl|rw [hp2],rfl,F0A,f0b,f0c,f0d,f0e⟩
    case round =>
     clear f0b f0c f0d f0e hpd0 hpd1 F0A hpr
     obtain ⟨q3,r3,rfl,rfl,hqr,hge,hle,hr0,hr1⟩:=hrel
     have hm0:0<=q3*d0:=Int.mul_nonneg (by omega) d0p
     by_cases hbig:4294967296<=q3
     ·have hg1:Q0<=q3-1:=by have:=D0H.out.big' hbig;rw [HQ0.out] at this;exact this
      by_cases hb:r3+d1<4294967296
      ·go_wp2
       go_round
       case rel=>exact ⟨q3-1,r3+d1,rfl,rfl,by show _=_;rw [Int.sub_mul];have:=hqr.out;omega,hg1,by omega,by omega,hb⟩
       case measure=>simp [intOf];omega
      ·have hqq:q3-1=Q0:=by
        have:=D0H.out.right' (q:=q3-1) (r:=r3+d1) (by rw [Int.sub_mul];have:=hqr.out;omega) (by rw [HQ0.out];exact hg1) (by omega) (by omega)
        rw [HQ0.out] at this;exact this.symm
       go_wp2
       go_ret2
       exact ⟨rfl,0,rfl⟩
     ·have hsm:q3<4294967296:=by omega
      have hm1:q3*d0<=4294967295*4294967295:=Int.mul_le_mul (by omega) (by omega) d0p (by decide)
      by_cases ht:4294967296*r3+e0<q3*d0
      ·have hg1:Q0<=q3-1:=by have:=D0H.out.big hqr.out ht;rw [HQ0.out] at this;exact this
       by_cases hb:r3+d1<4294967296
       ·go_wp2
        go_round
        case rel=>exact ⟨q3-1,r3+d1,rfl,rfl,by show _=_;rw [Int.sub_mul];have:=hqr.out;omega,hg1,by omega,by omega,hb⟩
        case measure=>simp [intOf];omega
       ·have hqq:q3-1=Q0:=by
         have:=D0H.out.right' (q:=q3-1) (r:=r3+d1) (by rw [Int.sub_mul];have:=hqr.out;omega) (by rw [HQ0.out];exact hg1) (by omega) (by omega)
         rw [HQ0.out] at this;exact this.symm
        go_wp2
        go_ret2
        exact ⟨rfl,0,rfl⟩
      ·obtain rfl:Q0=q3:=by
        have:=D0H.out.right hqr.out (by rw [HQ0.out];exact hge) (by omega)
        rw [HQ0.out] at this;exact this
       go_wp2
       go_ret2
       exact ⟨rfl,0,rfl⟩
  ·have hsm:q1<4294967296:=by omega
   have hm1:q1*d0<=4294967295*4294967295:=Int.mul_le_mul (by omega) (by omega) d0p (by decide)
   by_cases ht:4294967296*r1+e1<q1*d0
   ·have hg1:Q1<=q1-1:=by have:=D1H.out.big hqr.out ht;rw [HQ1.out] at this;exact this
    by_cases hb:r1+d1<4294967296
    ·go_wp2
     go_round
     case rel=>exact ⟨q1-1,r1+d1,rfl,rfl,by show _=_;rw [Int.sub_mul];have:=hqr.out;omega,hg1,by omega,by omega,hb⟩
     case measure=>simp [intOf];omega
    ·have hqq:q1-1=Q1:=by
      have:=D1H.out.right' (q:=q1-1) (r:=r1+d1) (by rw [Int.sub_mul];have:=hqr.out;omega) (by rw [HQ1.out];exact hg1) (by omega) (by omega)
      rw [HQ1.out] at this;exact this.symm
     go_wp2
     clear hqr hge hle hr0 hr1 hm0
     go_loop [18,16] (fun a b=>∃ q r,a=.int .u64 q/\b=.int .u64 r/\Hid (q*d1+r=R1)/\Q0<=q/\q<=4294967297/\0<=r/\r<4294967296) (fun a _=>(intOf a).toNat)
     case atStart=>exact ⟨p2,s2,by first|rfl|rw [hp2],rfl,F0A,f0b,f0c,f0d,f0e⟩
     case round =>
      clear f0b f0c f0d f0e hpd0 hpd1 F0A hpr
      obtain ⟨q3,r3,rfl,rfl,hqr,hge,hle,hr0,hr1⟩:=hrel
      have hm0:0<=q3*d0:=Int.mul_nonneg (by omega) d0p
      by_cases hbig:4294967296<=q3
      ·have hg1:Q0<=q3-1:=by have:=D0H.out.big' hbig;rw [HQ0.out] at this;exact this
       by_cases hb:r3+d1<4294967296
       ·go_wp2
        go_round
        case rel=>exact ⟨q3-1,r3+d1,rfl,rfl,by show _=_;rw [Int.sub_mul];have:=hqr.out;omega,hg1,by omega,by omega,hb⟩
        case measure=>simp [intOf];omega
       ·have hqq:q3-1=Q0:=by
         have:=D0H.out.right' (q:=q3-1) (r:=r3+d1) (by rw [Int.sub_mul];have:=hqr.out;omega) (by rw [HQ0.out];exact hg1) (by omega) (by omega)
         rw [HQ0.out] at this;exact this.symm
        go_wp2
        go_ret2
        exact ⟨rfl,0,rfl⟩
      ·have hsm:q3<4294967296:=by omega
       have hm1:q3*d0<=4294967295*4294967295:=Int.mul_le_mul (by omega) (by omega) d0p (by decide)
       by_cases ht:4294967296*r3+e0<q3*d0
       ·have hg1:Q0<=q3-1:=by have:=D0H.out.big hqr.out ht;rw [HQ0.out] at this;exact this
        by_cases hb:r3+d1<4294967296
        ·go_wp2
         go_round
         case rel=>exact ⟨q3-1,r3+d1,rfl,rfl,by show _=_;rw [Int.sub_mul];have:=hqr.out;omega,hg1,by omega,by omega,hb⟩
         case measure=>simp [intOf];omega
        ·have hqq:q3-1=Q0:=by
          have:=D0H.out.right' (q:=q3-1) (r:=r3+d1) (by rw [Int.sub_mul];have:=hqr.out;omega) (by rw [HQ0.out];exact hg1) (by omega) (by omega)
          rw [HQ0.out] at this;exact this.symm
         go_wp2
         go_ret2
         exact ⟨rfl,0,rfl⟩
       ·obtain rfl:Q0=q3:=by
         have:=D0H.out.right hqr.out (by rw [HQ0.out];exact hge) (by omega)
         rw [HQ0.out] at this;exact this
        go_wp2
        go_ret2
        exact ⟨rfl,0,rfl⟩
   ·obtain rfl:Q1=q1:=by
     have:=D1H.out.right hqr.out (by rw [HQ1.out];exact hge) (by omega)
     rw [HQ1.out] at this;exact this
    go_wp2
    clear hqr hge hle hr0 hr1 hm0
    go_loop [18,16] (fun a b=>∃ q r,a=.int .u64 q/\b=.int .u64 r/\Hid (q*d1+r=R1)/\Q0<=q/\q<=4294967297/\0<=r/\r<4294967296) (fun a _=>(intOf a).toNat)
    case atStart=>exact ⟨p2,s2,by first|rfl|rw [hp2],rfl,F0A,f0b,f0c,f0d,f0e⟩
    case round =>
     clear f0b f0c f0d f0e hpd0 hpd1 F0A hpr
     obtain ⟨q3,r3,rfl,rfl,hqr,hge,hle,hr0,hr1⟩:=hrel
     have hm0:0<=q3*d0:=Int.mul_nonneg (by omega) d0p
     by_cases hbig:4294967296<=q3
     ·have hg1:Q0<=q3-1:=by have:=D0H.out.big' hbig;rw [HQ0.out] at this;exact this
      by_cases hb:r3+d1<4294967296
      ·go_wp2
       go_round
       case rel=>exact ⟨q3-1,r3+d1,rfl,rfl,by show _=_;rw [Int.sub_mul];have:=hqr.out;omega,hg1,by omega,by omega,hb⟩
       case measure=>simp [intOf];omega
      ·have hqq:q3-1=Q0:=by
        have:=D0H.out.right' (q:=q3-1) (r:=r3+d1) (by rw [Int.sub_mul];have:=hqr.out;omega) (by rw [HQ0.out];exact hg1) (by omega) (by omega)
        rw [HQ0.out] at this;exact this.symm
       go_wp2
       go_ret2
       exact ⟨rfl,0,rfl⟩
     ·have hsm:q3<4294967296:=by omega
      have hm1:q3*d0<=4294967295*4294967295:=Int.mul_le_mul (by omega) (by omega) d0p (by decide)
      by_cases ht:4294967296*r3+e0<q3*d0
      ·have hg1:Q0<=q3-1:=by have:=D0H.out.big hqr.out ht;rw [HQ0.out] at this;exact this
       by_cases hb:r3+d1<4294967296
       ·go_wp2
        go_round
        case rel=>exact ⟨q3-1,r3+d1,rfl,rfl,by show _=_;rw [Int.sub_mul];have:=hqr.out;omega,hg1,by omega,by omega,hb⟩
        case measure=>simp [intOf];omega
       ·have hqq:q3-1=Q0:=by
         have:=D0H.out.right' (q:=q3-1) (r:=r3+d1) (by rw [Int.sub_mul];have:=hqr.out;omega) (by rw [HQ0.out];exact hg1) (by omega) (by omega)
         rw [HQ0.out] at this;exact this.symm
        go_wp2
        go_ret2
        exact ⟨rfl,0,rfl⟩
      ·obtain rfl:Q0=q3:=by
        have:=D0H.out.right hqr.out (by rw [HQ0.out];exact hge) (by omega)
        rw [HQ0.out] at this;exact this
       go_wp2
       go_ret2
       exact ⟨rfl,0,rfl⟩
def dlG (n:Nat):Nat:=n/100/8*4+n/10%10/8*2+n%10/8
def dlR (g:Nat):Nat×Nat×Nat :=
 if g=0 then (10,11,22) else if g=1 then (10,11,4) else if g=2 then (10,12,5) else if g=4 then (12,11,6) else if g=3 then (10,2,7) else if g=5 then (11,1,7) else if g=6 then (12,0,7) else (0,3,7)
def dlT (n r:Nat):Nat:=if 10<=r then (if r%10=0 then n/100 else if r%10=1 then n/10%10 else n%10)/2%4 else r
def dlE (n:Nat):Nat:=dlT n (dlR (dlG n)).1*256+n/100%2*128+dlT n (dlR (dlG n)).2.1*32+n/10%10%2*16+dlT n (dlR (dlG n)).2.2*2+n%10%2
def dlM (d n:Nat):Bool:=dlE n==d||(d/32%4==3&&d/2%8==7&&dlE n==d%256)
def dlD (d:Nat):Nat :=
 let a:=d/128;let b:=d/16%8;let x:=d%2
 let p:=d/256;let q:=d/128%2;let s:=d/32%4;let t:=d/16%2
 if d/8%2=0 then a*100+b*10+d%8
 else if d/2%4=0 then a*100+b*10+(8+x)
 else if d/2%4=1 then a*100+(8+t)*10+(s*2+x)
 else if d/2%4=2 then (8+q)*100+b*10+(p*2+x)
 else if s=0 then (8+q)*100+(8+t)*10+(p*2+x)
 else if s=1 then (8+q)*100+(p*2+t)*10+(8+x)
 else if s=2 then a*100+(8+t)*10+(8+x)
 else (8+q)*100+(8+t)*10+(8+x)
def upTo (f:Nat->Bool):Nat->Bool
 | 0=>true
 | i+1=>f i&&upTo f i
theorem zRe {f:Nat->Bool}:∀ {m:Nat},upTo f m=true->∀ i,i<m->f i=true
 | 0,_,i,hi=>absurd hi (Nat.not_lt_zero i)
 | m+1,h,i,hi=>by
  unfold upTo at h
  rw [Bool.and_eq_true] at h
  rcases Nat.lt_succ_iff_lt_or_eq.1 hi with h1|h1
  ·exact zRe h.2 i h1
  ·rw [h1];exact h.1
theorem zMj:∀ n,n<1000->dlD (dlE n)=n/\dlE n<1024:=fun n hn=>by
 have h:=zRe (f:=fun n=>decide (dlD (dlE n)=n/\dlE n<1024)) (m:=1000) (by decide +kernel) n hn
 exact of_decide_eq_true h
theorem zOi:∀ d,d<1024->dlD d<1000/\dlM d (dlD d)=true/\(d/32%4=3->d/2%8=7->dlD (d%256)=dlD d):=fun d hd=>by
 have h:=zRe (f:=fun d=>decide (dlD d<1000/\dlM d (dlD d)=true/\(d/32%4=3->d/2%8=7->dlD (d%256)=dlD d))) (m:=1024) (by decide +kernel) d hd
 exact of_decide_eq_true h
/-! declets in a row -/
def dlP:Nat->Nat->Nat
 | 0,_=>0
 | c+1,a=>dlE (a%1000)+1024*dlP c (a/1000)
def dlU:Nat->Nat->Nat
 | 0,_=>0
 | c+1,b=>dlD (b%1024)+1000*dlU c (b/1024)
theorem zTk:∀ (c a:Nat),dlP c a<1024^c
 | 0,a=>by unfold dlP;decide
 | c+1,a=>by
  unfold dlP
  have h1:=(zMj (a%1000) (Nat.mod_lt _ (by decide))).2
  have h2:=zTk c (a/1000)
  rw [Nat.pow_succ]
  omega
theorem zRx:∀ (c b:Nat),dlU c b<1000^c
 | 0,b=>by unfold dlU;decide
 | c+1,b=>by
  unfold dlU
  have h1:=(zOi (b%1024) (Nat.mod_lt _ (by decide))).1
  have h2:=zRx c (b/1024)
  rw [Nat.pow_succ]
  omega
def dPv (C:Nat)(n:Int):Nat:=if 0<=n/\n<=11 then (if C<1000^n.toNat then dlP n.toNat C else 0) else 0
def dPe (C:Nat)(n:Int):Int:=if 0<=n/\n<=11 then (if C<1000^n.toNat then 0 else 3) else 1
def dUv (B:Nat)(n:Int):Nat:=if 0<=n/\n<=11 then (if B<1024^n.toNat then dlU n.toNat B else 0) else 0
def dUe (B:Nat)(n:Int):Int:=if 0<=n/\n<=11 then (if B<1024^n.toNat then 0 else 3) else 1
theorem zEm:∀ (c a:Nat),dlP (c+1) a=dlP c a+dlE (a/1000^c%1000)*1024^c
 | 0,a=>by
  show dlE (a%1000)+1024*dlP 0 (a/1000)=dlP 0 a+_
  rw [show dlP 0 (a/1000)=0 from rfl,show dlP 0 a=0 from rfl]
  simp
 | c+1,a=>by
  show dlE (a%1000)+1024*dlP (c+1) (a/1000)=(dlE (a%1000)+1024*dlP c (a/1000))+_
  rw [zEm c (a/1000),Nat.div_div_eq_div_mul,show 1000*1000^c=1000^(c+1) by rw [Nat.pow_succ,Nat.mul_comm],Nat.pow_succ 1024 c,Nat.mul_add,Nat.mul_comm 1024 (dlE _*_),Nat.mul_assoc,Nat.add_assoc]
theorem zSx (c a:Nat)(hc:c<=11):dlP c a<2^256:=by
 have h:=zTk c a
 have h2:(1024:Nat)^c<=1024^11:=Nat.pow_le_pow_right (by decide) hc
 have h3:(1024:Nat)^11<2^256:=by decide
 omega
theorem zY2:∀ (c b:Nat),dlU (c+1) b=dlU c (b/1024)*1000+dlD (b%1024):=fun c b=>by
 show dlD (b%1024)+1000*dlU c (b/1024)=_
 omega
theorem dlG_lt {n:Nat}(hn:n<1000):dlG n<8:=by
 unfold dlG;omega
theorem row_v (g:Nat)(hg:g<8)(w:World):CB 192 #[.int .i64 (g:Int)] w (.agg #[.int .i64 ((dlR g).1:Int),.int .i64 ((dlR g).2.1:Int),.int .i64 ((dlR g).2.2:Int)]):=by
 have h:g=0∨g=1∨g=2∨g=3∨g=4∨g=5∨g=6∨g=7:=by omega
 rcases h with rfl|rfl|rfl|rfl|rfl|rfl|rfl|rfl
 all_goals (
  go_enter Tryz.func192,Tryz.ntmps192
  go_wp2
  exact bodyPost_ret (by simp only [results,Tryz.results192];go_simp;exact ⟨rfl,rfl,rfl⟩) rfl ⟨rfl,bgo⟩)
end Go.Proofs.YtahfkpjhlbiamaaGreatDoor
