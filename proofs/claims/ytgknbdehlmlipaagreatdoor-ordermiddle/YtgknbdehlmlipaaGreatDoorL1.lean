/-
  Texts that the proof leans on.
-/
import Derived.Shelf.Strings.Trim
import Derived.Shelf.Small.Utf8
import Derived.Shelf.Small.Bits
import Derived.Shelf.Small.Strs
import Derived.Shelf.Small.Wraps
import Derived.Shelf.Strconv.Itoa0
import Derived.Shelf.Strconv.Itoa1
import Derived.Shelf.LaysM
import Derived.Shelf.Strconv.Itoa2
import Derived.Shelf.Strconv.Itoa3
import Derived.Shelf.Strconv.Clone
import Derived.Shelf.Strings.Search1
import Derived.Shelf.Strconv.AppendUint10
import Derived.Shelf.Strconv.AppendInt10
import Derived.Shelf.Strconv.AppendIntPublic10
import Derived.Shelf.Strings.Prefix
import Derived.Shelf.Strings.Runes
import Derived.Shelf.Strings.AsciiSet
import Derived.Shelf.Bits.Mul64
import Derived.Shelf.Unicode.DecodeSlow
import Derived.Test.YtgknbdehlmlipaaGreatDoorProg
import Derived.Test.YtgknbdehlmlipaaGreatDoorRows
import Derived.WalkKit
import Derived.WalkSpells
import Derived.WalkLawsBesides
import Derived.Laws.Externs
set_option maxHeartbeats 8000000
set_option linter.unusedVariables false
set_option linter.unusedSectionVars false
set_option linter.unusedSimpArgs false
set_option maxRecDepth 20000
namespace Go.Proofs
open Go.Shelf
def Tryz.lays125_ren:Go.Shelf.Ren:=⟨fun|125=>132|128=>161|129=>58|n=>n,fun|46=>81|3=>3|51=>173|53=>22|4=>4|5=>5|9=>9|n=>n,fun|n=>n⟩
theorem Tryz.lays125:Go.Proofs.Lays.n125 Tryz.prog Tryz.lays125_ren:={
 mixed:=by kernel_rfl
 f125:=Tryz.func132.trans (congrArg some (by kernel_rfl))
 f128:=Tryz.func161.trans (congrArg some (by kernel_rfl))
 f129:=Tryz.func58.trans (congrArg some (by kernel_rfl))
 t3:=Tryz.underlying3
 a3:=Tryz.isAgg3
 z3:=Tryz.sizeOf3
 v3:=Tryz.zeroValue3
 t4:=Tryz.underlying4
 a4:=Tryz.isAgg4
 z4:=Tryz.sizeOf4
 v4:=Tryz.zeroValue4
 t5:=Tryz.underlying5
 a5:=Tryz.isAgg5
 z5:=Tryz.sizeOf5
 v5:=Tryz.zeroValue5
 t9:=Tryz.underlying9
 a9:=Tryz.isAgg9
 z9:=Tryz.sizeOf9
 v9:=Tryz.zeroValue9
 t46:=Tryz.underlying81
 a46:=Tryz.isAgg81
 z46:=Tryz.sizeOf81
 v46:=Tryz.zeroValue81
 t51:=Tryz.underlying173
 a51:=Tryz.isAgg173
 z51:=Tryz.sizeOf173
 v51:=Tryz.zeroValue173
 t53:=Tryz.underlying22
 a53:=Tryz.isAgg22
 z53:=Tryz.sizeOf22
 v53:=Tryz.zeroValue22 }
theorem Tryz.bits_Len (x:Int)(w:World)(h0:0<=x)(h1:x<=18446744073709551615) :
  Calls Tryz.prog 132 #[.int .u64 x] w fun e w'=>e=.returned (.int .i64 (Lib.bitLen x.toNat))/\w'=w:=Any.bits_Len Tryz.lays125 x w h0 h1
def Tryz.lays134_ren:Go.Shelf.Ren:=⟨fun|134=>151|129=>58|n=>n,fun|53=>22|3=>3|4=>4|46=>81|5=>5|9=>9|n=>n,fun|n=>n⟩
theorem Tryz.lays134:Go.Proofs.Lays.n134 Tryz.prog Tryz.lays134_ren:={
 mixed:=by kernel_rfl
 f129:=Tryz.func58.trans (congrArg some (by kernel_rfl))
 f134:=Tryz.func151.trans (congrArg some (by kernel_rfl))
 t3:=Tryz.underlying3
 a3:=Tryz.isAgg3
 z3:=Tryz.sizeOf3
 v3:=Tryz.zeroValue3
 t4:=Tryz.underlying4
 a4:=Tryz.isAgg4
 z4:=Tryz.sizeOf4
 v4:=Tryz.zeroValue4
 t5:=Tryz.underlying5
 a5:=Tryz.isAgg5
 z5:=Tryz.sizeOf5
 v5:=Tryz.zeroValue5
 t9:=Tryz.underlying9
 a9:=Tryz.isAgg9
 z9:=Tryz.sizeOf9
 v9:=Tryz.zeroValue9
 t46:=Tryz.underlying81
 a46:=Tryz.isAgg81
 z46:=Tryz.sizeOf81
 v46:=Tryz.zeroValue81
 t53:=Tryz.underlying22
 a53:=Tryz.isAgg22
 z53:=Tryz.sizeOf22
 v53:=Tryz.zeroValue22 }
theorem Tryz.bits_LeadingZeros64 (x:Int)(w:World)(h0:0<=x)(h1:x<=18446744073709551615) :
  Calls Tryz.prog 151 #[.int .u64 x] w fun e w'=>e=.returned (.int .i64 (64-(Lib.bitLen x.toNat:Int)))/\w'=w:=Any.bits_LeadingZeros64 Tryz.lays134 x w h0 h1
def Tryz.lays129_ren:Go.Shelf.Ren:=⟨fun|129=>58|n=>n,fun|53=>22|3=>3|4=>4|46=>81|5=>5|9=>9|n=>n,fun|n=>n⟩
theorem Tryz.lays129:Go.Proofs.Lays.n129 Tryz.prog Tryz.lays129_ren:={
 mixed:=by kernel_rfl
 f129:=Tryz.func58.trans (congrArg some (by kernel_rfl))
 t3:=Tryz.underlying3
 a3:=Tryz.isAgg3
 z3:=Tryz.sizeOf3
 v3:=Tryz.zeroValue3
 t4:=Tryz.underlying4
 a4:=Tryz.isAgg4
 z4:=Tryz.sizeOf4
 v4:=Tryz.zeroValue4
 t5:=Tryz.underlying5
 a5:=Tryz.isAgg5
 z5:=Tryz.sizeOf5
 v5:=Tryz.zeroValue5
 t9:=Tryz.underlying9
 a9:=Tryz.isAgg9
 z9:=Tryz.sizeOf9
 v9:=Tryz.zeroValue9
 t46:=Tryz.underlying81
 a46:=Tryz.isAgg81
 z46:=Tryz.sizeOf81
 v46:=Tryz.zeroValue81
 t53:=Tryz.underlying22
 a53:=Tryz.isAgg22
 z53:=Tryz.sizeOf22
 v53:=Tryz.zeroValue22 }
theorem Tryz.bits_Len64 (x:Int)(w:World)(h0:0<=x)(h1:x<=18446744073709551615) :
  Calls Tryz.prog 58 #[.int .u64 x] w fun e w'=>e=.returned (.int .i64 (Lib.bitLen x.toNat))/\w'=w:=Any.bits_Len64 Tryz.lays129 x w h0 h1
def Tryz.lays264_ren:Go.Shelf.Ren:=⟨fun|264=>59|n=>n,fun|53=>22|46=>81|n=>n,fun|n=>n⟩
theorem Tryz.lays264:Go.Proofs.Lays.n264 Tryz.prog Tryz.lays264_ren:={
 mixed:=by kernel_rfl
 f264:=Tryz.func59.trans (congrArg some (by kernel_rfl))
 t46:=Tryz.underlying81
 a46:=Tryz.isAgg81
 z46:=Tryz.sizeOf81
 v46:=Tryz.zeroValue81
 t53:=Tryz.underlying22
 a53:=Tryz.isAgg22
 z53:=Tryz.sizeOf22
 v53:=Tryz.zeroValue22 }
open Go.RowKit Go.Lib in
theorem Tryz.bits_Mul64 (x y:Nat)(hx:x<18446744073709551616)(hy:y<18446744073709551616)(w:World) :
  Calls Tryz.prog 59 #[.int .u64 x,.int .u64 y] w fun e w'=>e=.returned (.tuple #[.int .u64 ((x*y/18446744073709551616:Nat):Int),.int .u64 ((x*y%18446744073709551616:Nat):Int)])/\w'=w:=Any.bits_Mul64 Tryz.lays264 x y hx hy w
end Go.Proofs

namespace Go.Proofs.YtgknbdehlmlipaaGreatDoor
open Go.RowKit
def sizeL (x:Nat->Int):Nat->Nat
 | 0=>0
 | n+1=>if x n=0 then sizeL x n else n+1
theorem sizeL_le (x:Nat->Int)(n:Nat):sizeL x n<=n:=by
 induction n with
 | zero=>simp [sizeL]
 | succ n ih=>simp only [sizeL];split<;>omega
theorem ret_int {k:IntKind}{a b:Int}(h:a=b):Ending.returned (.int k a)=.returned (.int k b):=by rw [h]
theorem size_any (b off n c:Nat)(x:Nat->Int)(w:World)(hn:n<9223372036854775808)(hc:∀ i,i<n->w.cell? ⟨b,off+i,none⟩=some (.int .u64 (x i))) :
  Calls Tryz.prog 57 #[.slice (some ⟨b,off,none⟩) n c] w fun e w'=>e=.returned (.int .i64 (sizeL x n))/\w'=w:=by
 go_enter Tryz.func57,Tryz.ntmps57
 go_wp2
 go_loop [3] (fun t=>∃ k:Nat,k<=n/\sizeL x k=sizeL x n/\t=.int .i64 k) (fun t=>(intOf t).toNat)
 case atStart=>exact ⟨n,Nat.le_refl _,rfl,rfl⟩
 case round =>
  obtain ⟨k,hk,hs,rfl⟩:=hrel
  by_cases h0:k=0
  ·subst h0
   go_wp2
   go_ret
   exact ⟨ret_int (by rw [← hs];rfl),rfl⟩
  ·obtain ⟨j,rfl⟩:∃ j,k=j+1:=⟨k-1,by omega⟩
   have hcj:=hc j (by omega)
   by_cases hz:x j=0
   ·have HS:Hid (sizeL x j=sizeL x n):=by
     have:sizeL x (j+1)=sizeL x j:=by simp [sizeL,hz]
     exact this.symm.trans hs
    clear hs
    go_wp2
    go_round
    case rel=>exact ⟨j,by omega,HS.out,by go_num⟩
    case measure=>simp [intOf]
   ·have HS:Hid (((j:Int)+1)=(sizeL x n:Nat)):=by
     have:sizeL x (j+1)=j+1:=by simp [sizeL,hz]
     show _=_
     rw [← hs,this];omega
    clear hs
    go_wp2
    go_ret
    exact ⟨ret_int (by exact HS.out),rfl⟩
theorem size_nil (w:World) :
  Calls Tryz.prog 57 #[.slice none 0 0] w fun e w'=>e=.returned (.int .i64 0)/\w'=w:=by
 go_enter Tryz.func57,Tryz.ntmps57
 go_wp2
 go_loop [3] (fun t=>t=.int .i64 0) (fun t=>(intOf t).toNat)
 case atStart=>rfl
 case round =>
  subst hrel
  go_wp2
  go_ret
  exact ⟨rfl,rfl⟩
def lenL (x:Nat->Int)(n:Nat):Int:=if sizeL x n=0 then 0 else 64*(sizeL x n:Int)-64+Lib.bitLen (x (sizeL x n-1)).toNat
theorem bitLenAux_le:∀ f x:Nat,Lib.bitLenAux f x<=f
 | 0,x=>by simp [Lib.bitLenAux]
 | f+1,x=>by
  have:=bitLenAux_le f (x/2)
  simp only [Lib.bitLenAux];split<;>omega
theorem bitLen64 (x:Nat):Lib.bitLen x<=64:=bitLenAux_le 64 x
theorem len_any (b off n c:Nat)(x:Nat->Int)(w:World)(hn:n<100000000)(hx:∀ i,0<=x i/\x i<=18446744073709551615)(hc:∀ i,i<n->w.cell? ⟨b,off+i,none⟩=some (.int .u64 (x i))) :
  Calls Tryz.prog 23 #[.slice (some ⟨b,off,none⟩) n c] w fun e w'=>e=.returned (.int .i64 (lenL x n))/\w'=w:=by
 have hle:=sizeL_le x n
 by_cases h0:sizeL x n=0
 ·have HL:Hid (lenL x n=0):=by show _=_;simp [lenL,h0]
  have hs:Calls Tryz.prog 57 #[.slice (some ⟨b,off,none⟩) n c] w fun e w'=>e=.returned (.int .i64 0)/\w'=w:=by
   have:=size_any b off n c x w (by omega) hc
   rw [h0] at this;exact this
  clear h0 hc hx
  go_enter Tryz.func23,Tryz.ntmps23
  go_wp2_with (go_at_call 57;refine hs.mono ?_;rintro e w' ⟨rfl,rfl⟩)
  go_ret
  exact ⟨ret_int HL.out.symm,rfl⟩
 ·obtain ⟨j,hj⟩:∃ j,sizeL x n=j+1:=⟨sizeL x n-1,by omega⟩
  have hs:=size_any b off n c x w (by omega) hc
  have HL:Hid (lenL x n=64*(j:Int)+Lib.bitLen (x j).toNat):=by show _=_;simp [lenL,hj];omega
  rw [hj] at hs
  have hcj:=hc j (by omega)
  have hb:=hx j
  have hbl:=bitLen64 (x j).toNat
  have hj':j+1<=n:=by omega
  clear h0 hc hx hj hle
  have hcl:=Tryz.bits_Len64 (x j) w hb.1 hb.2
  generalize Lib.bitLen (x j).toNat=L at *
  go_enter Tryz.func23,Tryz.ntmps23
  go_wp2_with (first|(go_at_call 57;refine hs.mono ?_;rintro e w' ⟨rfl,rfl⟩)|(go_at_call 58;refine hcl.mono ?_;rintro e w' ⟨rfl,rfl⟩))
  go_ret
  exact ⟨ret_int (by rw [HL.out];omega),rfl⟩
def arrOf (f:Nat->Int)(n:Nat):Array Value:=((List.range n).map fun i=>Value.int .u64 (f i)).toArray
@[simp] theorem arrOf_size (f:Nat->Int) (n:Nat):(arrOf f n).size=n:=by simp [arrOf]
theorem arrOf_get (f:Nat->Int)(n i:Nat)(h:i<(arrOf f n).size):(arrOf f n)[i]'h=.int .u64 (f i):=by simp [arrOf]
theorem arrOf_get? (f:Nat->Int)(n i:Nat)(h:i<n):(arrOf f n)[i]?=some (.int .u64 (f i)):=by simp [arrOf,h]
theorem arrOf_set (f:Nat->Int)(n k:Nat)(v:Int):(arrOf f n).setIfInBounds k (.int .u64 v)=arrOf (fun i=>if i=k then v else f i) n:=by
 apply Array.ext
 ·simp
 ·intro i h1 h2
  rw [Array.getElem_setIfInBounds]
  simp only [arrOf_get]
  by_cases h:k=i
  ·subst h;simp
  ·simp [h,Ne.symm h];exact arrOf_get _ _ _ _
  simpa using h2
theorem arrOf_congr {f g:Nat->Int}{n:Nat}(h:∀ i,i<n->f i=g i):arrOf f n=arrOf g n:=by
 apply Array.ext
 ·simp
 ·intro i h1 h2
  simp only [arrOf_get]
  rw [h i (by simpa using h1)]
theorem arrOf_of (cs:Array Value)(n:Nat)(f:Nat->Int)(hs:cs.size=n)(h:∀ i,i<n->cs[i]?=some (.int .u64 (f i))):cs=arrOf f n:=by
 apply Array.ext
 ·simp [hs]
 ·intro i h1 h2
  rw [arrOf_get]
  have:=h i (by omega)
  rw [Array.getElem?_eq_getElem h1] at this
  exact Option.some.inj this
theorem add64 (x y c:Int)(hx:0<=x)(hy:0<=y)(hc0:0<=c)(hc:c<=1)(w:World):(callFunc 54 #[.int .u64 x,.int .u64 y,.int .u64 c]).run Tryz.prog w =
  .ok (.value (.tuple #[.int .u64 ((x+y+c)%18446744073709551616),.int .u64 ((x+y+c)/18446744073709551616)])) w:=by
 rw [run_callFunc_extern Tryz.func54 (by kernel_rfl) (by kernel_rfl) (by kernel_rfl) (e:=add64Entry) (by kernel_rfl),run_add64 x y c hx hy hc0 hc]
 rfl
def sub64E:Array Value->Sem Value:=fun args=>do
 let (x,y,b) ← Extern.MathBitsCarry.three "Sub64" args
 pure (Extern.MathBitsCarry.pair ((x+Extern.MathBitsCarry.m64-y-b)%Extern.MathBitsCarry.m64) (if x<y+b then 1 else 0))
theorem run_sub64E (x y b:Nat)(hb:b<=1)(w:World) :
  (sub64E #[.int .u64 x,.int .u64 y,.int .u64 b]).run Tryz.prog w =
   .ok (.tuple #[.int .u64 (((x+18446744073709551616-y-b)%18446744073709551616:Nat):Int),.int .u64 ((if x<y+b then 1 else 0:Nat):Int)]) w:=by
 have:b=0∨b=1:=by omega
 rcases this with rfl|rfl<;>rfl
def bor (x y b:Int):Int:=if x<y+b then 1 else 0
theorem sub64 (x y b:Int)(hx:0<=x)(hy:0<=y)(hy':y<18446744073709551616)(hb0:0<=b)(hb:b<=1)(w:World):(callFunc 88 #[.int .u64 x,.int .u64 y,.int .u64 b]).run Tryz.prog w =
  .ok (.value (.tuple #[.int .u64 ((x-y-b)%18446744073709551616),.int .u64 (bor x y b)])) w:=by
 obtain ⟨x,rfl⟩:=Int.eq_ofNat_of_zero_le hx
 obtain ⟨y,rfl⟩:=Int.eq_ofNat_of_zero_le hy
 obtain ⟨b,rfl⟩:=Int.eq_ofNat_of_zero_le hb0
 have e1:(((x+18446744073709551616-y-b)%18446744073709551616:Nat):Int)=((x:Int)-y-b)%18446744073709551616:=by omega
 have e2:((if x<y+b then 1 else 0:Nat):Int)=bor x y b:=by unfold bor;split<;>split<;>omega
 rw [run_callFunc_extern Tryz.func88 (by kernel_rfl) (by kernel_rfl) (by kernel_rfl) (e:=sub64E) (by kernel_rfl),run_sub64E x y b (by omega),← e1,← e2]
 rfl
section
def wiN (c:Bool)(a b:Nat):Bool:=decide (a<b)||(decide (a=b)&&c)
def rsN (R Z:Nat):Nat->Nat
 | 0=>R
 | k+1=>10*(rsN R Z k%Z)
def unK (c:Bool)(R d Z k:Nat):Bool:=wiN c (rsN R Z k%Z) (10^k*d)
def ovK (c:Bool)(R u Z k:Nat):Bool:=wiN c (Z-rsN R Z k%Z) (10^k*u)
def stK (c:Bool)(R d u Z k:Nat):Bool:=unK c R d Z k||ovK c R u Z k
section
variable {c:Bool}{R d u Z:Nat}(hZ:0<Z)
include hZ
theorem un_big {k:Nat}(h:Z<=10^k*d):stK c R d u Z k=true:=by
 unfold stK unK wiN
 have:=Nat.mod_lt (rsN R Z k) hZ
 have:rsN R Z k%Z<10^k*d:=by omega
 simp [this]
theorem st_ex (hd:0<d):∃ K,stK c R d u Z K=true/\∀ k,k<K->stK c R d u Z k=false:=by
 have h1:∃ K,stK c R d u Z K=true:=⟨Z,un_big hZ (by
  have h1:Z<10^Z:=Nat.lt_pow_self (by decide)
  have h2:10^Z*1<=10^Z*d:=Nat.mul_le_mul_left _ hd
  omega)⟩
 obtain ⟨K,hK⟩:=h1
 induction K using Nat.strongRecOn with
 | ind K ih =>
  by_cases h:∃ k,k<K/\stK c R d u Z k=true
  ·obtain ⟨k,h1,h2⟩:=h
   exact ih k h1 h2
  ·refine ⟨K,hK,fun k hk=>?_⟩
   cases hh:stK c R d u Z k
   ·rfl
   ·exact absurd ⟨k,hk,hh⟩ h
end
def zE (x e:Int):Nat:=4*2^(-x).toNat*10^e.toNat
def oE (x e:Int):Nat:=2^x.toNat*10^(-e).toNat
theorem zE_pos (x e:Int):0<zE x e:=Nat.mul_pos (Nat.mul_pos (by decide) (Nat.two_pow_pos _)) (Nat.pow_pos (by decide))
theorem oE_pos (x e:Int):0<oE x e:=Nat.mul_pos (Nat.two_pow_pos _) (Nat.pow_pos (by decide))
def tnP (c:Nat)(x e:Int):Prop:=zE x e<=4*c*oE x e
theorem ten_le_two {t p:Nat}(h:196*t<=59*p):10^t<=2^p:=by
 rcases Nat.lt_or_ge (2^p) (10^t) with h1|h1
 ·exfalso
  have h2:(2^p)^59<(10^t)^59:=Nat.pow_lt_pow_left h1 (by decide)
  have h3:(10^59)^t<=(2^196)^t:=Nat.pow_le_pow_left (by decide) t
  have h4:2^(196*t)<=2^(59*p):=Nat.pow_le_pow_right (by decide) h
  have e1:((2:Nat)^p)^59=2^(59*p):=by rw [← Nat.pow_mul,Nat.mul_comm]
  have e2:((10:Nat)^t)^59=(10^59)^t:=by rw [← Nat.pow_mul,← Nat.pow_mul,Nat.mul_comm]
  have e3:((2:Nat)^196)^t=2^(196*t):=by rw [← Nat.pow_mul]
  rw [e1,e2] at h2
  rw [e3] at h3
  omega
 ·exact h1
theorem big_ten:(2:Nat)^100000<=10^30103:=by decide +kernel
theorem two_le_ten_n {n m t q:Nat}(hn:n≠0)(hb:(2:Nat)^n<=10^m)(h:m*q<=n*t):2^q<=10^t:=by
 rcases Nat.lt_or_ge (10^t) (2^q) with h1|h1
 ·exfalso
  have h2:(10^t)^n<(2^q)^n:=Nat.pow_lt_pow_left h1 hn
  have h3:(2^n)^q<=(10^m)^q:=Nat.pow_le_pow_left hb q
  have h4:10^(m*q)<=10^(n*t):=Nat.pow_le_pow_right (by decide) h
  have e1:((10:Nat)^t)^n=10^(n*t):=by rw [← Nat.pow_mul,Nat.mul_comm]
  have e2:((2:Nat)^q)^n=(2^n)^q:=by rw [← Nat.pow_mul,← Nat.pow_mul,Nat.mul_comm]
  have e3:((10:Nat)^m)^q=10^(m*q):=by rw [← Nat.pow_mul]
  rw [e1,e2] at h2
  rw [e3] at h3
  omega
 ·exact h1
theorem two_le_ten {t q:Nat}(h:30103*q<=100000*t):2^q<=10^t:=two_le_ten_n (by decide) big_ten h
theorem guess_ok {c L:Nat}{x:Int}(hL:2^L<=c)(hb:-20000<=(L:Int)+x/\(L:Int)+x<=20000):tnP c x ((((L:Int)+x)*30103).tdiv 100000-1):=by
 have hq:(((L:Int)+x)*30103).tdiv 100000=if 0<=(L:Int)+x then (((L:Int)+x)*30103)/100000 else -((-((L:Int)+x)*30103)/100000):=by
  split
  ·rw [Int.tdiv_eq_ediv_of_nonneg (by omega)]
  ·rw [show ((L:Int)+x)*30103=-(-((L:Int)+x)*30103) by omega,Int.neg_tdiv,Int.tdiv_eq_ediv_of_nonneg (by omega)]
 generalize hg:(((L:Int)+x)*30103).tdiv 100000-1=g at *
 unfold tnP zE oE
 rw [Nat.mul_assoc 4,Nat.mul_assoc 4]
 refine Nat.mul_le_mul_left 4 ?_
 by_cases hg0:0<=g
 ·have hp:0<=(L:Int)+x:=by
   rcases Int.lt_or_le ((L:Int)+x) 0 with h|h
   ·rw [if_neg (by omega)] at hq;omega
   ·exact h
  rw [if_pos hp] at hq
  have h1:10^g.toNat<=2^((L:Int)+x).toNat:=ten_le_two (by omega)
  rw [show (-g).toNat=0 by omega,Nat.pow_zero,Nat.mul_one]
  by_cases hx:0<=x
  ·rw [show (-x).toNat=0 by omega,Nat.pow_zero,Nat.one_mul]
   rw [show ((L:Int)+x).toNat=L+x.toNat by omega,Nat.pow_add] at h1
   exact Nat.le_trans h1 (Nat.mul_le_mul_right _ hL)
  ·rw [show x.toNat=0 by omega,Nat.pow_zero,Nat.mul_one]
   have h2:=Nat.mul_le_mul_left (2^(-x).toNat) h1
   rw [← Nat.pow_add,show (-x).toNat+((L:Int)+x).toNat=L by omega] at h2
   exact Nat.le_trans h2 hL
 ·rw [show g.toNat=0 by omega,Nat.pow_zero,Nat.mul_one]
  by_cases hp:0<=(L:Int)+x
  ·have h1:2^(-x).toNat<=c*2^x.toNat:=by
    by_cases hx:0<=x
    ·rw [show (-x).toNat=0 by omega,Nat.pow_zero]
     have:=Nat.two_pow_pos L
     exact Nat.mul_pos (by omega) (Nat.two_pow_pos _)
    ·rw [show x.toNat=0 by omega,Nat.pow_zero,Nat.mul_one]
     exact Nat.le_trans (Nat.pow_le_pow_right (by decide) (by omega)) hL
   rw [← Nat.mul_assoc]
   exact Nat.le_trans h1 (Nat.le_mul_of_pos_right _ (Nat.pow_pos (by decide)))
  ·rw [if_neg hp] at hq
   have h1:2^(-((L:Int)+x)).toNat<=10^(-g).toNat:=two_le_ten (by omega)
   rw [show x.toNat=0 by omega,Nat.pow_zero,Nat.one_mul]
   rw [show (-x).toNat=L+(-((L:Int)+x)).toNat by omega,Nat.pow_add]
   exact Nat.mul_le_mul hL h1
end
end Go.Proofs.YtgknbdehlmlipaaGreatDoor
