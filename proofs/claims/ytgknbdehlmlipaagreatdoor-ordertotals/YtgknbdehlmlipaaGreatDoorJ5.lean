/-
  Texts that the proof leans on.
-/
import Derived.Shelf.Strings.Trim
import Derived.Shelf.Small.Utf8
import Derived.Shelf.Small.Bits
import Derived.Shelf.Small.Strs
import Derived.Shelf.Small.Wraps
import Derived.Shelf.Strconv.Itoa0
import Derived.Shelf.Strconv.Itoa1
import Derived.Shelf.LaysM
import Derived.Shelf.Strconv.Itoa2
import Derived.Shelf.Strconv.Itoa3
import Derived.Shelf.Strconv.Clone
import Derived.Shelf.Strings.Search1
import Derived.Shelf.Strconv.AppendUint10
import Derived.Shelf.Strconv.AppendInt10
import Derived.Shelf.Strconv.AppendIntPublic10
import Derived.Shelf.Strings.Prefix
import Derived.Shelf.Strings.Runes
import Derived.Shelf.Strings.AsciiSet
import Derived.Shelf.Bits.Mul64
import Derived.Shelf.Unicode.DecodeSlow
import Derived.Test.YtgknbdehlmlipaaGreatDoorProg
import Derived.Test.YtgknbdehlmlipaaGreatDoorRows
import Derived.WalkKit
import Derived.WalkSpells
import Derived.WalkLawsBesides
set_option maxHeartbeats 8000000
set_option linter.unusedVariables false
set_option linter.unusedSectionVars false
set_option linter.unusedSimpArgs false
set_option maxRecDepth 20000
namespace Go.Proofs
open Go.Shelf
def Tryz.lays125_ren:Go.Shelf.Ren:=⟨fun|125=>132|128=>161|129=>58|n=>n,fun|46=>81|3=>3|51=>173|53=>22|4=>4|5=>5|9=>9|n=>n,fun|n=>n⟩
theorem Tryz.lays125:Go.Proofs.Lays.n125 Tryz.prog Tryz.lays125_ren:={
 mixed:=by kernel_rfl
 f125:=Tryz.func132.trans (congrArg some (by kernel_rfl))
 f128:=Tryz.func161.trans (congrArg some (by kernel_rfl))
 f129:=Tryz.func58.trans (congrArg some (by kernel_rfl))
 t3:=Tryz.underlying3
 a3:=Tryz.isAgg3
 z3:=Tryz.sizeOf3
 v3:=Tryz.zeroValue3
 t4:=Tryz.underlying4
 a4:=Tryz.isAgg4
 z4:=Tryz.sizeOf4
 v4:=Tryz.zeroValue4
 t5:=Tryz.underlying5
 a5:=Tryz.isAgg5
 z5:=Tryz.sizeOf5
 v5:=Tryz.zeroValue5
 t9:=Tryz.underlying9
 a9:=Tryz.isAgg9
 z9:=Tryz.sizeOf9
 v9:=Tryz.zeroValue9
 t46:=Tryz.underlying81
 a46:=Tryz.isAgg81
 z46:=Tryz.sizeOf81
 v46:=Tryz.zeroValue81
 t51:=Tryz.underlying173
 a51:=Tryz.isAgg173
 z51:=Tryz.sizeOf173
 v51:=Tryz.zeroValue173
 t53:=Tryz.underlying22
 a53:=Tryz.isAgg22
 z53:=Tryz.sizeOf22
 v53:=Tryz.zeroValue22 }
theorem Tryz.bits_Len (x:Int)(w:World)(h0:0<=x)(h1:x<=18446744073709551615) :
  Calls Tryz.prog 132 #[.int .u64 x] w fun e w'=>e=.returned (.int .i64 (Lib.bitLen x.toNat))/\w'=w:=Any.bits_Len Tryz.lays125 x w h0 h1
def Tryz.lays134_ren:Go.Shelf.Ren:=⟨fun|134=>151|129=>58|n=>n,fun|53=>22|3=>3|4=>4|46=>81|5=>5|9=>9|n=>n,fun|n=>n⟩
theorem Tryz.lays134:Go.Proofs.Lays.n134 Tryz.prog Tryz.lays134_ren:={
 mixed:=by kernel_rfl
 f129:=Tryz.func58.trans (congrArg some (by kernel_rfl))
 f134:=Tryz.func151.trans (congrArg some (by kernel_rfl))
 t3:=Tryz.underlying3
 a3:=Tryz.isAgg3
 z3:=Tryz.sizeOf3
 v3:=Tryz.zeroValue3
 t4:=Tryz.underlying4
 a4:=Tryz.isAgg4
 z4:=Tryz.sizeOf4
 v4:=Tryz.zeroValue4
 t5:=Tryz.underlying5
 a5:=Tryz.isAgg5
 z5:=Tryz.sizeOf5
 v5:=Tryz.zeroValue5
 t9:=Tryz.underlying9
 a9:=Tryz.isAgg9
 z9:=Tryz.sizeOf9
 v9:=Tryz.zeroValue9
 t46:=Tryz.underlying81
 a46:=Tryz.isAgg81
 z46:=Tryz.sizeOf81
 v46:=Tryz.zeroValue81
 t53:=Tryz.underlying22
 a53:=Tryz.isAgg22
 z53:=Tryz.sizeOf22
 v53:=Tryz.zeroValue22 }
theorem Tryz.bits_LeadingZeros64 (x:Int)(w:World)(h0:0<=x)(h1:x<=18446744073709551615) :
  Calls Tryz.prog 151 #[.int .u64 x] w fun e w'=>e=.returned (.int .i64 (64-(Lib.bitLen x.toNat:Int)))/\w'=w:=Any.bits_LeadingZeros64 Tryz.lays134 x w h0 h1
def Tryz.lays129_ren:Go.Shelf.Ren:=⟨fun|129=>58|n=>n,fun|53=>22|3=>3|4=>4|46=>81|5=>5|9=>9|n=>n,fun|n=>n⟩
theorem Tryz.lays129:Go.Proofs.Lays.n129 Tryz.prog Tryz.lays129_ren:={
 mixed:=by kernel_rfl
 f129:=Tryz.func58.trans (congrArg some (by kernel_rfl))
 t3:=Tryz.underlying3
 a3:=Tryz.isAgg3
 z3:=Tryz.sizeOf3
 v3:=Tryz.zeroValue3
 t4:=Tryz.underlying4
 a4:=Tryz.isAgg4
 z4:=Tryz.sizeOf4
 v4:=Tryz.zeroValue4
 t5:=Tryz.underlying5
 a5:=Tryz.isAgg5
 z5:=Tryz.sizeOf5
 v5:=Tryz.zeroValue5
 t9:=Tryz.underlying9
 a9:=Tryz.isAgg9
 z9:=Tryz.sizeOf9
 v9:=Tryz.zeroValue9
 t46:=Tryz.underlying81
 a46:=Tryz.isAgg81
 z46:=Tryz.sizeOf81
 v46:=Tryz.zeroValue81
 t53:=Tryz.underlying22
 a53:=Tryz.isAgg22
 z53:=Tryz.sizeOf22
 v53:=Tryz.zeroValue22 }
theorem Tryz.bits_Len64 (x:Int)(w:World)(h0:0<=x)(h1:x<=18446744073709551615) :
  Calls Tryz.prog 58 #[.int .u64 x] w fun e w'=>e=.returned (.int .i64 (Lib.bitLen x.toNat))/\w'=w:=Any.bits_Len64 Tryz.lays129 x w h0 h1
def Tryz.lays264_ren:Go.Shelf.Ren:=⟨fun|264=>59|n=>n,fun|53=>22|46=>81|n=>n,fun|n=>n⟩
theorem Tryz.lays264:Go.Proofs.Lays.n264 Tryz.prog Tryz.lays264_ren:={
 mixed:=by kernel_rfl
 f264:=Tryz.func59.trans (congrArg some (by kernel_rfl))
 t46:=Tryz.underlying81
 a46:=Tryz.isAgg81
 z46:=Tryz.sizeOf81
 v46:=Tryz.zeroValue81
 t53:=Tryz.underlying22
 a53:=Tryz.isAgg22
 z53:=Tryz.sizeOf22
 v53:=Tryz.zeroValue22 }
open Go.RowKit Go.Lib in
theorem Tryz.bits_Mul64 (x y:Nat)(hx:x<18446744073709551616)(hy:y<18446744073709551616)(w:World) :
  Calls Tryz.prog 59 #[.int .u64 x,.int .u64 y] w fun e w'=>e=.returned (.tuple #[.int .u64 ((x*y/18446744073709551616:Nat):Int),.int .u64 ((x*y%18446744073709551616:Nat):Int)])/\w'=w:=Any.bits_Mul64 Tryz.lays264 x y hx hy w
end Go.Proofs

namespace Go.Proofs.YtgknbdehlmlipaaGreatDoor
open Go.RowKit
def sizeL (x:Nat->Int):Nat->Nat
 | 0=>0
 | n+1=>if x n=0 then sizeL x n else n+1
theorem sizeL_le (x:Nat->Int)(n:Nat):sizeL x n<=n:=by
 induction n with
 | zero=>simp [sizeL]
 | succ n ih=>simp only [sizeL];split<;>omega
theorem ret_int {k:IntKind}{a b:Int}(h:a=b):Ending.returned (.int k a)=.returned (.int k b):=by rw [h]
theorem size_any (b off n c:Nat)(x:Nat->Int)(w:World)(hn:n<9223372036854775808)(hc:∀ i,i<n->w.cell? ⟨b,off+i,none⟩=some (.int .u64 (x i))) :
  Calls Tryz.prog 57 #[.slice (some ⟨b,off,none⟩) n c] w fun e w'=>e=.returned (.int .i64 (sizeL x n))/\w'=w:=by
 go_enter Tryz.func57,Tryz.ntmps57
 go_wp2
 go_loop [3] (fun t=>∃ k:Nat,k<=n/\sizeL x k=sizeL x n/\t=.int .i64 k) (fun t=>(intOf t).toNat)
 case atStart=>exact ⟨n,Nat.le_refl _,rfl,rfl⟩
 case round =>
  obtain ⟨k,hk,hs,rfl⟩:=hrel
  by_cases h0:k=0
  ·subst h0
   go_wp2
   go_ret
   exact ⟨ret_int (by rw [← hs];rfl),rfl⟩
  ·obtain ⟨j,rfl⟩:∃ j,k=j+1:=⟨k-1,by omega⟩
   have hcj:=hc j (by omega)
   by_cases hz:x j=0
   ·have HS:Hid (sizeL x j=sizeL x n):=by
     have:sizeL x (j+1)=sizeL x j:=by simp [sizeL,hz]
     exact this.symm.trans hs
    clear hs
    go_wp2
    go_round
    case rel=>exact ⟨j,by omega,HS.out,by go_num⟩
    case measure=>simp [intOf]
   ·have HS:Hid (((j:Int)+1)=(sizeL x n:Nat)):=by
     have:sizeL x (j+1)=j+1:=by simp [sizeL,hz]
     show _=_
     rw [← hs,this];omega
    clear hs
    go_wp2
    go_ret
    exact ⟨ret_int (by exact HS.out),rfl⟩
theorem size_nil (w:World) :
  Calls Tryz.prog 57 #[.slice none 0 0] w fun e w'=>e=.returned (.int .i64 0)/\w'=w:=by
 go_enter Tryz.func57,Tryz.ntmps57
 go_wp2
 go_loop [3] (fun t=>t=.int .i64 0) (fun t=>(intOf t).toNat)
 case atStart=>rfl
 case round =>
  subst hrel
  go_wp2
  go_ret
  exact ⟨rfl,rfl⟩
def lenL (x:Nat->Int)(n:Nat):Int:=if sizeL x n=0 then 0 else 64*(sizeL x n:Int)-64+Lib.bitLen (x (sizeL x n-1)).toNat
theorem bitLenAux_le:∀ f x:Nat,Lib.bitLenAux f x<=f
 | 0,x=>by simp [Lib.bitLenAux]
 | f+1,x=>by
  have:=bitLenAux_le f (x/2)
  simp only [Lib.bitLenAux];split<;>omega
theorem bitLen64 (x:Nat):Lib.bitLen x<=64:=bitLenAux_le 64 x
theorem len_any (b off n c:Nat)(x:Nat->Int)(w:World)(hn:n<100000000)(hx:∀ i,0<=x i/\x i<=18446744073709551615)(hc:∀ i,i<n->w.cell? ⟨b,off+i,none⟩=some (.int .u64 (x i))) :
  Calls Tryz.prog 23 #[.slice (some ⟨b,off,none⟩) n c] w fun e w'=>e=.returned (.int .i64 (lenL x n))/\w'=w:=by
 have hle:=sizeL_le x n
 by_cases h0:sizeL x n=0
 ·have HL:Hid (lenL x n=0):=by show _=_;simp [lenL,h0]
  have hs:Calls Tryz.prog 57 #[.slice (some ⟨b,off,none⟩) n c] w fun e w'=>e=.returned (.int .i64 0)/\w'=w:=by
   have:=size_any b off n c x w (by omega) hc
   rw [h0] at this;exact this
  clear h0 hc hx
  go_enter Tryz.func23,Tryz.ntmps23
  go_wp2_with (go_at_call 57;refine hs.mono ?_;rintro e w' ⟨rfl,rfl⟩)
  go_ret
  exact ⟨ret_int HL.out.symm,rfl⟩
 ·obtain ⟨j,hj⟩:∃ j,sizeL x n=j+1:=⟨sizeL x n-1,by omega⟩
  have hs:=size_any b off n c x w (by omega) hc
  have HL:Hid (lenL x n=64*(j:Int)+Lib.bitLen (x j).toNat):=by show _=_;simp [lenL,hj];omega
  rw [hj] at hs
  have hcj:=hc j (by omega)
  have hb:=hx j
  have hbl:=bitLen64 (x j).toNat
  have hj':j+1<=n:=by omega
  clear h0 hc hx hj hle
  have hcl:=Tryz.bits_Len64 (x j) w hb.1 hb.2
  generalize Lib.bitLen (x j).toNat=L at *
  go_enter Tryz.func23,Tryz.ntmps23
  go_wp2_with (first|(go_at_call 57;refine hs.mono ?_;rintro e w' ⟨rfl,rfl⟩)|(go_at_call 58;refine hcl.mono ?_;rintro e w' ⟨rfl,rfl⟩))
  go_ret
  exact ⟨ret_int (by rw [HL.out];omega),rfl⟩
end Go.Proofs.YtgknbdehlmlipaaGreatDoor

namespace Go.Proofs.YtgknbdehlmlipaaGreatDoor
def val (x:Nat->Int):Nat->Int
 | 0=>0
 | n+1=>val x n+x n*18446744073709551616^n
theorem val_congr {x y:Nat->Int}:∀ n,(∀ i,i<n->x i=y i)->val x n=val y n
 | 0,_=>rfl
 | n+1,h=>by simp only [val];rw [val_congr n fun i hi=>h i (by omega),h n (by omega)]
theorem pw_pos (n:Nat):(0:Int)<18446744073709551616^n:=Int.pow_pos (by decide)
theorem val_bd {x:Nat->Int}(hx:∀ i,0<=x i/\x i<=18446744073709551615):∀ n,0<=val x n/\val x n<18446744073709551616^n
 | 0=>by simp [val]
 | n+1=>by
  have ih:=val_bd hx n
  have hb:=hx n
  have hp:=pw_pos n
  simp only [val]
  have h1:0<=x n*18446744073709551616^n:=Int.mul_nonneg hb.1 (Int.le_of_lt hp)
  have h2:x n*18446744073709551616^n<=18446744073709551615*18446744073709551616^n:=Int.mul_le_mul_of_nonneg_right hb.2 (Int.le_of_lt hp)
  rw [Int.pow_succ]
  omega
theorem val_set (x:Nat->Int)(p:Nat)(v:Int):∀ n,p<n->val (fun i=>if i=p then v else x i) n=val x n+(v-x p)*18446744073709551616^p
 | 0,h=>by omega
 | n+1,h=>by
  simp only [val]
  by_cases e:n=p
  ·subst e
   rw [if_pos rfl,val_congr (y:=x) n fun i hi=>if_neg (by omega),Int.sub_mul];omega
  ·rw [if_neg e,val_set x p v n (by omega)];omega
theorem val_inj {x y:Nat->Int}(hx:∀ i,0<=x i/\x i<=18446744073709551615)(hy:∀ i,0<=y i/\y i<=18446744073709551615):∀ n,val x n=val y n->∀ i,i<n->x i=y i
 | 0,_,i,hi=>by omega
 | n+1,h,i,hi=>by
  simp only [val] at h
  have bx:=val_bd hx n
  have b_y:=val_bd hy n
  have hp:=pw_pos n
  have e1:(val x n+x n*18446744073709551616^n)/18446744073709551616^n=x n:=by
   rw [Int.add_mul_ediv_right _ _ (Int.ne_of_gt hp),Int.ediv_eq_zero_of_lt bx.1 bx.2];omega
  have e2:(val y n+y n*18446744073709551616^n)/18446744073709551616^n=y n:=by
   rw [Int.add_mul_ediv_right _ _ (Int.ne_of_gt hp),Int.ediv_eq_zero_of_lt b_y.1 b_y.2];omega
  have e3:x n=y n:=by rw [← e1,← e2,h]
  by_cases e:i=n
  ·subst e;exact e3
  ·rw [e3] at h
   exact val_inj hx hy n (by omega) i (by omega)
theorem val_more {x:Nat->Int}{n:Nat}(hz:∀ i,n<=i->x i=0):∀ m,n<=m->val x m=val x n
  | 0, h => by obtain rfl : n = 0 := by omega
               rfl
  | m+1,h=>by
    by_cases e:n=m+1
    · rw [e]
    · simp only [val];rw [val_more hz m (by omega),hz m (by omega)];omega
theorem mul_step (a b z c:Int)(ha:0<=a/\a<=18446744073709551615)(hb:0<=b/\b<=18446744073709551615)(hz:0<=z/\z<=18446744073709551615)(hc:0<=c/\c<=18446744073709551615) :
  ((a*b%18446744073709551616+z)%18446744073709551616+c)%18446744073709551616+(a*b/18446744073709551616+(a*b%18446744073709551616+z)/18446744073709551616+((a*b%18446744073709551616+z)%18446744073709551616+c)/18446744073709551616)*18446744073709551616=a*b+z+c /\
  0<=a*b/18446744073709551616+(a*b%18446744073709551616+z)/18446744073709551616/\a*b/18446744073709551616+(a*b%18446744073709551616+z)/18446744073709551616<=18446744073709551615 /\
  0<=a*b/18446744073709551616+(a*b%18446744073709551616+z)/18446744073709551616+((a*b%18446744073709551616+z)%18446744073709551616+c)/18446744073709551616/\a*b/18446744073709551616+(a*b%18446744073709551616+z)/18446744073709551616+((a*b%18446744073709551616+z)%18446744073709551616+c)/18446744073709551616<=18446744073709551615:=by
 have h1:0<=a*b:=Int.mul_nonneg ha.1 hb.1
 have h2:a*b<=18446744073709551615*18446744073709551615:=Int.mul_le_mul ha.2 hb.2 hb.1 (by decide)
 generalize a*b=P at *
 omega
theorem mul_inner (V Vi a vb b z c s hi:Int)(i k:Nat)(h:V+c*18446744073709551616^(i+k)=Vi+a*vb*18446744073709551616^i)(hs:s+hi*18446744073709551616=a*b+z+c) :
  V+(s-z)*18446744073709551616^(i+k)+hi*18446744073709551616^(i+(k+1))=Vi+a*(vb+b*18446744073709551616^k)*18446744073709551616^i:=by
 have e1:s=a*b+z+c-hi*18446744073709551616:=by omega
 have e2:(18446744073709551616:Int)^(i+(k+1))=18446744073709551616^(i+k)*18446744073709551616:=by rw [← Int.pow_succ];rfl
 have e3:(18446744073709551616:Int)^(i+k)=18446744073709551616^i*18446744073709551616^k:=Int.pow_add ..
 rw [e1,e2]
 rw [e3] at h ⊢
 generalize (18446744073709551616:Int)^i=p at *
 generalize (18446744073709551616:Int)^k=q at *
 grind
end Go.Proofs.YtgknbdehlmlipaaGreatDoor
