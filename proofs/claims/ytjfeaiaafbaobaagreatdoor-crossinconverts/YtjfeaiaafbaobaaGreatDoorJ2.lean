/-
  Texts that the proof leans on.
-/
import Derived.Shelf.Strings.Trim
import Derived.Shelf.Small.Utf8
import Derived.Shelf.Small.Bits
import Derived.Shelf.Small.Strs
import Derived.Shelf.Small.Wraps
import Derived.Shelf.Strconv.Itoa0
import Derived.Shelf.Strconv.Itoa1
import Derived.Shelf.LaysM
import Derived.Shelf.Strconv.Itoa2
import Derived.Shelf.Strconv.Itoa3
import Derived.Shelf.Strconv.Clone
import Derived.Shelf.Strings.Search1
import Derived.Shelf.Strconv.AppendUint10
import Derived.Shelf.Strconv.AppendInt10
import Derived.Shelf.Strconv.AppendIntPublic10
import Derived.Shelf.Strings.Prefix
import Derived.Shelf.Strings.Runes
import Derived.Shelf.Strings.AsciiSet
import Derived.Shelf.Bits.Mul64
import Derived.Shelf.Unicode.DecodeSlow
import Derived.Test.YtjfeaiaafbaobaaGreatDoorProg
import Derived.Test.YtjfeaiaafbaobaaGreatDoorRows
import Derived.WalkKit
import Derived.WalkSpells
import Derived.WalkLawsBesides
import Derived.RowKit
import Derived.Deep.QuietTactic
import Derived.BigQuiet
import Derived.Lib.Strings
import Derived.Laws.IdiomStrings
set_option maxHeartbeats 8000000
set_option linter.unusedVariables false
set_option linter.unusedSectionVars false
set_option linter.unusedSimpArgs false
set_option maxRecDepth 20000
namespace Go.Proofs
open Go.Shelf
def Tryz.lays125_ren:Go.Shelf.Ren:=⟨fun|125=>107|128=>165|129=>134|n=>n,fun|46=>64|3=>3|51=>30|53=>22|4=>4|5=>5|9=>9|n=>n,fun|n=>n⟩
theorem Tryz.lays125:Go.Proofs.Lays.n125 Tryz.prog Tryz.lays125_ren:={
 mixed:=by kernel_rfl
 f125:=Tryz.func107.trans (congrArg some (by kernel_rfl))
 f128:=Tryz.func165.trans (congrArg some (by kernel_rfl))
 f129:=Tryz.func134.trans (congrArg some (by kernel_rfl))
 t3:=Tryz.underlying3
 a3:=Tryz.isAgg3
 z3:=Tryz.sizeOf3
 v3:=Tryz.zeroValue3
 t4:=Tryz.underlying4
 a4:=Tryz.isAgg4
 z4:=Tryz.sizeOf4
 v4:=Tryz.zeroValue4
 t5:=Tryz.underlying5
 a5:=Tryz.isAgg5
 z5:=Tryz.sizeOf5
 v5:=Tryz.zeroValue5
 t9:=Tryz.underlying9
 a9:=Tryz.isAgg9
 z9:=Tryz.sizeOf9
 v9:=Tryz.zeroValue9
 t46:=Tryz.underlying64
 a46:=Tryz.isAgg64
 z46:=Tryz.sizeOf64
 v46:=Tryz.zeroValue64
 t51:=Tryz.underlying30
 a51:=Tryz.isAgg30
 z51:=Tryz.sizeOf30
 v51:=Tryz.zeroValue30
 t53:=Tryz.underlying22
 a53:=Tryz.isAgg22
 z53:=Tryz.sizeOf22
 v53:=Tryz.zeroValue22 }
theorem Tryz.bits_Len (x:Int)(w:World)(h0:0<=x)(h1:x<=18446744073709551615) :
  Calls Tryz.prog 107 #[.int .u64 x] w fun e w'=>e=.returned (.int .i64 (Lib.bitLen x.toNat))/\w'=w:=Any.bits_Len Tryz.lays125 x w h0 h1
def Tryz.lays134_ren:Go.Shelf.Ren:=⟨fun|134=>177|129=>134|n=>n,fun|53=>22|3=>3|4=>4|46=>64|5=>5|9=>9|n=>n,fun|n=>n⟩
theorem Tryz.lays134:Go.Proofs.Lays.n134 Tryz.prog Tryz.lays134_ren:={
 mixed:=by kernel_rfl
 f129:=Tryz.func134.trans (congrArg some (by kernel_rfl))
 f134:=Tryz.func177.trans (congrArg some (by kernel_rfl))
 t3:=Tryz.underlying3
 a3:=Tryz.isAgg3
 z3:=Tryz.sizeOf3
 v3:=Tryz.zeroValue3
 t4:=Tryz.underlying4
 a4:=Tryz.isAgg4
 z4:=Tryz.sizeOf4
 v4:=Tryz.zeroValue4
 t5:=Tryz.underlying5
 a5:=Tryz.isAgg5
 z5:=Tryz.sizeOf5
 v5:=Tryz.zeroValue5
 t9:=Tryz.underlying9
 a9:=Tryz.isAgg9
 z9:=Tryz.sizeOf9
 v9:=Tryz.zeroValue9
 t46:=Tryz.underlying64
 a46:=Tryz.isAgg64
 z46:=Tryz.sizeOf64
 v46:=Tryz.zeroValue64
 t53:=Tryz.underlying22
 a53:=Tryz.isAgg22
 z53:=Tryz.sizeOf22
 v53:=Tryz.zeroValue22 }
theorem Tryz.bits_LeadingZeros64 (x:Int)(w:World)(h0:0<=x)(h1:x<=18446744073709551615) :
  Calls Tryz.prog 177 #[.int .u64 x] w fun e w'=>e=.returned (.int .i64 (64-(Lib.bitLen x.toNat:Int)))/\w'=w:=Any.bits_LeadingZeros64 Tryz.lays134 x w h0 h1
def Tryz.lays129_ren:Go.Shelf.Ren:=⟨fun|129=>134|n=>n,fun|53=>22|3=>3|4=>4|46=>64|5=>5|9=>9|n=>n,fun|n=>n⟩
theorem Tryz.lays129:Go.Proofs.Lays.n129 Tryz.prog Tryz.lays129_ren:={
 mixed:=by kernel_rfl
 f129:=Tryz.func134.trans (congrArg some (by kernel_rfl))
 t3:=Tryz.underlying3
 a3:=Tryz.isAgg3
 z3:=Tryz.sizeOf3
 v3:=Tryz.zeroValue3
 t4:=Tryz.underlying4
 a4:=Tryz.isAgg4
 z4:=Tryz.sizeOf4
 v4:=Tryz.zeroValue4
 t5:=Tryz.underlying5
 a5:=Tryz.isAgg5
 z5:=Tryz.sizeOf5
 v5:=Tryz.zeroValue5
 t9:=Tryz.underlying9
 a9:=Tryz.isAgg9
 z9:=Tryz.sizeOf9
 v9:=Tryz.zeroValue9
 t46:=Tryz.underlying64
 a46:=Tryz.isAgg64
 z46:=Tryz.sizeOf64
 v46:=Tryz.zeroValue64
 t53:=Tryz.underlying22
 a53:=Tryz.isAgg22
 z53:=Tryz.sizeOf22
 v53:=Tryz.zeroValue22 }
theorem Tryz.bits_Len64 (x:Int)(w:World)(h0:0<=x)(h1:x<=18446744073709551615) :
  Calls Tryz.prog 134 #[.int .u64 x] w fun e w'=>e=.returned (.int .i64 (Lib.bitLen x.toNat))/\w'=w:=Any.bits_Len64 Tryz.lays129 x w h0 h1
def Tryz.lays264_ren:Go.Shelf.Ren:=⟨fun|264=>35|n=>n,fun|53=>22|46=>64|n=>n,fun|n=>n⟩
theorem Tryz.lays264:Go.Proofs.Lays.n264 Tryz.prog Tryz.lays264_ren:={
 mixed:=by kernel_rfl
 f264:=Tryz.func35.trans (congrArg some (by kernel_rfl))
 t46:=Tryz.underlying64
 a46:=Tryz.isAgg64
 z46:=Tryz.sizeOf64
 v46:=Tryz.zeroValue64
 t53:=Tryz.underlying22
 a53:=Tryz.isAgg22
 z53:=Tryz.sizeOf22
 v53:=Tryz.zeroValue22 }
open Go.RowKit Go.Lib in
theorem Tryz.bits_Mul64 (x y:Nat)(hx:x<18446744073709551616)(hy:y<18446744073709551616)(w:World) :
  Calls Tryz.prog 35 #[.int .u64 x,.int .u64 y] w fun e w'=>e=.returned (.tuple #[.int .u64 ((x*y/18446744073709551616:Nat):Int),.int .u64 ((x*y%18446744073709551616:Nat):Int)])/\w'=w:=Any.bits_Mul64 Tryz.lays264 x y hx hy w
end Go.Proofs

namespace Go.Proofs.YtjfeaiaafbaobaaGreatDoor
open Go.RowKit
def sizeL (x:Nat->Int):Nat->Nat
 | 0=>0
 | n+1=>if x n=0 then sizeL x n else n+1
theorem sizeL_le (x:Nat->Int)(n:Nat):sizeL x n<=n:=by
 induction n with
 | zero=>simp [sizeL]
 | succ n ih=>simp only [sizeL];split<;>omega
theorem ret_int {k:IntKind}{a b:Int}(h:a=b):Ending.returned (.int k a)=.returned (.int k b):=by rw [h]
theorem size_any (b off n c:Nat)(x:Nat->Int)(w:World)(hn:n<9223372036854775808)(hc:∀ i,i<n->w.cell? ⟨b,off+i,none⟩=some (.int .u64 (x i))) :
  Calls Tryz.prog 76 #[.slice (some ⟨b,off,none⟩) n c] w fun e w'=>e=.returned (.int .i64 (sizeL x n))/\w'=w:=by
 go_enter Tryz.func76,Tryz.ntmps76
 go_wp2
 go_loop [3] (fun t=>∃ k:Nat,k<=n/\sizeL x k=sizeL x n/\t=.int .i64 k) (fun t=>(intOf t).toNat)
 case atStart=>exact ⟨n,Nat.le_refl _,rfl,rfl⟩
 case round =>
  obtain ⟨k,hk,hs,rfl⟩:=hrel
  by_cases h0:k=0
  ·subst h0
   go_wp2
   go_ret
   exact ⟨ret_int (by rw [← hs];rfl),rfl⟩
  ·obtain ⟨j,rfl⟩:∃ j,k=j+1:=⟨k-1,by omega⟩
   have hcj:=hc j (by omega)
   by_cases hz:x j=0
   ·have HS:Hid (sizeL x j=sizeL x n):=by
     have:sizeL x (j+1)=sizeL x j:=by simp [sizeL,hz]
     exact this.symm.trans hs
    clear hs
    go_wp2
    go_round
    case rel=>exact ⟨j,by omega,HS.out,by go_num⟩
    case measure=>simp [intOf]
   ·have HS:Hid (((j:Int)+1)=(sizeL x n:Nat)):=by
     have:sizeL x (j+1)=j+1:=by simp [sizeL,hz]
     show _=_
     rw [← hs,this];omega
    clear hs
    go_wp2
    go_ret
    exact ⟨ret_int (by exact HS.out),rfl⟩
theorem size_nil (w:World) :
  Calls Tryz.prog 76 #[.slice none 0 0] w fun e w'=>e=.returned (.int .i64 0)/\w'=w:=by
 go_enter Tryz.func76,Tryz.ntmps76
 go_wp2
 go_loop [3] (fun t=>t=.int .i64 0) (fun t=>(intOf t).toNat)
 case atStart=>rfl
 case round =>
  subst hrel
  go_wp2
  go_ret
  exact ⟨rfl,rfl⟩
def lenL (x:Nat->Int)(n:Nat):Int:=if sizeL x n=0 then 0 else 64*(sizeL x n:Int)-64+Lib.bitLen (x (sizeL x n-1)).toNat
theorem bitLenAux_le:∀ f x:Nat,Lib.bitLenAux f x<=f
 | 0,x=>by simp [Lib.bitLenAux]
 | f+1,x=>by
  have:=bitLenAux_le f (x/2)
  simp only [Lib.bitLenAux];split<;>omega
theorem bitLen64 (x:Nat):Lib.bitLen x<=64:=bitLenAux_le 64 x
theorem len_any (b off n c:Nat)(x:Nat->Int)(w:World)(hn:n<100000000)(hx:∀ i,0<=x i/\x i<=18446744073709551615)(hc:∀ i,i<n->w.cell? ⟨b,off+i,none⟩=some (.int .u64 (x i))) :
  Calls Tryz.prog 78 #[.slice (some ⟨b,off,none⟩) n c] w fun e w'=>e=.returned (.int .i64 (lenL x n))/\w'=w:=by
 have hle:=sizeL_le x n
 by_cases h0:sizeL x n=0
 ·have HL:Hid (lenL x n=0):=by show _=_;simp [lenL,h0]
  have hs:Calls Tryz.prog 76 #[.slice (some ⟨b,off,none⟩) n c] w fun e w'=>e=.returned (.int .i64 0)/\w'=w:=by
   have:=size_any b off n c x w (by omega) hc
   rw [h0] at this;exact this
  clear h0 hc hx
  go_enter Tryz.func78,Tryz.ntmps78
  go_wp2_with (go_at_call 76;refine hs.mono ?_;rintro e w' ⟨rfl,rfl⟩)
  go_ret
  exact ⟨ret_int HL.out.symm,rfl⟩
 ·obtain ⟨j,hj⟩:∃ j,sizeL x n=j+1:=⟨sizeL x n-1,by omega⟩
  have hs:=size_any b off n c x w (by omega) hc
  have HL:Hid (lenL x n=64*(j:Int)+Lib.bitLen (x j).toNat):=by show _=_;simp [lenL,hj];omega
  rw [hj] at hs
  have hcj:=hc j (by omega)
  have hb:=hx j
  have hbl:=bitLen64 (x j).toNat
  have hj':j+1<=n:=by omega
  clear h0 hc hx hj hle
  have hcl:=Tryz.bits_Len64 (x j) w hb.1 hb.2
  generalize Lib.bitLen (x j).toNat=L at *
  go_enter Tryz.func78,Tryz.ntmps78
  go_wp2_with (first|(go_at_call 76;refine hs.mono ?_;rintro e w' ⟨rfl,rfl⟩)|(go_at_call 134;refine hcl.mono ?_;rintro e w' ⟨rfl,rfl⟩))
  go_ret
  exact ⟨ret_int (by rw [HL.out];omega),rfl⟩
def B (l:List UInt8):ByteArray:=⟨l.toArray⟩
def by_ (l:List UInt8)(i:Nat):Int:=if h:i<l.length then ((l[i]'h).toNat:Int) else 0
def dg (c:UInt8):Bool:=decide (48<=c.toNat/\c.toNat<=57)
def rst (l:List UInt8):List UInt8:=l.dropWhile dg
def nv (l:List UInt8):Int:=l.foldl (fun v c=>10*v+((c.toNat:Int)-48)) 0
def vc (l:List UInt8):Int:=min (nv l) 2000000000
structure By (g n:Nat) (x:Nat->Int) (W:World):Prop where
 lt:g<W.heap.size
 cell:∀ j,j<n->W.cell? ⟨g,j,none⟩=some (.int .u8 (x j))
 frz:∀ j,j<n->W.frozen? ⟨g,j,none⟩=false
theorem By.set {g n:Nat}{x:Nat->Int}{W:World}(h:By g n x W)(i:Nat)(v:Int):By g n (fun j=>if j=i then v else x j) (W.setCell ⟨g,i,none⟩ (.int .u8 v)):=by
 refine ⟨by simpa using h.lt,fun j hj=>?_,fun j hj=>by rw [World.frozen?_setCell];exact h.frz j hj⟩
 show _=some (Value.int .u8 (if j=i then v else x j))
 by_cases e:j=i
 ·subst e
  rw [if_pos rfl]
  exact World.cell?_setCell_same (h:=h.cell j hj) ..
 ·rw [if_neg e]
  exact (World.cell?_setCell_other (h:=by intro h;cases h;exact e rfl) ..).trans (h.cell j hj)
theorem By.of {l:List UInt8}{w:World}{cap:Nat}:By w.heap.size l.length (by_ l) (w.drew.alloc (.cells (bytesRow (B l) cap) 5 ((bytesRow (B l) cap).size,(bytesRow (B l) cap).size+1))):=by
 have hsz:l.length<=(bytesRow (B l) cap).size:=by unfold bytesRow;simp [B]
 refine ⟨by simp,fun j hj=>?_,fun j hj=>?_⟩
 ·have:(bytesRow (B l) cap)[j]?=some (.int .u8 (by_ l j)):=by
   unfold bytesRow by_
   rw [dif_pos hj,Array.getElem?_append_left (by simpa [B] using hj)]
   simp [B,hj]
  have hh:(w.drew.alloc (.cells (bytesRow (B l) cap) 5 ((bytesRow (B l) cap).size,(bytesRow (B l) cap).size+1))).heap[w.heap.size]?=some (.cells (bytesRow (B l) cap) 5 ((bytesRow (B l) cap).size,(bytesRow (B l) cap).size+1)):=by
   show (Array.push w.heap _)[w.heap.size]?=_
   simp
  unfold World.cell?
  simp only [hh]
  simp [this]
 ·have hh:(w.drew.alloc (.cells (bytesRow (B l) cap) 5 ((bytesRow (B l) cap).size,(bytesRow (B l) cap).size+1))).heap[w.heap.size]?=some (.cells (bytesRow (B l) cap) 5 ((bytesRow (B l) cap).size,(bytesRow (B l) cap).size+1)):=by
   show (Array.push w.heap _)[w.heap.size]?=_
   simp
  unfold World.frozen?
  simp only [hh]
  simp
  omega
def PV (c:Int)(s g:Bool)(d:List UInt8)(e:Int):Value:=.agg #[.int .i64 c,.bool s,.bool g,.string (B d),.int .i64 e]
def behind (s:List UInt8):List UInt8:=if Lib.hasPrefix (rst s) [46] then rst (Lib.trimPrefix (rst s) [46]) else rst s
end Go.Proofs.YtjfeaiaafbaobaaGreatDoor
