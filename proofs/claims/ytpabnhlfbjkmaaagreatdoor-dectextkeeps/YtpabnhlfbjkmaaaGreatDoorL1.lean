/-
  Texts that the proof leans on, joined: Bg, Shelf, Ref, Arr, Add, Div, Num, Da, Dg, Radd, Left, Val, Lmul, Dvm, Dvn, Dv, Fmt, Gm, Ga, Gb, Gc, Gd, Ge, Gf, Sa, Db.
-/
import Derived.Test.YtpabnhlfbjkmaaaGreatDoorProg
import Derived.Below
import Derived.WalkKit
import Derived.Shelf.Strings.Trim
import Derived.Shelf.Small.Utf8
import Derived.Shelf.Small.Bits
import Derived.Shelf.Small.Strs
import Derived.Shelf.Small.Wraps
import Derived.Shelf.Strconv.Itoa0
import Derived.Shelf.Strconv.Itoa1
import Derived.Shelf.LaysM
import Derived.Shelf.Strconv.Itoa2
import Derived.Shelf.Strconv.Itoa3
import Derived.Shelf.Strconv.Clone
import Derived.Shelf.Strings.Search1
import Derived.Shelf.Strconv.AppendUint10
import Derived.Shelf.Strconv.AppendInt10
import Derived.Shelf.Strconv.AppendIntPublic10
import Derived.Shelf.Strings.Prefix
import Derived.Shelf.Strings.Runes
import Derived.Shelf.Strings.AsciiSet
import Derived.Shelf.Bits.Mul64
import Derived.Shelf.Unicode.DecodeSlow
import Derived.Test.YtpabnhlfbjkmaaaGreatDoorRows
import Derived.WalkSpells
import Derived.WalkLawsBesides
import Derived.Laws.Externs
import Derived.Deep.RegionHeld3
import Derived.Deep.DrawnRows
import Derived.BigQuiet
import Derived.Deep.AppendLies
import Derived.BigRegion
import Derived.Lib.BitFns
import Derived.Deep.Cut
import Derived.Deep.CutRange
import Derived.RegionTactic
import Derived.ChangeAlike
import Derived.Laws.ResultCell
import Derived.LaidLaws
import Derived.Lib.LaidTab
import Derived.RowKit
import Derived.Deep.QuietTactic
import Derived.Lib.Strings
import Derived.Laws.IdiomStrings
set_option maxHeartbeats 8000000
set_option linter.unusedVariables false
set_option linter.unusedSectionVars false
set_option linter.unusedSimpArgs false
set_option maxRecDepth 20000
namespace Go.Proofs.YtpabnhlfbjkmaaaGreatDoor
open Go.RowKit
theorem bgo {n:Nat} {a b:World} (h:Below n a b:=by (repeat (first | with_reducible assumption | with_reducible exact Below.refl _ _ | with_reducible refine Below.setCell ?_ (by first | omega | (dsimp only;omega) | (simp <;> omega)) _ | with_reducible refine Below.alloc ?_ (by first | omega | (simp <;> omega)) _ | with_reducible refine Below.drew ?_))):Below n a b:=h
theorem ltg {a b:Nat} (h:a<b:=by first | with_reducible assumption | (simp;done) | (simp;omega)):a<b:=h
theorem zf {W w1:World} (hb:Below W.heap.size W w1) (k:Nat) (h:k<W.heap.size:=by first | with_reducible assumption | (simp;done) | (simp;omega)):k<w1.heap.size/\k<=w1.heap.size :=
  ⟨Nat.lt_of_lt_of_le h hb.size,Nat.le_of_lt (Nat.lt_of_lt_of_le h hb.size)⟩
theorem wf (w0:World) {W w1:World} (hb:Below W.heap.size W w1) (h:Below w0.heap.size w0 W:=by (repeat (first | with_reducible assumption | with_reducible exact Below.refl _ _ | with_reducible refine Below.setCell ?_ (by first | omega | (dsimp only;omega) | (simp <;> omega)) _ | with_reducible refine Below.alloc ?_ (by first | omega | (simp <;> omega)) _ | with_reducible refine Below.drew ?_))):(∀ b o,b<W.heap.size->w1.cell? ⟨b,o,none⟩=W.cell? ⟨b,o,none⟩)/\(∀ b o,b<W.heap.size->w1.frozen? ⟨b,o,none⟩=W.frozen? ⟨b,o,none⟩)/\Below w0.heap.size w0 w1/\w0.heap.size<=w1.heap.size :=
  ⟨fun b o h=>hb.cell (p:=⟨b,o,none⟩) h,fun b o h=>hb.frozen (p:=⟨b,o,none⟩) h,h.trans (hb.mono h.size),(h.trans (hb.mono h.size)).size⟩
theorem wz (w0:World) {W w1:World} (hb:Below W.heap.size W w1) (k:Nat:=w0.heap.size) (hk:k<W.heap.size:=by first | with_reducible assumption | (simp;done) | (simp;omega)) (h:Below w0.heap.size w0 W:=by (repeat (first | with_reducible assumption | with_reducible exact Below.refl _ _ | with_reducible refine Below.setCell ?_ (by first | omega | (dsimp only;omega) | (simp <;> omega)) _ | with_reducible refine Below.alloc ?_ (by first | omega | (simp <;> omega)) _ | with_reducible refine Below.drew ?_))):(∀ b o,b<W.heap.size->w1.cell? ⟨b,o,none⟩=W.cell? ⟨b,o,none⟩)/\(∀ b o,b<W.heap.size->w1.frozen? ⟨b,o,none⟩=W.frozen? ⟨b,o,none⟩)/\k<w1.heap.size/\k<=w1.heap.size/\Below w0.heap.size w0 w1/\w0.heap.size<=w1.heap.size :=
  ⟨fun b o h=>hb.cell (p:=⟨b,o,none⟩) h,fun b o h=>hb.frozen (p:=⟨b,o,none⟩) h,Nat.lt_of_lt_of_le hk hb.size,Nat.le_of_lt (Nat.lt_of_lt_of_le hk hb.size),h.trans (hb.mono h.size),(h.trans (hb.mono h.size)).size⟩
abbrev CB (f:FuncId) (a:Array Value) (W:World) (v:Value):Prop:=Calls Tryz.prog f a W fun r w'=>r=.returned v/\Below W.heap.size W w'
abbrev CQ (f:FuncId) (a:Array Value) (W:World) (v:Value):Prop:=Calls Tryz.prog f a W fun r w'=>r=.returned v/\W=w'
abbrev CE (f:FuncId) (a:Array Value) (W:World) (p:Value->World->Prop):Prop:=Calls Tryz.prog f a W fun r w'=>∃ v,r=.returned v/\p v w'/\Below W.heap.size W w'
end Go.Proofs.YtpabnhlfbjkmaaaGreatDoor

namespace Go.Proofs
open Go.Shelf
def Tryz.lays161_ren:Go.Shelf.Ren:=⟨fun | 161=>156 | 231=>183 | 227=>184 | 233=>185 | 235=>186 | 228=>207 | 197=>208 | 151=>209 | 260=>223 | 152=>224 | 137=>230 | 119=>231 | 224=>232 | 225=>233 | 217=>236 | 266=>237 | n=>n,fun | 9=>9 | 4=>4 | 3=>3 | 5=>5 | 117=>204 | 116=>203 | 0=>0 | 124=>207 | 105=>181 | 21=>21 | 119=>230 | 46=>78 | 139=>233 | 138=>232 | n=>n,fun | 3=>4 | 4=>5 | n=>n⟩
theorem Tryz.lays161:Go.Proofs.Lays.n161 Tryz.prog Tryz.lays161_ren:={
 mixed:=by kernel_rfl
 f119:=Tryz.func231.trans (congrArg some (by kernel_rfl))
 f137:=Tryz.func230.trans (congrArg some (by kernel_rfl))
 f151:=Tryz.func209.trans (congrArg some (by kernel_rfl))
 f152:=Tryz.func224.trans (congrArg some (by kernel_rfl))
 f161:=Tryz.func156.trans (congrArg some (by kernel_rfl))
 f197:=Tryz.func208.trans (congrArg some (by kernel_rfl))
 f217:=Tryz.func236.trans (congrArg some (by kernel_rfl))
 f224:=Tryz.func232.trans (congrArg some (by kernel_rfl))
 f225:=Tryz.func233.trans (congrArg some (by kernel_rfl))
 f227:=Tryz.func184.trans (congrArg some (by kernel_rfl))
 f228:=Tryz.func207.trans (congrArg some (by kernel_rfl))
 f231:=Tryz.func183.trans (congrArg some (by kernel_rfl))
 f233:=Tryz.func185.trans (congrArg some (by kernel_rfl))
 f235:=Tryz.func186.trans (congrArg some (by kernel_rfl))
 f260:=Tryz.func223.trans (congrArg some (by kernel_rfl))
 f266:=Tryz.func237.trans (congrArg some (by kernel_rfl))
 t0:=Tryz.underlying0
 a0:=Tryz.isAgg0
 z0:=Tryz.sizeOf0
 v0:=Tryz.zeroValue0
 t3:=Tryz.underlying3
 a3:=Tryz.isAgg3
 z3:=Tryz.sizeOf3
 v3:=Tryz.zeroValue3
 t4:=Tryz.underlying4
 a4:=Tryz.isAgg4
 z4:=Tryz.sizeOf4
 v4:=Tryz.zeroValue4
 t5:=Tryz.underlying5
 a5:=Tryz.isAgg5
 z5:=Tryz.sizeOf5
 v5:=Tryz.zeroValue5
 t9:=Tryz.underlying9
 a9:=Tryz.isAgg9
 z9:=Tryz.sizeOf9
 v9:=Tryz.zeroValue9
 t21:=Tryz.underlying21
 a21:=Tryz.isAgg21
 z21:=Tryz.sizeOf21
 v21:=Tryz.zeroValue21
 t46:=Tryz.underlying78
 a46:=Tryz.isAgg78
 z46:=Tryz.sizeOf78
 v46:=Tryz.zeroValue78
 t105:=Tryz.underlying181
 a105:=Tryz.isAgg181
 z105:=Tryz.sizeOf181
 v105:=Tryz.zeroValue181
 t116:=Tryz.underlying203
 a116:=Tryz.isAgg203
 z116:=Tryz.sizeOf203
 t117:=Tryz.underlying204
 a117:=Tryz.isAgg204
 z117:=Tryz.sizeOf204
 v117:=Tryz.zeroValue204
 t119:=Tryz.underlying230
 a119:=Tryz.isAgg230
 z119:=Tryz.sizeOf230
 t124:=Tryz.underlying207
 a124:=Tryz.isAgg207
 z124:=Tryz.sizeOf207
 v124:=Tryz.zeroValue207
 t138:=Tryz.underlying232
 a138:=Tryz.isAgg232
 z138:=Tryz.sizeOf232
 v138:=Tryz.zeroValue232
 t139:=Tryz.underlying233
 a139:=Tryz.isAgg233
 z139:=Tryz.sizeOf233
 v139:=Tryz.zeroValue233
 g3:=by kernel_rfl
 g4:=by kernel_rfl }
open Go.RowKit in
theorem Tryz.strings_TrimLeft_one (s:ByteArray) (c:UInt8) (hc:c.toNat<128) (w:World) :
  Calls Tryz.prog 156 #[.string s,.string ⟨#[c]⟩] w fun e w'=>e=.returned (.string ⟨(Lib.trimLeftB s.data.toList c).toArray⟩)/\w'=w:=Any.strings_TrimLeft_one Tryz.lays161 s c hc w
def Tryz.lays125_ren:Go.Shelf.Ren:=⟨fun | 125=>218 | 128=>228 | 129=>134 | n=>n,fun | 46=>78 | 3=>3 | 51=>40 | 53=>22 | 4=>4 | 5=>5 | 9=>9 | n=>n,fun | n=>n⟩
theorem Tryz.lays125:Go.Proofs.Lays.n125 Tryz.prog Tryz.lays125_ren:={
 mixed:=by kernel_rfl
 f125:=Tryz.func218.trans (congrArg some (by kernel_rfl))
 f128:=Tryz.func228.trans (congrArg some (by kernel_rfl))
 f129:=Tryz.func134.trans (congrArg some (by kernel_rfl))
 t3:=Tryz.underlying3
 a3:=Tryz.isAgg3
 z3:=Tryz.sizeOf3
 v3:=Tryz.zeroValue3
 t4:=Tryz.underlying4
 a4:=Tryz.isAgg4
 z4:=Tryz.sizeOf4
 v4:=Tryz.zeroValue4
 t5:=Tryz.underlying5
 a5:=Tryz.isAgg5
 z5:=Tryz.sizeOf5
 v5:=Tryz.zeroValue5
 t9:=Tryz.underlying9
 a9:=Tryz.isAgg9
 z9:=Tryz.sizeOf9
 v9:=Tryz.zeroValue9
 t46:=Tryz.underlying78
 a46:=Tryz.isAgg78
 z46:=Tryz.sizeOf78
 v46:=Tryz.zeroValue78
 t51:=Tryz.underlying40
 a51:=Tryz.isAgg40
 z51:=Tryz.sizeOf40
 v51:=Tryz.zeroValue40
 t53:=Tryz.underlying22
 a53:=Tryz.isAgg22
 z53:=Tryz.sizeOf22
 v53:=Tryz.zeroValue22 }
theorem Tryz.bits_Len (x:Int) (w:World) (h0:0<=x) (h1:x<=18446744073709551615) :
  Calls Tryz.prog 218 #[.int .u64 x] w fun e w'=>e=.returned (.int .i64 (Lib.bitLen x.toNat))/\w'=w:=Any.bits_Len Tryz.lays125 x w h0 h1
def Tryz.lays134_ren:Go.Shelf.Ren:=⟨fun | 134=>135 | 129=>134 | n=>n,fun | 53=>22 | 3=>3 | 4=>4 | 46=>78 | 5=>5 | 9=>9 | n=>n,fun | n=>n⟩
theorem Tryz.lays134:Go.Proofs.Lays.n134 Tryz.prog Tryz.lays134_ren:={
 mixed:=by kernel_rfl
 f129:=Tryz.func134.trans (congrArg some (by kernel_rfl))
 f134:=Tryz.func135.trans (congrArg some (by kernel_rfl))
 t3:=Tryz.underlying3
 a3:=Tryz.isAgg3
 z3:=Tryz.sizeOf3
 v3:=Tryz.zeroValue3
 t4:=Tryz.underlying4
 a4:=Tryz.isAgg4
 z4:=Tryz.sizeOf4
 v4:=Tryz.zeroValue4
 t5:=Tryz.underlying5
 a5:=Tryz.isAgg5
 z5:=Tryz.sizeOf5
 v5:=Tryz.zeroValue5
 t9:=Tryz.underlying9
 a9:=Tryz.isAgg9
 z9:=Tryz.sizeOf9
 v9:=Tryz.zeroValue9
 t46:=Tryz.underlying78
 a46:=Tryz.isAgg78
 z46:=Tryz.sizeOf78
 v46:=Tryz.zeroValue78
 t53:=Tryz.underlying22
 a53:=Tryz.isAgg22
 z53:=Tryz.sizeOf22
 v53:=Tryz.zeroValue22 }
theorem Tryz.bits_LeadingZeros64 (x:Int) (w:World) (h0:0<=x) (h1:x<=18446744073709551615) :
  Calls Tryz.prog 135 #[.int .u64 x] w fun e w'=>e=.returned (.int .i64 (64-(Lib.bitLen x.toNat:Int)))/\w'=w:=Any.bits_LeadingZeros64 Tryz.lays134 x w h0 h1
def Tryz.lays103_ren:Go.Shelf.Ren:=⟨fun | 103=>117 | 210=>153 | 206=>181 | n=>n,fun | 9=>9 | 4=>4 | 24=>157 | 3=>3 | n=>n,fun | n=>n⟩
theorem Tryz.lays103:Go.Proofs.Lays.n103 Tryz.prog Tryz.lays103_ren:={
 mixed:=by kernel_rfl
 f103:=Tryz.func117.trans (congrArg some (by kernel_rfl))
 f206:=Tryz.func181.trans (congrArg some (by kernel_rfl))
 f210:=Tryz.func153.trans (congrArg some (by kernel_rfl))
 t3:=Tryz.underlying3
 a3:=Tryz.isAgg3
 z3:=Tryz.sizeOf3
 v3:=Tryz.zeroValue3
 t4:=Tryz.underlying4
 a4:=Tryz.isAgg4
 z4:=Tryz.sizeOf4
 v4:=Tryz.zeroValue4
 t9:=Tryz.underlying9
 a9:=Tryz.isAgg9
 z9:=Tryz.sizeOf9
 v9:=Tryz.zeroValue9
 t24:=Tryz.underlying157
 a24:=Tryz.isAgg157
 z24:=Tryz.sizeOf157
 v24:=Tryz.zeroValue157 }
open Go.RowKit in
theorem Tryz.strings_CutPrefix (s p:ByteArray) (w:World) :
  Calls Tryz.prog 117 #[.string s,.string p] w fun e w'=>e=.returned (.tuple #[.string ⟨(Lib.trimPrefix s.data.toList p.data.toList).toArray⟩,.bool (Lib.hasPrefix s.data.toList p.data.toList)])/\w'=w:=Any.strings_CutPrefix Tryz.lays103 s p w
def Tryz.lays129_ren:Go.Shelf.Ren:=⟨fun | 129=>134 | n=>n,fun | 53=>22 | 3=>3 | 4=>4 | 46=>78 | 5=>5 | 9=>9 | n=>n,fun | n=>n⟩
theorem Tryz.lays129:Go.Proofs.Lays.n129 Tryz.prog Tryz.lays129_ren:={
 mixed:=by kernel_rfl
 f129:=Tryz.func134.trans (congrArg some (by kernel_rfl))
 t3:=Tryz.underlying3
 a3:=Tryz.isAgg3
 z3:=Tryz.sizeOf3
 v3:=Tryz.zeroValue3
 t4:=Tryz.underlying4
 a4:=Tryz.isAgg4
 z4:=Tryz.sizeOf4
 v4:=Tryz.zeroValue4
 t5:=Tryz.underlying5
 a5:=Tryz.isAgg5
 z5:=Tryz.sizeOf5
 v5:=Tryz.zeroValue5
 t9:=Tryz.underlying9
 a9:=Tryz.isAgg9
 z9:=Tryz.sizeOf9
 v9:=Tryz.zeroValue9
 t46:=Tryz.underlying78
 a46:=Tryz.isAgg78
 z46:=Tryz.sizeOf78
 v46:=Tryz.zeroValue78
 t53:=Tryz.underlying22
 a53:=Tryz.isAgg22
 z53:=Tryz.sizeOf22
 v53:=Tryz.zeroValue22 }
theorem Tryz.bits_Len64 (x:Int) (w:World) (h0:0<=x) (h1:x<=18446744073709551615) :
  Calls Tryz.prog 134 #[.int .u64 x] w fun e w'=>e=.returned (.int .i64 (Lib.bitLen x.toNat))/\w'=w:=Any.bits_Len64 Tryz.lays129 x w h0 h1
def Tryz.laysM171_ren:Go.Shelf.Ren:=⟨fun | 171=>68 | 243=>115 | 246=>152 | 283=>177 | 284=>178 | 285=>179 | 286=>180 | 129=>134 | 317=>203 | 318=>204 | 319=>205 | 320=>206 | 337=>221 | 338=>222 | n=>n,fun | 3=>3 | 9=>9 | 2=>2 | 4=>4 | 171=>197 | 0=>0 | 53=>22 | 37=>79 | 5=>5 | 173=>199 | 212=>219 | 51=>40 | 20=>20 | 213=>220 | 46=>78 | 232=>237 | 233=>238 | n=>n,fun | 17=>3 | 18=>6 | 19=>7 | n=>n⟩
theorem Tryz.laysM171:Go.Proofs.LaysM.n171 Tryz.prog Tryz.laysM171_ren:={
 mixed:=by kernel_rfl
 f129:=Tryz.func134.trans (congrArg some (by kernel_rfl))
 f171:=Tryz.func68.trans (congrArg some (by kernel_rfl))
 f243:=Tryz.func115.trans (congrArg some (by kernel_rfl))
 f246:=Tryz.func152.trans (congrArg some (by kernel_rfl))
 f283:=Tryz.func177.trans (congrArg some (by kernel_rfl))
 f284:=Tryz.func178.trans (congrArg some (by kernel_rfl))
 f285:=Tryz.func179.trans (congrArg some (by kernel_rfl))
 f286:=Tryz.func180.trans (congrArg some (by kernel_rfl))
 f317:=Tryz.func203.trans (congrArg some (by kernel_rfl))
 f318:=Tryz.func204.trans (congrArg some (by kernel_rfl))
 f319:=Tryz.func205.trans (congrArg some (by kernel_rfl))
 f320:=Tryz.func206.trans (congrArg some (by kernel_rfl))
 f337:=Tryz.func221.trans (congrArg some (by kernel_rfl))
 f338:=Tryz.func222.trans (congrArg some (by kernel_rfl))
 t0:=Tryz.underlying0
 a0:=Tryz.isAgg0
 z0:=Tryz.sizeOf0
 v0:=Tryz.zeroValue0
 t2:=Tryz.underlying2
 a2:=Tryz.isAgg2
 z2:=Tryz.sizeOf2
 v2:=Tryz.zeroValue2
 t3:=Tryz.underlying3
 a3:=Tryz.isAgg3
 z3:=Tryz.sizeOf3
 v3:=Tryz.zeroValue3
 t4:=Tryz.underlying4
 a4:=Tryz.isAgg4
 z4:=Tryz.sizeOf4
 v4:=Tryz.zeroValue4
 t5:=Tryz.underlying5
 a5:=Tryz.isAgg5
 z5:=Tryz.sizeOf5
 v5:=Tryz.zeroValue5
 t9:=Tryz.underlying9
 a9:=Tryz.isAgg9
 z9:=Tryz.sizeOf9
 v9:=Tryz.zeroValue9
 t20:=Tryz.underlying20
 a20:=Tryz.isAgg20
 z20:=Tryz.sizeOf20
 v20:=Tryz.zeroValue20
 t37:=Tryz.underlying79
 a37:=Tryz.isAgg79
 z37:=Tryz.sizeOf79
 v37:=Tryz.zeroValue79
 t46:=Tryz.underlying78
 a46:=Tryz.isAgg78
 z46:=Tryz.sizeOf78
 v46:=Tryz.zeroValue78
 t51:=Tryz.underlying40
 a51:=Tryz.isAgg40
 z51:=Tryz.sizeOf40
 v51:=Tryz.zeroValue40
 t53:=Tryz.underlying22
 a53:=Tryz.isAgg22
 z53:=Tryz.sizeOf22
 v53:=Tryz.zeroValue22
 t171:=Tryz.underlying197
 a171:=Tryz.isAgg197
 z171:=Tryz.sizeOf197
 v171:=Tryz.zeroValue197
 t173:=Tryz.underlying199
 a173:=Tryz.isAgg199
 z173:=Tryz.sizeOf199
 v173:=Tryz.zeroValue199
 t212:=Tryz.underlying219
 a212:=Tryz.isAgg219
 z212:=Tryz.sizeOf219
 v212:=Tryz.zeroValue219
 t213:=Tryz.underlying220
 a213:=Tryz.isAgg220
 z213:=Tryz.sizeOf220
 t232:=Tryz.underlying237
 a232:=Tryz.isAgg237
 z232:=Tryz.sizeOf237
 v232:=Tryz.zeroValue237
 t233:=Tryz.underlying238
 a233:=Tryz.isAgg238
 z233:=Tryz.sizeOf238
 v233:=Tryz.zeroValue238
 g17:=by kernel_rfl
 g18:=by kernel_rfl
 g19:=by kernel_rfl
 i0:=by kernel_rfl
 i2:=by kernel_rfl
 i3:=by kernel_rfl
 i4:=by kernel_rfl
 i5:=by kernel_rfl
 i9:=by kernel_rfl
 i20:=by kernel_rfl
 i37:=by kernel_rfl
 i46:=by kernel_rfl
 i51:=by kernel_rfl
 i53:=by kernel_rfl
 i171:=by kernel_rfl
 i173:=by kernel_rfl
 i212:=by kernel_rfl
 i232:=by kernel_rfl
 i233:=by kernel_rfl
 m17:=by kernel_rfl
 m18:=by kernel_rfl
 m19:=by kernel_rfl }
open Go.RowKit Go.Sort Go.Lib in
theorem Tryz.strconv_Itoa (n:Int) (h0:-9223372036854775808<=n) (h1:n<=9223372036854775807) (w:World) (htab:Lib.TabIs Tryz.prog w "internal/strconv.uint64pow10" .u64 Lib.pow10Tab) :
  Calls Tryz.prog 68 #[.int .i64 n] w fun e w'=>e=.returned (.string ⟨(Lib.itoa n).toArray⟩)/\∃ k os,w'=grow (w.drewN k) os:=Any.strconv_Itoa Tryz.laysM171 n h0 h1 w htab
def Tryz.laysM316_ren:Go.Shelf.Ren:=⟨fun | 316=>182 | n=>n,fun | 9=>9 | 3=>3 | 4=>4 | 37=>79 | 0=>0 | 127=>222 | 5=>5 | n=>n,fun | n=>n⟩
theorem Tryz.laysM316:Go.Proofs.LaysM.n316 Tryz.prog Tryz.laysM316_ren:={
 mixed:=by kernel_rfl
 f316:=Tryz.func182.trans (congrArg some (by kernel_rfl))
 t0:=Tryz.underlying0
 a0:=Tryz.isAgg0
 z0:=Tryz.sizeOf0
 v0:=Tryz.zeroValue0
 t3:=Tryz.underlying3
 a3:=Tryz.isAgg3
 z3:=Tryz.sizeOf3
 v3:=Tryz.zeroValue3
 t4:=Tryz.underlying4
 a4:=Tryz.isAgg4
 z4:=Tryz.sizeOf4
 v4:=Tryz.zeroValue4
 t9:=Tryz.underlying9
 a9:=Tryz.isAgg9
 z9:=Tryz.sizeOf9
 v9:=Tryz.zeroValue9
 t37:=Tryz.underlying79
 a37:=Tryz.isAgg79
 z37:=Tryz.sizeOf79
 v37:=Tryz.zeroValue79
 t127:=Tryz.underlying222
 a127:=Tryz.isAgg222
 z127:=Tryz.sizeOf222
 v127:=Tryz.zeroValue222
 t5:=Tryz.underlying5
 a5:=Tryz.isAgg5
 z5:=Tryz.sizeOf5
 v5:=Tryz.zeroValue5
 i0:=by kernel_rfl
 i3:=by kernel_rfl
 i4:=by kernel_rfl
 i5:=by kernel_rfl
 i9:=by kernel_rfl
 i37:=by kernel_rfl
 i127:=by kernel_rfl }
open Go.RowKit in
theorem Tryz.stringslite_Clone (s:ByteArray) (w:World) (hlim:s.size<=281474976710656) :
  Calls Tryz.prog 182 #[.string s] w fun e w'=>e=.returned (.string s)/\Below w.heap.size w w':=Any.stringslite_Clone Tryz.laysM316 s w hlim
def Tryz.laysM176_ren:Go.Shelf.Ren:=⟨fun | 176=>157 | 249=>187 | 288=>210 | 283=>177 | 284=>178 | 285=>179 | 286=>180 | 129=>134 | 317=>203 | 318=>204 | 319=>205 | 320=>206 | 337=>221 | 338=>222 | n=>n,fun | 37=>79 | 2=>2 | 3=>3 | 53=>22 | 4=>4 | 9=>9 | 171=>197 | 0=>0 | 173=>199 | 212=>219 | 51=>40 | 5=>5 | 20=>20 | 213=>220 | 46=>78 | 232=>237 | 233=>238 | n=>n,fun | 17=>3 | 18=>6 | 19=>7 | n=>n⟩
theorem Tryz.laysM176:Go.Proofs.LaysM.n176 Tryz.prog Tryz.laysM176_ren:={
 mixed:=by kernel_rfl
 f129:=Tryz.func134.trans (congrArg some (by kernel_rfl))
 f176:=Tryz.func157.trans (congrArg some (by kernel_rfl))
 f249:=Tryz.func187.trans (congrArg some (by kernel_rfl))
 f283:=Tryz.func177.trans (congrArg some (by kernel_rfl))
 f284:=Tryz.func178.trans (congrArg some (by kernel_rfl))
 f285:=Tryz.func179.trans (congrArg some (by kernel_rfl))
 f286:=Tryz.func180.trans (congrArg some (by kernel_rfl))
 f288:=Tryz.func210.trans (congrArg some (by kernel_rfl))
 f317:=Tryz.func203.trans (congrArg some (by kernel_rfl))
 f318:=Tryz.func204.trans (congrArg some (by kernel_rfl))
 f319:=Tryz.func205.trans (congrArg some (by kernel_rfl))
 f320:=Tryz.func206.trans (congrArg some (by kernel_rfl))
 f337:=Tryz.func221.trans (congrArg some (by kernel_rfl))
 f338:=Tryz.func222.trans (congrArg some (by kernel_rfl))
 t0:=Tryz.underlying0
 a0:=Tryz.isAgg0
 z0:=Tryz.sizeOf0
 v0:=Tryz.zeroValue0
 t2:=Tryz.underlying2
 a2:=Tryz.isAgg2
 z2:=Tryz.sizeOf2
 v2:=Tryz.zeroValue2
 t3:=Tryz.underlying3
 a3:=Tryz.isAgg3
 z3:=Tryz.sizeOf3
 v3:=Tryz.zeroValue3
 t4:=Tryz.underlying4
 a4:=Tryz.isAgg4
 z4:=Tryz.sizeOf4
 v4:=Tryz.zeroValue4
 t5:=Tryz.underlying5
 a5:=Tryz.isAgg5
 z5:=Tryz.sizeOf5
 v5:=Tryz.zeroValue5
 t9:=Tryz.underlying9
 a9:=Tryz.isAgg9
 z9:=Tryz.sizeOf9
 v9:=Tryz.zeroValue9
 t20:=Tryz.underlying20
 a20:=Tryz.isAgg20
 z20:=Tryz.sizeOf20
 v20:=Tryz.zeroValue20
 t37:=Tryz.underlying79
 a37:=Tryz.isAgg79
 z37:=Tryz.sizeOf79
 v37:=Tryz.zeroValue79
 t46:=Tryz.underlying78
 a46:=Tryz.isAgg78
 z46:=Tryz.sizeOf78
 v46:=Tryz.zeroValue78
 t51:=Tryz.underlying40
 a51:=Tryz.isAgg40
 z51:=Tryz.sizeOf40
 v51:=Tryz.zeroValue40
 t53:=Tryz.underlying22
 a53:=Tryz.isAgg22
 z53:=Tryz.sizeOf22
 v53:=Tryz.zeroValue22
 t171:=Tryz.underlying197
 a171:=Tryz.isAgg197
 z171:=Tryz.sizeOf197
 v171:=Tryz.zeroValue197
 t173:=Tryz.underlying199
 a173:=Tryz.isAgg199
 z173:=Tryz.sizeOf199
 v173:=Tryz.zeroValue199
 t212:=Tryz.underlying219
 a212:=Tryz.isAgg219
 z212:=Tryz.sizeOf219
 v212:=Tryz.zeroValue219
 t213:=Tryz.underlying220
 a213:=Tryz.isAgg220
 z213:=Tryz.sizeOf220
 t232:=Tryz.underlying237
 a232:=Tryz.isAgg237
 z232:=Tryz.sizeOf237
 v232:=Tryz.zeroValue237
 t233:=Tryz.underlying238
 a233:=Tryz.isAgg238
 z233:=Tryz.sizeOf238
 v233:=Tryz.zeroValue238
 g17:=by kernel_rfl
 g18:=by kernel_rfl
 g19:=by kernel_rfl
 i0:=by kernel_rfl
 i2:=by kernel_rfl
 i3:=by kernel_rfl
 i4:=by kernel_rfl
 i5:=by kernel_rfl
 i9:=by kernel_rfl
 i20:=by kernel_rfl
 i37:=by kernel_rfl
 i46:=by kernel_rfl
 i51:=by kernel_rfl
 i53:=by kernel_rfl
 i171:=by kernel_rfl
 i173:=by kernel_rfl
 i212:=by kernel_rfl
 i232:=by kernel_rfl
 i233:=by kernel_rfl
 m17:=by kernel_rfl
 m18:=by kernel_rfl
 m19:=by kernel_rfl }
open Go.RowKit Go.Sort Go.Lib in
theorem Tryz.strconv_AppendInt_10 (B n:Nat) (i:Int) (h0:-9223372036854775808<=i) (h1:i<=9223372036854775807) (sv:Value) (xs:List Value) (w:World) (hown:w.ownsRow B 5 1 sv n xs) (hBw:B<=w.heap.size) (hlim:n+21<=140737488355328) (htab:Lib.TabBelow Tryz.prog B w "internal/strconv.uint64pow10" .u64 Lib.pow10Tab) :
  Calls Tryz.prog 157 #[sv,.int .i64 i,.int .i64 10] w fun e w'=>∃ v',e=.returned v'/\w'.ownsRow B 5 1 v' (n+(Lib.itoa i).length) (xs++Lib.byteCells (Lib.itoa i))/\Below B w w'/\Lib.OthersKept 5 none w w':=Any.strconv_AppendInt_10 Tryz.laysM176 B n i h0 h1 sv xs w hown hBw hlim htab
def Tryz.lays264_ren:Go.Shelf.Ren:=⟨fun | 264=>49 | n=>n,fun | 53=>22 | 46=>78 | n=>n,fun | n=>n⟩
theorem Tryz.lays264:Go.Proofs.Lays.n264 Tryz.prog Tryz.lays264_ren:={
 mixed:=by kernel_rfl
 f264:=Tryz.func49.trans (congrArg some (by kernel_rfl))
 t46:=Tryz.underlying78
 a46:=Tryz.isAgg78
 z46:=Tryz.sizeOf78
 v46:=Tryz.zeroValue78
 t53:=Tryz.underlying22
 a53:=Tryz.isAgg22
 z53:=Tryz.sizeOf22
 v53:=Tryz.zeroValue22 }
open Go.RowKit Go.Lib in
theorem Tryz.bits_Mul64 (x y:Nat) (hx:x<18446744073709551616) (hy:y<18446744073709551616) (w:World) :
  Calls Tryz.prog 49 #[.int .u64 x,.int .u64 y] w fun e w'=>e=.returned (.tuple #[.int .u64 ((x*y/18446744073709551616:Nat):Int),.int .u64 ((x*y%18446744073709551616:Nat):Int)])/\w'=w:=Any.bits_Mul64 Tryz.lays264 x y hx hy w
end Go.Proofs

namespace Go.Proofs.YtpabnhlfbjkmaaaGreatDoor
open Go.RowKit
def sizeL (x:Nat->Int):Nat->Nat
 | 0=>0
 | n+1=>if x n=0 then sizeL x n else n+1
theorem sizeL_le (x:Nat->Int) (n:Nat):sizeL x n<=n:=by
 induction n with
 | zero=>simp [sizeL]
 | succ n ih=>simp only [sizeL];split <;> omega
theorem ret_int {k:IntKind} {a b:Int} (h:a=b):Ending.returned (.int k a)=.returned (.int k b):=by rw [h]
theorem size_any (b off n c:Nat) (x:Nat->Int) (w:World) (hn:n<9223372036854775808) (hc:∀ i,i<n->w.cell? ⟨b,off+i,none⟩=some (.int .u64 (x i))) :
  Calls Tryz.prog 98 #[.slice (some ⟨b,off,none⟩) n c] w fun e w'=>e=.returned (.int .i64 (sizeL x n))/\w'=w:=by
 go_enter Tryz.func98,Tryz.ntmps98
 go_wp2
 go_loop [3] (fun t=>∃ k:Nat,k<=n/\sizeL x k=sizeL x n/\t=.int .i64 k) (fun t=>(intOf t).toNat)
 case atStart=>exact ⟨n,Nat.le_refl _,rfl,rfl⟩
 case round =>
  obtain ⟨k,hk,hs,rfl⟩:=hrel
  by_cases h0:k=0
  ·subst h0
   go_wp2
   go_ret
   exact ⟨ret_int (by rw [← hs];rfl),rfl⟩
  ·obtain ⟨j,rfl⟩:∃ j,k=j+1:=⟨k-1,by omega⟩
   have hcj:=hc j (by omega)
   by_cases hz:x j=0
   ·have HS:Hid (sizeL x j=sizeL x n):=by
     have:sizeL x (j+1)=sizeL x j:=by simp [sizeL,hz]
     exact this.symm.trans hs
    clear hs
    go_wp2
    go_round
    case rel=>exact ⟨j,by omega,HS.out,by go_num⟩
    case measure=>simp [intOf]
   ·have HS:Hid (((j:Int)+1)=(sizeL x n:Nat)):=by
     have:sizeL x (j+1)=j+1:=by simp [sizeL,hz]
     show _=_
     rw [← hs,this];omega
    clear hs
    go_wp2
    go_ret
    exact ⟨ret_int (by exact HS.out),rfl⟩
theorem size_nil (w:World) :
  Calls Tryz.prog 98 #[.slice none 0 0] w fun e w'=>e=.returned (.int .i64 0)/\w'=w:=by
 go_enter Tryz.func98,Tryz.ntmps98
 go_wp2
 go_loop [3] (fun t=>t=.int .i64 0) (fun t=>(intOf t).toNat)
 case atStart=>rfl
 case round =>
  subst hrel
  go_wp2
  go_ret
  exact ⟨rfl,rfl⟩
def lenL (x:Nat->Int) (n:Nat):Int:=if sizeL x n=0 then 0 else 64*(sizeL x n:Int)-64+Lib.bitLen (x (sizeL x n-1)).toNat
theorem bitLenAux_le:∀ f x:Nat,Lib.bitLenAux f x<=f
 | 0,x=>by simp [Lib.bitLenAux]
 | f+1,x=>by
  have:=bitLenAux_le f (x/2)
  simp only [Lib.bitLenAux];split <;> omega
theorem bitLen64 (x:Nat):Lib.bitLen x<=64:=bitLenAux_le 64 x
theorem len_any (b off n c:Nat) (x:Nat->Int) (w:World) (hn:n<100000000) (hx:∀ i,0<=x i/\x i<=18446744073709551615) (hc:∀ i,i<n->w.cell? ⟨b,off+i,none⟩=some (.int .u64 (x i))) :
  Calls Tryz.prog 91 #[.slice (some ⟨b,off,none⟩) n c] w fun e w'=>e=.returned (.int .i64 (lenL x n))/\w'=w:=by
 have hle:=sizeL_le x n
 by_cases h0:sizeL x n=0
 ·have HL:Hid (lenL x n=0):=by show _=_;simp [lenL,h0]
  have hs:Calls Tryz.prog 98 #[.slice (some ⟨b,off,none⟩) n c] w fun e w'=>e=.returned (.int .i64 0)/\w'=w:=by
   have:=size_any b off n c x w (by omega) hc
   rw [h0] at this;exact this
  clear h0 hc hx
  go_enter Tryz.func91,Tryz.ntmps91
  go_wp2_with (go_at_call 98;refine hs.mono ?_;rintro e w' ⟨rfl,rfl⟩)
  go_ret
  exact ⟨ret_int HL.out.symm,rfl⟩
 ·obtain ⟨j,hj⟩:∃ j,sizeL x n=j+1:=⟨sizeL x n-1,by omega⟩
  have hs:=size_any b off n c x w (by omega) hc
  have HL:Hid (lenL x n=64*(j:Int)+Lib.bitLen (x j).toNat):=by show _=_;simp [lenL,hj];omega
  rw [hj] at hs
  have hcj:=hc j (by omega)
  have hb:=hx j
  have hbl:=bitLen64 (x j).toNat
  have hj':j+1<=n:=by omega
  clear h0 hc hx hj hle
  have hcl:=Tryz.bits_Len64 (x j) w hb.1 hb.2
  generalize Lib.bitLen (x j).toNat=L at *
  go_enter Tryz.func91,Tryz.ntmps91
  go_wp2_with (first | (go_at_call 98;refine hs.mono ?_;rintro e w' ⟨rfl,rfl⟩) | (go_at_call 134;refine hcl.mono ?_;rintro e w' ⟨rfl,rfl⟩))
  go_ret
  exact ⟨ret_int (by rw [HL.out];omega),rfl⟩
def arrOf (f:Nat->Int) (n:Nat):Array Value:=((List.range n).map fun i=>Value.int .u64 (f i)).toArray
@[simp] theorem arrOf_size (f:Nat->Int) (n:Nat):(arrOf f n).size=n:=by simp [arrOf]
theorem arrOf_get (f:Nat->Int) (n i:Nat) (h:i<(arrOf f n).size):(arrOf f n)[i]'h=.int .u64 (f i):=by simp [arrOf]
theorem arrOf_get? (f:Nat->Int) (n i:Nat) (h:i<n):(arrOf f n)[i]?=some (.int .u64 (f i)):=by simp [arrOf,h]
theorem arrOf_set (f:Nat->Int) (n k:Nat) (v:Int):(arrOf f n).setIfInBounds k (.int .u64 v)=arrOf (fun i=>if i=k then v else f i) n:=by
 apply Array.ext
 ·simp
 ·intro i h1 h2
  rw [Array.getElem_setIfInBounds]
  simp only [arrOf_get]
  by_cases h:k=i
  ·subst h;simp
  ·simp [h,Ne.symm h];exact arrOf_get _ _ _ _
  simpa using h2
theorem arrOf_congr {f g:Nat->Int} {n:Nat} (h:∀ i,i<n->f i=g i):arrOf f n=arrOf g n:=by
 apply Array.ext
 ·simp
 ·intro i h1 h2
  simp only [arrOf_get]
  rw [h i (by simpa using h1)]
theorem arrOf_of (cs:Array Value) (n:Nat) (f:Nat->Int) (hs:cs.size=n) (h:∀ i,i<n->cs[i]?=some (.int .u64 (f i))):cs=arrOf f n:=by
 apply Array.ext
 ·simp [hs]
 ·intro i h1 h2
  rw [arrOf_get]
  have:=h i (by omega)
  rw [Array.getElem?_eq_getElem h1] at this
  exact Option.some.inj this
theorem add64 (x y c:Int) (hx:0<=x) (hy:0<=y) (hc0:0<=c) (hc:c<=1) (w:World):(callFunc 50 #[.int .u64 x,.int .u64 y,.int .u64 c]).run Tryz.prog w =
  .ok (.value (.tuple #[.int .u64 ((x+y+c)%18446744073709551616),.int .u64 ((x+y+c)/18446744073709551616)])) w:=by
 rw [run_callFunc_extern Tryz.func50 (by kernel_rfl) (by kernel_rfl) (by kernel_rfl) (e:=add64Entry) (by kernel_rfl),run_add64 x y c hx hy hc0 hc]
 rfl
def sub64E:Array Value->Sem Value:=fun args=>do
 let (x,y,b) ← Extern.MathBitsCarry.three "Sub64" args
 pure (Extern.MathBitsCarry.pair ((x+Extern.MathBitsCarry.m64-y-b)%Extern.MathBitsCarry.m64) (if x<y+b then 1 else 0))
theorem run_sub64E (x y b:Nat) (hb:b<=1) (w:World) :
  (sub64E #[.int .u64 x,.int .u64 y,.int .u64 b]).run Tryz.prog w =
   .ok (.tuple #[.int .u64 (((x+18446744073709551616-y-b)%18446744073709551616:Nat):Int),.int .u64 ((if x<y+b then 1 else 0:Nat):Int)]) w:=by
 have:b=0∨b=1:=by omega
 rcases this with rfl | rfl <;> rfl
def bor (x y b:Int):Int:=if x<y+b then 1 else 0
theorem sub64 (x y b:Int) (hx:0<=x) (hy:0<=y) (hy':y<18446744073709551616) (hb0:0<=b) (hb:b<=1) (w:World):(callFunc 133 #[.int .u64 x,.int .u64 y,.int .u64 b]).run Tryz.prog w =
  .ok (.value (.tuple #[.int .u64 ((x-y-b)%18446744073709551616),.int .u64 (bor x y b)])) w:=by
 obtain ⟨x,rfl⟩:=Int.eq_ofNat_of_zero_le hx
 obtain ⟨y,rfl⟩:=Int.eq_ofNat_of_zero_le hy
 obtain ⟨b,rfl⟩:=Int.eq_ofNat_of_zero_le hb0
 have e1:(((x+18446744073709551616-y-b)%18446744073709551616:Nat):Int)=((x:Int)-y-b)%18446744073709551616:=by omega
 have e2:((if x<y+b then 1 else 0:Nat):Int)=bor x y b:=by unfold bor;split <;> split <;> omega
 rw [run_callFunc_extern Tryz.func133 (by kernel_rfl) (by kernel_rfl) (by kernel_rfl) (e:=sub64E) (by kernel_rfl),run_sub64E x y b (by omega),← e1,← e2]
 rfl
section
attribute [local go_sem ↓] Go.wp_at_zero Go.wp_at_succ
theorem setCell_drewN (w:World) (n:Nat) (a:Addr) (v:Value):(w.drewN n).setCell a v=(w.setCell a v).drewN n:=rfl
theorem alloc_drewN (w:World) (n:Nat) (o:Obj):(w.drewN n).alloc o=(w.alloc o).drewN n:=rfl
attribute [local go_sem] setCell_drewN alloc_drewN
def carryW (x y:Nat->Int):Nat->Int
 | 0=>0
 | k+1=>(x k+y k+carryW x y k)/18446744073709551616
def sumW (x y:Nat->Int) (k:Nat):Int:=(x k+y k+carryW x y k)%18446744073709551616
def Words (x:Nat->Int):Prop:=∀ i,0<=x i/\x i<=18446744073709551615
theorem carryW_01 {x y:Nat->Int} (hx:Words x) (hy:Words y) (k:Nat):0<=carryW x y k/\carryW x y k<=1:=by
 induction k with
 | zero=>simp [carryW]
 | succ k ih=>have:=hx k;have:=hy k;simp only [carryW];omega
def borW (x y:Nat->Int):Nat->Int
 | 0=>0
 | k+1=>bor (x k) (y k) (borW x y k)
def difW (x y:Nat->Int) (k:Nat):Int:=(x k-y k-borW x y k)%18446744073709551616
theorem bor_01 (x y b:Int):0<=bor x y b/\bor x y b<=1:=by unfold bor;split <;> omega
theorem borW_01 (x y:Nat->Int) (k:Nat):0<=borW x y k/\borW x y k<=1:=by
 cases k with
 | zero=>simp [borW]
 | succ k=>exact bor_01 _ _ _
theorem below_alloc4 (w:World) (o1 o2 o3 o4:Obj) (m:Nat):Below w.heap.size w ((((((w.alloc o1).alloc o2).alloc o3).alloc o4).drewN m)):=by
 have h:=((((Below.refl w.heap.size w).alloc (Nat.le_refl _) o1).alloc (by simp) o2).alloc (by simp;omega) o3).alloc (by simp;omega) o4
 exact ⟨h.os,h.tape,h.output,h.size,h.block⟩
theorem below_alloc3 (w:World) (o1 o2 o3:Obj) (m:Nat):Below w.heap.size w (((((w.alloc o1).alloc o2).alloc o3).drewN m)):=by
 have h:=(((Below.refl w.heap.size w).alloc (Nat.le_refl _) o1).alloc (by simp) o2).alloc (by simp;omega) o3
 exact ⟨h.os,h.tape,h.output,h.size,h.block⟩
theorem set_next {ss:Array Value} {k:Nat} {f:Nat->Int} (hss:∀ j h,ss[j]'h=Value.int .u64 (if j<k then f j else 0)) (j:Nat) (h:j<(ss.setIfInBounds k (.int .u64 (f k))).size):(ss.setIfInBounds k (.int .u64 (f k)))[j]'h=Value.int .u64 (if j<k+1 then f j else 0):=by
 have h':j<ss.size:=by simpa using h
 rw [Array.getElem_setIfInBounds]
 by_cases e:k=j
 ·subst e;simp
 ·rw [if_neg e,hss j h']
  by_cases e2:j<k
  ·simp [e2,Nat.lt_succ_of_lt e2]
  ·simp [e2,show ¬ j<k+1 by omega]
 exact h'
end
section
attribute [local go_sem] setCell_drewN alloc_drewN
theorem div64_0 (lo y:Int) (w:World) (hl:0<=lo/\lo<=18446744073709551615) (hy:0<y/\y<=18446744073709551615) :
  Calls Tryz.prog 92 #[.int .u64 0,.int .u64 lo,.int .u64 y] w fun e w'=>e=.returned (.tuple #[.int .u64 (lo/y),.int .u64 (lo%y)])/\∃ m,w'=w.drewN m:=by
 have hy0:¬ y=0:=by omega
 go_enter Tryz.func92,Tryz.ntmps92
 go_wp2
 go_quiet (fail)
 go_wp2
 go_ret2
 exact ⟨rfl,_,rfl⟩
def remJ (x:Nat->Int) (d:Int) (n:Nat):Nat->Int
 | 0=>0
 | j+1=>(remJ x d n j*18446744073709551616+x (n-1-j))%d
def quoW (x:Nat->Int) (d:Int) (n j:Nat):Int:=(remJ x d n (n-1-j)*18446744073709551616+x j)/d
theorem remJ_bd (x:Nat->Int) (d:Int) (n j:Nat) (hd:0<d):0<=remJ x d n j/\remJ x d n j<d:=by
 cases j with
 | zero=>exact ⟨Int.le_refl _,hd⟩
 | succ j=>exact ⟨Int.emod_nonneg _ (by omega),Int.emod_lt_of_pos _ hd⟩
theorem set_prev {ss:Array Value} {k:Nat} {f:Nat->Int} (hss:∀ j h,ss[j]'h=Value.int .u64 (if k+1<=j then f j else 0)) (j:Nat) (h:j<(ss.setIfInBounds k (.int .u64 (f k))).size):(ss.setIfInBounds k (.int .u64 (f k)))[j]'h=Value.int .u64 (if k<=j then f j else 0):=by
 have h':j<ss.size:=by simpa using h
 rw [Array.getElem_setIfInBounds]
 by_cases e:k=j
 ·subst e;simp
 ·rw [if_neg e,hss j h']
  by_cases e2:k<=j
  ·simp [e2,show k+1<=j by omega]
  ·simp [e2,show ¬ k+1<=j by omega]
 exact h'
theorem bcell {W w1:World} (hb:Below W.heap.size W w1):(∀ b o,b<W.heap.size->w1.cell? ⟨b,o,none⟩=W.cell? ⟨b,o,none⟩)/\(∀ b o,b<W.heap.size->w1.frozen? ⟨b,o,none⟩=W.frozen? ⟨b,o,none⟩) :=
 ⟨fun b o h=>hb.cell (p:=⟨b,o,none⟩) h,fun b o h=>hb.frozen (p:=⟨b,o,none⟩) h⟩
end
def Num (w:World) (a:Option Addr) (n c:Nat) (x:Nat->Int):Prop :=
 n<=c/\c<=maxLen/\Words x/\(∀ i,n<=i->x i=0)/\((a=none/\c=0)∨∃ b off,a=some ⟨b,off,none⟩/\b<w.heap.size/\∀ i,i<n->w.cell? ⟨b,off+i,none⟩=some (.int .u64 (x i)))
theorem Num.next {w w':World} {a:Option Addr} {n c:Nat} {x:Nat->Int} (h:Num w a n c x) (hb:Below w.heap.size w w'):Num w' a n c x:=by
 obtain ⟨h1,h2,h3,h4,h5⟩:=h
 refine ⟨h1,h2,h3,h4,?_⟩
 rcases h5 with h5 | ⟨b,off,h6,h7,h8⟩
 ·exact Or.inl h5
 ·exact Or.inr ⟨b,off,h6,Nat.lt_of_lt_of_le h7 hb.size,fun i hi=>(hb.cell (p:=⟨b,off+i,none⟩) h7).trans (h8 i hi)⟩
theorem Num.drewN {w:World} {a:Option Addr} {n c:Nat} {x:Nat->Int} (h:Num w a n c x) (m:Nat):Num (w.drewN m) a n c x:=h
theorem word_any (a:Option Addr) (n c i:Nat) (x:Nat->Int) (w:World) (h:Num w a n c x) :
  Calls Tryz.prog 46 #[.slice a n c,.int .i64 i] w fun e w'=>e=.returned (.int .u64 (x i))/\w'=w:=by
 obtain ⟨h1,h2,h3,h4,h5⟩:=h
 by_cases hi:i<n
 ·rcases h5 with ⟨rfl,rfl⟩ | ⟨b,off,rfl,hbs,hc⟩
  ·omega
  ·have hci:=hc i hi
   have hi':(i:Int)<n:=by omega
   clear hc h4 h3
   go_enter Tryz.func46,Tryz.ntmps46
   go_wp2
   go_ret
   exact ⟨rfl,rfl⟩
 ·have hz:=h4 i (by omega)
  have HZ:Hid (x i=0):=hz
  clear hz h4 h3 h5
  go_enter Tryz.func46,Tryz.ntmps46
  go_wp2
  go_ret
  exact ⟨ret_int HZ.out.symm,rfl⟩
def cmpL (x y:Nat->Int):Nat->Int
 | 0=>0
 | n+1=>if x n<y n then -1 else if y n<x n then 1 else cmpL x y n
theorem cmp_any (a a':Option Addr) (n c n' c':Nat) (x y:Nat->Int) (w:World) (hn:n<4294967296) (hn':n'<4294967296) (h:Num w a n c x) (h':Num w a' n' c' y) :
  Calls Tryz.prog 42 #[.slice a n c,.slice a' n' c'] w fun e w'=>e=.returned (.int .i64 (cmpL x y (max n n')))/\w'=w:=by
 have hw1:=fun i=>word_any a n c i x w h
 have hw2:=fun i=>word_any a' n' c' i y w h'
 clear h h'
 go_enter Tryz.func42,Tryz.ntmps42
 go_wp2
 go_loop [5,6,7] (fun t u6 u7=>∃ k:Nat,k<=max n n'/\cmpL x y k=cmpL x y (max n n')/\t=.int .i64 ((k:Int)-1)) (fun t _ _=>(intOf t+1).toNat)
 case atStart=>exact ⟨max n n',Nat.le_refl _,rfl,by go_num⟩
 case round =>
  obtain ⟨k,hk,hs,rfl⟩:=hrel
  by_cases h0:k=0
  ·subst h0
   have HS:Hid (cmpL x y (max n n')=0):=hs.symm
   clear hs
   go_wp2
   go_ret
   exact ⟨ret_int HS.out.symm,rfl⟩
  ·obtain ⟨j,rfl⟩:∃ j,k=j+1:=⟨k-1,by omega⟩
   have ej:((j+1:Nat):Int)-1=j:=by omega
   have hj:j<4294967296:=by omega
   rw [ej]
   have HS:Hid ((if x j<y j then -1 else if y j<x j then 1 else cmpL x y j)=cmpL x y (max n n')):=hs
   have hkm:j<=max n n':=by omega
   clear hs ej hk
   have hwa:=hw1 j
   have hwb:=hw2 j
   by_cases hlt:x j<y j
   ·have HR:Hid (cmpL x y (max n n')=-1):=by rw [← HS.out,if_pos hlt];rfl
    clear HS
    go_wp2_with (first | (go_at_call_of 46 (Value.slice a n c);refine hwa.mono ?_;rintro e w' ⟨rfl,rfl⟩) | (go_at_call_of 46 (Value.slice a' n' c');refine hwb.mono ?_;rintro e w' ⟨rfl,rfl⟩))
    go_ret
    exact ⟨ret_int HR.out.symm,rfl⟩
   ·by_cases hgt:y j<x j
    ·have HR:Hid (cmpL x y (max n n')=1):=by rw [← HS.out,if_neg hlt,if_pos hgt];rfl
     clear HS
     go_wp2_with (first | (go_at_call_of 46 (Value.slice a n c);refine hwa.mono ?_;rintro e w' ⟨rfl,rfl⟩) | (go_at_call_of 46 (Value.slice a' n' c');refine hwb.mono ?_;rintro e w' ⟨rfl,rfl⟩))
     go_ret
     exact ⟨ret_int HR.out.symm,rfl⟩
    ·have HR:Hid (cmpL x y j=cmpL x y (max n n')):=by rw [← HS.out,if_neg hlt,if_neg hgt];rfl
     clear HS
     go_wp2_with (first | (go_at_call_of 46 (Value.slice a n c);refine hwa.mono ?_;rintro e w' ⟨rfl,rfl⟩) | (go_at_call_of 46 (Value.slice a' n' c');refine hwb.mono ?_;rintro e w' ⟨rfl,rfl⟩))
     go_round
     case rel=>exact ⟨j,hkm,HR.out,by go_num⟩
     case measure=>simp [intOf]
theorem Tryz.info22:(Tryz.prog.info? 22).map (fun i=>(i.zero,i.size,i.bytes))=some (some (.int .u64 0),1,8):=by kernel_rfl
theorem num_of_owns {w w':World} {g k cap base:Nat} {x:Nat->Int} (hx:Words x) (hz:∀ i,k<=i->x i=0) (h:w'.ownsRow base 22 1 (.slice (some ⟨g,0,none⟩) k cap) k ((List.range k).map fun i=>Value.int .u64 (x i))) (hg:g<w'.heap.size):Num w' (some ⟨g,0,none⟩) k cap x:=by
 obtain ⟨hl,h⟩:=h
 rcases h with ⟨h,_⟩ | ⟨g',cap',cur,he,hb,hh,h1,h2,h3,h4⟩
 ·cases h
 ·cases he
  refine ⟨h1,h2,hx,hz,Or.inr ⟨g,0,rfl,hg,fun i hi=>?_⟩⟩
  rw [Nat.zero_add]
  have hcur:cur[i]?=some (.int .u64 (x i)):=by
   have:(cur.toList.take (k*1))[i]?=some (.int .u64 (x i)):=by rw [h4];simp [hi]
   rw [List.getElem?_take] at this
   simpa [hi] using this
  unfold World.cell?
  simp [hh,hcur]
theorem trim_some (b off n c:Nat) (x:Nat->Int) (w:World) (hn:n<4294967296) (h:Num w (some ⟨b,off,none⟩) n c x) :
  Calls Tryz.prog 44 #[.slice (some ⟨b,off,none⟩) n c] w fun e w'=>∃ g cap,e=.returned (.slice (some ⟨g,0,none⟩) (sizeL x n) cap)/\Num w' (some ⟨g,0,none⟩) (sizeL x n) cap x/\Below w.heap.size w w':=by
 obtain ⟨h1,h2,h3,h4,h5⟩:=h
 have hc:b<w.heap.size/\∀ i,i<n->w.cell? ⟨b,off+i,none⟩=some (.int .u64 (x i)):=by
  rcases h5 with ⟨h,_⟩ | ⟨b',off',h,hbs,hc⟩
  ·cases h
  ·cases h;exact ⟨hbs,hc⟩
 obtain ⟨hbs,hc⟩:=hc
 clear h5
 obtain ⟨i0,hi,hz0,hz1,hz2⟩:=info_parts Tryz.info22
 unfold maxLen at h2
 go_enter Tryz.func44,Tryz.ntmps44
 go_wp2
 go_loop [3] (fun t=>∃ k:Nat,k<=n/\sizeL x k=sizeL x n/\(∀ i,k<=i->x i=0)/\t=.int .i64 k) (fun t=>(intOf t).toNat)
 case atStart=>exact ⟨n,Nat.le_refl _,rfl,h4,rfl⟩
 case round =>
  obtain ⟨k,hk,hs,hz,rfl⟩:=hrel
  clear h4
  by_cases h0:k=0
  ·subst h0
   have HS:Hid (sizeL x n=0):=hs.symm
   have HN:Hid (Num (w.alloc (.cells #[] 22)) (some ⟨w.heap.size,0,none⟩) 0 0 x):=⟨Nat.le_refl _,by unfold maxLen;omega,h3,hz,Or.inr ⟨w.heap.size,0,rfl,by simp,fun i hi=>by omega⟩⟩
   clear hs hz hc h3
   go_wp2
   go_ret
   refine ⟨w.heap.size,0,?_,?_,(Below.refl _ _).alloc (Nat.le_refl _) _⟩
   ·rw [HS.out];rfl
   ·rw [HS.out];exact HN.out
  ·obtain ⟨j,rfl⟩:∃ j,k=j+1:=⟨k-1,by omega⟩
   have hcj:=hc j (by omega)
   by_cases hzj:x j=0
   ·have HS:Hid (sizeL x j=sizeL x n):=by
     have:sizeL x (j+1)=sizeL x j:=by simp [sizeL,hzj]
     exact this.symm.trans hs
    have HZ:Hid (∀ i,j<=i->x i=0):=fun i hji=>by
     by_cases e:i=j
     ·rw [e];exact hzj
     ·exact hz i (by omega)
    clear hs hz hc
    go_wp2
    go_round
    case rel=>exact ⟨j,by omega,HS.out,HZ.out,by go_num⟩
    case measure=>simp [intOf]
   ·have HS:Hid (sizeL x n=j+1):=by
     have:sizeL x (j+1)=j+1:=by simp [sizeL,hzj]
     exact hs.symm.trans this
    have HZ:Hid (∀ i,j+1<=i->x i=0):=hz
    have HC:Hid (∀ i,i<n->w.cell? ⟨b,off+i,none⟩=some (.int .u64 (x i))):=hc
    clear hs hz hc
    have HOWN:(w.alloc (.cells #[] 22)).ownsRow w.heap.size 22 1 (.slice (some ⟨w.heap.size,0,none⟩) 0 0) 0 [] :=
     ⟨rfl,Or.inr ⟨w.heap.size,0,#[],rfl,Nat.le_refl _,(MapKept.heap_alloc w _).1,Nat.le_refl _,by unfold maxLen;omega,rfl,rfl⟩⟩
    have HNEWS:∀ (q:Nat) (u:Value),((List.range (j+1)).map fun i=>Value.int .u64 (x i))[q]?=some u->(w.alloc (.cells #[] 22)).cell? ((⟨b,off,none⟩:Addr).add q)=some u:=by
     intro q u hq
     have hql:q<j+1:=by
      rcases Nat.lt_or_ge q (j+1) with h | h
      ·exact h
      ·rw [List.getElem?_eq_none (by simpa using h)] at hq;cases hq
     have e2:u=.int .u64 (x q):=by simpa [hql] using hq.symm
     rw [e2]
     have ea:(⟨b,off,none⟩:Addr).add q=⟨b,off+q,none⟩:=by simp [Addr.add]
     rw [ea]
     exact (((Below.refl w.heap.size w).alloc (Nat.le_refl _) _).cell (p:=⟨b,off+q,none⟩) hbs).trans (HC.out q (by omega))
    have HONE:∀ u ∈ ((List.range (j+1)).map fun i=>Value.int .u64 (x i)),u.oneCell'=true:=by
     intro u hu
     obtain ⟨q,_,rfl⟩:=List.mem_map.1 hu
     rfl
    go_wp2_with (at_builtin;refine wpList_append_lies _ rfl (.tmp 18) (.tmp 21) 48 rfl w.heap.size 22 i0 (.int .u64 0) 1 8 Tryz.underlying48 hi hz0 hz1 hz2 rfl (by decide) (.slice (some ⟨w.heap.size,0,none⟩) 0 0) 0 [] rfl HOWN ⟨b,off,none⟩ (j+1) c ((List.range (j+1)).map fun i=>Value.int .u64 (x i)) rfl (by simp) HNEWS HONE (by omega) (by unfold maxLen;omega) (by omega) (by simp) (w.heap.size+1) (by simp) ?_;intro g cap w1 hown hgrow hat hlt;clear HOWN HNEWS HONE)
    have hown':w1.ownsRow w.heap.size 22 1 (.slice (some ⟨g,0,none⟩) (j+1) cap) (j+1) ((List.range (j+1)).map fun i=>Value.int .u64 (x i)):=by
     have e0:0+(j+1)=j+1:=by omega
     rw [e0] at hown
     simpa using hown
    have HN:=num_of_owns (w:=w) h3 HZ.out hown' hlt
    have HB:Below w.heap.size w w1:=((Below.refl _ _).alloc (Nat.le_refl _) _).grown hgrow (by simp) (by intro k hk;cases hk;exact Nat.le_refl _)
    clear hown hown' hgrow
    go_wp2
    go_ret
    refine ⟨g,cap,?_,?_,HB⟩
    ·rw [HS.out];simp
    ·rw [HS.out];exact HN
theorem trim_nil (x:Nat->Int) (w:World) (hx:∀ i,x i=0) :
  Calls Tryz.prog 44 #[.slice none 0 0] w fun e w'=>∃ g cap,e=.returned (.slice (some ⟨g,0,none⟩) 0 cap)/\Num w' (some ⟨g,0,none⟩) 0 cap x/\Below w.heap.size w w':=by
 go_enter Tryz.func44,Tryz.ntmps44
 go_wp2
 go_loop [3] (fun t=>t=.int .i64 0) (fun t=>(intOf t).toNat)
 case atStart=>rfl
 case round =>
  subst hrel
  go_wp2
  go_ret
  refine ⟨w.heap.size,0,rfl,?_,(Below.refl _ _).alloc (Nat.le_refl _) _⟩
  exact ⟨Nat.le_refl _,by unfold maxLen;omega,fun i=>by rw [hx i];decide,fun i _=>hx i,Or.inr ⟨w.heap.size,0,rfl,by simp,fun i hi=>by omega⟩⟩
theorem trim_any (a:Option Addr) (n c:Nat) (x:Nat->Int) (w:World) (hn:n<4294967296) (h:Num w a n c x) :
  Calls Tryz.prog 44 #[.slice a n c] w fun e w'=>∃ g cap,e=.returned (.slice (some ⟨g,0,none⟩) (sizeL x n) cap)/\Num w' (some ⟨g,0,none⟩) (sizeL x n) cap x/\Below w.heap.size w w':=by
 have h':=h
 obtain ⟨h1,h2,h3,h4,h5⟩:=h'
 rcases h5 with ⟨rfl,rfl⟩ | ⟨b,off,rfl,_,_⟩
 ·obtain rfl:n=0:=by omega
  exact trim_nil x w (fun i=>h4 i (Nat.zero_le _))
 ·exact trim_some b off n c x w hn h
def dlG (n:Nat):Nat:=n/100/8*4+n/10%10/8*2+n%10/8
def dlR (g:Nat):Nat×Nat×Nat :=
 if g=0 then (10,11,22) else if g=1 then (10,11,4) else if g=2 then (10,12,5) else if g=4 then (12,11,6) else if g=3 then (10,2,7) else if g=5 then (11,1,7) else if g=6 then (12,0,7) else (0,3,7)
def dlT (n r:Nat):Nat:=if 10<=r then (if r%10=0 then n/100 else if r%10=1 then n/10%10 else n%10)/2%4 else r
def dlE (n:Nat):Nat:=dlT n (dlR (dlG n)).1*256+n/100%2*128+dlT n (dlR (dlG n)).2.1*32+n/10%10%2*16+dlT n (dlR (dlG n)).2.2*2+n%10%2
def dlM (d n:Nat):Bool:=dlE n == d || (d/32%4 == 3 && d/2%8 == 7 && dlE n == d%256)
def dlD (d:Nat):Nat :=
 let a:=d/128;let b:=d/16%8;let x:=d%2
 let p:=d/256;let q:=d/128%2;let s:=d/32%4;let t:=d/16%2
 if d/8%2=0 then a*100+b*10+d%8
 else if d/2%4=0 then a*100+b*10+(8+x)
 else if d/2%4=1 then a*100+(8+t)*10+(s*2+x)
 else if d/2%4=2 then (8+q)*100+b*10+(p*2+x)
 else if s=0 then (8+q)*100+(8+t)*10+(p*2+x)
 else if s=1 then (8+q)*100+(p*2+t)*10+(8+x)
 else if s=2 then a*100+(8+t)*10+(8+x)
 else (8+q)*100+(8+t)*10+(8+x)
def upTo (f:Nat->Bool):Nat->Bool
 | 0=>true
 | i+1=>f i && upTo f i
theorem upTo_all {f:Nat->Bool}:∀ {m:Nat},upTo f m=true->∀ i,i<m->f i=true
 | 0,_,i,hi=>absurd hi (Nat.not_lt_zero i)
 | m+1,h,i,hi=>by
  unfold upTo at h
  rw [Bool.and_eq_true] at h
  rcases Nat.lt_succ_iff_lt_or_eq.1 hi with h1 | h1
  ·exact upTo_all h.2 i h1
  ·rw [h1];exact h.1
theorem dl_back:∀ n,n<1000->dlD (dlE n)=n/\dlE n<1024:=fun n hn=>by
 have h:=upTo_all (f:=fun n=>decide (dlD (dlE n)=n/\dlE n<1024)) (m:=1000) (by decide +kernel) n hn
 exact of_decide_eq_true h
theorem dl_means:∀ d,d<1024->dlD d<1000/\dlM d (dlD d)=true/\(d/32%4=3->d/2%8=7->dlD (d%256)=dlD d):=fun d hd=>by
 have h:=upTo_all (f:=fun d=>decide (dlD d<1000/\dlM d (dlD d)=true/\(d/32%4=3->d/2%8=7->dlD (d%256)=dlD d))) (m:=1024) (by decide +kernel) d hd
 exact of_decide_eq_true h
theorem dl_only {d n:Nat} (hd:d<1024) (hn:n<1000):dlM d n=true↔n=dlD d:=by
 constructor
 ·intro h
  unfold dlM at h
  rw [Bool.or_eq_true,Bool.and_eq_true,Bool.and_eq_true] at h
  have hb:=(dl_back n hn).1
  rcases h with h | ⟨⟨h1,h2⟩,h3⟩
  ·rw [beq_iff_eq] at h
   rw [← hb,h]
  ·rw [beq_iff_eq] at h1 h2 h3
   rw [← hb,h3]
   exact (dl_means d hd).2.2 h1 h2
 ·rintro rfl
  exact (dl_means d hd).2.1
/-! declets in a row -/
def dlP:Nat->Nat->Nat
 | 0,_=>0
 | c+1,a=>dlE (a%1000)+1024*dlP c (a/1000)
def dlU:Nat->Nat->Nat
 | 0,_=>0
 | c+1,b=>dlD (b%1024)+1000*dlU c (b/1024)
theorem dlP_lt:∀ (c a:Nat),dlP c a<1024^c
 | 0,a=>by unfold dlP;decide
 | c+1,a=>by
  unfold dlP
  have h1:=(dl_back (a%1000) (Nat.mod_lt _ (by decide))).2
  have h2:=dlP_lt c (a/1000)
  rw [Nat.pow_succ]
  omega
theorem dlU_lt:∀ (c b:Nat),dlU c b<1000^c
 | 0,b=>by unfold dlU;decide
 | c+1,b=>by
  unfold dlU
  have h1:=(dl_means (b%1024) (Nat.mod_lt _ (by decide))).1
  have h2:=dlU_lt c (b/1024)
  rw [Nat.pow_succ]
  omega
theorem dl_there:∀ (c a:Nat),a<1000^c->dlU c (dlP c a)=a
 | 0,a,h=>by
  rw [Nat.pow_zero] at h
  unfold dlU
  omega
 | c+1,a,h=>by
  unfold dlU dlP
  obtain ⟨h1,h2⟩:=dl_back (a%1000) (Nat.mod_lt _ (by decide))
  rw [Nat.add_mul_mod_self_left,Nat.mod_eq_of_lt h2,h1,Nat.add_mul_div_left _ _ (by decide),Nat.div_eq_of_lt h2,Nat.zero_add,dl_there c (a/1000) (by rw [Nat.pow_succ] at h;omega)]
  omega
def dPv (C:Nat) (n:Int):Nat:=if 0<=n/\n<=11 then (if C<1000^n.toNat then dlP n.toNat C else 0) else 0
def dPe (C:Nat) (n:Int):Int:=if 0<=n/\n<=11 then (if C<1000^n.toNat then 0 else 3) else 1
def dUv (B:Nat) (n:Int):Nat:=if 0<=n/\n<=11 then (if B<1024^n.toNat then dlU n.toNat B else 0) else 0
def dUe (B:Nat) (n:Int):Int:=if 0<=n/\n<=11 then (if B<1024^n.toNat then 0 else 3) else 1
theorem dlP_snoc:∀ (c a:Nat),dlP (c+1) a=dlP c a+dlE (a/1000^c%1000)*1024^c
 | 0,a=>by
  show dlE (a%1000)+1024*dlP 0 (a/1000)=dlP 0 a+_
  rw [show dlP 0 (a/1000)=0 from rfl,show dlP 0 a=0 from rfl]
  simp
 | c+1,a=>by
  show dlE (a%1000)+1024*dlP (c+1) (a/1000)=(dlE (a%1000)+1024*dlP c (a/1000))+_
  rw [dlP_snoc c (a/1000),Nat.div_div_eq_div_mul,show 1000*1000^c=1000^(c+1) by rw [Nat.pow_succ,Nat.mul_comm],Nat.pow_succ 1024 c,Nat.mul_add,Nat.mul_comm 1024 (dlE _*_),Nat.mul_assoc,Nat.add_assoc]
theorem dlP_256 (c a:Nat) (hc:c<=11):dlP c a<2^256:=by
 have h:=dlP_lt c a
 have h2:(1024:Nat)^c<=1024^11:=Nat.pow_le_pow_right (by decide) hc
 have h3:(1024:Nat)^11<2^256:=by decide
 omega
theorem dlU_256 (c a:Nat) (hc:c<=11):dlU c a<2^256:=by
 have h:=dlU_lt c a
 have h2:(1000:Nat)^c<=1000^11:=Nat.pow_le_pow_right (by decide) hc
 have h3:(1000:Nat)^11<2^256:=by decide
 omega
theorem dlU_step:∀ (c b:Nat),dlU (c+1) b=dlU c (b/1024)*1000+dlD (b%1024):=fun c b=>by
 show dlD (b%1024)+1000*dlU c (b/1024)=_
 omega
theorem made_zero (k:Nat):madeCells (Value.int .u64 0).cells k=arrOf (fun _=>0) k:=by
 apply Array.ext
 ·simp [madeCells]
 ·intro i h1 h2
  rw [arrOf_get]
  simp [madeCells,Value.cells,Nat.mod_one]
theorem make_any (L:Int) (k:Nat) (hL:L=k) (hk:k<8589934592) (w:World):(Instr.makeSlice 48 (.int .i64 L) (.int .i64 L)).run Tryz.prog w=.ok (.slice (some ⟨w.heap.size,0,none⟩) k k) (w.alloc (.cells (arrOf (fun _=>0) k) 22)):=by
 obtain ⟨i0,hi,hz0,hz1,hz2⟩:=info_parts Tryz.info22
 rw [run_make w 48 22 i0 (.int .u64 0) Tryz.underlying48 hi hz0 .i64 .i64 L L (by omega) (by omega) (by rw [hz2];omega) (by omega)]
 have e1:L.toNat=k:=by omega
 rw [e1,hz1,Nat.mul_one,made_zero]
theorem num_of_block {w:World} {k:Nat} {x:Nat->Int} {ss:Array Value} (hk:k<8589934592) (hx:Words x) (hz:∀ i,k<=i->x i=0) (hsz:ss.size=k) (hss:∀ j h,ss[j]'h=Value.int .u64 (x j)):Num (w.alloc (.cells ss 22)) (some ⟨w.heap.size,0,none⟩) k k x:=by
 refine ⟨Nat.le_refl _,by unfold maxLen;omega,hx,hz,Or.inr ⟨w.heap.size,0,rfl,by simp,fun i hi=>?_⟩⟩
 rw [Nat.zero_add,World.cell?_alloc_new,Array.getElem?_eq_getElem (by omega),hss i (by omega)]
theorem below1 (w:World) (o:Obj):Below w.heap.size w (w.alloc o):=(Below.refl _ _).alloc (Nat.le_refl _) _
theorem sumW_words (x y:Nat->Int):Words (sumW x y):=fun i=>⟨Int.emod_nonneg _ (by decide),by have:=Int.emod_lt_of_pos (x i+y i+carryW x y i) (b:=18446744073709551616) (by decide);unfold sumW;omega⟩
theorem sumW_zero {x y:Nat->Int} {n:Nat} (hx:Words x) (hy:Words y) (zx:∀ i,n<=i->x i=0) (zy:∀ i,n<=i->y i=0):∀ i,n+1<=i->sumW x y i=0:=by
 have hc:∀ j,n+1<=j->carryW x y j=0:=by
  intro j hj
  obtain ⟨q,rfl⟩:∃ q,j=q+1:=⟨j-1,by omega⟩
  have:=carryW_01 hx hy q
  simp only [carryW];rw [zx q (by omega),zy q (by omega)];omega
 intro i hi
 unfold sumW
 rw [zx i (by omega),zy i (by omega),hc i hi];rfl
theorem difW_words (x y:Nat->Int):Words (difW x y):=fun i=>⟨Int.emod_nonneg _ (by decide),by have:=Int.emod_lt_of_pos (x i-y i-borW x y i) (b:=18446744073709551616) (by decide);unfold difW;omega⟩
def difZ (x y:Nat->Int) (M i:Nat):Int:=if i<M then difW x y i else 0
theorem difZ_words (x y:Nat->Int) (M:Nat):Words (difZ x y M):=fun i=>by unfold difZ;split;exact difW_words x y i;decide
theorem radd_any (a a':Option Addr) (n c n' c':Nat) (x y:Nat->Int) (w:World) (hn:n<4294967290) (hn':n'<4294967290) (h:Num w a n c x) (h':Num w a' n' c' y) :
  Calls Tryz.prog 48 #[.slice a n c,.slice a' n' c'] w fun e w'=>∃ g k cap,e=.returned (.slice (some ⟨g,0,none⟩) k cap)/\k<=max n n'+1/\Num w' (some ⟨g,0,none⟩) k cap (sumW x y)/\Below w.heap.size w w':=by
 have hx:=h.2.2.1
 have hy:=h'.2.2.1
 have zx:=h.2.2.2.1
 have zy:=h'.2.2.2.1
 obtain ⟨M,hM⟩:∃ M,max n n'+1=M:=⟨_,rfl⟩
 have hMi:max (n:Int) n'+1=(M:Int):=by omega
 have hMb:M<4294967292:=by omega
 have hmk:=fun w=>make_any (max (n:Int) n'+1) M hMi (by omega) w
 have hfin:∀ (ss:Array Value),ss.size=M->(∀ j h,ss[j]'h=Value.int .u64 (sumW x y j))->Num (w.alloc (.cells ss 22)) (some ⟨w.heap.size,0,none⟩) M M (sumW x y):=fun ss h1 h2=>num_of_block (by omega) (sumW_words x y) (fun i hi=>sumW_zero (n:=max n n') hx hy (fun i hi=>zx i (by omega)) (fun i hi=>zy i (by omega)) i (by omega)) h1 (fun j hj=>by rw [h2 j hj])
 have hw1:=fun (i:Nat) (ss:Array Value)=>word_any a n c i x (w.alloc (.cells ss 22)) (h.next (below1 w _))
 have hw2:=fun (i:Nat) (ss:Array Value)=>word_any a' n' c' i y (w.alloc (.cells ss 22)) (h'.next (below1 w _))
 have HM:Hid (max n n'+1=M):=hM
 have HZ:Hid ((arrOf (fun _=>0) M).size=M/\∀ j h,(arrOf (fun _=>0) M)[j]'h=Value.int .u64 0):=⟨arrOf_size _ _,fun j h=>arrOf_get _ _ _ _⟩
 clear h h' zx zy hM hMi
 generalize arrOf (fun _=>0) M=zz at *
 go_enter Tryz.func48,Tryz.ntmps48
 go_wp2
 go_loopw [6,7,17,20] (fun c u7 i u20 wr=>∃ (k:Nat) (ss:Array Value),k<=M/\i=.int .i64 k/\c=.int .u64 (carryW x y k)/\ss.size=M/\(∀ j h,ss[j]'h=Value.int .u64 (if j<k then sumW x y j else 0))/\wr=w.alloc (.cells ss 22)) (fun _ _ i _ _=>M-(intOf i).toNat)
 case atStart=>exact ⟨0,zz,Nat.zero_le _,rfl,rfl,HZ.out.1,fun j h=>by rw [HZ.out.2 j h];simp,rfl⟩
 case round =>
  obtain ⟨k,ss,hk,rfl,rfl,hsz,hss,rfl⟩:=hrel
  have hcar:=carryW_01 hx hy k
  by_cases h8:k<M
  ·have h8i:(k:Int)<M:=by omega
   have h8s:k<ss.size:=by omega
   have bx:=hx k
   have b_y:=hy k
   have hsk:ss[k]?=some (.int .u64 0):=by rw [Array.getElem?_eq_getElem h8s,hss k h8s,if_neg (by omega)]
   have hadd:=fun w=>add64 (x k) (y k) (carryW x y k) bx.1 b_y.1 hcar.1 hcar.2 w
   have hwa:=hw1 k ss
   have hwb:=hw2 k ss
   have HR:Hid (∀ (i:Nat) (h:i<(ss.setIfInBounds k (.int .u64 (sumW x y k))).size),(ss.setIfInBounds k (.int .u64 (sumW x y k)))[i]'h=Value.int .u64 (if i<k+1 then sumW x y i else 0)):=set_next hss
   clear hss hw1 hw2 hfin hmk hx hy
   go_wp2_with (first | (go_at_call_of 46 (Value.slice a n c);refine hwa.mono ?_;rintro e w' ⟨rfl,rfl⟩) | (go_at_call_of 46 (Value.slice a' n' c');refine hwb.mono ?_;rintro e w' ⟨rfl,rfl⟩))
   go_roundw
   case rel=>exact ⟨k+1,ss.setIfInBounds k (.int .u64 (sumW x y k)),by omega,by go_num,rfl,by simp [hsz],HR.out,rfl⟩
   case measure=>simp [intOf];omega
  ·obtain rfl:k=M:=by omega
   have hss':∀ j h,ss[j]'h=Value.int .u64 (sumW x y j):=by
    intro j h;rw [hss j h,if_pos (by omega)]
   have hT:=trim_any _ _ _ _ _ (by omega) (hfin ss hsz hss')
   have hle:=sizeL_le (sumW x y) k
   clear hss hss' hw1 hw2 hfin hmk hx hy
   go_wp2_with (go_at_call 44;refine hT.mono ?_;rintro e w1 ⟨g,cap,rfl,hN,hB⟩)
   go_ret
   exact ⟨g,_,cap,rfl,Nat.le_trans hle (Nat.le_of_eq HM.out.symm),hN,(below1 w _).trans (hB.mono (by simp))⟩
section
attribute [local go_sem ↓] Go.wp_at_zero Go.wp_at_succ
attribute [local go_sem] setCell_drewN alloc_drewN
def orW (a b:Int):Int:=bits BinOp.or IntKind.u64 a b
theorem orW_eq (a b:Int) (ha:0<=a/\a<=18446744073709551615) (hb:0<=b/\b<=18446744073709551615):orW a b=((a.toNat ||| b.toNat:Nat):Int):=u64_or a b ha.1 (by omega) hb.1 (by omega)
theorem orW_comm (a b:Int) (ha:0<=a/\a<=18446744073709551615) (hb:0<=b/\b<=18446744073709551615):orW a b=orW b a:=by
 rw [orW_eq a b ha hb,orW_eq b a hb ha,Nat.or_comm]
theorem orW_zero (a:Int) (ha:0<=a/\a<=18446744073709551615):orW a 0=a:=by
 rw [orW_eq a 0 ha (by decide)];simp;omega
theorem zero_orW (a:Int) (ha:0<=a/\a<=18446744073709551615):orW 0 a=a:=by
 rw [orW_eq 0 a (by decide) ha];simp;omega
theorem orW_word (a b:Int) (ha:0<=a/\a<=18446744073709551615) (hb:0<=b/\b<=18446744073709551615):0<=orW a b/\orW a b<=18446744073709551615:=by
 rw [orW_eq a b ha hb]
 have:a.toNat ||| b.toNat<2^64:=Nat.or_lt_two_pow (by omega) (by omega)
 omega
theorem wrap_word (a:Int):0<=IntKind.u64.wrap a/\IntKind.u64.wrap a<=18446744073709551615:=by
 simp only [IntKind.wrap,IntKind.bits,IntKind.signed]
 have h1:=Int.emod_nonneg a (b:=18446744073709551616) (by decide)
 have h2:=Int.emod_lt_of_pos a (b:=18446744073709551616) (by decide)
 simp;omega
theorem wrap_id (a:Int) (ha:0<=a/\a<=18446744073709551615):IntKind.u64.wrap a=a:=by
 simp only [IntKind.wrap,IntKind.bits,IntKind.signed]
 simp;omega
theorem div_word (a:Int) (e:Nat) (ha:0<=a/\a<=18446744073709551615):0<=a/2^e/\a/2^e<=18446744073709551615:=by
 have hp:(0:Int)<2^e:=Int.pow_pos (by decide)
 have h1:=Int.ediv_nonneg ha.1 (Int.le_of_lt hp)
 have h2:=Int.ediv_le_self (2^e) ha.1
 omega
def lowp (x:Nat->Int) (q r j:Nat):Int:=if q+1<=j/\0<r then x (j-q-1)/2^(64-r) else 0
def finL (x:Nat->Int) (q r j:Nat):Int:=if q<=j then orW (lowp x q r j) (IntKind.u64.wrap (x (j-q)*2^r)) else 0
def stL (x:Nat->Int) (q r k j:Nat):Int:=if j<q+k then finL x q r j else if j=q+k then lowp x q r j else 0
theorem lowp_word {x:Nat->Int} (hx:Words x) (q r j:Nat):0<=lowp x q r j/\lowp x q r j<=18446744073709551615:=by
 unfold lowp;split
 ·exact div_word _ _ (hx _)
 ·decide
theorem finL_words {x:Nat->Int} (hx:Words x) (q r:Nat):Words (finL x q r):=fun j=>by
 unfold finL;split
 ·exact orW_word _ _ (lowp_word hx q r j) (wrap_word _)
 ·decide
theorem finL_zero {x:Nat->Int} {n:Nat} (hx:Words x) (zx:∀ i,n<=i->x i=0) (q r:Nat) (hr:r<64):∀ j,n+q+1<=j->finL x q r j=0:=by
 intro j hj
 unfold finL
 rw [if_pos (by omega),zx (j-q) (by omega)]
 have:lowp x q r j=0:=by
  unfold lowp;split
  ·rw [zx (j-q-1) (by omega)];simp
  ·rfl
 rw [this,Int.zero_mul,wrap_id 0 (by decide),orW_zero 0 (by decide)]
theorem stL_end {x:Nat->Int} {n:Nat} (hx:Words x) (zx:∀ i,n<=i->x i=0) (q r j:Nat) (hj:j<n+q+1):stL x q r n j=finL x q r j:=by
 unfold stL
 by_cases h:j<q+n
 ·rw [if_pos h]
 ·obtain rfl:j=q+n:=by omega
  rw [if_neg h,if_pos rfl]
  unfold finL
  rw [if_pos (by omega),zx (q+n-q) (by omega),Int.zero_mul,wrap_id 0 (by decide),orW_zero _ (lowp_word hx q r _)]
theorem stL_step0 {x:Nat->Int} {q k:Nat} {ss:Array Value} (hss:∀ j h,ss[j]'h=Value.int .u64 (stL x q 0 k j)) (j:Nat) (h:j<(ss.setIfInBounds (k+q) (.int .u64 (finL x q 0 (q+k)))).size):(ss.setIfInBounds (k+q) (.int .u64 (finL x q 0 (q+k))))[j]'h=Value.int .u64 (stL x q 0 (k+1) j):=by
 have h':j<ss.size:=by simpa using h
 rw [Array.getElem_setIfInBounds]
 by_cases e:k+q=j
 ·subst e;rw [if_pos rfl];unfold stL;rw [if_pos (by omega),Nat.add_comm]
 ·rw [if_neg e,hss j h']
  unfold stL
  by_cases e2:j<q+k
  ·rw [if_pos e2,if_pos (by omega)]
  ·rw [if_neg e2,if_neg (by omega),if_neg (by omega)]
   have:lowp x q 0 j=0:=by unfold lowp;rw [if_neg (by omega)]
   rw [this];split <;> rfl
 exact h'
theorem stL_step1 {x:Nat->Int} {q r k:Nat} (hr:0<r) {ss:Array Value} (hss:∀ j h,ss[j]'h=Value.int .u64 (stL x q r k j)) (j:Nat) (h:j<((ss.setIfInBounds (k+q) (.int .u64 (finL x q r (q+k)))).setIfInBounds (k+q+1) (.int .u64 (x k/2^(64-r)))).size):((ss.setIfInBounds (k+q) (.int .u64 (finL x q r (q+k)))).setIfInBounds (k+q+1) (.int .u64 (x k/2^(64-r))))[j]'h=Value.int .u64 (stL x q r (k+1) j):=by
 have h':j<ss.size:=by simpa using h
 rw [Array.getElem_setIfInBounds (by simpa using h')]
 by_cases e0:k+q+1=j
 ·subst e0;rw [if_pos rfl];unfold stL;rw [if_neg (by omega),if_pos (by omega)];unfold lowp;rw [if_pos ⟨by omega,hr⟩,show k+q+1-q-1=k by omega]
 ·rw [if_neg e0,Array.getElem_setIfInBounds h']
  by_cases e:k+q=j
  ·subst e;rw [if_pos rfl];unfold stL;rw [if_pos (by omega),Nat.add_comm]
  ·rw [if_neg e,hss j h']
   unfold stL
   by_cases e2:j<q+k
   ·rw [if_pos e2,if_pos (by omega)]
   ·rw [if_neg e2,if_neg (by omega),if_neg (by omega),if_neg (by omega)]
theorem left_z (b off n c q:Nat) (s:Int) (x:Nat->Int) (w:World) (hn:n<4000000000) (hq0:q<100000) (hq:s/64=q) (hr:s%64=0) (hs:0<=s) (h:Num w (some ⟨b,off,none⟩) n c x) :
  Calls Tryz.prog 95 #[.slice (some ⟨b,off,none⟩) n c,.int .i64 s] w fun e w'=>∃ g k cap,e=.returned (.slice (some ⟨g,0,none⟩) k cap)/\k<=n+q+1/\Num w' (some ⟨g,0,none⟩) k cap (finL x q 0)/\Below w.heap.size w w':=by
 have hx:=h.2.2.1
 have zx:=h.2.2.2.1
 have hc:b<w.heap.size/\∀ i,i<n->w.cell? ⟨b,off+i,none⟩=some (.int .u64 (x i)):=by
  rcases h.2.2.2.2 with ⟨h,_⟩ | ⟨b',off',h,hbs,hc⟩
  ·cases h
  ·cases h;exact ⟨hbs,hc⟩
 obtain ⟨hbs,hc⟩:=hc
 have hcap:=h.1
 have hs6:s<6400064:=by omega
 obtain ⟨M,hM⟩:∃ M,n+q+1=M:=⟨_,rfl⟩
 have hMi:(n:Int)+q+1=(M:Int):=by omega
 have hmk:=fun w=>make_any ((n:Int)+q+1) M hMi (by omega) w
 have hfin:∀ (ss:Array Value) (m:Nat),ss.size=M->(∀ j h,ss[j]'h=Value.int .u64 (stL x q 0 n j))->Num ((w.alloc (.cells ss 22)).drewN m) (some ⟨w.heap.size,0,none⟩) M M (finL x q 0):=fun ss m h1 h2=>(num_of_block (by omega) (finL_words hx q 0) (fun i hi=>finL_zero hx zx q 0 (by omega) i (by omega)) h1 (fun j hj=>by rw [h2 j hj,stL_end hx zx q 0 j (by omega)])).drewN m
 have HM:Hid (n+q+1=M):=hM
 have HZ:Hid ((arrOf (fun _=>0) M).size=M/\∀ j h,(arrOf (fun _=>0) M)[j]'h=Value.int .u64 0):=⟨arrOf_size _ _,fun j h=>arrOf_get _ _ _ _⟩
 have hcw:∀ (ss:Array Value) i,i<n->(w.alloc (.cells ss 22)).cell? ⟨b,off+i,none⟩=some (.int .u64 (x i)):=fun ss i hi=>((below1 w _).cell (p:=⟨b,off+i,none⟩) hbs).trans (hc i hi)
 clear h zx hMi hc
 generalize arrOf (fun _=>0) M=zz at *
 go_enter Tryz.func95,Tryz.ntmps95
 go_wp2
 go_loopw [6,16] (fun u6 i wr=>∃ (k m:Nat) (ss:Array Value),k<=n/\i=.int .i64 k/\ss.size=M/\(∀ j h,ss[j]'h=Value.int .u64 (stL x q 0 k j))/\wr=(w.alloc (.cells ss 22)).drewN m) (fun _ i _=>n-(intOf i).toNat)
 case atStart=>exact ⟨0,0,zz,Nat.zero_le _,rfl,HZ.out.1,fun j h=>by rw [HZ.out.2 j h];unfold stL;(by_cases e:j<q+0);(rw [if_pos e];unfold finL;rw [if_neg (by omega)]);(rw [if_neg e];split;(unfold lowp;rw [if_neg (by omega)]);rfl),rfl⟩
 case round =>
  obtain ⟨k,m,ss,hk,rfl,hsz,hss,rfl⟩:=hrel
  by_cases h8:k<n
  ·have h8i:(k:Int)<n:=by omega
   have h8s:k+q<ss.size:=by omega
   have h8t:(k:Int)+q<M:=by omega
   have h8u:(k:Int)+q+1<M:=by omega
   have bx:=hx k
   have hcx:=hcw ss k h8
   have hsk:ss[k+q]?=some (.int .u64 (lowp x q 0 (q+k))):=by rw [Array.getElem?_eq_getElem h8s,hss _ h8s];unfold stL;rw [if_neg (by omega),if_pos (by omega),Nat.add_comm]
   have hgo:∀ h,ss[k+q]'h=.int .u64 (lowp x q 0 (q+k)):=fun h=>by rw [hss _ h];unfold stL;rw [if_neg (by omega),if_pos (by omega),Nat.add_comm]
   have hlow:=lowp_word hx q 0 (q+k)
   have e1:((k:Int)+q).toNat=k+q:=by omega
   have e2:((k:Int)+q+1).toNat=k+q+1:=by omega
   have HF:Hid (finL x q 0 (q+k)=bits BinOp.or IntKind.u64 (lowp x q 0 (q+k)) (x k)):=by
    show _=_;unfold finL;rw [if_pos (by omega),show q+k-q=k by omega];simp [orW,wrap_id _ bx]
   have HR:Hid (∀ (i:Nat) (h:i<(ss.setIfInBounds (k+q) (.int .u64 (finL x q 0 (q+k)))).size),(ss.setIfInBounds (k+q) (.int .u64 (finL x q 0 (q+k))))[i]'h=Value.int .u64 (stL x q 0 (k+1) i)):=stL_step0 hss
   clear hss hfin hmk hx
   generalize hlo:lowp x q 0 (q+k)=lo at *
   clear hcw
   go_wp2
   go_region
   go_wp2
   go_roundw
   case rel=>refine ⟨k+1,m+1,ss.setIfInBounds (k+q) (.int .u64 (finL x q 0 (q+k))),by omega,by go_num,by simp [hsz],HR.out,?_⟩;rw [HF.out]
   case measure=>simp [intOf];omega
  ·obtain rfl:k=n:=by omega
   have hT:=trim_any _ _ _ _ _ (by omega) (hfin ss m hsz hss)
   have hle:=sizeL_le (finL x q 0) M
   clear hss hfin hmk hx hcw
   go_wp2_with (go_at_call 44;refine hT.mono ?_;rintro e w1 ⟨g,cap,rfl,hN,hB⟩)
   go_ret
   exact ⟨g,_,cap,rfl,Nat.le_trans hle (Nat.le_of_eq HM.out.symm),hN,(below_drewN (below1 w _) m).trans (hB.mono (by simp))⟩
theorem left_p (b off n c q r:Nat) (s:Int) (x:Nat->Int) (w:World) (hn:n<4000000000) (hq0:q<100000) (hr0:r<64) (hrp:0<r) (hq:s/64=q) (hr:s%64=r) (hs:0<=s) (h:Num w (some ⟨b,off,none⟩) n c x) :
  Calls Tryz.prog 95 #[.slice (some ⟨b,off,none⟩) n c,.int .i64 s] w fun e w'=>∃ g k cap,e=.returned (.slice (some ⟨g,0,none⟩) k cap)/\k<=n+q+1/\Num w' (some ⟨g,0,none⟩) k cap (finL x q r)/\Below w.heap.size w w':=by
 have hx:=h.2.2.1
 have zx:=h.2.2.2.1
 have hc:b<w.heap.size/\∀ i,i<n->w.cell? ⟨b,off+i,none⟩=some (.int .u64 (x i)):=by
  rcases h.2.2.2.2 with ⟨h,_⟩ | ⟨b',off',h,hbs,hc⟩
  ·cases h
  ·cases h;exact ⟨hbs,hc⟩
 obtain ⟨hbs,hc⟩:=hc
 have hcap:=h.1
 have hs6:s<6400064:=by omega
 obtain ⟨M,hM⟩:∃ M,n+q+1=M:=⟨_,rfl⟩
 have hMi:(n:Int)+q+1=(M:Int):=by omega
 have hmk:=fun w=>make_any ((n:Int)+q+1) M hMi (by omega) w
 have hfin:∀ (ss:Array Value) (m:Nat),ss.size=M->(∀ j h,ss[j]'h=Value.int .u64 (stL x q r n j))->Num ((w.alloc (.cells ss 22)).drewN m) (some ⟨w.heap.size,0,none⟩) M M (finL x q r):=fun ss m h1 h2=>(num_of_block (by omega) (finL_words hx q r) (fun i hi=>finL_zero hx zx q r (by omega) i (by omega)) h1 (fun j hj=>by rw [h2 j hj,stL_end hx zx q r j (by omega)])).drewN m
 have HM:Hid (n+q+1=M):=hM
 have HZ:Hid ((arrOf (fun _=>0) M).size=M/\∀ j h,(arrOf (fun _=>0) M)[j]'h=Value.int .u64 0):=⟨arrOf_size _ _,fun j h=>arrOf_get _ _ _ _⟩
 have hcw:∀ (ss:Array Value) i,i<n->(w.alloc (.cells ss 22)).cell? ⟨b,off+i,none⟩=some (.int .u64 (x i)):=fun ss i hi=>((below1 w _).cell (p:=⟨b,off+i,none⟩) hbs).trans (hc i hi)
 clear h zx hMi hc
 generalize arrOf (fun _=>0) M=zz at *
 go_enter Tryz.func95,Tryz.ntmps95
 go_wp2
 go_loopw [6,16] (fun u6 i wr=>∃ (k m:Nat) (ss:Array Value),k<=n/\i=.int .i64 k/\ss.size=M/\(∀ j h,ss[j]'h=Value.int .u64 (stL x q r k j))/\wr=(w.alloc (.cells ss 22)).drewN m) (fun _ i _=>n-(intOf i).toNat)
 case atStart=>exact ⟨0,0,zz,Nat.zero_le _,rfl,HZ.out.1,fun j h=>by rw [HZ.out.2 j h];unfold stL;(by_cases e:j<q+0);(rw [if_pos e];unfold finL;rw [if_neg (by omega)]);(rw [if_neg e];split;(unfold lowp;rw [if_neg (by omega)]);rfl),rfl⟩
 case round =>
  obtain ⟨k,m,ss,hk,rfl,hsz,hss,rfl⟩:=hrel
  by_cases h8:k<n
  ·have h8i:(k:Int)<n:=by omega
   have h8s:k+q<ss.size:=by omega
   have h8t:(k:Int)+q<M:=by omega
   have h8u:(k:Int)+q+1<M:=by omega
   have bx:=hx k
   have hcx:=hcw ss k h8
   have hsk:ss[k+q]?=some (.int .u64 (lowp x q r (q+k))):=by rw [Array.getElem?_eq_getElem h8s,hss _ h8s];unfold stL;rw [if_neg (by omega),if_pos (by omega),Nat.add_comm]
   have hgo:∀ h,ss[k+q]'h=.int .u64 (lowp x q r (q+k)):=fun h=>by rw [hss _ h];unfold stL;rw [if_neg (by omega),if_pos (by omega),Nat.add_comm]
   have h8v:k+q+1<ss.size:=by omega
   have hsl:ss[k+q+1]?=some (.int .u64 0):=by rw [Array.getElem?_eq_getElem h8v,hss _ h8v];unfold stL;rw [if_neg (by omega),if_neg (by omega)]
   have hlow:=lowp_word hx q r (q+k)
   have e1:((k:Int)+q).toNat=k+q:=by omega
   have e2:((k:Int)+q+1).toNat=k+q+1:=by omega
   have HF:Hid (finL x q r (q+k)=bits BinOp.or IntKind.u64 (lowp x q r (q+k)) (IntKind.u64.wrap (x k*2^r))):=by
    show _=_;unfold finL;rw [if_pos (by omega),show q+k-q=k by omega];rfl
   have HR:Hid (∀ (i:Nat) (h:i<((ss.setIfInBounds (k+q) (.int .u64 (finL x q r (q+k)))).setIfInBounds (k+q+1) (.int .u64 (x k/2^(64-r)))).size),((ss.setIfInBounds (k+q) (.int .u64 (finL x q r (q+k)))).setIfInBounds (k+q+1) (.int .u64 (x k/2^(64-r))))[i]'h=Value.int .u64 (stL x q r (k+1) i)):=stL_step1 hrp hss
   clear hss hfin hmk hx
   generalize hlo:lowp x q r (q+k)=lo at *
   have hcx':=hcw (ss.setIfInBounds (k+q) (.int .u64 (bits BinOp.or IntKind.u64 lo (IntKind.u64.wrap (x k*2^r))))) k h8
   clear hcw
   go_wp2
   go_region
   go_wp2
   go_roundw
   case rel=>refine ⟨k+1,m+1,(ss.setIfInBounds (k+q) (.int .u64 (finL x q r (q+k)))).setIfInBounds (k+q+1) (.int .u64 (x k/2^(64-r))),by omega,by go_num,by simp [hsz],HR.out,?_⟩;rw [HF.out]
   case measure=>simp [intOf];omega
  ·obtain rfl:k=n:=by omega
   have hT:=trim_any _ _ _ _ _ (by omega) (hfin ss m hsz hss)
   have hle:=sizeL_le (finL x q r) M
   clear hss hfin hmk hx hcw
   go_wp2_with (go_at_call 44;refine hT.mono ?_;rintro e w1 ⟨g,cap,rfl,hN,hB⟩)
   go_ret
   exact ⟨g,_,cap,rfl,Nat.le_trans hle (Nat.le_of_eq HM.out.symm),hN,(below_drewN (below1 w _) m).trans (hB.mono (by simp))⟩
end
end Go.Proofs.YtpabnhlfbjkmaaaGreatDoor

namespace Go.Proofs.YtpabnhlfbjkmaaaGreatDoor
def val (x:Nat->Int):Nat->Int
 | 0=>0
 | n+1=>val x n+x n*18446744073709551616^n
theorem val_congr {x y:Nat->Int}:∀ n,(∀ i,i<n->x i=y i)->val x n=val y n
 | 0,_=>rfl
 | n+1,h=>by simp only [val];rw [val_congr n fun i hi=>h i (by omega),h n (by omega)]
theorem pw_pos (n:Nat):(0:Int)<18446744073709551616^n:=Int.pow_pos (by decide)
theorem val_bd {x:Nat->Int} (hx:∀ i,0<=x i/\x i<=18446744073709551615):∀ n,0<=val x n/\val x n<18446744073709551616^n
 | 0=>by simp [val]
 | n+1=>by
  have ih:=val_bd hx n
  have hb:=hx n
  have hp:=pw_pos n
  simp only [val]
  have h1:0<=x n*18446744073709551616^n:=Int.mul_nonneg hb.1 (Int.le_of_lt hp)
  have h2:x n*18446744073709551616^n<=18446744073709551615*18446744073709551616^n:=Int.mul_le_mul_of_nonneg_right hb.2 (Int.le_of_lt hp)
  rw [Int.pow_succ]
  omega
theorem val_set (x:Nat->Int) (p:Nat) (v:Int):∀ n,p<n->val (fun i=>if i=p then v else x i) n=val x n+(v-x p)*18446744073709551616^p
 | 0,h=>by omega
 | n+1,h=>by
  simp only [val]
  by_cases e:n=p
  ·subst e
   rw [if_pos rfl,val_congr (y:=x) n fun i hi=>if_neg (by omega),Int.sub_mul];omega
  ·rw [if_neg e,val_set x p v n (by omega)];omega
theorem val_inj {x y:Nat->Int} (hx:∀ i,0<=x i/\x i<=18446744073709551615) (hy:∀ i,0<=y i/\y i<=18446744073709551615):∀ n,val x n=val y n->∀ i,i<n->x i=y i
 | 0,_,i,hi=>by omega
 | n+1,h,i,hi=>by
  simp only [val] at h
  have bx:=val_bd hx n
  have b_y:=val_bd hy n
  have hp:=pw_pos n
  have e1:(val x n+x n*18446744073709551616^n)/18446744073709551616^n=x n:=by
   rw [Int.add_mul_ediv_right _ _ (Int.ne_of_gt hp),Int.ediv_eq_zero_of_lt bx.1 bx.2];omega
  have e2:(val y n+y n*18446744073709551616^n)/18446744073709551616^n=y n:=by
   rw [Int.add_mul_ediv_right _ _ (Int.ne_of_gt hp),Int.ediv_eq_zero_of_lt b_y.1 b_y.2];omega
  have e3:x n=y n:=by rw [← e1,← e2,h]
  by_cases e:i=n
  ·subst e;exact e3
  ·rw [e3] at h
   exact val_inj hx hy n (by omega) i (by omega)
theorem val_more {x:Nat->Int} {n:Nat} (hz:∀ i,n<=i->x i=0):∀ m,n<=m->val x m=val x n
  | 0, h => by obtain rfl : n = 0 := by omega
               rfl
  | m+1,h=>by
    by_cases e:n=m+1
    · rw [e]
    · simp only [val];rw [val_more hz m (by omega),hz m (by omega)];omega
theorem mul_step (a b z c:Int) (ha:0<=a/\a<=18446744073709551615) (hb:0<=b/\b<=18446744073709551615) (hz:0<=z/\z<=18446744073709551615) (hc:0<=c/\c<=18446744073709551615) :
  ((a*b%18446744073709551616+z)%18446744073709551616+c)%18446744073709551616+(a*b/18446744073709551616+(a*b%18446744073709551616+z)/18446744073709551616+((a*b%18446744073709551616+z)%18446744073709551616+c)/18446744073709551616)*18446744073709551616=a*b+z+c /\
  0<=a*b/18446744073709551616+(a*b%18446744073709551616+z)/18446744073709551616/\a*b/18446744073709551616+(a*b%18446744073709551616+z)/18446744073709551616<=18446744073709551615 /\
  0<=a*b/18446744073709551616+(a*b%18446744073709551616+z)/18446744073709551616+((a*b%18446744073709551616+z)%18446744073709551616+c)/18446744073709551616/\a*b/18446744073709551616+(a*b%18446744073709551616+z)/18446744073709551616+((a*b%18446744073709551616+z)%18446744073709551616+c)/18446744073709551616<=18446744073709551615:=by
 have h1:0<=a*b:=Int.mul_nonneg ha.1 hb.1
 have h2:a*b<=18446744073709551615*18446744073709551615:=Int.mul_le_mul ha.2 hb.2 hb.1 (by decide)
 generalize a*b=P at *
 omega
theorem mul_inner (V Vi a vb b z c s hi:Int) (i k:Nat) (h:V+c*18446744073709551616^(i+k)=Vi+a*vb*18446744073709551616^i) (hs:s+hi*18446744073709551616=a*b+z+c) :
  V+(s-z)*18446744073709551616^(i+k)+hi*18446744073709551616^(i+(k+1))=Vi+a*(vb+b*18446744073709551616^k)*18446744073709551616^i:=by
 have e1:s=a*b+z+c-hi*18446744073709551616:=by omega
 have e2:(18446744073709551616:Int)^(i+(k+1))=18446744073709551616^(i+k)*18446744073709551616:=by rw [← Int.pow_succ];rfl
 have e3:(18446744073709551616:Int)^(i+k)=18446744073709551616^i*18446744073709551616^k:=Int.pow_add ..
 rw [e1,e2]
 rw [e3] at h ⊢
 generalize (18446744073709551616:Int)^i=p at *
 generalize (18446744073709551616:Int)^k=q at *
 grind
end Go.Proofs.YtpabnhlfbjkmaaaGreatDoor

namespace Go.Proofs.YtpabnhlfbjkmaaaGreatDoor
open Go.RowKit
section
attribute [local go_sem] setCell_drewN alloc_drewN
theorem mul64 (x y:Int) (hx:0<=x/\x<=18446744073709551615) (hy:0<=y/\y<=18446744073709551615) (w:World) :
  Calls Tryz.prog 49 #[.int .u64 x,.int .u64 y] w fun e w'=>e=.returned (.tuple #[.int .u64 (x*y/18446744073709551616),.int .u64 (x*y%18446744073709551616)])/\w'=w:=by
 obtain ⟨a,rfl⟩:=Int.eq_ofNat_of_zero_le hx.1
 obtain ⟨b,rfl⟩:=Int.eq_ofNat_of_zero_le hy.1
 have h:=Tryz.bits_Mul64 a b (by omega) (by omega) w
 rw [Int.natCast_ediv,Int.natCast_emod,Int.natCast_mul] at h
 exact h
theorem add64z (x y:Int) (hx:0<=x) (hy:0<=y) (w:World):(callFunc 50 #[.int .u64 x,.int .u64 y,.int .u64 0]).run Tryz.prog w =
  .ok (.value (.tuple #[.int .u64 ((x+y)%18446744073709551616),.int .u64 ((x+y)/18446744073709551616)])) w:=by
 simpa using add64 x y 0 hx hy (Int.le_refl 0) (by decide) w
def mulC (x:Nat->Int) (n:Int):Nat->Int
 | 0=>0
 | k+1=>x k*n/18446744073709551616+(x k*n%18446744073709551616+mulC x n k)/18446744073709551616
def mulP (x:Nat->Int) (n:Int) (k:Nat):Int:=(x k*n%18446744073709551616+mulC x n k)%18446744073709551616
theorem mul_bd (a b c:Int) (ha:0<=a/\a<=18446744073709551615) (hb:0<=b/\b<=18446744073709551615) (hc:0<=c/\c<=18446744073709551615):0<=a*b/18446744073709551616+(a*b%18446744073709551616+c)/18446744073709551616/\a*b/18446744073709551616+(a*b%18446744073709551616+c)/18446744073709551616<=18446744073709551615:=by
 have h1:0<=a*b:=Int.mul_nonneg ha.1 hb.1
 have h2:a*b<=18446744073709551615*18446744073709551615:=Int.mul_le_mul ha.2 hb.2 hb.1 (by decide)
 generalize a*b=P at *
 omega
theorem mulC_word {x:Nat->Int} {n:Int} (hx:Words x) (hn:0<=n/\n<=18446744073709551615):∀ k,0<=mulC x n k/\mulC x n k<=18446744073709551615
 | 0=>by simp [mulC]
 | k+1=>mul_bd _ _ _ (hx k) hn (mulC_word hx hn k)
theorem mulP_words (x:Nat->Int) (n:Int):Words (mulP x n):=fun i=>⟨Int.emod_nonneg _ (by decide),by have:=Int.emod_lt_of_pos (x i*n%18446744073709551616+mulC x n i) (b:=18446744073709551616) (by decide);unfold mulP;omega⟩
theorem mul_val (x:Nat->Int) (n:Int):∀ k,val (mulP x n) k+mulC x n k*18446744073709551616^k=val x k*n
 | 0=>by simp [val,mulC]
 | k+1=>by
  have ih:=mul_val x n k
  have e1:mulP x n k+mulC x n (k+1)*18446744073709551616=x k*n+mulC x n k:=by
   simp only [mulP,mulC];generalize x k*n=P;omega
  simp only [val]
  rw [Int.pow_succ]
  generalize (18446744073709551616:Int)^k=p at *
  generalize mulC x n (k+1)=c' at *
  generalize mulP x n k=d at *
  have e2:d=x k*n+mulC x n k-c'*18446744073709551616:=by omega
  rw [e2]
  grind
end
end Go.Proofs.YtpabnhlfbjkmaaaGreatDoor

namespace Go.Proofs.YtpabnhlfbjkmaaaGreatDoor
structure Dg (u d1 d0 e:Int):Prop where
 a1:2147483648<=d1
 a2:d1<4294967296
 b1:0<=d0
 b2:d0<4294967296
 e1:0<=e
 e2:e<4294967296
 u1:0<=u
 u2:u<d1*4294967296+d0
theorem Dg.pos {u d1 d0 e:Int} (h:Dg u d1 d0 e):0<d1*4294967296+d0:=by have:=h.a1;have:=h.b1;omega
theorem mulY (q d1 d0:Int):q*(d1*4294967296+d0)=(q*d1)*4294967296+q*d0:=by rw [Int.mul_add,Int.mul_assoc]
theorem Dg.lt {u d1 d0 e:Int} (h:Dg u d1 d0 e):(u*4294967296+e)/(d1*4294967296+d0)<4294967296:=by
 apply Int.ediv_lt_of_lt_mul h.pos
 have:=h.u2;have:=h.e2;omega
theorem Dg.nonneg {u d1 d0 e:Int} (h:Dg u d1 d0 e):0<=(u*4294967296+e)/(d1*4294967296+d0):=Int.ediv_nonneg (by have:=h.u1;have:=h.e1;omega) (by have:=h.pos;omega)
theorem Dg.big {u d1 d0 e q r:Int} (h:Dg u d1 d0 e) (hq:q*d1+r=u) (ht:4294967296*r+e<q*d0):(u*4294967296+e)/(d1*4294967296+d0)<=q-1:=by
 have:(u*4294967296+e)/(d1*4294967296+d0)<q:=by
  apply Int.ediv_lt_of_lt_mul h.pos
  rw [mulY];omega
 omega
theorem Dg.big' {u d1 d0 e q:Int} (h:Dg u d1 d0 e) (ht:4294967296<=q):(u*4294967296+e)/(d1*4294967296+d0)<=q-1:=by
 have:=h.lt;omega
theorem Dg.right {u d1 d0 e q r:Int} (h:Dg u d1 d0 e) (hq:q*d1+r=u) (hge:(u*4294967296+e)/(d1*4294967296+d0)<=q) (ht:q*d0<=4294967296*r+e):(u*4294967296+e)/(d1*4294967296+d0)=q:=by
 have:q<=(u*4294967296+e)/(d1*4294967296+d0):=by
  apply Int.le_ediv_of_mul_le h.pos
  rw [mulY];omega
 omega
theorem Dg.right' {u d1 d0 e q r:Int} (h:Dg u d1 d0 e) (hq:q*d1+r=u) (hge:(u*4294967296+e)/(d1*4294967296+d0)<=q) (hq2:q<=4294967296) (hr:4294967296<=r):(u*4294967296+e)/(d1*4294967296+d0)=q:=by
 refine h.right hq hge ?_
 have h0:0<=q:=Int.le_trans h.nonneg hge
 have h1:q*d0<=4294967296*d0:=Int.mul_le_mul_of_nonneg_right hq2 h.b1
 have:=h.b2;have:=h.e1
 omega
theorem Dg.first {u d1 d0 e:Int} (h:Dg u d1 d0 e):(u/d1)*d1+u%d1=u/\(u*4294967296+e)/(d1*4294967296+d0)<=u/d1/\u/d1<=4294967297/\0<=u%d1/\u%d1<4294967296:=by
 have a1:=h.a1;have a2:=h.a2
 have hd:0<d1:=by omega
 have e0:(u/d1)*d1+u%d1=u:=Int.mul_comm d1 _ ▸ Int.mul_ediv_add_emod u d1
 have m0:=Int.emod_nonneg u (show d1≠0 by omega)
 have m1:=Int.emod_lt_of_pos u hd
 refine ⟨e0,?_,?_,m0,by omega⟩
 ·have:(u*4294967296+e)/(d1*4294967296+d0)<u/d1+1:=by
   apply Int.ediv_lt_of_lt_mul h.pos
   rw [mulY,Int.add_mul]
   have p0:0<=(u/d1+1)*d0:=Int.mul_nonneg (by have:=Int.ediv_nonneg h.u1 (Int.le_of_lt hd);omega) h.b1
   have:=h.e2
   omega
  omega
 ·have:u/d1<4294967298:=by
   apply Int.ediv_lt_of_lt_mul hd
   have:=h.u2;have:=h.b2
   omega
  omega
end Go.Proofs.YtpabnhlfbjkmaaaGreatDoor

namespace Go.Proofs.YtpabnhlfbjkmaaaGreatDoor
theorem bitLenAux_spec:∀ (f x:Nat),0<x->x<2^f->1<=Lib.bitLenAux f x/\2^(Lib.bitLenAux f x-1)<=x/\x<2^Lib.bitLenAux f x
 | 0,x,h0,h=>by simp at h;omega
 | f+1,x,h0,h=>by
  simp only [Lib.bitLenAux]
  rw [if_neg (by omega)]
  by_cases h1:x/2=0
  ·have hx:x=1:=by omega
   subst hx
   have:Lib.bitLenAux f (1/2)=0:=by cases f <;> simp [Lib.bitLenAux]
   rw [this];decide
  ·have ih:=bitLenAux_spec f (x/2) (by omega) (by rw [Nat.pow_succ] at h;omega)
   generalize Lib.bitLenAux f (x/2)=k at ih
   obtain ⟨j,rfl⟩:∃ j,k=j+1:=⟨k-1,by omega⟩
   simp only [Nat.add_sub_cancel] at ih
   refine ⟨by omega,?_,?_⟩
   ·rw [show 1+(j+1)-1=j+1 by omega,Nat.pow_succ];omega
   ·rw [show 1+(j+1)=(j+1)+1 by omega,Nat.pow_succ];omega
theorem bitLen_spec (x:Nat) (h0:0<x) (h:x<18446744073709551616):1<=Lib.bitLen x/\Lib.bitLen x<=64/\2^(Lib.bitLen x-1)<=x/\x<2^Lib.bitLen x:=by
 have h1:=bitLenAux_spec 64 x h0 h
 have h2:Lib.bitLen x<=64:=by
  rcases Nat.lt_or_ge 64 (Lib.bitLen x) with h3 | h3
  ·exfalso
   have h4:2^64<=2^(Lib.bitLen x-1):=Nat.pow_le_pow_right (by decide) (by omega)
   have h5:2^(Lib.bitLen x-1)<=x:=h1.2.1
   have:(2:Nat)^64=18446744073709551616:=by decide
   omega
  ·exact h3
 exact ⟨h1.1,h2,h1.2.1,h1.2.2⟩
theorem norm_bd (y:Nat) (h0:0<y) (h:y<18446744073709551616):9223372036854775808<=y*2^(64-Lib.bitLen y)/\y*2^(64-Lib.bitLen y)<18446744073709551616/\64-Lib.bitLen y<64:=by
 obtain ⟨h1,h2,h3,h4⟩:=bitLen_spec y h0 h
 generalize hL:Lib.bitLen y=L at *
 have p1:2^(L-1)*2^(64-L)=9223372036854775808:=by rw [← Nat.pow_add,show L-1+(64-L)=63 by omega]
 have p2:2^L*2^(64-L)=18446744073709551616:=by rw [← Nat.pow_add,show L+(64-L)=64 by omega]
 have hp:0<2^(64-L):=Nat.pow_pos (by decide)
 exact ⟨by rw [← p1];exact Nat.mul_le_mul_right _ h3,by rw [← p2];exact Nat.mul_lt_mul_of_pos_right h4 hp,by omega⟩
theorem norm_join (hi lo y s:Nat) (hs:s<64) (hh:hi<y) (hl:lo<18446744073709551616) (hy:y*2^s<18446744073709551616) :
  (hi*2^s) ||| (lo/2^(64-s))=hi*2^s+lo/2^(64-s)/\(hi*2^s+lo/2^(64-s))*18446744073709551616+(lo*2^s)%18446744073709551616=(hi*18446744073709551616+lo)*2^s/\hi*2^s+lo/2^(64-s)<y*2^s:=by
 have hp:0<2^s:=Nat.pow_pos (by decide)
 have hq:0<2^(64-s):=Nat.pow_pos (by decide)
 have hpq:2^(64-s)*2^s=18446744073709551616:=by rw [← Nat.pow_add,show 64-s+s=64 by omega]
 have hlt:lo/2^(64-s)<2^s:=by
  rw [Nat.div_lt_iff_lt_mul hq,Nat.mul_comm,hpq];exact hl
 have hsum:lo*2^s=(lo/2^(64-s))*18446744073709551616+(lo*2^s)%18446744073709551616:=by
  have h1:lo*2^s/18446744073709551616=lo/2^(64-s):=by rw [← hpq,Nat.mul_div_mul_right _ _ hp]
  have h2:=Nat.div_add_mod (lo*2^s) 18446744073709551616
  rw [h1] at h2
  omega
 refine ⟨?_,?_,?_⟩
 ·exact nat_join s _ _ (Nat.mul_mod_left _ _) hlt
 ·rw [Nat.add_mul,Nat.add_mul,Nat.mul_right_comm hi 18446744073709551616 (2^s)]
  omega
 ·have:(hi+1)*2^s<=y*2^s:=Nat.mul_le_mul_right _ hh
  rw [Nat.add_mul] at this
  omega
theorem norm_back (n y s q r:Nat) (h:n*2^s=q*(y*2^s)+r) (hr:r<y*2^s):q=n/y/\r/2^s=n%y:=by
 have hp:0<2^s:=Nat.pow_pos (by decide)
 have hy:0<y:=by
  rcases Nat.eq_zero_or_pos y with h0 | h0
  ·subst h0;simp at hr
  ·exact h0
 have h1:r=(n-q*y)*2^s:=by
  rw [Nat.sub_mul,Nat.mul_assoc];omega
 have h2:n-q*y<y:=by
  rw [h1] at hr;exact Nat.lt_of_mul_lt_mul_right hr
 have h3:q*y<=n:=by
  have:q*y*2^s<=n*2^s:=by rw [h,Nat.mul_assoc];omega
  exact Nat.le_of_mul_le_mul_right this hp
 have h4:n=y*q+(n-q*y):=by rw [Nat.mul_comm y q];omega
 constructor
 ·rw [h4,Nat.mul_add_div hy,Nat.div_eq_of_lt h2];omega
 ·rw [h1,Nat.mul_div_cancel _ hp]
  conv=>rhs;rw [h4]
  rw [Nat.mul_add_mod,Nat.mod_eq_of_lt h2]
end Go.Proofs.YtpabnhlfbjkmaaaGreatDoor

namespace Go.Proofs.YtpabnhlfbjkmaaaGreatDoor
open Go.RowKit
theorem wrap3 {a e b R:Int} (h:a*4294967296+e-b=R) (h0:0<=R) (h1:R<=18446744073709551615):IntKind.u64.wrap (IntKind.u64.wrap (IntKind.u64.wrap (a*4294967296)+e)-IntKind.u64.wrap b)=R:=by
 simp only [IntKind.wrap,IntKind.bits,IntKind.signed]
 simp
 omega
theorem div64_core (hi lo y Y d1 d0 u v e1 e0 Q1 R1 Q0 R0:Int) (S:Nat) (w:World) (hh:0<hi) (hl:0<=lo/\lo<=18446744073709551615) (hy:hi<y/\y<=18446744073709551615) (hS:S<64)
  (hlz:CQ 135 #[.int .u64 y] w (.int .i64 (S:Int)))
  (hY:IntKind.u64.wrap (y*2^S)=Y) (hd1:Y/4294967296=d1) (hd0:bits BinOp.and IntKind.u64 Y 4294967295=d0)
  (hu:bits BinOp.or IntKind.u64 (IntKind.u64.wrap (hi*2^S)) (lo/2^(64-S))=u) (hv:IntKind.u64.wrap (lo*2^S)=v) (he1:v/4294967296=e1) (he0:bits BinOp.and IntKind.u64 v 4294967295=e0)
  (D1:Dg u d1 d0 e1) (D0:Dg R1 d1 d0 e0) (hYe:Y=d1*4294967296+d0) (hY64:Y<=18446744073709551615)
  (hQ1:(u*4294967296+e1)/(d1*4294967296+d0)=Q1) (hR1:u*4294967296+e1-Q1*Y=R1) (hQ0:(R1*4294967296+e0)/(d1*4294967296+d0)=Q0) (hR0:R1*4294967296+e0-Q0*Y=R0) (hR0b:0<=R0/\R0<=18446744073709551615) :
  Calls Tryz.prog 92 #[.int .u64 hi,.int .u64 lo,.int .u64 y] w fun e w'=>e=.returned (.tuple #[.int .u64 (Q1*4294967296+Q0),.int .u64 (R0/2^S)])/\∃ m,w'=w.drewN m:=by
 have hy0:(y == 0)=false:=by simp;omega
 have hh0:(hi == 0)=false:=by simp;omega
 have f1:=D1.first
 have f0:=D0.first
 rw [hQ1] at f1
 rw [hQ0] at f0
 have d1p:=D1.a1
 have d1q:=D1.a2
 have d0p:=D1.b1
 have d0q:=D1.b2
 have e1p:=D1.e1
 have e1q:=D1.e2
 have e0p:=D0.e1
 have e0q:=D0.e2
 have up:=D1.u1
 have uq:u<=18446744073709551615:=by have:=D1.u2;omega
 have vp:=D0.u1
 have vq:R1<=18446744073709551615:=by have:=D0.u2;omega
 have hW1:IntKind.u64.wrap (IntKind.u64.wrap (IntKind.u64.wrap (u*4294967296)+e1)-IntKind.u64.wrap (Q1*Y))=R1:=wrap3 hR1 vp vq
 have hW0:IntKind.u64.wrap (IntKind.u64.wrap (IntKind.u64.wrap (R1*4294967296)+e0)-IntKind.u64.wrap (Q0*Y))=R0:=wrap3 hR0 hR0b.1 hR0b.2
 have HQ1:Hid ((u*4294967296+e1)/(d1*4294967296+d0)=Q1):=hQ1
 have HQ0:Hid ((R1*4294967296+e0)/(d1*4294967296+d0)=Q0):=hQ0
 have k1:Q1<4294967296:=by rw [← hQ1];exact D1.lt
 have k0:Q0<4294967296:=by rw [← hQ0];exact D0.lt
 have hq10:0<=Q1:=by rw [← hQ1];exact D1.nonneg
 have hq00:0<=Q0:=by rw [← hQ0];exact D0.nonneg
 clear hQ1 hYe hR1 hQ0 hR0
 obtain ⟨q,hq⟩:∃ q,u/d1=q:=⟨_,rfl⟩
 obtain ⟨r,hr⟩:∃ r,u%d1=r:=⟨_,rfl⟩
 rw [hq,hr] at f1
 obtain ⟨p2,hp2⟩:∃ q,R1/d1=q:=⟨_,rfl⟩
 obtain ⟨s2,hs2⟩:∃ r,R1%d1=r:=⟨_,rfl⟩
 rw [hp2,hs2] at f0
 obtain ⟨f1a,f1b,f1c,f1d,f1e⟩:=f1
 obtain ⟨f0a,f0b,f0c,f0d,f0e⟩:=f0
 have hqd0:0<=q*d1:=Int.mul_nonneg (by omega) (by omega)
 have hqd1:q*d1<=18446744073709551615:=by omega
 have hqr:u-q*d1=r:=by omega
 have hpd0:0<=p2*d1:=Int.mul_nonneg (by omega) (by omega)
 have hpd1:p2*d1<=18446744073709551615:=by omega
 have hpr:R1-p2*d1=s2:=by omega
 have F1A:Hid (q*d1+r=u):=f1a
 have F0A:Hid (p2*d1+s2=R1):=f0a
 have D1H:Hid (Dg u d1 d0 e1):=D1
 have D0H:Hid (Dg R1 d1 d0 e0):=D0
 clear f1a hr f0a hs2 D1 D0
 go_enter Tryz.func92,Tryz.ntmps92
 go_wp2_with (first | (go_at_call 135;refine hlz.mono ?_;rintro e w' ⟨rfl,rfl⟩))
 go_loop [15,16] (fun a b=>∃ q r,a=.int .u64 q/\b=.int .u64 r/\Hid (q*d1+r=u)/\Q1<=q/\q<=4294967297/\0<=r/\r<4294967296) (fun a _=>(intOf a).toNat)
 case atStart=>exact ⟨q,r,by first | rfl | rw [hq],rfl,F1A,f1b,f1c,f1d,f1e⟩
 case round =>
  clear f1b f1c f1d f1e hqd0 hqd1 F1A hqr
  obtain ⟨q1,r1,rfl,rfl,hqr,hge,hle,hr0,hr1⟩:=hrel
  have hm0:0<=q1*d0:=Int.mul_nonneg (by omega) d0p
  by_cases hbig:4294967296<=q1
  ·have hg1:Q1<=q1-1:=by have:=D1H.out.big' hbig;rw [HQ1.out] at this;exact this
   by_cases hb:r1+d1<4294967296
   ·go_wp2
    go_round
    case rel=>exact ⟨q1-1,r1+d1,rfl,rfl,by show _=_;rw [Int.sub_mul];have:=hqr.out;omega,hg1,by omega,by omega,hb⟩
    case measure=>simp [intOf];omega
   ·have hqq:q1-1=Q1:=by
     have:=D1H.out.right' (q:=q1-1) (r:=r1+d1) (by rw [Int.sub_mul];have:=hqr.out;omega) (by rw [HQ1.out];exact hg1) (by omega) (by omega)
     rw [HQ1.out] at this;exact this.symm
    go_wp2
    clear hqr hge hle hr0 hr1 hm0
    go_loop [18,16] (fun a b=>∃ q r,a=.int .u64 q/\b=.int .u64 r/\Hid (q*d1+r=R1)/\Q0<=q/\q<=4294967297/\0<=r/\r<4294967296) (fun a _=>(intOf a).toNat)
    case atStart=>exact ⟨p2,s2,by first | rfl | rw [hp2],rfl,F0A,f0b,f0c,f0d,f0e⟩
    case round =>
     clear f0b f0c f0d f0e hpd0 hpd1 F0A hpr
     obtain ⟨q3,r3,rfl,rfl,hqr,hge,hle,hr0,hr1⟩:=hrel
     have hm0:0<=q3*d0:=Int.mul_nonneg (by omega) d0p
     by_cases hbig:4294967296<=q3
     ·have hg1:Q0<=q3-1:=by have:=D0H.out.big' hbig;rw [HQ0.out] at this;exact this
      by_cases hb:r3+d1<4294967296
      ·go_wp2
       go_round
       case rel=>exact ⟨q3-1,r3+d1,rfl,rfl,by show _=_;rw [Int.sub_mul];have:=hqr.out;omega,hg1,by omega,by omega,hb⟩
       case measure=>simp [intOf];omega
      ·have hqq:q3-1=Q0:=by
        have:=D0H.out.right' (q:=q3-1) (r:=r3+d1) (by rw [Int.sub_mul];have:=hqr.out;omega) (by rw [HQ0.out];exact hg1) (by omega) (by omega)
        rw [HQ0.out] at this;exact this.symm
       go_wp2
       go_ret2
       exact ⟨rfl,0,rfl⟩
     ·have hsm:q3<4294967296:=by omega
      have hm1:q3*d0<=4294967295*4294967295:=Int.mul_le_mul (by omega) (by omega) d0p (by decide)
      by_cases ht:4294967296*r3+e0<q3*d0
      ·have hg1:Q0<=q3-1:=by have:=D0H.out.big hqr.out ht;rw [HQ0.out] at this;exact this
       by_cases hb:r3+d1<4294967296
       ·go_wp2
        go_round
        case rel=>exact ⟨q3-1,r3+d1,rfl,rfl,by show _=_;rw [Int.sub_mul];have:=hqr.out;omega,hg1,by omega,by omega,hb⟩
        case measure=>simp [intOf];omega
       ·have hqq:q3-1=Q0:=by
         have:=D0H.out.right' (q:=q3-1) (r:=r3+d1) (by rw [Int.sub_mul];have:=hqr.out;omega) (by rw [HQ0.out];exact hg1) (by omega) (by omega)
         rw [HQ0.out] at this;exact this.symm
        go_wp2
        go_ret2
        exact ⟨rfl,0,rfl⟩
      ·obtain rfl:Q0=q3:=by
        have:=D0H.out.right hqr.out (by rw [HQ0.out];exact hge) (by omega)
        rw [HQ0.out] at this;exact this
       go_wp2
       go_ret2
       exact ⟨rfl,0,rfl⟩
  ·have hsm:q1<4294967296:=by omega
   have hm1:q1*d0<=4294967295*4294967295:=Int.mul_le_mul (by omega) (by omega) d0p (by decide)
   by_cases ht:4294967296*r1+e1<q1*d0
   ·have hg1:Q1<=q1-1:=by have:=D1H.out.big hqr.out ht;rw [HQ1.out] at this;exact this
    by_cases hb:r1+d1<4294967296
    ·go_wp2
     go_round
     case rel=>exact ⟨q1-1,r1+d1,rfl,rfl,by show _=_;rw [Int.sub_mul];have:=hqr.out;omega,hg1,by omega,by omega,hb⟩
     case measure=>simp [intOf];omega
    ·have hqq:q1-1=Q1:=by
      have:=D1H.out.right' (q:=q1-1) (r:=r1+d1) (by rw [Int.sub_mul];have:=hqr.out;omega) (by rw [HQ1.out];exact hg1) (by omega) (by omega)
      rw [HQ1.out] at this;exact this.symm
     go_wp2
     clear hqr hge hle hr0 hr1 hm0
     go_loop [18,16] (fun a b=>∃ q r,a=.int .u64 q/\b=.int .u64 r/\Hid (q*d1+r=R1)/\Q0<=q/\q<=4294967297/\0<=r/\r<4294967296) (fun a _=>(intOf a).toNat)
     case atStart=>exact ⟨p2,s2,by first | rfl | rw [hp2],rfl,F0A,f0b,f0c,f0d,f0e⟩
     case round =>
      clear f0b f0c f0d f0e hpd0 hpd1 F0A hpr
      obtain ⟨q3,r3,rfl,rfl,hqr,hge,hle,hr0,hr1⟩:=hrel
      have hm0:0<=q3*d0:=Int.mul_nonneg (by omega) d0p
      by_cases hbig:4294967296<=q3
      ·have hg1:Q0<=q3-1:=by have:=D0H.out.big' hbig;rw [HQ0.out] at this;exact this
       by_cases hb:r3+d1<4294967296
       ·go_wp2
        go_round
        case rel=>exact ⟨q3-1,r3+d1,rfl,rfl,by show _=_;rw [Int.sub_mul];have:=hqr.out;omega,hg1,by omega,by omega,hb⟩
        case measure=>simp [intOf];omega
       ·have hqq:q3-1=Q0:=by
         have:=D0H.out.right' (q:=q3-1) (r:=r3+d1) (by rw [Int.sub_mul];have:=hqr.out;omega) (by rw [HQ0.out];exact hg1) (by omega) (by omega)
         rw [HQ0.out] at this;exact this.symm
        go_wp2
        go_ret2
        exact ⟨rfl,0,rfl⟩
      ·have hsm:q3<4294967296:=by omega
       have hm1:q3*d0<=4294967295*4294967295:=Int.mul_le_mul (by omega) (by omega) d0p (by decide)
       by_cases ht:4294967296*r3+e0<q3*d0
       ·have hg1:Q0<=q3-1:=by have:=D0H.out.big hqr.out ht;rw [HQ0.out] at this;exact this
        by_cases hb:r3+d1<4294967296
        ·go_wp2
         go_round
         case rel=>exact ⟨q3-1,r3+d1,rfl,rfl,by show _=_;rw [Int.sub_mul];have:=hqr.out;omega,hg1,by omega,by omega,hb⟩
         case measure=>simp [intOf];omega
        ·have hqq:q3-1=Q0:=by
          have:=D0H.out.right' (q:=q3-1) (r:=r3+d1) (by rw [Int.sub_mul];have:=hqr.out;omega) (by rw [HQ0.out];exact hg1) (by omega) (by omega)
          rw [HQ0.out] at this;exact this.symm
         go_wp2
         go_ret2
         exact ⟨rfl,0,rfl⟩
       ·obtain rfl:Q0=q3:=by
         have:=D0H.out.right hqr.out (by rw [HQ0.out];exact hge) (by omega)
         rw [HQ0.out] at this;exact this
        go_wp2
        go_ret2
        exact ⟨rfl,0,rfl⟩
   ·obtain rfl:Q1=q1:=by
     have:=D1H.out.right hqr.out (by rw [HQ1.out];exact hge) (by omega)
     rw [HQ1.out] at this;exact this
    go_wp2
    clear hqr hge hle hr0 hr1 hm0
    go_loop [18,16] (fun a b=>∃ q r,a=.int .u64 q/\b=.int .u64 r/\Hid (q*d1+r=R1)/\Q0<=q/\q<=4294967297/\0<=r/\r<4294967296) (fun a _=>(intOf a).toNat)
    case atStart=>exact ⟨p2,s2,by first | rfl | rw [hp2],rfl,F0A,f0b,f0c,f0d,f0e⟩
    case round =>
     clear f0b f0c f0d f0e hpd0 hpd1 F0A hpr
     obtain ⟨q3,r3,rfl,rfl,hqr,hge,hle,hr0,hr1⟩:=hrel
     have hm0:0<=q3*d0:=Int.mul_nonneg (by omega) d0p
     by_cases hbig:4294967296<=q3
     ·have hg1:Q0<=q3-1:=by have:=D0H.out.big' hbig;rw [HQ0.out] at this;exact this
      by_cases hb:r3+d1<4294967296
      ·go_wp2
       go_round
       case rel=>exact ⟨q3-1,r3+d1,rfl,rfl,by show _=_;rw [Int.sub_mul];have:=hqr.out;omega,hg1,by omega,by omega,hb⟩
       case measure=>simp [intOf];omega
      ·have hqq:q3-1=Q0:=by
        have:=D0H.out.right' (q:=q3-1) (r:=r3+d1) (by rw [Int.sub_mul];have:=hqr.out;omega) (by rw [HQ0.out];exact hg1) (by omega) (by omega)
        rw [HQ0.out] at this;exact this.symm
       go_wp2
       go_ret2
       exact ⟨rfl,0,rfl⟩
     ·have hsm:q3<4294967296:=by omega
      have hm1:q3*d0<=4294967295*4294967295:=Int.mul_le_mul (by omega) (by omega) d0p (by decide)
      by_cases ht:4294967296*r3+e0<q3*d0
      ·have hg1:Q0<=q3-1:=by have:=D0H.out.big hqr.out ht;rw [HQ0.out] at this;exact this
       by_cases hb:r3+d1<4294967296
       ·go_wp2
        go_round
        case rel=>exact ⟨q3-1,r3+d1,rfl,rfl,by show _=_;rw [Int.sub_mul];have:=hqr.out;omega,hg1,by omega,by omega,hb⟩
        case measure=>simp [intOf];omega
       ·have hqq:q3-1=Q0:=by
         have:=D0H.out.right' (q:=q3-1) (r:=r3+d1) (by rw [Int.sub_mul];have:=hqr.out;omega) (by rw [HQ0.out];exact hg1) (by omega) (by omega)
         rw [HQ0.out] at this;exact this.symm
        go_wp2
        go_ret2
        exact ⟨rfl,0,rfl⟩
      ·obtain rfl:Q0=q3:=by
        have:=D0H.out.right hqr.out (by rw [HQ0.out];exact hge) (by omega)
        rw [HQ0.out] at this;exact this
       go_wp2
       go_ret2
       exact ⟨rfl,0,rfl⟩
def rowV:Nat->Nat->Value
 | 0,0=>.string ⟨#[72,97,108,102]⟩
 | 0,1=>.int .i64 16
 | 0,2=>.int .i64 11
 | 0,3=>.int .i64 5
 | 1,0=>.string ⟨#[66,114,97,105,110]⟩
 | 1,1=>.int .i64 16
 | 1,2=>.int .i64 8
 | 1,3=>.int .i64 8
 | 2,0=>.string ⟨#[83,105,110,103,108,101]⟩
 | 2,1=>.int .i64 32
 | 2,2=>.int .i64 24
 | 2,3=>.int .i64 8
 | 3,0=>.string ⟨#[68,111,117,98,108,101]⟩
 | 3,1=>.int .i64 64
 | 3,2=>.int .i64 53
 | 3,3=>.int .i64 11
 | 4,0=>.string ⟨#[81,117,97,100]⟩
 | 4,1=>.int .i64 128
 | 4,2=>.int .i64 113
 | 4,3=>.int .i64 15
 | 5,0=>.string ⟨#[79,99,116,111]⟩
 | 5,1=>.int .i64 256
 | 5,2=>.int .i64 241
 | 5,3=>.int .i64 15
 | 6,0=>.string ⟨#[80,108,97,105,110,51,50]⟩
 | 6,1=>.int .i64 32
 | 6,2=>.int .i64 7
 | 6,3=>.int .i64 96
 | 7,0=>.string ⟨#[80,108,97,105,110,54,52]⟩
 | 7,1=>.int .i64 64
 | 7,2=>.int .i64 16
 | 7,3=>.int .i64 384
 | 8,0=>.string ⟨#[80,108,97,105,110,49,50,56]⟩
 | 8,1=>.int .i64 128
 | 8,2=>.int .i64 34
 | 8,3=>.int .i64 6144
 | 9,0=>.string ⟨#[68,101,110,115,101,51,50]⟩
 | 9,1=>.int .i64 32
 | 9,2=>.int .i64 7
 | 9,3=>.int .i64 96
 | 10,0=>.string ⟨#[68,101,110,115,101,54,52]⟩
 | 10,1=>.int .i64 64
 | 10,2=>.int .i64 16
 | 10,3=>.int .i64 384
 | 11,0=>.string ⟨#[68,101,110,115,101,49,50,56]⟩
 | 11,1=>.int .i64 128
 | 11,2=>.int .i64 34
 | 11,3=>.int .i64 6144
 | _,_=>.int .i64 0
def Tab (w:World):Prop:=0<w.heap.size/\∀ i k,i<12->k<4->w.cell? ⟨0,i*4+k,none⟩=some (rowV i k)
theorem Tab.next {B:Nat} {w w':World} (h:Tab w) (hb:Below B w w') (hB:0<B):Tab w' :=
 ⟨Nat.lt_of_lt_of_le h.1 hb.size,fun i k hi hk=>(hb.cell (p:=⟨0,i*4+k,none⟩) hB).trans (h.2 i k hi hk)⟩
theorem Tab.go {w w':World} (h:Tab w) (hb:Below w.heap.size w w'):Tab w':=h.next hb h.1
theorem Tab.drew {w:World} (h:Tab w):Tab w.drew:=h
theorem Tab.alloc {w:World} (h:Tab w) (o:Obj):Tab (w.alloc o):=h.go ((Below.refl _ _).alloc (Nat.le_refl _) o)
def infoV:Int->Array Value
 | 1=>#[.int .i64 1,.string ⟨#[72,97,108,102]⟩,.int .i64 2,.int .i64 16,.int .i64 11,.int .i64 5,.int .i64 (-24),.int .i64 5,.int .i64 9,.bool false]
 | 2=>#[.int .i64 2,.string ⟨#[66,114,97,105,110]⟩,.int .i64 2,.int .i64 16,.int .i64 8,.int .i64 8,.int .i64 (-133),.int .i64 120,.int .i64 6,.bool false]
 | 3=>#[.int .i64 3,.string ⟨#[83,105,110,103,108,101]⟩,.int .i64 2,.int .i64 32,.int .i64 24,.int .i64 8,.int .i64 (-149),.int .i64 104,.int .i64 22,.bool false]
 | 4=>#[.int .i64 4,.string ⟨#[68,111,117,98,108,101]⟩,.int .i64 2,.int .i64 64,.int .i64 53,.int .i64 11,.int .i64 (-1074),.int .i64 971,.int .i64 51,.bool false]
 | 5=>#[.int .i64 5,.string ⟨#[81,117,97,100]⟩,.int .i64 2,.int .i64 128,.int .i64 113,.int .i64 15,.int .i64 (-16494),.int .i64 16271,.int .i64 111,.bool false]
 | 6=>#[.int .i64 6,.string ⟨#[79,99,116,111]⟩,.int .i64 2,.int .i64 256,.int .i64 241,.int .i64 15,.int .i64 (-16622),.int .i64 16143,.int .i64 239,.bool false]
 | 7=>#[.int .i64 7,.string ⟨#[80,108,97,105,110,51,50]⟩,.int .i64 10,.int .i64 32,.int .i64 7,.int .i64 96,.int .i64 (-101),.int .i64 90,.int .i64 6,.bool false]
 | 8=>#[.int .i64 8,.string ⟨#[80,108,97,105,110,54,52]⟩,.int .i64 10,.int .i64 64,.int .i64 16,.int .i64 384,.int .i64 (-398),.int .i64 369,.int .i64 15,.bool false]
 | 9=>#[.int .i64 9,.string ⟨#[80,108,97,105,110,49,50,56]⟩,.int .i64 10,.int .i64 128,.int .i64 34,.int .i64 6144,.int .i64 (-6176),.int .i64 6111,.int .i64 33,.bool false]
 | 10=>#[.int .i64 10,.string ⟨#[68,101,110,115,101,51,50]⟩,.int .i64 10,.int .i64 32,.int .i64 7,.int .i64 96,.int .i64 (-101),.int .i64 90,.int .i64 6,.bool true]
 | 11=>#[.int .i64 11,.string ⟨#[68,101,110,115,101,54,52]⟩,.int .i64 10,.int .i64 64,.int .i64 16,.int .i64 384,.int .i64 (-398),.int .i64 369,.int .i64 15,.bool true]
 | 12=>#[.int .i64 12,.string ⟨#[68,101,110,115,101,49,50,56]⟩,.int .i64 10,.int .i64 128,.int .i64 34,.int .i64 6144,.int .i64 (-6176),.int .i64 6111,.int .i64 33,.bool true]
 | _=>#[.int .i64 0,.string ⟨#[]⟩,.int .i64 0,.int .i64 0,.int .i64 0,.int .i64 0,.int .i64 0,.int .i64 0,.int .i64 0,.bool false]
def okN (n:Int):Prop:=1<=n/\n<=12
instance (n:Int):Decidable (okN n):=inferInstanceAs (Decidable (_/\_))
def infoE (n:Int):Int:=if okN n then 0 else 1
theorem infoV_none {n:Int} (h:¬ okN n):infoV n=#[.int .i64 0,.string ⟨#[]⟩,.int .i64 0,.int .i64 0,.int .i64 0,.int .i64 0,.int .i64 0,.int .i64 0,.int .i64 0,.bool false]:=by
 unfold infoV okN at *
 split <;> first | rfl | omega
theorem okN_cases {n:Int} (h:okN n):n=1∨n=2∨n=3∨n=4∨n=5∨n=6∨n=7∨n=8∨n=9∨n=10∨n=11∨n=12:=by unfold okN at h;omega
theorem below1' (w:World) (a:Obj):Below w.heap.size w (w.alloc a):=(Below.refl _ _).alloc (Nat.le_refl _) a
theorem below2' (w:World) (a b:Obj):Below w.heap.size w ((w.alloc a).alloc b):=(below1' w a).alloc (by simp) b
theorem below3' (w:World) (a b c:Obj):Below w.heap.size w (((w.alloc a).alloc b).alloc c):=(below2' w a b).alloc (by simp;omega) c
theorem of_1 (w:World) (hT:Tab w) :
  CB 70 #[.int .i64 1] w (.tuple #[.agg (infoV 1),.int .i64 0]):=by
 have hs:=hT.1
 have h0:=hT.2 0 0 (by decide) (by decide)
 have h1:=hT.2 0 1 (by decide) (by decide)
 have h2:=hT.2 0 2 (by decide) (by decide)
 have h3:=hT.2 0 3 (by decide) (by decide)
 simp only [Nat.reduceMul,Nat.reduceAdd,rowV] at h0 h1 h2 h3
 show CB 70 #[.int .i64 1] w (.tuple #[.agg #[.int .i64 1,.string ⟨#[72,97,108,102]⟩,.int .i64 2,.int .i64 16,.int .i64 11,.int .i64 5,.int .i64 (-24),.int .i64 5,.int .i64 9,.bool false],.int .i64 0])
 clear hT
 go_enter Tryz.func70,Tryz.ntmps70
 go_wp2
 go_region
 go_wp2
 exact bodyPost_ret (v:=.tuple #[.agg #[.int .i64 1,.string ⟨#[72,97,108,102]⟩,.int .i64 2,.int .i64 16,.int .i64 11,.int .i64 5,.int .i64 (-24),.int .i64 5,.int .i64 9,.bool false],.int .i64 0]) (by rw [results_cell_tmp rfl];go_simp) rfl ⟨rfl,(below3' _ _ _ _).drew⟩
theorem of_2 (w:World) (hT:Tab w) :
  CB 70 #[.int .i64 2] w (.tuple #[.agg (infoV 2),.int .i64 0]):=by
 have hs:=hT.1
 have h0:=hT.2 1 0 (by decide) (by decide)
 have h1:=hT.2 1 1 (by decide) (by decide)
 have h2:=hT.2 1 2 (by decide) (by decide)
 have h3:=hT.2 1 3 (by decide) (by decide)
 simp only [Nat.reduceMul,Nat.reduceAdd,rowV] at h0 h1 h2 h3
 show CB 70 #[.int .i64 2] w (.tuple #[.agg #[.int .i64 2,.string ⟨#[66,114,97,105,110]⟩,.int .i64 2,.int .i64 16,.int .i64 8,.int .i64 8,.int .i64 (-133),.int .i64 120,.int .i64 6,.bool false],.int .i64 0])
 clear hT
 go_enter Tryz.func70,Tryz.ntmps70
 go_wp2
 go_region
 go_wp2
 exact bodyPost_ret (v:=.tuple #[.agg #[.int .i64 2,.string ⟨#[66,114,97,105,110]⟩,.int .i64 2,.int .i64 16,.int .i64 8,.int .i64 8,.int .i64 (-133),.int .i64 120,.int .i64 6,.bool false],.int .i64 0]) (by rw [results_cell_tmp rfl];go_simp) rfl ⟨rfl,(below3' _ _ _ _).drew⟩
theorem of_3 (w:World) (hT:Tab w) :
  CB 70 #[.int .i64 3] w (.tuple #[.agg (infoV 3),.int .i64 0]):=by
 have hs:=hT.1
 have h0:=hT.2 2 0 (by decide) (by decide)
 have h1:=hT.2 2 1 (by decide) (by decide)
 have h2:=hT.2 2 2 (by decide) (by decide)
 have h3:=hT.2 2 3 (by decide) (by decide)
 simp only [Nat.reduceMul,Nat.reduceAdd,rowV] at h0 h1 h2 h3
 show CB 70 #[.int .i64 3] w (.tuple #[.agg #[.int .i64 3,.string ⟨#[83,105,110,103,108,101]⟩,.int .i64 2,.int .i64 32,.int .i64 24,.int .i64 8,.int .i64 (-149),.int .i64 104,.int .i64 22,.bool false],.int .i64 0])
 clear hT
 go_enter Tryz.func70,Tryz.ntmps70
 go_wp2
 go_region
 go_wp2
 exact bodyPost_ret (v:=.tuple #[.agg #[.int .i64 3,.string ⟨#[83,105,110,103,108,101]⟩,.int .i64 2,.int .i64 32,.int .i64 24,.int .i64 8,.int .i64 (-149),.int .i64 104,.int .i64 22,.bool false],.int .i64 0]) (by rw [results_cell_tmp rfl];go_simp) rfl ⟨rfl,(below3' _ _ _ _).drew⟩
theorem of_4 (w:World) (hT:Tab w) :
  CB 70 #[.int .i64 4] w (.tuple #[.agg (infoV 4),.int .i64 0]):=by
 have hs:=hT.1
 have h0:=hT.2 3 0 (by decide) (by decide)
 have h1:=hT.2 3 1 (by decide) (by decide)
 have h2:=hT.2 3 2 (by decide) (by decide)
 have h3:=hT.2 3 3 (by decide) (by decide)
 simp only [Nat.reduceMul,Nat.reduceAdd,rowV] at h0 h1 h2 h3
 show CB 70 #[.int .i64 4] w (.tuple #[.agg #[.int .i64 4,.string ⟨#[68,111,117,98,108,101]⟩,.int .i64 2,.int .i64 64,.int .i64 53,.int .i64 11,.int .i64 (-1074),.int .i64 971,.int .i64 51,.bool false],.int .i64 0])
 clear hT
 go_enter Tryz.func70,Tryz.ntmps70
 go_wp2
 go_region
 go_wp2
 exact bodyPost_ret (v:=.tuple #[.agg #[.int .i64 4,.string ⟨#[68,111,117,98,108,101]⟩,.int .i64 2,.int .i64 64,.int .i64 53,.int .i64 11,.int .i64 (-1074),.int .i64 971,.int .i64 51,.bool false],.int .i64 0]) (by rw [results_cell_tmp rfl];go_simp) rfl ⟨rfl,(below3' _ _ _ _).drew⟩
theorem of_5 (w:World) (hT:Tab w) :
  CB 70 #[.int .i64 5] w (.tuple #[.agg (infoV 5),.int .i64 0]):=by
 have hs:=hT.1
 have h0:=hT.2 4 0 (by decide) (by decide)
 have h1:=hT.2 4 1 (by decide) (by decide)
 have h2:=hT.2 4 2 (by decide) (by decide)
 have h3:=hT.2 4 3 (by decide) (by decide)
 simp only [Nat.reduceMul,Nat.reduceAdd,rowV] at h0 h1 h2 h3
 show CB 70 #[.int .i64 5] w (.tuple #[.agg #[.int .i64 5,.string ⟨#[81,117,97,100]⟩,.int .i64 2,.int .i64 128,.int .i64 113,.int .i64 15,.int .i64 (-16494),.int .i64 16271,.int .i64 111,.bool false],.int .i64 0])
 clear hT
 go_enter Tryz.func70,Tryz.ntmps70
 go_wp2
 go_region
 go_wp2
 exact bodyPost_ret (v:=.tuple #[.agg #[.int .i64 5,.string ⟨#[81,117,97,100]⟩,.int .i64 2,.int .i64 128,.int .i64 113,.int .i64 15,.int .i64 (-16494),.int .i64 16271,.int .i64 111,.bool false],.int .i64 0]) (by rw [results_cell_tmp rfl];go_simp) rfl ⟨rfl,(below3' _ _ _ _).drew⟩
theorem of_6 (w:World) (hT:Tab w) :
  CB 70 #[.int .i64 6] w (.tuple #[.agg (infoV 6),.int .i64 0]):=by
 have hs:=hT.1
 have h0:=hT.2 5 0 (by decide) (by decide)
 have h1:=hT.2 5 1 (by decide) (by decide)
 have h2:=hT.2 5 2 (by decide) (by decide)
 have h3:=hT.2 5 3 (by decide) (by decide)
 simp only [Nat.reduceMul,Nat.reduceAdd,rowV] at h0 h1 h2 h3
 show CB 70 #[.int .i64 6] w (.tuple #[.agg #[.int .i64 6,.string ⟨#[79,99,116,111]⟩,.int .i64 2,.int .i64 256,.int .i64 241,.int .i64 15,.int .i64 (-16622),.int .i64 16143,.int .i64 239,.bool false],.int .i64 0])
 clear hT
 go_enter Tryz.func70,Tryz.ntmps70
 go_wp2
 go_region
 go_wp2
 exact bodyPost_ret (v:=.tuple #[.agg #[.int .i64 6,.string ⟨#[79,99,116,111]⟩,.int .i64 2,.int .i64 256,.int .i64 241,.int .i64 15,.int .i64 (-16622),.int .i64 16143,.int .i64 239,.bool false],.int .i64 0]) (by rw [results_cell_tmp rfl];go_simp) rfl ⟨rfl,(below3' _ _ _ _).drew⟩
theorem of_7 (w:World) (hT:Tab w) :
  CB 70 #[.int .i64 7] w (.tuple #[.agg (infoV 7),.int .i64 0]):=by
 have hs:=hT.1
 have h0:=hT.2 6 0 (by decide) (by decide)
 have h1:=hT.2 6 1 (by decide) (by decide)
 have h2:=hT.2 6 2 (by decide) (by decide)
 have h3:=hT.2 6 3 (by decide) (by decide)
 simp only [Nat.reduceMul,Nat.reduceAdd,rowV] at h0 h1 h2 h3
 show CB 70 #[.int .i64 7] w (.tuple #[.agg #[.int .i64 7,.string ⟨#[80,108,97,105,110,51,50]⟩,.int .i64 10,.int .i64 32,.int .i64 7,.int .i64 96,.int .i64 (-101),.int .i64 90,.int .i64 6,.bool false],.int .i64 0])
 clear hT
 go_enter Tryz.func70,Tryz.ntmps70
 go_wp2
 go_region
 go_wp2
 exact bodyPost_ret (v:=.tuple #[.agg #[.int .i64 7,.string ⟨#[80,108,97,105,110,51,50]⟩,.int .i64 10,.int .i64 32,.int .i64 7,.int .i64 96,.int .i64 (-101),.int .i64 90,.int .i64 6,.bool false],.int .i64 0]) (by rw [results_cell_tmp rfl];go_simp) rfl ⟨rfl,(below3' _ _ _ _).drew⟩
theorem of_8 (w:World) (hT:Tab w) :
  CB 70 #[.int .i64 8] w (.tuple #[.agg (infoV 8),.int .i64 0]):=by
 have hs:=hT.1
 have h0:=hT.2 7 0 (by decide) (by decide)
 have h1:=hT.2 7 1 (by decide) (by decide)
 have h2:=hT.2 7 2 (by decide) (by decide)
 have h3:=hT.2 7 3 (by decide) (by decide)
 simp only [Nat.reduceMul,Nat.reduceAdd,rowV] at h0 h1 h2 h3
 show CB 70 #[.int .i64 8] w (.tuple #[.agg #[.int .i64 8,.string ⟨#[80,108,97,105,110,54,52]⟩,.int .i64 10,.int .i64 64,.int .i64 16,.int .i64 384,.int .i64 (-398),.int .i64 369,.int .i64 15,.bool false],.int .i64 0])
 clear hT
 go_enter Tryz.func70,Tryz.ntmps70
 go_wp2
 go_region
 go_wp2
 exact bodyPost_ret (v:=.tuple #[.agg #[.int .i64 8,.string ⟨#[80,108,97,105,110,54,52]⟩,.int .i64 10,.int .i64 64,.int .i64 16,.int .i64 384,.int .i64 (-398),.int .i64 369,.int .i64 15,.bool false],.int .i64 0]) (by rw [results_cell_tmp rfl];go_simp) rfl ⟨rfl,(below3' _ _ _ _).drew⟩
theorem of_9 (w:World) (hT:Tab w) :
  CB 70 #[.int .i64 9] w (.tuple #[.agg (infoV 9),.int .i64 0]):=by
 have hs:=hT.1
 have h0:=hT.2 8 0 (by decide) (by decide)
 have h1:=hT.2 8 1 (by decide) (by decide)
 have h2:=hT.2 8 2 (by decide) (by decide)
 have h3:=hT.2 8 3 (by decide) (by decide)
 simp only [Nat.reduceMul,Nat.reduceAdd,rowV] at h0 h1 h2 h3
 show CB 70 #[.int .i64 9] w (.tuple #[.agg #[.int .i64 9,.string ⟨#[80,108,97,105,110,49,50,56]⟩,.int .i64 10,.int .i64 128,.int .i64 34,.int .i64 6144,.int .i64 (-6176),.int .i64 6111,.int .i64 33,.bool false],.int .i64 0])
 clear hT
 go_enter Tryz.func70,Tryz.ntmps70
 go_wp2
 go_region
 go_wp2
 exact bodyPost_ret (v:=.tuple #[.agg #[.int .i64 9,.string ⟨#[80,108,97,105,110,49,50,56]⟩,.int .i64 10,.int .i64 128,.int .i64 34,.int .i64 6144,.int .i64 (-6176),.int .i64 6111,.int .i64 33,.bool false],.int .i64 0]) (by rw [results_cell_tmp rfl];go_simp) rfl ⟨rfl,(below3' _ _ _ _).drew⟩
theorem of_10 (w:World) (hT:Tab w) :
  CB 70 #[.int .i64 10] w (.tuple #[.agg (infoV 10),.int .i64 0]):=by
 have hs:=hT.1
 have h0:=hT.2 9 0 (by decide) (by decide)
 have h1:=hT.2 9 1 (by decide) (by decide)
 have h2:=hT.2 9 2 (by decide) (by decide)
 have h3:=hT.2 9 3 (by decide) (by decide)
 simp only [Nat.reduceMul,Nat.reduceAdd,rowV] at h0 h1 h2 h3
 show CB 70 #[.int .i64 10] w (.tuple #[.agg #[.int .i64 10,.string ⟨#[68,101,110,115,101,51,50]⟩,.int .i64 10,.int .i64 32,.int .i64 7,.int .i64 96,.int .i64 (-101),.int .i64 90,.int .i64 6,.bool true],.int .i64 0])
 clear hT
 go_enter Tryz.func70,Tryz.ntmps70
 go_wp2
 go_region
 go_wp2
 exact bodyPost_ret (v:=.tuple #[.agg #[.int .i64 10,.string ⟨#[68,101,110,115,101,51,50]⟩,.int .i64 10,.int .i64 32,.int .i64 7,.int .i64 96,.int .i64 (-101),.int .i64 90,.int .i64 6,.bool true],.int .i64 0]) (by rw [results_cell_tmp rfl];go_simp) rfl ⟨rfl,(below3' _ _ _ _).drew⟩
theorem of_11 (w:World) (hT:Tab w) :
  CB 70 #[.int .i64 11] w (.tuple #[.agg (infoV 11),.int .i64 0]):=by
 have hs:=hT.1
 have h0:=hT.2 10 0 (by decide) (by decide)
 have h1:=hT.2 10 1 (by decide) (by decide)
 have h2:=hT.2 10 2 (by decide) (by decide)
 have h3:=hT.2 10 3 (by decide) (by decide)
 simp only [Nat.reduceMul,Nat.reduceAdd,rowV] at h0 h1 h2 h3
 show CB 70 #[.int .i64 11] w (.tuple #[.agg #[.int .i64 11,.string ⟨#[68,101,110,115,101,54,52]⟩,.int .i64 10,.int .i64 64,.int .i64 16,.int .i64 384,.int .i64 (-398),.int .i64 369,.int .i64 15,.bool true],.int .i64 0])
 clear hT
 go_enter Tryz.func70,Tryz.ntmps70
 go_wp2
 go_region
 go_wp2
 exact bodyPost_ret (v:=.tuple #[.agg #[.int .i64 11,.string ⟨#[68,101,110,115,101,54,52]⟩,.int .i64 10,.int .i64 64,.int .i64 16,.int .i64 384,.int .i64 (-398),.int .i64 369,.int .i64 15,.bool true],.int .i64 0]) (by rw [results_cell_tmp rfl];go_simp) rfl ⟨rfl,(below3' _ _ _ _).drew⟩
theorem of_12 (w:World) (hT:Tab w) :
  CB 70 #[.int .i64 12] w (.tuple #[.agg (infoV 12),.int .i64 0]):=by
 have hs:=hT.1
 have h0:=hT.2 11 0 (by decide) (by decide)
 have h1:=hT.2 11 1 (by decide) (by decide)
 have h2:=hT.2 11 2 (by decide) (by decide)
 have h3:=hT.2 11 3 (by decide) (by decide)
 simp only [Nat.reduceMul,Nat.reduceAdd,rowV] at h0 h1 h2 h3
 show CB 70 #[.int .i64 12] w (.tuple #[.agg #[.int .i64 12,.string ⟨#[68,101,110,115,101,49,50,56]⟩,.int .i64 10,.int .i64 128,.int .i64 34,.int .i64 6144,.int .i64 (-6176),.int .i64 6111,.int .i64 33,.bool true],.int .i64 0])
 clear hT
 go_enter Tryz.func70,Tryz.ntmps70
 go_wp2
 go_region
 go_wp2
 exact bodyPost_ret (v:=.tuple #[.agg #[.int .i64 12,.string ⟨#[68,101,110,115,101,49,50,56]⟩,.int .i64 10,.int .i64 128,.int .i64 34,.int .i64 6144,.int .i64 (-6176),.int .i64 6111,.int .i64 33,.bool true],.int .i64 0]) (by rw [results_cell_tmp rfl];go_simp) rfl ⟨rfl,(below3' _ _ _ _).drew⟩
theorem of_none (n:Int) (w:World) (h:¬ okN n) :
  CB 70 #[.int .i64 n] w (.tuple #[.agg (infoV n),.int .i64 1]):=by
 rw [infoV_none h]
 have key:n<1∨(1<=n/\12<n):=by unfold okN at h;omega
 clear h
 rcases key with k1 | ⟨k1,k2⟩
 all_goals
  go_enter Tryz.func70,Tryz.ntmps70
  go_wp2
  exact bodyPost_ret (v:=.tuple #[.agg #[.int .i64 0,.string ⟨#[]⟩,.int .i64 0,.int .i64 0,.int .i64 0,.int .i64 0,.int .i64 0,.int .i64 0,.int .i64 0,.bool false],.int .i64 1]) (by rw [results_cell_tmp rfl];go_simp) rfl ⟨rfl,below1' _ _⟩
theorem dof_any (n:Int) (w:World) (hT:Tab w) :
  CB 70 #[.int .i64 n] w (.tuple #[.agg (infoV n),.int .i64 (infoE n)]):=by
 by_cases h:okN n
 ·rcases okN_cases h with rfl | rfl | rfl | rfl | rfl | rfl | rfl | rfl | rfl | rfl | rfl | rfl
  ·exact of_1 w hT
  ·exact of_2 w hT
  ·exact of_3 w hT
  ·exact of_4 w hT
  ·exact of_5 w hT
  ·exact of_6 w hT
  ·exact of_7 w hT
  ·exact of_8 w hT
  ·exact of_9 w hT
  ·exact of_10 w hT
  ·exact of_11 w hT
  ·exact of_12 w hT
 ·unfold infoE;rw [if_neg h];exact of_none n w h
def B (l:List UInt8):ByteArray:=⟨l.toArray⟩
theorem B_of (s:ByteArray):B s.data.toList=s:=by cases s;rfl
theorem B_size (l:List UInt8):(B l).size=l.length:=rfl
theorem B_get {l:List UInt8} {i:Nat} (h:i<(B l).size):(B l)[i]'h=l[i]'(by rwa [B_size] at h):=by
 show (B l).data[i]'_=_
 simp [B]
theorem B_ext (l:List UInt8) (a b:Nat):(B l).extract a b=B ((l.take b).drop a):=by
 apply ByteArray.ext
 rw [ByteArray.data_extract]
 show l.toArray.extract a b=((l.take b).drop a).toArray
 rw [List.extract_toArray,List.extract_eq_take_drop,List.drop_take]
theorem B_app (a b:List UInt8):B a++B b=B (a++b):=by
 apply ByteArray.ext
 rw [ByteArray.data_append]
 show a.toArray++b.toArray=(a++b).toArray
 simp
def by_ (l:List UInt8) (i:Nat):Int:=if h:i<l.length then ((l[i]'h).toNat:Int) else 0
theorem by_lt {l:List UInt8} {i:Nat} (h:i<(B l).size):(((B l)[i]'h).toNat:Int)=by_ l i:=by
 rw [B_get h];unfold by_;rw [dif_pos (by rwa [B_size] at h)]
theorem by_bd (l:List UInt8) (i:Nat):0<=by_ l i/\by_ l i<=255:=by
 unfold by_;split
 ·rename_i h;have:=(l[i]'h).toNat_lt;omega
 ·omega
theorem by_succ (c:UInt8) (r:List UInt8) (i:Nat):by_ (c :: r) (i+1)=by_ r i:=by
 unfold by_
 by_cases h:i<r.length
 ·rw [dif_pos h,dif_pos (by simpa using h)];rfl
 ·rw [dif_neg h,dif_neg (by simpa using h)]
theorem by_zero (c:UInt8) (r:List UInt8):by_ (c :: r) 0=(c.toNat:Int):=by simp [by_]
def dg (c:UInt8):Bool:=decide (48<=c.toNat/\c.toNat<=57)
def dgs (l:List UInt8):List UInt8:=l.takeWhile dg
def rst (l:List UInt8):List UInt8:=l.dropWhile dg
theorem dgs_rst (l:List UInt8):dgs l++rst l=l:=List.takeWhile_append_dropWhile
theorem dgs_le (l:List UInt8):(dgs l).length<=l.length:=by
 have:=congrArg List.length (dgs_rst l)
 rw [List.length_append] at this;omega
theorem take_dgs (l:List UInt8):l.take (dgs l).length=dgs l:=by
 conv=>lhs;arg 2;rw [← dgs_rst l]
 simp
theorem drop_dgs (l:List UInt8):l.drop (dgs l).length=rst l:=by
 conv=>lhs;arg 2;rw [← dgs_rst l]
 simp
theorem dgs_at:∀ (l:List UInt8) (i:Nat),i<(dgs l).length->48<=by_ l i/\by_ l i<=57
 | [],i,h=>by simp [dgs] at h
 | c :: r,i,h=>by
  unfold dgs at h
  rw [List.takeWhile_cons] at h
  split at h
  ·rename_i hc
   unfold dg at hc
   simp at hc
   cases i with
   | zero=>simp [by_];omega
   | succ i =>
    have:=dgs_at r i (by simpa [dgs] using h)
    rw [by_succ]
    exact this
  ·simp at h
theorem dgs_stop:∀ (l:List UInt8),(dgs l).length<l.length->¬ (48<=by_ l (dgs l).length/\by_ l (dgs l).length<=57)
 | [],h=>by simp [dgs] at h
 | c :: r,h=>by
  unfold dgs at h ⊢
  rw [List.takeWhile_cons] at h ⊢
  split at h
  ·rename_i hc
   rw [if_pos hc]
   have:=dgs_stop r (by simpa [dgs] using h)
   rw [List.length_cons,by_succ]
   exact this
  ·rename_i hc
   rw [if_neg hc]
   unfold dg at hc
   simp at hc
   simp [by_]
   intro h1
   omega
theorem gbcell {W w1:World} (hb:Below W.heap.size W w1):(∀ b o,b<W.heap.size->w1.cell? ⟨b,o,none⟩=W.cell? ⟨b,o,none⟩)/\(∀ b o,b<W.heap.size->w1.frozen? ⟨b,o,none⟩=W.frozen? ⟨b,o,none⟩) :=
 ⟨fun b o h=>hb.cell (p:=⟨b,o,none⟩) h,fun b o h=>hb.frozen (p:=⟨b,o,none⟩) h⟩
theorem gbelow_drewN {B:Nat} {a w:World} {m:Nat} (h:Below B a w):Below B a (w.drewN m):=⟨h.os,h.tape,h.output,h.size,h.block⟩
theorem gbnext {w0 W W':World} (h:Below w0.heap.size w0 W) (hb:Below W.heap.size W W'):Below w0.heap.size w0 W':=h.trans (hb.mono h.size)
theorem glt_below {n g:Nat} {W W':World} (hb:Below n W W') (h:g<W.heap.size):g<W'.heap.size:=Nat.lt_of_lt_of_le h hb.size
theorem gcell_set_map (W:World) (b i:Nat) (v:Value):(W.setCell ⟨b,i,none⟩ v).cell? ⟨b,i,none⟩=(W.cell? ⟨b,i,none⟩).map fun _=>v:=by
 unfold World.cell? World.setCell
 simp only [Array.getElem?_modify,if_true]
 cases h:W.heap[b]? with
 | none=>simp
 | some o =>
  cases o with
  | cells c e fr =>
   simp only [Option.map_some,Option.isSome_none,Bool.false_eq_true,if_false]
   by_cases hi:i<c.size
   ·simp [hi]
   ·simp [hi]
  | _=>simp
theorem B_toList (l:List UInt8):(B l).toList=l:=by rw [Lib.toList_data];rfl
theorem ldig_any (l:List UInt8) (w:World) (hs:l.length<4294967296) :
  CB 116 #[.string (B l)] w (.tuple #[.string (B (dgs l)),.string (B (rst l))]):=by
 have hsz:=B_size l
 have E1:(B l).extract 0 (dgs l).length=B (dgs l):=by rw [B_ext,List.drop_zero,take_dgs]
 have E2:(B l).extract (dgs l).length (B l).size=B (rst l):=by rw [B_ext,B_size,List.take_length,drop_dgs]
 rw [hsz] at E2
 have hle:=dgs_le l
 have HA:Hid (∀ i,i<(dgs l).length->48<=by_ l i/\by_ l i<=57):=dgs_at l
 have HS:Hid ((dgs l).length<l.length->¬ (48<=by_ l (dgs l).length/\by_ l (dgs l).length<=57)):=dgs_stop l
 generalize dgs l=d at *
 go_enter Tryz.func116,Tryz.ntmps116
 go_wp2
 go_loop [4] (fun i=>∃ k:Nat,k<=d.length/\i=.int .i64 k) (fun i=>d.length-(intOf i).toNat)
 case atStart=>exact ⟨0,Nat.zero_le _,rfl⟩
 case round =>
  obtain ⟨k,hk,rfl⟩:=hrel
  by_cases hlt:k<d.length
  ·have hki:(k:Int)<(B l).size:=by omega
   have hsb:=by_lt (l:=l) (i:=k) (by omega)
   have hbd:=HA.out k hlt
   go_wp2
   go_round
   case rel=>exact ⟨k+1,by omega,by go_num⟩
   case measure=>simp [intOf];omega
  ·obtain rfl:k=d.length:=by omega
   by_cases he:d.length<l.length
   ·have hki:(d.length:Int)<(B l).size:=by omega
    have hsb:=by_lt (l:=l) (i:=d.length) (by omega)
    have hbd:=by_bd l d.length
    have hst:=HS.out he
    by_cases h1:by_ l d.length<48
    ·go_wp2
     go_quiet (fail)
     go_wp2
     go_ret2
     exact ⟨rfl,gbelow_drewN (Below.refl _ _)⟩
    ·have h2:57<by_ l d.length:=by omega
     go_wp2
     go_quiet (fail)
     go_wp2
     go_ret2
     exact ⟨rfl,gbelow_drewN (Below.refl _ _)⟩
   ·have hki:(d.length:Int)=(B l).size:=by omega
    have hki2:(d.length:Int)=l.length:=by omega
    have hdl:d.length=l.length:=by omega
    have X1:Hid (B d=(B l).extract 0 l.length):=by show _=_;rw [← E1,hdl]
    have X2:Hid (B (rst l)=ByteArray.empty):=by
     show _=_
     rw [← E2,hdl,B_ext,List.take_length,List.drop_length];rfl
    go_wp2
    go_quiet (fail)
    go_wp2
    go_ret2
    refine ⟨?_,gbelow_drewN (Below.refl _ _)⟩
    rw [X1.out,X2.out]
    rfl
def gsgB:List UInt8->Bool
 | c :: _=>decide ((c.toNat:Int)=45)
 | []=>false
def sgR:List UInt8->List UInt8
 | c :: r=>if (c.toNat:Int)=45∨(c.toNat:Int)=43 then r else c :: r
 | []=>[]
theorem B_tail (c:UInt8) (r:List UInt8):(B (c :: r)).extract 1 (B (c :: r)).size=B r:=by
 rw [B_ext,B_size,List.take_length];rfl
theorem lsign_any (l:List UInt8) (w:World) (hs:l.length<4294967296) :
  CB 72 #[.string (B l)] w (.tuple #[.bool (gsgB l),.string (B (sgR l))]):=by
 have htl:=B_toList
 cases l with
 | nil =>
  have hsz:(B []).size=0:=rfl
  go_enter Tryz.func72,Tryz.ntmps72
  go_wp2
  go_ret2
  exact ⟨rfl,Below.refl _ _⟩
 | cons c r =>
  have hsz:=B_size (c :: r)
  have hln:(c :: r).length=r.length+1:=rfl
  have hbt:=B_tail c r
  have hsb:=by_lt (l:=c :: r) (i:=0) (by rw [hsz,hln];omega)
  rw [by_zero] at hsb
  rw [hsz,hln] at hbt
  have hbd:=c.toNat_lt
  rw [List.length_cons] at hs
  by_cases h1:(c.toNat:Int)=45
  ·have HX:Hid (sgR (c :: r)=r/\gsgB (c :: r)=true):=⟨if_pos (Or.inl h1),decide_eq_true h1⟩
   rw [HX.out.1,HX.out.2]
   go_enter Tryz.func72,Tryz.ntmps72
   go_wp2
   go_quiet (fail)
   go_wp2
   go_ret2
   exact ⟨rfl,gbelow_drewN (Below.refl _ _)⟩
  ·by_cases h2:(c.toNat:Int)=43
   ·have HX:Hid (sgR (c :: r)=r/\gsgB (c :: r)=false):=⟨if_pos (Or.inr h2),decide_eq_false h1⟩
    rw [HX.out.1,HX.out.2]
    go_enter Tryz.func72,Tryz.ntmps72
    go_wp2
    go_quiet (fail)
    go_wp2
    go_ret2
    exact ⟨rfl,gbelow_drewN (Below.refl _ _)⟩
   ·have HX:Hid (sgR (c :: r)=c :: r/\gsgB (c :: r)=false):=⟨if_neg (by omega),decide_eq_false h1⟩
    rw [HX.out.1,HX.out.2]
    have g1:((c.toNat:Int) == 45)=false:=beq_eq_false_iff_ne.2 h1
    have g2:((c.toNat:Int) == 43)=false:=beq_eq_false_iff_ne.2 h2
    go_enter Tryz.func72,Tryz.ntmps72
    go_wp2
    go_ret2
    exact ⟨rfl,Below.refl _ _⟩
def bar (l:List UInt8):List UInt8:=l.dropWhile (· == 48)
theorem bar_cons (c:UInt8) (r:List UInt8):bar (c :: r)=if (c.toNat:Int)=48 then bar r else c :: r:=by
 unfold bar
 rw [List.dropWhile_cons]
 by_cases h:c=48
 ·subst h;rfl
 ·have:¬ (c.toNat:Int)=48:=fun e=>h (UInt8.toNat_inj.1 (by simpa using (show c.toNat=48 by omega)))
  rw [if_neg this,if_neg (by simpa using h)]
def isd (l:List UInt8):Bool:=l.all dg && !l.isEmpty
theorem all_dg (l:List UInt8):l.all dg=true↔∀ i,i<l.length->48<=by_ l i/\by_ l i<=57:=by
 rw [List.all_eq_true]
 constructor
 ·intro h i hi
  have:=h _ (List.getElem_mem hi)
  unfold dg at this;simp at this
  unfold by_;rw [dif_pos hi];omega
 ·intro h c hc
  obtain ⟨i,hi,rfl⟩:=List.getElem_of_mem hc
  have:=h i hi
  unfold by_ at this;rw [dif_pos hi] at this
  unfold dg;simp;omega
def nv (l:List UInt8):Int:=l.foldl (fun v c=>10*v+((c.toNat:Int)-48)) 0
theorem nv_fold (l:List UInt8):∀ v:Int,l.foldl (fun v c=>10*v+((c.toNat:Int)-48)) v=v*10^l.length+nv l:=by
 induction l with
 | nil=>intro v;simp [nv]
 | cons c r ih =>
  intro v
  unfold nv
  rw [List.foldl_cons,List.foldl_cons,ih,ih (10*0+_),List.length_cons,Int.pow_succ]
  grind
theorem nv_app (a b:List UInt8):nv (a++b)=nv a*10^b.length+nv b:=by
 unfold nv
 rw [List.foldl_append,nv_fold b]
 rfl
theorem gnv_one (c:UInt8):nv [c]=(c.toNat:Int)-48:=by simp [nv]
theorem take_snoc {l:List UInt8} {k:Nat} (h:k<l.length):l.take (k+1)=l.take k++[l[k]]:=List.take_succ_eq_append_getElem h
theorem nv_take {l:List UInt8} {k:Nat} (h:k<l.length):nv (l.take (k+1))=10*nv (l.take k)+(by_ l k-48):=by
 rw [take_snoc h,nv_app,gnv_one]
 unfold by_;rw [dif_pos h]
 simp;omega
theorem nv_nn {l:List UInt8} (h:l.all dg=true):0<=nv l/\nv l<10^l.length:=by
 have key:∀ k,k<=l.length->0<=nv (l.take k)/\nv (l.take k)<10^k:=by
  intro k
  induction k with
  | zero=>intro _;simp [nv]
  | succ k ih =>
   intro hk
   have h1:=ih (by omega)
   have h2:=(all_dg l).1 h k (by omega)
   rw [nv_take (by omega),Int.pow_succ]
   omega
 have:=key l.length (Nat.le_refl _)
 rwa [List.take_length] at this
theorem nv_take_nn {l:List UInt8} (h:l.all dg=true) (k:Nat):0<=nv (l.take k) :=
 (nv_nn (l:=l.take k) (List.all_eq_true.2 fun c hc=>List.all_eq_true.1 h c (List.mem_of_mem_take hc))).1
def vc (l:List UInt8):Int:=min (nv l) 2000000000
theorem value_any (l:List UInt8) (w:World) (hs:l.length<4294967296) (hd:l.all dg=true) :
  CB 154 #[.string (B l)] w (.int .i64 (vc l)):=by
 have hsz:=B_size l
 have HD:Hid (l.all dg=true):=hd
 have HA:Hid (∀ i,i<l.length->48<=by_ l i/\by_ l i<=57):=(all_dg l).1 hd
 clear hd
 go_enter Tryz.func154,Tryz.ntmps154
 go_wp2
 go_loop [3,4,7] (fun v u4 i=>∃ (k:Nat) (x:Int),k<=l.length/\i=.int .i64 k/\v=.int .i64 x/\0<=x/\x<=2000000000/\Hid (x=vc (l.take k))) (fun _ _ i=>l.length-(intOf i).toNat)
 case atStart=>exact ⟨0,0,Nat.zero_le _,rfl,rfl,by decide,by decide,rfl⟩
 case round =>
  obtain ⟨k,x,hk,rfl,rfl,hx0,hx1,hx⟩:=hrel
  by_cases hlt:k<l.length
  ·have hki:(k:Int)<(B l).size:=by omega
   have hki2:(k:Int)<l.length:=by omega
   have hsb:=by_lt (l:=l) (i:=k) (by omega)
   have hbd:=HA.out k hlt
   have HX:Hid (min (10*x+(by_ l k-48)) 2000000000=vc (l.take (k+1))):=by
    show _=_
    have h0:=nv_take_nn HD.out k
    rw [hx.out];unfold vc;rw [nv_take hlt]
    omega
   go_wp2
   go_round
   case rel=>exact ⟨k+1,min (10*x+(by_ l k-48)) 2000000000,by omega,by go_num,by go_num,by omega,by omega,HX.out⟩
   case measure=>simp [intOf];omega
  ·obtain rfl:k=l.length:=by omega
   rw [List.take_length] at hx
   go_wp2
   go_ret
   exact ⟨by rw [← hx.out];rfl,Below.refl _ _⟩
theorem all_dgs (l:List UInt8):(dgs l).all dg=true:=List.all_takeWhile
theorem rst_nil {l:List UInt8} (h:rst l=[]):dgs l=l:=by
 have:=dgs_rst l;rw [h,List.append_nil] at this;exact this
theorem rst_of_all {l:List UInt8} (h:l.all dg=true):rst l=[]/\dgs l=l:=by
 have:dgs l=l:=by
  induction l with
  | nil=>rfl
  | cons c r ih =>
   rw [List.all_cons,Bool.and_eq_true] at h
   unfold dgs at ih ⊢
   rw [List.takeWhile_cons,if_pos h.1,ih h.2]
 refine ⟨?_,this⟩
 have e:=dgs_rst l
 rw [this] at e
 simpa using e
theorem isd_iff (l:List UInt8):isd l=true↔dgs l≠[]/\rst l=[]:=by
 unfold isd
 simp only [Bool.and_eq_true,Bool.not_eq_true',List.isEmpty_eq_false_iff]
 constructor
 ·rintro ⟨h1,h2⟩
  obtain ⟨a,b⟩:=rst_of_all h1
  exact ⟨by rw [b];exact h2,a⟩
 ·rintro ⟨h1,h2⟩
  have:=rst_nil h2
  rw [this] at h1
  exact ⟨by rw [← this];exact all_dgs l,h1⟩
theorem sgR_le (l:List UInt8):(sgR l).length<=l.length:=by
 cases l with
 | nil=>exact Nat.le_refl _
 | cons c r =>
  show (if _ then r else c :: r).length<=_
  split <;> simp
theorem rst_le (l:List UInt8):(rst l).length<=l.length:=by
 have:=congrArg List.length (dgs_rst l)
 rw [List.length_append] at this;omega
def exB:List UInt8->Bool
 | []=>true
 | c :: r=>decide ((c.toNat:Int)=101∨(c.toNat:Int)=69) && isd (sgR r)
def exS (r:List UInt8):Int:=if gsgB r then-vc (sgR r) else vc (sgR r)
def exI:List UInt8->Int
 | []=>0
 | c :: r=>if exB (c :: r) then exS r else 0
theorem vc_bd {l:List UInt8} (h:l.all dg=true):0<=vc l/\vc l<=2000000000:=by
 have:=(nv_nn h).1
 unfold vc;omega
theorem exponent_e (c:UInt8) (r:List UInt8) (w:World) (hs:r.length<4294967290) (hc:(c.toNat:Int)=101∨(c.toNat:Int)=69) :
  CB 118 #[.string (B (c :: r))] w (.tuple #[.int .i64 (if isd (sgR r) then exS r else 0),.bool (isd (sgR r))]):=by
 have htl:=B_toList
 have hsz:=B_size (c :: r)
 have hln:(c :: r).length=r.length+1:=rfl
 have hbt:=B_tail c r
 have hsb:=by_lt (l:=c :: r) (i:=0) (by rw [hsz,hln];omega)
 rw [by_zero] at hsb
 rw [hsz,hln] at hbt
 have c16:=fun w=>lsign_any r w (by omega)
 have hsl:=sgR_le r
 have c27:=fun w=>ldig_any (sgR r) w (by omega)
 have hdl:=dgs_le (sgR r)
 have g1:((c.toNat:Int) != 101 && (c.toNat:Int) != 69)=false:=by
  rcases hc with h | h <;> rw [h] <;> rfl
 have g0:=c.toNat_lt
 by_cases hi:isd (sgR r)=true
 ·have hi2:=(isd_iff _).1 hi
  have c40:=fun w=>value_any (dgs (sgR r)) w (by omega) (all_dgs _)
  have hvb:=vc_bd (all_dgs (sgR r))
  have HE:Hid (exS r=if gsgB r then-vc (dgs (sgR r)) else vc (dgs (sgR r))):=by show _=_;unfold exS;rw [rst_nil hi2.2]
  rw [if_pos hi,hi]
  rw [hi2.2] at c27
  have HN:=hi2.1
  clear hi hi2
  generalize dgs (sgR r)=D at *
  cases D with
  | nil=>exact absurd rfl HN
  | cons d ds =>
   clear HN
   generalize sgR r=X at *
   generalize exS r=E at *
   have hb:∀ z:Bool,gsgB r=z->CB 118 #[.string (B (c :: r))] w (.tuple #[.int .i64 E,.bool true]):=by
    intro z hz
    rw [hz] at c16 HE
    clear hz
    cases z
    all_goals
     simp only [Bool.false_eq_true,if_true,if_false] at HE
     rcases hc with h | h
     all_goals
      rw [HE.out];clear HE
      go_enter Tryz.func118,Tryz.ntmps118
      go_wp2_with (first
       | (go_at_call 72;refine (c16 _).mono ?_;rintro x w1 ⟨rfl,hb1⟩)
       | (go_at_call 116;refine (c27 _).mono ?_;rintro x w2 ⟨rfl,hb2⟩)
       | (go_at_call 154;refine (c40 _).mono ?_;rintro x w3 ⟨rfl,hb3⟩))
      go_ret2
      exact ⟨rfl,gbnext (gbnext hb1 hb2) hb3⟩
   exact hb _ rfl
 ·have hi0:isd (sgR r)=false:=by simpa using hi
  rw [if_neg hi,hi0]
  have HN:¬ (dgs (sgR r)≠[]/\rst (sgR r)=[]):=fun h=>hi ((isd_iff _).2 h)
  clear hi hi0
  generalize dgs (sgR r)=D at *
  generalize rst (sgR r)=R at *
  generalize sgR r=X at *
  have hb:∀ (k:c.toNat=101∨c.toNat=69),CB 118 #[.string (B (c :: r))] w (.tuple #[.int .i64 0,.bool false]):=by
   intro _
   cases D with
   | nil =>
    clear HN
    rcases hc with h | h
    all_goals
     go_enter Tryz.func118,Tryz.ntmps118
     go_wp2_with (first
      | (go_at_call 72;refine (c16 _).mono ?_;rintro x w1 ⟨rfl,hb1⟩)
      | (go_at_call 116;refine (c27 _).mono ?_;rintro x w2 ⟨rfl,hb2⟩))
     go_ret2
     exact ⟨rfl,gbnext hb1 hb2⟩
   | cons d ds =>
    cases R with
    | nil=>exact absurd ⟨by simp,rfl⟩ HN
    | cons q qs =>
     clear HN
     rcases hc with h | h
     all_goals
      go_enter Tryz.func118,Tryz.ntmps118
      go_wp2_with (first
       | (go_at_call 72;refine (c16 _).mono ?_;rintro x w1 ⟨rfl,hb1⟩)
       | (go_at_call 116;refine (c27 _).mono ?_;rintro x w2 ⟨rfl,hb2⟩))
      go_ret2
      exact ⟨rfl,gbnext hb1 hb2⟩
  exact hb (by omega)
theorem exponent_any (l:List UInt8) (w:World) (hs:l.length<4294967290) :
  CB 118 #[.string (B l)] w (.tuple #[.int .i64 (exI l),.bool (exB l)]):=by
 have htl:=B_toList
 cases l with
 | nil =>
  unfold exI exB
  go_enter Tryz.func118,Tryz.ntmps118
  go_wp2
  go_ret2
  exact ⟨rfl,Below.refl _ _⟩
 | cons c r =>
  by_cases hc:(c.toNat:Int)=101∨(c.toNat:Int)=69
  ·have:=exponent_e c r w (by rw [List.length_cons] at hs;omega) hc
   have e1:exB (c :: r)=isd (sgR r):=by
    show (decide _ && _)=_
    rw [decide_eq_true hc];rfl
   rw [show exI (c :: r)=if exB (c :: r) then exS r else 0 from rfl,e1];exact this
  ·have e1:exB (c :: r)=false:=by
    show (decide _ && _)=_
    rw [decide_eq_false hc];rfl
   have e2:exI (c :: r)=0:=by rw [show exI (c :: r)=if exB (c :: r) then exS r else 0 from rfl,e1];rfl
   rw [e1,e2]
   have hsz:=B_size (c :: r)
   have hln:(c :: r).length=r.length+1:=rfl
   have hsb:=by_lt (l:=c :: r) (i:=0) (by rw [hsz,hln];omega)
   rw [by_zero] at hsb
   have h1:¬ (c.toNat:Int)=101:=fun h=>hc (Or.inl h)
   have h2:¬ (c.toNat:Int)=69:=fun h=>hc (Or.inr h)
   have g1:((c.toNat:Int) != 101)=true:=by simpa using h1
   have g2:((c.toNat:Int) != 69)=true:=by simpa using h2
   clear hc
   go_enter Tryz.func118,Tryz.ntmps118
   go_wp2
   go_ret2
   exact ⟨rfl,Below.refl _ _⟩
/-! the document's -/
theorem bar_all {l:List UInt8} (h:l.all dg=true):(bar l).all dg=true:=by
 induction l with
 | nil=>rfl
 | cons c r ih =>
  rw [bar_cons]
  rw [List.all_cons,Bool.and_eq_true] at h
  split
  ·exact ih h.2
  ·rw [List.all_cons,h.1,h.2];rfl
theorem bar_le (l:List UInt8):(bar l).length<=l.length:=by
 induction l with
 | nil=>exact Nat.le_refl _
 | cons c r ih =>
  rw [bar_cons]
  split
  ·rw [List.length_cons];omega
  ·exact Nat.le_refl _
theorem bar_head {l:List UInt8} {c:UInt8} {r:List UInt8} (h:bar l=c :: r):(c.toNat:Int)≠48:=by
 induction l with
 | nil=>cases h
 | cons d s ih =>
  rw [bar_cons] at h
  split at h
  ·exact ih h
  ·rename_i hd;cases h;exact hd
theorem B_drop (l:List UInt8) (k:Nat):(B l).extract k (B l).size=B (l.drop k):=by
 rw [B_ext,B_size,List.take_length]
theorem isd_all {l:List UInt8} (h:isd l=true):l.all dg=true:=by
 unfold isd at h;simp only [Bool.and_eq_true] at h;exact h.1
structure By (g n:Nat) (x:Nat->Int) (W:World):Prop where
 lt:g<W.heap.size
 cell:∀ j,j<n->W.cell? ⟨g,j,none⟩=some (.int .u8 (x j))
 frz:∀ j,j<n->W.frozen? ⟨g,j,none⟩=false
theorem By.set {g n:Nat} {x:Nat->Int} {W:World} (h:By g n x W) (i:Nat) (v:Int):By g n (fun j=>if j=i then v else x j) (W.setCell ⟨g,i,none⟩ (.int .u8 v)):=by
 refine ⟨by simpa using h.lt,fun j hj=>?_,fun j hj=>by rw [World.frozen?_setCell];exact h.frz j hj⟩
 show _=some (Value.int .u8 (if j=i then v else x j))
 by_cases e:j=i
 ·subst e
  rw [if_pos rfl]
  exact World.cell?_setCell_same (h:=h.cell j hj) ..
 ·rw [if_neg e]
  exact (World.cell?_setCell_other (h:=by intro h;cases h;exact e rfl) ..).trans (h.cell j hj)
theorem By.cong {g n:Nat} {x y:Nat->Int} {W:World} (h:By g n x W) (e:∀ j,j<n->x j=y j):By g n y W :=
 ⟨h.lt,fun j hj=>by rw [h.cell j hj,e j hj],h.frz⟩
theorem By.of {l:List UInt8} {w:World} {cap:Nat}:By w.heap.size l.length (by_ l) (w.drew.alloc (.cells (bytesRow (B l) cap) 5 ((bytesRow (B l) cap).size,(bytesRow (B l) cap).size+1))):=by
 have hsz:l.length<=(bytesRow (B l) cap).size:=by unfold bytesRow;simp [B]
 refine ⟨by simp,fun j hj=>?_,fun j hj=>?_⟩
 ·have:(bytesRow (B l) cap)[j]?=some (.int .u8 (by_ l j)):=by
   unfold bytesRow by_
   rw [dif_pos hj,Array.getElem?_append_left (by simpa [B] using hj)]
   simp [B,hj]
  have hh:(w.drew.alloc (.cells (bytesRow (B l) cap) 5 ((bytesRow (B l) cap).size,(bytesRow (B l) cap).size+1))).heap[w.heap.size]?=some (.cells (bytesRow (B l) cap) 5 ((bytesRow (B l) cap).size,(bytesRow (B l) cap).size+1)):=by
   show (Array.push w.heap _)[w.heap.size]?=_
   simp
  unfold World.cell?
  simp only [hh]
  simp [this]
 ·have hh:(w.drew.alloc (.cells (bytesRow (B l) cap) 5 ((bytesRow (B l) cap).size,(bytesRow (B l) cap).size+1))).heap[w.heap.size]?=some (.cells (bytesRow (B l) cap) 5 ((bytesRow (B l) cap).size,(bytesRow (B l) cap).size+1)):=by
   show (Array.push w.heap _)[w.heap.size]?=_
   simp
  unfold World.frozen?
  simp only [hh]
  simp
  omega
def sm (c:UInt8):UInt8:=if 65<=c.toNat/\c.toNat<=90 then c+32 else c
def sml (l:List UInt8):List UInt8:=l.map sm
theorem sml_len (l:List UInt8):(sml l).length=l.length:=by simp [sml]
theorem sm_nat (c:UInt8):((sm c).toNat:Int)=if 65<=(c.toNat:Int)/\(c.toNat:Int)<=90 then (c.toNat:Int)+32 else c.toNat:=by
 unfold sm
 have:=c.toNat_lt
 by_cases h:65<=c.toNat/\c.toNat<=90
 ·rw [if_pos h,if_pos (by omega),UInt8.toNat_add]
  simp;omega
 ·rw [if_neg h,if_neg (by omega)]
theorem by_sml {l:List UInt8} {i:Nat} (h:i<l.length):by_ (sml l) i=if 65<=by_ l i/\by_ l i<=90 then by_ l i+32 else by_ l i:=by
 unfold by_
 rw [dif_pos (by rw [sml_len];exact h),dif_pos h,← sm_nat]
 simp [sml]
def mix (l:List UInt8) (k j:Nat):Int:=if j<k then by_ (sml l) j else by_ l j
theorem mix_zero (l:List UInt8) (j:Nat):mix l 0 j=by_ l j:=if_neg (Nat.not_lt_zero _)
theorem mix_next {l:List UInt8} {k:Nat} (h:k<l.length) (j:Nat):(if j=k then by_ (sml l) k else mix l k j)=mix l (k+1) j:=by
 unfold mix
 by_cases e:j=k
 ·subst e;rw [if_pos rfl,if_pos (by omega)]
 ·rw [if_neg e]
  by_cases e2:j<k
  ·rw [if_pos e2,if_pos (by omega)]
  ·rw [if_neg e2,if_neg (by omega)]
theorem by_get {l:List UInt8} {i:Nat} (h:i<l.length):((l[i]'h).toNat:Int)=by_ l i:=by unfold by_;rw [dif_pos h]
theorem back_any {l:List UInt8} {g cap n:Nat} {x:Nat->Int} {W:World} (hn:l.length=n) (h:By g n x W) (e:∀ j,j<n->x j=by_ l j):(convert 79 9 (.slice (some ⟨g,0,none⟩) n cap)).run Tryz.prog W=.ok (.string (B l)) W:=by
 subst hn
 refine run_convert_bytes_back W 79 9 5 ⟨g,0,none⟩ cap l Tryz.underlying79 Tryz.underlying5 Tryz.underlying9 fun j hj=>?_
 have:=h.cell j hj
 rw [e j hj,← by_get hj] at this
 rw [show (⟨g,0,none⟩:Addr).add j=⟨g,j,none⟩ by unfold Addr.add;split <;> simp_all]
 exact this
theorem gsmall_any (l:List UInt8) (w:World) (hs:l.length<10001) :
  CB 120 #[.string (B l)] w (.string (B (sml l))):=by
 have hsz:=B_size l
 have hcv:=run_bytes_of_string (P:=Tryz.prog) w 9 79 5 (B l) Tryz.underlying9 Tryz.underlying79 Tryz.underlying5
 rw [hsz] at hcv
 generalize hcp:grownCap w l.length 0 5=cap at hcv
 have HY:By w.heap.size l.length (by_ l) (w.drew.alloc (.cells (bytesRow (B l) cap) 5 ((bytesRow (B l) cap).size,(bytesRow (B l) cap).size+1))):=By.of
 have HB:Below w.heap.size w (w.drew.alloc (.cells (bytesRow (B l) cap) 5 ((bytesRow (B l) cap).size,(bytesRow (B l) cap).size+1))):=(Below.refl _ _).drew.alloc (Nat.le_refl _) _
 generalize hW:w.drew.alloc (.cells (bytesRow (B l) cap) 5 ((bytesRow (B l) cap).size,(bytesRow (B l) cap).size+1))=W at *
 clear hW hcp
 go_enter Tryz.func120,Tryz.ntmps120
 go_wp2
 go_loopw [4,5,10] (fun u4 u5 i wr=>∃ k:Nat,k<=l.length/\i=.int .i64 k/\By w.heap.size l.length (mix l k) wr/\Below w.heap.size w wr) (fun _ _ i _=>l.length-(intOf i).toNat)
 case atStart=>exact ⟨0,Nat.zero_le _,rfl,HY.cong fun j _=>(mix_zero l j).symm,HB⟩
 case round =>
  clear HY HB hcv
  obtain ⟨k,hk,rfl,hY,hB⟩:=hrel
  by_cases hlt:k<l.length
  ·have hki:(k:Int)<l.length:=by omega
   have hc:=hY.cell k hlt
   have hf:=hY.frz k hlt
   rw [show mix l k k=by_ l k from if_neg (Nat.lt_irrefl _)] at hc
   have hbd:=by_bd l k
   have HS:Hid (by_ (sml l) k=if 65<=by_ l k/\by_ l k<=90 then by_ l k+32 else by_ l k):=by_sml hlt
   have HM:Hid (∀ j,(if j=k then by_ (sml l) k else mix l k j)=mix l (k+1) j):=mix_next hlt
   have HY:Hid (By w.heap.size l.length (mix l k) wr):=hY
   have HB:Hid (Below w.heap.size w wr):=hB
   clear hY hB
   by_cases h1:65<=by_ l k/\by_ l k<=90
   ·obtain ⟨h1,h2⟩:=h1
    have HV:Hid (by_ (sml l) k=by_ l k+32):=by show _=_;rw [HS.out,if_pos ⟨h1,h2⟩]
    generalize by_ l k=b at *
    go_wp2
    go_roundw
    case rel =>
     refine ⟨k+1,by omega,by go_num,?_,HB.out.setCell (Nat.le_refl _) _⟩
     refine By.cong (HY.out.set k _) fun j hj=>?_
     rw [← HM.out j,HV.out]
     all_goals
      by_cases e:j=k
      ·rw [if_pos e,if_pos e];omega
      ·rw [if_neg e,if_neg e]
    case measure=>simp [intOf];omega
   ·have HV:Hid (by_ (sml l) k=by_ l k):=by show _=_;rw [HS.out,if_neg h1]
    have hrel2:Hid (By w.heap.size l.length (mix l (k+1)) wr):=HY.out.cong fun j hj=>by
     rw [← HM.out j,HV.out]
     by_cases e:j=k
     ·subst e;rw [if_pos rfl];exact if_neg (Nat.lt_irrefl _)
     ·rw [if_neg e]
    generalize by_ l k=b at *
    rcases Int.lt_or_le b 65 with h2 | h2
    ·clear h1
     go_wp2
     go_roundw
     case rel=>exact ⟨k+1,by omega,by go_num,hrel2.out,HB.out⟩
     case measure=>simp [intOf];omega
    ·have h3:90<b:=by omega
     clear h1
     go_wp2
     go_roundw
     case rel=>exact ⟨k+1,by omega,by go_num,hrel2.out,HB.out⟩
     case measure=>simp [intOf];omega
  ·obtain rfl:k=l.length:=by omega
   have hbk:=back_any (l:=sml l) (cap:=cap) (sml_len l) hY fun j hj=>if_pos hj
   have HB:Hid (Below w.heap.size w wr):=hB
   clear hY hB
   go_wp2
   go_ret
   exact ⟨rfl,HB.out⟩
theorem gtrim_any (l:List UInt8) (w:World):Calls Tryz.prog 156 #[.string (B l),.string ⟨#[48]⟩] w fun e w'=>e=.returned (.string (B (bar l)))/\w'=w :=
 Tryz.strings_TrimLeft_one (B l) 48 (by decide) w
theorem clone_any (l:List UInt8) (w:World) (hs:l.length<4294967296):CB 155 #[.string (B l)] w (.string (B l)):=by
 have c:=fun w=>Tryz.stringslite_Clone (B l) w (by rw [B_size];omega)
 go_enter Tryz.func155,Tryz.ntmps155
 go_wp2_with (go_at_call 182;refine (c _).mono ?_;rintro x w1 ⟨rfl,hb1⟩)
 go_ret
 exact ⟨rfl,hb1⟩
theorem cutp_any (l p:List UInt8) (w:World):Calls Tryz.prog 117 #[.string (B l),.string ⟨p.toArray⟩] w fun e w'=>e=.returned (.tuple #[.string (B (Lib.trimPrefix l p)),.bool (Lib.hasPrefix l p)])/\w'=w :=
 Tryz.strings_CutPrefix (B l) (B p) w
theorem signif_any (l:List UInt8) (w:World) (hs:l.length<4294967296):CB 119 #[.string (B l)] w (.string (B (bar l))):=by
 have c:=fun w=>gtrim_any l w
 have c2:=fun w=>clone_any (bar l) w (by have:=bar_le l;omega)
 go_enter Tryz.func119,Tryz.ntmps119
 go_wp2_with (first | (go_at_call 156;refine (c _).mono ?_;rintro x w1 ⟨rfl,rfl⟩) | (go_at_call 155;refine (c2 _).mono ?_;rintro x w2 ⟨rfl,hb2⟩))
 go_ret
 exact ⟨rfl,hb2⟩
def PV (c:Int) (s g:Bool) (d:List UInt8) (e:Int):Value:=.agg #[.int .i64 c,.bool s,.bool g,.string (B d),.int .i64 e]
def clampE (e:Int):Int:=min (max e (-1000000000)) 1000000000
def frac (s:List UInt8):List UInt8:=if Lib.hasPrefix (rst s) [46] then dgs (Lib.trimPrefix (rst s) [46]) else []
def behind (s:List UInt8):List UInt8:=if Lib.hasPrefix (rst s) [46] then rst (Lib.trimPrefix (rst s) [46]) else rst s
def finB (s:List UInt8):Bool:=exB (behind s) && !((dgs s).isEmpty && (frac s).isEmpty)
def finD (s:List UInt8):List UInt8:=bar (dgs s++frac s)
def finE (s:List UInt8):Int:=clampE (exI (behind s)-(frac s).length)
theorem trimPre_le (l p:List UInt8):(Lib.trimPrefix l p).length<=l.length:=by unfold Lib.trimPrefix;split <;> simp
theorem exS_bd (r:List UInt8) (h:isd (sgR r)=true):-2000000000<=exS r/\exS r<=2000000000:=by
 have:=vc_bd (isd_all h)
 unfold exS;split <;> omega
theorem exI_bd (l:List UInt8):-2000000000<=exI l/\exI l<=2000000000:=by
 cases l with
 | nil=>show -2000000000<=(0:Int)/\(0:Int)<=2000000000;omega
 | cons c r =>
  show -2000000000<=(if exB (c :: r) then exS r else 0)/\(if exB (c :: r) then exS r else 0)<=2000000000
  by_cases h:exB (c :: r)=true
  ·rw [if_pos h]
   have:isd (sgR r)=true:=by
    have h2:(decide _ && isd (sgR r))=true:=h
    rw [Bool.and_eq_true] at h2;exact h2.2
   exact exS_bd r this
  ·rw [if_neg h];omega
def npB (s:List UInt8):Bool:=exB (rst s) && !(dgs s).isEmpty
theorem finite_np (s:List UInt8) (w:World) (hs:s.length<10001) (hp:Lib.hasPrefix (rst s) [46]=false) :
  CB 73 #[.string (B s)] w (.tuple #[if npB s then PV 1 false false (bar (dgs s)) (clampE (exI (rst s))) else PV 0 false false [] 0,.bool (npB s)]):=by
 have htl:=B_toList
 have c27:=fun w=>ldig_any s w (by omega)
 have c28:∀ w,Calls Tryz.prog 117 #[.string (B (rst s)),.string ⟨#[46]⟩] w fun e w'=>e=.returned (.tuple #[.string (B (Lib.trimPrefix (rst s) [46])),.bool (Lib.hasPrefix (rst s) [46])])/\w'=w:=fun w=>cutp_any (rst s) [46] w
 rw [hp] at c28
 have hdl:=dgs_le s
 have c29:=fun w=>exponent_any (rst s) w (by have:=rst_le s;omega)
 have hx:=exI_bd (rst s)
 have c30:=fun w=>signif_any (dgs s) w (by omega)
 unfold npB PV clampE
 generalize bar (dgs s)=D at *
 generalize Lib.trimPrefix (rst s) [46]=T at *
 generalize rst s=R at *
 generalize exI R=E at *
 generalize exB R=z at *
 clear hp
 cases z
 ·rw [Bool.false_and]
  clear c30
  generalize dgs s=X at *
  simp only [Bool.false_eq_true,if_false]
  go_enter Tryz.func73,Tryz.ntmps73
  go_wp2_with (first | (go_at_call 116;refine (c27 _).mono ?_;rintro x w1 ⟨rfl,hb1⟩;obtain ⟨_,_,_,_,hA1,_⟩:=wz w hb1;clear hb1) | (go_at_call 117;refine (c28 _).mono ?_;rintro x w2 ⟨rfl,rfl⟩) | (go_at_call 118;refine (c29 _).mono ?_;rintro x w3 ⟨rfl,hb3⟩;obtain ⟨_,_,_,_,hA3,_⟩:=wz w hb3;clear hb3) | (go_at_call 119;refine (c30 _).mono ?_;rintro x w4 ⟨rfl,hb4⟩;obtain ⟨_,_,_,_,hA4,_⟩:=wz w hb4;clear hb4))
  exact bodyPost_ret (v:=.tuple #[.agg #[.int .i64 0,.bool false,.bool false,.string ⟨#[]⟩,.int .i64 0],.bool false]) (by simp only [results,Tryz.results73];go_simp) rfl ⟨rfl,bgo⟩
 ·rw [Bool.true_and]
  generalize dgs s=X at *
  cases X with
  | nil =>
   clear c30
   simp only [List.isEmpty_nil,Bool.not_true,Bool.false_eq_true,if_false]
   go_enter Tryz.func73,Tryz.ntmps73
   go_wp2_with (first | (go_at_call 116;refine (c27 _).mono ?_;rintro x w1 ⟨rfl,hb1⟩;obtain ⟨_,_,_,_,hA1,_⟩:=wz w hb1;clear hb1) | (go_at_call 117;refine (c28 _).mono ?_;rintro x w2 ⟨rfl,rfl⟩) | (go_at_call 118;refine (c29 _).mono ?_;rintro x w3 ⟨rfl,hb3⟩;obtain ⟨_,_,_,_,hA3,_⟩:=wz w hb3;clear hb3) | (go_at_call 119;refine (c30 _).mono ?_;rintro x w4 ⟨rfl,hb4⟩;obtain ⟨_,_,_,_,hA4,_⟩:=wz w hb4;clear hb4))
   exact bodyPost_ret (v:=.tuple #[.agg #[.int .i64 0,.bool false,.bool false,.string ⟨#[]⟩,.int .i64 0],.bool false]) (by simp only [results,Tryz.results73];go_simp) rfl ⟨rfl,bgo⟩
  | cons x xs =>
   simp only [List.isEmpty_cons,Bool.not_false,if_true]
   have hap:=B_app (x :: xs) []
   rw [List.append_nil] at hap
   have hb9:(B (x :: xs)).size<10001:=by rw [B_size];omega
   have hn:B []=⟨#[]⟩:=rfl
   have hn0:(⟨#[]⟩:ByteArray).size=0:=rfl
   rw [hn] at hap
   go_enter Tryz.func73,Tryz.ntmps73
   go_wp2_with (first | (go_at_call 116;refine (c27 _).mono ?_;rintro x w1 ⟨rfl,hb1⟩;obtain ⟨_,_,_,_,hA1,_⟩:=wz w hb1;clear hb1) | (go_at_call 117;refine (c28 _).mono ?_;rintro x w2 ⟨rfl,rfl⟩) | (go_at_call 118;refine (c29 _).mono ?_;rintro x w3 ⟨rfl,hb3⟩;obtain ⟨_,_,_,_,hA3,_⟩:=wz w hb3;clear hb3) | (go_at_call 119;refine (c30 _).mono ?_;rintro x w4 ⟨rfl,hb4⟩;obtain ⟨_,_,_,_,hA4,_⟩:=wz w hb4;clear hb4))
   exact bodyPost_ret (v:=.tuple #[.agg #[.int .i64 1,.bool false,.bool false,.string (B D),.int .i64 (min (max E (-1000000000)) 1000000000)],.bool true]) (by simp only [results,Tryz.results73];go_simp) rfl ⟨rfl,bgo⟩
def ptB (X T:List UInt8):Bool:=exB (rst T) && !(X.isEmpty && (dgs T).isEmpty)
theorem finite_pt (s T:List UInt8) (w:World) (hs:s.length<10001) (hp:Lib.hasPrefix (rst s) [46]=true) (hT:Lib.trimPrefix (rst s) [46]=T) :
  CB 73 #[.string (B s)] w (.tuple #[if ptB (dgs s) T then PV 1 false false (bar (dgs s++dgs T)) (clampE (exI (rst T)-(dgs T).length)) else PV 0 false false [] 0,.bool (ptB (dgs s) T)]):=by
 have htl:=B_toList
 have c27:=fun w=>ldig_any s w (by omega)
 have c28:∀ w,Calls Tryz.prog 117 #[.string (B (rst s)),.string ⟨#[46]⟩] w fun e w'=>e=.returned (.tuple #[.string (B (Lib.trimPrefix (rst s) [46])),.bool (Lib.hasPrefix (rst s) [46])])/\w'=w:=fun w=>cutp_any (rst s) [46] w
 rw [hp] at c28
 have hdl:=dgs_le s
 rw [hT] at c28
 have hTl:T.length<=s.length:=by rw [← hT];exact Nat.le_trans (trimPre_le _ _) (rst_le _)
 have hFl:=dgs_le T
 have c27b:=fun w=>ldig_any T w (by omega)
 have c29:=fun w=>exponent_any (rst T) w (by have:=rst_le T;omega)
 have hx:=exI_bd (rst T)
 have c30:=fun w=>signif_any (dgs s++dgs T) w (by rw [List.length_append];omega)
 have hap:=B_app (dgs s) (dgs T)
 unfold ptB PV clampE
 generalize bar (dgs s++dgs T)=D at *
 clear hT hp
 generalize rst s=R at *
 generalize exI (rst T)=E at *
 generalize exB (rst T)=z at *
 generalize rst T=R2 at *
 generalize dgs T=F at *
 have hszF:=B_size F
 have hF9:(B F).size<10001:=by rw [hszF];omega
 cases z
 ·rw [Bool.false_and]
  clear c30 hap
  generalize dgs s=X at *
  simp only [Bool.false_eq_true,if_false]
  go_enter Tryz.func73,Tryz.ntmps73
  go_wp2_with (first | (go_at_call 116;refine (c27 _).mono ?_;rintro x w1 ⟨rfl,hb1⟩;clear c27;obtain ⟨_,_,_,_,hA1,_⟩:=wz w hb1;clear hb1) | (go_at_call 117;refine (c28 _).mono ?_;rintro x w2 ⟨rfl,rfl⟩))
  go_wp2_with (first | (go_at_call 116;refine (c27b _).mono ?_;rintro x w5 ⟨rfl,hb5⟩;obtain ⟨_,_,_,_,hA5,_⟩:=wz w hb5;clear hb5) | (go_at_call 118;refine (c29 _).mono ?_;rintro x w3 ⟨rfl,hb3⟩;obtain ⟨_,_,_,_,hA3,_⟩:=wz w hb3;clear hb3) | (go_at_call 119;refine (c30 _).mono ?_;rintro x w4 ⟨rfl,hb4⟩;obtain ⟨_,_,_,_,hA4,_⟩:=wz w hb4;clear hb4))
  exact bodyPost_ret (v:=.tuple #[.agg #[.int .i64 0,.bool false,.bool false,.string ⟨#[]⟩,.int .i64 0],.bool false]) (by simp only [results,Tryz.results73];go_simp) rfl ⟨rfl,bgo⟩
 ·rw [Bool.true_and]
  generalize dgs s=X at *
  cases X with
  | nil =>
   cases F with
   | nil =>
    clear c30 hap
    simp only [List.isEmpty_nil,Bool.true_and,Bool.not_true,Bool.false_eq_true,if_false]
    go_enter Tryz.func73,Tryz.ntmps73
    go_wp2_with (first | (go_at_call 116;refine (c27 _).mono ?_;rintro x w1 ⟨rfl,hb1⟩;clear c27;obtain ⟨_,_,_,_,hA1,_⟩:=wz w hb1;clear hb1) | (go_at_call 117;refine (c28 _).mono ?_;rintro x w2 ⟨rfl,rfl⟩))
    go_wp2_with (first | (go_at_call 116;refine (c27b _).mono ?_;rintro x w5 ⟨rfl,hb5⟩;obtain ⟨_,_,_,_,hA5,_⟩:=wz w hb5;clear hb5) | (go_at_call 118;refine (c29 _).mono ?_;rintro x w3 ⟨rfl,hb3⟩;obtain ⟨_,_,_,_,hA3,_⟩:=wz w hb3;clear hb3) | (go_at_call 119;refine (c30 _).mono ?_;rintro x w4 ⟨rfl,hb4⟩;obtain ⟨_,_,_,_,hA4,_⟩:=wz w hb4;clear hb4))
    exact bodyPost_ret (v:=.tuple #[.agg #[.int .i64 0,.bool false,.bool false,.string ⟨#[]⟩,.int .i64 0],.bool false]) (by simp only [results,Tryz.results73];go_simp) rfl ⟨rfl,bgo⟩
   | cons f fs =>
    simp only [List.isEmpty_nil,List.isEmpty_cons,Bool.true_and,Bool.not_false,if_true]
    have hb9:(B []).size=0:=rfl
    have hfs:fs.length+1<10001:=by rw [List.length_cons] at hFl;omega
    go_enter Tryz.func73,Tryz.ntmps73
    go_wp2_with (first | (go_at_call 116;refine (c27 _).mono ?_;rintro x w1 ⟨rfl,hb1⟩;clear c27;obtain ⟨_,_,_,_,hA1,_⟩:=wz w hb1;clear hb1) | (go_at_call 117;refine (c28 _).mono ?_;rintro x w2 ⟨rfl,rfl⟩))
    go_wp2_with (first | (go_at_call 116;refine (c27b _).mono ?_;rintro x w5 ⟨rfl,hb5⟩;obtain ⟨_,_,_,_,hA5,_⟩:=wz w hb5;clear hb5) | (go_at_call 118;refine (c29 _).mono ?_;rintro x w3 ⟨rfl,hb3⟩;obtain ⟨_,_,_,_,hA3,_⟩:=wz w hb3;clear hb3) | (go_at_call 119;refine (c30 _).mono ?_;rintro x w4 ⟨rfl,hb4⟩;obtain ⟨_,_,_,_,hA4,_⟩:=wz w hb4;clear hb4))
    exact bodyPost_ret (v:=.tuple #[.agg #[.int .i64 1,.bool false,.bool false,.string (B D),.int .i64 (min (max (E-(f :: fs).length) (-1000000000)) 1000000000)],.bool true]) (by simp only [results,Tryz.results73];go_simp) rfl ⟨rfl,bgo⟩
  | cons x xs =>
   simp only [List.isEmpty_cons,Bool.false_and,Bool.not_false,if_true]
   have hb9:(B (x :: xs)).size<10001:=by rw [B_size];omega
   go_enter Tryz.func73,Tryz.ntmps73
   go_wp2_with (first | (go_at_call 116;refine (c27 _).mono ?_;rintro x w1 ⟨rfl,hb1⟩;clear c27;obtain ⟨_,_,_,_,hA1,_⟩:=wz w hb1;clear hb1) | (go_at_call 117;refine (c28 _).mono ?_;rintro x w2 ⟨rfl,rfl⟩))
   go_wp2_with (first | (go_at_call 116;refine (c27b _).mono ?_;rintro x w5 ⟨rfl,hb5⟩;obtain ⟨_,_,_,_,hA5,_⟩:=wz w hb5;clear hb5) | (go_at_call 118;refine (c29 _).mono ?_;rintro x w3 ⟨rfl,hb3⟩;obtain ⟨_,_,_,_,hA3,_⟩:=wz w hb3;clear hb3) | (go_at_call 119;refine (c30 _).mono ?_;rintro x w4 ⟨rfl,hb4⟩;obtain ⟨_,_,_,_,hA4,_⟩:=wz w hb4;clear hb4))
   exact bodyPost_ret (v:=.tuple #[.agg #[.int .i64 1,.bool false,.bool false,.string (B D),.int .i64 (min (max (E-F.length) (-1000000000)) 1000000000)],.bool true]) (by simp only [results,Tryz.results73];go_simp) rfl ⟨rfl,bgo⟩
theorem fin_eq (s:List UInt8) (w:World) (hs:s.length<10001) :
  CB 73 #[.string (B s)] w (.tuple #[if finB s then PV 1 false false (finD s) (finE s) else PV 0 false false [] 0,.bool (finB s)]):=by
 by_cases hp:Lib.hasPrefix (rst s) [46]=true
 ·have c:=finite_pt s _ w hs hp rfl
  have e1:finB s=ptB (dgs s) (Lib.trimPrefix (rst s) [46]):=by unfold finB ptB frac behind;rw [if_pos hp,if_pos hp]
  have e2:finD s=bar (dgs s++dgs (Lib.trimPrefix (rst s) [46])):=by unfold finD frac;rw [if_pos hp]
  have e3:finE s=clampE (exI (rst (Lib.trimPrefix (rst s) [46]))-(dgs (Lib.trimPrefix (rst s) [46])).length):=by unfold finE frac behind;rw [if_pos hp,if_pos hp]
  rw [e1,e2,e3];exact c
 ·have hp':Lib.hasPrefix (rst s) [46]=false:=by simpa using hp
  have c:=finite_np s w hs hp'
  have e1:finB s=npB s:=by unfold finB npB frac behind;rw [if_neg hp,if_neg hp];simp
  have e2:finD s=bar (dgs s):=by unfold finD frac;rw [if_neg hp,List.append_nil]
  have e3:finE s=clampE (exI (rst s)):=by unfold finE frac behind;rw [if_neg hp,if_neg hp];simp
  rw [e1,e2,e3];exact c
section
def wiN (c:Bool) (a b:Nat):Bool:=decide (a<b) || (decide (a=b) && c)
def rsN (R Z:Nat):Nat->Nat
 | 0=>R
 | k+1=>10*(rsN R Z k%Z)
def unK (c:Bool) (R d Z k:Nat):Bool:=wiN c (rsN R Z k%Z) (10^k*d)
def ovK (c:Bool) (R u Z k:Nat):Bool:=wiN c (Z-rsN R Z k%Z) (10^k*u)
def stK (c:Bool) (R d u Z k:Nat):Bool:=unK c R d Z k || ovK c R u Z k
section
variable {c:Bool} {R d u Z:Nat} (hZ:0<Z)
include hZ
theorem un_big {k:Nat} (h:Z<=10^k*d):stK c R d u Z k=true:=by
 unfold stK unK wiN
 have:=Nat.mod_lt (rsN R Z k) hZ
 have:rsN R Z k%Z<10^k*d:=by omega
 simp [this]
theorem st_ex (hd:0<d):∃ K,stK c R d u Z K=true/\∀ k,k<K->stK c R d u Z k=false:=by
 have h1:∃ K,stK c R d u Z K=true:=⟨Z,un_big hZ (by
  have h1:Z<10^Z:=Nat.lt_pow_self (by decide)
  have h2:10^Z*1<=10^Z*d:=Nat.mul_le_mul_left _ hd
  omega)⟩
 obtain ⟨K,hK⟩:=h1
 induction K using Nat.strongRecOn with
 | ind K ih =>
  by_cases h:∃ k,k<K/\stK c R d u Z k=true
  ·obtain ⟨k,h1,h2⟩:=h
   exact ih k h1 h2
  ·refine ⟨K,hK,fun k hk=>?_⟩
   cases hh:stK c R d u Z k
   ·rfl
   ·exact absurd ⟨k,hk,hh⟩ h
end
def zE (x e:Int):Nat:=4*2^(-x).toNat*10^e.toNat
def oE (x e:Int):Nat:=2^x.toNat*10^(-e).toNat
theorem zE_pos (x e:Int):0<zE x e:=Nat.mul_pos (Nat.mul_pos (by decide) (Nat.two_pow_pos _)) (Nat.pow_pos (by decide))
theorem oE_pos (x e:Int):0<oE x e:=Nat.mul_pos (Nat.two_pow_pos _) (Nat.pow_pos (by decide))
def tnP (c:Nat) (x e:Int):Prop:=zE x e<=4*c*oE x e
theorem ten_le_two {t p:Nat} (h:196*t<=59*p):10^t<=2^p:=by
 rcases Nat.lt_or_ge (2^p) (10^t) with h1 | h1
 ·exfalso
  have h2:(2^p)^59<(10^t)^59:=Nat.pow_lt_pow_left h1 (by decide)
  have h3:(10^59)^t<=(2^196)^t:=Nat.pow_le_pow_left (by decide) t
  have h4:2^(196*t)<=2^(59*p):=Nat.pow_le_pow_right (by decide) h
  have e1:((2:Nat)^p)^59=2^(59*p):=by rw [← Nat.pow_mul,Nat.mul_comm]
  have e2:((10:Nat)^t)^59=(10^59)^t:=by rw [← Nat.pow_mul,← Nat.pow_mul,Nat.mul_comm]
  have e3:((2:Nat)^196)^t=2^(196*t):=by rw [← Nat.pow_mul]
  rw [e1,e2] at h2
  rw [e3] at h3
  omega
 ·exact h1
theorem big_ten:(2:Nat)^100000<=10^30103:=by decide +kernel
theorem two_le_ten_n {n m t q:Nat} (hn:n≠0) (hb:(2:Nat)^n<=10^m) (h:m*q<=n*t):2^q<=10^t:=by
 rcases Nat.lt_or_ge (10^t) (2^q) with h1 | h1
 ·exfalso
  have h2:(10^t)^n<(2^q)^n:=Nat.pow_lt_pow_left h1 hn
  have h3:(2^n)^q<=(10^m)^q:=Nat.pow_le_pow_left hb q
  have h4:10^(m*q)<=10^(n*t):=Nat.pow_le_pow_right (by decide) h
  have e1:((10:Nat)^t)^n=10^(n*t):=by rw [← Nat.pow_mul,Nat.mul_comm]
  have e2:((2:Nat)^q)^n=(2^n)^q:=by rw [← Nat.pow_mul,← Nat.pow_mul,Nat.mul_comm]
  have e3:((10:Nat)^m)^q=10^(m*q):=by rw [← Nat.pow_mul]
  rw [e1,e2] at h2
  rw [e3] at h3
  omega
 ·exact h1
theorem two_le_ten {t q:Nat} (h:30103*q<=100000*t):2^q<=10^t:=two_le_ten_n (by decide) big_ten h
theorem guess_ok {c L:Nat} {x:Int} (hL:2^L<=c) (hb:-20000<=(L:Int)+x/\(L:Int)+x<=20000):tnP c x ((((L:Int)+x)*30103).tdiv 100000-1):=by
 have hq:(((L:Int)+x)*30103).tdiv 100000=if 0<=(L:Int)+x then (((L:Int)+x)*30103)/100000 else -((-((L:Int)+x)*30103)/100000):=by
  split
  ·rw [Int.tdiv_eq_ediv_of_nonneg (by omega)]
  ·rw [show ((L:Int)+x)*30103=-(-((L:Int)+x)*30103) by omega,Int.neg_tdiv,Int.tdiv_eq_ediv_of_nonneg (by omega)]
 generalize hg:(((L:Int)+x)*30103).tdiv 100000-1=g at *
 unfold tnP zE oE
 rw [Nat.mul_assoc 4,Nat.mul_assoc 4]
 refine Nat.mul_le_mul_left 4 ?_
 by_cases hg0:0<=g
 ·have hp:0<=(L:Int)+x:=by
   rcases Int.lt_or_le ((L:Int)+x) 0 with h | h
   ·rw [if_neg (by omega)] at hq;omega
   ·exact h
  rw [if_pos hp] at hq
  have h1:10^g.toNat<=2^((L:Int)+x).toNat:=ten_le_two (by omega)
  rw [show (-g).toNat=0 by omega,Nat.pow_zero,Nat.mul_one]
  by_cases hx:0<=x
  ·rw [show (-x).toNat=0 by omega,Nat.pow_zero,Nat.one_mul]
   rw [show ((L:Int)+x).toNat=L+x.toNat by omega,Nat.pow_add] at h1
   exact Nat.le_trans h1 (Nat.mul_le_mul_right _ hL)
  ·rw [show x.toNat=0 by omega,Nat.pow_zero,Nat.mul_one]
   have h2:=Nat.mul_le_mul_left (2^(-x).toNat) h1
   rw [← Nat.pow_add,show (-x).toNat+((L:Int)+x).toNat=L by omega] at h2
   exact Nat.le_trans h2 hL
 ·rw [show g.toNat=0 by omega,Nat.pow_zero,Nat.mul_one]
  by_cases hp:0<=(L:Int)+x
  ·have h1:2^(-x).toNat<=c*2^x.toNat:=by
    by_cases hx:0<=x
    ·rw [show (-x).toNat=0 by omega,Nat.pow_zero]
     have:=Nat.two_pow_pos L
     exact Nat.mul_pos (by omega) (Nat.two_pow_pos _)
    ·rw [show x.toNat=0 by omega,Nat.pow_zero,Nat.mul_one]
     exact Nat.le_trans (Nat.pow_le_pow_right (by decide) (by omega)) hL
   rw [← Nat.mul_assoc]
   exact Nat.le_trans h1 (Nat.le_mul_of_pos_right _ (Nat.pow_pos (by decide)))
  ·rw [if_neg hp] at hq
   have h1:2^(-((L:Int)+x)).toNat<=10^(-g).toNat:=two_le_ten (by omega)
   rw [show x.toNat=0 by omega,Nat.pow_zero,Nat.one_mul]
   rw [show (-x).toNat=L+(-((L:Int)+x)).toNat by omega,Nat.pow_add]
   exact Nat.mul_le_mul hL h1
end
theorem dlG_lt {n:Nat} (hn:n<1000):dlG n<8:=by
 unfold dlG;omega
theorem row_v (g:Nat) (hg:g<8) (w:World):CB 137 #[.int .i64 (g:Int)] w (.agg #[.int .i64 ((dlR g).1:Int),.int .i64 ((dlR g).2.1:Int),.int .i64 ((dlR g).2.2:Int)]):=by
 have h:g=0∨g=1∨g=2∨g=3∨g=4∨g=5∨g=6∨g=7:=by omega
 rcases h with rfl | rfl | rfl | rfl | rfl | rfl | rfl | rfl
 all_goals (
  go_enter Tryz.func137,Tryz.ntmps137
  go_wp2
  exact bodyPost_ret (by simp only [results,Tryz.results137];go_simp;exact ⟨rfl,rfl,rfl⟩) rfl ⟨rfl,bgo⟩)
end Go.Proofs.YtpabnhlfbjkmaaaGreatDoor
