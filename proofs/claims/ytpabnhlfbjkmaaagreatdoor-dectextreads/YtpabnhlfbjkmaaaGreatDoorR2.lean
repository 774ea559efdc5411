/-
  Texts that the proof leans on.
-/
import Derived.Shelf.Strings.Trim
import Derived.Shelf.Small.Utf8
import Derived.Shelf.Small.Bits
import Derived.Shelf.Small.Strs
import Derived.Shelf.Small.Wraps
import Derived.Shelf.Strconv.Itoa0
import Derived.Shelf.Strconv.Itoa1
import Derived.Shelf.LaysM
import Derived.Shelf.Strconv.Itoa2
import Derived.Shelf.Strconv.Itoa3
import Derived.Shelf.Strconv.Clone
import Derived.Shelf.Strings.Search1
import Derived.Shelf.Strconv.AppendUint10
import Derived.Shelf.Strconv.AppendInt10
import Derived.Shelf.Strconv.AppendIntPublic10
import Derived.Shelf.Strings.Prefix
import Derived.Shelf.Strings.Runes
import Derived.Shelf.Strings.AsciiSet
import Derived.Shelf.Bits.Mul64
import Derived.Shelf.Unicode.DecodeSlow
import Derived.Test.YtpabnhlfbjkmaaaGreatDoorProg
import Derived.WalkKit
import Derived.Lib.BitFns
import Derived.StillTail
import Derived.Below
namespace Go.Proofs
open Go.Shelf
def Tryz.lays161_ren:Go.Shelf.Ren:=⟨fun|161=>156|231=>183|227=>184|233=>185|235=>186|228=>207|197=>208|151=>209|260=>223|152=>224|137=>230|119=>231|224=>232|225=>233|217=>236|266=>237|n=>n,fun|9=>9|4=>4|3=>3|5=>5|117=>204|116=>203|0=>0|124=>207|105=>181|21=>21|119=>230|46=>78|139=>233|138=>232|n=>n,fun|3=>4|4=>5|n=>n⟩
theorem Tryz.lays161:Go.Proofs.Lays.n161 Tryz.prog Tryz.lays161_ren:={
 mixed:=by kernel_rfl
 f119:=Tryz.func231.trans (congrArg some (by kernel_rfl))
 f137:=Tryz.func230.trans (congrArg some (by kernel_rfl))
 f151:=Tryz.func209.trans (congrArg some (by kernel_rfl))
 f152:=Tryz.func224.trans (congrArg some (by kernel_rfl))
 f161:=Tryz.func156.trans (congrArg some (by kernel_rfl))
 f197:=Tryz.func208.trans (congrArg some (by kernel_rfl))
 f217:=Tryz.func236.trans (congrArg some (by kernel_rfl))
 f224:=Tryz.func232.trans (congrArg some (by kernel_rfl))
 f225:=Tryz.func233.trans (congrArg some (by kernel_rfl))
 f227:=Tryz.func184.trans (congrArg some (by kernel_rfl))
 f228:=Tryz.func207.trans (congrArg some (by kernel_rfl))
 f231:=Tryz.func183.trans (congrArg some (by kernel_rfl))
 f233:=Tryz.func185.trans (congrArg some (by kernel_rfl))
 f235:=Tryz.func186.trans (congrArg some (by kernel_rfl))
 f260:=Tryz.func223.trans (congrArg some (by kernel_rfl))
 f266:=Tryz.func237.trans (congrArg some (by kernel_rfl))
 t0:=Tryz.underlying0
 a0:=Tryz.isAgg0
 z0:=Tryz.sizeOf0
 v0:=Tryz.zeroValue0
 t3:=Tryz.underlying3
 a3:=Tryz.isAgg3
 z3:=Tryz.sizeOf3
 v3:=Tryz.zeroValue3
 t4:=Tryz.underlying4
 a4:=Tryz.isAgg4
 z4:=Tryz.sizeOf4
 v4:=Tryz.zeroValue4
 t5:=Tryz.underlying5
 a5:=Tryz.isAgg5
 z5:=Tryz.sizeOf5
 v5:=Tryz.zeroValue5
 t9:=Tryz.underlying9
 a9:=Tryz.isAgg9
 z9:=Tryz.sizeOf9
 v9:=Tryz.zeroValue9
 t21:=Tryz.underlying21
 a21:=Tryz.isAgg21
 z21:=Tryz.sizeOf21
 v21:=Tryz.zeroValue21
 t46:=Tryz.underlying78
 a46:=Tryz.isAgg78
 z46:=Tryz.sizeOf78
 v46:=Tryz.zeroValue78
 t105:=Tryz.underlying181
 a105:=Tryz.isAgg181
 z105:=Tryz.sizeOf181
 v105:=Tryz.zeroValue181
 t116:=Tryz.underlying203
 a116:=Tryz.isAgg203
 z116:=Tryz.sizeOf203
 t117:=Tryz.underlying204
 a117:=Tryz.isAgg204
 z117:=Tryz.sizeOf204
 v117:=Tryz.zeroValue204
 t119:=Tryz.underlying230
 a119:=Tryz.isAgg230
 z119:=Tryz.sizeOf230
 t124:=Tryz.underlying207
 a124:=Tryz.isAgg207
 z124:=Tryz.sizeOf207
 v124:=Tryz.zeroValue207
 t138:=Tryz.underlying232
 a138:=Tryz.isAgg232
 z138:=Tryz.sizeOf232
 v138:=Tryz.zeroValue232
 t139:=Tryz.underlying233
 a139:=Tryz.isAgg233
 z139:=Tryz.sizeOf233
 v139:=Tryz.zeroValue233
 g3:=by kernel_rfl
 g4:=by kernel_rfl }
open Go.RowKit in
theorem Tryz.strings_TrimLeft_one (s:ByteArray)(c:UInt8)(hc:c.toNat<128)(w:World) :
  Calls Tryz.prog 156 #[.string s,.string ⟨#[c]⟩] w fun e w'=>e=.returned (.string ⟨(Lib.trimLeftB s.data.toList c).toArray⟩)/\w'=w:=Any.strings_TrimLeft_one Tryz.lays161 s c hc w
def Tryz.lays125_ren:Go.Shelf.Ren:=⟨fun|125=>218|128=>228|129=>134|n=>n,fun|46=>78|3=>3|51=>40|53=>22|4=>4|5=>5|9=>9|n=>n,fun|n=>n⟩
theorem Tryz.lays125:Go.Proofs.Lays.n125 Tryz.prog Tryz.lays125_ren:={
 mixed:=by kernel_rfl
 f125:=Tryz.func218.trans (congrArg some (by kernel_rfl))
 f128:=Tryz.func228.trans (congrArg some (by kernel_rfl))
 f129:=Tryz.func134.trans (congrArg some (by kernel_rfl))
 t3:=Tryz.underlying3
 a3:=Tryz.isAgg3
 z3:=Tryz.sizeOf3
 v3:=Tryz.zeroValue3
 t4:=Tryz.underlying4
 a4:=Tryz.isAgg4
 z4:=Tryz.sizeOf4
 v4:=Tryz.zeroValue4
 t5:=Tryz.underlying5
 a5:=Tryz.isAgg5
 z5:=Tryz.sizeOf5
 v5:=Tryz.zeroValue5
 t9:=Tryz.underlying9
 a9:=Tryz.isAgg9
 z9:=Tryz.sizeOf9
 v9:=Tryz.zeroValue9
 t46:=Tryz.underlying78
 a46:=Tryz.isAgg78
 z46:=Tryz.sizeOf78
 v46:=Tryz.zeroValue78
 t51:=Tryz.underlying40
 a51:=Tryz.isAgg40
 z51:=Tryz.sizeOf40
 v51:=Tryz.zeroValue40
 t53:=Tryz.underlying22
 a53:=Tryz.isAgg22
 z53:=Tryz.sizeOf22
 v53:=Tryz.zeroValue22 }
theorem Tryz.bits_Len (x:Int)(w:World)(h0:0<=x)(h1:x<=18446744073709551615) :
  Calls Tryz.prog 218 #[.int .u64 x] w fun e w'=>e=.returned (.int .i64 (Lib.bitLen x.toNat))/\w'=w:=Any.bits_Len Tryz.lays125 x w h0 h1
def Tryz.lays134_ren:Go.Shelf.Ren:=⟨fun|134=>135|129=>134|n=>n,fun|53=>22|3=>3|4=>4|46=>78|5=>5|9=>9|n=>n,fun|n=>n⟩
theorem Tryz.lays134:Go.Proofs.Lays.n134 Tryz.prog Tryz.lays134_ren:={
 mixed:=by kernel_rfl
 f129:=Tryz.func134.trans (congrArg some (by kernel_rfl))
 f134:=Tryz.func135.trans (congrArg some (by kernel_rfl))
 t3:=Tryz.underlying3
 a3:=Tryz.isAgg3
 z3:=Tryz.sizeOf3
 v3:=Tryz.zeroValue3
 t4:=Tryz.underlying4
 a4:=Tryz.isAgg4
 z4:=Tryz.sizeOf4
 v4:=Tryz.zeroValue4
 t5:=Tryz.underlying5
 a5:=Tryz.isAgg5
 z5:=Tryz.sizeOf5
 v5:=Tryz.zeroValue5
 t9:=Tryz.underlying9
 a9:=Tryz.isAgg9
 z9:=Tryz.sizeOf9
 v9:=Tryz.zeroValue9
 t46:=Tryz.underlying78
 a46:=Tryz.isAgg78
 z46:=Tryz.sizeOf78
 v46:=Tryz.zeroValue78
 t53:=Tryz.underlying22
 a53:=Tryz.isAgg22
 z53:=Tryz.sizeOf22
 v53:=Tryz.zeroValue22 }
theorem Tryz.bits_LeadingZeros64 (x:Int)(w:World)(h0:0<=x)(h1:x<=18446744073709551615) :
  Calls Tryz.prog 135 #[.int .u64 x] w fun e w'=>e=.returned (.int .i64 (64-(Lib.bitLen x.toNat:Int)))/\w'=w:=Any.bits_LeadingZeros64 Tryz.lays134 x w h0 h1
def Tryz.lays103_ren:Go.Shelf.Ren:=⟨fun|103=>117|210=>153|206=>181|n=>n,fun|9=>9|4=>4|24=>157|3=>3|n=>n,fun|n=>n⟩
theorem Tryz.lays103:Go.Proofs.Lays.n103 Tryz.prog Tryz.lays103_ren:={
 mixed:=by kernel_rfl
 f103:=Tryz.func117.trans (congrArg some (by kernel_rfl))
 f206:=Tryz.func181.trans (congrArg some (by kernel_rfl))
 f210:=Tryz.func153.trans (congrArg some (by kernel_rfl))
 t3:=Tryz.underlying3
 a3:=Tryz.isAgg3
 z3:=Tryz.sizeOf3
 v3:=Tryz.zeroValue3
 t4:=Tryz.underlying4
 a4:=Tryz.isAgg4
 z4:=Tryz.sizeOf4
 v4:=Tryz.zeroValue4
 t9:=Tryz.underlying9
 a9:=Tryz.isAgg9
 z9:=Tryz.sizeOf9
 v9:=Tryz.zeroValue9
 t24:=Tryz.underlying157
 a24:=Tryz.isAgg157
 z24:=Tryz.sizeOf157
 v24:=Tryz.zeroValue157 }
open Go.RowKit in
theorem Tryz.strings_CutPrefix (s p:ByteArray)(w:World) :
  Calls Tryz.prog 117 #[.string s,.string p] w fun e w'=>e=.returned (.tuple #[.string ⟨(Lib.trimPrefix s.data.toList p.data.toList).toArray⟩,.bool (Lib.hasPrefix s.data.toList p.data.toList)])/\w'=w:=Any.strings_CutPrefix Tryz.lays103 s p w
def Tryz.lays129_ren:Go.Shelf.Ren:=⟨fun|129=>134|n=>n,fun|53=>22|3=>3|4=>4|46=>78|5=>5|9=>9|n=>n,fun|n=>n⟩
theorem Tryz.lays129:Go.Proofs.Lays.n129 Tryz.prog Tryz.lays129_ren:={
 mixed:=by kernel_rfl
 f129:=Tryz.func134.trans (congrArg some (by kernel_rfl))
 t3:=Tryz.underlying3
 a3:=Tryz.isAgg3
 z3:=Tryz.sizeOf3
 v3:=Tryz.zeroValue3
 t4:=Tryz.underlying4
 a4:=Tryz.isAgg4
 z4:=Tryz.sizeOf4
 v4:=Tryz.zeroValue4
 t5:=Tryz.underlying5
 a5:=Tryz.isAgg5
 z5:=Tryz.sizeOf5
 v5:=Tryz.zeroValue5
 t9:=Tryz.underlying9
 a9:=Tryz.isAgg9
 z9:=Tryz.sizeOf9
 v9:=Tryz.zeroValue9
 t46:=Tryz.underlying78
 a46:=Tryz.isAgg78
 z46:=Tryz.sizeOf78
 v46:=Tryz.zeroValue78
 t53:=Tryz.underlying22
 a53:=Tryz.isAgg22
 z53:=Tryz.sizeOf22
 v53:=Tryz.zeroValue22 }
theorem Tryz.bits_Len64 (x:Int)(w:World)(h0:0<=x)(h1:x<=18446744073709551615) :
  Calls Tryz.prog 134 #[.int .u64 x] w fun e w'=>e=.returned (.int .i64 (Lib.bitLen x.toNat))/\w'=w:=Any.bits_Len64 Tryz.lays129 x w h0 h1
def Tryz.laysM171_ren:Go.Shelf.Ren:=⟨fun|171=>68|243=>115|246=>152|283=>177|284=>178|285=>179|286=>180|129=>134|317=>203|318=>204|319=>205|320=>206|337=>221|338=>222|n=>n,fun|3=>3|9=>9|2=>2|4=>4|171=>197|0=>0|53=>22|37=>79|5=>5|173=>199|212=>219|51=>40|20=>20|213=>220|46=>78|232=>237|233=>238|n=>n,fun|17=>3|18=>6|19=>7|n=>n⟩
theorem Tryz.laysM171:Go.Proofs.LaysM.n171 Tryz.prog Tryz.laysM171_ren:={
 mixed:=by kernel_rfl
 f129:=Tryz.func134.trans (congrArg some (by kernel_rfl))
 f171:=Tryz.func68.trans (congrArg some (by kernel_rfl))
 f243:=Tryz.func115.trans (congrArg some (by kernel_rfl))
 f246:=Tryz.func152.trans (congrArg some (by kernel_rfl))
 f283:=Tryz.func177.trans (congrArg some (by kernel_rfl))
 f284:=Tryz.func178.trans (congrArg some (by kernel_rfl))
 f285:=Tryz.func179.trans (congrArg some (by kernel_rfl))
 f286:=Tryz.func180.trans (congrArg some (by kernel_rfl))
 f317:=Tryz.func203.trans (congrArg some (by kernel_rfl))
 f318:=Tryz.func204.trans (congrArg some (by kernel_rfl))
 f319:=Tryz.func205.trans (congrArg some (by kernel_rfl))
 f320:=Tryz.func206.trans (congrArg some (by kernel_rfl))
 f337:=Tryz.func221.trans (congrArg some (by kernel_rfl))
 f338:=Tryz.func222.trans (congrArg some (by kernel_rfl))
 t0:=Tryz.underlying0
 a0:=Tryz.isAgg0
 z0:=Tryz.sizeOf0
 v0:=Tryz.zeroValue0
 t2:=Tryz.underlying2
 a2:=Tryz.isAgg2
 z2:=Tryz.sizeOf2
 v2:=Tryz.zeroValue2
 t3:=Tryz.underlying3
 a3:=Tryz.isAgg3
 z3:=Tryz.sizeOf3
 v3:=Tryz.zeroValue3
 t4:=Tryz.underlying4
 a4:=Tryz.isAgg4
 z4:=Tryz.sizeOf4
 v4:=Tryz.zeroValue4
 t5:=Tryz.underlying5
 a5:=Tryz.isAgg5
 z5:=Tryz.sizeOf5
 v5:=Tryz.zeroValue5
 t9:=Tryz.underlying9
 a9:=Tryz.isAgg9
 z9:=Tryz.sizeOf9
 v9:=Tryz.zeroValue9
 t20:=Tryz.underlying20
 a20:=Tryz.isAgg20
 z20:=Tryz.sizeOf20
 v20:=Tryz.zeroValue20
 t37:=Tryz.underlying79
 a37:=Tryz.isAgg79
 z37:=Tryz.sizeOf79
 v37:=Tryz.zeroValue79
 t46:=Tryz.underlying78
 a46:=Tryz.isAgg78
 z46:=Tryz.sizeOf78
 v46:=Tryz.zeroValue78
 t51:=Tryz.underlying40
 a51:=Tryz.isAgg40
 z51:=Tryz.sizeOf40
 v51:=Tryz.zeroValue40
 t53:=Tryz.underlying22
 a53:=Tryz.isAgg22
 z53:=Tryz.sizeOf22
 v53:=Tryz.zeroValue22
 t171:=Tryz.underlying197
 a171:=Tryz.isAgg197
 z171:=Tryz.sizeOf197
 v171:=Tryz.zeroValue197
 t173:=Tryz.underlying199
 a173:=Tryz.isAgg199
 z173:=Tryz.sizeOf199
 v173:=Tryz.zeroValue199
 t212:=Tryz.underlying219
 a212:=Tryz.isAgg219
 z212:=Tryz.sizeOf219
 v212:=Tryz.zeroValue219
 t213:=Tryz.underlying220
 a213:=Tryz.isAgg220
 z213:=Tryz.sizeOf220
 t232:=Tryz.underlying237
 a232:=Tryz.isAgg237
 z232:=Tryz.sizeOf237
 v232:=Tryz.zeroValue237
 t233:=Tryz.underlying238
 a233:=Tryz.isAgg238
 z233:=Tryz.sizeOf238
 v233:=Tryz.zeroValue238
 g17:=by kernel_rfl
 g18:=by kernel_rfl
 g19:=by kernel_rfl
 i0:=by kernel_rfl
 i2:=by kernel_rfl
 i3:=by kernel_rfl
 i4:=by kernel_rfl
 i5:=by kernel_rfl
 i9:=by kernel_rfl
 i20:=by kernel_rfl
 i37:=by kernel_rfl
 i46:=by kernel_rfl
 i51:=by kernel_rfl
 i53:=by kernel_rfl
 i171:=by kernel_rfl
 i173:=by kernel_rfl
 i212:=by kernel_rfl
 i232:=by kernel_rfl
 i233:=by kernel_rfl
 m17:=by kernel_rfl
 m18:=by kernel_rfl
 m19:=by kernel_rfl }
open Go.RowKit Go.Sort Go.Lib in
theorem Tryz.strconv_Itoa (n:Int)(h0:-9223372036854775808<=n)(h1:n<=9223372036854775807)(w:World)(htab:Lib.TabIs Tryz.prog w "internal/strconv.uint64pow10" .u64 Lib.pow10Tab) :
  Calls Tryz.prog 68 #[.int .i64 n] w fun e w'=>e=.returned (.string ⟨(Lib.itoa n).toArray⟩)/\∃ k os,w'=grow (w.drewN k) os:=Any.strconv_Itoa Tryz.laysM171 n h0 h1 w htab
def Tryz.laysM316_ren:Go.Shelf.Ren:=⟨fun|316=>182|n=>n,fun|9=>9|3=>3|4=>4|37=>79|0=>0|127=>222|5=>5|n=>n,fun|n=>n⟩
theorem Tryz.laysM316:Go.Proofs.LaysM.n316 Tryz.prog Tryz.laysM316_ren:={
 mixed:=by kernel_rfl
 f316:=Tryz.func182.trans (congrArg some (by kernel_rfl))
 t0:=Tryz.underlying0
 a0:=Tryz.isAgg0
 z0:=Tryz.sizeOf0
 v0:=Tryz.zeroValue0
 t3:=Tryz.underlying3
 a3:=Tryz.isAgg3
 z3:=Tryz.sizeOf3
 v3:=Tryz.zeroValue3
 t4:=Tryz.underlying4
 a4:=Tryz.isAgg4
 z4:=Tryz.sizeOf4
 v4:=Tryz.zeroValue4
 t9:=Tryz.underlying9
 a9:=Tryz.isAgg9
 z9:=Tryz.sizeOf9
 v9:=Tryz.zeroValue9
 t37:=Tryz.underlying79
 a37:=Tryz.isAgg79
 z37:=Tryz.sizeOf79
 v37:=Tryz.zeroValue79
 t127:=Tryz.underlying222
 a127:=Tryz.isAgg222
 z127:=Tryz.sizeOf222
 v127:=Tryz.zeroValue222
 t5:=Tryz.underlying5
 a5:=Tryz.isAgg5
 z5:=Tryz.sizeOf5
 v5:=Tryz.zeroValue5
 i0:=by kernel_rfl
 i3:=by kernel_rfl
 i4:=by kernel_rfl
 i5:=by kernel_rfl
 i9:=by kernel_rfl
 i37:=by kernel_rfl
 i127:=by kernel_rfl }
open Go.RowKit in
theorem Tryz.stringslite_Clone (s:ByteArray)(w:World)(hlim:s.size<=281474976710656) :
  Calls Tryz.prog 182 #[.string s] w fun e w'=>e=.returned (.string s)/\Below w.heap.size w w':=Any.stringslite_Clone Tryz.laysM316 s w hlim
def Tryz.laysM176_ren:Go.Shelf.Ren:=⟨fun|176=>157|249=>187|288=>210|283=>177|284=>178|285=>179|286=>180|129=>134|317=>203|318=>204|319=>205|320=>206|337=>221|338=>222|n=>n,fun|37=>79|2=>2|3=>3|53=>22|4=>4|9=>9|171=>197|0=>0|173=>199|212=>219|51=>40|5=>5|20=>20|213=>220|46=>78|232=>237|233=>238|n=>n,fun|17=>3|18=>6|19=>7|n=>n⟩
theorem Tryz.laysM176:Go.Proofs.LaysM.n176 Tryz.prog Tryz.laysM176_ren:={
 mixed:=by kernel_rfl
 f129:=Tryz.func134.trans (congrArg some (by kernel_rfl))
 f176:=Tryz.func157.trans (congrArg some (by kernel_rfl))
 f249:=Tryz.func187.trans (congrArg some (by kernel_rfl))
 f283:=Tryz.func177.trans (congrArg some (by kernel_rfl))
 f284:=Tryz.func178.trans (congrArg some (by kernel_rfl))
 f285:=Tryz.func179.trans (congrArg some (by kernel_rfl))
 f286:=Tryz.func180.trans (congrArg some (by kernel_rfl))
 f288:=Tryz.func210.trans (congrArg some (by kernel_rfl))
 f317:=Tryz.func203.trans (congrArg some (by kernel_rfl))
 f318:=Tryz.func204.trans (congrArg some (by kernel_rfl))
 f319:=Tryz.func205.trans (congrArg some (by kernel_rfl))
 f320:=Tryz.func206.trans (congrArg some (by kernel_rfl))
 f337:=Tryz.func221.trans (congrArg some (by kernel_rfl))
 f338:=Tryz.func222.trans (congrArg some (by kernel_rfl))
 t0:=Tryz.underlying0
 a0:=Tryz.isAgg0
 z0:=Tryz.sizeOf0
 v0:=Tryz.zeroValue0
 t2:=Tryz.underlying2
 a2:=Tryz.isAgg2
 z2:=Tryz.sizeOf2
 v2:=Tryz.zeroValue2
 t3:=Tryz.underlying3
 a3:=Tryz.isAgg3
 z3:=Tryz.sizeOf3
 v3:=Tryz.zeroValue3
 t4:=Tryz.underlying4
 a4:=Tryz.isAgg4
 z4:=Tryz.sizeOf4
 v4:=Tryz.zeroValue4
 t5:=Tryz.underlying5
 a5:=Tryz.isAgg5
 z5:=Tryz.sizeOf5
 v5:=Tryz.zeroValue5
 t9:=Tryz.underlying9
 a9:=Tryz.isAgg9
 z9:=Tryz.sizeOf9
 v9:=Tryz.zeroValue9
 t20:=Tryz.underlying20
 a20:=Tryz.isAgg20
 z20:=Tryz.sizeOf20
 v20:=Tryz.zeroValue20
 t37:=Tryz.underlying79
 a37:=Tryz.isAgg79
 z37:=Tryz.sizeOf79
 v37:=Tryz.zeroValue79
 t46:=Tryz.underlying78
 a46:=Tryz.isAgg78
 z46:=Tryz.sizeOf78
 v46:=Tryz.zeroValue78
 t51:=Tryz.underlying40
 a51:=Tryz.isAgg40
 z51:=Tryz.sizeOf40
 v51:=Tryz.zeroValue40
 t53:=Tryz.underlying22
 a53:=Tryz.isAgg22
 z53:=Tryz.sizeOf22
 v53:=Tryz.zeroValue22
 t171:=Tryz.underlying197
 a171:=Tryz.isAgg197
 z171:=Tryz.sizeOf197
 v171:=Tryz.zeroValue197
 t173:=Tryz.underlying199
 a173:=Tryz.isAgg199
 z173:=Tryz.sizeOf199
 v173:=Tryz.zeroValue199
 t212:=Tryz.underlying219
 a212:=Tryz.isAgg219
 z212:=Tryz.sizeOf219
 v212:=Tryz.zeroValue219
 t213:=Tryz.underlying220
 a213:=Tryz.isAgg220
 z213:=Tryz.sizeOf220
 t232:=Tryz.underlying237
 a232:=Tryz.isAgg237
 z232:=Tryz.sizeOf237
 v232:=Tryz.zeroValue237
 t233:=Tryz.underlying238
 a233:=Tryz.isAgg238
 z233:=Tryz.sizeOf238
 v233:=Tryz.zeroValue238
 g17:=by kernel_rfl
 g18:=by kernel_rfl
 g19:=by kernel_rfl
 i0:=by kernel_rfl
 i2:=by kernel_rfl
 i3:=by kernel_rfl
 i4:=by kernel_rfl
 i5:=by kernel_rfl
 i9:=by kernel_rfl
 i20:=by kernel_rfl
 i37:=by kernel_rfl
 i46:=by kernel_rfl
 i51:=by kernel_rfl
 i53:=by kernel_rfl
 i171:=by kernel_rfl
 i173:=by kernel_rfl
 i212:=by kernel_rfl
 i232:=by kernel_rfl
 i233:=by kernel_rfl
 m17:=by kernel_rfl
 m18:=by kernel_rfl
 m19:=by kernel_rfl }
open Go.RowKit Go.Sort Go.Lib in
theorem Tryz.strconv_AppendInt_10 (B n:Nat)(i:Int)(h0:-9223372036854775808<=i)(h1:i<=9223372036854775807)(sv:Value)(xs:List Value)(w:World)(hown:w.ownsRow B 5 1 sv n xs)(hBw:B<=w.heap.size)(hlim:n+21<=140737488355328)(htab:Lib.TabBelow Tryz.prog B w "internal/strconv.uint64pow10" .u64 Lib.pow10Tab) :
  Calls Tryz.prog 157 #[sv,.int .i64 i,.int .i64 10] w fun e w'=>∃ v',e=.returned v'/\w'.ownsRow B 5 1 v' (n+(Lib.itoa i).length) (xs++Lib.byteCells (Lib.itoa i))/\Below B w w'/\Lib.OthersKept 5 none w w':=Any.strconv_AppendInt_10 Tryz.laysM176 B n i h0 h1 sv xs w hown hBw hlim htab
def Tryz.lays264_ren:Go.Shelf.Ren:=⟨fun|264=>49|n=>n,fun|53=>22|46=>78|n=>n,fun|n=>n⟩
theorem Tryz.lays264:Go.Proofs.Lays.n264 Tryz.prog Tryz.lays264_ren:={
 mixed:=by kernel_rfl
 f264:=Tryz.func49.trans (congrArg some (by kernel_rfl))
 t46:=Tryz.underlying78
 a46:=Tryz.isAgg78
 z46:=Tryz.sizeOf78
 v46:=Tryz.zeroValue78
 t53:=Tryz.underlying22
 a53:=Tryz.isAgg22
 z53:=Tryz.sizeOf22
 v53:=Tryz.zeroValue22 }
open Go.RowKit Go.Lib in
theorem Tryz.bits_Mul64 (x y:Nat)(hx:x<18446744073709551616)(hy:y<18446744073709551616)(w:World) :
  Calls Tryz.prog 49 #[.int .u64 x,.int .u64 y] w fun e w'=>e=.returned (.tuple #[.int .u64 ((x*y/18446744073709551616:Nat):Int),.int .u64 ((x*y%18446744073709551616:Nat):Int)])/\w'=w:=Any.bits_Mul64 Tryz.lays264 x y hx hy w
end Go.Proofs

set_option linter.unusedVariables false
set_option maxRecDepth 20000
set_option linter.unusedSectionVars false
set_option linter.unusedSimpArgs false
namespace Go.Proofs.YtpabnhlfbjkmaaaGreatDoor
theorem zLg:∀ (f x:Nat),0<x->x<2^f->1<=Lib.bitLenAux f x/\2^(Lib.bitLenAux f x-1)<=x/\x<2^Lib.bitLenAux f x
 | 0,x,h0,h=>by simp at h;omega
 | f+1,x,h0,h=>by
  simp only [Lib.bitLenAux]
  rw [if_neg (by omega)]
  by_cases h1:x/2=0
  ·have hx:x=1:=by omega
   subst hx
   have:Lib.bitLenAux f (1/2)=0:=by cases f<;>simp [Lib.bitLenAux]
   rw [this];decide
  ·have ih:=zLg f (x/2) (by omega) (by rw [Nat.pow_succ] at h;omega)
   generalize Lib.bitLenAux f (x/2)=k at ih
   obtain ⟨j,rfl⟩:∃ j,k=j+1:=⟨k-1,by omega⟩
   simp only [Nat.add_sub_cancel] at ih
   refine ⟨by omega,?_,?_⟩
   ·rw [show 1+(j+1)-1=j+1 by omega,Nat.pow_succ];omega
   ·rw [show 1+(j+1)=(j+1)+1 by omega,Nat.pow_succ];omega
theorem zTc (x:Nat)(h0:0<x)(h:x<18446744073709551616):1<=Lib.bitLen x/\Lib.bitLen x<=64/\2^(Lib.bitLen x-1)<=x/\x<2^Lib.bitLen x:=by
 have h1:=zLg 64 x h0 h
 have h2:Lib.bitLen x<=64:=by
  rcases Nat.lt_or_ge 64 (Lib.bitLen x) with h3|h3
  ·exfalso
   have h4:2^64<=2^(Lib.bitLen x-1):=Nat.pow_le_pow_right (by decide) (by omega)
   have h5:2^(Lib.bitLen x-1)<=x:=h1.2.1
   have:(2:Nat)^64=18446744073709551616:=by decide
   omega
  ·exact h3
 exact ⟨h1.1,h2,h1.2.1,h1.2.2⟩
theorem zCy (y:Nat)(h0:0<y)(h:y<18446744073709551616):9223372036854775808<=y*2^(64-Lib.bitLen y)/\y*2^(64-Lib.bitLen y)<18446744073709551616/\64-Lib.bitLen y<64:=by
 obtain ⟨h1,h2,h3,h4⟩:=zTc y h0 h
 generalize hL:Lib.bitLen y=L at *
 have p1:2^(L-1)*2^(64-L)=9223372036854775808:=by rw [← Nat.pow_add,show L-1+(64-L)=63 by omega]
 have p2:2^L*2^(64-L)=18446744073709551616:=by rw [← Nat.pow_add,show L+(64-L)=64 by omega]
 have hp:0<2^(64-L):=Nat.pow_pos (by decide)
 exact ⟨by rw [← p1];exact Nat.mul_le_mul_right _ h3,by rw [← p2];exact Nat.mul_lt_mul_of_pos_right h4 hp,by omega⟩
theorem zBy (hi lo y s:Nat)(hs:s<64)(hh:hi<y)(hl:lo<18446744073709551616)(hy:y*2^s<18446744073709551616) :
  (hi*2^s) ||| (lo/2^(64-s))=hi*2^s+lo/2^(64-s)/\(hi*2^s+lo/2^(64-s))*18446744073709551616+(lo*2^s)%18446744073709551616=(hi*18446744073709551616+lo)*2^s/\hi*2^s+lo/2^(64-s)<y*2^s:=by
 have hp:0<2^s:=Nat.pow_pos (by decide)
 have hq:0<2^(64-s):=Nat.pow_pos (by decide)
 have hpq:2^(64-s)*2^s=18446744073709551616:=by rw [← Nat.pow_add,show 64-s+s=64 by omega]
 have hlt:lo/2^(64-s)<2^s:=by
  rw [Nat.div_lt_iff_lt_mul hq,Nat.mul_comm,hpq];exact hl
 have hsum:lo*2^s=(lo/2^(64-s))*18446744073709551616+(lo*2^s)%18446744073709551616:=by
  have h1:lo*2^s/18446744073709551616=lo/2^(64-s):=by rw [← hpq,Nat.mul_div_mul_right _ _ hp]
  have h2:=Nat.div_add_mod (lo*2^s) 18446744073709551616
  rw [h1] at h2
  omega
 refine ⟨?_,?_,?_⟩
 ·exact nat_join s _ _ (Nat.mul_mod_left _ _) hlt
 ·rw [Nat.add_mul,Nat.add_mul,Nat.mul_right_comm hi 18446744073709551616 (2^s)]
  omega
 ·have:(hi+1)*2^s<=y*2^s:=Nat.mul_le_mul_right _ hh
  rw [Nat.add_mul] at this
  omega
theorem zDy (n y s q r:Nat)(h:n*2^s=q*(y*2^s)+r)(hr:r<y*2^s):q=n/y/\r/2^s=n%y:=by
 have hp:0<2^s:=Nat.pow_pos (by decide)
 have hy:0<y:=by
  rcases Nat.eq_zero_or_pos y with h0|h0
  ·subst h0;simp at hr
  ·exact h0
 have h1:r=(n-q*y)*2^s:=by
  rw [Nat.sub_mul,Nat.mul_assoc];omega
 have h2:n-q*y<y:=by
  rw [h1] at hr;exact Nat.lt_of_mul_lt_mul_right hr
 have h3:q*y<=n:=by
  have:q*y*2^s<=n*2^s:=by rw [h,Nat.mul_assoc];omega
  exact Nat.le_of_mul_le_mul_right this hp
 have h4:n=y*q+(n-q*y):=by rw [Nat.mul_comm y q];omega
 constructor
 ·rw [h4,Nat.mul_add_div hy,Nat.div_eq_of_lt h2];omega
 ·rw [h1,Nat.mul_div_cancel _ hp]
  conv=>rhs;rw [h4]
  rw [Nat.mul_add_mod,Nat.mod_eq_of_lt h2]
end Go.Proofs.YtpabnhlfbjkmaaaGreatDoor

namespace Go.Proofs.YtpabnhlfbjkmaaaGreatDoor
open Go.RowKit
section
section
variable {P:Program}{ops:Array Oper}{Q:Exit->Act->World->Prop}{md:Region.Mode}
def zYc (listed:Array Bool):Nat->Nat
 | 0=>0
 | n+1=>zYc listed n+(if listed.getD n true then 0 else 1)
theorem zEl {listed:Array Bool}{i:Nat}:∀ n,n<=i->zYc (listed.setIfInBounds i true) n=zYc listed n
 | 0,_=>rfl
 | n+1,h=>by unfold zYc;rw [zEl n (by omega),getD_set_ne true (by omega)]
theorem zZh {listed:Array Bool}{i:Nat}(hu:listed.getD i true=false):∀ n,i<n->zYc (listed.setIfInBounds i true) n+1=zYc listed n
 | 0,h=>by omega
 | n+1,h=>by
  unfold zYc
  by_cases e:i=n
  ·subst e
   have hlt:i<listed.size:=by
    rcases Nat.lt_or_ge i listed.size with h'|h'
    ·exact h'
    ·simp [Array.getElem?_eq_none h'] at hu
   rw [zEl i (Nat.le_refl _),hu]
   simp [hlt]
  ·rw [getD_set_ne true e]
   have:=zZh hu n (by omega)
   omega
theorem zQe {listed:Array Bool}:∀ n,zYc listed n=0->∀ i,i<n->listed.getD i true=true
 | 0,_,i,h=>by omega
 | n+1,h,i,hi=>by
  unfold zYc at h
  by_cases e:i=n
  ·subst e
   by_cases hl:listed.getD i true=true
   ·exact hl
   ·rw [if_neg hl] at h;omega
  ·exact zQe n (by omega) i (by omega)
theorem zJf {listed:Array Bool}:∀ n,0<zYc listed n->∃ i,i<n/\listed.getD i true=false/\∀ j,j<i->listed.getD j true=true
 | 0,h=>by simp [zYc] at h
 | n+1,h=>by
  by_cases h0:0<zYc listed n
  ·obtain ⟨i,h1,h2,h3⟩:=zJf n h0
   exact ⟨i,by omega,h2,h3⟩
  ·unfold zYc at h
   have hz:=zQe (listed:=listed) n (by omega)
   refine ⟨n,by omega,?_,fun j hj=>hz j hj⟩
   cases hl:listed.getD n true with
   | false=>rfl
   | true=>rw [hl,if_pos rfl] at h;omega
def zB6 (md:Region.Mode)(ops:Array Oper)(n:Nat):Bool :=
 (List.range n).all fun i=>match ops[i]? with
  | some o=>o.after.all fun e=>!Region.binds md e||decide (e.on<i)
  | none=>false
theorem zRi {n:Nat}(h:zB6 md ops n=true)(i:Nat)(hi:i<n):∃ o,ops[i]?=some o/\∀ e ∈ o.after,Region.binds md e=true->e.on<i:=by
 have h1:=List.all_eq_true.1 h i (List.mem_range.2 hi)
 cases ho:ops[i]? with
 | none=>simp only [ho] at h1;cases h1
 | some o =>
  simp only [ho] at h1
  refine ⟨o,rfl,fun e he hb=>?_⟩
  have h2:=Array.all_eq_true_iff_forall_mem.1 h1 e he
  simpa [hb] using h2
theorem zYd {listed:Array Bool}{i:Nat}(hi:i<listed.size)(h:listed.getD i true=true):listed.getD i false=true:=by
 simp [hi] at h ⊢;exact h
def zYe (n m:Nat):Array Bool:=(List.replicate n true++List.replicate (m-n) false).toArray
theorem zCk {n:Nat}{listed:Array Bool}(hn:n<=ops.size)(inv:HeadInv md ops n listed)(h:∀ i,i<n->listed.getD i true=true):listed=zYe n ops.size:=by
 apply Array.ext
 ·simp [zYe,inv.size];omega
 ·intro i h1 h2
  by_cases hi:i<n
  ·have:=h i hi
   simp [h1] at this
   rw [this]
   simp [zYe,List.getElem_append,hi]
  ·have:=inv.tail i (by omega) (by rw [← inv.size];exact h1)
   simp [h1] at this
   rw [this]
   simp [zYe,List.getElem_append,hi]
theorem zOn {n:Nat}{B:Act->World->Prop}{R:Nat->Act->World->Prop}{tail:List Oper}(hs:Region.sinkB md ops n=true)(hc:Region.chainB md ops n=true)(hn:n<ops.size)(hb:zB6 md ops n=true)
  (htl:∀ j,tail[j]?=ops[n+j]?) (hseq:Region.seqB md ops tail.length n (zYe n ops.size)=true)
  (hstep:∀ i o a w,i<n->ops[i]?=some o->B a w->(∀ e ∈ o.after,Region.binds md e=true->R e.on a w)->wpOp P ops Q i (fun a' w'=>B a' w'/\R i a' w'/\∀ j,j<n->j≠i->R j a w->R j a' w') a w)
  (hend:∀ a w,B a w->(∀ i,i<n->R i a w)->wpList P ops Q tail a w) :
  ∀ (f:Nat) (listed:Array Bool) (a:Act) (w:World),HeadInv md ops n listed->zYc listed n=f->B a w->(∀ i,i<n->listed.getD i false=true->R i a w)->wpAny P md ops Q (f+tail.length) listed a w
 | 0,listed,a,w,inv,hf,hB,hR=>by
  have hz:=zQe n hf
  have he:=zCk (Nat.le_of_lt hn) inv hz
  have hw:=hend a w hB fun i hi=>hR i hi (zYd (by rw [inv.size];omega) (hz i hi))
  rw [Nat.zero_add,he]
  exact wpAny_of_seq tail n _ a w htl hseq hw
 | f+1,listed,a,w,inv,hf,hB,hR=>by
  obtain ⟨k,hk,hku,hkl⟩:=zJf (listed:=listed) n (by omega)
  rw [show f+1+tail.length=(f+tail.length)+1 by omega]
  refine ⟨fun h0=>?_,fun i hi=>?_⟩
  ·obtain ⟨o,ho,hlt⟩:=zRi hb k hk
   have:k ∈ Region.ready md ops listed:=mem_ready.2 ⟨hku,o,ho,fun e he hbd=>by
    have:=hlt e he hbd
    exact zYd (by rw [inv.size];omega) (hkl _ this)⟩
   rw [h0] at this;cases this
  ·have hin:i<n:=by
    rcases Nat.lt_or_ge i n with h|h
    ·exact h
    ·exact absurd hi (tail_waits hs hc hn inv _ k rfl hk hku i h)
   obtain ⟨hu,o,ho,hall⟩:=mem_ready.1 hi
   obtain ⟨o',ho',hlt⟩:=zRi hb i hin
   have:o'=o:=Option.some.inj (ho'.symm.trans ho)
   subst this
   refine wpOp_mono (fun a' w' h3=>?_) (hstep i o' a w hin ho hB fun e he hbd=>hR _ (by have:=hlt e he hbd;omega) (hall e he hbd))
   refine zOn hs hc hn hb htl hseq hstep hend f _ a' w' (inv.set hi hin) (by have:=zZh hu n hin;omega) h3.1 fun j hj hl=>?_
   by_cases e:j=i
   ·subst e;exact h3.2.1
   ·rw [getD_set_ne false (fun h=>e h.symm)] at hl
    exact h3.2.2 j hj e (hR j hj hl)
theorem zHd (m:Nat):∀ n,n<=m->zYc (Array.replicate m false) n=n
 | 0,_=>rfl
 | n+1,h=>by unfold zYc;rw [zHd m n (by omega)];simp [show n<m by omega]
def invB (md:Region.Mode)(ops:Array Oper)(n:Nat):Bool :=
 Region.sinkB md ops n&&Region.chainB md ops n&&decide (n<ops.size)&&zB6 md ops n&&Region.seqB md ops (ops.size-n) n (zYe n ops.size)
theorem zXl (n:Nat)(B:Act->World->Prop)(R:Nat->Act->World->Prop){id:Nat}{l:List Oper}{a:Act}{w:World}(hm:P.follows .mixedOrders=true)(hI:invB .any l.toArray n=true)
  (h0:B a w.drew)
  (hstep:∀ i o a w,i<n->l[i]?=some o->B a w->(∀ e ∈ o.after,Region.binds .any e=true->R e.on a w)->wpOp P l.toArray Q i (fun a' w'=>B a' w'/\R i a' w'/\∀ j,j<n->j≠i->R j a w->R j a' w') a w)
  (hend:∀ a w,B a w->(∀ i,i<n->R i a w)->wpList P l.toArray Q (l.drop n) a w):(Code.region id l.toArray true).wp P Q a w:=by
 simp only [invB,Bool.and_eq_true,decide_eq_true_eq] at hI
 obtain ⟨⟨⟨⟨hs,hc⟩,hn⟩,hb⟩,hseq⟩:=hI
 have hdl:(l.drop n).length=l.toArray.size-n:=by simp
 refine wp_region_any hm ?_
 have H:=zOn (P:=P) (Q:=Q) (md:=.any) (ops:=l.toArray) (n:=n) (B:=B) (R:=R) (tail:=l.drop n) hs hc hn hb (fun j=>by simp [List.getElem?_drop]) (by rw [hdl];exact hseq)
  (fun i o a w hi ho=>hstep i o a w hi (by simpa using ho)) hend n (Array.replicate l.toArray.size false) a w.drew
  ⟨by simp,fun j oj _ hl=>(by rw [getD_replicate_false] at hl;cases hl),fun t _ ht=>getD_in (by simpa using ht) (getD_replicate_false _ _)⟩
  (zHd _ n (Nat.le_of_lt hn)) h0 (fun i hi hl=>by rw [getD_replicate_false] at hl;cases hl)
 rw [hdl,show n+(l.toArray.size-n)=l.toArray.size by omega] at H
 exact H
abbrev slot (a:Act)(t:Nat):Value:=a.tmps[t]?.getD undef
theorem zOb {a:Act}{d t:Nat}{v:Value}(h:d≠t):slot (a.put (some d) v) t=slot a t:=by
 simp [slot,Act.put,Array.getElem?_setIfInBounds_ne h]
theorem zVf {a:Act}{d:Nat}{v:Value}(h:d<a.tmps.size):slot (a.put (some d) v) d=v:=by
 simp [slot,Act.put,h]
def zJ1 (p:Value->World->Prop):Prop:=∀ v w w',p v w->Below w.heap.size w w'->p v w'
def dstG (l:List Oper)(D:List Nat)(n m:Nat):Bool :=
 (List.range n).all fun i=>(match l[i]? with
  | some o=>o.dst==some (D.getD i 0)
  | none=>false)&&decide (D.getD i 0<m)&&(List.range n).all fun j=>j==i||D.getD j 0 != D.getD i 0
theorem zEp {l:List Oper}{D:List Nat}{n m:Nat}(h:dstG l D n m=true)(i:Nat)(hi:i<n) :
  ∃ o,l[i]?=some o/\o.dst=some (D.getD i 0)/\D.getD i 0<m/\∀ j,j<n->j≠i->D.getD j 0≠D.getD i 0:=by
 have h1:=List.all_eq_true.1 h i (List.mem_range.2 hi)
 cases ho:l[i]? with
 | none=>simp [ho] at h1
 | some o =>
  simp only [ho,Bool.and_eq_true,decide_eq_true_eq,beq_iff_eq,List.all_eq_true,Bool.or_eq_true,bne_iff_ne,List.mem_range] at h1
  exact ⟨o,rfl,h1.1.1,h1.1.2,fun j hj hne=>(h1.2 j hj).resolve_left hne⟩
def gdB (l:List Oper)(n:Nat):Bool :=
 (List.range n).all fun i=>match l[i]? with
  | some o=>match o.guard with
   | none=>true
   | some (j,_)=>decide (j<n)&&o.after.any fun e=>Region.binds .any e&&e.on==j
  | none=>false
theorem zQ4 {l:List Oper}{n:Nat}(h:gdB l n=true)(i:Nat)(hi:i<n)(o:Oper)(ho:l[i]?=some o)(j:Nat)(b:Bool)(hg:o.guard=some (j,b)) :
  j<n/\∃ e ∈ o.after,Region.binds .any e=true/\e.on=j:=by
 have h1:=List.all_eq_true.1 h i (List.mem_range.2 hi)
 simp only [ho,hg,Bool.and_eq_true,decide_eq_true_eq,Array.any_eq_true',beq_iff_eq] at h1
 obtain ⟨h1,e,he,h2,h3⟩:=h1
 exact ⟨h1,e,he,h2,h3⟩
theorem zLj (n m:Nat)(D:List Nat)(S:List (Value->World->Prop))(C:World->Prop){id:Nat}{l:List Oper}{a0:Act}{w0:World}(hm:P.follows .mixedOrders=true)(hI:invB .any l.toArray n=true)(hD:dstG l D n m=true)(hGd:gdB l n=true)
  (hsz:a0.tmps.size=m) (hS:∀ p ∈ S,zJ1 p) (hC0:C w0.drew) (hCn:∀ w w',C w->Below w.heap.size w w'->C w')
  (hGv:∀ i o j b,i<n->l[i]?=some o->o.guard=some (j,b)->∀ v w,(S.getD j fun _ _=>True) v w->v=.bool b)
  (hstep:∀ i o a w,i<n->l[i]?=some o->C w->(∀ t,(∀ i,i<n->D.getD i 0≠t)->slot a t=slot a0 t)->(∀ e ∈ o.after,Region.binds .any e=true->(S.getD e.on fun _ _=>True) (slot a (D.getD e.on 0)) w) ->
   o.wp P a w (fun a' w'=>∃ v,a'=a.put o.dst v/\(S.getD i fun _ _=>True) v w'/\Below w.heap.size w w') Q)
  (hend:∀ a w,C w->a.tmps.size=m->a.defers=a0.defers->(∀ t,(∀ i,i<n->D.getD i 0≠t)->slot a t=slot a0 t)->(∀ i,i<n->(S.getD i fun _ _=>True) (slot a (D.getD i 0)) w)->wpList P l.toArray Q (l.drop n) a w) :
  (Code.region id l.toArray true).wp P Q a0 w0:=by
 have hSt:∀ i,zJ1 (S.getD i fun _ _=>True):=by
  intro i
  rcases Nat.lt_or_ge i S.length with h|h
  ·rw [List.getD_eq_getElem?_getD,List.getElem?_eq_getElem h];exact hS _ (List.getElem_mem h)
  ·rw [List.getD_eq_getElem?_getD,List.getElem?_eq_none h];exact fun _ _ _ _ _=>trivial
 refine zXl n (fun a w=>C w/\a.tmps.size=m/\a.defers=a0.defers/\∀ t,(∀ i,i<n->D.getD i 0≠t)->slot a t=slot a0 t)
  (fun i a w=>(S.getD i fun _ _=>True) (slot a (D.getD i 0)) w) hm hI ⟨hC0,hsz,rfl,fun _ _=>rfl⟩ ?_ (fun a w h hR=>hend a w h.1 h.2.1 h.2.2.1 h.2.2.2 hR)
 intro i o a w hi ho hB hR
 obtain ⟨o',ho2,hd,hlt,hne⟩:=zEp hD i hi
 have eo:o'=o:=Option.some.inj (ho2.symm.trans ho)
 subst eo
 have hw:=hstep i o' a w hi ho hB.1 hB.2.2.2 hR
 unfold wpOp
 have ho':l.toArray[i]?=some o':=by simpa using ho
 simp only [ho']
 have hwant:Region.wanted o' (yielded l.toArray a.tmps)=true:=by
  unfold Region.wanted
  cases hg:o'.guard with
  | none=>rfl
  | some q =>
   obtain ⟨j,b⟩:=q
   obtain ⟨hj,e,he,hbd,hej⟩:=zQ4 hGd i hi o' ho j b hg
   have hv:=hR e he hbd
   rw [hej] at hv
   have hv2:=hGv i o' j b hi ho hg _ _ hv
   obtain ⟨oj,hoj,hdj,hltj,_⟩:=zEp hD j hj
   have hoj':l.toArray[j]?=some oj:=by simpa using hoj
   have hs:D.getD j 0<a.tmps.size:=by rw [hB.2.1];exact hltj
   have ht:a.tmps[D.getD j 0]?=some (.bool b):=by
    have h5:a.tmps[D.getD j 0]?=some a.tmps[D.getD j 0]:=Array.getElem?_eq_getElem hs
    have h6:slot a (D.getD j 0)=a.tmps[D.getD j 0]:=by unfold slot;rw [h5];rfl
    rw [h5,← h6,hv2]
   have hy:yielded l.toArray a.tmps j=some b:=by
    unfold yielded
    simp only [hoj',Option.bind_some,hdj,ht]
   simp [hy]
 rw [if_pos hwant]
 refine Or.inl (Oper.wp_mono ?_ hw)
 rintro a' w' ⟨v,rfl,hv,hb⟩
 rw [hd]
 refine ⟨⟨hCn _ _ hB.1 hb,by simp [Act.put,hB.2.1],hB.2.2.1,fun t ht=>?_⟩,?_,fun j hj hji hRj=>?_⟩
 ·rw [zOb (ht i hi)];exact hB.2.2.2 t ht
 ·show (S.getD i fun _ _=>True) (slot (a.put (some (D.getD i 0)) v) (D.getD i 0)) w'
  rw [zVf (by rw [hB.2.1];exact hlt)];exact hv
 ·show (S.getD j fun _ _=>True) (slot (a.put (some (D.getD i 0)) v) (D.getD j 0)) w'
  rw [zOb (fun h=>hne j hj hji h.symm)]
  exact hSt j _ _ _ hRj hb
end
end
end Go.Proofs.YtpabnhlfbjkmaaaGreatDoor
