/-
  Texts that the proof leans on.
-/
import Derived.Shelf.Strings.Trim
import Derived.Shelf.Small.Utf8
import Derived.Shelf.Small.Bits
import Derived.Shelf.Small.Strs
import Derived.Shelf.Small.Wraps
import Derived.Shelf.Strconv.Itoa0
import Derived.Shelf.Strconv.Itoa1
import Derived.Shelf.LaysM
import Derived.Shelf.Strconv.Itoa2
import Derived.Shelf.Strconv.Itoa3
import Derived.Shelf.Strconv.Clone
import Derived.Shelf.Strings.Search1
import Derived.Shelf.Strconv.AppendUint10
import Derived.Shelf.Strconv.AppendInt10
import Derived.Shelf.Strconv.AppendIntPublic10
import Derived.Shelf.Strings.Prefix
import Derived.Shelf.Strings.Runes
import Derived.Shelf.Strings.AsciiSet
import Derived.Shelf.Bits.Mul64
import Derived.Shelf.Unicode.DecodeSlow
import Derived.Test.YtahfkpjhlbiamaaGreatDoorProg
import Derived.Test.YtahfkpjhlbiamaaGreatDoorRows
import Derived.WalkKit
import Derived.WalkSpells
import Derived.WalkLawsBesides
import Derived.Laws.Externs
set_option maxHeartbeats 8000000
set_option linter.unusedVariables false
set_option linter.unusedSectionVars false
set_option linter.unusedSimpArgs false
set_option maxRecDepth 20000
namespace Go.Proofs
open Go.Shelf
def Tryz.lays161_ren:Go.Shelf.Ren:=⟨fun|161=>243|231=>251|227=>252|233=>253|235=>254|228=>256|197=>257|151=>258|260=>259|152=>260|137=>261|119=>262|224=>263|225=>264|217=>265|266=>266|n=>n,fun|9=>9|4=>4|3=>3|5=>5|117=>252|116=>251|0=>0|124=>255|105=>221|21=>21|119=>256|46=>52|139=>259|138=>258|n=>n,fun|3=>5|4=>6|n=>n⟩
theorem Tryz.lays161:Go.Proofs.Lays.n161 Tryz.prog Tryz.lays161_ren:={
 mixed:=by kernel_rfl
 f119:=Tryz.func262.trans (congrArg some (by kernel_rfl))
 f137:=Tryz.func261.trans (congrArg some (by kernel_rfl))
 f151:=Tryz.func258.trans (congrArg some (by kernel_rfl))
 f152:=Tryz.func260.trans (congrArg some (by kernel_rfl))
 f161:=Tryz.func243.trans (congrArg some (by kernel_rfl))
 f197:=Tryz.func257.trans (congrArg some (by kernel_rfl))
 f217:=Tryz.func265.trans (congrArg some (by kernel_rfl))
 f224:=Tryz.func263.trans (congrArg some (by kernel_rfl))
 f225:=Tryz.func264.trans (congrArg some (by kernel_rfl))
 f227:=Tryz.func252.trans (congrArg some (by kernel_rfl))
 f228:=Tryz.func256.trans (congrArg some (by kernel_rfl))
 f231:=Tryz.func251.trans (congrArg some (by kernel_rfl))
 f233:=Tryz.func253.trans (congrArg some (by kernel_rfl))
 f235:=Tryz.func254.trans (congrArg some (by kernel_rfl))
 f260:=Tryz.func259.trans (congrArg some (by kernel_rfl))
 f266:=Tryz.func266.trans (congrArg some (by kernel_rfl))
 t0:=Tryz.underlying0
 a0:=Tryz.isAgg0
 z0:=Tryz.sizeOf0
 v0:=Tryz.zeroValue0
 t3:=Tryz.underlying3
 a3:=Tryz.isAgg3
 z3:=Tryz.sizeOf3
 v3:=Tryz.zeroValue3
 t4:=Tryz.underlying4
 a4:=Tryz.isAgg4
 z4:=Tryz.sizeOf4
 v4:=Tryz.zeroValue4
 t5:=Tryz.underlying5
 a5:=Tryz.isAgg5
 z5:=Tryz.sizeOf5
 v5:=Tryz.zeroValue5
 t9:=Tryz.underlying9
 a9:=Tryz.isAgg9
 z9:=Tryz.sizeOf9
 v9:=Tryz.zeroValue9
 t21:=Tryz.underlying21
 a21:=Tryz.isAgg21
 z21:=Tryz.sizeOf21
 v21:=Tryz.zeroValue21
 t46:=Tryz.underlying52
 a46:=Tryz.isAgg52
 z46:=Tryz.sizeOf52
 v46:=Tryz.zeroValue52
 t105:=Tryz.underlying221
 a105:=Tryz.isAgg221
 z105:=Tryz.sizeOf221
 v105:=Tryz.zeroValue221
 t116:=Tryz.underlying251
 a116:=Tryz.isAgg251
 z116:=Tryz.sizeOf251
 t117:=Tryz.underlying252
 a117:=Tryz.isAgg252
 z117:=Tryz.sizeOf252
 v117:=Tryz.zeroValue252
 t119:=Tryz.underlying256
 a119:=Tryz.isAgg256
 z119:=Tryz.sizeOf256
 t124:=Tryz.underlying255
 a124:=Tryz.isAgg255
 z124:=Tryz.sizeOf255
 v124:=Tryz.zeroValue255
 t138:=Tryz.underlying258
 a138:=Tryz.isAgg258
 z138:=Tryz.sizeOf258
 v138:=Tryz.zeroValue258
 t139:=Tryz.underlying259
 a139:=Tryz.isAgg259
 z139:=Tryz.sizeOf259
 v139:=Tryz.zeroValue259
 g3:=by kernel_rfl
 g4:=by kernel_rfl }
open Go.RowKit in
theorem Tryz.strings_TrimLeft_one (s:ByteArray)(c:UInt8)(hc:c.toNat<128)(w:World) :
  Calls Tryz.prog 243 #[.string s,.string ⟨#[c]⟩] w fun e w'=>e=.returned (.string ⟨(Lib.trimLeftB s.data.toList c).toArray⟩)/\w'=w:=Any.strings_TrimLeft_one Tryz.lays161 s c hc w
def Tryz.lays125_ren:Go.Shelf.Ren:=⟨fun|125=>119|128=>178|129=>135|n=>n,fun|46=>52|3=>3|51=>198|53=>22|4=>4|5=>5|9=>9|n=>n,fun|n=>n⟩
theorem Tryz.lays125:Go.Proofs.Lays.n125 Tryz.prog Tryz.lays125_ren:={
 mixed:=by kernel_rfl
 f125:=Tryz.func119.trans (congrArg some (by kernel_rfl))
 f128:=Tryz.func178.trans (congrArg some (by kernel_rfl))
 f129:=Tryz.func135.trans (congrArg some (by kernel_rfl))
 t3:=Tryz.underlying3
 a3:=Tryz.isAgg3
 z3:=Tryz.sizeOf3
 v3:=Tryz.zeroValue3
 t4:=Tryz.underlying4
 a4:=Tryz.isAgg4
 z4:=Tryz.sizeOf4
 v4:=Tryz.zeroValue4
 t5:=Tryz.underlying5
 a5:=Tryz.isAgg5
 z5:=Tryz.sizeOf5
 v5:=Tryz.zeroValue5
 t9:=Tryz.underlying9
 a9:=Tryz.isAgg9
 z9:=Tryz.sizeOf9
 v9:=Tryz.zeroValue9
 t46:=Tryz.underlying52
 a46:=Tryz.isAgg52
 z46:=Tryz.sizeOf52
 v46:=Tryz.zeroValue52
 t51:=Tryz.underlying198
 a51:=Tryz.isAgg198
 z51:=Tryz.sizeOf198
 v51:=Tryz.zeroValue198
 t53:=Tryz.underlying22
 a53:=Tryz.isAgg22
 z53:=Tryz.sizeOf22
 v53:=Tryz.zeroValue22 }
theorem Tryz.bits_Len (x:Int)(w:World)(h0:0<=x)(h1:x<=18446744073709551615) :
  Calls Tryz.prog 119 #[.int .u64 x] w fun e w'=>e=.returned (.int .i64 (Lib.bitLen x.toNat))/\w'=w:=Any.bits_Len Tryz.lays125 x w h0 h1
def Tryz.lays134_ren:Go.Shelf.Ren:=⟨fun|134=>207|129=>135|n=>n,fun|53=>22|3=>3|4=>4|46=>52|5=>5|9=>9|n=>n,fun|n=>n⟩
theorem Tryz.lays134:Go.Proofs.Lays.n134 Tryz.prog Tryz.lays134_ren:={
 mixed:=by kernel_rfl
 f129:=Tryz.func135.trans (congrArg some (by kernel_rfl))
 f134:=Tryz.func207.trans (congrArg some (by kernel_rfl))
 t3:=Tryz.underlying3
 a3:=Tryz.isAgg3
 z3:=Tryz.sizeOf3
 v3:=Tryz.zeroValue3
 t4:=Tryz.underlying4
 a4:=Tryz.isAgg4
 z4:=Tryz.sizeOf4
 v4:=Tryz.zeroValue4
 t5:=Tryz.underlying5
 a5:=Tryz.isAgg5
 z5:=Tryz.sizeOf5
 v5:=Tryz.zeroValue5
 t9:=Tryz.underlying9
 a9:=Tryz.isAgg9
 z9:=Tryz.sizeOf9
 v9:=Tryz.zeroValue9
 t46:=Tryz.underlying52
 a46:=Tryz.isAgg52
 z46:=Tryz.sizeOf52
 v46:=Tryz.zeroValue52
 t53:=Tryz.underlying22
 a53:=Tryz.isAgg22
 z53:=Tryz.sizeOf22
 v53:=Tryz.zeroValue22 }
theorem Tryz.bits_LeadingZeros64 (x:Int)(w:World)(h0:0<=x)(h1:x<=18446744073709551615) :
  Calls Tryz.prog 207 #[.int .u64 x] w fun e w'=>e=.returned (.int .i64 (64-(Lib.bitLen x.toNat:Int)))/\w'=w:=Any.bits_LeadingZeros64 Tryz.lays134 x w h0 h1
def Tryz.lays103_ren:Go.Shelf.Ren:=⟨fun|103=>223|210=>240|206=>195|n=>n,fun|9=>9|4=>4|24=>234|3=>3|n=>n,fun|n=>n⟩
theorem Tryz.lays103:Go.Proofs.Lays.n103 Tryz.prog Tryz.lays103_ren:={
 mixed:=by kernel_rfl
 f103:=Tryz.func223.trans (congrArg some (by kernel_rfl))
 f206:=Tryz.func195.trans (congrArg some (by kernel_rfl))
 f210:=Tryz.func240.trans (congrArg some (by kernel_rfl))
 t3:=Tryz.underlying3
 a3:=Tryz.isAgg3
 z3:=Tryz.sizeOf3
 v3:=Tryz.zeroValue3
 t4:=Tryz.underlying4
 a4:=Tryz.isAgg4
 z4:=Tryz.sizeOf4
 v4:=Tryz.zeroValue4
 t9:=Tryz.underlying9
 a9:=Tryz.isAgg9
 z9:=Tryz.sizeOf9
 v9:=Tryz.zeroValue9
 t24:=Tryz.underlying234
 a24:=Tryz.isAgg234
 z24:=Tryz.sizeOf234
 v24:=Tryz.zeroValue234 }
open Go.RowKit in
theorem Tryz.strings_CutPrefix (s p:ByteArray)(w:World) :
  Calls Tryz.prog 223 #[.string s,.string p] w fun e w'=>e=.returned (.tuple #[.string ⟨(Lib.trimPrefix s.data.toList p.data.toList).toArray⟩,.bool (Lib.hasPrefix s.data.toList p.data.toList)])/\w'=w:=Any.strings_CutPrefix Tryz.lays103 s p w
def Tryz.lays129_ren:Go.Shelf.Ren:=⟨fun|129=>135|n=>n,fun|53=>22|3=>3|4=>4|46=>52|5=>5|9=>9|n=>n,fun|n=>n⟩
theorem Tryz.lays129:Go.Proofs.Lays.n129 Tryz.prog Tryz.lays129_ren:={
 mixed:=by kernel_rfl
 f129:=Tryz.func135.trans (congrArg some (by kernel_rfl))
 t3:=Tryz.underlying3
 a3:=Tryz.isAgg3
 z3:=Tryz.sizeOf3
 v3:=Tryz.zeroValue3
 t4:=Tryz.underlying4
 a4:=Tryz.isAgg4
 z4:=Tryz.sizeOf4
 v4:=Tryz.zeroValue4
 t5:=Tryz.underlying5
 a5:=Tryz.isAgg5
 z5:=Tryz.sizeOf5
 v5:=Tryz.zeroValue5
 t9:=Tryz.underlying9
 a9:=Tryz.isAgg9
 z9:=Tryz.sizeOf9
 v9:=Tryz.zeroValue9
 t46:=Tryz.underlying52
 a46:=Tryz.isAgg52
 z46:=Tryz.sizeOf52
 v46:=Tryz.zeroValue52
 t53:=Tryz.underlying22
 a53:=Tryz.isAgg22
 z53:=Tryz.sizeOf22
 v53:=Tryz.zeroValue22 }
theorem Tryz.bits_Len64 (x:Int)(w:World)(h0:0<=x)(h1:x<=18446744073709551615) :
  Calls Tryz.prog 135 #[.int .u64 x] w fun e w'=>e=.returned (.int .i64 (Lib.bitLen x.toNat))/\w'=w:=Any.bits_Len64 Tryz.lays129 x w h0 h1
def Tryz.laysM171_ren:Go.Shelf.Ren:=⟨fun|171=>100|243=>167|246=>201|283=>217|284=>218|285=>219|286=>220|129=>135|317=>235|318=>236|319=>237|320=>238|337=>247|338=>248|n=>n,fun|3=>3|9=>9|2=>2|4=>4|171=>227|0=>0|53=>22|37=>136|5=>5|173=>229|212=>244|51=>198|20=>20|213=>245|46=>52|232=>260|233=>261|n=>n,fun|17=>4|18=>7|19=>8|n=>n⟩
theorem Tryz.laysM171:Go.Proofs.LaysM.n171 Tryz.prog Tryz.laysM171_ren:={
 mixed:=by kernel_rfl
 f129:=Tryz.func135.trans (congrArg some (by kernel_rfl))
 f171:=Tryz.func100.trans (congrArg some (by kernel_rfl))
 f243:=Tryz.func167.trans (congrArg some (by kernel_rfl))
 f246:=Tryz.func201.trans (congrArg some (by kernel_rfl))
 f283:=Tryz.func217.trans (congrArg some (by kernel_rfl))
 f284:=Tryz.func218.trans (congrArg some (by kernel_rfl))
 f285:=Tryz.func219.trans (congrArg some (by kernel_rfl))
 f286:=Tryz.func220.trans (congrArg some (by kernel_rfl))
 f317:=Tryz.func235.trans (congrArg some (by kernel_rfl))
 f318:=Tryz.func236.trans (congrArg some (by kernel_rfl))
 f319:=Tryz.func237.trans (congrArg some (by kernel_rfl))
 f320:=Tryz.func238.trans (congrArg some (by kernel_rfl))
 f337:=Tryz.func247.trans (congrArg some (by kernel_rfl))
 f338:=Tryz.func248.trans (congrArg some (by kernel_rfl))
 t0:=Tryz.underlying0
 a0:=Tryz.isAgg0
 z0:=Tryz.sizeOf0
 v0:=Tryz.zeroValue0
 t2:=Tryz.underlying2
 a2:=Tryz.isAgg2
 z2:=Tryz.sizeOf2
 v2:=Tryz.zeroValue2
 t3:=Tryz.underlying3
 a3:=Tryz.isAgg3
 z3:=Tryz.sizeOf3
 v3:=Tryz.zeroValue3
 t4:=Tryz.underlying4
 a4:=Tryz.isAgg4
 z4:=Tryz.sizeOf4
 v4:=Tryz.zeroValue4
 t5:=Tryz.underlying5
 a5:=Tryz.isAgg5
 z5:=Tryz.sizeOf5
 v5:=Tryz.zeroValue5
 t9:=Tryz.underlying9
 a9:=Tryz.isAgg9
 z9:=Tryz.sizeOf9
 v9:=Tryz.zeroValue9
 t20:=Tryz.underlying20
 a20:=Tryz.isAgg20
 z20:=Tryz.sizeOf20
 v20:=Tryz.zeroValue20
 t37:=Tryz.underlying136
 a37:=Tryz.isAgg136
 z37:=Tryz.sizeOf136
 v37:=Tryz.zeroValue136
 t46:=Tryz.underlying52
 a46:=Tryz.isAgg52
 z46:=Tryz.sizeOf52
 v46:=Tryz.zeroValue52
 t51:=Tryz.underlying198
 a51:=Tryz.isAgg198
 z51:=Tryz.sizeOf198
 v51:=Tryz.zeroValue198
 t53:=Tryz.underlying22
 a53:=Tryz.isAgg22
 z53:=Tryz.sizeOf22
 v53:=Tryz.zeroValue22
 t171:=Tryz.underlying227
 a171:=Tryz.isAgg227
 z171:=Tryz.sizeOf227
 v171:=Tryz.zeroValue227
 t173:=Tryz.underlying229
 a173:=Tryz.isAgg229
 z173:=Tryz.sizeOf229
 v173:=Tryz.zeroValue229
 t212:=Tryz.underlying244
 a212:=Tryz.isAgg244
 z212:=Tryz.sizeOf244
 v212:=Tryz.zeroValue244
 t213:=Tryz.underlying245
 a213:=Tryz.isAgg245
 z213:=Tryz.sizeOf245
 t232:=Tryz.underlying260
 a232:=Tryz.isAgg260
 z232:=Tryz.sizeOf260
 v232:=Tryz.zeroValue260
 t233:=Tryz.underlying261
 a233:=Tryz.isAgg261
 z233:=Tryz.sizeOf261
 v233:=Tryz.zeroValue261
 g17:=by kernel_rfl
 g18:=by kernel_rfl
 g19:=by kernel_rfl
 i0:=by kernel_rfl
 i2:=by kernel_rfl
 i3:=by kernel_rfl
 i4:=by kernel_rfl
 i5:=by kernel_rfl
 i9:=by kernel_rfl
 i20:=by kernel_rfl
 i37:=by kernel_rfl
 i46:=by kernel_rfl
 i51:=by kernel_rfl
 i53:=by kernel_rfl
 i171:=by kernel_rfl
 i173:=by kernel_rfl
 i212:=by kernel_rfl
 i232:=by kernel_rfl
 i233:=by kernel_rfl
 m17:=by kernel_rfl
 m18:=by kernel_rfl
 m19:=by kernel_rfl }
open Go.RowKit Go.Sort Go.Lib in
theorem Tryz.strconv_Itoa (n:Int)(h0:-9223372036854775808<=n)(h1:n<=9223372036854775807)(w:World)(htab:Lib.TabIs Tryz.prog w "internal/strconv.uint64pow10" .u64 Lib.pow10Tab) :
  Calls Tryz.prog 100 #[.int .i64 n] w fun e w'=>e=.returned (.string ⟨(Lib.itoa n).toArray⟩)/\∃ k os,w'=grow (w.drewN k) os:=Any.strconv_Itoa Tryz.laysM171 n h0 h1 w htab
def Tryz.laysM316_ren:Go.Shelf.Ren:=⟨fun|316=>250|n=>n,fun|9=>9|3=>3|4=>4|37=>136|0=>0|127=>211|5=>5|n=>n,fun|n=>n⟩
theorem Tryz.laysM316:Go.Proofs.LaysM.n316 Tryz.prog Tryz.laysM316_ren:={
 mixed:=by kernel_rfl
 f316:=Tryz.func250.trans (congrArg some (by kernel_rfl))
 t0:=Tryz.underlying0
 a0:=Tryz.isAgg0
 z0:=Tryz.sizeOf0
 v0:=Tryz.zeroValue0
 t3:=Tryz.underlying3
 a3:=Tryz.isAgg3
 z3:=Tryz.sizeOf3
 v3:=Tryz.zeroValue3
 t4:=Tryz.underlying4
 a4:=Tryz.isAgg4
 z4:=Tryz.sizeOf4
 v4:=Tryz.zeroValue4
 t9:=Tryz.underlying9
 a9:=Tryz.isAgg9
 z9:=Tryz.sizeOf9
 v9:=Tryz.zeroValue9
 t37:=Tryz.underlying136
 a37:=Tryz.isAgg136
 z37:=Tryz.sizeOf136
 v37:=Tryz.zeroValue136
 t127:=Tryz.underlying211
 a127:=Tryz.isAgg211
 z127:=Tryz.sizeOf211
 v127:=Tryz.zeroValue211
 t5:=Tryz.underlying5
 a5:=Tryz.isAgg5
 z5:=Tryz.sizeOf5
 v5:=Tryz.zeroValue5
 i0:=by kernel_rfl
 i3:=by kernel_rfl
 i4:=by kernel_rfl
 i5:=by kernel_rfl
 i9:=by kernel_rfl
 i37:=by kernel_rfl
 i127:=by kernel_rfl }
open Go.RowKit in
theorem Tryz.stringslite_Clone (s:ByteArray)(w:World)(hlim:s.size<=281474976710656) :
  Calls Tryz.prog 250 #[.string s] w fun e w'=>e=.returned (.string s)/\Below w.heap.size w w':=Any.stringslite_Clone Tryz.laysM316 s w hlim
def Tryz.laysM176_ren:Go.Shelf.Ren:=⟨fun|176=>221|249=>239|288=>249|283=>217|284=>218|285=>219|286=>220|129=>135|317=>235|318=>236|319=>237|320=>238|337=>247|338=>248|n=>n,fun|37=>136|2=>2|3=>3|53=>22|4=>4|9=>9|171=>227|0=>0|173=>229|212=>244|51=>198|5=>5|20=>20|213=>245|46=>52|232=>260|233=>261|n=>n,fun|17=>4|18=>7|19=>8|n=>n⟩
theorem Tryz.laysM176:Go.Proofs.LaysM.n176 Tryz.prog Tryz.laysM176_ren:={
 mixed:=by kernel_rfl
 f129:=Tryz.func135.trans (congrArg some (by kernel_rfl))
 f176:=Tryz.func221.trans (congrArg some (by kernel_rfl))
 f249:=Tryz.func239.trans (congrArg some (by kernel_rfl))
 f283:=Tryz.func217.trans (congrArg some (by kernel_rfl))
 f284:=Tryz.func218.trans (congrArg some (by kernel_rfl))
 f285:=Tryz.func219.trans (congrArg some (by kernel_rfl))
 f286:=Tryz.func220.trans (congrArg some (by kernel_rfl))
 f288:=Tryz.func249.trans (congrArg some (by kernel_rfl))
 f317:=Tryz.func235.trans (congrArg some (by kernel_rfl))
 f318:=Tryz.func236.trans (congrArg some (by kernel_rfl))
 f319:=Tryz.func237.trans (congrArg some (by kernel_rfl))
 f320:=Tryz.func238.trans (congrArg some (by kernel_rfl))
 f337:=Tryz.func247.trans (congrArg some (by kernel_rfl))
 f338:=Tryz.func248.trans (congrArg some (by kernel_rfl))
 t0:=Tryz.underlying0
 a0:=Tryz.isAgg0
 z0:=Tryz.sizeOf0
 v0:=Tryz.zeroValue0
 t2:=Tryz.underlying2
 a2:=Tryz.isAgg2
 z2:=Tryz.sizeOf2
 v2:=Tryz.zeroValue2
 t3:=Tryz.underlying3
 a3:=Tryz.isAgg3
 z3:=Tryz.sizeOf3
 v3:=Tryz.zeroValue3
 t4:=Tryz.underlying4
 a4:=Tryz.isAgg4
 z4:=Tryz.sizeOf4
 v4:=Tryz.zeroValue4
 t5:=Tryz.underlying5
 a5:=Tryz.isAgg5
 z5:=Tryz.sizeOf5
 v5:=Tryz.zeroValue5
 t9:=Tryz.underlying9
 a9:=Tryz.isAgg9
 z9:=Tryz.sizeOf9
 v9:=Tryz.zeroValue9
 t20:=Tryz.underlying20
 a20:=Tryz.isAgg20
 z20:=Tryz.sizeOf20
 v20:=Tryz.zeroValue20
 t37:=Tryz.underlying136
 a37:=Tryz.isAgg136
 z37:=Tryz.sizeOf136
 v37:=Tryz.zeroValue136
 t46:=Tryz.underlying52
 a46:=Tryz.isAgg52
 z46:=Tryz.sizeOf52
 v46:=Tryz.zeroValue52
 t51:=Tryz.underlying198
 a51:=Tryz.isAgg198
 z51:=Tryz.sizeOf198
 v51:=Tryz.zeroValue198
 t53:=Tryz.underlying22
 a53:=Tryz.isAgg22
 z53:=Tryz.sizeOf22
 v53:=Tryz.zeroValue22
 t171:=Tryz.underlying227
 a171:=Tryz.isAgg227
 z171:=Tryz.sizeOf227
 v171:=Tryz.zeroValue227
 t173:=Tryz.underlying229
 a173:=Tryz.isAgg229
 z173:=Tryz.sizeOf229
 v173:=Tryz.zeroValue229
 t212:=Tryz.underlying244
 a212:=Tryz.isAgg244
 z212:=Tryz.sizeOf244
 v212:=Tryz.zeroValue244
 t213:=Tryz.underlying245
 a213:=Tryz.isAgg245
 z213:=Tryz.sizeOf245
 t232:=Tryz.underlying260
 a232:=Tryz.isAgg260
 z232:=Tryz.sizeOf260
 v232:=Tryz.zeroValue260
 t233:=Tryz.underlying261
 a233:=Tryz.isAgg261
 z233:=Tryz.sizeOf261
 v233:=Tryz.zeroValue261
 g17:=by kernel_rfl
 g18:=by kernel_rfl
 g19:=by kernel_rfl
 i0:=by kernel_rfl
 i2:=by kernel_rfl
 i3:=by kernel_rfl
 i4:=by kernel_rfl
 i5:=by kernel_rfl
 i9:=by kernel_rfl
 i20:=by kernel_rfl
 i37:=by kernel_rfl
 i46:=by kernel_rfl
 i51:=by kernel_rfl
 i53:=by kernel_rfl
 i171:=by kernel_rfl
 i173:=by kernel_rfl
 i212:=by kernel_rfl
 i232:=by kernel_rfl
 i233:=by kernel_rfl
 m17:=by kernel_rfl
 m18:=by kernel_rfl
 m19:=by kernel_rfl }
open Go.RowKit Go.Sort Go.Lib in
theorem Tryz.strconv_AppendInt_10 (B n:Nat)(i:Int)(h0:-9223372036854775808<=i)(h1:i<=9223372036854775807)(sv:Value)(xs:List Value)(w:World)(hown:w.ownsRow B 5 1 sv n xs)(hBw:B<=w.heap.size)(hlim:n+21<=140737488355328)(htab:Lib.TabBelow Tryz.prog B w "internal/strconv.uint64pow10" .u64 Lib.pow10Tab) :
  Calls Tryz.prog 221 #[sv,.int .i64 i,.int .i64 10] w fun e w'=>∃ v',e=.returned v'/\w'.ownsRow B 5 1 v' (n+(Lib.itoa i).length) (xs++Lib.byteCells (Lib.itoa i))/\Below B w w'/\Lib.OthersKept 5 none w w':=Any.strconv_AppendInt_10 Tryz.laysM176 B n i h0 h1 sv xs w hown hBw hlim htab
def Tryz.lays264_ren:Go.Shelf.Ren:=⟨fun|264=>154|n=>n,fun|53=>22|46=>52|n=>n,fun|n=>n⟩
theorem Tryz.lays264:Go.Proofs.Lays.n264 Tryz.prog Tryz.lays264_ren:={
 mixed:=by kernel_rfl
 f264:=Tryz.func154.trans (congrArg some (by kernel_rfl))
 t46:=Tryz.underlying52
 a46:=Tryz.isAgg52
 z46:=Tryz.sizeOf52
 v46:=Tryz.zeroValue52
 t53:=Tryz.underlying22
 a53:=Tryz.isAgg22
 z53:=Tryz.sizeOf22
 v53:=Tryz.zeroValue22 }
open Go.RowKit Go.Lib in
theorem Tryz.bits_Mul64 (x y:Nat)(hx:x<18446744073709551616)(hy:y<18446744073709551616)(w:World) :
  Calls Tryz.prog 154 #[.int .u64 x,.int .u64 y] w fun e w'=>e=.returned (.tuple #[.int .u64 ((x*y/18446744073709551616:Nat):Int),.int .u64 ((x*y%18446744073709551616:Nat):Int)])/\w'=w:=Any.bits_Mul64 Tryz.lays264 x y hx hy w
end Go.Proofs

namespace Go.Proofs.YtahfkpjhlbiamaaGreatDoor
open Go.RowKit
def sizeL (x:Nat->Int):Nat->Nat
 | 0=>0
 | n+1=>if x n=0 then sizeL x n else n+1
theorem zCa (x:Nat->Int)(n:Nat):sizeL x n<=n:=by
 induction n with
 | zero=>simp [sizeL]
 | succ n ih=>simp only [sizeL];split<;>omega
theorem zWa {k:IntKind}{a b:Int}(h:a=b):Ending.returned (.int k a)=.returned (.int k b):=by rw [h]
theorem zEm (b off n c:Nat)(x:Nat->Int)(w:World)(hn:n<9223372036854775808)(hc:∀ i,i<n->w.cell? ⟨b,off+i,none⟩=some (.int .u64 (x i))) :
  Calls Tryz.prog 134 #[.slice (some ⟨b,off,none⟩) n c] w fun e w'=>e=.returned (.int .i64 (sizeL x n))/\w'=w:=by
 go_enter Tryz.func134,Tryz.ntmps134
 go_wp2
 go_loop [3] (fun t=>∃ k:Nat,k<=n/\sizeL x k=sizeL x n/\t=.int .i64 k) (fun t=>(intOf t).toNat)
 case atStart=>exact ⟨n,Nat.le_refl _,rfl,rfl⟩
 case round =>
  obtain ⟨k,hk,hs,rfl⟩:=hrel
  by_cases h0:k=0
  ·subst h0
   go_wp2
   go_ret
   exact ⟨zWa (by rw [← hs];rfl),rfl⟩
  ·obtain ⟨j,rfl⟩:∃ j,k=j+1:=⟨k-1,by omega⟩
   have hcj:=hc j (by omega)
   by_cases hz:x j=0
   ·have HS:Hid (sizeL x j=sizeL x n):=by
     have:sizeL x (j+1)=sizeL x j:=by simp [sizeL,hz]
     exact this.symm.trans hs
    clear hs
    go_wp2
    go_round
    case rel=>exact ⟨j,by omega,HS.out,by go_num⟩
    case measure=>simp [intOf]
   ·have HS:Hid (((j:Int)+1)=(sizeL x n:Nat)):=by
     have:sizeL x (j+1)=j+1:=by simp [sizeL,hz]
     show _=_
     rw [← hs,this];omega
    clear hs
    go_wp2
    go_ret
    exact ⟨zWa (by exact HS.out),rfl⟩
theorem zIr (w:World) :
  Calls Tryz.prog 134 #[.slice none 0 0] w fun e w'=>e=.returned (.int .i64 0)/\w'=w:=by
 go_enter Tryz.func134,Tryz.ntmps134
 go_wp2
 go_loop [3] (fun t=>t=.int .i64 0) (fun t=>(intOf t).toNat)
 case atStart=>rfl
 case round =>
  subst hrel
  go_wp2
  go_ret
  exact ⟨rfl,rfl⟩
def lenL (x:Nat->Int)(n:Nat):Int:=if sizeL x n=0 then 0 else 64*(sizeL x n:Int)-64+Lib.bitLen (x (sizeL x n-1)).toNat
theorem zXi:∀ f x:Nat,Lib.bitLenAux f x<=f
 | 0,x=>by simp [Lib.bitLenAux]
 | f+1,x=>by
  have:=zXi f (x/2)
  simp only [Lib.bitLenAux];split<;>omega
theorem zSf (x:Nat):Lib.bitLen x<=64:=zXi 64 x
theorem yJa (b off n c:Nat)(x:Nat->Int)(w:World)(hn:n<100000000)(hx:∀ i,0<=x i/\x i<=18446744073709551615)(hc:∀ i,i<n->w.cell? ⟨b,off+i,none⟩=some (.int .u64 (x i))) :
  Calls Tryz.prog 69 #[.slice (some ⟨b,off,none⟩) n c] w fun e w'=>e=.returned (.int .i64 (lenL x n))/\w'=w:=by
 have hle:=zCa x n
 by_cases h0:sizeL x n=0
 ·have HL:Hid (lenL x n=0):=by show _=_;simp [lenL,h0]
  have hs:Calls Tryz.prog 134 #[.slice (some ⟨b,off,none⟩) n c] w fun e w'=>e=.returned (.int .i64 0)/\w'=w:=by
   have:=zEm b off n c x w (by omega) hc
   rw [h0] at this;exact this
  clear h0 hc hx
  go_enter Tryz.func69,Tryz.ntmps69
  go_wp2_with (go_at_call 134;refine hs.mono ?_;rintro e w' ⟨rfl,rfl⟩)
  go_ret
  exact ⟨zWa HL.out.symm,rfl⟩
 ·obtain ⟨j,hj⟩:∃ j,sizeL x n=j+1:=⟨sizeL x n-1,by omega⟩
  have hs:=zEm b off n c x w (by omega) hc
  have HL:Hid (lenL x n=64*(j:Int)+Lib.bitLen (x j).toNat):=by show _=_;simp [lenL,hj];omega
  rw [hj] at hs
  have hcj:=hc j (by omega)
  have hb:=hx j
  have hbl:=zSf (x j).toNat
  have hj':j+1<=n:=by omega
  clear h0 hc hx hj hle
  have hcl:=Tryz.bits_Len64 (x j) w hb.1 hb.2
  generalize Lib.bitLen (x j).toNat=L at *
  go_enter Tryz.func69,Tryz.ntmps69
  go_wp2_with (first|(go_at_call 134;refine hs.mono ?_;rintro e w' ⟨rfl,rfl⟩)|(go_at_call 135;refine hcl.mono ?_;rintro e w' ⟨rfl,rfl⟩))
  go_ret
  exact ⟨zWa (by rw [HL.out];omega),rfl⟩
section
def wiN (c:Bool)(a b:Nat):Bool:=decide (a<b)||(decide (a=b)&&c)
def rsN (R Z:Nat):Nat->Nat
 | 0=>R
 | k+1=>10*(rsN R Z k%Z)
def unK (c:Bool)(R d Z k:Nat):Bool:=wiN c (rsN R Z k%Z) (10^k*d)
def ovK (c:Bool)(R u Z k:Nat):Bool:=wiN c (Z-rsN R Z k%Z) (10^k*u)
def stK (c:Bool)(R d u Z k:Nat):Bool:=unK c R d Z k||ovK c R u Z k
section
variable {c:Bool}{R d u Z:Nat}(hZ:0<Z)
include hZ
theorem un_big {k:Nat}(h:Z<=10^k*d):stK c R d u Z k=true:=by
 unfold stK unK wiN
 have:=Nat.mod_lt (rsN R Z k) hZ
 have:rsN R Z k%Z<10^k*d:=by omega
 simp [this]
theorem st_ex (hd:0<d):∃ K,stK c R d u Z K=true/\∀ k,k<K->stK c R d u Z k=false:=by
 have h1:∃ K,stK c R d u Z K=true:=⟨Z,un_big hZ (by
  have h1:Z<10^Z:=Nat.lt_pow_self (by decide)
  have h2:10^Z*1<=10^Z*d:=Nat.mul_le_mul_left _ hd
  omega)⟩
 obtain ⟨K,hK⟩:=h1
 induction K using Nat.strongRecOn with
 | ind K ih =>
  by_cases h:∃ k,k<K/\stK c R d u Z k=true
  ·obtain ⟨k,h1,h2⟩:=h
   exact ih k h1 h2
  ·refine ⟨K,hK,fun k hk=>?_⟩
   cases hh:stK c R d u Z k
   ·rfl
   ·exact absurd ⟨k,hk,hh⟩ h
end
def zE (x e:Int):Nat:=4*2^(-x).toNat*10^e.toNat
def oE (x e:Int):Nat:=2^x.toNat*10^(-e).toNat
theorem zE_pos (x e:Int):0<zE x e:=Nat.mul_pos (Nat.mul_pos (by decide) (Nat.two_pow_pos _)) (Nat.pow_pos (by decide))
theorem oE_pos (x e:Int):0<oE x e:=Nat.mul_pos (Nat.two_pow_pos _) (Nat.pow_pos (by decide))
def tnP (c:Nat)(x e:Int):Prop:=zE x e<=4*c*oE x e
theorem zOt {t p:Nat}(h:196*t<=59*p):10^t<=2^p:=by
 rcases Nat.lt_or_ge (2^p) (10^t) with h1|h1
 ·exfalso
  have h2:(2^p)^59<(10^t)^59:=Nat.pow_lt_pow_left h1 (by decide)
  have h3:(10^59)^t<=(2^196)^t:=Nat.pow_le_pow_left (by decide) t
  have h4:2^(196*t)<=2^(59*p):=Nat.pow_le_pow_right (by decide) h
  have e1:((2:Nat)^p)^59=2^(59*p):=by rw [← Nat.pow_mul,Nat.mul_comm]
  have e2:((10:Nat)^t)^59=(10^59)^t:=by rw [← Nat.pow_mul,← Nat.pow_mul,Nat.mul_comm]
  have e3:((2:Nat)^196)^t=2^(196*t):=by rw [← Nat.pow_mul]
  rw [e1,e2] at h2
  rw [e3] at h3
  omega
 ·exact h1
theorem yHc:(2:Nat)^100000<=10^30103:=by decide +kernel
theorem zIn {n m t q:Nat}(hn:n≠0)(hb:(2:Nat)^n<=10^m)(h:m*q<=n*t):2^q<=10^t:=by
 rcases Nat.lt_or_ge (10^t) (2^q) with h1|h1
 ·exfalso
  have h2:(10^t)^n<(2^q)^n:=Nat.pow_lt_pow_left h1 hn
  have h3:(2^n)^q<=(10^m)^q:=Nat.pow_le_pow_left hb q
  have h4:10^(m*q)<=10^(n*t):=Nat.pow_le_pow_right (by decide) h
  have e1:((10:Nat)^t)^n=10^(n*t):=by rw [← Nat.pow_mul,Nat.mul_comm]
  have e2:((2:Nat)^q)^n=(2^n)^q:=by rw [← Nat.pow_mul,← Nat.pow_mul,Nat.mul_comm]
  have e3:((10:Nat)^m)^q=10^(m*q):=by rw [← Nat.pow_mul]
  rw [e1,e2] at h2
  rw [e3] at h3
  omega
 ·exact h1
theorem zKt {t q:Nat}(h:30103*q<=100000*t):2^q<=10^t:=zIn (by decide) yHc h
theorem zU3 {c L:Nat}{x:Int}(hL:2^L<=c)(hb:-20000<=(L:Int)+x/\(L:Int)+x<=20000):tnP c x ((((L:Int)+x)*30103).tdiv 100000-1):=by
 have hq:(((L:Int)+x)*30103).tdiv 100000=if 0<=(L:Int)+x then (((L:Int)+x)*30103)/100000 else -((-((L:Int)+x)*30103)/100000):=by
  split
  ·rw [Int.tdiv_eq_ediv_of_nonneg (by omega)]
  ·rw [show ((L:Int)+x)*30103=-(-((L:Int)+x)*30103) by omega,Int.neg_tdiv,Int.tdiv_eq_ediv_of_nonneg (by omega)]
 generalize hg:(((L:Int)+x)*30103).tdiv 100000-1=g at *
 unfold tnP zE oE
 rw [Nat.mul_assoc 4,Nat.mul_assoc 4]
 refine Nat.mul_le_mul_left 4 ?_
 by_cases hg0:0<=g
 ·have hp:0<=(L:Int)+x:=by
   rcases Int.lt_or_le ((L:Int)+x) 0 with h|h
   ·rw [if_neg (by omega)] at hq;omega
   ·exact h
  rw [if_pos hp] at hq
  have h1:10^g.toNat<=2^((L:Int)+x).toNat:=zOt (by omega)
  rw [show (-g).toNat=0 by omega,Nat.pow_zero,Nat.mul_one]
  by_cases hx:0<=x
  ·rw [show (-x).toNat=0 by omega,Nat.pow_zero,Nat.one_mul]
   rw [show ((L:Int)+x).toNat=L+x.toNat by omega,Nat.pow_add] at h1
   exact Nat.le_trans h1 (Nat.mul_le_mul_right _ hL)
  ·rw [show x.toNat=0 by omega,Nat.pow_zero,Nat.mul_one]
   have h2:=Nat.mul_le_mul_left (2^(-x).toNat) h1
   rw [← Nat.pow_add,show (-x).toNat+((L:Int)+x).toNat=L by omega] at h2
   exact Nat.le_trans h2 hL
 ·rw [show g.toNat=0 by omega,Nat.pow_zero,Nat.mul_one]
  by_cases hp:0<=(L:Int)+x
  ·have h1:2^(-x).toNat<=c*2^x.toNat:=by
    by_cases hx:0<=x
    ·rw [show (-x).toNat=0 by omega,Nat.pow_zero]
     have:=Nat.two_pow_pos L
     exact Nat.mul_pos (by omega) (Nat.two_pow_pos _)
    ·rw [show x.toNat=0 by omega,Nat.pow_zero,Nat.mul_one]
     exact Nat.le_trans (Nat.pow_le_pow_right (by decide) (by omega)) hL
   rw [← Nat.mul_assoc]
   exact Nat.le_trans h1 (Nat.le_mul_of_pos_right _ (Nat.pow_pos (by decide)))
  ·rw [if_neg hp] at hq
   have h1:2^(-((L:Int)+x)).toNat<=10^(-g).toNat:=zKt (by omega)
   rw [show x.toNat=0 by omega,Nat.pow_zero,Nat.one_mul]
   rw [show (-x).toNat=L+(-((L:Int)+x)).toNat by omega,Nat.pow_add]
   exact Nat.mul_le_mul hL h1
end
def arrOf (f:Nat->Int)(n:Nat):Array Value:=((List.range n).map fun i=>Value.int .u64 (f i)).toArray
@[simp] theorem arrOf_size (f:Nat->Int) (n:Nat):(arrOf f n).size=n:=by simp [arrOf]
theorem zIa (f:Nat->Int)(n i:Nat)(h:i<(arrOf f n).size):(arrOf f n)[i]'h=.int .u64 (f i):=by simp [arrOf]
theorem zIa? (f:Nat->Int)(n i:Nat)(h:i<n):(arrOf f n)[i]?=some (.int .u64 (f i)):=by simp [arrOf,h]
theorem zK0 (f:Nat->Int)(n k:Nat)(v:Int):(arrOf f n).setIfInBounds k (.int .u64 v)=arrOf (fun i=>if i=k then v else f i) n:=by
 apply Array.ext
 ·simp
 ·intro i h1 h2
  rw [Array.getElem_setIfInBounds]
  simp only [zIa]
  by_cases h:k=i
  ·subst h;simp
  ·simp [h,Ne.symm h];exact zIa _ _ _ _
  simpa using h2
theorem zPg {f g:Nat->Int}{n:Nat}(h:∀ i,i<n->f i=g i):arrOf f n=arrOf g n:=by
 apply Array.ext
 ·simp
 ·intro i h1 h2
  simp only [zIa]
  rw [h i (by simpa using h1)]
theorem zAt (cs:Array Value)(n:Nat)(f:Nat->Int)(hs:cs.size=n)(h:∀ i,i<n->cs[i]?=some (.int .u64 (f i))):cs=arrOf f n:=by
 apply Array.ext
 ·simp [hs]
 ·intro i h1 h2
  rw [zIa]
  have:=h i (by omega)
  rw [Array.getElem?_eq_getElem h1] at this
  exact Option.some.inj this
theorem zZu (x y c:Int)(hx:0<=x)(hy:0<=y)(hc0:0<=c)(hc:c<=1)(w:World):(callFunc 77 #[.int .u64 x,.int .u64 y,.int .u64 c]).run Tryz.prog w =
  .ok (.value (.tuple #[.int .u64 ((x+y+c)%18446744073709551616),.int .u64 ((x+y+c)/18446744073709551616)])) w:=by
 rw [run_callFunc_extern Tryz.func77 (by kernel_rfl) (by kernel_rfl) (by kernel_rfl) (e:=add64Entry) (by kernel_rfl),run_add64 x y c hx hy hc0 hc]
 rfl
def zT5:Array Value->Sem Value:=fun args=>do
 let (x,y,b) ← Extern.MathBitsCarry.three "Sub64" args
 pure (Extern.MathBitsCarry.pair ((x+Extern.MathBitsCarry.m64-y-b)%Extern.MathBitsCarry.m64) (if x<y+b then 1 else 0))
theorem zVt (x y b:Nat)(hb:b<=1)(w:World) :
  (zT5 #[.int .u64 x,.int .u64 y,.int .u64 b]).run Tryz.prog w =
   .ok (.tuple #[.int .u64 (((x+18446744073709551616-y-b)%18446744073709551616:Nat):Int),.int .u64 ((if x<y+b then 1 else 0:Nat):Int)]) w:=by
 have:b=0∨b=1:=by omega
 rcases this with rfl|rfl<;>rfl
def bor (x y b:Int):Int:=if x<y+b then 1 else 0
theorem zQt (x y b:Int)(hx:0<=x)(hy:0<=y)(hy':y<18446744073709551616)(hb0:0<=b)(hb:b<=1)(w:World):(callFunc 136 #[.int .u64 x,.int .u64 y,.int .u64 b]).run Tryz.prog w =
  .ok (.value (.tuple #[.int .u64 ((x-y-b)%18446744073709551616),.int .u64 (bor x y b)])) w:=by
 obtain ⟨x,rfl⟩:=Int.eq_ofNat_of_zero_le hx
 obtain ⟨y,rfl⟩:=Int.eq_ofNat_of_zero_le hy
 obtain ⟨b,rfl⟩:=Int.eq_ofNat_of_zero_le hb0
 have e1:(((x+18446744073709551616-y-b)%18446744073709551616:Nat):Int)=((x:Int)-y-b)%18446744073709551616:=by omega
 have e2:((if x<y+b then 1 else 0:Nat):Int)=bor x y b:=by unfold bor;split<;>split<;>omega
 rw [run_callFunc_extern Tryz.func136 (by kernel_rfl) (by kernel_rfl) (by kernel_rfl) (e:=zT5) (by kernel_rfl),zVt x y b (by omega),← e1,← e2]
 rfl
end Go.Proofs.YtahfkpjhlbiamaaGreatDoor

namespace Go.Proofs.YtahfkpjhlbiamaaGreatDoor
def val (x:Nat->Int):Nat->Int
 | 0=>0
 | n+1=>val x n+x n*18446744073709551616^n
theorem zKa {x y:Nat->Int}:∀ n,(∀ i,i<n->x i=y i)->val x n=val y n
 | 0,_=>rfl
 | n+1,h=>by simp only [val];rw [zKa n fun i hi=>h i (by omega),h n (by omega)]
theorem zOb (n:Nat):(0:Int)<18446744073709551616^n:=Int.pow_pos (by decide)
theorem zVa {x:Nat->Int}(hx:∀ i,0<=x i/\x i<=18446744073709551615):∀ n,0<=val x n/\val x n<18446744073709551616^n
 | 0=>by simp [val]
 | n+1=>by
  have ih:=zVa hx n
  have hb:=hx n
  have hp:=zOb n
  simp only [val]
  have h1:0<=x n*18446744073709551616^n:=Int.mul_nonneg hb.1 (Int.le_of_lt hp)
  have h2:x n*18446744073709551616^n<=18446744073709551615*18446744073709551616^n:=Int.mul_le_mul_of_nonneg_right hb.2 (Int.le_of_lt hp)
  rw [Int.pow_succ]
  omega
theorem zKe (x:Nat->Int)(p:Nat)(v:Int):∀ n,p<n->val (fun i=>if i=p then v else x i) n=val x n+(v-x p)*18446744073709551616^p
 | 0,h=>by omega
 | n+1,h=>by
  simp only [val]
  by_cases e:n=p
  ·subst e
   rw [if_pos rfl,zKa (y:=x) n fun i hi=>if_neg (by omega),Int.sub_mul];omega
  ·rw [if_neg e,zKe x p v n (by omega)];omega
theorem zLp {x y:Nat->Int}(hx:∀ i,0<=x i/\x i<=18446744073709551615)(hy:∀ i,0<=y i/\y i<=18446744073709551615):∀ n,val x n=val y n->∀ i,i<n->x i=y i
 | 0,_,i,hi=>by omega
 | n+1,h,i,hi=>by
  simp only [val] at h
  have bx:=zVa hx n
  have b_y:=zVa hy n
  have hp:=zOb n
  have e1:(val x n+x n*18446744073709551616^n)/18446744073709551616^n=x n:=by
   rw [Int.add_mul_ediv_right _ _ (Int.ne_of_gt hp),Int.ediv_eq_zero_of_lt bx.1 bx.2];omega
  have e2:(val y n+y n*18446744073709551616^n)/18446744073709551616^n=y n:=by
   rw [Int.add_mul_ediv_right _ _ (Int.ne_of_gt hp),Int.ediv_eq_zero_of_lt b_y.1 b_y.2];omega
  have e3:x n=y n:=by rw [← e1,← e2,h]
  by_cases e:i=n
  ·subst e;exact e3
  ·rw [e3] at h
   exact zLp hx hy n (by omega) i (by omega)
theorem zLa {x:Nat->Int}{n:Nat}(hz:∀ i,n<=i->x i=0):∀ m,n<=m->val x m=val x n
  | 0, h => by obtain rfl : n = 0 := by omega
               rfl
  | m+1,h=>by
    by_cases e:n=m+1
    · rw [e]
    · simp only [val];rw [zLa hz m (by omega),hz m (by omega)];omega
theorem zMm (a b z c:Int)(ha:0<=a/\a<=18446744073709551615)(hb:0<=b/\b<=18446744073709551615)(hz:0<=z/\z<=18446744073709551615)(hc:0<=c/\c<=18446744073709551615) :
  ((a*b%18446744073709551616+z)%18446744073709551616+c)%18446744073709551616+(a*b/18446744073709551616+(a*b%18446744073709551616+z)/18446744073709551616+((a*b%18446744073709551616+z)%18446744073709551616+c)/18446744073709551616)*18446744073709551616=a*b+z+c /\
  0<=a*b/18446744073709551616+(a*b%18446744073709551616+z)/18446744073709551616/\a*b/18446744073709551616+(a*b%18446744073709551616+z)/18446744073709551616<=18446744073709551615 /\
  0<=a*b/18446744073709551616+(a*b%18446744073709551616+z)/18446744073709551616+((a*b%18446744073709551616+z)%18446744073709551616+c)/18446744073709551616/\a*b/18446744073709551616+(a*b%18446744073709551616+z)/18446744073709551616+((a*b%18446744073709551616+z)%18446744073709551616+c)/18446744073709551616<=18446744073709551615:=by
 have h1:0<=a*b:=Int.mul_nonneg ha.1 hb.1
 have h2:a*b<=18446744073709551615*18446744073709551615:=Int.mul_le_mul ha.2 hb.2 hb.1 (by decide)
 generalize a*b=P at *
 omega
theorem zUj (V Vi a vb b z c s hi:Int)(i k:Nat)(h:V+c*18446744073709551616^(i+k)=Vi+a*vb*18446744073709551616^i)(hs:s+hi*18446744073709551616=a*b+z+c) :
  V+(s-z)*18446744073709551616^(i+k)+hi*18446744073709551616^(i+(k+1))=Vi+a*(vb+b*18446744073709551616^k)*18446744073709551616^i:=by
 have e1:s=a*b+z+c-hi*18446744073709551616:=by omega
 have e2:(18446744073709551616:Int)^(i+(k+1))=18446744073709551616^(i+k)*18446744073709551616:=by rw [← Int.pow_succ];rfl
 have e3:(18446744073709551616:Int)^(i+k)=18446744073709551616^i*18446744073709551616^k:=Int.pow_add ..
 rw [e1,e2]
 rw [e3] at h ⊢
 generalize (18446744073709551616:Int)^i=p at *
 generalize (18446744073709551616:Int)^k=q at *
 grind
end Go.Proofs.YtahfkpjhlbiamaaGreatDoor

namespace Go.Proofs.YtahfkpjhlbiamaaGreatDoor
structure Dg (u d1 d0 e:Int):Prop where
 a1:2147483648<=d1
 a2:d1<4294967296
 b1:0<=d0
 b2:d0<4294967296
 e1:0<=e
 e2:e<4294967296
 u1:0<=u
 u2:u<d1*4294967296+d0
theorem Dg.pos {u d1 d0 e:Int}(h:Dg u d1 d0 e):0<d1*4294967296+d0:=by have:=h.a1;have:=h.b1;omega
theorem mulY (q d1 d0:Int):q*(d1*4294967296+d0)=(q*d1)*4294967296+q*d0:=by rw [Int.mul_add,Int.mul_assoc]
theorem Dg.lt {u d1 d0 e:Int}(h:Dg u d1 d0 e):(u*4294967296+e)/(d1*4294967296+d0)<4294967296:=by
 apply Int.ediv_lt_of_lt_mul h.pos
 have:=h.u2;have:=h.e2;omega
theorem Dg.nonneg {u d1 d0 e:Int}(h:Dg u d1 d0 e):0<=(u*4294967296+e)/(d1*4294967296+d0):=Int.ediv_nonneg (by have:=h.u1;have:=h.e1;omega) (by have:=h.pos;omega)
theorem Dg.big {u d1 d0 e q r:Int}(h:Dg u d1 d0 e)(hq:q*d1+r=u)(ht:4294967296*r+e<q*d0):(u*4294967296+e)/(d1*4294967296+d0)<=q-1:=by
 have:(u*4294967296+e)/(d1*4294967296+d0)<q:=by
  apply Int.ediv_lt_of_lt_mul h.pos
  rw [mulY];omega
 omega
theorem Dg.big' {u d1 d0 e q:Int}(h:Dg u d1 d0 e)(ht:4294967296<=q):(u*4294967296+e)/(d1*4294967296+d0)<=q-1:=by
 have:=h.lt;omega
theorem Dg.right {u d1 d0 e q r:Int}(h:Dg u d1 d0 e)(hq:q*d1+r=u)(hge:(u*4294967296+e)/(d1*4294967296+d0)<=q)(ht:q*d0<=4294967296*r+e):(u*4294967296+e)/(d1*4294967296+d0)=q:=by
 have:q<=(u*4294967296+e)/(d1*4294967296+d0):=by
  apply Int.le_ediv_of_mul_le h.pos
  rw [mulY];omega
 omega
theorem Dg.right' {u d1 d0 e q r:Int}(h:Dg u d1 d0 e)(hq:q*d1+r=u)(hge:(u*4294967296+e)/(d1*4294967296+d0)<=q)(hq2:q<=4294967296)(hr:4294967296<=r):(u*4294967296+e)/(d1*4294967296+d0)=q:=by
 refine h.right hq hge ?_
 have h0:0<=q:=Int.le_trans h.nonneg hge
 have h1:q*d0<=4294967296*d0:=Int.mul_le_mul_of_nonneg_right hq2 h.b1
 have:=h.b2;have:=h.e1
 omega
theorem Dg.first {u d1 d0 e:Int}(h:Dg u d1 d0 e):(u/d1)*d1+u%d1=u/\(u*4294967296+e)/(d1*4294967296+d0)<=u/d1/\u/d1<=4294967297/\0<=u%d1/\u%d1<4294967296:=by
 have a1:=h.a1;have a2:=h.a2
 have hd:0<d1:=by omega
 have e0:(u/d1)*d1+u%d1=u:=Int.mul_comm d1 _▸Int.mul_ediv_add_emod u d1
 have m0:=Int.emod_nonneg u (show d1≠0 by omega)
 have m1:=Int.emod_lt_of_pos u hd
 refine ⟨e0,?_,?_,m0,by omega⟩
 ·have:(u*4294967296+e)/(d1*4294967296+d0)<u/d1+1:=by
   apply Int.ediv_lt_of_lt_mul h.pos
   rw [mulY,Int.add_mul]
   have p0:0<=(u/d1+1)*d0:=Int.mul_nonneg (by have:=Int.ediv_nonneg h.u1 (Int.le_of_lt hd);omega) h.b1
   have:=h.e2
   omega
  omega
 ·have:u/d1<4294967298:=by
   apply Int.ediv_lt_of_lt_mul hd
   have:=h.u2;have:=h.b2
   omega
  omega
end Go.Proofs.YtahfkpjhlbiamaaGreatDoor
