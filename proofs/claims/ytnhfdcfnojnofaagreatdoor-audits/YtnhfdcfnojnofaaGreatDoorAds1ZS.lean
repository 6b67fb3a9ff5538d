import Derived.Shelf.Strings.Builder1
import Derived.Shelf.Strings.Builder2
import Derived.Shelf.Strings.OnBuilder
import Derived.Shelf.Strings.Trim
import Derived.Shelf.Small.Utf8
import Derived.Shelf.Small.Bits
import Derived.Shelf.Small.Strs
import Derived.Shelf.Small.Wraps
import Derived.Shelf.Strings.BuilderF
import Derived.Shelf.Strings.BuilderK
import Derived.Shelf.Strings.Builder2Cap
import Derived.Shelf.Strconv.Itoa0
import Derived.Shelf.Strconv.Itoa1
import Derived.Shelf.LaysM
import Derived.Shelf.Strconv.Itoa2
import Derived.Shelf.Strconv.Itoa3
import Derived.Shelf.Strings.Search1
import Derived.Shelf.Strings.Search2
import Derived.Shelf.Strings.Cut
import Derived.Shelf.Strings.Shaped
import Derived.Shelf.Strings.Prefix
import Derived.Shelf.Unicode.Decode
import Derived.Shelf.Strings.Runes
import Derived.Shelf.Strings.AsciiSet
import Derived.Shelf.Bits.Mul64
import Derived.Shelf.Strings.Repeat
import Derived.Shelf.Unicode.DecodeSlow
import Derived.Shelf.Unicode.DecodeAny
import Derived.Shelf.Strings.BuilderCap
import Derived.Ground.Names2Prog
import Derived.Shelf.Slices.SearchI
import Derived.Test.YtnhfdcfnojnofaaGreatDoorProg
set_option linter.unusedSimpArgs false
set_option linter.unusedVariables false
namespace Go.Proofs
open Go.Shelf
def Tryz.lays170_ren:Go.Shelf.Ren:=⟨fun|170=>231|n=>n,fun|70=>138|3=>3|0=>0|72=>140|37=>78|5=>5|n=>n,fun|n=>n⟩
def Tryz.lays169_ren:Go.Shelf.Ren:=⟨fun|169=>92|n=>n,fun|70=>138|9=>9|0=>0|72=>140|37=>78|127=>253|3=>3|5=>5|n=>n,fun|n=>n⟩
def Tryz.lays241_ren:Go.Shelf.Ren:=⟨fun|241=>316|277=>363|n=>n,fun|70=>138|3=>3|0=>0|72=>140|37=>78|5=>5|n=>n,fun|n=>n⟩
def Tryz.lays165_ren:Go.Shelf.Ren:=⟨fun|165=>230|240=>153|241=>316|276=>243|277=>363|n=>n,fun|70=>138|3=>3|0=>0|4=>4|9=>9|20=>20|72=>140|37=>78|164=>344|5=>5|n=>n,fun|n=>n⟩
def Tryz.lays156_ren:Go.Shelf.Ren:=⟨fun|156=>154|165=>230|166=>85|169=>92|240=>153|241=>316|276=>243|277=>363|n=>n,fun|31=>44|9=>9|3=>3|4=>4|0=>0|20=>20|72=>140|76=>143|70=>138|37=>78|75=>142|127=>253|164=>344|5=>5|80=>40|n=>n,fun|n=>n⟩
def Tryz.lays231_ren:Go.Shelf.Ren:=⟨fun|231=>214|n=>n,fun|9=>9|5=>5|3=>3|4=>4|n=>n,fun|n=>n⟩
def Tryz.lays161_ren:Go.Shelf.Ren:=⟨fun|161=>131|231=>214|227=>215|233=>216|235=>217|228=>303|197=>304|151=>305|260=>358|152=>359|137=>382|119=>383|224=>300|225=>299|217=>298|266=>356|n=>n,fun|9=>9|4=>4|3=>3|5=>5|117=>324|116=>323|0=>0|124=>327|105=>415|21=>21|119=>496|46=>328|139=>499|138=>498|n=>n,fun|3=>4|4=>5|n=>n⟩
theorem Tryz.lays161:Go.Proofs.Lays.n161 Tryz.prog Tryz.lays161_ren:={
 mixed:=by kernel_rfl
 f119:=Tryz.func383.trans (congrArg some (by kernel_rfl))
 f137:=Tryz.func382.trans (congrArg some (by kernel_rfl))
 f151:=Tryz.func305.trans (congrArg some (by kernel_rfl))
 f152:=Tryz.func359.trans (congrArg some (by kernel_rfl))
 f161:=Tryz.func131.trans (congrArg some (by kernel_rfl))
 f197:=Tryz.func304.trans (congrArg some (by kernel_rfl))
 f217:=Tryz.func298.trans (congrArg some (by kernel_rfl))
 f224:=Tryz.func300.trans (congrArg some (by kernel_rfl))
 f225:=Tryz.func299.trans (congrArg some (by kernel_rfl))
 f227:=Tryz.func215.trans (congrArg some (by kernel_rfl))
 f228:=Tryz.func303.trans (congrArg some (by kernel_rfl))
 f231:=Tryz.func214.trans (congrArg some (by kernel_rfl))
 f233:=Tryz.func216.trans (congrArg some (by kernel_rfl))
 f235:=Tryz.func217.trans (congrArg some (by kernel_rfl))
 f260:=Tryz.func358.trans (congrArg some (by kernel_rfl))
 f266:=Tryz.func356.trans (congrArg some (by kernel_rfl))
 t0:=Tryz.underlying0
 a0:=Tryz.isAgg0
 z0:=Tryz.sizeOf0
 v0:=Tryz.zeroValue0
 t3:=Tryz.underlying3
 a3:=Tryz.isAgg3
 z3:=Tryz.sizeOf3
 v3:=Tryz.zeroValue3
 t4:=Tryz.underlying4
 a4:=Tryz.isAgg4
 z4:=Tryz.sizeOf4
 v4:=Tryz.zeroValue4
 t5:=Tryz.underlying5
 a5:=Tryz.isAgg5
 z5:=Tryz.sizeOf5
 v5:=Tryz.zeroValue5
 t9:=Tryz.underlying9
 a9:=Tryz.isAgg9
 z9:=Tryz.sizeOf9
 v9:=Tryz.zeroValue9
 t21:=Tryz.underlying21
 a21:=Tryz.isAgg21
 z21:=Tryz.sizeOf21
 v21:=Tryz.zeroValue21
 t46:=Tryz.underlying328
 a46:=Tryz.isAgg328
 z46:=Tryz.sizeOf328
 v46:=Tryz.zeroValue328
 t105:=Tryz.underlying415
 a105:=Tryz.isAgg415
 z105:=Tryz.sizeOf415
 v105:=Tryz.zeroValue415
 t116:=Tryz.underlying323
 a116:=Tryz.isAgg323
 z116:=Tryz.sizeOf323
 t117:=Tryz.underlying324
 a117:=Tryz.isAgg324
 z117:=Tryz.sizeOf324
 v117:=Tryz.zeroValue324
 t119:=Tryz.underlying496
 a119:=Tryz.isAgg496
 z119:=Tryz.sizeOf496
 t124:=Tryz.underlying327
 a124:=Tryz.isAgg327
 z124:=Tryz.sizeOf327
 v124:=Tryz.zeroValue327
 t138:=Tryz.underlying498
 a138:=Tryz.isAgg498
 z138:=Tryz.sizeOf498
 v138:=Tryz.zeroValue498
 t139:=Tryz.underlying499
 a139:=Tryz.isAgg499
 z139:=Tryz.sizeOf499
 v139:=Tryz.zeroValue499
 g3:=by kernel_rfl
 g4:=by kernel_rfl }
open Go.RowKit in
theorem Tryz.strings_TrimLeft_one (s:ByteArray)(c:UInt8)(hc:c.toNat<128)(w:World):
 Calls Tryz.prog 131 #[.string s,.string ⟨#[c]⟩] w fun e w'=>e= .returned (.string ⟨(Lib.trimLeftB s.data.toList c).toArray⟩)∧w'=w:=Any.strings_TrimLeft_one Tryz.lays161 s c hc w
def Tryz.lays119_ren:Go.Shelf.Ren:=⟨fun|119=>383|n=>n,fun|21=>21|4=>4|n=>n,fun|n=>n⟩
def Tryz.lays128_ren:Go.Shelf.Ren:=⟨fun|128=>362|n=>n,fun|51=>224|3=>3|4=>4|46=>328|5=>5|9=>9|n=>n,fun|n=>n⟩
def Tryz.lays133_ren:Go.Shelf.Ren:=⟨fun|133=>309|128=>362|n=>n,fun|51=>224|3=>3|4=>4|46=>328|5=>5|9=>9|n=>n,fun|n=>n⟩
theorem Tryz.lays133:Go.Proofs.Lays.n133 Tryz.prog Tryz.lays133_ren:={
 mixed:=by kernel_rfl
 f128:=Tryz.func362.trans (congrArg some (by kernel_rfl))
 f133:=Tryz.func309.trans (congrArg some (by kernel_rfl))
 t3:=Tryz.underlying3
 a3:=Tryz.isAgg3
 z3:=Tryz.sizeOf3
 v3:=Tryz.zeroValue3
 t4:=Tryz.underlying4
 a4:=Tryz.isAgg4
 z4:=Tryz.sizeOf4
 v4:=Tryz.zeroValue4
 t5:=Tryz.underlying5
 a5:=Tryz.isAgg5
 z5:=Tryz.sizeOf5
 v5:=Tryz.zeroValue5
 t9:=Tryz.underlying9
 a9:=Tryz.isAgg9
 z9:=Tryz.sizeOf9
 v9:=Tryz.zeroValue9
 t46:=Tryz.underlying328
 a46:=Tryz.isAgg328
 z46:=Tryz.sizeOf328
 v46:=Tryz.zeroValue328
 t51:=Tryz.underlying224
 a51:=Tryz.isAgg224
 z51:=Tryz.sizeOf224
 v51:=Tryz.zeroValue224 }
theorem Tryz.bits_LeadingZeros32 (x:Int)(w:World)(h0:0≤x)(h1:x≤4294967295):
 Calls Tryz.prog 309 #[.int .u32 x] w fun e w'=>e= .returned (.int .i64 (32-(Lib.bitLen x.toNat:Int)))∧w'=w:=Any.bits_LeadingZeros32 Tryz.lays133 x w h0 h1
def Tryz.lays137_ren:Go.Shelf.Ren:=⟨fun|137=>382|217=>298|266=>356|n=>n,fun|9=>9|5=>5|3=>3|n=>n,fun|n=>n⟩
def Tryz.lays210_ren:Go.Shelf.Ren:=⟨fun|210=>213|206=>302|n=>n,fun|9=>9|4=>4|3=>3|n=>n,fun|n=>n⟩
def Tryz.lays103_ren:Go.Shelf.Ren:=⟨fun|103=>128|210=>213|206=>302|n=>n,fun|9=>9|4=>4|24=>219|3=>3|n=>n,fun|n=>n⟩
theorem Tryz.lays103:Go.Proofs.Lays.n103 Tryz.prog Tryz.lays103_ren:={
 mixed:=by kernel_rfl
 f103:=Tryz.func128.trans (congrArg some (by kernel_rfl))
 f206:=Tryz.func302.trans (congrArg some (by kernel_rfl))
 f210:=Tryz.func213.trans (congrArg some (by kernel_rfl))
 t3:=Tryz.underlying3
 a3:=Tryz.isAgg3
 z3:=Tryz.sizeOf3
 v3:=Tryz.zeroValue3
 t4:=Tryz.underlying4
 a4:=Tryz.isAgg4
 z4:=Tryz.sizeOf4
 v4:=Tryz.zeroValue4
 t9:=Tryz.underlying9
 a9:=Tryz.isAgg9
 z9:=Tryz.sizeOf9
 v9:=Tryz.zeroValue9
 t24:=Tryz.underlying219
 a24:=Tryz.isAgg219
 z24:=Tryz.sizeOf219
 v24:=Tryz.zeroValue219 }
open Go.RowKit in
theorem Tryz.strings_CutPrefix (s p:ByteArray)(w:World):
 Calls Tryz.prog 128 #[.string s,.string p] w fun e w'=>e= .returned (.tuple #[.string ⟨(Lib.trimPrefix s.data.toList p.data.toList).toArray⟩,.bool (Lib.hasPrefix s.data.toList p.data.toList)])∧w'=w:=Any.strings_CutPrefix Tryz.lays103 s p w
def Tryz.lays215_ren:Go.Shelf.Ren:=⟨fun|215=>360|n=>n,fun|3=>3|4=>4|n=>n,fun|n=>n⟩
def Tryz.lays122_ren:Go.Shelf.Ren:=⟨fun|122=>307|215=>360|n=>n,fun|3=>3|4=>4|n=>n,fun|n=>n⟩
def Tryz.lays129_ren:Go.Shelf.Ren:=⟨fun|129=>233|n=>n,fun|53=>233|3=>3|4=>4|46=>328|5=>5|9=>9|n=>n,fun|n=>n⟩
def Tryz.lays317_ren:Go.Shelf.Ren:=⟨fun|317=>232|n=>n,fun|3=>3|46=>328|n=>n,fun|n=>n⟩
def Tryz.lays318_ren:Go.Shelf.Ren:=⟨fun|318=>234|n=>n,fun|3=>3|4=>4|n=>n,fun|n=>n⟩
def Tryz.lays283_ren:Go.Shelf.Ren:=⟨fun|283=>143|n=>n,fun|3=>3|9=>9|4=>4|n=>n,fun|n=>n⟩
def Tryz.laysM284_ren:Go.Shelf.Ren:=⟨fun|284=>144|129=>233|317=>232|318=>234|n=>n,fun|53=>233|3=>3|212=>340|0=>0|4=>4|46=>328|5=>5|9=>9|n=>n,fun|17=>0|n=>n⟩
def Tryz.lays285_ren:Go.Shelf.Ren:=⟨fun|285=>145|n=>n,fun|37=>78|53=>233|3=>3|4=>4|51=>224|9=>9|5=>5|0=>0|n=>n,fun|n=>n⟩
def Tryz.laysM246_ren:Go.Shelf.Ren:=⟨fun|246=>82|283=>143|284=>144|285=>145|286=>146|129=>233|317=>232|318=>234|319=>235|320=>236|337=>317|338=>318|n=>n,fun|2=>2|3=>3|9=>9|4=>4|171=>234|0=>0|53=>233|37=>78|5=>5|173=>237|212=>340|51=>224|20=>20|213=>341|46=>328|232=>478|233=>479|n=>n,fun|17=>0|18=>2|19=>3|n=>n⟩
def Tryz.lays246_ren:Go.Shelf.Ren:=⟨fun|246=>82|283=>143|284=>144|285=>145|286=>146|129=>233|317=>232|318=>234|319=>235|320=>236|337=>317|338=>318|n=>n,fun|2=>2|3=>3|9=>9|4=>4|171=>234|0=>0|53=>233|37=>78|5=>5|173=>237|212=>340|51=>224|20=>20|213=>341|46=>328|232=>478|233=>479|n=>n,fun|17=>0|18=>2|19=>3|n=>n⟩
def Tryz.laysM243_ren:Go.Shelf.Ren:=⟨fun|243=>58|246=>82|283=>143|284=>144|285=>145|286=>146|129=>233|317=>232|318=>234|319=>235|320=>236|337=>317|338=>318|n=>n,fun|3=>3|9=>9|2=>2|4=>4|171=>234|0=>0|53=>233|37=>78|5=>5|173=>237|212=>340|51=>224|20=>20|213=>341|46=>328|232=>478|233=>479|n=>n,fun|17=>0|18=>2|19=>3|n=>n⟩
def Tryz.lays243_ren:Go.Shelf.Ren:=⟨fun|243=>58|246=>82|283=>143|284=>144|285=>145|286=>146|129=>233|317=>232|318=>234|319=>235|320=>236|337=>317|338=>318|n=>n,fun|3=>3|9=>9|2=>2|4=>4|171=>234|0=>0|53=>233|37=>78|5=>5|173=>237|212=>340|51=>224|20=>20|213=>341|46=>328|232=>478|233=>479|n=>n,fun|17=>0|18=>2|19=>3|n=>n⟩
def Tryz.laysM171_ren:Go.Shelf.Ren:=⟨fun|171=>42|243=>58|246=>82|283=>143|284=>144|285=>145|286=>146|129=>233|317=>232|318=>234|319=>235|320=>236|337=>317|338=>318|n=>n,fun|3=>3|9=>9|2=>2|4=>4|171=>234|0=>0|53=>233|37=>78|5=>5|173=>237|212=>340|51=>224|20=>20|213=>341|46=>328|232=>478|233=>479|n=>n,fun|17=>0|18=>2|19=>3|n=>n⟩
def Tryz.lays171_ren:Go.Shelf.Ren:=⟨fun|171=>42|243=>58|246=>82|283=>143|284=>144|285=>145|286=>146|129=>233|317=>232|318=>234|319=>235|320=>236|337=>317|338=>318|n=>n,fun|3=>3|9=>9|2=>2|4=>4|171=>234|0=>0|53=>233|37=>78|5=>5|173=>237|212=>340|51=>224|20=>20|213=>341|46=>328|232=>478|233=>479|n=>n,fun|17=>0|18=>2|19=>3|n=>n⟩
def Tryz.lays217_ren:Go.Shelf.Ren:=⟨fun|217=>298|266=>356|n=>n,fun|9=>9|5=>5|3=>3|n=>n,fun|n=>n⟩
theorem Tryz.lays217:Go.Proofs.Lays.n217 Tryz.prog Tryz.lays217_ren:={
 mixed:=by kernel_rfl
 f217:=Tryz.func298.trans (congrArg some (by kernel_rfl))
 f266:=Tryz.func356.trans (congrArg some (by kernel_rfl))
 t3:=Tryz.underlying3
 a3:=Tryz.isAgg3
 z3:=Tryz.sizeOf3
 v3:=Tryz.zeroValue3
 t5:=Tryz.underlying5
 a5:=Tryz.isAgg5
 z5:=Tryz.sizeOf5
 v5:=Tryz.zeroValue5
 t9:=Tryz.underlying9
 a9:=Tryz.isAgg9
 z9:=Tryz.sizeOf9
 v9:=Tryz.zeroValue9 }
open Go.RowKit Go.Lib in
theorem Tryz.stringslite_IndexByte (s:ByteArray)(c:Int)(w:World):
 Calls Tryz.prog 298 #[.string s,.int .u8 c] w fun e w'=>e= .returned (.int .i64 (Lib.indexByte s.data.toList c.toNat.toUInt8))∧w'=w:=Any.stringslite_IndexByte Tryz.lays217 s c w
def Tryz.lays224_ren:Go.Shelf.Ren:=⟨fun|224=>300|n=>n,fun|3=>3|n=>n,fun|n=>n⟩
def Tryz.lays314_ren:Go.Shelf.Ren:=⟨fun|314=>357|n=>n,fun|9=>9|51=>224|3=>3|4=>4|5=>5|46=>328|n=>n,fun|n=>n⟩
def Tryz.lays267_ren:Go.Shelf.Ren:=⟨fun|267=>301|314=>357|n=>n,fun|9=>9|3=>3|146=>424|51=>224|4=>4|5=>5|46=>328|n=>n,fun|n=>n⟩
def Tryz.lays219_ren:Go.Shelf.Ren:=⟨fun|219=>212|217=>298|225=>299|224=>300|267=>301|266=>356|314=>357|n=>n,fun|9=>9|3=>3|4=>4|5=>5|46=>328|146=>424|51=>224|n=>n,fun|1=>1|n=>n⟩
def Tryz.lays220_ren:Go.Shelf.Ren:=⟨fun|220=>127|219=>212|217=>298|225=>299|224=>300|267=>301|266=>356|314=>357|n=>n,fun|9=>9|4=>4|3=>3|5=>5|46=>328|146=>424|51=>224|n=>n,fun|1=>1|n=>n⟩
def Tryz.lays145_ren:Go.Shelf.Ren:=⟨fun|145=>73|220=>127|219=>212|217=>298|225=>299|224=>300|267=>301|266=>356|314=>357|n=>n,fun|9=>9|4=>4|59=>126|3=>3|5=>5|46=>328|146=>424|51=>224|n=>n,fun|1=>1|n=>n⟩
def Tryz.laysM219_ren:Go.Shelf.Ren:=⟨fun|219=>212|217=>298|225=>299|224=>300|267=>301|266=>356|314=>357|n=>n,fun|9=>9|3=>3|4=>4|5=>5|46=>328|146=>424|51=>224|n=>n,fun|1=>1|n=>n⟩
def Tryz.laysM220_ren:Go.Shelf.Ren:=⟨fun|220=>127|219=>212|217=>298|225=>299|224=>300|267=>301|266=>356|314=>357|n=>n,fun|9=>9|4=>4|3=>3|5=>5|46=>328|146=>424|51=>224|n=>n,fun|1=>1|n=>n⟩
def Tryz.laysM145_ren:Go.Shelf.Ren:=⟨fun|145=>73|220=>127|219=>212|217=>298|225=>299|224=>300|267=>301|266=>356|314=>357|n=>n,fun|9=>9|4=>4|59=>126|3=>3|5=>5|46=>328|146=>424|51=>224|n=>n,fun|1=>1|n=>n⟩
def Tryz.lays206_ren:Go.Shelf.Ren:=⟨fun|206=>302|n=>n,fun|9=>9|4=>4|3=>3|n=>n,fun|n=>n⟩
def Tryz.lays99_ren:Go.Shelf.Ren:=⟨fun|99=>229|206=>302|n=>n,fun|9=>9|4=>4|3=>3|n=>n,fun|n=>n⟩
def Tryz.lays197_ren:Go.Shelf.Ren:=⟨fun|197=>304|260=>358|n=>n,fun|9=>9|21=>21|3=>3|4=>4|5=>5|105=>415|119=>496|0=>0|46=>328|139=>499|138=>498|n=>n,fun|3=>4|4=>5|n=>n⟩
def Tryz.lays152_ren:Go.Shelf.Ren:=⟨fun|152=>359|137=>382|119=>383|224=>300|225=>299|217=>298|266=>356|n=>n,fun|9=>9|21=>21|3=>3|4=>4|5=>5|0=>0|46=>328|n=>n,fun|n=>n⟩
def Tryz.lays151_ren:Go.Shelf.Ren:=⟨fun|151=>305|152=>359|137=>382|119=>383|224=>300|225=>299|217=>298|266=>356|n=>n,fun|9=>9|21=>21|4=>4|3=>3|5=>5|0=>0|46=>328|n=>n,fun|n=>n⟩
def Tryz.lays227_ren:Go.Shelf.Ren:=⟨fun|227=>215|n=>n,fun|9=>9|116=>323|4=>4|0=>0|3=>3|5=>5|n=>n,fun|n=>n⟩
def Tryz.lays228_ren:Go.Shelf.Ren:=⟨fun|228=>303|n=>n,fun|124=>327|5=>5|4=>4|0=>0|116=>323|n=>n,fun|n=>n⟩
def Tryz.lays264_ren:Go.Shelf.Ren:=⟨fun|264=>315|n=>n,fun|53=>233|46=>328|n=>n,fun|n=>n⟩
def Tryz.lays212_ren:Go.Shelf.Ren:=⟨fun|212=>228|263=>314|264=>315|n=>n,fun|46=>328|51=>224|146=>424|53=>233|148=>426|n=>n,fun|n=>n⟩
def Tryz.lays105_ren:Go.Shelf.Ren:=⟨fun|105=>142|212=>228|99=>229|165=>230|166=>85|170=>231|169=>92|263=>314|264=>315|206=>302|240=>153|241=>316|276=>243|277=>363|n=>n,fun|9=>9|3=>3|4=>4|20=>20|0=>0|46=>328|109=>335|5=>5|72=>140|76=>143|51=>224|146=>424|53=>233|148=>426|70=>138|37=>78|75=>142|127=>253|164=>344|80=>40|n=>n,fun|n=>n⟩
def Tryz.lays260_ren:Go.Shelf.Ren:=⟨fun|260=>358|n=>n,fun|9=>9|21=>21|3=>3|4=>4|5=>5|119=>496|0=>0|46=>328|139=>499|138=>498|n=>n,fun|3=>4|4=>5|n=>n⟩
def Tryz.laysNm237_ren:Go.Shelf.Ren:=⟨fun|37=>360|n=>n,fun|3=>3|4=>4|n=>n,fun|n=>n⟩
end Go.Proofs
