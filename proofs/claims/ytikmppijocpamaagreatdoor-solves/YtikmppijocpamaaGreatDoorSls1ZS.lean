import Derived.Shelf.Strings.OnBuilder
import Derived.Shelf.Strings.Trim
import Derived.Shelf.Small.Bits
import Derived.Shelf.Small.Wraps
import Derived.Shelf.Strconv.Itoa3
import Derived.Shelf.Strings.Runes
import Derived.Shelf.Strings.Repeat
import Derived.Shelf.Strings.BuilderCap
import Derived.Ground.Names2Prog
import Derived.Test.YtikmppijocpamaaGreatDoorProg
set_option linter.unusedSimpArgs false
set_option linter.unusedVariables false
open List renaming length->Y,toArray->BY
open Go.World renaming cell?->AT,heap->IT
open Array renaming size->IS
namespace Go.Proofs
open Go.Shelf
theorem l0{p:Prop}(h:p:=by kernel_rfl):p:=h
theorem ly{p:Prop}(h:p:=by repeat' first|kernel_rfl|decide|exact fun _=>l0|constructor):p:=h
def Tryz.pI:Go.Shelf.Ren:=⟨fun|169=>95|n=>n,fun|70=>156|9=>9|0=>0|72=>158|37=>92|127=>251|3=>3|5=>5|n=>n,fun|n=>n⟩
theorem Tryz.E_:Go.Proofs.Lays.n169 Tryz.prog Tryz.pI:=ly
theorem Tryz.og:Builder.Extra Tryz.prog Tryz.pI:=ly
def Tryz.pG:Go.Shelf.Ren:=⟨fun|156=>139|165=>200|166=>88|169=>95|240=>138|241=>282|276=>208|277=>329|n=>n,fun|31=>31|9=>9|3=>3|4=>4|0=>0|20=>20|72=>158|76=>161|70=>156|37=>92|75=>160|127=>251|164=>320|5=>5|80=>107|n=>n,fun|n=>n⟩
theorem Tryz.DZ:Go.Proofs.Lays.n156 Tryz.prog Tryz.pG:=ly
theorem Tryz.oz:Builder.Extra Tryz.prog Tryz.pG:=ly
open Go.RowKit in
theorem Tryz.strings_Join (bk o c:Nat)(xs:List ByteArray)(sep:ByteArray)(w:World)(oZ:∀(j:Nat) x,xs[j]? =some x→AT w ⟨bk,o+j,none⟩=some (.string x))(Df:bk<IS (IT w))(hN:Y xs≤140737488355328)(oJ:Y xs≤c)(hlen:Y (Lib.join (xs.map (·.data.toList)) sep.data.toList)≤140737488355328):
 Calls Tryz.prog 139 #[.slice (some ⟨bk,o,none⟩) (Y xs) c,.string sep] w fun e w'=>e= .returned (.string ⟨BY (Lib.join (xs.map (·.data.toList)) sep.data.toList)⟩)∧Below w.heap.size w w':=Any.strings_Join Tryz.DZ Tryz.oz bk o c xs sep w oZ Df hN oJ hlen
def Tryz.vE:Go.Shelf.Ren:=⟨fun|161=>120|231=>184|227=>185|233=>186|235=>187|228=>269|197=>270|151=>271|260=>324|152=>325|137=>348|119=>349|224=>266|225=>265|217=>264|266=>322|n=>n,fun|9=>9|4=>4|3=>3|5=>5|117=>304|116=>303|0=>0|124=>307|105=>389|21=>21|119=>471|46=>308|139=>474|138=>473|n=>n,fun|3=>4|4=>5|n=>n⟩
theorem Tryz.Ep:Go.Proofs.Lays.n161 Tryz.prog Tryz.vE:=ly
open Go.RowKit in
theorem Tryz.strings_TrimLeft_one (s:ByteArray)(c:UInt8)(hc:c.toNat<128)(w:World):
 Calls Tryz.prog 120 #[.string s,.string ⟨#[c]⟩] w fun e w'=>e= .returned (.string ⟨BY (Lib.trimLeftB s.data.toList c)⟩)∧w'=w:=Any.strings_TrimLeft_one Tryz.Ep s c hc w
def Tryz.uU:Go.Shelf.Ren:=⟨fun|133=>275|128=>328|n=>n,fun|51=>226|3=>3|4=>4|46=>308|5=>5|9=>9|n=>n,fun|n=>n⟩
theorem Tryz.Eu:Go.Proofs.Lays.n133 Tryz.prog Tryz.uU:=ly
theorem Tryz.bits_LeadingZeros32 (x:Int)(w:World)(h0:0≤x)(h1:x≤4294967295):
 Calls Tryz.prog 275 #[.int .u32 x] w fun e w'=>e= .returned (.int .i64 (32-(Lib.bitLen x.toNat:Int)))∧w'=w:=Any.bits_LeadingZeros32 Tryz.Eu x w h0 h1
def Tryz.vB:Go.Shelf.Ren:=⟨fun|103=>117|210=>183|206=>268|n=>n,fun|9=>9|4=>4|24=>221|3=>3|n=>n,fun|n=>n⟩
theorem Tryz.EV:Go.Proofs.Lays.n103 Tryz.prog Tryz.vB:=ly
open Go.RowKit in
theorem Tryz.strings_CutPrefix (s p:ByteArray)(w:World):
 Calls Tryz.prog 117 #[.string s,.string p] w fun e w'=>e= .returned (.tuple #[.string ⟨BY (Lib.trimPrefix s.data.toList p.data.toList)⟩,.bool (Lib.hasPrefix s.data.toList p.data.toList)])∧w'=w:=Any.strings_CutPrefix Tryz.EV s p w
open Go.RowKit in
theorem Tryz.Builder_String_any_k (B b:Nat)(l:List UInt8)(w:World)(h:Lib.IsBuilderF 158 5 B b (Lib.byteCells l) w)(hBw:B≤IS (IT w)):
 Calls Tryz.prog 95 #[.pointer (some ⟨b,0,none⟩)] w fun e w'=>e= .returned (.string ⟨BY l⟩)∧(Lib.IsBuilderF 158 5 B b (Lib.byteCells l) w'∧Below B w w'∧Lib.OthersKept 5 (some b) w w'):=Any.Builder_String_any_k Tryz.E_ Tryz.og B b l w h hBw
def Tryz.ve:Go.Shelf.Ren:=⟨fun|283=>144|n=>n,fun|3=>3|9=>9|4=>4|n=>n,fun|n=>n⟩
theorem Tryz.Ef:Go.Proofs.Lays.n283 Tryz.prog Tryz.ve:=ly
open Go.Lib in
theorem Tryz.internal_strconv_small (i:Nat)(h:i<100)(w:World):
 Calls Tryz.prog 144 #[.int .i64 i] w fun e w'=>e= .returned (.string ⟨BY (Lib.decDigits i)⟩)∧w'=w:=Any.internal_strconv_small Tryz.Ef i h w
def Tryz.tQ:Go.Shelf.Ren:=⟨fun|284=>145|129=>215|317=>214|318=>216|n=>n,fun|53=>235|3=>3|212=>333|0=>0|4=>4|46=>308|5=>5|9=>9|n=>n,fun|17=>0|n=>n⟩
theorem Tryz.C3:Go.Proofs.LaysM.n284 Tryz.prog Tryz.tQ:=ly
open Go.Lib in
theorem Tryz.internal_strconv_numDigits (u:Nat)(h1:1≤u)(h2:u<18446744073709551616)(w:World)(tX:Lib.TabIs Tryz.prog w "internal/strconv.uint64pow10" .u64 Lib.pow10Tab):
 Calls Tryz.prog 145 #[.int .u64 u] w fun e w'=>e= .returned (.int .i64 (Lib.nDigits u))∧w'=w:=Any.internal_strconv_numDigits Tryz.C3 u h1 h2 w tX
def Tryz.vK:Go.Shelf.Ren:=⟨fun|285=>146|n=>n,fun|37=>92|53=>235|3=>3|4=>4|51=>226|9=>9|5=>5|0=>0|n=>n,fun|n=>n⟩
theorem Tryz.Er:Go.Proofs.Lays.n285 Tryz.prog Tryz.vK:=ly
open Go.RowKit Go.Sort Go.Lib in
theorem Tryz.internal_strconv_formatBase10 (Nt off cap:Nat)(u:Nat)(d:Array UInt8)(w:World)(hH:Holds (fun(b:UInt8)=>Value.int .u8 (b.toNat:Int)) w Nt off d)(hu:u<10^d.size)(Di:u<18446744073709551616)(hsz:d.size<4611686018427387904):
 Calls Tryz.prog 146 #[.slice (some ⟨Nt,off,none⟩) d.size cap,.int .u64 u] w fun e w'=>
  e= .returned (.tuple #[])∧∃(n v':Nat) (dk:Array UInt8),w'=(putRow (fun(b:UInt8)=>Value.int .u8 (b.toNat:Int)) w Nt off dk).drewN n∧FmtInv d.size u 0 v' dk:=Any.internal_strconv_formatBase10 Tryz.Er Nt off cap u d w hH hu Di hsz
def Tryz.vm:Go.Shelf.Ren:=⟨fun|217=>264|266=>322|n=>n,fun|9=>9|5=>5|3=>3|n=>n,fun|n=>n⟩
theorem Tryz.EP:Go.Proofs.Lays.n217 Tryz.prog Tryz.vm:=ly
open Go.RowKit Go.Lib in
theorem Tryz.stringslite_IndexByte (s:ByteArray)(c:Int)(w:World):
 Calls Tryz.prog 264 #[.string s,.int .u8 c] w fun e w'=>e= .returned (.int .i64 (Lib.indexByte s.data.toList c.toNat.toUInt8))∧w'=w:=Any.stringslite_IndexByte Tryz.EP s c w
def Tryz.pM:Go.Shelf.Ren:=⟨fun|105=>131|212=>198|99=>199|165=>200|166=>88|170=>201|169=>95|263=>280|264=>281|206=>268|240=>138|241=>282|276=>208|277=>329|n=>n,fun|9=>9|3=>3|4=>4|20=>20|0=>0|46=>308|109=>315|5=>5|72=>158|76=>161|51=>226|146=>399|53=>235|148=>401|70=>156|37=>92|75=>160|127=>251|164=>320|80=>107|n=>n,fun|n=>n⟩
theorem Tryz.EF:Go.Proofs.Lays.n105 Tryz.prog Tryz.pM:=ly
theorem Tryz.ow:Builder.Extra Tryz.prog Tryz.pM:=ly
open Go.RowKit Go.Lib in
theorem Tryz.strings_Repeat (s:ByteArray)(c:Nat)(w:World)(hc:c≤9223372036854775807)(hlen:s.size*c≤140737488355328):
 Calls Tryz.prog 131 #[.string s,.int .i64 c] w fun e w'=>e= .returned (.string ⟨BY (Lib.repeatL s.data.toList c)⟩)∧Below w.heap.size w w':=Any.strings_Repeat Tryz.EF Tryz.ow s c w hc hlen
end Go.Proofs
