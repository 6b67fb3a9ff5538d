import Derived.Shelf.Strings.OnBuilder
import Derived.Shelf.Strings.Trim
import Derived.Shelf.Small.Bits
import Derived.Shelf.Small.Wraps
import Derived.Shelf.Strconv.Itoa3
import Derived.Shelf.Strings.Runes
import Derived.Shelf.Strings.Repeat
import Derived.Shelf.Strings.BuilderCap
import Derived.Ground.Names2Prog
import Derived.Test.YtfbkaflfnjinaaaGreatDoorProg
set_option linter.unusedSimpArgs false
set_option linter.unusedVariables false
namespace Go.Proofs
open Go.Shelf
theorem l0{p:Prop}(h:p:=by kernel_rfl):p:=h
theorem ly{p:Prop}(h:p:=by repeat' first|kernel_rfl|decide|exact fun _=>l0|constructor):p:=h
def Tryz.oo:Go.Shelf.Ren:=⟨fun|169=>148|n=>n,fun|70=>246|9=>9|0=>0|72=>248|37=>54|127=>323|3=>3|5=>5|n=>n,fun|n=>n⟩
theorem Tryz.DF:Go.Proofs.Lays.n169 Tryz.prog Tryz.oo:=ly
theorem Tryz.mP:Builder.Extra Tryz.prog Tryz.oo:=ly
def Tryz.og:Go.Shelf.Ren:=⟨fun|156=>282|165=>249|166=>144|169=>148|240=>204|241=>280|276=>251|277=>291|n=>n,fun|31=>28|9=>9|3=>3|4=>4|0=>0|20=>20|72=>248|76=>254|70=>246|37=>54|75=>253|127=>323|164=>363|5=>5|80=>27|n=>n,fun|n=>n⟩
theorem Tryz.Es:Go.Proofs.Lays.n156 Tryz.prog Tryz.og:=ly
theorem Tryz.mV:Builder.Extra Tryz.prog Tryz.og:=ly
open Go.RowKit in
theorem Tryz.strings_Join (bk o c:Nat)(xs:List ByteArray)(sep:ByteArray)(w:World)(sW:∀(j:Nat) x,xs[j]? =some x→w.cell? ⟨bk,o+j,none⟩=some (.string x))(Cx:bk<w.heap.size)(hN:xs.length≤140737488355328)(nw:xs.length≤c)(hlen:(Lib.join (xs.map (·.data.toList)) sep.data.toList).length≤140737488355328):
 Calls Tryz.prog 282 #[.slice (some ⟨bk,o,none⟩) xs.length c,.string sep] w fun e w'=>e= .returned (.string ⟨(Lib.join (xs.map (·.data.toList)) sep.data.toList).toArray⟩)∧Below w.heap.size w w':=Any.strings_Join Tryz.Es Tryz.mV bk o c xs sep w sW Cx hN nw hlen
def Tryz.vB:Go.Shelf.Ren:=⟨fun|161=>225|231=>263|227=>264|233=>265|235=>266|228=>287|197=>288|151=>289|260=>292|152=>293|137=>294|119=>295|224=>260|225=>259|217=>258|266=>285|n=>n,fun|9=>9|4=>4|3=>3|5=>5|117=>373|116=>372|0=>0|124=>376|105=>390|21=>21|119=>395|46=>217|139=>398|138=>397|n=>n,fun|3=>4|4=>5|n=>n⟩
theorem Tryz.Ep:Go.Proofs.Lays.n161 Tryz.prog Tryz.vB:=ly
open Go.RowKit in
theorem Tryz.strings_TrimLeft_one (s:ByteArray)(c:UInt8)(hc:c.toNat<128)(w:World):
 Calls Tryz.prog 225 #[.string s,.string ⟨#[c]⟩] w fun e w'=>e= .returned (.string ⟨(Lib.trimLeftB s.data.toList c).toArray⟩)∧w'=w:=Any.strings_TrimLeft_one Tryz.Ep s c hc w
def Tryz.uv:Go.Shelf.Ren:=⟨fun|133=>274|128=>290|n=>n,fun|51=>214|3=>3|4=>4|46=>217|5=>5|9=>9|n=>n,fun|n=>n⟩
theorem Tryz.D3:Go.Proofs.Lays.n133 Tryz.prog Tryz.uv:=ly
theorem Tryz.bits_LeadingZeros32 (x:Int)(w:World)(h0:0≤x)(h1:x≤4294967295):
 Calls Tryz.prog 274 #[.int .u32 x] w fun e w'=>e= .returned (.int .i64 (32-(Lib.bitLen x.toNat:Int)))∧w'=w:=Any.bits_LeadingZeros32 Tryz.D3 x w h0 h1
def Tryz.vE:Go.Shelf.Ren:=⟨fun|103=>166|210=>223|206=>262|n=>n,fun|9=>9|4=>4|24=>280|3=>3|n=>n,fun|n=>n⟩
theorem Tryz.DD:Go.Proofs.Lays.n103 Tryz.prog Tryz.vE:=ly
open Go.RowKit in
theorem Tryz.strings_CutPrefix (s p:ByteArray)(w:World):
 Calls Tryz.prog 166 #[.string s,.string p] w fun e w'=>e= .returned (.tuple #[.string ⟨(Lib.trimPrefix s.data.toList p.data.toList).toArray⟩,.bool (Lib.hasPrefix s.data.toList p.data.toList)])∧w'=w:=Any.strings_CutPrefix Tryz.DD s p w
open Go.RowKit in
theorem Tryz.Builder_String_any_k (B b:Nat)(l:List UInt8)(w:World)(h:Lib.IsBuilderF 248 5 B b (Lib.byteCells l) w)(Oo:B≤w.heap.size):
 Calls Tryz.prog 148 #[.pointer (some ⟨b,0,none⟩)] w fun e w'=>e= .returned (.string ⟨l.toArray⟩)∧(Lib.IsBuilderF 248 5 B b (Lib.byteCells l) w'∧Below B w w'∧Lib.OthersKept 5 (some b) w w'):=Any.Builder_String_any_k Tryz.DF Tryz.mP B b l w h Oo
def Tryz.ur:Go.Shelf.Ren:=⟨fun|283=>55|n=>n,fun|3=>3|9=>9|4=>4|n=>n,fun|n=>n⟩
theorem Tryz.Ee:Go.Proofs.Lays.n283 Tryz.prog Tryz.ur:=ly
open Go.Lib in
theorem Tryz.internal_strconv_small (i:Nat)(h:i<100)(w:World):
 Calls Tryz.prog 55 #[.int .i64 i] w fun e w'=>e= .returned (.string ⟨(Lib.decDigits i).toArray⟩)∧w'=w:=Any.internal_strconv_small Tryz.Ee i h w
def Tryz.tS:Go.Shelf.Ren:=⟨fun|284=>56|129=>110|317=>109|318=>111|n=>n,fun|53=>142|3=>3|212=>213|0=>0|4=>4|46=>217|5=>5|9=>9|n=>n,fun|17=>0|n=>n⟩
theorem Tryz.BU:Go.Proofs.LaysM.n284 Tryz.prog Tryz.tS:=ly
open Go.Lib in
theorem Tryz.internal_strconv_numDigits (u:Nat)(h1:1≤u)(h2:u<18446744073709551616)(w:World)(pO:Lib.TabIs Tryz.prog w "internal/strconv.uint64pow10" .u64 Lib.pow10Tab):
 Calls Tryz.prog 56 #[.int .u64 u] w fun e w'=>e= .returned (.int .i64 (Lib.nDigits u))∧w'=w:=Any.internal_strconv_numDigits Tryz.BU u h1 h2 w pO
def Tryz.vu:Go.Shelf.Ren:=⟨fun|285=>57|n=>n,fun|37=>54|53=>142|3=>3|4=>4|51=>214|9=>9|5=>5|0=>0|n=>n,fun|n=>n⟩
theorem Tryz.DW:Go.Proofs.Lays.n285 Tryz.prog Tryz.vu:=ly
open Go.RowKit Go.Sort Go.Lib in
theorem Tryz.internal_strconv_formatBase10 (CE off cap:Nat)(u:Nat)(d:Array UInt8)(w:World)(hH:Holds (fun(b:UInt8)=>Value.int .u8 (b.toNat:Int)) w CE off d)(hu:u<10^d.size)(CQ:u<18446744073709551616)(Pt:d.size<4611686018427387904):
 Calls Tryz.prog 57 #[.slice (some ⟨CE,off,none⟩) d.size cap,.int .u64 u] w fun e w'=>
  e= .returned (.tuple #[])∧∃(n v':Nat) (dk:Array UInt8),w'=(putRow (fun(b:UInt8)=>Value.int .u8 (b.toNat:Int)) w CE off dk).drewN n∧FmtInv d.size u 0 v' dk:=Any.internal_strconv_formatBase10 Tryz.DW CE off cap u d w hH hu CQ Pt
def Tryz.sN:Go.Shelf.Ren:=⟨fun|171=>19|243=>26|246=>34|283=>55|284=>56|285=>57|286=>58|129=>110|317=>109|318=>111|319=>112|320=>113|337=>188|338=>189|n=>n,fun|3=>3|9=>9|2=>2|4=>4|171=>141|0=>0|53=>142|37=>54|5=>5|173=>145|212=>213|51=>214|20=>20|213=>215|46=>217|232=>352|233=>353|n=>n,fun|17=>0|18=>1|19=>2|n=>n⟩
theorem Tryz.BG:Go.Proofs.LaysM.n171 Tryz.prog Tryz.sN:=ly
open Go.RowKit Go.Sort Go.Lib in
theorem Tryz.strconv_Itoa (n:Int)(h0:-9223372036854775808≤n)(h1:n≤9223372036854775807)(w:World)(pO:Lib.TabIs Tryz.prog w "internal/strconv.uint64pow10" .u64 Lib.pow10Tab):
 Calls Tryz.prog 19 #[.int .i64 n] w fun e w'=>e= .returned (.string ⟨(Lib.itoa n).toArray⟩)∧∃k os,w'=grow (w.drewN k) os:=Any.strconv_Itoa Tryz.BG n h0 h1 w pO
def Tryz.uK:Go.Shelf.Ren:=⟨fun|217=>258|266=>285|n=>n,fun|9=>9|5=>5|3=>3|n=>n,fun|n=>n⟩
theorem Tryz.Dz:Go.Proofs.Lays.n217 Tryz.prog Tryz.uK:=ly
open Go.RowKit Go.Lib in
theorem Tryz.stringslite_IndexByte (s:ByteArray)(c:Int)(w:World):
 Calls Tryz.prog 258 #[.string s,.int .u8 c] w fun e w'=>e= .returned (.int .i64 (Lib.indexByte s.data.toList c.toNat.toUInt8))∧w'=w:=Any.stringslite_IndexByte Tryz.Dz s c w
def Tryz.oh:Go.Shelf.Ren:=⟨fun|105=>202|212=>247|99=>248|165=>249|166=>144|170=>250|169=>148|263=>278|264=>279|206=>262|240=>204|241=>280|276=>251|277=>291|n=>n,fun|9=>9|3=>3|4=>4|20=>20|0=>0|46=>217|109=>359|5=>5|72=>248|76=>254|51=>214|146=>383|53=>142|148=>385|70=>246|37=>54|75=>253|127=>323|164=>363|80=>27|n=>n,fun|n=>n⟩
theorem Tryz.D_:Go.Proofs.Lays.n105 Tryz.prog Tryz.oh:=ly
theorem Tryz.mJ:Builder.Extra Tryz.prog Tryz.oh:=ly
open Go.RowKit Go.Lib in
theorem Tryz.strings_Repeat (s:ByteArray)(c:Nat)(w:World)(hc:c≤9223372036854775807)(hlen:s.size*c≤140737488355328):
 Calls Tryz.prog 202 #[.string s,.int .i64 c] w fun e w'=>e= .returned (.string ⟨(Lib.repeatL s.data.toList c).toArray⟩)∧Below w.heap.size w w':=Any.strings_Repeat Tryz.D_ Tryz.mJ s c w hc hlen
end Go.Proofs
