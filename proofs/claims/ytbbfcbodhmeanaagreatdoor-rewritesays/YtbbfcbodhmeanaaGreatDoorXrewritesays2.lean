import Derived.Shelf.Strings.OnBuilder
import Derived.Shelf.Strings.Trim
import Derived.Shelf.Small.Utf8
import Derived.Shelf.Small.Strs
import Derived.Shelf.Small.Wraps
import Derived.Shelf.Strings.Search2
import Derived.Shelf.Strings.Search3
import Derived.Shelf.Strings.Cut
import Derived.Shelf.Strings.LastIndex
import Derived.Shelf.GgClosure.StringsRunes
import Derived.Shelf.Strings.Prefix
import Derived.Shelf.Strings.Split
import Derived.Shelf.Strings.Replace
import Derived.Shelf.Strings.Runes
import Derived.Shelf.Strings.IndexAny
import Derived.Shelf.Strings.AsciiSet
import Derived.Shelf.Unicode.DecodeAny
import Derived.Shelf.Unicode.CaseLookup
import Derived.Shelf.Unicode.CaseConvert
import Derived.Shelf.Unicode.CaseLaid
import Derived.Shelf.Strings.MapAny
import Derived.Shelf.Strings.CaseAny
import Derived.Shelf.Bytes.SlClone
import Derived.Shelf.Bytes.SlEqualAll
import Derived.Test.YtbbfcbodhmeanaaGreatDoorChecked
import Derived.Test.YtbbfcbodhmeanaaGreatDoorXrewritesays1
set_option maxHeartbeats 8000000
set_option maxRecDepth 1000000
namespace Go.Proofs
open Go.Shelf
theorem jk{a:Type}{o:Option a}{x y:a}(h:o=some x)(e:x=y):o=some y:=h.trans (congrArg some e)
def Tryz.lays159_ren:Go.Shelf.Ren:=⟨λ|159=>202|165=>150|166=>151|167=>182|169=>152|230=>136|204=>210|240=>189|241=>190|197=>162|118=>179|168=>180|270=>181|262=>215|276=>207|277=>208|260=>195|242=>205|313=>217|278=>214|274=>219|275=>220|n=>n,λ|9=>9|4=>4|3=>3|5=>5|72=>169|0=>0|76=>173|75=>172|107=>163|70=>167|20=>20|37=>22|127=>201|21=>21|105=>182|164=>205|162=>218|203=>216|119=>209|46=>190|139=>212|138=>211|51=>198|160=>220|208=>226|206=>224|80=>175|n=>n,λ|13=>3|3=>1|4=>2|n=>n⟩
theorem Tryz.lays159:Go.Proofs.Lays.n159 Tryz.prog Tryz.lays159_ren:={
 mixed:=by kernel_rfl
 f118:=jk Tryz.func179 (by kernel_rfl)
 f159:=jk Tryz.func202 (by kernel_rfl)
 f165:=jk Tryz.func150 (by kernel_rfl)
 f166:=jk Tryz.func151 (by kernel_rfl)
 f167:=jk Tryz.func182 (by kernel_rfl)
 f168:=jk Tryz.func180 (by kernel_rfl)
 f169:=jk Tryz.func152 (by kernel_rfl)
 f197:=jk Tryz.func162 (by kernel_rfl)
 f204:=jk Tryz.func210 (by kernel_rfl)
 f230:=jk Tryz.func136 (by kernel_rfl)
 f240:=jk Tryz.func189 (by kernel_rfl)
 f241:=jk Tryz.func190 (by kernel_rfl)
 f242:=jk Tryz.func205 (by kernel_rfl)
 f260:=jk Tryz.func195 (by kernel_rfl)
 f262:=jk Tryz.func215 (by kernel_rfl)
 f270:=jk Tryz.func181 (by kernel_rfl)
 f274:=jk Tryz.func219 (by kernel_rfl)
 f275:=jk Tryz.func220 (by kernel_rfl)
 f276:=jk Tryz.func207 (by kernel_rfl)
 f277:=jk Tryz.func208 (by kernel_rfl)
 f278:=jk Tryz.func214 (by kernel_rfl)
 f313:=jk Tryz.func217 (by kernel_rfl)
 t0:=Tryz.underlying0
 a0:=Tryz.isAgg0
 z0:=Tryz.sizeOf0
 v0:=Tryz.zeroValue0
 t3:=Tryz.underlying3
 a3:=Tryz.isAgg3
 z3:=Tryz.sizeOf3
 v3:=Tryz.zeroValue3
 t4:=Tryz.underlying4
 a4:=Tryz.isAgg4
 z4:=Tryz.sizeOf4
 v4:=Tryz.zeroValue4
 t5:=Tryz.underlying5
 a5:=Tryz.isAgg5
 z5:=Tryz.sizeOf5
 v5:=Tryz.zeroValue5
 t9:=Tryz.underlying9
 a9:=Tryz.isAgg9
 z9:=Tryz.sizeOf9
 v9:=Tryz.zeroValue9
 t20:=Tryz.underlying20
 a20:=Tryz.isAgg20
 z20:=Tryz.sizeOf20
 v20:=Tryz.zeroValue20
 t21:=Tryz.underlying21
 a21:=Tryz.isAgg21
 z21:=Tryz.sizeOf21
 v21:=Tryz.zeroValue21
 t37:=Tryz.underlying22
 a37:=Tryz.isAgg22
 z37:=Tryz.sizeOf22
 v37:=Tryz.zeroValue22
 t46:=Tryz.underlying190
 a46:=Tryz.isAgg190
 z46:=Tryz.sizeOf190
 v46:=Tryz.zeroValue190
 t51:=Tryz.underlying198
 a51:=Tryz.isAgg198
 z51:=Tryz.sizeOf198
 v51:=Tryz.zeroValue198
 t70:=Tryz.underlying167
 a70:=Tryz.isAgg167
 z70:=Tryz.sizeOf167
 v70:=Tryz.zeroValue167
 t72:=Tryz.underlying169
 a72:=Tryz.isAgg169
 z72:=Tryz.sizeOf169
 v72:=Tryz.zeroValue169
 t75:=Tryz.underlying172
 a75:=Tryz.isAgg172
 z75:=Tryz.sizeOf172
 v75:=Tryz.zeroValue172
 t76:=Tryz.underlying173
 a76:=Tryz.isAgg173
 z76:=Tryz.sizeOf173
 v76:=Tryz.zeroValue173
 t105:=Tryz.underlying182
 a105:=Tryz.isAgg182
 z105:=Tryz.sizeOf182
 v105:=Tryz.zeroValue182
 t107:=Tryz.underlying163
 a107:=Tryz.isAgg163
 z107:=Tryz.sizeOf163
 v107:=Tryz.zeroValue163
 t119:=Tryz.underlying209
 a119:=Tryz.isAgg209
 z119:=Tryz.sizeOf209
 t127:=Tryz.underlying201
 a127:=Tryz.isAgg201
 z127:=Tryz.sizeOf201
 v127:=Tryz.zeroValue201
 t138:=Tryz.underlying211
 a138:=Tryz.isAgg211
 z138:=Tryz.sizeOf211
 v138:=Tryz.zeroValue211
 t139:=Tryz.underlying212
 a139:=Tryz.isAgg212
 z139:=Tryz.sizeOf212
 v139:=Tryz.zeroValue212
 t160:=Tryz.underlying220
 a160:=Tryz.isAgg220
 z160:=Tryz.sizeOf220
 v160:=Tryz.zeroValue220
 t162:=Tryz.underlying218
 a162:=Tryz.isAgg218
 z162:=Tryz.sizeOf218
 v162:=Tryz.zeroValue218
 t164:=Tryz.underlying205
 a164:=Tryz.isAgg205
 z164:=Tryz.sizeOf205
 v164:=Tryz.zeroValue205
 t203:=Tryz.underlying216
 a203:=Tryz.isAgg216
 z203:=Tryz.sizeOf216
 v203:=Tryz.zeroValue216
 t206:=Tryz.underlying224
 a206:=Tryz.isAgg224
 z206:=Tryz.sizeOf224
 v206:=Tryz.zeroValue224
 t208:=Tryz.underlying226
 a208:=Tryz.isAgg226
 z208:=Tryz.sizeOf226
 v208:=Tryz.zeroValue226
 g3:=by kernel_rfl
 g4:=by kernel_rfl
 g13:=by kernel_rfl}
theorem Tryz.Builder_Extra_159:Builder.Extra Tryz.prog Tryz.lays159_ren:={
 sizeBuilder:=by kernel_rfl
 liesBuilder:=by kernel_rfl
 t5:=Tryz.underlying5
 a5:=Tryz.isAgg5
 z5:=Tryz.sizeOf5
 v5:=Tryz.zeroValue5
 infoByte:=by kernel_rfl
 cellsByte:=by kernel_rfl
 sizeByte:=by kernel_rfl
 neB5:=by decide}
open Go.RowKit in
def Tryz.lays156_ren:Go.Shelf.Ren:=⟨λ|156=>107|165=>150|166=>151|169=>152|240=>189|241=>190|276=>207|277=>208|n=>n,λ|31=>26|9=>9|3=>3|4=>4|0=>0|20=>20|72=>169|76=>173|70=>167|37=>22|75=>172|127=>201|164=>205|5=>5|80=>175|n=>n,λ|n=>n⟩
theorem Tryz.lays156:Go.Proofs.Lays.n156 Tryz.prog Tryz.lays156_ren:={
 mixed:=by kernel_rfl
 f156:=jk Tryz.func107 (by kernel_rfl)
 f165:=jk Tryz.func150 (by kernel_rfl)
 f166:=jk Tryz.func151 (by kernel_rfl)
 f169:=jk Tryz.func152 (by kernel_rfl)
 f240:=jk Tryz.func189 (by kernel_rfl)
 f241:=jk Tryz.func190 (by kernel_rfl)
 f276:=jk Tryz.func207 (by kernel_rfl)
 f277:=jk Tryz.func208 (by kernel_rfl)
 t0:=Tryz.underlying0
 a0:=Tryz.isAgg0
 z0:=Tryz.sizeOf0
 v0:=Tryz.zeroValue0
 t3:=Tryz.underlying3
 a3:=Tryz.isAgg3
 z3:=Tryz.sizeOf3
 v3:=Tryz.zeroValue3
 t4:=Tryz.underlying4
 a4:=Tryz.isAgg4
 z4:=Tryz.sizeOf4
 v4:=Tryz.zeroValue4
 t9:=Tryz.underlying9
 a9:=Tryz.isAgg9
 z9:=Tryz.sizeOf9
 v9:=Tryz.zeroValue9
 t20:=Tryz.underlying20
 a20:=Tryz.isAgg20
 z20:=Tryz.sizeOf20
 v20:=Tryz.zeroValue20
 t31:=Tryz.underlying26
 a31:=Tryz.isAgg26
 z31:=Tryz.sizeOf26
 v31:=Tryz.zeroValue26
 t37:=Tryz.underlying22
 a37:=Tryz.isAgg22
 z37:=Tryz.sizeOf22
 v37:=Tryz.zeroValue22
 t70:=Tryz.underlying167
 a70:=Tryz.isAgg167
 z70:=Tryz.sizeOf167
 v70:=Tryz.zeroValue167
 t72:=Tryz.underlying169
 a72:=Tryz.isAgg169
 z72:=Tryz.sizeOf169
 v72:=Tryz.zeroValue169
 t75:=Tryz.underlying172
 a75:=Tryz.isAgg172
 z75:=Tryz.sizeOf172
 v75:=Tryz.zeroValue172
 t76:=Tryz.underlying173
 a76:=Tryz.isAgg173
 z76:=Tryz.sizeOf173
 v76:=Tryz.zeroValue173
 t127:=Tryz.underlying201
 a127:=Tryz.isAgg201
 z127:=Tryz.sizeOf201
 v127:=Tryz.zeroValue201
 t164:=Tryz.underlying205
 a164:=Tryz.isAgg205
 z164:=Tryz.sizeOf205
 v164:=Tryz.zeroValue205}
theorem Tryz.Builder_Extra_156:Builder.Extra Tryz.prog Tryz.lays156_ren:={
 sizeBuilder:=by kernel_rfl
 liesBuilder:=by kernel_rfl
 t5:=Tryz.underlying5
 a5:=Tryz.isAgg5
 z5:=Tryz.sizeOf5
 v5:=Tryz.zeroValue5
 infoByte:=by kernel_rfl
 cellsByte:=by kernel_rfl
 sizeByte:=by kernel_rfl
 neB5:=by decide}
open Go.RowKit in
theorem Tryz.strings_Join_none(a:Option Addr)(c:Nat)(b:ByteArray)(w:World):
  Calls Tryz.prog 107 #[.slice a 0 c,.string b] w λe w'=>e=.returned (.string ⟨#[]⟩)/\w'=w:=Any.strings_Join_none Tryz.lays156 Tryz.Builder_Extra_156 a c b w
open Go.RowKit in
theorem Tryz.strings_Join(i o c:Nat)(d:List ByteArray)(b:ByteArray)(w:World)(a:∀(j:Nat) x,d[j]?=some x->w.cell? ⟨i,o+j,none⟩=some (.string x))(k:i<w.heap.size)(l:d.length<=140737488355328)(f:d.length<=c)(g:(Lib.join (d.map (·.data.toList)) b.data.toList).length<=140737488355328):
  Calls Tryz.prog 107 #[.slice (some ⟨i,o,none⟩) d.length c,.string b] w λe w'=>e=.returned (.string ⟨(Lib.join (d.map (·.data.toList)) b.data.toList).toArray⟩)/\Below w.heap.size w w':=Any.strings_Join Tryz.lays156 Tryz.Builder_Extra_156 i o c d b w a k l f g
open Go.RowKit in
def Tryz.lays119_ren:Go.Shelf.Ren:=⟨λ|119=>206|n=>n,λ|21=>21|4=>4|n=>n,λ|n=>n⟩
theorem Tryz.lays119:Go.Proofs.Lays.n119 Tryz.prog Tryz.lays119_ren:={
 mixed:=by kernel_rfl
 f119:=jk Tryz.func206 (by kernel_rfl)
 t4:=Tryz.underlying4
 a4:=Tryz.isAgg4
 z4:=Tryz.sizeOf4
 v4:=Tryz.zeroValue4
 t21:=Tryz.underlying21
 a21:=Tryz.isAgg21
 z21:=Tryz.sizeOf21
 v21:=Tryz.zeroValue21}
theorem Tryz.utf8_ValidRune(r:Int)(w:World):
  Calls Tryz.prog 206 #[.int .i32 r] w λe w'=>e=.returned (.bool (Lib.validRune r))/\w'=w:=Any.utf8_ValidRune Tryz.lays119 r w
def Tryz.lays137_ren:Go.Shelf.Ren:=⟨λ|137=>93|217=>144|266=>185|n=>n,λ|9=>9|5=>5|3=>3|n=>n,λ|n=>n⟩
theorem Tryz.lays137:Go.Proofs.Lays.n137 Tryz.prog Tryz.lays137_ren:={
 mixed:=by kernel_rfl
 f137:=jk Tryz.func93 (by kernel_rfl)
 f217:=jk Tryz.func144 (by kernel_rfl)
 f266:=jk Tryz.func185 (by kernel_rfl)
 t3:=Tryz.underlying3
 a3:=Tryz.isAgg3
 z3:=Tryz.sizeOf3
 v3:=Tryz.zeroValue3
 t5:=Tryz.underlying5
 a5:=Tryz.isAgg5
 z5:=Tryz.sizeOf5
 v5:=Tryz.zeroValue5
 t9:=Tryz.underlying9
 a9:=Tryz.isAgg9
 z9:=Tryz.sizeOf9
 v9:=Tryz.zeroValue9}
open Go.RowKit in
theorem Tryz.strings_IndexByte(s:ByteArray)(c:Int)(w:World):
  Calls Tryz.prog 93 #[.string s,.int .u8 c] w λe w'=>e=.returned (.int .i64 (Lib.indexByte s.data.toList c.toNat.toUInt8))/\w'=w:=Any.strings_IndexByte Tryz.lays137 s c w
def Tryz.lays103_ren:Go.Shelf.Ren:=⟨λ|103=>81|210=>133|206=>114|n=>n,λ|9=>9|4=>4|24=>127|3=>3|n=>n,λ|n=>n⟩
theorem Tryz.lays103:Go.Proofs.Lays.n103 Tryz.prog Tryz.lays103_ren:={
 mixed:=by kernel_rfl
 f103:=jk Tryz.func81 (by kernel_rfl)
 f206:=jk Tryz.func114 (by kernel_rfl)
 f210:=jk Tryz.func133 (by kernel_rfl)
 t3:=Tryz.underlying3
 a3:=Tryz.isAgg3
 z3:=Tryz.sizeOf3
 v3:=Tryz.zeroValue3
 t4:=Tryz.underlying4
 a4:=Tryz.isAgg4
 z4:=Tryz.sizeOf4
 v4:=Tryz.zeroValue4
 t9:=Tryz.underlying9
 a9:=Tryz.isAgg9
 z9:=Tryz.sizeOf9
 v9:=Tryz.zeroValue9
 t24:=Tryz.underlying127
 a24:=Tryz.isAgg127
 z24:=Tryz.sizeOf127
 v24:=Tryz.zeroValue127}
open Go.RowKit in
theorem Tryz.strings_CutPrefix(s p:ByteArray)(w:World):
  Calls Tryz.prog 81 #[.string s,.string p] w λe w'=>e=.returned (.tuple #[.string ⟨(Lib.trimPrefix s.data.toList p.data.toList).toArray⟩,.bool (Lib.hasPrefix s.data.toList p.data.toList)])/\w'=w:=Any.strings_CutPrefix Tryz.lays103 s p w
def Tryz.lays219_ren:Go.Shelf.Ren:=⟨λ|219=>135|217=>144|225=>176|224=>177|267=>178|266=>185|314=>204|n=>n,λ|9=>9|3=>3|4=>4|5=>5|46=>190|146=>199|51=>198|n=>n,λ|1=>0|n=>n⟩
theorem Tryz.lays219:Go.Proofs.Lays.n219 Tryz.prog Tryz.lays219_ren:={
 mixed:=by kernel_rfl
 f217:=jk Tryz.func144 (by kernel_rfl)
 f219:=jk Tryz.func135 (by kernel_rfl)
 f224:=jk Tryz.func177 (by kernel_rfl)
 f225:=jk Tryz.func176 (by kernel_rfl)
 f266:=jk Tryz.func185 (by kernel_rfl)
 f267:=jk Tryz.func178 (by kernel_rfl)
 f314:=jk Tryz.func204 (by kernel_rfl)
 t3:=Tryz.underlying3
 a3:=Tryz.isAgg3
 z3:=Tryz.sizeOf3
 v3:=Tryz.zeroValue3
 t4:=Tryz.underlying4
 a4:=Tryz.isAgg4
 z4:=Tryz.sizeOf4
 v4:=Tryz.zeroValue4
 t5:=Tryz.underlying5
 a5:=Tryz.isAgg5
 z5:=Tryz.sizeOf5
 v5:=Tryz.zeroValue5
 t9:=Tryz.underlying9
 a9:=Tryz.isAgg9
 z9:=Tryz.sizeOf9
 v9:=Tryz.zeroValue9
 t46:=Tryz.underlying190
 a46:=Tryz.isAgg190
 z46:=Tryz.sizeOf190
 v46:=Tryz.zeroValue190
 t51:=Tryz.underlying198
 a51:=Tryz.isAgg198
 z51:=Tryz.sizeOf198
 v51:=Tryz.zeroValue198
 t146:=Tryz.underlying199
 a146:=Tryz.isAgg199
 z146:=Tryz.sizeOf199
 v146:=Tryz.zeroValue199
 g1:=by kernel_rfl}
open Go.RowKit Go.Lib in
theorem Tryz.stringslite_Index_one(s:ByteArray)(c:UInt8)(w:World):
  Calls Tryz.prog 135 #[.string s,.string ⟨#[c]⟩] w λe w'=>e=.returned (.int .i64 (Lib.indexByte s.data.toList c))/\w'=w:=Any.stringslite_Index_one Tryz.lays219 s c w
def Tryz.lays143_ren:Go.Shelf.Ren:=⟨λ|143=>86|219=>135|217=>144|225=>176|224=>177|267=>178|266=>185|314=>204|n=>n,λ|9=>9|3=>3|4=>4|5=>5|46=>190|146=>199|51=>198|n=>n,λ|1=>0|n=>n⟩
theorem Tryz.lays143:Go.Proofs.Lays.n143 Tryz.prog Tryz.lays143_ren:={
 mixed:=by kernel_rfl
 f143:=jk Tryz.func86 (by kernel_rfl)
 f217:=jk Tryz.func144 (by kernel_rfl)
 f219:=jk Tryz.func135 (by kernel_rfl)
 f224:=jk Tryz.func177 (by kernel_rfl)
 f225:=jk Tryz.func176 (by kernel_rfl)
 f266:=jk Tryz.func185 (by kernel_rfl)
 f267:=jk Tryz.func178 (by kernel_rfl)
 f314:=jk Tryz.func204 (by kernel_rfl)
 t3:=Tryz.underlying3
 a3:=Tryz.isAgg3
 z3:=Tryz.sizeOf3
 v3:=Tryz.zeroValue3
 t4:=Tryz.underlying4
 a4:=Tryz.isAgg4
 z4:=Tryz.sizeOf4
 v4:=Tryz.zeroValue4
 t5:=Tryz.underlying5
 a5:=Tryz.isAgg5
 z5:=Tryz.sizeOf5
 v5:=Tryz.zeroValue5
 t9:=Tryz.underlying9
 a9:=Tryz.isAgg9
 z9:=Tryz.sizeOf9
 v9:=Tryz.zeroValue9
 t46:=Tryz.underlying190
 a46:=Tryz.isAgg190
 z46:=Tryz.sizeOf190
 v46:=Tryz.zeroValue190
 t51:=Tryz.underlying198
 a51:=Tryz.isAgg198
 z51:=Tryz.sizeOf198
 v51:=Tryz.zeroValue198
 t146:=Tryz.underlying199
 a146:=Tryz.isAgg199
 z146:=Tryz.sizeOf199
 v146:=Tryz.zeroValue199
 g1:=by kernel_rfl}
open Go.RowKit Go.Lib in
theorem Tryz.strings_Index_one(s:ByteArray)(c:UInt8)(w:World):
  Calls Tryz.prog 86 #[.string s,.string ⟨#[c]⟩] w λe w'=>e=.returned (.int .i64 (Lib.indexByte s.data.toList c))/\w'=w:=Any.strings_Index_one Tryz.lays143 s c w
open Go.RowKit Go.Lib in
theorem Tryz.strings_Index(s sub:ByteArray)(m:Int)(w:World)(b:s.size<4294967281)(a:w.cell? ⟨0,0,none⟩=some (.int .i64 m)):
  Calls Tryz.prog 86 #[.string s,.string sub] w λe w'=>e=.returned (.int .i64 (Lib.index s.data.toList sub.data.toList))/\w'=w:=Any.strings_Index Tryz.lays143 s sub m w b a
def Tryz.lays144_ren:Go.Shelf.Ren:=⟨λ|144=>111|143=>86|219=>135|217=>144|225=>176|224=>177|267=>178|266=>185|314=>204|n=>n,λ|9=>9|4=>4|3=>3|5=>5|46=>190|146=>199|51=>198|n=>n,λ|1=>0|n=>n⟩
theorem Tryz.lays144:Go.Proofs.Lays.n144 Tryz.prog Tryz.lays144_ren:={
 mixed:=by kernel_rfl
 f143:=jk Tryz.func86 (by kernel_rfl)
 f144:=jk Tryz.func111 (by kernel_rfl)
 f217:=jk Tryz.func144 (by kernel_rfl)
 f219:=jk Tryz.func135 (by kernel_rfl)
 f224:=jk Tryz.func177 (by kernel_rfl)
 f225:=jk Tryz.func176 (by kernel_rfl)
 f266:=jk Tryz.func185 (by kernel_rfl)
 f267:=jk Tryz.func178 (by kernel_rfl)
 f314:=jk Tryz.func204 (by kernel_rfl)
 t3:=Tryz.underlying3
 a3:=Tryz.isAgg3
 z3:=Tryz.sizeOf3
 v3:=Tryz.zeroValue3
 t4:=Tryz.underlying4
 a4:=Tryz.isAgg4
 z4:=Tryz.sizeOf4
 v4:=Tryz.zeroValue4
 t5:=Tryz.underlying5
 a5:=Tryz.isAgg5
 z5:=Tryz.sizeOf5
 v5:=Tryz.zeroValue5
 t9:=Tryz.underlying9
 a9:=Tryz.isAgg9
 z9:=Tryz.sizeOf9
 v9:=Tryz.zeroValue9
 t46:=Tryz.underlying190
 a46:=Tryz.isAgg190
 z46:=Tryz.sizeOf190
 v46:=Tryz.zeroValue190
 t51:=Tryz.underlying198
 a51:=Tryz.isAgg198
 z51:=Tryz.sizeOf198
 v51:=Tryz.zeroValue198
 t146:=Tryz.underlying199
 a146:=Tryz.isAgg199
 z146:=Tryz.sizeOf199
 v146:=Tryz.zeroValue199
 g1:=by kernel_rfl}
open Go.RowKit Go.Lib in
theorem Tryz.strings_Contains_one(s:ByteArray)(c:UInt8)(w:World):
  Calls Tryz.prog 111 #[.string s,.string ⟨#[c]⟩] w λe w'=>e=.returned (.bool (decide (0<=Lib.indexByte s.data.toList c)))/\w'=w:=Any.strings_Contains_one Tryz.lays144 s c w
open Go.RowKit Go.Lib in
open Go.RowKit Go.Lib in
def Tryz.lays149_ren:Go.Shelf.Ren:=⟨λ|149=>147|222=>148|n=>n,λ|9=>9|5=>5|3=>3|4=>4|n=>n,λ|n=>n⟩
theorem Tryz.lays149:Go.Proofs.Lays.n149 Tryz.prog Tryz.lays149_ren:={
 mixed:=by kernel_rfl
 f149:=jk Tryz.func147 (by kernel_rfl)
 f222:=jk Tryz.func148 (by kernel_rfl)
 t3:=Tryz.underlying3
 a3:=Tryz.isAgg3
 z3:=Tryz.sizeOf3
 v3:=Tryz.zeroValue3
 t4:=Tryz.underlying4
 a4:=Tryz.isAgg4
 z4:=Tryz.sizeOf4
 v4:=Tryz.zeroValue4
 t5:=Tryz.underlying5
 a5:=Tryz.isAgg5
 z5:=Tryz.sizeOf5
 v5:=Tryz.zeroValue5
 t9:=Tryz.underlying9
 a9:=Tryz.isAgg9
 z9:=Tryz.sizeOf9
 v9:=Tryz.zeroValue9}
open Go.RowKit Go.Lib in
theorem Tryz.strings_LastIndexByte(s:ByteArray)(c:Int)(a:s.size<4611686018427387904)(w:World):
  Calls Tryz.prog 147 #[.string s,.int .u8 c] w λe w'=>e=.returned (.int .i64 (Lib.lastIndexByte s c))/\w'=w:=Any.strings_LastIndexByte Tryz.lays149 s c a w
def Tryz.lays148_ren:Go.Shelf.Ren:=⟨λ|148=>104|222=>148|223=>149|269=>188|n=>n,λ|9=>9|3=>3|4=>4|5=>5|146=>199|51=>198|46=>190|n=>n,λ|n=>n⟩
theorem Tryz.lays148:Go.Proofs.Lays.n148 Tryz.prog Tryz.lays148_ren:={
 mixed:=by kernel_rfl
 f148:=jk Tryz.func104 (by kernel_rfl)
 f222:=jk Tryz.func148 (by kernel_rfl)
 f223:=jk Tryz.func149 (by kernel_rfl)
 f269:=jk Tryz.func188 (by kernel_rfl)
 t3:=Tryz.underlying3
 a3:=Tryz.isAgg3
 z3:=Tryz.sizeOf3
 v3:=Tryz.zeroValue3
 t4:=Tryz.underlying4
 a4:=Tryz.isAgg4
 z4:=Tryz.sizeOf4
 v4:=Tryz.zeroValue4
 t5:=Tryz.underlying5
 a5:=Tryz.isAgg5
 z5:=Tryz.sizeOf5
 v5:=Tryz.zeroValue5
 t9:=Tryz.underlying9
 a9:=Tryz.isAgg9
 z9:=Tryz.sizeOf9
 v9:=Tryz.zeroValue9
 t46:=Tryz.underlying190
 a46:=Tryz.isAgg190
 z46:=Tryz.sizeOf190
 v46:=Tryz.zeroValue190
 t51:=Tryz.underlying198
 a51:=Tryz.isAgg198
 z51:=Tryz.sizeOf198
 v51:=Tryz.zeroValue198
 t146:=Tryz.underlying199
 a146:=Tryz.isAgg199
 z146:=Tryz.sizeOf199
 v146:=Tryz.zeroValue199}
open Go.RowKit Go.Lib in
theorem Tryz.strings_LastIndex_one(s sub:ByteArray)(a:sub.size=1)(b:s.size<4611686018427387904)(w:World):
  Calls Tryz.prog 104 #[.string s,.string sub] w λe w'=>e=.returned (.int .i64 (Lib.lastIndexByte s ((sub[0]'(by omega)).toNat:Int)))/\w'=w:=Any.strings_LastIndex_one Tryz.lays148 s sub a b w
def Tryz.laysGw17_ren:Go.Shelf.Ren:=⟨λ|17=>118|15=>160|20=>194|n=>n,λ|9=>9|23=>148|4=>4|3=>3|0=>0|21=>21|n=>n,λ|n=>n⟩
theorem Tryz.laysGw17:Go.Proofs.LaysGw.n17 Tryz.prog Tryz.laysGw17_ren:={
 mixed:=by kernel_rfl
 f15:=jk Tryz.func160 (by kernel_rfl)
 f17:=jk Tryz.func118 (by kernel_rfl)
 f20:=jk Tryz.func194 (by kernel_rfl)
 t0:=Tryz.underlying0
 a0:=Tryz.isAgg0
 z0:=Tryz.sizeOf0
 v0:=Tryz.zeroValue0
 i0:=by kernel_rfl
 t3:=Tryz.underlying3
 a3:=Tryz.isAgg3
 z3:=Tryz.sizeOf3
 v3:=Tryz.zeroValue3
 i3:=by kernel_rfl
 t4:=Tryz.underlying4
 a4:=Tryz.isAgg4
 z4:=Tryz.sizeOf4
 v4:=Tryz.zeroValue4
 i4:=by kernel_rfl
 t9:=Tryz.underlying9
 a9:=Tryz.isAgg9
 z9:=Tryz.sizeOf9
 v9:=Tryz.zeroValue9
 i9:=by kernel_rfl
 t21:=Tryz.underlying21
 a21:=Tryz.isAgg21
 z21:=Tryz.sizeOf21
 v21:=Tryz.zeroValue21
 i21:=by kernel_rfl
 t23:=Tryz.underlying148
 a23:=Tryz.isAgg148
 z23:=Tryz.sizeOf148
 v23:=Tryz.zeroValue148
 i23:=by kernel_rfl}
open Go.RowKit Go.Lib in
theorem Tryz.strings_ContainsFunc_runes(g:Nat)(a:Array Value)(b:∀args w,(callFunc g args).run Tryz.prog w=.ok (.enter g args) w)(p:Nat->Bool)(s:ByteArray)(w:World)(c:PredAtRunes Tryz.prog g a p w):
  Calls Tryz.prog 118 #[.string s,.func (.func g) #[] a] w λe w'=>e=.returned (.bool (decide (0<=Lib.idxFunc p true s)))/\Below w.heap.size w w':=Any.strings_ContainsFunc_runes Tryz.laysGw17 g a b p s w c
open Go.RowKit Go.Lib in
def Tryz.lays99_ren:Go.Shelf.Ren:=⟨λ|99=>59|206=>114|n=>n,λ|9=>9|4=>4|3=>3|n=>n,λ|n=>n⟩
theorem Tryz.lays99:Go.Proofs.Lays.n99 Tryz.prog Tryz.lays99_ren:={
 mixed:=by kernel_rfl
 f99:=jk Tryz.func59 (by kernel_rfl)
 f206:=jk Tryz.func114 (by kernel_rfl)
 t3:=Tryz.underlying3
 a3:=Tryz.isAgg3
 z3:=Tryz.sizeOf3
 v3:=Tryz.zeroValue3
 t4:=Tryz.underlying4
 a4:=Tryz.isAgg4
 z4:=Tryz.sizeOf4
 v4:=Tryz.zeroValue4
 t9:=Tryz.underlying9
 a9:=Tryz.isAgg9
 z9:=Tryz.sizeOf9
 v9:=Tryz.zeroValue9}
open Go.RowKit Go.Lib in
theorem Tryz.strings_HasPrefix(s p:ByteArray)(w:World):
  Calls Tryz.prog 59 #[.string s,.string p] w λe w'=>e=.returned (.bool (Lib.hasPrefix s.data.toList p.data.toList))/\w'=w:=Any.strings_HasPrefix Tryz.lays99 s p w
open Go.RowKit Go.Lib in
def Tryz.lays146_ren:Go.Shelf.Ren:=⟨λ|146=>57|221=>108|268=>153|138=>154|143=>86|195=>191|197=>162|218=>192|219=>135|260=>195|217=>144|225=>176|224=>177|267=>178|266=>185|314=>204|n=>n,λ|9=>9|31=>26|3=>3|4=>4|0=>0|105=>182|21=>21|5=>5|46=>190|119=>209|139=>212|138=>211|146=>199|51=>198|n=>n,λ|1=>0|3=>1|4=>2|n=>n⟩
theorem Tryz.lays146:Go.Proofs.Lays.n146 Tryz.prog Tryz.lays146_ren:={
 mixed:=by kernel_rfl
 f138:=jk Tryz.func154 (by kernel_rfl)
 f143:=jk Tryz.func86 (by kernel_rfl)
 f146:=jk Tryz.func57 (by kernel_rfl)
 f195:=jk Tryz.func191 (by kernel_rfl)
 f197:=jk Tryz.func162 (by kernel_rfl)
 f217:=jk Tryz.func144 (by kernel_rfl)
 f218:=jk Tryz.func192 (by kernel_rfl)
 f219:=jk Tryz.func135 (by kernel_rfl)
 f221:=jk Tryz.func108 (by kernel_rfl)
 f224:=jk Tryz.func177 (by kernel_rfl)
 f225:=jk Tryz.func176 (by kernel_rfl)
 f260:=jk Tryz.func195 (by kernel_rfl)
 f266:=jk Tryz.func185 (by kernel_rfl)
 f267:=jk Tryz.func178 (by kernel_rfl)
 f268:=jk Tryz.func153 (by kernel_rfl)
 f314:=jk Tryz.func204 (by kernel_rfl)
 t0:=Tryz.underlying0
 a0:=Tryz.isAgg0
 z0:=Tryz.sizeOf0
 v0:=Tryz.zeroValue0
 t3:=Tryz.underlying3
 a3:=Tryz.isAgg3
 z3:=Tryz.sizeOf3
 v3:=Tryz.zeroValue3
 t4:=Tryz.underlying4
 a4:=Tryz.isAgg4
 z4:=Tryz.sizeOf4
 v4:=Tryz.zeroValue4
 t5:=Tryz.underlying5
 a5:=Tryz.isAgg5
 z5:=Tryz.sizeOf5
 v5:=Tryz.zeroValue5
 t9:=Tryz.underlying9
 a9:=Tryz.isAgg9
 z9:=Tryz.sizeOf9
 v9:=Tryz.zeroValue9
 t21:=Tryz.underlying21
 a21:=Tryz.isAgg21
 z21:=Tryz.sizeOf21
 v21:=Tryz.zeroValue21
 t31:=Tryz.underlying26
 a31:=Tryz.isAgg26
 z31:=Tryz.sizeOf26
 v31:=Tryz.zeroValue26
 t46:=Tryz.underlying190
 a46:=Tryz.isAgg190
 z46:=Tryz.sizeOf190
 v46:=Tryz.zeroValue190
 t51:=Tryz.underlying198
 a51:=Tryz.isAgg198
 z51:=Tryz.sizeOf198
 v51:=Tryz.zeroValue198
 t105:=Tryz.underlying182
 a105:=Tryz.isAgg182
 z105:=Tryz.sizeOf182
 v105:=Tryz.zeroValue182
 t119:=Tryz.underlying209
 a119:=Tryz.isAgg209
 z119:=Tryz.sizeOf209
 t138:=Tryz.underlying211
 a138:=Tryz.isAgg211
 z138:=Tryz.sizeOf211
 v138:=Tryz.zeroValue211
 t139:=Tryz.underlying212
 a139:=Tryz.isAgg212
 z139:=Tryz.sizeOf212
 v139:=Tryz.zeroValue212
 t146:=Tryz.underlying199
 a146:=Tryz.isAgg199
 z146:=Tryz.sizeOf199
 v146:=Tryz.zeroValue199
 g1:=by kernel_rfl
 g3:=by kernel_rfl
 g4:=by kernel_rfl}
open Go.RowKit Go.Lib in
theorem Tryz.strings_Split(s a:ByteArray)(m:Int)(w:World)(d:s.size<4294967281)(c:w.cell? ⟨0,0,none⟩=some (.int .i64 m))(b:1<=a.size):
  Calls Tryz.prog 57 #[.string s,.string a] w λe w'=>
   e=.returned (.slice (some ⟨w.heap.size,0,none⟩) (Lib.countB s a+1) (Lib.countB s a+1))/\w'=w.alloc (.cells ((Lib.splitB a 0 (Lib.countB s a) s).map Value.string).toArray 9):=Any.strings_Split Tryz.lays146 (by kernel_rfl) s a m w d c b
def Tryz.lays155_ren:Go.Shelf.Ren:=⟨λ|155=>216|154=>218|138=>154|165=>150|143=>86|166=>151|197=>162|169=>152|195=>191|218=>192|240=>189|241=>190|219=>135|260=>195|276=>207|277=>208|217=>144|225=>176|224=>177|267=>178|266=>185|314=>204|n=>n,λ|9=>9|3=>3|4=>4|72=>169|0=>0|76=>173|105=>182|21=>21|5=>5|70=>167|20=>20|37=>22|75=>172|127=>201|164=>205|46=>190|119=>209|139=>212|138=>211|146=>199|51=>198|80=>175|n=>n,λ|1=>0|3=>1|4=>2|n=>n⟩
theorem Tryz.lays155:Go.Proofs.Lays.n155 Tryz.prog Tryz.lays155_ren:={
 mixed:=by kernel_rfl
 f138:=jk Tryz.func154 (by kernel_rfl)
 f143:=jk Tryz.func86 (by kernel_rfl)
 f154:=jk Tryz.func218 (by kernel_rfl)
 f155:=jk Tryz.func216 (by kernel_rfl)
 f165:=jk Tryz.func150 (by kernel_rfl)
 f166:=jk Tryz.func151 (by kernel_rfl)
 f169:=jk Tryz.func152 (by kernel_rfl)
 f195:=jk Tryz.func191 (by kernel_rfl)
 f197:=jk Tryz.func162 (by kernel_rfl)
 f217:=jk Tryz.func144 (by kernel_rfl)
 f218:=jk Tryz.func192 (by kernel_rfl)
 f219:=jk Tryz.func135 (by kernel_rfl)
 f224:=jk Tryz.func177 (by kernel_rfl)
 f225:=jk Tryz.func176 (by kernel_rfl)
 f240:=jk Tryz.func189 (by kernel_rfl)
 f241:=jk Tryz.func190 (by kernel_rfl)
 f260:=jk Tryz.func195 (by kernel_rfl)
 f266:=jk Tryz.func185 (by kernel_rfl)
 f267:=jk Tryz.func178 (by kernel_rfl)
 f276:=jk Tryz.func207 (by kernel_rfl)
 f277:=jk Tryz.func208 (by kernel_rfl)
 f314:=jk Tryz.func204 (by kernel_rfl)
 t0:=Tryz.underlying0
 a0:=Tryz.isAgg0
 z0:=Tryz.sizeOf0
 v0:=Tryz.zeroValue0
 t3:=Tryz.underlying3
 a3:=Tryz.isAgg3
 z3:=Tryz.sizeOf3
 v3:=Tryz.zeroValue3
 t4:=Tryz.underlying4
 a4:=Tryz.isAgg4
 z4:=Tryz.sizeOf4
 v4:=Tryz.zeroValue4
 t5:=Tryz.underlying5
 a5:=Tryz.isAgg5
 z5:=Tryz.sizeOf5
 v5:=Tryz.zeroValue5
 t9:=Tryz.underlying9
 a9:=Tryz.isAgg9
 z9:=Tryz.sizeOf9
 v9:=Tryz.zeroValue9
 t20:=Tryz.underlying20
 a20:=Tryz.isAgg20
 z20:=Tryz.sizeOf20
 v20:=Tryz.zeroValue20
 t21:=Tryz.underlying21
 a21:=Tryz.isAgg21
 z21:=Tryz.sizeOf21
 v21:=Tryz.zeroValue21
 t37:=Tryz.underlying22
 a37:=Tryz.isAgg22
 z37:=Tryz.sizeOf22
 v37:=Tryz.zeroValue22
 t46:=Tryz.underlying190
 a46:=Tryz.isAgg190
 z46:=Tryz.sizeOf190
 v46:=Tryz.zeroValue190
 t51:=Tryz.underlying198
 a51:=Tryz.isAgg198
 z51:=Tryz.sizeOf198
 v51:=Tryz.zeroValue198
 t70:=Tryz.underlying167
 a70:=Tryz.isAgg167
 z70:=Tryz.sizeOf167
 v70:=Tryz.zeroValue167
 t72:=Tryz.underlying169
 a72:=Tryz.isAgg169
 z72:=Tryz.sizeOf169
 v72:=Tryz.zeroValue169
 t75:=Tryz.underlying172
 a75:=Tryz.isAgg172
 z75:=Tryz.sizeOf172
 v75:=Tryz.zeroValue172
 t76:=Tryz.underlying173
 a76:=Tryz.isAgg173
 z76:=Tryz.sizeOf173
 v76:=Tryz.zeroValue173
 t105:=Tryz.underlying182
 a105:=Tryz.isAgg182
 z105:=Tryz.sizeOf182
 v105:=Tryz.zeroValue182
 t119:=Tryz.underlying209
 a119:=Tryz.isAgg209
 z119:=Tryz.sizeOf209
 t127:=Tryz.underlying201
 a127:=Tryz.isAgg201
 z127:=Tryz.sizeOf201
 v127:=Tryz.zeroValue201
 t138:=Tryz.underlying211
 a138:=Tryz.isAgg211
 z138:=Tryz.sizeOf211
 v138:=Tryz.zeroValue211
 t139:=Tryz.underlying212
 a139:=Tryz.isAgg212
 z139:=Tryz.sizeOf212
 v139:=Tryz.zeroValue212
 t146:=Tryz.underlying199
 a146:=Tryz.isAgg199
 z146:=Tryz.sizeOf199
 v146:=Tryz.zeroValue199
 t164:=Tryz.underlying205
 a164:=Tryz.isAgg205
 z164:=Tryz.sizeOf205
 v164:=Tryz.zeroValue205
 g1:=by kernel_rfl
 g3:=by kernel_rfl
 g4:=by kernel_rfl}
theorem Tryz.Builder_Extra_155:Builder.Extra Tryz.prog Tryz.lays155_ren:={
 sizeBuilder:=by kernel_rfl
 liesBuilder:=by kernel_rfl
 t5:=Tryz.underlying5
 a5:=Tryz.isAgg5
 z5:=Tryz.sizeOf5
 v5:=Tryz.zeroValue5
 infoByte:=by kernel_rfl
 cellsByte:=by kernel_rfl
 sizeByte:=by kernel_rfl
 neB5:=by decide}
open Go.RowKit Go.Lib in
theorem Tryz.strings_ReplaceAll(s a b:ByteArray)(m:Int)(w:World)(g:s.size<4294967281)(f:w.cell? ⟨0,0,none⟩=some (.int .i64 m))(d:1<=a.size)(c:s.size+Lib.countB s a*b.size<=140737488355328):
  Calls Tryz.prog 216 #[.string s,.string a,.string b] w λe w'=>
   e=.returned (.string ⟨(Lib.replaceAll s.data.toList a.data.toList b.data.toList).toArray⟩)/\Below w.heap.size w w':=Any.strings_ReplaceAll Tryz.lays155 Tryz.Builder_Extra_155 s a b m w g f d c
def Tryz.lays152_ren:Go.Shelf.Ren:=⟨λ|152=>183|137=>93|119=>206|224=>177|225=>176|217=>144|266=>185|n=>n,λ|9=>9|21=>21|3=>3|4=>4|5=>5|0=>0|46=>190|n=>n,λ|n=>n⟩
theorem Tryz.lays152:Go.Proofs.Lays.n152 Tryz.prog Tryz.lays152_ren:={
 mixed:=by kernel_rfl
 f119:=jk Tryz.func206 (by kernel_rfl)
 f137:=jk Tryz.func93 (by kernel_rfl)
 f152:=jk Tryz.func183 (by kernel_rfl)
 f217:=jk Tryz.func144 (by kernel_rfl)
 f224:=jk Tryz.func177 (by kernel_rfl)
 f225:=jk Tryz.func176 (by kernel_rfl)
 f266:=jk Tryz.func185 (by kernel_rfl)
 t0:=Tryz.underlying0
 a0:=Tryz.isAgg0
 z0:=Tryz.sizeOf0
 v0:=Tryz.zeroValue0
 t3:=Tryz.underlying3
 a3:=Tryz.isAgg3
 z3:=Tryz.sizeOf3
 v3:=Tryz.zeroValue3
 t4:=Tryz.underlying4
 a4:=Tryz.isAgg4
 z4:=Tryz.sizeOf4
 v4:=Tryz.zeroValue4
 t5:=Tryz.underlying5
 a5:=Tryz.isAgg5
 z5:=Tryz.sizeOf5
 v5:=Tryz.zeroValue5
 t9:=Tryz.underlying9
 a9:=Tryz.isAgg9
 z9:=Tryz.sizeOf9
 v9:=Tryz.zeroValue9
 t21:=Tryz.underlying21
 a21:=Tryz.isAgg21
 z21:=Tryz.sizeOf21
 v21:=Tryz.zeroValue21
 t46:=Tryz.underlying190
 a46:=Tryz.isAgg190
 z46:=Tryz.sizeOf190
 v46:=Tryz.zeroValue190}
open Go.RowKit Go.Lib in
theorem Tryz.strings_IndexRune_ascii(s:ByteArray)(r:Int)(w:World)(a:0<=r)(b:r<128):
  Calls Tryz.prog 183 #[.string s,.int .i32 r] w λe w'=>e=.returned (.int .i64 (Lib.indexByte s.data.toList r.toNat.toUInt8))/\w'=w:=Any.strings_IndexRune_ascii Tryz.lays152 s r w a b
def Tryz.lays226_ren:Go.Shelf.Ren:=⟨λ|226=>184|n=>n,λ|3=>3|4=>4|n=>n,λ|n=>n⟩
theorem Tryz.lays226:Go.Proofs.Lays.n226 Tryz.prog Tryz.lays226_ren:={
 mixed:=by kernel_rfl
 f226:=jk Tryz.func184 (by kernel_rfl)
 t3:=Tryz.underlying3
 a3:=Tryz.isAgg3
 z3:=Tryz.sizeOf3
 v3:=Tryz.zeroValue3
 t4:=Tryz.underlying4
 a4:=Tryz.isAgg4
 z4:=Tryz.sizeOf4
 v4:=Tryz.zeroValue4}
open Go.RowKit Go.Lib in
theorem Tryz.strings_shouldUseASCIISet(n:Int)(w:World):
  Calls Tryz.prog 184 #[.int .i64 n] w λe w'=>e=.returned (.bool (decide (8<n)))/\w'=w:=Any.strings_shouldUseASCIISet Tryz.lays226 n w
def Tryz.lays227_ren:Go.Shelf.Ren:=⟨λ|227=>122|n=>n,λ|9=>9|116=>152|4=>4|0=>0|3=>3|5=>5|n=>n,λ|n=>n⟩
theorem Tryz.lays227:Go.Proofs.Lays.n227 Tryz.prog Tryz.lays227_ren:={
 mixed:=by kernel_rfl
 f227:=jk Tryz.func122 (by kernel_rfl)
 t0:=Tryz.underlying0
 a0:=Tryz.isAgg0
 z0:=Tryz.sizeOf0
 v0:=Tryz.zeroValue0
 t3:=Tryz.underlying3
 a3:=Tryz.isAgg3
 z3:=Tryz.sizeOf3
 v3:=Tryz.zeroValue3
 t4:=Tryz.underlying4
 a4:=Tryz.isAgg4
 z4:=Tryz.sizeOf4
 v4:=Tryz.zeroValue4
 t5:=Tryz.underlying5
 a5:=Tryz.isAgg5
 z5:=Tryz.sizeOf5
 v5:=Tryz.zeroValue5
 t9:=Tryz.underlying9
 a9:=Tryz.isAgg9
 z9:=Tryz.sizeOf9
 v9:=Tryz.zeroValue9
 t116:=Tryz.underlying152
 a116:=Tryz.isAgg152
 z116:=Tryz.sizeOf152}
open Go.RowKit Go.Lib in
theorem Tryz.strings_makeASCIISet(d:∀w,(zeroValue 152).run Tryz.prog w=.ok (.agg (Array.replicate 256 (.bool false))) w)(a:ByteArray)(w:World)(f:a.size<4294967281)(c:∀(j:Nat) b,a.data.toList[j]?=some b->b.toNat<128):
  Calls Tryz.prog 122 #[.string a] w λe w'=>e=.returned (.tuple #[.agg (Lib.setCells a.data.toList),.bool true])/\w'=w.alloc (.cells (Lib.setCells a.data.toList) 152):=Any.strings_makeASCIISet Tryz.lays227 d (by kernel_rfl) a w f c
open Go.RowKit Go.Lib in
open Go.RowKit Go.Lib in
open Go.RowKit Go.Lib in
open Go.RowKit Go.Lib in
def Tryz.lays230_ren:Go.Shelf.Ren:=⟨λ|230=>136|197=>162|118=>179|165=>150|166=>151|168=>180|270=>181|167=>182|169=>152|260=>195|240=>189|241=>190|242=>205|276=>207|277=>208|278=>214|n=>n,λ|107=>163|9=>9|72=>169|0=>0|4=>4|3=>3|21=>21|105=>182|76=>173|5=>5|75=>172|70=>167|20=>20|37=>22|127=>201|119=>209|46=>190|139=>212|138=>211|164=>205|51=>198|80=>175|n=>n,λ|3=>1|4=>2|n=>n⟩
theorem Tryz.lays230:Go.Proofs.Lays.n230 Tryz.prog Tryz.lays230_ren:={
 mixed:=by kernel_rfl
 f118:=jk Tryz.func179 (by kernel_rfl)
 f165:=jk Tryz.func150 (by kernel_rfl)
 f166:=jk Tryz.func151 (by kernel_rfl)
 f167:=jk Tryz.func182 (by kernel_rfl)
 f168:=jk Tryz.func180 (by kernel_rfl)
 f169:=jk Tryz.func152 (by kernel_rfl)
 f197:=jk Tryz.func162 (by kernel_rfl)
 f230:=jk Tryz.func136 (by kernel_rfl)
 f240:=jk Tryz.func189 (by kernel_rfl)
 f241:=jk Tryz.func190 (by kernel_rfl)
 f242:=jk Tryz.func205 (by kernel_rfl)
 f260:=jk Tryz.func195 (by kernel_rfl)
 f270:=jk Tryz.func181 (by kernel_rfl)
 f276:=jk Tryz.func207 (by kernel_rfl)
 f277:=jk Tryz.func208 (by kernel_rfl)
 f278:=jk Tryz.func214 (by kernel_rfl)
 t0:=Tryz.underlying0
 a0:=Tryz.isAgg0
 z0:=Tryz.sizeOf0
 v0:=Tryz.zeroValue0
 t3:=Tryz.underlying3
 a3:=Tryz.isAgg3
 z3:=Tryz.sizeOf3
 v3:=Tryz.zeroValue3
 t4:=Tryz.underlying4
 a4:=Tryz.isAgg4
 z4:=Tryz.sizeOf4
 v4:=Tryz.zeroValue4
 t5:=Tryz.underlying5
 a5:=Tryz.isAgg5
 z5:=Tryz.sizeOf5
 v5:=Tryz.zeroValue5
 t9:=Tryz.underlying9
 a9:=Tryz.isAgg9
 z9:=Tryz.sizeOf9
 v9:=Tryz.zeroValue9
 t20:=Tryz.underlying20
 a20:=Tryz.isAgg20
 z20:=Tryz.sizeOf20
 v20:=Tryz.zeroValue20
 t21:=Tryz.underlying21
 a21:=Tryz.isAgg21
 z21:=Tryz.sizeOf21
 v21:=Tryz.zeroValue21
 t37:=Tryz.underlying22
 a37:=Tryz.isAgg22
 z37:=Tryz.sizeOf22
 v37:=Tryz.zeroValue22
 t46:=Tryz.underlying190
 a46:=Tryz.isAgg190
 z46:=Tryz.sizeOf190
 v46:=Tryz.zeroValue190
 t51:=Tryz.underlying198
 a51:=Tryz.isAgg198
 z51:=Tryz.sizeOf198
 v51:=Tryz.zeroValue198
 t70:=Tryz.underlying167
 a70:=Tryz.isAgg167
 z70:=Tryz.sizeOf167
 v70:=Tryz.zeroValue167
 t72:=Tryz.underlying169
 a72:=Tryz.isAgg169
 z72:=Tryz.sizeOf169
 v72:=Tryz.zeroValue169
 t75:=Tryz.underlying172
 a75:=Tryz.isAgg172
 z75:=Tryz.sizeOf172
 v75:=Tryz.zeroValue172
 t76:=Tryz.underlying173
 a76:=Tryz.isAgg173
 z76:=Tryz.sizeOf173
 v76:=Tryz.zeroValue173
 t105:=Tryz.underlying182
 a105:=Tryz.isAgg182
 z105:=Tryz.sizeOf182
 v105:=Tryz.zeroValue182
 t107:=Tryz.underlying163
 a107:=Tryz.isAgg163
 z107:=Tryz.sizeOf163
 v107:=Tryz.zeroValue163
 t119:=Tryz.underlying209
 a119:=Tryz.isAgg209
 z119:=Tryz.sizeOf209
 t127:=Tryz.underlying201
 a127:=Tryz.isAgg201
 z127:=Tryz.sizeOf201
 v127:=Tryz.zeroValue201
 t138:=Tryz.underlying211
 a138:=Tryz.isAgg211
 z138:=Tryz.sizeOf211
 v138:=Tryz.zeroValue211
 t139:=Tryz.underlying212
 a139:=Tryz.isAgg212
 z139:=Tryz.sizeOf212
 v139:=Tryz.zeroValue212
 t164:=Tryz.underlying205
 a164:=Tryz.isAgg205
 z164:=Tryz.sizeOf205
 v164:=Tryz.zeroValue205
 g3:=by kernel_rfl
 g4:=by kernel_rfl}
theorem Tryz.Builder_Extra_230:Builder.Extra Tryz.prog Tryz.lays230_ren:={
 sizeBuilder:=by kernel_rfl
 liesBuilder:=by kernel_rfl
 t5:=Tryz.underlying5
 a5:=Tryz.isAgg5
 z5:=Tryz.sizeOf5
 v5:=Tryz.zeroValue5
 infoByte:=by kernel_rfl
 cellsByte:=by kernel_rfl
 sizeByte:=by kernel_rfl
 neB5:=by decide}
open Go.RowKit Go.Lib in
theorem Tryz.strings_Map_runes(g:Nat)(b:Array Value)(c:∀args w,(callFunc g args).run Tryz.prog w=.ok (.enter g args) w)(f:Int->Int)(s:ByteArray)(w:World)(j:s.size<35184372088832)(i:MapAtRunes Tryz.prog g b f w)(a:∀x:Nat,x<=1114111->0<=f x/\f x<=2147483647)(d:Lib.Utf8Tabs 1 2 w):
  Calls Tryz.prog 136 #[.func (.func g) #[] b,.string s] w λe w'=>e=.returned (.string ⟨(Lib.mapD f s.data.toList).toArray⟩)/\Below w.heap.size w w':=Any.strings_Map_runes Tryz.lays230 Tryz.Builder_Extra_230 g b c f s w j i a d
open Go.RowKit Go.Lib in
theorem Tryz.strings_ToLower_any(s:ByteArray)(w:World)(c:s.size<35184372088832)(b:CaseVar 3 caseA w)(a:Lib.Utf8Tabs 1 2 w):
  Calls Tryz.prog 202 #[.string s] w λe w'=>e=.returned (.string ⟨(Lib.toLowerD s.data.toList).toArray⟩)/\Below w.heap.size w w':=Any.strings_ToLower_any Tryz.lays159 Tryz.Builder_Extra_159 s w c b a
open Go.RowKit Go.Lib in
open Go.RowKit Go.Lib in
def Tryz.laysSlK4_ren:Go.Shelf.Ren:=⟨λ|4=>74|n=>n,λ|22=>22|4=>4|5=>5|n=>n,λ|n=>n⟩
theorem Tryz.laysSlK4:Go.Proofs.SlLaysK.n4 Tryz.prog Tryz.laysSlK4_ren:={
 mixed:=by kernel_rfl
 f4:=jk Tryz.func74 (by kernel_rfl)
 t4:=Tryz.underlying4
 a4:=Tryz.isAgg4
 z4:=Tryz.sizeOf4
 v4:=Tryz.zeroValue4
 t22:=Tryz.underlying22
 a22:=Tryz.isAgg22
 z22:=Tryz.sizeOf22
 v22:=Tryz.zeroValue22
 t5:=Tryz.underlying5
 i5:=by kernel_rfl}
open Go.RowKit Go.Lib in
theorem Tryz.bytes_Clone_at(a:Addr)(n c:Nat)(d:List Int)(w:World)(j:d.length=n)(b:n<=140737488355328)(g:∀i,i<n->w.cell? (a.add i)=some (.int .u8 (d.getD i 0))):
  Calls Tryz.prog 74 #[.slice (some a) n c] w λe w'=>∃f,e=.returned f/\w'.ownsRow w.heap.size 5 1 f n (d.map (Value.int .u8))/\f≠ .slice none 0 0/\Below w.heap.size w w':=Any.bytes_Clone_at Tryz.laysSlK4 a n c d w j b g
open Go.RowKit Go.Lib in
theorem Tryz.bytes_Clone_nil(n c:Nat)(w:World):
  Calls Tryz.prog 74 #[.slice none n c] w λe w'=>e=.returned (.slice none 0 0)/\w'=w:=Any.bytes_Clone_nil Tryz.laysSlK4 n c w
end Go.Proofs
namespace Go.Proofs.YtbbfcbodhmeanaaGreatDoor
open Go.Proofs.Tryz
open Go.RowKit
theorem aFs(s:jA)(k:Nat)(h:k<s.size):s.data.toList.drop k=s[k]::s.data.toList.drop (k+1):=by
 rw[jE (by simpa using h)];rfl
theorem aI5(s:jA)(l:jB)(b:s.data.toList=l)(c:UInt8)(a:Int)(e:a=(c.toNat:Int))(w:World):
  Calls prog 93 #[.string s,.int .u8 a] w λe w'=>∃i:Int,e=.returned (.int .i64 i)/\decide (0<=i)=l.contains c/\w'=w:=by
 subst e b
 refine(strings_IndexByte s (c.toNat:Int) w).mono ?_
 rintro e w' ⟨rfl,rfl⟩
 refine⟨_,rfl,?_,rfl⟩
 rw[aIy]
 simp
end Go.Proofs.YtbbfcbodhmeanaaGreatDoor
