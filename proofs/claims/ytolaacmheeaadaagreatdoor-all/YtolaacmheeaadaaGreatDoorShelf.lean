/-
  The contracts of the library functions that the program calls.
-/
import Derived.Shelf.Strings.Builder1
import Derived.Shelf.Strings.Builder2
import Derived.Shelf.Strings.OnBuilder
import Derived.Shelf.Strings.BuilderF
import Derived.Shelf.Strings.BuilderK
import Derived.Shelf.Utf8.RuneCount
import Derived.Shelf.Strings.Builder2Cap
import Derived.Shelf.Strconv.Atoi
import Derived.Shelf.Strconv.Itoa0
import Derived.Shelf.Strconv.Itoa1
import Derived.Shelf.LaysM
import Derived.Shelf.Strconv.Itoa2
import Derived.Shelf.Strconv.Itoa3
import Derived.Shelf.Strconv.Clone
import Derived.Shelf.Strings.Search1
import Derived.Shelf.Strings.Search2
import Derived.Shelf.Strings.Search3
import Derived.Shelf.Strings.Cut
import Derived.Shelf.Strings.Count
import Derived.Shelf.Strings.Shaped
import Derived.Shelf.Strings.Split
import Derived.Shelf.Strings.SplitShaped
import Derived.Shelf.Unicode.Decode
import Derived.Shelf.Strings.RuneCount
import Derived.Shelf.Strings.Explode
import Derived.Shelf.Unicode.DecodeSlow
import Derived.Shelf.Unicode.DecodeAny
import Derived.Shelf.Strings.FieldsFuncAny
import Derived.Shelf.Strings.FieldsFuncGrows
import Derived.Shelf.Strings.BuilderCap
import Derived.Ground.Names2Prog
import Derived.Shelf.Slices.SearchI
import Derived.Test.YtolaacmheeaadaaGreatDoorProg
namespace Go.Proofs
open Go.Shelf
theorem Tryz.fk{α:Type}{o:Option α}{a b:α}(h:o=some a)(e:a=b:=by kernel_rfl):o=some b:=h.trans (congrArg some e)
open Tryz
def Tryz.lays156_ren:Go.Shelf.Ren:=⟨fun|156=>61|165=>96|166=>97|169=>98|240=>144|241=>145|276=>182|277=>183|n=>n,fun|31=>78|9=>9|3=>3|4=>4|0=>0|20=>20|72=>180|76=>136|70=>177|37=>178|75=>135|127=>223|164=>269|5=>5|80=>141|n=>n,fun|n=>n⟩
theorem Tryz.lays156:Go.Proofs.Lays.n156 Tryz.prog Tryz.lays156_ren:={
 mixed:=by kernel_rfl
 f156:=fk func61
 f165:=fk func96
 f166:=fk func97
 f169:=fk func98
 f240:=fk func144
 f241:=fk func145
 f276:=fk func182
 f277:=fk func183
 t0:=underlying0
 a0:=isAgg0
 z0:=sizeOf0
 v0:=zeroValue0
 t3:=underlying3
 a3:=isAgg3
 z3:=sizeOf3
 v3:=zeroValue3
 t4:=underlying4
 a4:=isAgg4
 z4:=sizeOf4
 v4:=zeroValue4
 t9:=underlying9
 a9:=isAgg9
 z9:=sizeOf9
 v9:=zeroValue9
 t20:=underlying20
 a20:=isAgg20
 z20:=sizeOf20
 v20:=zeroValue20
 t31:=underlying78
 a31:=isAgg78
 z31:=sizeOf78
 v31:=zeroValue78
 t37:=underlying178
 a37:=isAgg178
 z37:=sizeOf178
 v37:=zeroValue178
 t70:=underlying177
 a70:=isAgg177
 z70:=sizeOf177
 v70:=zeroValue177
 t72:=underlying180
 a72:=isAgg180
 z72:=sizeOf180
 v72:=zeroValue180
 t75:=underlying135
 a75:=isAgg135
 z75:=sizeOf135
 v75:=zeroValue135
 t76:=underlying136
 a76:=isAgg136
 z76:=sizeOf136
 v76:=zeroValue136
 t127:=underlying223
 a127:=isAgg223
 z127:=sizeOf223
 v127:=zeroValue223
 t164:=underlying269
 a164:=isAgg269
 z164:=sizeOf269
 v164:=zeroValue269 }
theorem Tryz.Builder_Extra_156:Builder.Extra Tryz.prog Tryz.lays156_ren:={
 sizeBuilder:=by kernel_rfl
 liesBuilder:=by kernel_rfl
 t5:=underlying5
 a5:=isAgg5
 z5:=sizeOf5
 v5:=zeroValue5
 infoByte:=by kernel_rfl
 cellsByte:=by kernel_rfl
 sizeByte:=by kernel_rfl
 neB5:=by decide }
open Go.RowKit in
theorem Tryz.strings_Join(bk o c:Nat)(xs:List ByteArray)(sep:ByteArray)(w:World)(hcells:∀ (j:Nat) x,xs[j]?=some x->w.cell? ⟨bk,o+j,none⟩=some (.string x))(hbk:bk<w.heap.size)(hN:xs.length<=140737488355328)(hcap:xs.length<=c)(hlen:(Lib.join (xs.map (·.data.toList)) sep.data.toList).length<=140737488355328):
  Calls Tryz.prog 61 #[.slice (some ⟨bk,o,none⟩) xs.length c,.string sep] w fun e w'=>e=.returned (.string ⟨(Lib.join (xs.map (·.data.toList)) sep.data.toList).toArray⟩)/\Below w.heap.size w w':=Any.strings_Join Tryz.lays156 Tryz.Builder_Extra_156 bk o c xs sep w hcells hbk hN hcap hlen
def Tryz.lays172_ren:Go.Shelf.Ren:=⟨fun|172=>82|244=>131|245=>132|247=>171|279=>172|280=>173|281=>174|282=>175|287=>213|316=>184|171=>48|205=>214|321=>236|322=>237|243=>81|246=>130|283=>167|284=>168|285=>169|286=>170|129=>209|317=>208|318=>210|319=>211|320=>212|337=>234|338=>235|n=>n,fun|9=>9|3=>3|75=>135|76=>136|4=>4|5=>5|167=>260|37=>178|0=>0|85=>261|2=>2|168=>263|53=>255|175=>303|46=>301|210=>306|127=>223|145=>329|143=>327|21=>21|171=>254|173=>258|212=>298|51=>299|20=>20|213=>300|232=>335|233=>336|80=>141|n=>n,fun|15=>2|16=>3|17=>1|18=>6|19=>7|n=>n⟩
theorem Tryz.lays172:Go.Proofs.Lays.n172 Tryz.prog Tryz.lays172_ren:={
 mixed:=by kernel_rfl
 f129:=fk func209
 f171:=fk func48
 f172:=fk func82
 f205:=fk func214
 f243:=fk func81
 f244:=fk func131
 f245:=fk func132
 f246:=fk func130
 f247:=fk func171
 f279:=fk func172
 f280:=fk func173
 f281:=fk func174
 f282:=fk func175
 f283:=fk func167
 f284:=fk func168
 f285:=fk func169
 f286:=fk func170
 f287:=fk func213
 f316:=fk func184
 f317:=fk func208
 f318:=fk func210
 f319:=fk func211
 f320:=fk func212
 f321:=fk func236
 f322:=fk func237
 f337:=fk func234
 f338:=fk func235
 t0:=underlying0
 a0:=isAgg0
 z0:=sizeOf0
 v0:=zeroValue0
 t2:=underlying2
 a2:=isAgg2
 z2:=sizeOf2
 v2:=zeroValue2
 t3:=underlying3
 a3:=isAgg3
 z3:=sizeOf3
 v3:=zeroValue3
 t4:=underlying4
 a4:=isAgg4
 z4:=sizeOf4
 v4:=zeroValue4
 t5:=underlying5
 a5:=isAgg5
 z5:=sizeOf5
 v5:=zeroValue5
 t9:=underlying9
 a9:=isAgg9
 z9:=sizeOf9
 v9:=zeroValue9
 t20:=underlying20
 a20:=isAgg20
 z20:=sizeOf20
 v20:=zeroValue20
 t21:=underlying21
 a21:=isAgg21
 z21:=sizeOf21
 v21:=zeroValue21
 t37:=underlying178
 a37:=isAgg178
 z37:=sizeOf178
 v37:=zeroValue178
 t46:=underlying301
 a46:=isAgg301
 z46:=sizeOf301
 v46:=zeroValue301
 t51:=underlying299
 a51:=isAgg299
 z51:=sizeOf299
 v51:=zeroValue299
 t53:=underlying255
 a53:=isAgg255
 z53:=sizeOf255
 v53:=zeroValue255
 t75:=underlying135
 a75:=isAgg135
 z75:=sizeOf135
 v75:=zeroValue135
 t76:=underlying136
 a76:=isAgg136
 z76:=sizeOf136
 v76:=zeroValue136
 t85:=underlying261
 a85:=isAgg261
 z85:=sizeOf261
 v85:=zeroValue261
 t127:=underlying223
 a127:=isAgg223
 z127:=sizeOf223
 v127:=zeroValue223
 t143:=underlying327
 a143:=isAgg327
 z143:=sizeOf327
 v143:=zeroValue327
 t145:=underlying329
 a145:=isAgg329
 z145:=sizeOf329
 v145:=zeroValue329
 t167:=underlying260
 a167:=isAgg260
 z167:=sizeOf260
 v167:=zeroValue260
 t168:=underlying263
 a168:=isAgg263
 z168:=sizeOf263
 v168:=zeroValue263
 t171:=underlying254
 a171:=isAgg254
 z171:=sizeOf254
 v171:=zeroValue254
 t173:=underlying258
 a173:=isAgg258
 z173:=sizeOf258
 v173:=zeroValue258
 t175:=underlying303
 a175:=isAgg303
 z175:=sizeOf303
 v175:=zeroValue303
 t210:=underlying306
 a210:=isAgg306
 z210:=sizeOf306
 v210:=zeroValue306
 t212:=underlying298
 a212:=isAgg298
 z212:=sizeOf298
 v212:=zeroValue298
 t213:=underlying300
 a213:=isAgg300
 z213:=sizeOf300
 t232:=underlying335
 a232:=isAgg335
 z232:=sizeOf335
 v232:=zeroValue335
 t233:=underlying336
 a233:=isAgg336
 z233:=sizeOf336
 v233:=zeroValue336
 g15:=by kernel_rfl
 g16:=by kernel_rfl
 g17:=by kernel_rfl
 g18:=by kernel_rfl
 g19:=by kernel_rfl }
open Go.RowKit in
theorem Tryz.strconv_Atoi(s:ByteArray)(n:Int)(hl:s.size<=18)(h:Lib.atoi s.data.toList=some n)(w:World):
  Calls Tryz.prog 82 #[.string s] w fun e w'=>e=.returned (.tuple #[.int .i64 n,.nilIface])/\∃ t,w'=Lib.bytesWorld w 5 t:=Any.strconv_Atoi Tryz.lays172 s n hl h w
def Tryz.laysM171_ren:Go.Shelf.Ren:=⟨fun|171=>48|243=>81|246=>130|283=>167|284=>168|285=>169|286=>170|129=>209|317=>208|318=>210|319=>211|320=>212|337=>234|338=>235|n=>n,fun|3=>3|9=>9|2=>2|4=>4|171=>254|0=>0|53=>255|37=>178|5=>5|173=>258|212=>298|51=>299|20=>20|213=>300|46=>301|232=>335|233=>336|n=>n,fun|17=>1|18=>6|19=>7|n=>n⟩
theorem Tryz.laysM171:Go.Proofs.LaysM.n171 Tryz.prog Tryz.laysM171_ren:={
 mixed:=by kernel_rfl
 f129:=fk func209
 f171:=fk func48
 f243:=fk func81
 f246:=fk func130
 f283:=fk func167
 f284:=fk func168
 f285:=fk func169
 f286:=fk func170
 f317:=fk func208
 f318:=fk func210
 f319:=fk func211
 f320:=fk func212
 f337:=fk func234
 f338:=fk func235
 t0:=underlying0
 a0:=isAgg0
 z0:=sizeOf0
 v0:=zeroValue0
 t2:=underlying2
 a2:=isAgg2
 z2:=sizeOf2
 v2:=zeroValue2
 t3:=underlying3
 a3:=isAgg3
 z3:=sizeOf3
 v3:=zeroValue3
 t4:=underlying4
 a4:=isAgg4
 z4:=sizeOf4
 v4:=zeroValue4
 t5:=underlying5
 a5:=isAgg5
 z5:=sizeOf5
 v5:=zeroValue5
 t9:=underlying9
 a9:=isAgg9
 z9:=sizeOf9
 v9:=zeroValue9
 t20:=underlying20
 a20:=isAgg20
 z20:=sizeOf20
 v20:=zeroValue20
 t37:=underlying178
 a37:=isAgg178
 z37:=sizeOf178
 v37:=zeroValue178
 t46:=underlying301
 a46:=isAgg301
 z46:=sizeOf301
 v46:=zeroValue301
 t51:=underlying299
 a51:=isAgg299
 z51:=sizeOf299
 v51:=zeroValue299
 t53:=underlying255
 a53:=isAgg255
 z53:=sizeOf255
 v53:=zeroValue255
 t171:=underlying254
 a171:=isAgg254
 z171:=sizeOf254
 v171:=zeroValue254
 t173:=underlying258
 a173:=isAgg258
 z173:=sizeOf258
 v173:=zeroValue258
 t212:=underlying298
 a212:=isAgg298
 z212:=sizeOf298
 v212:=zeroValue298
 t213:=underlying300
 a213:=isAgg300
 z213:=sizeOf300
 t232:=underlying335
 a232:=isAgg335
 z232:=sizeOf335
 v232:=zeroValue335
 t233:=underlying336
 a233:=isAgg336
 z233:=sizeOf336
 v233:=zeroValue336
 g17:=by kernel_rfl
 g18:=by kernel_rfl
 g19:=by kernel_rfl
 i0:=by kernel_rfl
 i2:=by kernel_rfl
 i3:=by kernel_rfl
 i4:=by kernel_rfl
 i5:=by kernel_rfl
 i9:=by kernel_rfl
 i20:=by kernel_rfl
 i37:=by kernel_rfl
 i46:=by kernel_rfl
 i51:=by kernel_rfl
 i53:=by kernel_rfl
 i171:=by kernel_rfl
 i173:=by kernel_rfl
 i212:=by kernel_rfl
 i232:=by kernel_rfl
 i233:=by kernel_rfl
 m17:=by kernel_rfl
 m18:=by kernel_rfl
 m19:=by kernel_rfl }
open Go.RowKit Go.Sort Go.Lib in
theorem Tryz.strconv_Itoa (n : Int) (h0 : -9223372036854775808 ≤ n) (h1 : n ≤ 9223372036854775807) (w : World) (htab : Lib.TabIs Tryz.prog w "internal/strconv.uint64pow10" .u64 Lib.pow10Tab) :
  Calls Tryz.prog 48 #[.int .i64 n] w fun e w'=>e=.returned (.string ⟨(Lib.itoa n).toArray⟩)/\∃ k os,w'=grow (w.drewN k) os:=Any.strconv_Itoa Tryz.laysM171 n h0 h1 w htab
def Tryz.laysM316_ren:Go.Shelf.Ren:=⟨fun|316=>184|n=>n,fun|9=>9|3=>3|4=>4|37=>178|0=>0|127=>223|5=>5|n=>n,fun|n=>n⟩
theorem Tryz.laysM316:Go.Proofs.LaysM.n316 Tryz.prog Tryz.laysM316_ren:={
 mixed:=by kernel_rfl
 f316:=fk func184
 t0:=underlying0
 a0:=isAgg0
 z0:=sizeOf0
 v0:=zeroValue0
 t3:=underlying3
 a3:=isAgg3
 z3:=sizeOf3
 v3:=zeroValue3
 t4:=underlying4
 a4:=isAgg4
 z4:=sizeOf4
 v4:=zeroValue4
 t9:=underlying9
 a9:=isAgg9
 z9:=sizeOf9
 v9:=zeroValue9
 t37:=underlying178
 a37:=isAgg178
 z37:=sizeOf178
 v37:=zeroValue178
 t127:=underlying223
 a127:=isAgg223
 z127:=sizeOf223
 v127:=zeroValue223
 t5:=underlying5
 a5:=isAgg5
 z5:=sizeOf5
 v5:=zeroValue5
 i0:=by kernel_rfl
 i3:=by kernel_rfl
 i4:=by kernel_rfl
 i5:=by kernel_rfl
 i9:=by kernel_rfl
 i37:=by kernel_rfl
 i127:=by kernel_rfl }
open Go.RowKit in
theorem Tryz.stringslite_Clone(s:ByteArray)(w:World)(hlim:s.size<=281474976710656):
  Calls Tryz.prog 184 #[.string s] w fun e w'=>e=.returned (.string s)/\Below w.heap.size w w':=Any.stringslite_Clone Tryz.laysM316 s w hlim
def Tryz.lays145_ren:Go.Shelf.Ren:=⟨fun|145=>217|220=>239|219=>255|217=>265|225=>266|224=>267|267=>268|266=>271|314=>272|n=>n,fun|9=>9|4=>4|59=>310|3=>3|5=>5|46=>301|146=>347|51=>299|n=>n,fun|1=>4|n=>n⟩
theorem Tryz.lays145:Go.Proofs.Lays.n145 Tryz.prog Tryz.lays145_ren:={
 mixed:=by kernel_rfl
 f145:=fk func217
 f217:=fk func265
 f219:=fk func255
 f220:=fk func239
 f224:=fk func267
 f225:=fk func266
 f266:=fk func271
 f267:=fk func268
 f314:=fk func272
 t3:=underlying3
 a3:=isAgg3
 z3:=sizeOf3
 v3:=zeroValue3
 t4:=underlying4
 a4:=isAgg4
 z4:=sizeOf4
 v4:=zeroValue4
 t5:=underlying5
 a5:=isAgg5
 z5:=sizeOf5
 v5:=zeroValue5
 t9:=underlying9
 a9:=isAgg9
 z9:=sizeOf9
 v9:=zeroValue9
 t46:=underlying301
 a46:=isAgg301
 z46:=sizeOf301
 v46:=zeroValue301
 t51:=underlying299
 a51:=isAgg299
 z51:=sizeOf299
 v51:=zeroValue299
 t59:=underlying310
 a59:=isAgg310
 z59:=sizeOf310
 v59:=zeroValue310
 t146:=underlying347
 a146:=isAgg347
 z146:=sizeOf347
 v146:=zeroValue347
 g1:=by kernel_rfl }
open Go.RowKit Go.Lib in
theorem Tryz.strings_Cut(s sep:ByteArray)(m:Int)(w:World)(hs:s.size<4294967281)(hm:w.cell? ⟨4,0,none⟩=some (.int .i64 m)):
  Calls Tryz.prog 217 #[.string s,.string sep] w fun e w'=>e=.returned (.tuple #[.string ⟨(Lib.cut s.data.toList sep.data.toList).1.toArray⟩,.string ⟨(Lib.cut s.data.toList sep.data.toList).2.1.toArray⟩,.bool (Lib.cut s.data.toList sep.data.toList).2.2])/\∃ n,w'=w.drewN n:=Any.strings_Cut Tryz.lays145 s sep m w hs hm
def Tryz.lays146_ren:Go.Shelf.Ren:=⟨fun|146=>215|221=>238|268=>252|138=>253|143=>254|195=>262|197=>263|218=>264|219=>255|260=>270|217=>265|225=>266|224=>267|267=>268|266=>271|314=>272|n=>n,fun|9=>9|31=>78|3=>3|4=>4|0=>0|105=>342|21=>21|5=>5|46=>301|119=>349|139=>352|138=>351|146=>347|51=>299|n=>n,fun|1=>4|3=>8|4=>9|n=>n⟩
theorem Tryz.lays146:Go.Proofs.Lays.n146 Tryz.prog Tryz.lays146_ren:={
 mixed:=by kernel_rfl
 f138:=fk func253
 f143:=fk func254
 f146:=fk func215
 f195:=fk func262
 f197:=fk func263
 f217:=fk func265
 f218:=fk func264
 f219:=fk func255
 f221:=fk func238
 f224:=fk func267
 f225:=fk func266
 f260:=fk func270
 f266:=fk func271
 f267:=fk func268
 f268:=fk func252
 f314:=fk func272
 t0:=underlying0
 a0:=isAgg0
 z0:=sizeOf0
 v0:=zeroValue0
 t3:=underlying3
 a3:=isAgg3
 z3:=sizeOf3
 v3:=zeroValue3
 t4:=underlying4
 a4:=isAgg4
 z4:=sizeOf4
 v4:=zeroValue4
 t5:=underlying5
 a5:=isAgg5
 z5:=sizeOf5
 v5:=zeroValue5
 t9:=underlying9
 a9:=isAgg9
 z9:=sizeOf9
 v9:=zeroValue9
 t21:=underlying21
 a21:=isAgg21
 z21:=sizeOf21
 v21:=zeroValue21
 t31:=underlying78
 a31:=isAgg78
 z31:=sizeOf78
 v31:=zeroValue78
 t46:=underlying301
 a46:=isAgg301
 z46:=sizeOf301
 v46:=zeroValue301
 t51:=underlying299
 a51:=isAgg299
 z51:=sizeOf299
 v51:=zeroValue299
 t105:=underlying342
 a105:=isAgg342
 z105:=sizeOf342
 v105:=zeroValue342
 t119:=underlying349
 a119:=isAgg349
 z119:=sizeOf349
 t138:=underlying351
 a138:=isAgg351
 z138:=sizeOf351
 v138:=zeroValue351
 t139:=underlying352
 a139:=isAgg352
 z139:=sizeOf352
 v139:=zeroValue352
 t146:=underlying347
 a146:=isAgg347
 z146:=sizeOf347
 v146:=zeroValue347
 g1:=by kernel_rfl
 g3:=by kernel_rfl
 g4:=by kernel_rfl }
open Go.RowKit Go.Lib in
theorem Tryz.strings_Split(s sep:ByteArray)(m:Int)(w:World)(hs:s.size<4294967281)(hm:w.cell? ⟨4,0,none⟩=some (.int .i64 m))(h1:1<=sep.size):
  Calls Tryz.prog 215 #[.string s,.string sep] w fun e w' =>
   e=.returned (.slice (some ⟨w.heap.size,0,none⟩) (Lib.countB s sep+1) (Lib.countB s sep+1))/\w'=w.alloc (.cells ((Lib.splitB sep 0 (Lib.countB s sep) s).map Value.string).toArray 9):=Any.strings_Split Tryz.lays146 (by kernel_rfl) s sep m w hs hm h1
def Tryz.lays229_ren:Go.Shelf.Ren:=⟨fun|229=>85|n=>n,fun|9=>9|40=>140|31=>78|152=>213|3=>3|0=>0|4=>4|21=>21|154=>215|n=>n,fun|n=>n⟩
theorem Tryz.lays229:Go.Proofs.Lays.n229 Tryz.prog Tryz.lays229_ren:={
 mixed:=by kernel_rfl
 f229:=fk func85
 t0:=underlying0
 a0:=isAgg0
 z0:=sizeOf0
 v0:=zeroValue0
 t3:=underlying3
 a3:=isAgg3
 z3:=sizeOf3
 v3:=zeroValue3
 t4:=underlying4
 a4:=isAgg4
 z4:=sizeOf4
 v4:=zeroValue4
 t9:=underlying9
 a9:=isAgg9
 z9:=sizeOf9
 v9:=zeroValue9
 t21:=underlying21
 a21:=isAgg21
 z21:=sizeOf21
 v21:=zeroValue21
 t31:=underlying78
 a31:=isAgg78
 z31:=sizeOf78
 v31:=zeroValue78
 t40:=underlying140
 a40:=isAgg140
 z40:=sizeOf140
 v40:=zeroValue140
 t152:=underlying213
 a152:=isAgg213
 z152:=sizeOf213
 v152:=zeroValue213
 t154:=underlying215
 a154:=isAgg215
 z154:=sizeOf215
 v154:=zeroValue215 }
open Go.RowKit Go.Lib in
theorem Tryz.strings_FieldsFunc_runes(g:Nat)(lb:Array Value)(eg:∀ args w,(callFunc g args).run Tryz.prog w=.ok (.enter g args) w)(p:Nat->Bool)(s:ByteArray)(w:World)(hs:s.size<=4294967296)(hp:PredAtRunes Tryz.prog g lb p w):
  Calls Tryz.prog 85 #[.string s,.func (.func g) #[] lb] w fun e w'=>∃ A,e=.returned (.slice (some ⟨A,0,none⟩) (Lib.goFieldsP p s).length (Lib.goFieldsP p s).length)/\w.heap.size<=A /\
   w'.ownsRow w.heap.size 9 1 (.slice (some ⟨A,0,none⟩) (Lib.goFieldsP p s).length (Lib.goFieldsP p s).length) (Lib.goFieldsP p s).length ((Lib.goFieldsP p s).map Value.string)/\Below w.heap.size w w':=Any.strings_FieldsFunc_runes Tryz.lays229 g lb eg p s w hs hp (by kernel_rfl) (by kernel_rfl)
end Go.Proofs
