/-
  The contracts of the library functions that the program calls.
-/
import Derived.Shelf.Strings.Builder1
import Derived.Shelf.Strings.Builder2
import Derived.Shelf.Strings.OnBuilder
import Derived.Shelf.Strings.BuilderF
import Derived.Shelf.Strings.BuilderK
import Derived.Shelf.Utf8.RuneCount
import Derived.Shelf.Strings.Builder2Cap
import Derived.Shelf.Strconv.Atoi
import Derived.Shelf.Strconv.Itoa0
import Derived.Shelf.Strconv.Itoa1
import Derived.Shelf.LaysM
import Derived.Shelf.Strconv.Itoa2
import Derived.Shelf.Strconv.Itoa3
import Derived.Shelf.Strconv.Clone
import Derived.Shelf.Strings.Search1
import Derived.Shelf.Strings.Search2
import Derived.Shelf.Strings.Search3
import Derived.Shelf.Strings.Cut
import Derived.Shelf.Strings.Count
import Derived.Shelf.Strings.Shaped
import Derived.Shelf.Strings.Split
import Derived.Shelf.Strings.SplitShaped
import Derived.Shelf.Unicode.Decode
import Derived.Shelf.Strings.RuneCount
import Derived.Shelf.Strings.Explode
import Derived.Shelf.Unicode.DecodeSlow
import Derived.Shelf.Unicode.DecodeAny
import Derived.Shelf.Strings.FieldsFuncAny
import Derived.Shelf.Strings.FieldsFuncGrows
import Derived.Shelf.Strings.BuilderCap
import Derived.Ground.Names2Prog
import Derived.Shelf.Slices.SearchI
import Derived.Test.YtfigmlfdnickmaaGreatDoorProg
namespace Go.Proofs
open Go.Shelf
theorem Tryz.fk{α:Type}{o:Option α}{a b:α}(h:o=some a)(e:a=b:=by kernel_rfl):o=some b:=h.trans (congrArg some e)
open Tryz
def Tryz.lays156_ren:Go.Shelf.Ren:=⟨fun|156=>69|165=>109|166=>110|169=>111|240=>165|241=>166|276=>226|277=>227|n=>n,fun|31=>26|9=>9|3=>3|4=>4|0=>0|20=>20|72=>208|76=>212|70=>205|37=>206|75=>211|127=>270|164=>311|5=>5|80=>54|n=>n,fun|n=>n⟩
theorem Tryz.lays156:Go.Proofs.Lays.n156 Tryz.prog Tryz.lays156_ren:={
 mixed:=by kernel_rfl
 f156:=fk func69
 f165:=fk func109
 f166:=fk func110
 f169:=fk func111
 f240:=fk func165
 f241:=fk func166
 f276:=fk func226
 f277:=fk func227
 t0:=underlying0
 a0:=isAgg0
 z0:=sizeOf0
 v0:=zeroValue0
 t3:=underlying3
 a3:=isAgg3
 z3:=sizeOf3
 v3:=zeroValue3
 t4:=underlying4
 a4:=isAgg4
 z4:=sizeOf4
 v4:=zeroValue4
 t9:=underlying9
 a9:=isAgg9
 z9:=sizeOf9
 v9:=zeroValue9
 t20:=underlying20
 a20:=isAgg20
 z20:=sizeOf20
 v20:=zeroValue20
 t31:=underlying26
 a31:=isAgg26
 z31:=sizeOf26
 v31:=zeroValue26
 t37:=underlying206
 a37:=isAgg206
 z37:=sizeOf206
 v37:=zeroValue206
 t70:=underlying205
 a70:=isAgg205
 z70:=sizeOf205
 v70:=zeroValue205
 t72:=underlying208
 a72:=isAgg208
 z72:=sizeOf208
 v72:=zeroValue208
 t75:=underlying211
 a75:=isAgg211
 z75:=sizeOf211
 v75:=zeroValue211
 t76:=underlying212
 a76:=isAgg212
 z76:=sizeOf212
 v76:=zeroValue212
 t127:=underlying270
 a127:=isAgg270
 z127:=sizeOf270
 v127:=zeroValue270
 t164:=underlying311
 a164:=isAgg311
 z164:=sizeOf311
 v164:=zeroValue311 }
theorem Tryz.Builder_Extra_156:Builder.Extra Tryz.prog Tryz.lays156_ren:={
 sizeBuilder:=by kernel_rfl
 liesBuilder:=by kernel_rfl
 t5:=underlying5
 a5:=isAgg5
 z5:=sizeOf5
 v5:=zeroValue5
 infoByte:=by kernel_rfl
 cellsByte:=by kernel_rfl
 sizeByte:=by kernel_rfl
 neB5:=by decide }
open Go.RowKit in
theorem Tryz.strings_Join(bk o c:Nat)(xs:List ByteArray)(sep:ByteArray)(w:World)(hcells:∀ (j:Nat) x,xs[j]?=some x->w.cell? ⟨bk,o+j,none⟩=some (.string x))(hbk:bk<w.heap.size)(hN:xs.length<=140737488355328)(hcap:xs.length<=c)(hlen:(Lib.join (xs.map (·.data.toList)) sep.data.toList).length<=140737488355328):
  Calls Tryz.prog 69 #[.slice (some ⟨bk,o,none⟩) xs.length c,.string sep] w fun e w'=>e=.returned (.string ⟨(Lib.join (xs.map (·.data.toList)) sep.data.toList).toArray⟩)/\Below w.heap.size w w':=Any.strings_Join Tryz.lays156 Tryz.Builder_Extra_156 bk o c xs sep w hcells hbk hN hcap hlen
def Tryz.lays172_ren:Go.Shelf.Ren:=⟨fun|172=>189|244=>243|245=>244|247=>267|279=>268|280=>269|281=>270|282=>271|287=>286|316=>197|171=>47|205=>287|321=>298|322=>299|243=>66|246=>108|283=>161|284=>162|285=>163|286=>164|129=>222|317=>221|318=>223|319=>224|320=>225|337=>264|338=>265|n=>n,fun|9=>9|3=>3|75=>211|76=>212|4=>4|5=>5|167=>345|37=>206|0=>0|85=>346|2=>2|168=>348|53=>265|175=>358|46=>309|210=>361|127=>270|145=>371|143=>369|21=>21|171=>264|173=>268|212=>306|51=>307|20=>20|213=>308|232=>356|233=>357|80=>54|n=>n,fun|15=>6|16=>7|17=>0|18=>4|19=>5|n=>n⟩
theorem Tryz.lays172:Go.Proofs.Lays.n172 Tryz.prog Tryz.lays172_ren:={
 mixed:=by kernel_rfl
 f129:=fk func222
 f171:=fk func47
 f172:=fk func189
 f205:=fk func287
 f243:=fk func66
 f244:=fk func243
 f245:=fk func244
 f246:=fk func108
 f247:=fk func267
 f279:=fk func268
 f280:=fk func269
 f281:=fk func270
 f282:=fk func271
 f283:=fk func161
 f284:=fk func162
 f285:=fk func163
 f286:=fk func164
 f287:=fk func286
 f316:=fk func197
 f317:=fk func221
 f318:=fk func223
 f319:=fk func224
 f320:=fk func225
 f321:=fk func298
 f322:=fk func299
 f337:=fk func264
 f338:=fk func265
 t0:=underlying0
 a0:=isAgg0
 z0:=sizeOf0
 v0:=zeroValue0
 t2:=underlying2
 a2:=isAgg2
 z2:=sizeOf2
 v2:=zeroValue2
 t3:=underlying3
 a3:=isAgg3
 z3:=sizeOf3
 v3:=zeroValue3
 t4:=underlying4
 a4:=isAgg4
 z4:=sizeOf4
 v4:=zeroValue4
 t5:=underlying5
 a5:=isAgg5
 z5:=sizeOf5
 v5:=zeroValue5
 t9:=underlying9
 a9:=isAgg9
 z9:=sizeOf9
 v9:=zeroValue9
 t20:=underlying20
 a20:=isAgg20
 z20:=sizeOf20
 v20:=zeroValue20
 t21:=underlying21
 a21:=isAgg21
 z21:=sizeOf21
 v21:=zeroValue21
 t37:=underlying206
 a37:=isAgg206
 z37:=sizeOf206
 v37:=zeroValue206
 t46:=underlying309
 a46:=isAgg309
 z46:=sizeOf309
 v46:=zeroValue309
 t51:=underlying307
 a51:=isAgg307
 z51:=sizeOf307
 v51:=zeroValue307
 t53:=underlying265
 a53:=isAgg265
 z53:=sizeOf265
 v53:=zeroValue265
 t75:=underlying211
 a75:=isAgg211
 z75:=sizeOf211
 v75:=zeroValue211
 t76:=underlying212
 a76:=isAgg212
 z76:=sizeOf212
 v76:=zeroValue212
 t85:=underlying346
 a85:=isAgg346
 z85:=sizeOf346
 v85:=zeroValue346
 t127:=underlying270
 a127:=isAgg270
 z127:=sizeOf270
 v127:=zeroValue270
 t143:=underlying369
 a143:=isAgg369
 z143:=sizeOf369
 v143:=zeroValue369
 t145:=underlying371
 a145:=isAgg371
 z145:=sizeOf371
 v145:=zeroValue371
 t167:=underlying345
 a167:=isAgg345
 z167:=sizeOf345
 v167:=zeroValue345
 t168:=underlying348
 a168:=isAgg348
 z168:=sizeOf348
 v168:=zeroValue348
 t171:=underlying264
 a171:=isAgg264
 z171:=sizeOf264
 v171:=zeroValue264
 t173:=underlying268
 a173:=isAgg268
 z173:=sizeOf268
 v173:=zeroValue268
 t175:=underlying358
 a175:=isAgg358
 z175:=sizeOf358
 v175:=zeroValue358
 t210:=underlying361
 a210:=isAgg361
 z210:=sizeOf361
 v210:=zeroValue361
 t212:=underlying306
 a212:=isAgg306
 z212:=sizeOf306
 v212:=zeroValue306
 t213:=underlying308
 a213:=isAgg308
 z213:=sizeOf308
 t232:=underlying356
 a232:=isAgg356
 z232:=sizeOf356
 v232:=zeroValue356
 t233:=underlying357
 a233:=isAgg357
 z233:=sizeOf357
 v233:=zeroValue357
 g15:=by kernel_rfl
 g16:=by kernel_rfl
 g17:=by kernel_rfl
 g18:=by kernel_rfl
 g19:=by kernel_rfl }
open Go.RowKit in
theorem Tryz.strconv_Atoi(s:ByteArray)(n:Int)(hl:s.size<=18)(h:Lib.atoi s.data.toList=some n)(w:World):
  Calls Tryz.prog 189 #[.string s] w fun e w'=>e=.returned (.tuple #[.int .i64 n,.nilIface])/\∃ t,w'=Lib.bytesWorld w 5 t:=Any.strconv_Atoi Tryz.lays172 s n hl h w
def Tryz.laysM171_ren:Go.Shelf.Ren:=⟨fun|171=>47|243=>66|246=>108|283=>161|284=>162|285=>163|286=>164|129=>222|317=>221|318=>223|319=>224|320=>225|337=>264|338=>265|n=>n,fun|3=>3|9=>9|2=>2|4=>4|171=>264|0=>0|53=>265|37=>206|5=>5|173=>268|212=>306|51=>307|20=>20|213=>308|46=>309|232=>356|233=>357|n=>n,fun|17=>0|18=>4|19=>5|n=>n⟩
theorem Tryz.laysM171:Go.Proofs.LaysM.n171 Tryz.prog Tryz.laysM171_ren:={
 mixed:=by kernel_rfl
 f129:=fk func222
 f171:=fk func47
 f243:=fk func66
 f246:=fk func108
 f283:=fk func161
 f284:=fk func162
 f285:=fk func163
 f286:=fk func164
 f317:=fk func221
 f318:=fk func223
 f319:=fk func224
 f320:=fk func225
 f337:=fk func264
 f338:=fk func265
 t0:=underlying0
 a0:=isAgg0
 z0:=sizeOf0
 v0:=zeroValue0
 t2:=underlying2
 a2:=isAgg2
 z2:=sizeOf2
 v2:=zeroValue2
 t3:=underlying3
 a3:=isAgg3
 z3:=sizeOf3
 v3:=zeroValue3
 t4:=underlying4
 a4:=isAgg4
 z4:=sizeOf4
 v4:=zeroValue4
 t5:=underlying5
 a5:=isAgg5
 z5:=sizeOf5
 v5:=zeroValue5
 t9:=underlying9
 a9:=isAgg9
 z9:=sizeOf9
 v9:=zeroValue9
 t20:=underlying20
 a20:=isAgg20
 z20:=sizeOf20
 v20:=zeroValue20
 t37:=underlying206
 a37:=isAgg206
 z37:=sizeOf206
 v37:=zeroValue206
 t46:=underlying309
 a46:=isAgg309
 z46:=sizeOf309
 v46:=zeroValue309
 t51:=underlying307
 a51:=isAgg307
 z51:=sizeOf307
 v51:=zeroValue307
 t53:=underlying265
 a53:=isAgg265
 z53:=sizeOf265
 v53:=zeroValue265
 t171:=underlying264
 a171:=isAgg264
 z171:=sizeOf264
 v171:=zeroValue264
 t173:=underlying268
 a173:=isAgg268
 z173:=sizeOf268
 v173:=zeroValue268
 t212:=underlying306
 a212:=isAgg306
 z212:=sizeOf306
 v212:=zeroValue306
 t213:=underlying308
 a213:=isAgg308
 z213:=sizeOf308
 t232:=underlying356
 a232:=isAgg356
 z232:=sizeOf356
 v232:=zeroValue356
 t233:=underlying357
 a233:=isAgg357
 z233:=sizeOf357
 v233:=zeroValue357
 g17:=by kernel_rfl
 g18:=by kernel_rfl
 g19:=by kernel_rfl
 i0:=by kernel_rfl
 i2:=by kernel_rfl
 i3:=by kernel_rfl
 i4:=by kernel_rfl
 i5:=by kernel_rfl
 i9:=by kernel_rfl
 i20:=by kernel_rfl
 i37:=by kernel_rfl
 i46:=by kernel_rfl
 i51:=by kernel_rfl
 i53:=by kernel_rfl
 i171:=by kernel_rfl
 i173:=by kernel_rfl
 i212:=by kernel_rfl
 i232:=by kernel_rfl
 i233:=by kernel_rfl
 m17:=by kernel_rfl
 m18:=by kernel_rfl
 m19:=by kernel_rfl }
open Go.RowKit Go.Sort Go.Lib in
theorem Tryz.strconv_Itoa (n : Int) (h0 : -9223372036854775808 ≤ n) (h1 : n ≤ 9223372036854775807) (w : World) (htab : Lib.TabIs Tryz.prog w "internal/strconv.uint64pow10" .u64 Lib.pow10Tab) :
  Calls Tryz.prog 47 #[.int .i64 n] w fun e w'=>e=.returned (.string ⟨(Lib.itoa n).toArray⟩)/\∃ k os,w'=grow (w.drewN k) os:=Any.strconv_Itoa Tryz.laysM171 n h0 h1 w htab
def Tryz.laysM316_ren:Go.Shelf.Ren:=⟨fun|316=>197|n=>n,fun|9=>9|3=>3|4=>4|37=>206|0=>0|127=>270|5=>5|n=>n,fun|n=>n⟩
theorem Tryz.laysM316:Go.Proofs.LaysM.n316 Tryz.prog Tryz.laysM316_ren:={
 mixed:=by kernel_rfl
 f316:=fk func197
 t0:=underlying0
 a0:=isAgg0
 z0:=sizeOf0
 v0:=zeroValue0
 t3:=underlying3
 a3:=isAgg3
 z3:=sizeOf3
 v3:=zeroValue3
 t4:=underlying4
 a4:=isAgg4
 z4:=sizeOf4
 v4:=zeroValue4
 t9:=underlying9
 a9:=isAgg9
 z9:=sizeOf9
 v9:=zeroValue9
 t37:=underlying206
 a37:=isAgg206
 z37:=sizeOf206
 v37:=zeroValue206
 t127:=underlying270
 a127:=isAgg270
 z127:=sizeOf270
 v127:=zeroValue270
 t5:=underlying5
 a5:=isAgg5
 z5:=sizeOf5
 v5:=zeroValue5
 i0:=by kernel_rfl
 i3:=by kernel_rfl
 i4:=by kernel_rfl
 i5:=by kernel_rfl
 i9:=by kernel_rfl
 i37:=by kernel_rfl
 i127:=by kernel_rfl }
open Go.RowKit in
theorem Tryz.stringslite_Clone(s:ByteArray)(w:World)(hlim:s.size<=281474976710656):
  Calls Tryz.prog 197 #[.string s] w fun e w'=>e=.returned (.string s)/\Below w.heap.size w w':=Any.stringslite_Clone Tryz.laysM316 s w hlim
def Tryz.lays145_ren:Go.Shelf.Ren:=⟨fun|145=>247|220=>273|219=>291|217=>303|225=>304|224=>305|267=>306|266=>309|314=>310|n=>n,fun|9=>9|4=>4|59=>328|3=>3|5=>5|46=>309|146=>377|51=>307|n=>n,fun|1=>2|n=>n⟩
theorem Tryz.lays145:Go.Proofs.Lays.n145 Tryz.prog Tryz.lays145_ren:={
 mixed:=by kernel_rfl
 f145:=fk func247
 f217:=fk func303
 f219:=fk func291
 f220:=fk func273
 f224:=fk func305
 f225:=fk func304
 f266:=fk func309
 f267:=fk func306
 f314:=fk func310
 t3:=underlying3
 a3:=isAgg3
 z3:=sizeOf3
 v3:=zeroValue3
 t4:=underlying4
 a4:=isAgg4
 z4:=sizeOf4
 v4:=zeroValue4
 t5:=underlying5
 a5:=isAgg5
 z5:=sizeOf5
 v5:=zeroValue5
 t9:=underlying9
 a9:=isAgg9
 z9:=sizeOf9
 v9:=zeroValue9
 t46:=underlying309
 a46:=isAgg309
 z46:=sizeOf309
 v46:=zeroValue309
 t51:=underlying307
 a51:=isAgg307
 z51:=sizeOf307
 v51:=zeroValue307
 t59:=underlying328
 a59:=isAgg328
 z59:=sizeOf328
 v59:=zeroValue328
 t146:=underlying377
 a146:=isAgg377
 z146:=sizeOf377
 v146:=zeroValue377
 g1:=by kernel_rfl }
open Go.RowKit Go.Lib in
theorem Tryz.strings_Cut(s sep:ByteArray)(m:Int)(w:World)(hs:s.size<4294967281)(hm:w.cell? ⟨2,0,none⟩=some (.int .i64 m)):
  Calls Tryz.prog 247 #[.string s,.string sep] w fun e w'=>e=.returned (.tuple #[.string ⟨(Lib.cut s.data.toList sep.data.toList).1.toArray⟩,.string ⟨(Lib.cut s.data.toList sep.data.toList).2.1.toArray⟩,.bool (Lib.cut s.data.toList sep.data.toList).2.2])/\∃ n,w'=w.drewN n:=Any.strings_Cut Tryz.lays145 s sep m w hs hm
def Tryz.lays146_ren:Go.Shelf.Ren:=⟨fun|146=>245|221=>272|268=>288|138=>289|143=>290|195=>300|197=>301|218=>302|219=>291|260=>308|217=>303|225=>304|224=>305|267=>306|266=>309|314=>310|n=>n,fun|9=>9|31=>26|3=>3|4=>4|0=>0|105=>372|21=>21|5=>5|46=>309|119=>379|139=>382|138=>381|146=>377|51=>307|n=>n,fun|1=>2|3=>8|4=>9|n=>n⟩
theorem Tryz.lays146:Go.Proofs.Lays.n146 Tryz.prog Tryz.lays146_ren:={
 mixed:=by kernel_rfl
 f138:=fk func289
 f143:=fk func290
 f146:=fk func245
 f195:=fk func300
 f197:=fk func301
 f217:=fk func303
 f218:=fk func302
 f219:=fk func291
 f221:=fk func272
 f224:=fk func305
 f225:=fk func304
 f260:=fk func308
 f266:=fk func309
 f267:=fk func306
 f268:=fk func288
 f314:=fk func310
 t0:=underlying0
 a0:=isAgg0
 z0:=sizeOf0
 v0:=zeroValue0
 t3:=underlying3
 a3:=isAgg3
 z3:=sizeOf3
 v3:=zeroValue3
 t4:=underlying4
 a4:=isAgg4
 z4:=sizeOf4
 v4:=zeroValue4
 t5:=underlying5
 a5:=isAgg5
 z5:=sizeOf5
 v5:=zeroValue5
 t9:=underlying9
 a9:=isAgg9
 z9:=sizeOf9
 v9:=zeroValue9
 t21:=underlying21
 a21:=isAgg21
 z21:=sizeOf21
 v21:=zeroValue21
 t31:=underlying26
 a31:=isAgg26
 z31:=sizeOf26
 v31:=zeroValue26
 t46:=underlying309
 a46:=isAgg309
 z46:=sizeOf309
 v46:=zeroValue309
 t51:=underlying307
 a51:=isAgg307
 z51:=sizeOf307
 v51:=zeroValue307
 t105:=underlying372
 a105:=isAgg372
 z105:=sizeOf372
 v105:=zeroValue372
 t119:=underlying379
 a119:=isAgg379
 z119:=sizeOf379
 t138:=underlying381
 a138:=isAgg381
 z138:=sizeOf381
 v138:=zeroValue381
 t139:=underlying382
 a139:=isAgg382
 z139:=sizeOf382
 v139:=zeroValue382
 t146:=underlying377
 a146:=isAgg377
 z146:=sizeOf377
 v146:=zeroValue377
 g1:=by kernel_rfl
 g3:=by kernel_rfl
 g4:=by kernel_rfl }
open Go.RowKit Go.Lib in
theorem Tryz.strings_Split(s sep:ByteArray)(m:Int)(w:World)(hs:s.size<4294967281)(hm:w.cell? ⟨2,0,none⟩=some (.int .i64 m))(h1:1<=sep.size):
  Calls Tryz.prog 245 #[.string s,.string sep] w fun e w' =>
   e=.returned (.slice (some ⟨w.heap.size,0,none⟩) (Lib.countB s sep+1) (Lib.countB s sep+1))/\w'=w.alloc (.cells ((Lib.splitB sep 0 (Lib.countB s sep) s).map Value.string).toArray 9):=Any.strings_Split Tryz.lays146 (by kernel_rfl) s sep m w hs hm h1
def Tryz.lays229_ren:Go.Shelf.Ren:=⟨fun|229=>80|n=>n,fun|9=>9|40=>146|31=>26|152=>224|3=>3|0=>0|4=>4|21=>21|154=>226|n=>n,fun|n=>n⟩
theorem Tryz.lays229:Go.Proofs.Lays.n229 Tryz.prog Tryz.lays229_ren:={
 mixed:=by kernel_rfl
 f229:=fk func80
 t0:=underlying0
 a0:=isAgg0
 z0:=sizeOf0
 v0:=zeroValue0
 t3:=underlying3
 a3:=isAgg3
 z3:=sizeOf3
 v3:=zeroValue3
 t4:=underlying4
 a4:=isAgg4
 z4:=sizeOf4
 v4:=zeroValue4
 t9:=underlying9
 a9:=isAgg9
 z9:=sizeOf9
 v9:=zeroValue9
 t21:=underlying21
 a21:=isAgg21
 z21:=sizeOf21
 v21:=zeroValue21
 t31:=underlying26
 a31:=isAgg26
 z31:=sizeOf26
 v31:=zeroValue26
 t40:=underlying146
 a40:=isAgg146
 z40:=sizeOf146
 v40:=zeroValue146
 t152:=underlying224
 a152:=isAgg224
 z152:=sizeOf224
 v152:=zeroValue224
 t154:=underlying226
 a154:=isAgg226
 z154:=sizeOf226
 v154:=zeroValue226 }
open Go.RowKit Go.Lib in
theorem Tryz.strings_FieldsFunc_runes(g:Nat)(lb:Array Value)(eg:∀ args w,(callFunc g args).run Tryz.prog w=.ok (.enter g args) w)(p:Nat->Bool)(s:ByteArray)(w:World)(hs:s.size<=4294967296)(hp:PredAtRunes Tryz.prog g lb p w):
  Calls Tryz.prog 80 #[.string s,.func (.func g) #[] lb] w fun e w'=>∃ A,e=.returned (.slice (some ⟨A,0,none⟩) (Lib.goFieldsP p s).length (Lib.goFieldsP p s).length)/\w.heap.size<=A /\
   w'.ownsRow w.heap.size 9 1 (.slice (some ⟨A,0,none⟩) (Lib.goFieldsP p s).length (Lib.goFieldsP p s).length) (Lib.goFieldsP p s).length ((Lib.goFieldsP p s).map Value.string)/\Below w.heap.size w w':=Any.strings_FieldsFunc_runes Tryz.lays229 g lb eg p s w hs hp (by kernel_rfl) (by kernel_rfl)
end Go.Proofs
