/-
  The contracts of the library functions that the program calls.
-/
import Derived.Shelf.Strings.OnBuilder
import Derived.Shelf.Utf8.RuneCount
import Derived.Shelf.Strconv.Atoi
import Derived.Shelf.Strconv.Itoa3
import Derived.Shelf.Strconv.Clone
import Derived.Shelf.Strings.Shaped
import Derived.Shelf.Strings.SplitShaped
import Derived.Shelf.Strings.Explode
import Derived.Shelf.Strings.FieldsFuncGrows
import Derived.Shelf.Strings.BuilderCap
import Derived.Shelf.Slices.SearchI
import Derived.Test.YtolaacmheeaadaaGreatDoorProg
namespace Go.Proofs
open Go.Shelf
theorem Tryz.fk{α:Type}{o:Option α}{a b:α}(h:o=some a)(e:a=b:=by kernel_rfl):o=some b:=h.trans (congrArg some e)
open Tryz
def Tryz.lays156_ren:Go.Shelf.Ren:=⟨fun|156=>61|165=>96|166=>97|169=>98|240=>144|241=>145|276=>182|277=>183|n=>n,fun|31=>78|9=>9|3=>3|4=>4|0=>0|20=>20|72=>180|76=>136|70=>177|37=>178|75=>135|127=>223|164=>269|5=>5|80=>141|n=>n,fun|n=>n⟩
theorem Tryz.lays156:Go.Proofs.Lays.n156 Tryz.prog Tryz.lays156_ren:=⟨by kernel_rfl,fk func61,fk func96,fk func97,fk func98,fk func144,fk func145,fk func182,fk func183,underlying0,isAgg0,sizeOf0,zeroValue0,underlying3,isAgg3,sizeOf3,zeroValue3,underlying4,isAgg4,sizeOf4,zeroValue4,underlying9,isAgg9,sizeOf9,zeroValue9,underlying20,isAgg20,sizeOf20,zeroValue20,underlying78,isAgg78,sizeOf78,zeroValue78,underlying178,isAgg178,sizeOf178,zeroValue178,underlying177,isAgg177,sizeOf177,zeroValue177,underlying180,isAgg180,sizeOf180,zeroValue180,underlying135,isAgg135,sizeOf135,zeroValue135,underlying136,isAgg136,sizeOf136,zeroValue136,underlying223,isAgg223,sizeOf223,zeroValue223,underlying269,isAgg269,sizeOf269,zeroValue269⟩
theorem Tryz.Builder_Extra_156:Builder.Extra Tryz.prog Tryz.lays156_ren:={
 sizeBuilder:=by kernel_rfl
 liesBuilder:=by kernel_rfl
 t5:=underlying5
 a5:=isAgg5
 z5:=sizeOf5
 v5:=zeroValue5
 infoByte:=by kernel_rfl
 cellsByte:=by kernel_rfl
 sizeByte:=by kernel_rfl
 neB5:=by decide }
open Go.RowKit in
theorem Tryz.strings_Join(bk o c:Nat)(xs:List ByteArray)(sep:ByteArray)(w:World)(hcells:∀ (j:Nat) x,xs[j]?=some x->w.cell? ⟨bk,o+j,none⟩=some (.string x))(hbk:bk<w.heap.size)(hN:xs.length<=140737488355328)(hcap:xs.length<=c)(hlen:(Lib.join (xs.map (·.data.toList)) sep.data.toList).length<=140737488355328):
  Calls Tryz.prog 61 #[.slice (some ⟨bk,o,none⟩) xs.length c,.string sep] w fun e w'=>e=.returned (.string ⟨(Lib.join (xs.map (·.data.toList)) sep.data.toList).toArray⟩)/\Below w.heap.size w w':=Any.strings_Join Tryz.lays156 Tryz.Builder_Extra_156 bk o c xs sep w hcells hbk hN hcap hlen
def Tryz.lays172_ren:Go.Shelf.Ren:=⟨fun|172=>82|244=>131|245=>132|247=>171|279=>172|280=>173|281=>174|282=>175|287=>213|316=>184|171=>48|205=>214|321=>236|322=>237|243=>81|246=>130|283=>167|284=>168|285=>169|286=>170|129=>209|317=>208|318=>210|319=>211|320=>212|337=>234|338=>235|n=>n,fun|9=>9|3=>3|75=>135|76=>136|4=>4|5=>5|167=>260|37=>178|0=>0|85=>261|2=>2|168=>263|53=>255|175=>303|46=>301|210=>306|127=>223|145=>329|143=>327|21=>21|171=>254|173=>258|212=>298|51=>299|20=>20|213=>300|232=>335|233=>336|80=>141|n=>n,fun|15=>2|16=>3|17=>1|18=>6|19=>7|n=>n⟩
theorem Tryz.lays172:Go.Proofs.Lays.n172 Tryz.prog Tryz.lays172_ren:=⟨by kernel_rfl,fk func209,fk func48,fk func82,fk func214,fk func81,fk func131,fk func132,fk func130,fk func171,fk func172,fk func173,fk func174,fk func175,fk func167,fk func168,fk func169,fk func170,fk func213,fk func184,fk func208,fk func210,fk func211,fk func212,fk func236,fk func237,fk func234,fk func235,underlying0,isAgg0,sizeOf0,zeroValue0,underlying2,isAgg2,sizeOf2,zeroValue2,underlying3,isAgg3,sizeOf3,zeroValue3,underlying4,isAgg4,sizeOf4,zeroValue4,underlying5,isAgg5,sizeOf5,zeroValue5,underlying9,isAgg9,sizeOf9,zeroValue9,underlying20,isAgg20,sizeOf20,zeroValue20,underlying21,isAgg21,sizeOf21,zeroValue21,underlying178,isAgg178,sizeOf178,zeroValue178,underlying301,isAgg301,sizeOf301,zeroValue301,underlying299,isAgg299,sizeOf299,zeroValue299,underlying255,isAgg255,sizeOf255,zeroValue255,underlying135,isAgg135,sizeOf135,zeroValue135,underlying136,isAgg136,sizeOf136,zeroValue136,underlying261,isAgg261,sizeOf261,zeroValue261,underlying223,isAgg223,sizeOf223,zeroValue223,underlying327,isAgg327,sizeOf327,zeroValue327,underlying329,isAgg329,sizeOf329,zeroValue329,underlying260,isAgg260,sizeOf260,zeroValue260,underlying263,isAgg263,sizeOf263,zeroValue263,underlying254,isAgg254,sizeOf254,zeroValue254,underlying258,isAgg258,sizeOf258,zeroValue258,underlying303,isAgg303,sizeOf303,zeroValue303,underlying306,isAgg306,sizeOf306,zeroValue306,underlying298,isAgg298,sizeOf298,zeroValue298,underlying300,isAgg300,sizeOf300,underlying335,isAgg335,sizeOf335,zeroValue335,underlying336,isAgg336,sizeOf336,zeroValue336,by kernel_rfl,by kernel_rfl,by kernel_rfl,by kernel_rfl,by kernel_rfl⟩
open Go.RowKit in
theorem Tryz.strconv_Atoi(s:ByteArray)(n:Int)(hl:s.size<=18)(h:Lib.atoi s.data.toList=some n)(w:World):
  Calls Tryz.prog 82 #[.string s] w fun e w'=>e=.returned (.tuple #[.int .i64 n,.nilIface])/\∃ t,w'=Lib.bytesWorld w 5 t:=Any.strconv_Atoi Tryz.lays172 s n hl h w
def Tryz.laysM171_ren:Go.Shelf.Ren:=⟨fun|171=>48|243=>81|246=>130|283=>167|284=>168|285=>169|286=>170|129=>209|317=>208|318=>210|319=>211|320=>212|337=>234|338=>235|n=>n,fun|3=>3|9=>9|2=>2|4=>4|171=>254|0=>0|53=>255|37=>178|5=>5|173=>258|212=>298|51=>299|20=>20|213=>300|46=>301|232=>335|233=>336|n=>n,fun|17=>1|18=>6|19=>7|n=>n⟩
theorem Tryz.laysM171:Go.Proofs.LaysM.n171 Tryz.prog Tryz.laysM171_ren:={
 mixed:=by kernel_rfl
 f129:=fk func209
 f171:=fk func48
 f243:=fk func81
 f246:=fk func130
 f283:=fk func167
 f284:=fk func168
 f285:=fk func169
 f286:=fk func170
 f317:=fk func208
 f318:=fk func210
 f319:=fk func211
 f320:=fk func212
 f337:=fk func234
 f338:=fk func235
 t0:=underlying0
 a0:=isAgg0
 z0:=sizeOf0
 v0:=zeroValue0
 t2:=underlying2
 a2:=isAgg2
 z2:=sizeOf2
 v2:=zeroValue2
 t3:=underlying3
 a3:=isAgg3
 z3:=sizeOf3
 v3:=zeroValue3
 t4:=underlying4
 a4:=isAgg4
 z4:=sizeOf4
 v4:=zeroValue4
 t5:=underlying5
 a5:=isAgg5
 z5:=sizeOf5
 v5:=zeroValue5
 t9:=underlying9
 a9:=isAgg9
 z9:=sizeOf9
 v9:=zeroValue9
 t20:=underlying20
 a20:=isAgg20
 z20:=sizeOf20
 v20:=zeroValue20
 t37:=underlying178
 a37:=isAgg178
 z37:=sizeOf178
 v37:=zeroValue178
 t46:=underlying301
 a46:=isAgg301
 z46:=sizeOf301
 v46:=zeroValue301
 t51:=underlying299
 a51:=isAgg299
 z51:=sizeOf299
 v51:=zeroValue299
 t53:=underlying255
 a53:=isAgg255
 z53:=sizeOf255
 v53:=zeroValue255
 t171:=underlying254
 a171:=isAgg254
 z171:=sizeOf254
 v171:=zeroValue254
 t173:=underlying258
 a173:=isAgg258
 z173:=sizeOf258
 v173:=zeroValue258
 t212:=underlying298
 a212:=isAgg298
 z212:=sizeOf298
 v212:=zeroValue298
 t213:=underlying300
 a213:=isAgg300
 z213:=sizeOf300
 t232:=underlying335
 a232:=isAgg335
 z232:=sizeOf335
 v232:=zeroValue335
 t233:=underlying336
 a233:=isAgg336
 z233:=sizeOf336
 v233:=zeroValue336
 g17:=by kernel_rfl
 g18:=by kernel_rfl
 g19:=by kernel_rfl
 i0:=by kernel_rfl
 i2:=by kernel_rfl
 i3:=by kernel_rfl
 i4:=by kernel_rfl
 i5:=by kernel_rfl
 i9:=by kernel_rfl
 i20:=by kernel_rfl
 i37:=by kernel_rfl
 i46:=by kernel_rfl
 i51:=by kernel_rfl
 i53:=by kernel_rfl
 i171:=by kernel_rfl
 i173:=by kernel_rfl
 i212:=by kernel_rfl
 i232:=by kernel_rfl
 i233:=by kernel_rfl
 m17:=by kernel_rfl
 m18:=by kernel_rfl
 m19:=by kernel_rfl }
open Go.RowKit Go.Sort Go.Lib in
theorem Tryz.strconv_Itoa (n : Int) (h0 : -9223372036854775808 ≤ n) (h1 : n ≤ 9223372036854775807) (w : World) (htab : Lib.TabIs Tryz.prog w "internal/strconv.uint64pow10" .u64 Lib.pow10Tab) :
  Calls Tryz.prog 48 #[.int .i64 n] w fun e w'=>e=.returned (.string ⟨(Lib.itoa n).toArray⟩)/\∃ k os,w'=grow (w.drewN k) os:=Any.strconv_Itoa Tryz.laysM171 n h0 h1 w htab
def Tryz.laysM316_ren:Go.Shelf.Ren:=⟨fun|316=>184|n=>n,fun|9=>9|3=>3|4=>4|37=>178|0=>0|127=>223|5=>5|n=>n,fun|n=>n⟩
theorem Tryz.laysM316:Go.Proofs.LaysM.n316 Tryz.prog Tryz.laysM316_ren:={
 mixed:=by kernel_rfl
 f316:=fk func184
 t0:=underlying0
 a0:=isAgg0
 z0:=sizeOf0
 v0:=zeroValue0
 t3:=underlying3
 a3:=isAgg3
 z3:=sizeOf3
 v3:=zeroValue3
 t4:=underlying4
 a4:=isAgg4
 z4:=sizeOf4
 v4:=zeroValue4
 t9:=underlying9
 a9:=isAgg9
 z9:=sizeOf9
 v9:=zeroValue9
 t37:=underlying178
 a37:=isAgg178
 z37:=sizeOf178
 v37:=zeroValue178
 t127:=underlying223
 a127:=isAgg223
 z127:=sizeOf223
 v127:=zeroValue223
 t5:=underlying5
 a5:=isAgg5
 z5:=sizeOf5
 v5:=zeroValue5
 i0:=by kernel_rfl
 i3:=by kernel_rfl
 i4:=by kernel_rfl
 i5:=by kernel_rfl
 i9:=by kernel_rfl
 i37:=by kernel_rfl
 i127:=by kernel_rfl }
open Go.RowKit in
theorem Tryz.stringslite_Clone(s:ByteArray)(w:World)(hlim:s.size<=281474976710656):
  Calls Tryz.prog 184 #[.string s] w fun e w'=>e=.returned (.string s)/\Below w.heap.size w w':=Any.stringslite_Clone Tryz.laysM316 s w hlim
def Tryz.lays145_ren:Go.Shelf.Ren:=⟨fun|145=>217|220=>239|219=>255|217=>265|225=>266|224=>267|267=>268|266=>271|314=>272|n=>n,fun|9=>9|4=>4|59=>310|3=>3|5=>5|46=>301|146=>347|51=>299|n=>n,fun|1=>4|n=>n⟩
theorem Tryz.lays145:Go.Proofs.Lays.n145 Tryz.prog Tryz.lays145_ren:=⟨by kernel_rfl,fk func217,fk func265,fk func255,fk func239,fk func267,fk func266,fk func271,fk func268,fk func272,underlying3,isAgg3,sizeOf3,zeroValue3,underlying4,isAgg4,sizeOf4,zeroValue4,underlying5,isAgg5,sizeOf5,zeroValue5,underlying9,isAgg9,sizeOf9,zeroValue9,underlying301,isAgg301,sizeOf301,zeroValue301,underlying299,isAgg299,sizeOf299,zeroValue299,underlying310,isAgg310,sizeOf310,zeroValue310,underlying347,isAgg347,sizeOf347,zeroValue347,by kernel_rfl⟩
open Go.RowKit Go.Lib in
theorem Tryz.strings_Cut(s sep:ByteArray)(m:Int)(w:World)(hs:s.size<4294967281)(hm:w.cell? ⟨4,0,none⟩=some (.int .i64 m)):
  Calls Tryz.prog 217 #[.string s,.string sep] w fun e w'=>e=.returned (.tuple #[.string ⟨(Lib.cut s.data.toList sep.data.toList).1.toArray⟩,.string ⟨(Lib.cut s.data.toList sep.data.toList).2.1.toArray⟩,.bool (Lib.cut s.data.toList sep.data.toList).2.2])/\∃ n,w'=w.drewN n:=Any.strings_Cut Tryz.lays145 s sep m w hs hm
def Tryz.lays146_ren:Go.Shelf.Ren:=⟨fun|146=>215|221=>238|268=>252|138=>253|143=>254|195=>262|197=>263|218=>264|219=>255|260=>270|217=>265|225=>266|224=>267|267=>268|266=>271|314=>272|n=>n,fun|9=>9|31=>78|3=>3|4=>4|0=>0|105=>342|21=>21|5=>5|46=>301|119=>349|139=>352|138=>351|146=>347|51=>299|n=>n,fun|1=>4|3=>8|4=>9|n=>n⟩
theorem Tryz.lays146:Go.Proofs.Lays.n146 Tryz.prog Tryz.lays146_ren:=⟨by kernel_rfl,fk func253,fk func254,fk func215,fk func262,fk func263,fk func265,fk func264,fk func255,fk func238,fk func267,fk func266,fk func270,fk func271,fk func268,fk func252,fk func272,underlying0,isAgg0,sizeOf0,zeroValue0,underlying3,isAgg3,sizeOf3,zeroValue3,underlying4,isAgg4,sizeOf4,zeroValue4,underlying5,isAgg5,sizeOf5,zeroValue5,underlying9,isAgg9,sizeOf9,zeroValue9,underlying21,isAgg21,sizeOf21,zeroValue21,underlying78,isAgg78,sizeOf78,zeroValue78,underlying301,isAgg301,sizeOf301,zeroValue301,underlying299,isAgg299,sizeOf299,zeroValue299,underlying342,isAgg342,sizeOf342,zeroValue342,underlying349,isAgg349,sizeOf349,underlying351,isAgg351,sizeOf351,zeroValue351,underlying352,isAgg352,sizeOf352,zeroValue352,underlying347,isAgg347,sizeOf347,zeroValue347,by kernel_rfl,by kernel_rfl,by kernel_rfl⟩
open Go.RowKit Go.Lib in
theorem Tryz.strings_Split(s sep:ByteArray)(m:Int)(w:World)(hs:s.size<4294967281)(hm:w.cell? ⟨4,0,none⟩=some (.int .i64 m))(h1:1<=sep.size):
  Calls Tryz.prog 215 #[.string s,.string sep] w fun e w' =>
   e=.returned (.slice (some ⟨w.heap.size,0,none⟩) (Lib.countB s sep+1) (Lib.countB s sep+1))/\w'=w.alloc (.cells ((Lib.splitB sep 0 (Lib.countB s sep) s).map Value.string).toArray 9):=Any.strings_Split Tryz.lays146 (by kernel_rfl) s sep m w hs hm h1
def Tryz.lays229_ren:Go.Shelf.Ren:=⟨fun|229=>85|n=>n,fun|9=>9|40=>140|31=>78|152=>213|3=>3|0=>0|4=>4|21=>21|154=>215|n=>n,fun|n=>n⟩
theorem Tryz.lays229:Go.Proofs.Lays.n229 Tryz.prog Tryz.lays229_ren:=⟨by kernel_rfl,fk func85,underlying0,isAgg0,sizeOf0,zeroValue0,underlying3,isAgg3,sizeOf3,zeroValue3,underlying4,isAgg4,sizeOf4,zeroValue4,underlying9,isAgg9,sizeOf9,zeroValue9,underlying21,isAgg21,sizeOf21,zeroValue21,underlying78,isAgg78,sizeOf78,zeroValue78,underlying140,isAgg140,sizeOf140,zeroValue140,underlying213,isAgg213,sizeOf213,zeroValue213,underlying215,isAgg215,sizeOf215,zeroValue215⟩
open Go.RowKit Go.Lib in
theorem Tryz.strings_FieldsFunc_runes(g:Nat)(lb:Array Value)(eg:∀ args w,(callFunc g args).run Tryz.prog w=.ok (.enter g args) w)(p:Nat->Bool)(s:ByteArray)(w:World)(hs:s.size<=4294967296)(hp:PredAtRunes Tryz.prog g lb p w):
  Calls Tryz.prog 85 #[.string s,.func (.func g) #[] lb] w fun e w'=>∃ A,e=.returned (.slice (some ⟨A,0,none⟩) (Lib.goFieldsP p s).length (Lib.goFieldsP p s).length)/\w.heap.size<=A /\
   w'.ownsRow w.heap.size 9 1 (.slice (some ⟨A,0,none⟩) (Lib.goFieldsP p s).length (Lib.goFieldsP p s).length) (Lib.goFieldsP p s).length ((Lib.goFieldsP p s).map Value.string)/\Below w.heap.size w w':=Any.strings_FieldsFunc_runes Tryz.lays229 g lb eg p s w hs hp (by kernel_rfl) (by kernel_rfl)
end Go.Proofs
