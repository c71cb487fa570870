import Derived.Test.YtfigmlfdnickmaaGreatDoorL13
import Derived.Deep.CutRange
set_option maxRecDepth 100000
set_option maxHeartbeats 8000000
variable{name:ByteArray}{a b fr k long til u:Int}{B Q d i m n' p:Nat}{c1 col col':Nat->Option Go.Proofs.YtfigmlfdnickmaaGreatDoor.Col}{r:Go.Proofs.YtfigmlfdnickmaaGreatDoor.Raw}{s:Go.Proofs.YtfigmlfdnickmaaGreatDoor.Desk.St}{Y Z w w' w1 wx:Go.World}
namespace Go.Proofs.YtfigmlfdnickmaaGreatDoor
open Go.RowKit
open Desk (Ent St Ids kept a0C a0Q a1C a2e ofB a0y a2c Mid a1H a0z Inv)
theorem Env.ten(h:Env w)(hb:Below 10 w wx):Env wx:=by
 obtain⟨m,hm⟩:=h.c5L;have c:∀ {b:Nat}{o:Nat}{v:Value},b<10->w.cell? ⟨b,o,none⟩=some v->wx.cell? ⟨b,o,none⟩=some v:=fun hb' hv=>(hb.cell (p:=⟨_,_,none⟩) hb').trans hv
 have ht:=h.tab;obtain⟨a0,a1,a2,a3,a4,a5,a6,a7,a8,a9,a10,a11⟩:=ht;refine⟨⟨c (by decide) a0,c (by decide) a1,c (by decide) a2,c (by decide) a3,c (by decide) a4,c (by decide) a5,c (by decide) a6,c (by decide) a7,c (by decide) a8,c (by decide) a9,c (by decide) a10,c (by decide) a11⟩,⟨m,c (by decide) hm⟩,?_,Nat.le_trans h.size hb.size,c (by decide) h.mo,c (by decide) h.tu,c (by decide) h.we,c (by decide) h.th,c (by decide) h.fr,c (by decide) h.sa,c (by decide) h.su⟩;have hp:=h.pow;unfold Lib.TabIs World.var? at hp ⊢;simp only[c6q,Option.bind_some] at hp ⊢;rw[hb.block 0 (by decide)];exact hp
theorem Step.ten{S:Col->Prop}(h:Step S B col col' w w')(hB:10<=B)(hs:10<=w.heap.size)(hc:∀ b,b<10->col b=none):Below 10 w w'/\∀ b,b<10->col' b=none:=by
 obtain⟨G,h1,h2⟩:=h.off;refine⟨⟨h1.os,h1.tape,h1.output,h1.size,fun b hb=>h1.block b (by omega) (fun hx=>?_)⟩,fun b hb=>?_⟩
 ·rcases h2 b hx with ⟨c,e,_⟩|⟨_,e⟩
  ·rw[hc b hb] at e;cases e
  ·omega
 ·cases e:col' b with
  |none=>rfl
  |some c =>
   rcases h.new b c e with e1|e1
   ·rw[hc b hb] at e1;cases e1
   ·omega
structure BD(w:World)(p d:Nat)(s:St)(r:Raw)(col:Nat->Option Col):Prop where
 pc:w.heap[p]?=some (.cells #[.pointer (some ⟨d,0,none⟩)] 99 (0,0))
 pn:col p=none
 ds:DSt w d s r col
 env:Env w
 gl:∀ b,b<10->col b=none
def b5M(w:World)(p d:Nat)(col:Nat->Option Col)(q:St × Desk.Rep)(v:Value)(w':World):Prop :=
 ∃ (r':Raw) (col':Nat->Option Col),BD w' p d q.1 r' col'/\Step anyS w.heap.size col col' w w'/\a5m w' w.heap.size col' v q.2
def f9T(t:ByteArray):Prop:=∀ X,Env X->Calls Tryz.prog 45 #[.string t] X fun e w'=>a7T t e/\Below X.heap.size X w'
theorem f6L(h:BD w p d s r col)(t:ByteArray)(line:Value)(l:Desk.a7U)(hRD:f9T t)(hr:∀ e,a7T t e->e=.returned (.tuple #[line,.int .i64 0,.int .i64 0]))(hmd:Desk.Mid (Desk.a0g s l).1)(hin:Desk.Inv (Desk.a1q s l).1)(hgl:(Desk.a0g s l).2.granted.length<=50000)
  (hans:∀ X,Tab X->10<=X.heap.size->DSt X d s r col->Calls Tryz.prog 64 #[.pointer (some ⟨d,0,none⟩),line] X fun e w'=>∃ v,e=.returned v/\a0l X d col (Desk.a0g s l) v w'):
  Calls Tryz.prog 21 #[.pointer (some ⟨p,0,none⟩),.string t] w fun e w'=>∃ v,e=.returned v/\b5M w p d col (Desk.a1q s l) v w':=by
 have hX:Below w.heap.size w (w.alloc a0f):=(zr _ _).alloc (zq _) _;have hq:=a0p w a0f;have hs:w.heap.size<(w.alloc a0f).heap.size:=by simp
 have RD:=a0b (hRD (w.alloc a0f) (h.env.later hX));have HX:=a0b (zA hX (zA (Q7.of hq) (zA (h.ds.dk.none (zq _)) hs)));have HH:=a0b h;have HR:=a0b hr;have HD:Hid (∀ w1,Below w.heap.size w w1->Calls Tryz.prog 46 #[.pointer (some ⟨d,0,none⟩),line] w1 fun e w'=>∃ v,e=.returned v/\a0l w1 d col (Desk.a1q s l) v w'):=fun w1 k=>c6E ⟨h.ds.dk.later k,h.ds.of,h.ds.wl,h.ds.hl,h.ds.inv⟩ line l hmd hgl (fun X kX hds=>hans X (((h.env.later k).later kX).tab) (Nat.le_trans (Nat.le_trans h.env.size k.size) kX.size) hds)
 have HI:=a0b hin;have hpl:p<w.heap.size:=(Array.getElem?_eq_some_iff.1 h.pc).1;clear h hr hans hX hq hs hgl hmd hin;generalize Desk.a1q s l=q at *
 go_enter Tryz.func21,Tryz.ntmps21
 go_upto_region 1 with fail
 change Code.wp _ _ _ _ (w.alloc a0f);generalize w.alloc a0f=X at *
 go_upto_region 2 with (first
  |(go_at_call 45;refine RD.out.mono ?_;rintro e w1 ⟨hrr,hb⟩;obtain rfl:=HR.out _ hrr))
 have BW:Hid (Below w.heap.size w w1):=HX.out.1.trans (hb.mono HX.out.1.size)
 have pc:w1.cell? ⟨p,0,none⟩=some (.pointer (some ⟨d,0,none⟩)):=by
  have:=(BW.out.block p hpl).trans HH.out.pc;simp[World.cell?,this]
 have DD:=a0b (HD.out w1 BW.out);have QX:Hid (Q7 w1 w.heap.size/\w.heap.size<w1.heap.size):=⟨HX.out.2.1.later (hb.block _ HX.out.2.2.2),Nat.lt_of_lt_of_le HX.out.2.2.2 hb.size⟩;clear HD RD HR hb hrr
 go_wp2_with fail
 refine DD.out.mono ?_;rintro e w2 ⟨v,rfl,ap⟩;obtain⟨er,at_,nn,a1,a2,a3,a4,n1,n2,n3,n4,c1,c2,c3,c4,rfl,q7,hf⟩:=ap.up BW.out (zq _) QX.out.2 HX.out.2.2.1 QX.out.1
 have HF:Hid (b5M w p d col q (a0s er at_ nn (.slice a1 n1 c1) (.slice a2 n2 c2) (.slice a3 n3 c3) (.slice a4 n4 c4)) (a2w w2 w.heap.size (.int .i64 er) (.int .i64 at_) (.int .i64 nn) (.slice a1 n1 c1) (.slice a2 n2 c2) (.slice a3 n3 c3) (.slice a4 n4 c4))):=by
  obtain⟨r',col',k1,k2,k3,k4,k5,k6⟩:=hf (.int .i64 er) (.int .i64 at_) (.int .i64 nn) (.slice a1 n1 c1) (.slice a2 n2 c2) (.slice a3 n3 c3) (.slice a4 n4 c4);have h0:=HH.out;obtain⟨t1,t2⟩:=k5.ten h0.env.size h0.env.size h0.gl;exact⟨r',col',⟨(k5.blockN hpl h0.pn hpl).trans h0.pc,k5.keepN h0.pn hpl,⟨k1,k2,k3,k4,HI.out⟩,h0.env.ten t1,t2⟩,k5,k6⟩
 clear ap hf DD pc;obtain⟨q0,q1,q2,q3,q4,q5,q6,fq⟩:=q7;simp only[a0s]
 go_wp2_with fail
 exact bodyPost_ret (v:=a0s er at_ nn (.slice a1 n1 c1) (.slice a2 n2 c2) (.slice a3 n3 c3) (.slice a4 n4 c4)) (by simp[results,Tryz.results21,go_sem,a0s,q0,q1,q2,q3,q4,q5,q6]) rfl ⟨_,rfl,HF.out⟩
theorem f9O(h:BD w p d s r col)(t:ByteArray)(er at_:Int)(hRD:f9T t)(he:er≠0)(hr:∀ e,a7T t e->e=.returned (.tuple #[.nilIface,.int .i64 er,.int .i64 at_])):
  Calls Tryz.prog 21 #[.pointer (some ⟨p,0,none⟩),.string t] w fun e w'=>∃ v,e=.returned v/\b5M w p d col (s,⟨er,at_,0,[],[],[],[]⟩) v w':=by
 have hX:Below w.heap.size w (w.alloc a0f):=(zr _ _).alloc (zq _) _;have hq:=a0p w a0f;have hs:w.heap.size<(w.alloc a0f).heap.size:=by simp
 have RD:=a0b (hRD (w.alloc a0f) (h.env.later hX));have HX:=a0b (zA hX (zA (Q7.of hq) (zA (h.ds.dk.none (zq _)) hs)));have HH:=a0b h;have HR:=a0b hr;have hpl:p<w.heap.size:=(Array.getElem?_eq_some_iff.1 h.pc).1;have hb1:(er != 0)=true:=by simpa using he
 clear h hr hX hq hs he
 go_enter Tryz.func21,Tryz.ntmps21
 go_upto_region 1 with fail
 change Code.wp _ _ _ _ (w.alloc a0f);generalize w.alloc a0f=X at *
 go_upto_region 2 with (first
  |(go_at_call 45;refine RD.out.mono ?_;rintro e w1 ⟨hrr,hb⟩;obtain rfl:=HR.out _ hrr))
 have BW:Hid (Below w.heap.size w w1):=HX.out.1.trans (hb.mono HX.out.1.size);have QX:Hid (Q7 w1 w.heap.size):=HX.out.2.1.later (hb.block _ HX.out.2.2.2)
 have HF:Hid (∀ a b c e f g i,b5M w p d col (s,⟨er,at_,0,[],[],[],[]⟩) (a0s er at_ 0 (.slice none 0 0) (.slice none 0 0) (.slice none 0 0) (.slice none 0 0)) (a2w w1 w.heap.size a b c e f g i)):=fun a b c e f g i=>by
  have h0:=HH.out;have ko:=a2R w1 w.heap.size a b c e f g i;have nq:=h0.ds.dk.none (zq w.heap.size);have st:Step anyS w.heap.size col col w (a2w w1 w.heap.size a b c e f g i):=(Step.below BW.out).trans ⟨⟨_,ko,fun x hx=>.inr (by have:x=w.heap.size:=List.mem_singleton.1 hx;subst this;exact⟨nq,Nat.le_refl _⟩)⟩,fun _ _ h=>h,fun _ _ h=>.inl h⟩;obtain⟨t1,t2⟩:=st.ten h0.env.size h0.env.size h0.gl;exact⟨r,col,⟨(st.blockN hpl h0.pn hpl).trans h0.pc,h0.pn,⟨(h0.ds.dk.later BW.out).off ko (fun x hx=>by have:x=w.heap.size:=List.mem_singleton.1 hx;subst this;exact nq),h0.ds.of,h0.ds.wl,h0.ds.hl,h0.ds.inv⟩,h0.env.ten t1,t2⟩,st,⟨_,_,_,_,[],rfl,rfl,a3j.nil _ _ _,a2I.nil _ _ _,a2I.nil _ _ _,a2I.nil _ _ _,(fun b hb=>by cases hb),fun b hb=>by cases hb⟩⟩
 clear RD HR hb hrr HX;obtain⟨q0,q1,q2,q3,q4,q5,q6,fq⟩:=QX.out
 go_wp2_with fail
 exact bodyPost_ret (v:=a0s er at_ 0 (.slice none 0 0) (.slice none 0 0) (.slice none 0 0) (.slice none 0 0)) (by simp[results,Tryz.results21,go_sem,a0s,q0,q1,q2,q3,q4,q5,q6]) rfl ⟨_,rfl,HF.out _ _ _ _ _ _ _⟩
theorem d0q(t:TypeId)(h:t≠149)(xT:TypeId)(v:Value)(w:World):(Instr.typeAssert (.iface t v) xT 149 true).run Tryz.prog w=.ok (.tuple #[.agg #[.string ⟨#[]⟩,.int .i64 0],.bool false]) w:=by
 simp[Instr.typeAssert,go_sem,Result.andThen,run_underlying Tryz.underlying149,h]
theorem d2o(t:TypeId)(h:t≠154)(xT:TypeId)(v:Value)(w:World):(Instr.typeAssert (.iface t v) xT 154 true).run Tryz.prog w=.ok (.tuple #[.agg #[.string ⟨#[]⟩,.int .i64 0,.int .i64 0,.int .i64 0],.bool false]) w:=by
 simp[Instr.typeAssert,go_sem,Result.andThen,run_underlying Tryz.underlying154,h]
theorem d2F(t:TypeId)(h:t≠156)(xT:TypeId)(v:Value)(w:World):(Instr.typeAssert (.iface t v) xT 156 true).run Tryz.prog w=.ok (.tuple #[.agg #[.string ⟨#[]⟩,.int .i64 0,.int .i64 0,.int .i64 0,.int .i64 0],.bool false]) w:=by
 simp[Instr.typeAssert,go_sem,Result.andThen,run_underlying Tryz.underlying156,h]
theorem d3H(t:TypeId)(h:t≠157)(xT:TypeId)(v:Value)(w:World):(Instr.typeAssert (.iface t v) xT 157 true).run Tryz.prog w=.ok (.tuple #[.agg #[.string ⟨#[]⟩,.int .i64 0,.int .i64 0,.int .i64 0,.int .i64 0],.bool false]) w:=by
 simp[Instr.typeAssert,go_sem,Result.andThen,run_underlying Tryz.underlying157,h]
theorem d0K(t:TypeId)(h:t≠165)(xT:TypeId)(v:Value)(w:World):(Instr.typeAssert (.iface t v) xT 165 true).run Tryz.prog w=.ok (.tuple #[.agg #[.string ⟨#[]⟩,.int .i64 0,.int .i64 0,.int .i64 0,.bool false,.bool false,.bool false,.bool false,.bool false,.bool false,.bool false,.int .i64 0,.int .i64 0,.int .i64 0,.int .i64 0,.int .i64 0],.bool false]) w:=by
 simp[Instr.typeAssert,go_sem,Result.andThen,run_underlying Tryz.underlying165,h]
theorem d0y(t:TypeId)(h:t≠167)(xT:TypeId)(v:Value)(w:World):(Instr.typeAssert (.iface t v) xT 167 true).run Tryz.prog w=.ok (.tuple #[.agg #[.int .i64 0],.bool false]) w:=by
 simp[Instr.typeAssert,go_sem,Result.andThen,run_underlying Tryz.underlying167,h]
theorem d1Q(t:TypeId)(h:t≠168)(xT:TypeId)(v:Value)(w:World):(Instr.typeAssert (.iface t v) xT 168 true).run Tryz.prog w=.ok (.tuple #[.agg #[.int .i64 0],.bool false]) w:=by
 simp[Instr.typeAssert,go_sem,Result.andThen,run_underlying Tryz.underlying168,h]
theorem d8g(t:TypeId)(h:t≠170)(xT:TypeId)(v:Value)(w:World):(Instr.typeAssert (.iface t v) xT 170 true).run Tryz.prog w=.ok (.tuple #[.agg #[.string ⟨#[]⟩,.bool false,.int .i64 0,.int .i64 0],.bool false]) w:=by
 simp[Instr.typeAssert,go_sem,Result.andThen,run_underlying Tryz.underlying170,h]
theorem d2E(t:TypeId)(h:t≠173)(xT:TypeId)(v:Value)(w:World):(Instr.typeAssert (.iface t v) xT 173 true).run Tryz.prog w=.ok (.tuple #[.agg #[],.bool false]) w:=by
 simp[Instr.typeAssert,go_sem,Result.andThen,run_underlying Tryz.underlying173,h]
theorem e3J(t:TypeId)(h:t≠176)(xT:TypeId)(v:Value)(w:World):(Instr.typeAssert (.iface t v) xT 176 true).run Tryz.prog w=.ok (.tuple #[.agg #[.string ⟨#[]⟩,.int .i64 0,.int .i64 0],.bool false]) w:=by
 simp[Instr.typeAssert,go_sem,Result.andThen,run_underlying Tryz.underlying176,h]
theorem e7l(t:TypeId)(h:t≠178)(xT:TypeId)(v:Value)(w:World):(Instr.typeAssert (.iface t v) xT 178 true).run Tryz.prog w=.ok (.tuple #[.agg #[.string ⟨#[]⟩,.int .i64 0,.int .i64 0,.int .i64 0,.int .i64 0],.bool false]) w:=by
 simp[Instr.typeAssert,go_sem,Result.andThen,run_underlying Tryz.underlying178,h]
theorem e3K(t:TypeId)(h:t≠180)(xT:TypeId)(v:Value)(w:World):(Instr.typeAssert (.iface t v) xT 180 true).run Tryz.prog w=.ok (.tuple #[.agg #[.int .i64 0,.int .i64 0,.bool false,.bool false,.bool false,.bool false,.bool false,.bool false,.bool false,.int .i64 0,.int .i64 0,.int .i64 0,.int .i64 0,.int .i64 0],.bool false]) w:=by
 simp[Instr.typeAssert,go_sem,Result.andThen,run_underlying Tryz.underlying180,h]
theorem f3K(t:TypeId)(h:t≠182)(xT:TypeId)(v:Value)(w:World):(Instr.typeAssert (.iface t v) xT 182 true).run Tryz.prog w=.ok (.tuple #[.agg #[.int .i64 0],.bool false]) w:=by
 simp[Instr.typeAssert,go_sem,Result.andThen,run_underlying Tryz.underlying182,h]
theorem b8L(h:DSt w d s r col)(id:Int)(hid:0<=id/\id<=9999999):
  Calls Tryz.prog 97 #[.pointer (some ⟨d,0,none⟩),.agg #[.int .i64 id]] w fun e w'=>∃ v,e=.returned v/\a0l w d col (Desk.a0g s (.cancel id)) v w':=by
 obtain⟨hX,hXQ⟩:=a2q (w:=w) (.cells #[.int .i64 id] 168);have xi:((w.alloc (.cells #[.int .i64 id] 168)).alloc a0f).cell? ⟨w.heap.size,0,none⟩=some (.int .i64 id):=by simp[a0f]
 have HH:=a0b h;have HX:=a0b (zA hX hXQ);clear h hX hXQ
 go_enter Tryz.func97,Tryz.ntmps97
 go_upto_region 1 with fail
 change Code.wp _ _ _ _ ((w.alloc (.cells #[.int .i64 id] 168)).alloc a0f);generalize (w.alloc (.cells #[.int .i64 id] 168)).alloc a0f=X at HX xi ⊢;have hx:=HH.out.dk.later HX.out.1;obtain⟨m,f,a1,a2,a3,a4⟩:=hx.me;have kk:=a9g (n:=id) (by omega) (by omega);have hlook:=(a3.block (w':=X.drew) rfl).look b3h Tryz.underlying138 (c3P X.drew) kk;rw[a4 id] at hlook;have QX:Hid (Q7 X.drew (w.heap.size+1)):=Q7.of HX.out.2;have BX:Hid (Below w.heap.size w X.drew):=HX.out.1.drew
 cases he:a6U r.eg id with
 |none =>
  rw[he] at hlook;have hlook':(Instr.lookup 138 (.map (some m)) (.int .i64 id) false).run Tryz.prog X.drew=.ok (.pointer none) X.drew:=hlook;have HD:Hid (Desk.a0g s (.cancel id)=(s,Desk.Rep.error 9)):=by have e:=a7K HH.out.of he;simp only[Hid,Desk.a0g,e]
  clear hlook a3 a4 he hx HX
  go_big_region
  clear hlook' xi a1
  go_wp2_with fail
  refine (a0D 9 X.drew).mono ?_;rintro e w1 ⟨rfl,hb⟩;have hq:=hb.block (w.heap.size+1) (World.block_lt_of_cell? _ _ QX.out.q0)
  have HF:Hid (a0l w d col (Desk.a0g s (.cancel id)) (a0s 9 0 0 (.slice none 0 0) (.slice none 0 0) (.slice none 0 0) (.slice none 0 0)) (a2w w1 (w.heap.size+1) (.int .i64 9) (.int .i64 0) (.int .i64 0) (.slice none 0 0) (.slice none 0 0) (.slice none 0 0) (.slice none 0 0))):=by
   rw[HD.out];exact HH.out.said (BX.out.trans (hb.mono BX.out.size)) (by omega) 9 0 _ _ _ _ _ _ _
  obtain⟨q0,q1,q2,q3,q4,q5,q6,fq⟩:=QX.out.later hq;simp only[a0s]
  go_wp2_with fail
  exact bodyPost_ret (v:=a0s 9 0 0 (.slice none 0 0) (.slice none 0 0) (.slice none 0 0) (.slice none 0 0)) (by simp[results,Tryz.results97,go_sem,a0s,q0,q1,q2,q3,q4,q5,q6]) rfl ⟨_,rfl,HF.out⟩
 |some b =>
  rw[he] at hlook;obtain⟨g,hg,rfl,rfl⟩:=b2b he;have hlook':(Instr.lookup 138 (.map (some m)) (.int .i64 g.e.id) false).run Tryz.prog X.drew=.ok (.pointer (some ⟨g.eb,0,none⟩)) X.drew:=hlook;have hf:=a5I HH.out.of hx.ni hg;have ck:X.drew.cell? ⟨g.eb,1,none⟩=some (.int .i64 g.e.kind):=(hx.en g hg).1.k;have hd:=hx.later (a0q X);have HD:Hid (Desk.a0g s (.cancel g.e.id)=({ s with es:=kept g.e.id s.es },Desk.Rep.num 0)):=by simp only[Hid,Desk.a0g,hf]
  have hQ:w.heap.size+1<X.drew.heap.size:=World.block_lt_of_cell? _ _ QX.out.q0;have hcQ:col (w.heap.size+1)=none:=HH.out.dk.none (by omega)
  by_cases hk:g.e.kind=1
  ·have hkb:(g.e.kind != 1)=false:=by simpa using hk
   have LV:=a0b (a9f hd HH.out.of HH.out.wl HH.out.mid hg (HH.out.hl.goes1 hx.ni hg hk));have ST:Hid (Step anyS w.heap.size col col w X.drew):=Step.below BX.out;have Q2:=QX;have hQ2:=hQ;have hcQ2:=hcQ;clear hlook a3 a4 he hx HX hf hk hd hg
   go_big_region
   clear hlook' xi a1
   go_wp2_with fail
   refine LV.out.mono ?_;rintro e w2 ⟨rfl,r2,col2,k5,k6,k7,k8,k9⟩;have hq:=k9.blockN hQ2 hcQ2 hQ2
   have HF:Hid (a0l w d col (Desk.a0g s (.cancel g.e.id)) (a0s 0 0 0 (.slice none 0 0) (.slice none 0 0) (.slice none 0 0) (.slice none 0 0)) (a2w w2 (w.heap.size+1) (.int .i64 0) (.int .i64 0) (.int .i64 0) (.slice none 0 0) (.slice none 0 0) (.slice none 0 0) (.slice none 0 0))):=by
    rw[HD.out];exact a5O k5 k6 k7 k8 (ST.out.trans (k9.any ST.out.size)) (by omega) (k9.keepN hcQ2 hQ2) 0 0 _ _ _ _ _ _ _
   clear k5 k6 k7 k8 k9 LV;obtain⟨q0,q1,q2,q3,q4,q5,q6,fq⟩:=Q2.out.later hq
   go_wp2_with fail
   exact bodyPost_ret (v:=a0s 0 0 0 (.slice none 0 0) (.slice none 0 0) (.slice none 0 0) (.slice none 0 0)) (by simp[results,Tryz.results97,go_sem,a0s,q0,q1,q2,q3,q4,q5,q6]) rfl ⟨_,rfl,HF.out⟩
  ·have hkb:(g.e.kind != 1)=true:=by simpa using hk
   have hcnt:r.hl.length<=1000:=by
    have h1:=HH.out.hl.len;have h2:r.eg.length=s.es.length:=by rw[<- HH.out.of.es];simp
    have h3:=a1x HH.out.mid;omega
   have DR:=a0b (fun wx (k:Below X.drew.heap.size X.drew wx)=>b3L (hd.later k) HH.out.hl.1 hcnt g.e.a0Z g.e.id ⟨_,HH.out.hl.has hg hk,rfl,rfl⟩);have c0:X.drew.cell? ⟨g.eb,0,none⟩=some (.int .i64 g.e.id):=(hx.en g hg).1.en.c0;have c5:X.drew.cell? ⟨g.eb,5,none⟩=some (.int .i64 g.e.a0Z):=(hx.en g hg).1.u;have HG:=a0b (zA hg (zA hk hx.ni));clear hlook a3 a4 he hx HX hf hk hd hg hcnt
   go_big_region
   clear hlook' xi a1
   go_upto_region 5 with fail
   generalize hW:X.drew=W at *
   go_region_held3 (fun w'=>w'.cell? ⟨g.eb,0,none⟩=some (.int .i64 g.e.id)/\w'.cell? ⟨g.eb,5,none⟩=some (.int .i64 g.e.a0Z))
    (first
     |exact⟨c0,c5⟩
     |exact⟨((k5.en g HG.out.1).1).en.c0,((k5.en g HG.out.1).1).u⟩)
    (first
     |(go_at_call 149;refine (DR.out _ (a0q W)).mono ?_;rintro e w4 ⟨rfl,x,l',col1,k1,k2,k3,k4,k5,k6⟩))
   have LV:=a0b (a9f k5 (s:=s) ⟨HH.out.of.now,HH.out.of.given,HH.out.of.ts,HH.out.of.es,HH.out.of.th,HH.out.of.tb⟩ HH.out.wl HH.out.mid HG.out.1 (HH.out.hl.goes HG.out.2.2 HG.out.1 HG.out.2.1 k2 k3 k4));have ST:Hid (Step anyS w.heap.size col col1 w w4):=(Step.below BX.out).trans ((Step.below (a0q W)).trans (k6.any BX.out.size));have Q2:Hid (Q7 w4 (w.heap.size+1)):=QX.out.later (k6.blockN (b:=w.heap.size+1) hQ hcQ hQ);have hQ2:w.heap.size+1<w4.heap.size:=World.block_lt_of_cell? _ _ Q2.out.q0;have hcQ2:col1 (w.heap.size+1)=none:=k6.keepN hcQ hQ;clear k1 k2 k3 k4 k5 k6 DR c0 c5 ck hW
   go_wp2_with fail
   refine LV.out.mono ?_;rintro e w2 ⟨rfl,r2,col2,k5,k6,k7,k8,k9⟩;have hq:=k9.blockN hQ2 hcQ2 hQ2
   have HF:Hid (a0l w d col (Desk.a0g s (.cancel g.e.id)) (a0s 0 0 0 (.slice none 0 0) (.slice none 0 0) (.slice none 0 0) (.slice none 0 0)) (a2w w2 (w.heap.size+1) (.int .i64 0) (.int .i64 0) (.int .i64 0) (.slice none 0 0) (.slice none 0 0) (.slice none 0 0) (.slice none 0 0))):=by
    rw[HD.out];exact a5O k5 k6 k7 k8 (ST.out.trans (k9.any ST.out.size)) (by omega) (k9.keepN hcQ2 hQ2) 0 0 _ _ _ _ _ _ _
   clear k5 k6 k7 k8 k9 LV;obtain⟨q0,q1,q2,q3,q4,q5,q6,fq⟩:=Q2.out.later hq
   go_wp2_with fail
   exact bodyPost_ret (v:=a0s 0 0 0 (.slice none 0 0) (.slice none 0 0) (.slice none 0 0) (.slice none 0 0)) (by simp[results,Tryz.results97,go_sem,a0s,q0,q1,q2,q3,q4,q5,q6]) rfl ⟨_,rfl,HF.out⟩
def a1N(s:St)(e:Ent):St × Desk.Rep :=
 if s.given=60\/e.kind=3/\Desk.a1Y s.es=6 then (s,.error 5)
 else if e.kind≠3/\Desk.a1e s.ts s.es e.a0k e.a0c e.a0e=false then (s,.error 8)
 else Desk.a2t s e
def a1n(w:World)(B:Nat)(d:Nat)(col:Nat->Option Col)(q:St × Desk.Rep)(v:Value)(w':World):Prop :=
 ∃ (er n:Int) (r':Raw) (col':Nat->Option Col),v=a0s er 0 n (.slice none 0 0) (.slice none 0 0) (.slice none 0 0) (.slice none 0 0)/\q.2=⟨er,0,n,[],[],[],[]⟩/\DK w' d r' col'/\Of q.1 r'/\Wl r'/\Hl r'/\Step anyS B col col' w w'
theorem a4v{s':St}{r':Raw}(h1:DK Z d r' col')(h2:Of s' r')(h3:Wl r')(h4:Hl r')(h5:Step anyS B col col' w Z)(hQ:B<=Q)(hn:col' Q=none)(er n:Int)(a b c e f g i:Value):
  a1n w B d col (s',⟨er,0,n,[],[],[],[]⟩) (a0s er 0 n (.slice none 0 0) (.slice none 0 0) (.slice none 0 0) (.slice none 0 0)) (a2w Z Q a b c e f g i):=by
 have k:=a2R Z Q a b c e f g i;have st:Step anyS B col' col' Z (a2w Z Q a b c e f g i):=⟨⟨_,k,fun x hx=>.inr (by have:x=Q:=List.mem_singleton.1 hx;subst this;exact⟨hn,hQ⟩)⟩,fun _ _ h=>h,fun _ _ h=>.inl h⟩;exact⟨er,n,r',col',rfl,rfl,h1.off k (fun x hx=>by have:x=Q:=List.mem_singleton.1 hx;subst this;exact hn),h2,h3,h4,h5.trans st⟩
def EG.num(g:EG)(n:Int):EG:={ g with e:={ g.e with id:=n } }
theorem ENK.num{g:EG}(h:ENK w g)(hne:g.eb≠g.B)(n:Int):ENK (w.setCell ⟨g.eb,0,none⟩ (.int .i64 n)) (g.num n):=by
 have k:=Off.set0 g.eb w 0 (.int .i64 n);have hlt:=h.lt;refine⟨⟨zm _ _ _ h.en.c0,(zS _ _ _ _ (by simp)).trans h.en.c1,(zS _ _ _ _ (by simp)).trans h.en.c2,(zS _ _ _ _ (by simp)).trans h.en.c3,h.en.sl.off k (by simpa using Ne.symm hne),Nat.lt_of_lt_of_le h.en.lt k.size⟩,(zS _ _ _ _ (by simp)).trans h.k,(zS _ _ _ _ (by simp)).trans h.u,fun o=>(zF ..).trans (h.fz o),?_⟩;obtain⟨cs,e⟩:=h.bl;exact⟨_,heap_setCell_same _ _ _ _ _ _ e⟩
theorem Wl.a1Y(h:Wl r)(ho:Of s r):Desk.a1Y s.es=(r.wl.length:Int):=by
 unfold Desk.a1Y;rw[h,List.length_map,<- ho.es,List.filter_map,List.length_map];rfl
theorem b8G(h:DSt w d s r col){g:EG}(hg:ENK w g)(hB:B<=w.heap.size)(hf:s.given=60\/g.e.kind=3/\Desk.a1Y s.es=6):
  Calls Tryz.prog 144 #[.pointer (some ⟨d,0,none⟩),.pointer (some ⟨g.eb,0,none⟩)] w fun e w'=>∃ v,e=.returned v/\a1n w B d col (a1N s g.e) v w':=by
 have hX:Below w.heap.size w (w.alloc a0f):=(zr _ _).alloc (zq _) _;have QX:Hid (Q7 (w.alloc a0f) w.heap.size):=Q7.of (a0p w a0f);have cg:=(h.dk.later hX).c1;rw[h.of.given] at cg;have ck:=(hg.off (G:=[]) (Off.of_below hX) (by simp) (by simp)).k;have HD:Hid (a1N s g.e=(s,Desk.Rep.error 5)):=if_pos hf;obtain⟨v4,c4,own4,hc4⟩:=(h.dk.later hX).wa;obtain⟨a,cap,rfl⟩:=a0B own4;have hwn:=h.wl.a1Y h.of;have HH:=a0b h;have BX:=a0b hX;clear own4 hc4 h hX hg
 go_enter Tryz.func144,Tryz.ntmps144
 go_upto_region 1 with fail
 change Code.wp _ _ _ _ (w.alloc a0f);generalize w.alloc a0f=X at *;rcases hf with hf|⟨hf,hw⟩
 ·rw[hf] at cg
  go_wp2_with fail
  refine (a0D 5 X).mono ?_;rintro e w1 ⟨rfl,hb⟩;have hq:=hb.block w.heap.size (World.block_lt_of_cell? _ _ QX.out.q0)
  have HF:Hid (a1n w B d col (a1N s g.e) (a0s 5 0 0 (.slice none 0 0) (.slice none 0 0) (.slice none 0 0) (.slice none 0 0)) (a2w w1 w.heap.size (.int .i64 5) (.int .i64 0) (.int .i64 0) (.slice none 0 0) (.slice none 0 0) (.slice none 0 0) (.slice none 0 0))):=by
   rw[HD.out];exact a4v (HH.out.dk.later (BX.out.trans (hb.mono BX.out.size))) HH.out.of HH.out.wl HH.out.hl (Step.below (BX.out.trans (hb.mono BX.out.size))) hB (HH.out.dk.none (zq _)) 5 0 _ _ _ _ _ _ _
  obtain⟨q0,q1,q2,q3,q4,q5,q6,fq⟩:=QX.out.later hq;simp only[a0s]
  go_wp2_with fail
  exact bodyPost_ret (v:=a0s 5 0 0 (.slice none 0 0) (.slice none 0 0) (.slice none 0 0) (.slice none 0 0)) (by simp[results,Tryz.results144,go_sem,a0s,q0,q1,q2,q3,q4,q5,q6]) rfl ⟨_,rfl,HF.out⟩
 ·by_cases hg0:s.given<60
  ·rw[hf] at ck;rw[show r.wl.length=6 by omega] at c4
   go_wp2_with fail
   refine (a0D 5 X).mono ?_;rintro e w1 ⟨rfl,hb⟩;have hq:=hb.block w.heap.size (World.block_lt_of_cell? _ _ QX.out.q0)
   have HF:Hid (a1n w B d col (a1N s g.e) (a0s 5 0 0 (.slice none 0 0) (.slice none 0 0) (.slice none 0 0) (.slice none 0 0)) (a2w w1 w.heap.size (.int .i64 5) (.int .i64 0) (.int .i64 0) (.slice none 0 0) (.slice none 0 0) (.slice none 0 0) (.slice none 0 0))):=by
    rw[HD.out];exact a4v (HH.out.dk.later (BX.out.trans (hb.mono BX.out.size))) HH.out.of HH.out.wl HH.out.hl (Step.below (BX.out.trans (hb.mono BX.out.size))) hB (HH.out.dk.none (zq _)) 5 0 _ _ _ _ _ _ _
   obtain⟨q0,q1,q2,q3,q4,q5,q6,fq⟩:=QX.out.later hq;simp only[a0s]
   go_wp2_with fail
   exact bodyPost_ret (v:=a0s 5 0 0 (.slice none 0 0) (.slice none 0 0) (.slice none 0 0) (.slice none 0 0)) (by simp[results,Tryz.results144,go_sem,a0s,q0,q1,q2,q3,q4,q5,q6]) rfl ⟨_,rfl,HF.out⟩
  ·go_wp2_with fail
   refine (a0D 5 X).mono ?_;rintro e w1 ⟨rfl,hb⟩;have hq:=hb.block w.heap.size (World.block_lt_of_cell? _ _ QX.out.q0)
   have HF:Hid (a1n w B d col (a1N s g.e) (a0s 5 0 0 (.slice none 0 0) (.slice none 0 0) (.slice none 0 0) (.slice none 0 0)) (a2w w1 w.heap.size (.int .i64 5) (.int .i64 0) (.int .i64 0) (.slice none 0 0) (.slice none 0 0) (.slice none 0 0) (.slice none 0 0))):=by
    rw[HD.out];exact a4v (HH.out.dk.later (BX.out.trans (hb.mono BX.out.size))) HH.out.of HH.out.wl HH.out.hl (Step.below (BX.out.trans (hb.mono BX.out.size))) hB (HH.out.dk.none (zq _)) 5 0 _ _ _ _ _ _ _
   obtain⟨q0,q1,q2,q3,q4,q5,q6,fq⟩:=QX.out.later hq;simp only[a0s]
   go_wp2_with fail
   exact bodyPost_ret (v:=a0s 5 0 0 (.slice none 0 0) (.slice none 0 0) (.slice none 0 0) (.slice none 0 0)) (by simp[results,Tryz.results144,go_sem,a0s,q0,q1,q2,q3,q4,q5,q6]) rfl ⟨_,rfl,HF.out⟩
theorem DK.insEn(h:DK w d r col){f:Lit->Option Nat}(hc:w.cell? ⟨d,3,Option.none⟩=some (.map (some m)))(hm:col m=some .me)(hf:∀ id,f (b1K id)=a6U r.eg id){g:EG}(hg:ENK w g)(h1:col g.eb=Option.none)(h2:col g.B=Option.none)(h3:B<=g.eb)(h4:B<=g.B)(h5:g.eb≠g.B)(hno:∀ x∈r.eg,x.e.id≠g.e.id)(p:a4N Tryz.prog 3 w' m n' (Go.Proofs.YtfigmlfdnickmaaGreatDoor.upd f (b1K g.e.id) (some g.eb)) (if (f (b1K g.e.id)).isSome then r.eg.length else r.eg.length+1))(hgr:w.grownBy w' (some m)):
  ∃ col',DK w' d { r with eg:=r.eg++[g] } col'/\Step (·=.me) B col col' w w'/\∀ k,col k=Option.none->k≠g.eb->k≠g.B->col' k=Option.none:=by
 have k:Off [m] w w':=⟨hgr.os,hgr.tape,hgr.output,hgr.size,fun i hi hn=>hgr.block i hi (by simpa using hn)⟩;have st1:Step (·=.me) B col (a2Z col [g.eb] .ent) w w':=a3l k (fun x hx=>.inl ⟨_,by simp at hx;subst hx;exact hm,rfl⟩) (fun x hx _=>by simp at hx;omega)
 have hB1:a2Z col [g.eb] .ent g.B=Option.none:=by
  unfold a2Z;rw[h2];simp only;rw[if_neg (by simpa using Ne.symm h5)]
 have st2:Step (·=.me) B (a2Z col [g.eb] .ent) (a2Z (a2Z col [g.eb] .ent) [g.B] .span) w' w':=a3l (G:=[]) (Off.refl _ _) (by simp) (fun x hx _=>by simp at hx;omega);have st:=st1.trans st2;obtain⟨b1,b2,b3,b4,b5⟩:=h.base st (by simp);have hge:a2Z (a2Z col [g.eb] .ent) [g.B] .span g.eb=some .ent:=a9b (a5z (by simp) (fun c' hc=>by rw[h1] at hc;cases hc));have hgB:a2Z (a2Z col [g.eb] .ent) [g.B] .span g.B=some .span:=a5z (by simp) (fun c' hc=>by rw[hB1] at hc;cases hc);have hmne:g.eb≠m/\g.B≠m:=⟨fun e=>(by rw[e,hm] at h1;cases h1),fun e=>(by rw[e,hm] at h2;cases h2)⟩;refine⟨_,⟨b1,b2,h.mtC st (b5 2) (by simp),⟨m,upd f (b1K g.e.id) (some g.eb),(b5 3).trans hc,st.a9i _ _ hm,?_,fun x=>?_⟩,h.waC st (b5 4) (by simp),h.heC st (b5 5) (b3 5) (by simp),fun i hi=>h.thS st i hi (by simp),fun x hx=>?_,?_,?_,b3,b4,fun x c hx=>?_⟩,st,fun x hx n1 n2=>?_⟩
 ·rw[hf,a9D hno] at p;show a4N _ _ _ _ (r.eg++[g]).length _ (r.eg++[g]).length;rw[List.length_append];exact p.tight
 ·show upd f (b1K g.e.id) (some g.eb) (b1K x)=a6U (r.eg++[g]) x;rw[b5W hno]
  by_cases e:x=g.e.id
  ·rw[e,a4f,if_pos rfl]
  ·rw[a3n f _ (fun e2=>e (b6H e2)),if_neg e,hf]
 ·rcases List.mem_append.1 hx with hx|hx
  ·exact h.enS st (by simp) (by simp) x hx
  ·have:x=g:=by simpa using hx
   subst this;exact⟨hg.off k (by simpa using hmne.1) (by simpa using hmne.2),hge,hgB⟩
 ·show ((r.eg++[g]).map (·.eb)).Nodup;rw[List.map_append,List.nodup_append];refine⟨h.nd,by simp,fun a ha b hb e=>?_⟩;obtain⟨x,hx,rfl⟩:=List.mem_map.1 ha;have:=(h.en x hx).2.1;simp at hb;rw[e,hb,h1] at this;cases this
 ·show ((r.eg++[g]).map (·.e.id)).Nodup;rw[List.map_append,List.nodup_append];refine⟨h.ni,by simp,fun a ha b hb e=>?_⟩;obtain⟨x,hx,rfl⟩:=List.mem_map.1 ha;simp at hb;exact hno x hx (by rw[e,hb])
 ·rcases a1I hx with e|⟨_,e,_⟩
  ·rcases a1I e with e|⟨_,e,_⟩
   ·exact zL (h.lt x c e) st.size
   ·simp at e;subst e;exact zL hg.lt st.size
  ·simp at e;subst e;exact zL hg.en.lt st.size
 ·cases e:a2Z (a2Z col [g.eb] .ent) [g.B] .span x with
  |none=>rfl
  |some c =>
   rcases a1I e with e|⟨_,e,_⟩
   ·rcases a1I e with e|⟨_,e,_⟩
    ·rw[hx] at e;cases e
    ·exact absurd (List.mem_singleton.1 e) n1
   ·exact absurd (List.mem_singleton.1 e) n2
theorem DK.insTn(h:DK w d r col){f:Lit->Option Nat}(hc:w.cell? ⟨d,2,Option.none⟩=some (.map (some m)))(hm:col m=some .mt)(hf:∀ n,f (b8f n)=b2r r.tg n){t:TG}(ht:TH w t.tb t.name t.a0c t.A t.T Option.none Option.none [] [])(h1:col t.tb=Option.none)(h3:B<=t.tb)(hno:∀ x∈r.tg,x.name≠t.name)(p:a4N Tryz.prog 9 w' m n' (Go.Proofs.YtfigmlfdnickmaaGreatDoor.upd f (b8f t.name) (some t.tb)) (if (f (b8f t.name)).isSome then r.tg.length else r.tg.length+1))(hgr:w.grownBy w' (some m)):
  ∃ col',DK w' d { r with tg:=r.tg++[t] } col'/\Step (·=.mt) B col col' w w'/\∀ k,col k=Option.none->k≠t.tb->col' k=Option.none:=by
 have k:Off [m] w w':=⟨hgr.os,hgr.tape,hgr.output,hgr.size,fun i hi hn=>hgr.block i hi (by simpa using hn)⟩;have st:Step (·=.mt) B col (a2Z col [t.tb] (.a0k r.tg.length)) w w':=a3l k (fun x hx=>.inl ⟨_,by simp at hx;subst hx;exact hm,rfl⟩) (fun x hx _=>by simp at hx;omega);obtain⟨b1,b2,b3,b4,b5⟩:=h.base st (by simp);have hmne:t.tb≠m:=fun e=>by rw[e,hm] at h1;cases h1
 have hte:a2Z col [t.tb] (.a0k r.tg.length) t.tb=some (.a0k r.tg.length):=a5z (by simp) (fun c' hc=>by rw[h1] at hc;cases hc)
 have hnone:b2r r.tg t.name=Option.none:=by
  rw[a3r];have:r.tg.find? (fun y=>Desk.a0y y.name t.name)=Option.none:=List.find?_eq_none.2 (fun y hy=>by rw[Bool.not_eq_true,a3d];exact hno y hy);rw[this];rfl
 refine⟨_,⟨b1,b2,⟨m,upd f (b8f t.name) (some t.tb),(b5 2).trans hc,st.a9i _ _ hm,?_,fun x=>?_⟩,h.meC st (b5 3) (by simp),h.waC st (b5 4) (by simp),h.heC st (b5 5) (b3 5) (by simp),fun i hi=>?_,h.enS st (by simp) (by simp),h.nd,h.ni,b3,b4,fun x c hx=>?_⟩,st,fun x hx n1=>?_⟩
 ·rw[hf,hnone] at p;show a4N _ _ _ _ (r.tg++[t]).length _ (r.tg++[t]).length;rw[List.length_append];exact p.tight
 ·show upd f (b8f t.name) (some t.tb) (b8f x)=b2r (r.tg++[t]) x;rw[b9k hno]
  by_cases e:x=t.name
  ·rw[e,a4f,if_pos rfl]
  ·rw[a3n f _ (fun e2=>e (c2N e2)),if_neg e,hf]
 ·have hi':i<r.tg.length+1:=by simpa using hi
  by_cases e:i<r.tg.length
  ·have e2:(r.tg++[t])[i]'(by simpa using hi')=r.tg[i]:=List.getElem_append_left e;show ∃ ul us Fl Fs,TH w' (r.tg++[t])[i].tb _ _ _ _ ul us Fl Fs/\_;rw[e2];exact h.thS st i e (by simp)
  ·have e3:i=r.tg.length:=by omega
   subst e3;have e2:(r.tg++[t])[r.tg.length]'(by simp)=t:=by simp
   show ∃ ul us Fl Fs,TH w' (r.tg++[t])[r.tg.length].tb _ _ _ _ ul us Fl Fs/\_;rw[e2];refine⟨Option.none,Option.none,[],[],ht.off k (fun x hx=>by simp at hx;subst hx;simpa using hmne),fun x hx=>by simp at hx;subst hx;exact hte⟩
 ·rcases a1I hx with e|⟨_,e,_⟩
  ·exact zL (h.lt x c e) st.size
  ·simp at e;subst e;exact zL (ht.lt _ (by simp)) st.size
 ·cases e:a2Z col [t.tb] (.a0k r.tg.length) x with
  |none=>rfl
  |some c =>
   rcases a1I e with e|⟨_,e,_⟩
   ·rw[hx] at e;cases e
   ·exact absurd (List.mem_singleton.1 e) n1
structure TLs(w T:World)(B d Q:Nat)(s:St)(r:Raw)(col:Nat->Option Col)(g:EG)(r1:Raw)(c1:Nat->Option Col):Prop where
 dk:DK T d r1 c1
 en:ENK T (g.num (s.given+1))
 ce:c1 g.eb=none
 cb:c1 g.B=none
 st:Step anyS B col c1 w T
 q7:Q7 T Q
 qc:c1 Q=none
 of:Of (Desk.a2t s g.e).1 { r1 with given:=s.given+1,eg:=r1.eg++[g.num (s.given+1)] }
 wl:Wl { r1 with given:=s.given+1,eg:=r1.eg++[g.num (s.given+1)] }
 eg:r1.eg=r.eg
 hl:r1.hl=r.hl
def TL(w T:World)(B d Q:Nat)(s:St)(r:Raw)(col:Nat->Option Col)(g:EG):Prop:=∃ r1 c1,TLs w T B d Q s r col g r1 c1
structure b4h(w:World)(B d:Nat)(s:St)(r:Raw)(col:Nat->Option Col)(g:EG)(i:Nat):Prop where
 ds:DSt w d s r col
 en:ENK w g
 ce:col g.eb=none
 cb:col g.B=none
 be:B<=g.eb
 bb:B<=g.B
 ne:g.eb≠g.B
 hB:B<=w.heap.size
 hi:i<r.tg.length
 name:r.tg[i].name=g.e.a0k
 tb:g.tb=r.tg[i].tb
 ok:a1H s.now g.e
theorem b4h.num{g:EG}(h:b4h w B d s r col g i)(n:Int):a1H s.now (g.num n).e:=⟨h.ok.u1,h.ok.u9,h.ok.sl,h.ok.s0,h.ok.sp,h.ok.ri,h.ok.kd⟩
theorem b4h.fresh{g:EG}(h:b4h w B d s r col g i):∀ x∈r.eg,x.e.id≠(g.num (s.given+1)).e.id:=fun x hx e=>by
 have:=(h.ds.inv.idb _ (h.ds.of.mem hx)).2;simp only[EG.num] at e;omega
structure c7g(w Y:World)(B d Q:Nat)(s:St)(r:Raw)(col:Nat->Option Col)(g:EG):Prop where
 dk:DK Y d r col
 en:ENK Y (g.num (s.given+1))
 st:Step anyS B col col w Y
 q7:Q7 Y Q
 ql:Q<Y.heap.size
 qc:col Q=none
theorem b4h.numd{g:EG}(h:b4h w B d s r col g i):c7g w ((w.alloc a0f).setCell ⟨g.eb,0,none⟩ (.int .i64 (s.given+1))) B d w.heap.size s r col g:=by
 have hX:Below w.heap.size w (w.alloc a0f):=(zr _ _).alloc (zq _) _;have hg:=(h.en.off (G:=[]) (Off.of_below hX) (by simp) (by simp));have k:=Off.set0 g.eb (w.alloc a0f) 0 (.int .i64 (s.given+1));have hlt:=h.en.lt;refine⟨(h.ds.dk.later hX).off k (fun x hx=>?_),hg.num h.ne _,(Step.below hX).trans ⟨⟨_,k,fun x hx=>.inr ?_⟩,fun _ _ h=>h,fun _ _ h=>.inl h⟩,(Q7.of (a0p w a0f)).later (k.block _ (by simp) (by simp;omega)),Nat.lt_of_lt_of_le (by simp) k.size,h.ds.dk.none (zq _)⟩
 ·have:x=g.eb:=List.mem_singleton.1 hx;subst this;exact h.ce
 ·have:x=g.eb:=List.mem_singleton.1 hx;subst this;exact⟨h.ce,h.be⟩
theorem b4h.took{g:EG}(h:b4h w B d s r col g i)(y:c7g w Y B d Q s r col g)(hk:g.e.kind≠3)(q1:DK w1 d (r.setT i ((r.tg[i]'h.hi).with (a1z (r.tg[i]'h.hi).A g.e.a0e g.e.a0c) (a7e (s.given+1) g.eb (r.tg[i]'h.hi).T g.e.a0e))) c1)(q2:Step (·=.a0k i) Y.heap.size col c1 Y w1):TL w w1 B d Q s r col g:=by
 have hlt:=y.en.lt;have hltB:=y.en.en.lt;have o:=(h.ds.of.comes h.ds.inv.tn (g:=g.num (s.given+1)) h.fresh hk h.ok.ri h.hi h.name h.tb (s.given+1)).1;refine⟨_,c1,q1,q2.enk y.en (.inr ⟨h.ce,hlt⟩) (.inr ⟨h.cb,hltB⟩),q2.keepN h.ce hlt,q2.keepN h.cb hltB,y.st.trans (q2.any (Nat.le_trans h.hB y.st.size)),y.q7.later (q2.blockN y.ql y.qc y.ql),q2.keepN y.qc y.ql,?_,?_,rfl,rfl⟩
 ·exact⟨o.now,o.given,o.ts,o.es,o.th,o.tb⟩
 ·exact h.ds.wl.comes (g:=g.num (s.given+1)) hk
theorem b4h.waits{g:EG}(h:b4h w B d s r col g i)(y:c7g w Y B d Q s r col g)(hk:g.e.kind=3)(q1:DK w1 d { r with wl:=r.wl++[g.eb] } c1)(q2:Step (fun c=>c=.wa\/c=.desk) Y.heap.size col c1 Y w1):TL w w1 B d Q s r col g:=by
 have hlt:=y.en.lt;have hltB:=y.en.en.lt;have o:=h.ds.of.comesW (g:=g.num (s.given+1)) h.fresh hk h.hi h.name h.tb (s.given+1);refine⟨_,c1,q1,q2.enk y.en (.inr ⟨h.ce,hlt⟩) (.inr ⟨h.cb,hltB⟩),q2.keepN h.ce hlt,q2.keepN h.cb hltB,y.st.trans (q2.any (Nat.le_trans h.hB y.st.size)),y.q7.later (q2.blockN y.ql y.qc y.ql),q2.keepN y.qc y.ql,?_,?_,rfl,rfl⟩
 ·exact⟨o.now,o.given,o.ts,o.es,o.th,o.tb⟩
 ·exact h.ds.wl.comesW (g:=g.num (s.given+1)) hk
structure TL2(w T:World)(B d Q:Nat)(s:St)(r:Raw)(col:Nat->Option Col)(g:EG)(r2:Raw)(c2:Nat->Option Col):Prop where
 dk:DK T d r2 c2
 mem:g.num (s.given+1)∈r2.eg
 st:Step anyS B col c2 w T
 q7:Q7 T Q
 ql:Q<T.heap.size
 qc:c2 Q=none
 of:Of (Desk.a2t s g.e).1 r2
 wl:Wl r2
 eg:r2.eg=r.eg++[g.num (s.given+1)]
 hl:r2.hl=r.hl
theorem TLs.store{T:World}{g:EG}{r1:Raw}(t:TLs w T B d w.heap.size s r col g r1 c1)(a:b4h w B d s r col g i):
  ∃ m,(T.setCell ⟨d,1,none⟩ (.int .i64 (s.given+1))).cell? ⟨d,3,none⟩=some (.map (some m))/\(T.setCell ⟨d,1,none⟩ (.int .i64 (s.given+1))).cell? ⟨g.eb,0,none⟩=some (.int .i64 (s.given+1)) /\
   ∃ w3,(Instr.mapUpdate 138 (.map (some m)) (.int .i64 (s.given+1)) (.pointer (some ⟨g.eb,0,none⟩))).run Tryz.prog (T.setCell ⟨d,1,none⟩ (.int .i64 (s.given+1))).drew=.ok () w3/\∃ r2 c2,TL2 w w3 B d w.heap.size s r col g r2 c2:=by
 obtain⟨sg1,sg2⟩:=t.dk.setGiven (s.given+1);have hdB:=t.dk.dc;have hne:g.eb≠d:=fun e=>by have:=t.ce;rw[e,hdB] at this;cases this
 have hnB:g.B≠d:=fun e=>by have:=t.cb;rw[e,hdB] at this;cases this
 have k0:=Off.set0 d T 1 (.int .i64 (s.given+1));have en1:ENK (T.setCell ⟨d,1,none⟩ (.int .i64 (s.given+1))) (g.num (s.given+1)):=t.en.off k0 (by simpa[EG.num] using hne) (by simpa[EG.num] using hnB);have hq1:Q7 (T.setCell ⟨d,1,none⟩ (.int .i64 (s.given+1))) w.heap.size:=t.q7.later (sg2.blockN (World.block_lt_of_cell? _ _ t.q7.q0) t.qc (World.block_lt_of_cell? _ _ t.q7.q0));have hst1:Step anyS B col c1 w (T.setCell ⟨d,1,none⟩ (.int .i64 (s.given+1))):=t.st.trans (sg2.any (Nat.le_trans a.hB t.st.size));generalize T.setCell ⟨d,1,none⟩ (.int .i64 (s.given+1))=T1 at *;obtain⟨m,f,a1,a2,a3,a4⟩:=sg1.me;have hg0:=a.ds.inv.g0;have hg1:=a.ds.inv.g1;have kk:=a9g (n:=s.given+1) (by omega) (by omega)
 have hlen:r1.eg.length<=60:=by
  have h2:r.eg.length=s.es.length:=by rw[<- a.ds.of.es];simp
  have h3:=a1x a.ds.mid;rw[t.eg];omega
 obtain⟨w3,hrun,p1,p2⟩:=(a3.block (w':=T1.drew) rfl).storeRun b3h Tryz.underlying138 (by unfold maxLen;show r1.eg.length<_;omega) kk (by unfold b1K;trivial) g.eb;have d1:=sg1.later (a0q T1);have en2:ENK T1.drew (g.num (s.given+1)):=en1.off (G:=[]) (Off.of_below (a0q T1)) (by simp) (by simp);obtain⟨c2,e1,e2,e3⟩:=d1.insEn (g:=g.num (s.given+1)) (B:=B) a1 a2 a4 en2 t.ce t.cb a.be a.bb a.ne (fun x hx=>a.fresh x (by rw[<- t.eg];exact hx)) p1 p2;have hql:w.heap.size<T1.drew.heap.size:=World.block_lt_of_cell? _ _ hq1.q0;have hmq:w.heap.size≠m:=fun e=>by have:=t.qc;rw[e,a2] at this;cases this
 have hb:w3.heap[w.heap.size]?=T1.heap[w.heap.size]?:=p2.block _ hql (fun e=>hmq (Option.some.inj e));have hq3:=hq1.later hb;refine⟨m,a1,en1.en.c0,w3,hrun,_,c2,e1,List.mem_append_right _ (List.mem_singleton.2 rfl),(hst1.trans (Step.below (a0q T1))).trans (e2.mono (fun _ _=>trivial) (zq _)),hq3,World.block_lt_of_cell? _ _ hq3.q0,?_,t.of,t.wl,?_,t.hl⟩
 ·exact e3 _ t.qc (fun e=>by have:=a.en.lt;rw[show (g.num (s.given+1)).eb=g.eb from rfl] at e;omega) (fun e=>by have:=a.en.en.lt;rw[show (g.num (s.given+1)).B=g.B from rfl] at e;omega)
 ·show r1.eg++[_]=_;rw[t.eg]
theorem b7i(h:DK w d r col)(hh:Hp.a6r r.hl)(hl:r.hl.length<=900)(g:EG):
  Calls Tryz.prog 198 #[.pointer (some ⟨d,5,none⟩),.int .i64 g.e.a0Z,.int .i64 g.e.id,.pointer (some ⟨g.eb,0,none⟩)] w fun e w'=>e=.returned (.tuple #[])/\∃ (l':List Hp.Hi) (col':Nat->Option Col),Hp.a6r l'/\l'.Perm (r.hl++[a9r g])/\DK w' d { r with hl:=l' } col'/\Step (fun c=>c=.he\/c=.desk) w.heap.size col col' w w':=by
 obtain⟨v,a1,a2⟩:=h.he;refine (c3d d 5 v r.hl (a9r g) w a1 hh hl).mono ?_;rintro e w' ⟨rfl,l',p,h1,h2⟩;obtain⟨col',k1,k2⟩:=h.heap a2 p;exact⟨rfl,l',col',h1,h2,k1,k2⟩
theorem b8F{g:EG}(h:b4h w B d s r col g i)(hgv:s.given<60)(hk:g.e.kind≠3):
  Calls Tryz.prog 144 #[.pointer (some ⟨d,0,none⟩),.pointer (some ⟨g.eb,0,none⟩)] w fun e w'=>∃ v,e=.returned v/\a1n w B d col (a1N s g.e) v w':=by
 have hX:Below w.heap.size w (w.alloc a0f):=(zr _ _).alloc (zq _) _;have YY:=a0b h.numd;have cg:=(h.ds.dk.later hX).c1;rw[h.ds.of.given] at cg;have hgX:=(h.en.off (G:=[]) (Off.of_below hX) (by simp) (by simp));have ck:=hgX.k;have ci:=hgX.en.c0;have fi:=hgX.fz 0;have ct:=hgX.en.c1;have hg0:=h.ds.inv.g0;have hw1:IntKind.i64.wrap (s.given+1)=s.given+1:=a0i (by omega) (by omega)
 have HN:Hid (r.hl.length<=900):=by
  have h1:=h.ds.hl.len;have h2:r.eg.length=s.es.length:=by rw[<- h.ds.of.es];simp
  have h3:=a1x h.ds.mid;show _<=_;omega
 have HH:=a0b h;have hkb:(g.e.kind==3)=false:=by simpa using hk
 have hm:=h.ds.mid;have hi:=h.hi;have hhold:=b3a hm h.ds.of (e:=(g.num (s.given+1)).e) h.ok.sp h.ok.u1 hi h.name;have hfit:=b4W hm h.ds.of (h.num (s.given+1)) hi;have hroom:=b1H hm h.ds.of hi;have hcome:=(h.ds.of.comes h.ds.inv.tn (g:=g.num (s.given+1)) h.fresh hk h.ok.ri hi h.name h.tb (s.given+1)).2;have HT:=a0b (zA hhold (zA hfit (zA hroom hcome)));clear h hX hgX hm hhold hfit hroom hcome
 go_enter Tryz.func144,Tryz.ntmps144
 go_upto_region 1 with fail
 change Code.wp _ _ _ _ (w.alloc a0f);generalize w.alloc a0f=X at *
 go_upto_region 6 with fail
 have cy:(X.setCell ⟨g.eb,0,none⟩ (.int .i64 (s.given+1))).cell? ⟨g.eb,2,none⟩=some (.pointer (some ⟨g.tb,0,none⟩)):=YY.out.en.en.c1;generalize X.setCell ⟨g.eb,0,none⟩ (.int .i64 (s.given+1))=Y at YY cy ⊢;clear cg ck ci fi ct
 cases hfit:Desk.a1e s.ts s.es g.e.a0k g.e.a0c g.e.a0e with
 |false =>
  have HD:Hid (a1N s g.e=(s,Desk.Rep.error 8)):=by
   unfold a1N;rw[if_neg (by omega),if_pos ⟨hk,hfit⟩];rfl
  have TA:=a0b (b7e YY.out.dk i HH.out.hi YY.out.en HH.out.tb (by show col g.eb≠_;rw[HH.out.ce];simp) (by show col g.B≠_;rw[HH.out.cb];simp) HT.out.2.1 (by rw[HT.out.1];exact hfit));clear hfit
  go_wp2_with fail
  refine TA.out.mono ?_;rintro e w0 ⟨rfl,c0,q1,q2⟩;have Q1:Hid (Q7 w0 w.heap.size/\c0 w.heap.size=none):=⟨YY.out.q7.later (q2.blockN YY.out.ql YY.out.qc YY.out.ql),q2.keepN YY.out.qc YY.out.ql⟩;have P1:Hid (DK w0 d r c0/\Step anyS B col c0 w w0):=⟨q1,YY.out.st.trans (q2.any (Nat.le_trans HH.out.hB YY.out.st.size))⟩;clear q1 q2 TA cy
  go_wp2_with fail
  refine (a0D 8 w0).mono ?_;rintro e w1 ⟨rfl,hb⟩;have hq:=hb.block w.heap.size (World.block_lt_of_cell? _ _ Q1.out.1.q0)
  have HF:Hid (a1n w B d col (a1N s g.e) (a0s 8 0 0 (.slice none 0 0) (.slice none 0 0) (.slice none 0 0) (.slice none 0 0)) (a2w w1 w.heap.size (.int .i64 8) (.int .i64 0) (.int .i64 0) (.slice none 0 0) (.slice none 0 0) (.slice none 0 0) (.slice none 0 0))):=by
   rw[HD.out];exact a4v (P1.out.1.later hb) HH.out.ds.of HH.out.ds.wl HH.out.ds.hl (P1.out.2.trans (Step.below hb)) HH.out.hB Q1.out.2 8 0 _ _ _ _ _ _ _
  obtain⟨q0,q1,q2,q3,q4,q5,q6,fq⟩:=Q1.out.1.later hq;simp only[a0s]
  go_wp2_with fail
  exact bodyPost_ret (v:=a0s 8 0 0 (.slice none 0 0) (.slice none 0 0) (.slice none 0 0) (.slice none 0 0)) (by simp[results,Tryz.results144,go_sem,a0s,q0,q1,q2,q3,q4,q5,q6]) rfl ⟨_,rfl,HF.out⟩
 |true =>
  have HD:Hid (a1N s g.e=Desk.a2t s g.e):=by
   unfold a1N;rw[if_neg (by omega),if_neg (by rw[hfit];simp)];rfl
  have TA:=a0b (b3F YY.out.dk i HH.out.hi YY.out.en HH.out.tb (by show col g.eb≠_;rw[HH.out.ce];simp) (by show col g.B≠_;rw[HH.out.cb];simp) HT.out.2.1 ⟨HT.out.2.2.1.1,HT.out.2.2.1.2,HT.out.2.2.2,a6b HH.out.ok.ri⟩ (by rw[HT.out.1];exact hfit));clear hfit
  go_wp2_with fail
  refine TA.out.mono ?_;rintro e w0 ⟨rfl,c0,q1,q2⟩;have TT:Hid (TL w w0 B d w.heap.size s r col g):=HH.out.took YY.out hk q1 q2;clear q1 q2 TA cy c0
  by_cases hk1:g.e.kind=1
  ·obtain⟨r1,c1,tl⟩:=TT.out;have c0:w0.cell? ⟨g.eb,0,none⟩=some (.int .i64 (s.given+1)):=tl.en.en.c0;have d1:=tl.dk.c1;have f1:=tl.dk.fz 1;obtain⟨m,s1,s2,w3,hrun,r2,c2,t2⟩:=tl.store HH.out;have T2:=a0b t2;clear tl t2
   go_upto_region 9 with fail
   generalize w0.setCell ⟨d,1,none⟩ (.int .i64 (s.given+1))=T1 at s1 s2 hrun ⊢;clear c0 d1 f1
   go_big_region
   clear hrun s1 s2;obtain⟨e1,e2,e3⟩:=T2.out.dk.en _ T2.out.mem;have k0:w3.cell? ⟨g.eb,0,none⟩=some (.int .i64 (s.given+1)):=e1.en.c0;have k1:w3.cell? ⟨g.eb,1,none⟩=some (.int .i64 g.e.kind):=e1.k;have k5:w3.cell? ⟨g.eb,5,none⟩=some (.int .i64 g.e.a0Z):=e1.u;clear e1 e2 e3;have hkb1:(g.e.kind != 1)=false:=by simpa using hk1
   have HF:Hid (a1n w B d col (a1N s g.e) (a0s 0 0 (s.given+1) (.slice none 0 0) (.slice none 0 0) (.slice none 0 0) (.slice none 0 0)) (a2w w3 w.heap.size (.int .i64 0) (.int .i64 0) (.int .i64 (s.given+1)) (.slice none 0 0) (.slice none 0 0) (.slice none 0 0) (.slice none 0 0))):=by
    rw[HD.out];have X2:=T2.out;refine a4v X2.dk X2.of X2.wl ?_ X2.st HH.out.hB X2.qc 0 (s.given+1) _ _ _ _ _ _ _;have hh:=HH.out.ds.hl.comes1 (g:=g.num (s.given+1)) hk1;unfold Hl at hh ⊢;rw[X2.eg,X2.hl];exact hh
   obtain⟨q0,q1,q2,q3,q4,q5,q6,fq⟩:=T2.out.q7
   go_wp2_with fail
   exact bodyPost_ret (v:=a0s 0 0 (s.given+1) (.slice none 0 0) (.slice none 0 0) (.slice none 0 0) (.slice none 0 0)) (by simp[results,Tryz.results144,go_sem,a0s,q0,q1,q2,q3,q4,q5,q6]) rfl ⟨_,rfl,HF.out⟩
  ·obtain⟨r1,c1,tl⟩:=TT.out;have c0:w0.cell? ⟨g.eb,0,none⟩=some (.int .i64 (s.given+1)):=tl.en.en.c0;have d1:=tl.dk.c1;have f1:=tl.dk.fz 1;obtain⟨m,s1,s2,w3,hrun,r2,c2,t2⟩:=tl.store HH.out;have T2:=a0b t2;clear tl t2
   go_upto_region 9 with fail
   generalize w0.setCell ⟨d,1,none⟩ (.int .i64 (s.given+1))=T1 at s1 s2 hrun ⊢;clear c0 d1 f1
   go_big_region
   clear hrun s1 s2;obtain⟨e1,e2,e3⟩:=T2.out.dk.en _ T2.out.mem;have k0:w3.cell? ⟨g.eb,0,none⟩=some (.int .i64 (s.given+1)):=e1.en.c0;have k1:w3.cell? ⟨g.eb,1,none⟩=some (.int .i64 g.e.kind):=e1.k;have k5:w3.cell? ⟨g.eb,5,none⟩=some (.int .i64 g.e.a0Z):=e1.u;clear e1 e2 e3;have hkb1:(g.e.kind != 1)=true:=by simpa using hk1
   have PU:=a0b (fun wx (k:Below w3.heap.size w3 wx)=>b7i (T2.out.dk.later k) (by rw[T2.out.hl];exact HH.out.ds.hl.1) (by rw[T2.out.hl];exact HN.out) (g.num (s.given+1)))
   go_upto_region 11 with fail
   go_region_held3 (fun w'=>w'.cell? ⟨g.eb,0,none⟩=some (.int .i64 (s.given+1))/\w'.cell? ⟨g.eb,5,none⟩=some (.int .i64 g.e.a0Z))
    (first
     |exact⟨k0,k5⟩
     |exact⟨((p3.en _ T2.out.mem).1).en.c0,((p3.en _ T2.out.mem).1).u⟩)
    (first
     |(go_at_call 198;refine (PU.out _ (a0q w3)).mono ?_;rintro e w4 ⟨rfl,l',c3,p1,p2,p3,p4⟩))
   have k04:w4.cell? ⟨g.eb,0,none⟩=some (.int .i64 (s.given+1)):=((p3.en _ T2.out.mem).1).en.c0;have hq:=p4.blockN T2.out.ql T2.out.qc T2.out.ql
   have HF:Hid (a1n w B d col (a1N s g.e) (a0s 0 0 (s.given+1) (.slice none 0 0) (.slice none 0 0) (.slice none 0 0) (.slice none 0 0)) (a2w w4 w.heap.size (.int .i64 0) (.int .i64 0) (.int .i64 (s.given+1)) (.slice none 0 0) (.slice none 0 0) (.slice none 0 0) (.slice none 0 0))):=by
    rw[HD.out];have X2:=T2.out;have o:=X2.of;refine a4v p3 ⟨o.now,o.given,o.ts,o.es,o.th,o.tb⟩ X2.wl ?_ ((X2.st.trans (Step.below (a0q w3))).trans (p4.any (Nat.le_trans HH.out.hB X2.st.size))) HH.out.hB (p4.keepN X2.qc X2.ql) 0 (s.given+1) _ _ _ _ _ _ _;have hh:=HH.out.ds.hl.comes (g:=g.num (s.given+1)) hk1 p1 (by rw[<- X2.hl];exact p2);unfold Hl at hh ⊢;show _/\List.Perm l' ((r2.eg.filter _).map _);rw[X2.eg];exact hh
   clear p1 p2 p3 p4 PU k0 k1 k5;obtain⟨q0,q1,q2,q3,q4,q5,q6,fq⟩:=T2.out.q7.later hq
   go_wp2_with fail
   exact bodyPost_ret (v:=a0s 0 0 (s.given+1) (.slice none 0 0) (.slice none 0 0) (.slice none 0 0) (.slice none 0 0)) (by simp[results,Tryz.results144,go_sem,a0s,q0,q1,q2,q3,q4,q5,q6]) rfl ⟨_,rfl,HF.out⟩
theorem c6n:(Tryz.prog.info? 197).map (fun i=>(i.zero,i.size,i.bytes))=some (some (.pointer none),1,8):=by kernel_rfl
theorem b8E{g:EG}(h:b4h w B d s r col g i)(hgv:s.given<60)(hk:g.e.kind=3)(hw6:r.wl.length<6):
  Calls Tryz.prog 144 #[.pointer (some ⟨d,0,none⟩),.pointer (some ⟨g.eb,0,none⟩)] w fun e w'=>∃ v,e=.returned v/\a1n w B d col (a1N s g.e) v w':=by
 have hX:Below w.heap.size w (w.alloc a0f):=(zr _ _).alloc (zq _) _;have YY:=a0b h.numd;have cg:=(h.ds.dk.later hX).c1;rw[h.ds.of.given] at cg;have hgX:=(h.en.off (G:=[]) (Off.of_below hX) (by simp) (by simp));have ck:=hgX.k;have ci:=hgX.en.c0;have fi:=hgX.fz 0;have ct:=hgX.en.c1;have hg0:=h.ds.inv.g0;have hw1:IntKind.i64.wrap (s.given+1)=s.given+1:=a0i (by omega) (by omega)
 have HN:Hid (r.hl.length<=900):=by
  have h1:=h.ds.hl.len;have h2:r.eg.length=s.es.length:=by rw[<- h.ds.of.es];simp
  have h3:=a1x h.ds.mid;show _<=_;omega
 have HH:=a0b h;obtain⟨i0,hi0,hz0,hz1,hz2⟩:=info_parts c6n;obtain⟨v4,c4,own4,hc4⟩:=h.numd.dk.wa
 have cX4:(w.alloc a0f).cell? ⟨d,4,none⟩=some v4:=by
  rw[<- c4];exact (zS _ _ _ _ (by simp)).symm
 obtain⟨a,cap,rfl⟩:=a0B own4;have hwn:=h.ds.wl.a1Y h.ds.of;have fd4:=h.numd.dk.fz 4;have O4:=a0b (zA own4 hc4);have hdl:=World.block_lt_of_cell? _ _ c4;have hdv:d ∉ (Value.slice a r.wl.length cap).ownBlock.toList:=fun e=>by have:=hc4 _ (Option.mem_toList.1 e);rw[h.ds.dk.dc] at this;cases this
 rw[hk] at ck;clear h hX hgX own4 hc4
 go_enter Tryz.func144,Tryz.ntmps144
 go_upto_region 1 with fail
 change Code.wp _ _ _ _ (w.alloc a0f);generalize w.alloc a0f=X at *
 have HD:Hid (a1N s g.e=Desk.a2t s g.e):=by
  unfold a1N;rw[if_neg (by omega),if_neg (by simp[hk])];rfl
 go_upto_region 5 with fail
 generalize X.setCell ⟨g.eb,0,none⟩ (.int .i64 (s.given+1))=Y at *;clear cg ck ci fi ct cX4
 go_upto_region 8 with (first
  |(at_builtin;refine wpList_append_lies _ rfl _ _ 139 rfl 0 197 i0 _ 1 8 Tryz.underlying139 hi0 hz0 hz1 hz2 rfl (by decide) _ _ _ rfl (O4.out.1.alloc _) ⟨Y.heap.size,0,none⟩ 1 1 [a5x g.eb] rfl rfl (World.news_of_block (cs:=#[a5x g.eb]) (a0p Y _)) (by simp[a5x,Value.oneCell']) (by omega) (by unfold maxLen;omega) (by omega) (by simp) (Y.heap.size+1) (by simp) ?_;intro g2 cap2 w1 hown hgrow hat hlt;have kk:Off ((Value.slice a r.wl.length cap).ownBlock.toList) Y w1:=Off.grown ((Off.refl _ Y).alloc _) hgrow (fun k hk=>.inl (Option.mem_toList.2 hk));have z1:=kk.cell hdv c4;have z2:=(kk.frozen (o:=4) hdv hdl).trans fd4;clear hgrow))
 have hat':(Value.slice a r.wl.length cap).ownBlock=some g2\/g2=Y.heap.size+1:=hat
 have SW:=a0b (YY.out.dk.setWait (wl':=r.wl++[g.eb]) (v':=.slice (some ⟨g2,0,none⟩) (r.wl.length+1) cap2) O4.out.2 kk (by rw[List.length_append,List.map_append];exact hown) (fun b hb=>by
  have:g2=b:=by simpa[Value.ownBlock] using hb
  subst this;rcases hat' with e|e
  ·exact .inl e
  ·exact .inr (by omega)))
 have TT:Hid (TL w (w1.setCell ⟨d,4,none⟩ (.slice (some ⟨g2,0,none⟩) (r.wl.length+1) cap2)) B d w.heap.size s r col g):=by
  obtain⟨c1,q1,q2⟩:=SW.out;exact HH.out.waits YY.out hk q1 q2
 clear hown kk hat hat' z1 z2 SW O4 c4 fd4;have hk1:g.e.kind≠1:=by omega
 clear hdv hdl;generalize w1.setCell ⟨d,4,none⟩ (.slice (some ⟨g2,0,none⟩) (r.wl.length+1) cap2)=w0 at TT ⊢;obtain⟨r1,c1,tl⟩:=TT.out;have c0:w0.cell? ⟨g.eb,0,none⟩=some (.int .i64 (s.given+1)):=tl.en.en.c0;have d1:=tl.dk.c1;have f1:=tl.dk.fz 1;obtain⟨m,s1,s2,w3,hrun,r2,c2,t2⟩:=tl.store HH.out;have T2:=a0b t2;clear tl t2
 go_upto_region 9 with fail
 generalize w0.setCell ⟨d,1,none⟩ (.int .i64 (s.given+1))=T1 at s1 s2 hrun ⊢;clear c0 d1 f1
 go_big_region
 clear hrun s1 s2;obtain⟨e1,e2,e3⟩:=T2.out.dk.en _ T2.out.mem;have k0:w3.cell? ⟨g.eb,0,none⟩=some (.int .i64 (s.given+1)):=e1.en.c0;have k1:w3.cell? ⟨g.eb,1,none⟩=some (.int .i64 g.e.kind):=e1.k;have k5:w3.cell? ⟨g.eb,5,none⟩=some (.int .i64 g.e.a0Z):=e1.u;clear e1 e2 e3;have hkb1:(g.e.kind != 1)=true:=by simpa using hk1
 have PU:=a0b (fun wx (k:Below w3.heap.size w3 wx)=>b7i (T2.out.dk.later k) (by rw[T2.out.hl];exact HH.out.ds.hl.1) (by rw[T2.out.hl];exact HN.out) (g.num (s.given+1)))
 go_upto_region 11 with fail
 go_region_held3 (fun w'=>w'.cell? ⟨g.eb,0,none⟩=some (.int .i64 (s.given+1))/\w'.cell? ⟨g.eb,5,none⟩=some (.int .i64 g.e.a0Z))
  (first
   |exact⟨k0,k5⟩
   |exact⟨((p3.en _ T2.out.mem).1).en.c0,((p3.en _ T2.out.mem).1).u⟩)
  (first
   |(go_at_call 198;refine (PU.out _ (a0q w3)).mono ?_;rintro e w4 ⟨rfl,l',c3,p1,p2,p3,p4⟩))
 have k04:w4.cell? ⟨g.eb,0,none⟩=some (.int .i64 (s.given+1)):=((p3.en _ T2.out.mem).1).en.c0;have hq:=p4.blockN T2.out.ql T2.out.qc T2.out.ql
 have HF:Hid (a1n w B d col (a1N s g.e) (a0s 0 0 (s.given+1) (.slice none 0 0) (.slice none 0 0) (.slice none 0 0) (.slice none 0 0)) (a2w w4 w.heap.size (.int .i64 0) (.int .i64 0) (.int .i64 (s.given+1)) (.slice none 0 0) (.slice none 0 0) (.slice none 0 0) (.slice none 0 0))):=by
  rw[HD.out];have X2:=T2.out;have o:=X2.of;refine a4v p3 ⟨o.now,o.given,o.ts,o.es,o.th,o.tb⟩ X2.wl ?_ ((X2.st.trans (Step.below (a0q w3))).trans (p4.any (Nat.le_trans HH.out.hB X2.st.size))) HH.out.hB (p4.keepN X2.qc X2.ql) 0 (s.given+1) _ _ _ _ _ _ _;have hh:=HH.out.ds.hl.comes (g:=g.num (s.given+1)) hk1 p1 (by rw[<- X2.hl];exact p2);unfold Hl at hh ⊢;show _/\List.Perm l' ((r2.eg.filter _).map _);rw[X2.eg];exact hh
 clear p1 p2 p3 p4 PU k0 k1 k5;obtain⟨q0,q1,q2,q3,q4,q5,q6,fq⟩:=T2.out.q7.later hq
 go_wp2_with fail
 exact bodyPost_ret (v:=a0s 0 0 (s.given+1) (.slice none 0 0) (.slice none 0 0) (.slice none 0 0) (.slice none 0 0)) (by simp[results,Tryz.results144,go_sem,a0s,q0,q1,q2,q3,q4,q5,q6]) rfl ⟨_,rfl,HF.out⟩
theorem a9B{g:EG}(h:b4h w B d s r col g i):
  Calls Tryz.prog 144 #[.pointer (some ⟨d,0,none⟩),.pointer (some ⟨g.eb,0,none⟩)] w fun e w'=>∃ v,e=.returned v/\a1n w B d col (a1N s g.e) v w':=by
 by_cases hf:s.given=60\/g.e.kind=3/\Desk.a1Y s.es=6
 ·exact b8G h.ds h.en h.hB hf
 ·have hg1:=h.ds.inv.g1;have hwa:=h.ds.inv.wa;have hwn:=h.ds.wl.a1Y h.ds.of
  by_cases hk:g.e.kind=3
  ·exact b8E h (by omega) hk (by omega)
  ·exact b8F h (by omega) hk
theorem a5W(h:a1c s name u fr til≠0):Desk.a0g s (.enter k name u fr til long)=(s,Desk.Rep.error (a1c s name u fr til)):=by
 have e:Desk.a1M s k name u fr til long=a1c s name u fr til:=by
  unfold Desk.a1M a1c at *
  by_cases h1:Desk.a0S s.ts name u≠0
  ·rw[if_pos h1,if_pos h1]
  ·rw[if_neg h1] at h ⊢;rw[if_neg h1]
   by_cases h2:til<=fr
   ·rw[if_pos h2,if_pos (.inl h2)]
   ·rw[if_neg h2] at h;omega
 simp only[Desk.a0g,e];rw[if_pos h]
theorem a1E(h:a1c s name u fr til=0):Desk.a0S s.ts name u=0/\fr<til:=by
 unfold a1c at h
 by_cases h1:Desk.a0S s.ts name u≠0
 ·rw[if_pos h1] at h;omega
 ·rw[if_neg h1] at h
  by_cases h2:til<=fr
  ·rw[if_pos h2] at h;omega
  ·omega
theorem b0W(h:a1c s name u fr til=0)(hl:s.now+long<=1048320):Desk.a0g s (.enter k name u fr til long)=a1N s (Desk.a8p s k name u fr til long):=by
 obtain⟨h1,h2⟩:=a1E h;simp only[Desk.a0g];unfold Desk.a1M a1N;rw[if_neg (c:=Desk.a0S s.ts name u≠0) (by omega),if_neg (c:=til<=fr\/1048320<s.now+long) (by omega)];have ek:(Desk.a8p s k name u fr til long).kind=k:=rfl;have et:(Desk.a8p s k name u fr til long).a0k=name:=rfl;have eu:(Desk.a8p s k name u fr til long).a0c=u:=rfl;have es:(Desk.a8p s k name u fr til long).a0e=[(fr,til)]:=rfl;rw[ek,et,eu,es]
 by_cases h3:s.given=60
 ·simp[h3]
 ·by_cases h4:k=3
  ·by_cases h5:Desk.a1Y s.es=6
   ·simp[h3,h4,h5]
   ·simp[h3,h4,h5]
  ·cases Desk.a1e s.ts s.es name u [(fr,til)] <;> simp[h3,h4]
def c7l(k:Int)(name:ByteArray)(u fr til un:Int)(N tb:Nat):EG:=⟨⟨0,k,name,u,[(fr,til)],un⟩,N+1,N,1,tb⟩
theorem DSt.asks(h:DSt w d s r col)(kb:Below w.heap.size w w1){un:Int}(hi:i<r.tg.length)(hname:r.tg[i].name=name)(ok:a1H s.now ⟨0,k,name,u,[(fr,til)],un⟩):
  b4h ((w1.alloc (.cells #[.int .i64 fr,.int .i64 til] 60)).alloc (.cells #[.int .i64 0,.int .i64 k,.pointer (some ⟨r.tg[i].tb,0,none⟩),.int .i64 u,.slice (some ⟨w1.heap.size,0,none⟩) 1 1,.int .i64 un] 200)) w1.heap.size d s r col (c7l k name u fr til un w1.heap.size r.tg[i].tb) i:=by
 have kz:Below w1.heap.size w1 ((w1.alloc (.cells #[.int .i64 fr,.int .i64 til] 60)).alloc (.cells #[.int .i64 0,.int .i64 k,.pointer (some ⟨r.tg[i].tb,0,none⟩),.int .i64 u,.slice (some ⟨w1.heap.size,0,none⟩) 1 1,.int .i64 un] 200)):=((zr _ _).alloc (zq _) _).alloc (by simp) _;have d1:=h.dk.later kb
 have eb:((w1.alloc (.cells #[.int .i64 fr,.int .i64 til] 60)).alloc (.cells #[.int .i64 0,.int .i64 k,.pointer (some ⟨r.tg[i].tb,0,none⟩),.int .i64 u,.slice (some ⟨w1.heap.size,0,none⟩) 1 1,.int .i64 un] 200)).heap[w1.heap.size+1]?=some (.cells #[.int .i64 0,.int .i64 k,.pointer (some ⟨r.tg[i].tb,0,none⟩),.int .i64 u,.slice (some ⟨w1.heap.size,0,none⟩) 1 1,.int .i64 un] 200 (0,0)):=by
  have:=a0p (w1.alloc (.cells #[.int .i64 fr,.int .i64 til] 60)) (.cells #[.int .i64 0,.int .i64 k,.pointer (some ⟨r.tg[i].tb,0,none⟩),.int .i64 u,.slice (some ⟨w1.heap.size,0,none⟩) 1 1,.int .i64 un] 200)
  rwa [World.size_alloc] at this
 have sb:((w1.alloc (.cells #[.int .i64 fr,.int .i64 til] 60)).alloc (.cells #[.int .i64 0,.int .i64 k,.pointer (some ⟨r.tg[i].tb,0,none⟩),.int .i64 u,.slice (some ⟨w1.heap.size,0,none⟩) 1 1,.int .i64 un] 200)).heap[w1.heap.size]?=some (.cells #[.int .i64 fr,.int .i64 til] 60 (0,0)) :=
  (Below.heap_alloc _ _ _ (by simp)).trans (a0p w1 _)
 have hs:((w1.alloc (.cells #[.int .i64 fr,.int .i64 til] 60)).alloc (.cells #[.int .i64 0,.int .i64 k,.pointer (some ⟨r.tg[i].tb,0,none⟩),.int .i64 u,.slice (some ⟨w1.heap.size,0,none⟩) 1 1,.int .i64 un] 200)).heap.size=w1.heap.size+2:=by simp
 generalize (w1.alloc (.cells #[.int .i64 fr,.int .i64 til] 60)).alloc (.cells #[.int .i64 0,.int .i64 k,.pointer (some ⟨r.tg[i].tb,0,none⟩),.int .i64 u,.slice (some ⟨w1.heap.size,0,none⟩) 1 1,.int .i64 un] 200)=Z at *;refine⟨⟨d1.later kz,h.of,h.wl,h.hl,h.inv⟩,⟨⟨?_,?_,?_,?_,fun j hj=>?_,?_⟩,?_,?_,fun o=>frozen_of_row _ _ _ _ _ eb,⟨_,eb⟩⟩,d1.none (Nat.le_succ _),d1.none (zq _),Nat.le_succ _,Nat.le_refl _,(by show w1.heap.size+1≠w1.heap.size;omega),kz.size,hi,hname,rfl,ok⟩
 ·show Z.cell? ⟨w1.heap.size+1,0,none⟩=_;simp only[World.cell?,eb];rfl
 ·show Z.cell? ⟨w1.heap.size+1,2,none⟩=_;simp only[World.cell?,eb];rfl
 ·show Z.cell? ⟨w1.heap.size+1,3,none⟩=_;simp only[World.cell?,eb];rfl
 ·show Z.cell? ⟨w1.heap.size+1,4,none⟩=_;simp only[World.cell?,eb];rfl
 ·have hj0:j=0:=by simp[c7l] at hj;omega
  subst hj0;constructor
  ·show Z.cell? ⟨w1.heap.size,0,none⟩=_;simp only[World.cell?,sb];rfl
  ·show Z.cell? ⟨w1.heap.size,1,none⟩=_;simp only[World.cell?,sb];rfl
 ·show w1.heap.size<_;omega
 ·show Z.cell? ⟨w1.heap.size+1,1,none⟩=_;simp only[World.cell?,eb];rfl
 ·show Z.cell? ⟨w1.heap.size+1,5,none⟩=_;simp only[World.cell?,eb];rfl
theorem a1n.ans{w2:World}{q:St × Desk.Rep}{v:Value}(h:a1n Z B d col q v w2)(st:Step anyS w.heap.size col col w Z)(hB:w.heap.size<=B)(hQ:w.heap.size<=Q)(hQB:Q<B)(hc:col Q=none)(h7:Q7 Z Q):
  ∃ er n:Int,v=a0s er 0 n (.slice none 0 0) (.slice none 0 0) (.slice none 0 0) (.slice none 0 0)/\Q7 w2 Q/\∀ a b c e f g i,a0l w d col q (a0s er 0 n (.slice none 0 0) (.slice none 0 0) (.slice none 0 0) (.slice none 0 0)) (a2w w2 Q a b c e f g i):=by
 obtain⟨er,n,r',col',rfl,e2,k1,k2,k3,k4,k5⟩:=h;have hl:=World.block_lt_of_cell? _ _ h7.q0;refine⟨er,n,rfl,h7.later (k5.blockN hl hc hQB),fun a b c e f g i=>?_⟩;have:q=(q.1,⟨er,0,n,[],[],[],[]⟩):=by rw[<- e2]
 rw[this];exact a5O k1 k2 k3 k4 (st.trans (k5.any hB)) hQ (k5.keepN hc hQB) er n a b c e f g i
theorem c3F(h:DSt w d s r col)(name:ByteArray)(hn:name.size<=1000)(u fr til:Int)(hl:Desk.a1O (.enter 1 name u fr til 0)):
  Calls Tryz.prog 92 #[.pointer (some ⟨d,0,none⟩),.agg #[.string name,.int .i64 u,.int .i64 fr,.int .i64 til]] w fun e w'=>∃ v,e=.returned v/\a0l w d col (Desk.a0g s (.enter 1 name u fr til 0)) v w':=by
 obtain⟨hX,hXQ⟩:=a2q (w:=w) (.cells #[.string name,.int .i64 u,.int .i64 fr,.int .i64 til] 154);have AK:=a0b (a4e (h.dk.later hX) h.of h.mid name hn u fr til);have HH:=a0b h;have HX:=a0b (zA hX hXQ);have xa:((w.alloc (.cells #[.string name,.int .i64 u,.int .i64 fr,.int .i64 til] 154)).alloc a0f).cell? ⟨w.heap.size,0,none⟩=some (.string name):=by simp[a0f]
 have xb:((w.alloc (.cells #[.string name,.int .i64 u,.int .i64 fr,.int .i64 til] 154)).alloc a0f).cell? ⟨w.heap.size,1,none⟩=some (.int .i64 u):=by simp[a0f]
 have xc:((w.alloc (.cells #[.string name,.int .i64 u,.int .i64 fr,.int .i64 til] 154)).alloc a0f).cell? ⟨w.heap.size,2,none⟩=some (.int .i64 fr):=by simp[a0f]
 have xd:((w.alloc (.cells #[.string name,.int .i64 u,.int .i64 fr,.int .i64 til] 154)).alloc a0f).cell? ⟨w.heap.size,3,none⟩=some (.int .i64 til):=by simp[a0f]
 have hNX:w.heap.size+1<((w.alloc (.cells #[.string name,.int .i64 u,.int .i64 fr,.int .i64 til] 154)).alloc a0f).heap.size:=by simp
 clear h hX hXQ
 go_enter Tryz.func92,Tryz.ntmps92
 go_upto_region 1 with fail
 change Code.wp _ _ _ _ ((w.alloc (.cells #[.string name,.int .i64 u,.int .i64 fr,.int .i64 til] 154)).alloc a0f);generalize (w.alloc (.cells #[.string name,.int .i64 u,.int .i64 fr,.int .i64 til] 154)).alloc a0f=X at *
 go_wp2_with fail
 refine AK.out.mono ?_;rintro e w1 ⟨hp,hb⟩;have BX:Hid (Below w.heap.size w w1):=HX.out.1.trans (hb.mono HX.out.1.size);have QX:Hid (Q7 w1 (w.heap.size+1)):=(Q7.of HX.out.2).later (hb.block _ hNX);rcases hp with ⟨h1,rfl⟩|⟨h1,i,hi,e1,e2,rfl⟩
 ·have HD:=a0b (a5W (k:=1) (long:=0) h1);generalize a1c s name u fr til=er at *;have hb1:(er != 0)=true:=by simpa using h1
  clear h1 AK HX hb xa xb xc xd
  go_wp2_with fail
  refine (a0D er w1).mono ?_;rintro e w2 ⟨rfl,hb2⟩;have hq:=hb2.block (w.heap.size+1) (World.block_lt_of_cell? _ _ QX.out.q0)
  have HF:Hid (a0l w d col (Desk.a0g s (.enter 1 name u fr til 0)) (a0s er 0 0 (.slice none 0 0) (.slice none 0 0) (.slice none 0 0) (.slice none 0 0)) (a2w w2 (w.heap.size+1) (.int .i64 er) (.int .i64 0) (.int .i64 0) (.slice none 0 0) (.slice none 0 0) (.slice none 0 0) (.slice none 0 0))):=by
   rw[HD.out];exact HH.out.said (BX.out.trans (hb2.mono BX.out.size)) (by omega) er 0 _ _ _ _ _ _ _
  obtain⟨q0,q1,q2,q3,q4,q5,q6,fq⟩:=QX.out.later hq;simp only[a0s]
  go_wp2_with fail
  exact bodyPost_ret (v:=a0s er 0 0 (.slice none 0 0) (.slice none 0 0) (.slice none 0 0) (.slice none 0 0)) (by simp[results,Tryz.results92,go_sem,a0s,q0,q1,q2,q3,q4,q5,q6]) rfl ⟨_,rfl,HF.out⟩
 ·have HD:=a0b (b0W (k:=1) (long:=0) h1 (by have:=HH.out.inv.n1;omega));have y1:=(zo (w:=X) (a:=⟨w.heap.size,1,none⟩) (hb.block w.heap.size (by omega))).trans xb;have y2:=(zo (w:=X) (a:=⟨w.heap.size,2,none⟩) (hb.block w.heap.size (by omega))).trans xc;have y3:=(zo (w:=X) (a:=⟨w.heap.size,3,none⟩) (hb.block w.heap.size (by omega))).trans xd;have EN:=a0b (a9B (HH.out.asks BX.out (k:=1) (u:=u) (fr:=fr) (til:=til) (un:=0) hi e1 ⟨hl.2.1,hl.2.2.1,(by show 1<=40;omega),(by simp),(by intro q hq;have:q=(fr,til):=List.mem_singleton.1 hq;subst this;have:=(a1E h1).2;exact⟨hl.2.2.2.1,this,hl.2.2.2.2.2.2⟩),List.pairwise_singleton _ _,.inl ⟨rfl,rfl⟩⟩));have AL:Hid (Below w1.heap.size w1 ((w1.alloc (.cells #[.int .i64 fr,.int .i64 til] 60)).alloc (.cells #[.int .i64 0,.int .i64 1,.pointer (some ⟨r.tg[i].tb,0,none⟩),.int .i64 u,.slice (some ⟨w1.heap.size,0,none⟩) 1 1,.int .i64 0] 200))):=((zr _ _).alloc (zq _) _).alloc (by simp) _;have QL:Hid (w.heap.size+1<w1.heap.size):=World.block_lt_of_cell? _ _ QX.out.q0;clear h1 AK HX hb xa xb xc xd e1 e2
  go_wp2_with fail
  refine EN.out.mono ?_;rintro e w2 ⟨v,rfl,ep⟩;obtain⟨er,n,rfl,q7,hf⟩:=ep.ans (Q:=(w.heap.size+1)) (Step.below (BX.out.trans (AL.out.mono BX.out.size))) BX.out.size (by omega) QL.out (HH.out.dk.none (by omega)) (QX.out.later (AL.out.block _ QL.out))
  have HF:Hid (a0l w d col (Desk.a0g s (.enter 1 name u fr til 0)) (a0s er 0 n (.slice none 0 0) (.slice none 0 0) (.slice none 0 0) (.slice none 0 0)) (a2w w2 (w.heap.size+1) (.int .i64 er) (.int .i64 0) (.int .i64 n) (.slice none 0 0) (.slice none 0 0) (.slice none 0 0) (.slice none 0 0))):=by
   rw[HD.out];exact hf _ _ _ _ _ _ _
  clear ep hf EN;obtain⟨q0,q1,q2,q3,q4,q5,q6,fq⟩:=q7;simp only[a0s]
  go_wp2_with fail
  exact bodyPost_ret (v:=a0s er 0 n (.slice none 0 0) (.slice none 0 0) (.slice none 0 0) (.slice none 0 0)) (by simp[results,Tryz.results92,go_sem,a0s,q0,q1,q2,q3,q4,q5,q6]) rfl ⟨_,rfl,HF.out⟩
theorem DSt.levels(h:DSt w d s r col)(hi:i<r.tg.length):∀ p,0<=a1C r.tg[i].name s.es p/\a1C r.tg[i].name s.es p<=1000000:=fun p=>by
 have h1:=Desk.a7j r.tg[i].name p s.es h.mid.small;have h2:=a1x h.mid;omega
theorem c1l(h:DSt w d s r col)(k:Below w.heap.size w wx)(hi:i<r.tg.length)(h0:0<=a)(h1:a<b)(h2:b<=1048320):
  Calls Tryz.prog 153 #[.pointer (some ⟨r.tg[i].tb,2,none⟩),.agg #[.int .i64 a,.int .i64 b]] wx fun e w'=>e=.returned (.int .i64 (Desk.a1Q r.tg[i].name s.es a b))/\Below wx.heap.size wx w':=by
 obtain⟨ul,us,Fl,Fs,t1,t2⟩:=(h.dk.later k).th i hi;have hA:=h.levels hi;have e:=Desk.c0m (name:=r.tg[i].name) h.mid.small (a6d h.mid) h0 h1 h2;unfold b4T at e;have lv:=t1.lv;rw[(h.of.th i hi).1] at lv;refine (b7x (b1M (a1C r.tg[i].name s.es)) _ 2 ul Fl a b wx t1.c2 lv (a9e hA) (a6L (fun p=>(hA p).1)) h1).mono ?_;rintro e2 w' ⟨rfl,hb⟩;exact⟨by rw[<- e],hb⟩
theorem c1k(h:DSt w d s r col)(k:Below w.heap.size w wx)(hi:i<r.tg.length)(h0:0<=a)(h1:a<b)(h2:b<=1048320)(h3:1<=long)(h4:long<=1048320)(hu:0<=u):
  Calls Tryz.prog 154 #[.pointer (some ⟨r.tg[i].tb,2,none⟩),.agg #[.int .i64 a,.int .i64 b],.int .i64 long,.int .i64 (r.tg[i].a0c-u)] wx fun e w'=>∃ q:Option Int,e=.returned (fmV q)/\Desk.a9A s.ts s.es r.tg[i].name u long a b=Desk.c3V q/\Below wx.heap.size wx w':=by
 obtain⟨ul,us,Fl,Fs,t1,t2⟩:=(h.dk.later k).th i hi;have hA:=h.levels hi;have lv:=t1.lv;rw[(h.of.th i hi).1] at lv
 have hun:Desk.a0h r.tg[i].name s.ts=r.tg[i].a0c:=by
  have e1:=a8G h.mid.tn (i:=i) (by rw[<- h.of.len];exact hi);rw[h.of.tsAt hi] at e1;exact e1
 refine (c3K (b1M (a1C r.tg[i].name s.es)) _ 2 ul Fl a b long (r.tg[i].a0c-u) wx t1.c2 lv (a9e hA) (a6L (fun p=>(hA p).1)) h0 h1 h2 h3 h4).mono ?_;rintro e2 w' ⟨q,rfl,hq,hb⟩;rw[<- hun] at hq;exact⟨q,rfl,Desk.b9G h.mid.small (a6d h.mid) h0 h2 hu h3 hq,hb⟩
theorem b2e(hm:Mid s)(h:a1c s name 0 fr til≠0):Desk.a0g s (.peak name fr til)=(s,Desk.Rep.error (a1c s name 0 fr til)):=by
 have hn:=Desk.a4g hm.tu name;simp only[Desk.a0g];unfold a1c Desk.a0S at *
 by_cases h1:Desk.a0h name s.ts=0
 ·rw[if_pos h1];simp[h1]
 ·have h2:¬ (Desk.a0h name s.ts<0):=by omega
  simp only[h1,h2] at h ⊢
  by_cases h3:til<=fr
  ·simp[h3]
  ·simp[h3] at h
theorem c1a(h:a1c s name 0 fr til=0):Desk.a0g s (.peak name fr til)=(s,Desk.Rep.num (Desk.a1Q name s.es fr til)):=by
 obtain⟨h1,h2⟩:=a1E h;have h3:Desk.a0h name s.ts≠0:=fun e=>by unfold Desk.a0S at h1;rw[if_pos e] at h1;omega
 simp only[Desk.a0g];rw[if_neg h3,if_neg (by omega)]
theorem c5t(args:Array Value)(w:World):(callFunc 153 args).run Tryz.prog w=.ok (.enter 153 args) w:=by kernel_rfl
theorem c2D(h:DSt w d s r col)(name:ByteArray)(hn:name.size<=1000)(fr til:Int)(hl:Desk.a1O (.peak name fr til)):
  Calls Tryz.prog 100 #[.pointer (some ⟨d,0,none⟩),.agg #[.string name,.int .i64 fr,.int .i64 til]] w fun e w'=>∃ v,e=.returned v/\a0l w d col (Desk.a0g s (.peak name fr til)) v w':=by
 obtain⟨hX,hXQ⟩:=a2q (w:=w) (.cells #[.string name,.int .i64 fr,.int .i64 til] 176);have x0:((w.alloc (.cells #[.string name,.int .i64 fr,.int .i64 til] 176)).alloc a0f).cell? ⟨w.heap.size,0,none⟩=some (.string name):=by simp[a0f]
 have x1:((w.alloc (.cells #[.string name,.int .i64 fr,.int .i64 til] 176)).alloc a0f).cell? ⟨w.heap.size,1,none⟩=some (.int .i64 fr):=by simp[a0f]
 have x2:((w.alloc (.cells #[.string name,.int .i64 fr,.int .i64 til] 176)).alloc a0f).cell? ⟨w.heap.size,2,none⟩=some (.int .i64 til):=by simp[a0f]
 have hNX:w.heap.size+1<((w.alloc (.cells #[.string name,.int .i64 fr,.int .i64 til] 176)).alloc a0f).heap.size:=by simp
 have AK:=a0b (a4e (h.dk.later hX) h.of h.mid name hn 0 fr til);have HH:=a0b h;have HX:=a0b (zA hX hXQ);clear h hX hXQ
 go_enter Tryz.func100,Tryz.ntmps100
 go_upto_region 1 with fail
 change Code.wp _ _ _ _ ((w.alloc (.cells #[.string name,.int .i64 fr,.int .i64 til] 176)).alloc a0f);generalize (w.alloc (.cells #[.string name,.int .i64 fr,.int .i64 til] 176)).alloc a0f=X at *
 go_wp2_with fail
 refine AK.out.mono ?_;rintro e w1 ⟨hp,hb⟩;have BX:Hid (Below w.heap.size w w1):=HX.out.1.trans (hb.mono HX.out.1.size);have QX:Hid (Q7 w1 (w.heap.size+1)):=(Q7.of HX.out.2).later (hb.block _ hNX);rcases hp with ⟨h1,rfl⟩|⟨h1,i,hi,e1,e2,rfl⟩
 ·have HD:=a0b (b2e HH.out.mid h1);generalize a1c s name 0 fr til=er at *;have hb1:(er != 0)=true:=by simpa using h1
  clear h1 AK HX hb x0 x1 x2
  go_wp2_with fail
  refine (a0D er w1).mono ?_;rintro e w2 ⟨rfl,hb2⟩;have hq:=hb2.block (w.heap.size+1) (World.block_lt_of_cell? _ _ QX.out.q0)
  have HF:Hid (a0l w d col (Desk.a0g s (.peak name fr til)) (a0s er 0 0 (.slice none 0 0) (.slice none 0 0) (.slice none 0 0) (.slice none 0 0)) (a2w w2 (w.heap.size+1) (.int .i64 er) (.int .i64 0) (.int .i64 0) (.slice none 0 0) (.slice none 0 0) (.slice none 0 0) (.slice none 0 0))):=by
   rw[HD.out];exact HH.out.said (BX.out.trans (hb2.mono BX.out.size)) (by omega) er 0 _ _ _ _ _ _ _
  obtain⟨q0,q1,q2,q3,q4,q5,q6,fq⟩:=QX.out.later hq;simp only[a0s]
  go_wp2_with fail
  exact bodyPost_ret (v:=a0s er 0 0 (.slice none 0 0) (.slice none 0 0) (.slice none 0 0) (.slice none 0 0)) (by simp[results,Tryz.results100,go_sem,a0s,q0,q1,q2,q3,q4,q5,q6]) rfl ⟨_,rfl,HF.out⟩
 ·have HD:=a0b (c1a h1);have y1:=(zo (w:=X) (a:=⟨w.heap.size,1,none⟩) (hb.block w.heap.size (by omega))).trans x1;have y2:=(zo (w:=X) (a:=⟨w.heap.size,2,none⟩) (hb.block w.heap.size (by omega))).trans x2;have MC:=a0b (c1l HH.out (wx:=w1.drew) BX.out.drew hi hl.1 (a1E h1).2 hl.2.2.2);rw[e1] at MC;have AF:Hid (∀ w2,Below w1.drew.heap.size w1.drew w2->Q7 w2 (w.heap.size+1)/\a0l w d col (Desk.a0g s (.peak name fr til)) (a0s 0 0 (Desk.a1Q name s.es fr til) (.slice none 0 0) (.slice none 0 0) (.slice none 0 0) (.slice none 0 0)) (a2w w2 (w.heap.size+1) (.int .i64 0) (.int .i64 0) (.int .i64 (Desk.a1Q name s.es fr til)) (.slice none 0 0) (.slice none 0 0) (.slice none 0 0) (.slice none 0 0))):=fun w2 k2=>⟨QX.out.later (k2.block _ (World.block_lt_of_cell? _ _ QX.out.q0)),by rw[HD.out];exact HH.out.said (BX.out.drew.trans (k2.mono BX.out.size)) (by omega) 0 (Desk.a1Q name s.es fr til) _ _ _ _ _ _ _⟩
  clear h1 AK HX hb x0 x1 x2 e1 e2 HD;generalize (Desk.a1Q name s.es fr til)=nn at *
  go_upto_region 4 with fail
  go_region_law (first
   |(refine a2k (by rfl) 153 _ _ (by rfl) _ (by simp[Act.eval]) (c5t _ _) MC.out ?_;rintro e w2 ⟨rfl,hb2⟩;refine⟨_,rfl,?_⟩;have FF:=a0b (AF.out w2 hb2);obtain⟨⟨q0,q1,q2,q3,q4,q5,q6,fq⟩,_⟩:=AF.out w2 hb2))
  all_goals
   go_wp2_with fail
   exact bodyPost_ret (v:=a0s 0 0 nn (.slice none 0 0) (.slice none 0 0) (.slice none 0 0) (.slice none 0 0)) (by simp[results,Tryz.results100,go_sem,a0s,q0,q1,q2,q3,q4,q5,q6]) rfl ⟨_,rfl,FF.out.2⟩
end Go.Proofs.YtfigmlfdnickmaaGreatDoor
