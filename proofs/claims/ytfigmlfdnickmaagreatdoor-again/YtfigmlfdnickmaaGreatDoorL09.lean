import Derived.Test.YtfigmlfdnickmaaGreatDoorL08
import Derived.Test.YtfigmlfdnickmaaGreatDoorProg
import Derived.Test.YtfigmlfdnickmaaGreatDoorShelf
import Derived.WalkKit
import Derived.WalkSpells
import Derived.WalkLawsBesides
import Derived.Deep.QuietTactic
import Derived.BigQuiet
import Derived.Lib.SmallJoins
set_option maxRecDepth 100000
set_option maxHeartbeats 8000000
variable{wr:Bool}{a b m y:Int}{l:List (Go.Proofs.YtfigmlfdnickmaaGreatDoor.Desk.Ent × Go.Value)}{ws:List ByteArray}{G:List Nat}{xs:List Go.Value}{A B B' B0 Q R d e n nx:Nat}{col col' col1:Nat->Option Go.Proofs.YtfigmlfdnickmaaGreatDoor.Col}{r:Go.Proofs.YtfigmlfdnickmaaGreatDoor.Raw}{s:Go.Proofs.YtfigmlfdnickmaaGreatDoor.Desk.St}{gr v:Go.Value}{X Z w w' w1 w2 w4 wx:Go.World}
namespace Go.Proofs.YtfigmlfdnickmaaGreatDoor
open Go.RowKit
open Desk (Ent St Ids kept a0C a0Q a1C a2e ofB a0y a2c Mid a1H a0z Inv)
def spV(p:Int × Int):List Value:=[.int .i64 p.1,.int .i64 p.2]
def a1f(p:Ent × Value):List Value:=[.int .i64 p.1.id,.int .i64 p.1.kind,.string p.1.a0k,.int .i64 p.1.a0c,p.2,.int .i64 p.1.a0Z]
structure a9V(w:World)(B:Nat)(col:Nat->Option Col)(v:Value)(L:List (Int × Int)):Prop where
 own:w.ownsRow B 60 2 v L.length (L.flatMap spV)
 no:∀ b,v.ownBlock=some b->col b=none
structure a3j(w:World)(B:Nat)(col:Nat->Option Col)(v:Value)(l:List (Ent × Value)):Prop where
 own:w.ownsRow B 58 6 v l.length (l.flatMap a1f)
 no:∀ b,v.ownBlock=some b->col b=none
 sp:∀ p∈l,a9V w B col p.2 p.1.a0e/\∀ b,p.2.ownBlock=some b->v.ownBlock≠some b
theorem a3j.nil(w:World)(B:Nat)(col:Nat->Option Col):a3j w B col (.slice none 0 0) []:=⟨World.ownsRow_nil _ _ _ _,(fun b hb=>by cases hb),(by simp)⟩
theorem a9V.step{S:Col->Prop}{l:List (Int × Int)}(h:a9V w B0 col v l)(st:Step S B col col' w w')(hB:w.heap.size<=B):a9V w' B0 col' v l:=by
 have hv:∀ b,v.ownBlock=some b->col b=none/\b<B:=fun b hb=>⟨h.no b hb,Nat.lt_of_lt_of_le (h.own.lt b hb).2 hB⟩
 exact⟨st.own h.own hv,fun b hb=>st.keepN (hv b hb).1 (hv b hb).2⟩
theorem a3j.step{S:Col->Prop}(h:a3j w B0 col v l)(st:Step S B col col' w w')(hB:w.heap.size<=B):a3j w' B0 col' v l:=by
 have hv:∀ b,v.ownBlock=some b->col b=none/\b<B:=fun b hb=>⟨h.no b hb,Nat.lt_of_lt_of_le (h.own.lt b hb).2 hB⟩
 exact⟨st.own h.own hv,fun b hb=>st.keepN (hv b hb).1 (hv b hb).2,fun p hp=>⟨(h.sp p hp).1.step st hB,(h.sp p hp).2⟩⟩
def a5m(w:World)(B:Nat)(col:Nat->Option Col)(v:Value)(p:Desk.Rep):Prop :=
 ∃ (en da gr ed:Value) (l:List (Ent × Value)),v=a0s p.err p.at_ p.n en da gr ed/\l.map (·.1)=p.entries/\a3j w B col en l/\a2I w B col da p.days/\a2I w B col gr p.granted/\a2I w B col ed p.ended/\(∀ b,gr.ownBlock=some b->en.ownBlock≠some b/\da.ownBlock≠some b/\ed.ownBlock≠some b/\∀ q∈l,q.2.ownBlock≠some b)
theorem a5m.plain(w:World)(B:Nat)(col:Nat->Option Col)(e n:Int):a5m w B col (a0s e 0 n (.slice none 0 0) (.slice none 0 0) (.slice none 0 0) (.slice none 0 0)) ⟨e,0,n,[],[],[],[]⟩ :=
 ⟨_,_,_,_,[],rfl,rfl,a3j.nil _ _ _,a2I.nil _ _ _,a2I.nil _ _ _,a2I.nil _ _ _,fun b hb=>by cases hb⟩
def a0l(w:World)(d:Nat)(col:Nat->Option Col)(q:St × Desk.Rep)(v:Value)(w':World):Prop :=
 ∃ (r':Raw) (col':Nat->Option Col),DK w' d r' col'/\Of q.1 r'/\Wl r'/\Hl r'/\Step anyS w.heap.size col col' w w'/\a5m w' w.heap.size col' v q.2
structure DSt(w:World)(d:Nat)(s:St)(r:Raw)(col:Nat->Option Col):Prop where
 dk:DK w d r col
 of:Of s r
 wl:Wl r
 hl:Hl r
 inv:Inv s
theorem DSt.mid(h:DSt w d s r col):Mid s:=h.inv.mid
theorem a5I(ho:Of s r){g:EG}(hn:(r.eg.map (·.e.id)).Nodup)(hg:g∈r.eg):Desk.a5S g.e.id s.es=some g.e:=by
 unfold Desk.a5S
 cases h:s.es.find? fun e=>decide (e.id=g.e.id) with
 |none =>
  have:=List.find?_eq_none.1 h g.e (ho.mem hg);simp at this
 |some e =>
  have h1:=List.mem_of_find?_eq_some h;have h2:=List.find?_some h;obtain⟨x,hx,rfl⟩:=ho.get h1;have:x=g:=a0W _ hn hx hg (by simpa using h2);rw[this]
theorem a7K(ho:Of s r){id:Int}(h:a6U r.eg id=none):Desk.a5S id s.es=none:=by
 unfold Desk.a5S;refine List.find?_eq_none.2 (fun e he=>?_);obtain⟨x,hx,rfl⟩:=ho.get he
 simpa using b7d h x hx
theorem a5O{s':St}{r':Raw}(h1:DK Z d r' col')(h2:Of s' r')(h3:Wl r')(h4:Hl r')(h5:Step anyS w.heap.size col col' w Z)(hQ:w.heap.size<=Q)(hn:col' Q=none)(er n:Int)(a b c e f g i:Value):
  a0l w d col (s',⟨er,0,n,[],[],[],[]⟩) (a0s er 0 n (.slice none 0 0) (.slice none 0 0) (.slice none 0 0) (.slice none 0 0)) (a2w Z Q a b c e f g i):=by
 have k:=a2R Z Q a b c e f g i;have st:Step anyS w.heap.size col' col' Z (a2w Z Q a b c e f g i):=⟨⟨_,k,fun x hx=>.inr (by have:x=Q:=List.mem_singleton.1 hx;subst this;exact⟨hn,hQ⟩)⟩,fun _ _ h=>h,fun _ _ h=>.inl h⟩;exact⟨r',col',h1.off k (fun x hx=>by have:x=Q:=List.mem_singleton.1 hx;subst this;exact hn),h2,h3,h4,h5.trans st,a5m.plain _ _ _ _ _⟩
theorem DSt.said(h:DSt w d s r col)(k:Below w.heap.size w Z)(hQ:w.heap.size<=Q)(er n:Int)(a b c e f g i:Value):
  a0l w d col (s,⟨er,0,n,[],[],[],[]⟩) (a0s er 0 n (.slice none 0 0) (.slice none 0 0) (.slice none 0 0) (.slice none 0 0)) (a2w Z Q a b c e f g i) :=
 a5O (h.dk.later k) h.of h.wl h.hl (Step.below k) hQ (h.dk.none hQ) er n a b c e f g i
theorem b5s(h:DSt w d s r col)(id:Int)(hid:0<=id/\id<=9999999):
  Calls Tryz.prog 96 #[.pointer (some ⟨d,0,none⟩),.agg #[.int .i64 id]] w fun e w'=>∃ v,e=.returned v/\a0l w d col (Desk.a0g s (.confirm id)) v w':=by
 obtain⟨hX,hXQ⟩:=a2q (w:=w) (.cells #[.int .i64 id] 167);have xi:((w.alloc (.cells #[.int .i64 id] 167)).alloc a0f).cell? ⟨w.heap.size,0,none⟩=some (.int .i64 id):=by simp[a0f]
 have HH:=a0b h;have HX:=a0b (zA hX hXQ);clear h hX hXQ
 go_enter Tryz.func96,Tryz.ntmps96
 go_upto_region 1 with fail
 change Code.wp _ _ _ _ ((w.alloc (.cells #[.int .i64 id] 167)).alloc a0f);generalize (w.alloc (.cells #[.int .i64 id] 167)).alloc a0f=X at HX xi ⊢;have hx:=HH.out.dk.later HX.out.1;obtain⟨m,f,a1,a2,a3,a4⟩:=hx.me;have kk:=a9g (n:=id) (by omega) (by omega);have hlook:=(a3.block (w':=X.drew) rfl).look b3h Tryz.underlying138 (c3P X.drew) kk;rw[a4 id] at hlook;have QX:Hid (Q7 X.drew (w.heap.size+1)):=Q7.of HX.out.2;have BX:Hid (Below w.heap.size w X.drew):=HX.out.1.drew
 cases he:a6U r.eg id with
 |none =>
  rw[he] at hlook;have hlook':(Instr.lookup 138 (.map (some m)) (.int .i64 id) false).run Tryz.prog X.drew=.ok (.pointer none) X.drew:=hlook;have HD:Hid (Desk.a0g s (.confirm id)=(s,Desk.Rep.error 9)):=by have e:=a7K HH.out.of he;simp only[Hid,Desk.a0g,e]
  clear hlook a3 a4 he hx HX
  go_big_region
  clear hlook' xi a1
  go_wp2_with fail
  refine (a0D 9 X.drew).mono ?_;rintro e w1 ⟨rfl,hb⟩;have hq:=hb.block (w.heap.size+1) (zb _ _ QX.out.q0)
  have HF:Hid (a0l w d col (Desk.a0g s (.confirm id)) (a0s 9 0 0 (.slice none 0 0) (.slice none 0 0) (.slice none 0 0) (.slice none 0 0)) (a2w w1 (w.heap.size+1) (.int .i64 9) (.int .i64 0) (.int .i64 0) (.slice none 0 0) (.slice none 0 0) (.slice none 0 0) (.slice none 0 0))):=by
   rw[HD.out];exact HH.out.said (BX.out.trans (hb.mono BX.out.size)) (by omega) 9 0 _ _ _ _ _ _ _
  obtain⟨q0,q1,q2,q3,q4,q5,q6,fq⟩:=QX.out.later hq;simp only[a0s]
  go_wp2_with fail
  exact bodyPost_ret (v:=a0s 9 0 0 (.slice none 0 0) (.slice none 0 0) (.slice none 0 0) (.slice none 0 0)) (by simp[results,Tryz.results96,go_sem,a0s,q0,q1,q2,q3,q4,q5,q6]) rfl ⟨_,rfl,HF.out⟩
 |some b =>
  rw[he] at hlook;obtain⟨g,hg,rfl,rfl⟩:=b2b he;have hlook':(Instr.lookup 138 (.map (some m)) (.int .i64 g.e.id) false).run Tryz.prog X.drew=.ok (.pointer (some ⟨g.eb,0,none⟩)) X.drew:=hlook;have hf:=a5I HH.out.of hx.ni hg;have ck:X.drew.cell? ⟨g.eb,1,none⟩=some (.int .i64 g.e.kind):=(hx.en g hg).1.k;have hd:=hx.later (a0q X)
  by_cases hk:g.e.kind=2
  ·have HD:Hid (Desk.a0g s (.confirm g.e.id)=({ s with es:=a0C g.e.id s.es },Desk.Rep.num 0)):=by simp only[Hid,Desk.a0g,hf,hk];simp
   have hcnt:r.hl.length<=1000:=by
    have h1:=HH.out.hl.len;have h2:r.eg.length=s.es.length:=by rw[<- HH.out.of.es];simp
    have h3:=a1x HH.out.mid;omega
   have SE:=a0b (b0w hd HH.out.hl.1 hcnt hg ⟨_,HH.out.hl.has hg (by omega),rfl,rfl⟩);have HG:=a0b (zA hg hk);have hkb:(g.e.kind != 2)=false:=by simpa using hk
   have NI:=a0b hx.ni;clear hlook a3 a4 he hx HX hf hk hd hcnt hg
   go_big_region
   clear hlook' xi a1
   go_wp2_with fail
   refine SE.out.mono ?_;rintro e w1 ⟨rfl,x,l',col1,k1,k2,k3,k4,k5,k6⟩;have hQ:w.heap.size+1<X.drew.heap.size:=zb _ _ QX.out.q0;have hcQ:col (w.heap.size+1)=none:=HH.out.dk.none (by omega);have hq:=k6.blockN hQ hcQ hQ
   have HF:Hid (a0l w d col (Desk.a0g s (.confirm g.e.id)) (a0s 0 0 0 (.slice none 0 0) (.slice none 0 0) (.slice none 0 0) (.slice none 0 0)) (a2w w1 (w.heap.size+1) (.int .i64 0) (.int .i64 0) (.int .i64 0) (.slice none 0 0) (.slice none 0 0) (.slice none 0 0) (.slice none 0 0))):=by
    rw[HD.out];have g2:=HG.out.2;refine a5O k5 ?_ (HH.out.wl.conf NI.out HG.out.1 (by omega)) (HH.out.hl.book NI.out HG.out.1 (by omega) k2 k3 k4) ((Step.below BX.out).trans (k6.any BX.out.size)) (by omega) (k6.keepN hcQ hQ) 0 0 _ _ _ _ _ _ _;have o:=HH.out.of.conf HH.out.inv.ids HG.out.1 (by omega);exact⟨o.now,o.given,o.ts,o.es,o.th,o.tb⟩
   clear k1 k2 k3 k4 k5 k6 SE ck;obtain⟨q0,q1,q2,q3,q4,q5,q6,fq⟩:=QX.out.later hq
   go_wp2_with fail
   exact bodyPost_ret (v:=a0s 0 0 0 (.slice none 0 0) (.slice none 0 0) (.slice none 0 0) (.slice none 0 0)) (by simp[results,Tryz.results96,go_sem,a0s,q0,q1,q2,q3,q4,q5,q6]) rfl ⟨_,rfl,HF.out⟩
  ·have HD:Hid (Desk.a0g s (.confirm g.e.id)=(s,Desk.Rep.error 10)):=by simp only[Hid,Desk.a0g,hf];rw[if_pos hk]
   have hkb:(g.e.kind != 2)=true:=by simpa using hk
   clear hlook a3 a4 he hx HX hf hk hd
   go_big_region
   clear hlook' xi a1
   go_wp2_with fail
   refine (a0D 10 X.drew).mono ?_;rintro e w1 ⟨rfl,hb⟩;have hq:=hb.block (w.heap.size+1) (zb _ _ QX.out.q0)
   have HF:Hid (a0l w d col (Desk.a0g s (.confirm g.e.id)) (a0s 10 0 0 (.slice none 0 0) (.slice none 0 0) (.slice none 0 0) (.slice none 0 0)) (a2w w1 (w.heap.size+1) (.int .i64 10) (.int .i64 0) (.int .i64 0) (.slice none 0 0) (.slice none 0 0) (.slice none 0 0) (.slice none 0 0))):=by
    rw[HD.out];exact HH.out.said (BX.out.trans (hb.mono BX.out.size)) (by omega) 10 0 _ _ _ _ _ _ _
   clear ck;obtain⟨q0,q1,q2,q3,q4,q5,q6,fq⟩:=QX.out.later hq;simp only[a0s]
   go_wp2_with fail
   exact bodyPost_ret (v:=a0s 10 0 0 (.slice none 0 0) (.slice none 0 0) (.slice none 0 0) (.slice none 0 0)) (by simp[results,Tryz.results96,go_sem,a0s,q0,q1,q2,q3,q4,q5,q6]) rfl ⟨_,rfl,HF.out⟩
theorem a0B{size:Nat}(h:w.ownsRow B e size v n xs):∃ a cap,v=.slice a n cap:=by
 rcases h.2 with ⟨rfl,h0⟩|⟨g,cap,_,rfl,_⟩
 ·rw[h0];exact⟨_,_,rfl⟩
 ·exact⟨_,_,rfl⟩
theorem a9V.off{l:List (Int × Int)}(h:a9V w B col v l)(k:Off G w w')(hG:∀ x∈G,x<B):a9V w' B col v l :=
 ⟨a1i h.own k (fun b hb hx=>by have:=(h.own.lt b hb).1;have:=hG b hx;omega),h.no⟩
theorem a2I.off{l:List Int}(h:a2I w B col v l)(k:Off G w w')(hG:∀ x∈G,x<B):a2I w' B col v l :=
 ⟨a1i h.own k (fun b hb hx=>by have:=(h.own.lt b hb).1;have:=hG b hx;omega),h.no⟩
theorem a3j.off(h:a3j w B col v l)(k:Off G w w')(hG:∀ x∈G,x<B):a3j w' B col v l :=
 ⟨a1i h.own k (fun b hb hx=>by have:=(h.own.lt b hb).1;have:=hG b hx;omega),h.no,fun p hp=>⟨(h.sp p hp).1.off k hG,(h.sp p hp).2⟩⟩
theorem a3j.base(h:a3j w B col v l)(hb:B'<=B):a3j w B' col v l :=
 ⟨Joins.ownsRow_le h.own hb,h.no,fun p hp=>⟨⟨Joins.ownsRow_le (h.sp p hp).1.own hb,(h.sp p hp).1.no⟩,(h.sp p hp).2⟩⟩
theorem a5m.off{p:Desk.Rep}(h:a5m w B col v p)(k:Off G w w')(hG:∀ x∈G,x<B):a5m w' B col v p:=by
 obtain⟨en,da,gr,ed,l,e1,e2,e3,e4,e5,e6,e7⟩:=h;exact⟨en,da,gr,ed,l,e1,e2,e3.off k hG,e4.off k hG,e5.off k hG,e6.off k hG,e7⟩
theorem a5m.base{p:Desk.Rep}(h:a5m w B col v p)(hb:B'<=B):a5m w B' col v p:=by
 obtain⟨en,da,gr,ed,l,e1,e2,e3,e4,e5,e6,e7⟩:=h;exact⟨en,da,gr,ed,l,e1,e2,e3.base hb,e4.base hb,e5.base hb,e6.base hb,e7⟩
theorem a0l.up{q:St × Desk.Rep}(h:a0l X d col q v w2)(hb:Below w.heap.size w X)(hQ:w.heap.size<=Q)(hQX:Q<X.heap.size)(hc:col Q=none)(h7:Q7 X Q):
  ∃ (er at_ n:Int) (a1 a2 a3 a4:Option Addr) (n1 n2 n3 n4 c1 c2 c3 c4:Nat),v=a0s er at_ n (.slice a1 n1 c1) (.slice a2 n2 c2) (.slice a3 n3 c3) (.slice a4 n4 c4)/\Q7 w2 Q/\∀ a b c e f g i,a0l w d col q v (a2w w2 Q a b c e f g i):=by
 obtain⟨r',col',k1,k2,k3,k4,k5,k6⟩:=h;have hR:=k6;obtain⟨en,da,gr,ed,l,rfl,_,r1,r2,r3,r4,_⟩:=k6;obtain⟨b1,c1,rfl⟩:=a0B r1.own;obtain⟨b2,c2,rfl⟩:=r2.slice;obtain⟨b3,c3,rfl⟩:=r3.slice;obtain⟨b4,c4,rfl⟩:=r4.slice;refine⟨_,_,_,_,_,_,_,_,_,_,_,_,_,_,_,rfl,h7.later (k5.blockN hQX hc hQX),fun a b c e f g i=>?_⟩;have k:=a2R w2 Q a b c e f g i;have hn:=k5.keepN hc hQX;have hs:=hb.size;have st:Step anyS w.heap.size col' col' w2 (a2w w2 Q a b c e f g i):=⟨⟨_,k,fun x hx=>.inr (by have:x=Q:=List.mem_singleton.1 hx;subst this;exact⟨hn,hQ⟩)⟩,fun _ _ h=>h,fun _ _ h=>.inl h⟩;exact⟨r',col',k1.off k (fun x hx=>by have:x=Q:=List.mem_singleton.1 hx;subst this;exact hn),k2,k3,k4,((Step.below hb).trans (k5.any hs)).trans st,(hR.off k (fun x hx=>by have:x=Q:=List.mem_singleton.1 hx;omega)).base hs⟩
theorem a9V.later{l:List (Int × Int)}(h:a9V w B col v l)(k:Below w.heap.size w w'):a9V w' B col v l:=⟨a1g h.own k,h.no⟩
theorem a3j.later(h:a3j w B col v l)(k:Below w.heap.size w w'):a3j w' B col v l:=⟨a1g h.own k,h.no,fun p hp=>⟨(h.sp p hp).1.later k,(h.sp p hp).2⟩⟩
def st0:St:=⟨[],[],0,0⟩
def c2z:Raw:=⟨0,0,[],[],[],[]⟩
def c1O(N:Nat)(k:Nat):Option Col:=if k=N then some .mt else if k=N+1 then some .me else if k=N+2 then some .desk else none
theorem c7w:Inv st0:=by
 refine⟨by simp[st0],by simp[st0],by simp[st0],by simp[st0,Ids],by simp[st0],by simp[st0],by simp[st0],by simp[st0],by simp[st0],by simp[st0],by simp[st0],by simp[st0,Desk.a1Y],by simp[st0],fun name x=>?_⟩;simp[st0,Desk.a0o,Desk.a0h]
def c1H(w:World)(v:Value)(w':World):Prop:=v=.pointer (some ⟨w.heap.size+2,0,none⟩)/\DSt w' (w.heap.size+2) st0 c2z (c1O w.heap.size)/\Below w.heap.size w w'
theorem b5o(w:World):Calls Tryz.prog 60 #[] w fun e w'=>∃ v,e=.returned v/\c1H w v w':=by
 have hmm:=@run_makeMap Tryz.prog
 have HF:Hid (c1H w (.pointer (some ⟨w.heap.size+2,0,none⟩)) (((w.alloc (.map #[] 0)).alloc (.map #[] 0)).alloc (.cells #[.int .i64 0,.int .i64 0,.map (some w.heap.size),.map (some (w.heap.size+1)),.slice none 0 0,.slice none 0 0] 144))):=by
  have s1:(w.alloc (.map #[] 0)).heap.size=w.heap.size+1:=by simp
  have s2:((w.alloc (.map #[] 0)).alloc (.map #[] 0)).heap.size=w.heap.size+2:=by simp
  have m1:=a4N.made Tryz.prog 9 w;have m2:=a4N.made Tryz.prog 3 (w.alloc (.map #[] 0));have hd:=a0p ((w.alloc (.map #[] 0)).alloc (.map #[] 0)) (.cells #[.int .i64 0,.int .i64 0,.map (some w.heap.size),.map (some (w.heap.size+1)),.slice none 0 0,.slice none 0 0] 144);have b1:(((w.alloc (.map #[] 0)).alloc (.map #[] 0)).alloc (.cells #[.int .i64 0,.int .i64 0,.map (some w.heap.size),.map (some (w.heap.size+1)),.slice none 0 0,.slice none 0 0] 144)).heap[w.heap.size]?=(w.alloc (.map #[] 0)).heap[w.heap.size]?:=(Below.heap_alloc _ _ _ (by omega)).trans (Below.heap_alloc _ _ _ (by omega));have b2:(((w.alloc (.map #[] 0)).alloc (.map #[] 0)).alloc (.cells #[.int .i64 0,.int .i64 0,.map (some w.heap.size),.map (some (w.heap.size+1)),.slice none 0 0,.slice none 0 0] 144)).heap[w.heap.size+1]?=((w.alloc (.map #[] 0)).alloc (.map #[] 0)).heap[w.heap.size+1]?:=Below.heap_alloc _ _ _ (by omega);have hb:Below w.heap.size w (((w.alloc (.map #[] 0)).alloc (.map #[] 0)).alloc (.cells #[.int .i64 0,.int .i64 0,.map (some w.heap.size),.map (some (w.heap.size+1)),.slice none 0 0,.slice none 0 0] 144)):=(((zr _ _).alloc (zq _) _).alloc (by omega) _).alloc (by omega) _;have s3:(((w.alloc (.map #[] 0)).alloc (.map #[] 0)).alloc (.cells #[.int .i64 0,.int .i64 0,.map (some w.heap.size),.map (some (w.heap.size+1)),.slice none 0 0,.slice none 0 0] 144)).heap.size=w.heap.size+3:=by simp
  rw[s2] at hd;rw[s1] at m2;have m1':=m1.block b1;have m2':=m2.block b2;generalize ((w.alloc (.map #[] 0)).alloc (.map #[] 0)).alloc (.cells #[.int .i64 0,.int .i64 0,.map (some w.heap.size),.map (some (w.heap.size+1)),.slice none 0 0,.slice none 0 0] 144)=Z at *;have c4:Z.cell? ⟨w.heap.size+2,4,none⟩=some (.slice none 0 0):=by simp only[World.cell?,hd];rfl
  have c5:Z.cell? ⟨w.heap.size+2,5,none⟩=some (.slice none 0 0):=by simp only[World.cell?,hd];rfl
  refine⟨rfl,⟨⟨?_,?_,⟨w.heap.size,_,?_,by simp[c1O],m1',fun n=>rfl⟩,⟨w.heap.size+1,_,?_,by simp[c1O],m2',fun n=>rfl⟩,⟨_,c4,World.ownsRow_nil _ _ _ _,fun b hb=>by cases hb⟩,⟨_,⟨c5,World.ownsRow_nil _ _ _ _,(by simp[Value.ownBlock]),frozen_of_row _ _ _ _ _ hd⟩,fun b hb=>by cases hb⟩,fun i hi=>by simp[c2z] at hi,fun g hg=>by simp[c2z] at hg,by simp[c2z],by simp[c2z],fun o=>frozen_of_row _ _ _ _ _ hd,by simp[c1O],fun k c hk=>?_⟩,⟨rfl,rfl,rfl,rfl,fun i hi=>by simp[c2z] at hi,fun g hg=>by simp[c2z] at hg⟩,rfl,⟨?_,List.Perm.nil⟩,c7w⟩,hb⟩
  ·simp only[World.cell?,hd];rfl
  ·simp only[World.cell?,hd];rfl
  ·simp only[World.cell?,hd];rfl
  ·simp only[World.cell?,hd];rfl
  ·unfold c1O at hk
   by_cases h1:k=w.heap.size
   ·omega
   ·by_cases h2:k=w.heap.size+1
    ·omega
    ·by_cases h3:k=w.heap.size+2
     ·omega
     ·simp[h1,h2,h3] at hk
  ·intro i hi1 hi2;have hi3:i<([]:List Hp.Hi).length:=by first|exact hi1|exact hi2
   simp at hi3
 go_enter Tryz.func60,Tryz.ntmps60
 go_wp2_with fail
 go_ret;exact⟨_,rfl,HF.out⟩
theorem c3O{S:Col->Prop}{W w5:World}{c4:Nat->Option Col}{base size:Nat}(h:w1.ownsRow base e size v n xs)(hc:∀ b,v.ownBlock=some b->col1 b=none)(kW:Below w1.heap.size w1 W)(q5:Step S W.heap.size col1 c4 W w4)(k5:Off gr.ownBlock.toList w4 w5)(k6:Off [R] w5 Z)(hR:w1.heap.size<=R)(ha:∀ b,v.ownBlock=some b->gr.ownBlock≠some b):
  Z.ownsRow base e size v n xs/\∀ b,v.ownBlock=some b->c4 b=none:=by
 have hl:∀ b,v.ownBlock=some b->b<w1.heap.size:=fun b hb=>(h.lt b hb).2
 have hs:=kW.size;refine⟨a1i (a1i (q5.own (a1g h kW) (fun b hb=>⟨hc b hb,by have:=hl b hb;omega⟩)) k5 (fun b hb hx=>ha b hb (Option.mem_toList.1 hx))) k6 (fun b hb hx=>?_),fun b hb=>q5.keepN (hc b hb) (by have:=hl b hb;omega)⟩;have:=hl b hb;have:b=R:=List.mem_singleton.1 hx;omega
theorem b8I{s1:St}{r1:Raw}{p:Desk.Rep}{er at_ n:Int}{en da ed v2:Value}(hX:Below w.heap.size w X)(hQX:w.heap.size<X.heap.size)(h7:Q7 X w.heap.size)(hcQ:col w.heap.size=none)
  (k1:DK w1 d r1 col1) (k5:Step anyS X.heap.size col col1 X w1) (hl:l.map (·.1)=p.entries) (e3:a3j w1 X.heap.size col1 en l) (e4:a2I w1 X.heap.size col1 da p.days) (e5:a2I w1 X.heap.size col1 gr p.granted) (e6:a2I w1 X.heap.size col1 ed p.ended) (e7:∀ b,gr.ownBlock=some b->en.ownBlock≠some b/\da.ownBlock≠some b/\ed.ownBlock≠some b/\∀ q∈l,q.2.ownBlock≠some b) (e1:er=p.err/\at_=p.at_/\n=p.n)
  (g:a5o (w1.alloc (.cells #[.int .i64 er,.int .i64 at_,.int .i64 n,en,da,gr,ed] 40)).drew d s1 col1 v2 w4) (hb:p.granted.length+(Desk.a0R s1.ts s1.es).2.length<=100000):
  ∃ a m cap w5,(∀ ty,(Builtin.append_ #[38,38] ty #[gr,v2]).run Tryz.prog w4=.ok (.slice a m cap) w5)/\w4.cell? ⟨w1.heap.size,5,none⟩=some gr/\w5.heap[w1.heap.size]?=some (.cells #[.int .i64 er,.int .i64 at_,.int .i64 n,en,da,gr,ed] 40 (0,0))/\Q7 (w5.setCell ⟨w1.heap.size,5,none⟩ (.slice a m cap)) w.heap.size /\
   ∀ x1 x2 x3 x4 x5 x6 x7,a0l w d col ({ s1 with es:=(Desk.a0R s1.ts s1.es).1 },{ p with granted:=p.granted++(Desk.a0R s1.ts s1.es).2 }) (a0s er at_ n en da (.slice a m cap) ed) (a2w (w5.setCell ⟨w1.heap.size,5,none⟩ (.slice a m cap)) w.heap.size x1 x2 x3 x4 x5 x6 x7):=by
 have kW:Below w1.heap.size w1 (w1.alloc (.cells #[.int .i64 er,.int .i64 at_,.int .i64 n,en,da,gr,ed] 40)).drew:=((zr _ _).alloc (zq _) _).drew;have hWR:(w1.alloc (.cells #[.int .i64 er,.int .i64 at_,.int .i64 n,en,da,gr,ed] 40)).drew.heap[w1.heap.size]?=some (.cells #[.int .i64 er,.int .i64 at_,.int .i64 n,en,da,gr,ed] 40 (0,0)):=a0p w1 _;have hWs:w1.heap.size<(w1.alloc (.cells #[.int .i64 er,.int .i64 at_,.int .i64 n,en,da,gr,ed] 40)).drew.heap.size:=by show _<(w1.alloc _).heap.size;simp
 generalize (w1.alloc (.cells #[.int .i64 er,.int .i64 at_,.int .i64 n,en,da,gr,ed] 40)).drew=W at *;obtain⟨r4,c4,q1,q2,q3,q4,q5,q6⟩:=g;have hXw:=hX.size;have hXs:=k5.size;have hRc:col1 w1.heap.size=none:=k1.none (zq _);have g4:=(e5.later kW).step q5 (zq _);obtain⟨v3,w5,a1,a2,a3,a4⟩:=g4.append (q6.base (B':=X.heap.size) (by omega)) (by have:=q5.size;omega) (fun b hb=>q1.none hb) hb;obtain⟨va,vc,rfl⟩:=a2.slice;have ko:Off gr.ownBlock.toList w4 w5:=Off.grown (Off.refl _ w4) a3 (fun k hk=>.inl (Option.mem_toList.2 hk));have hgl:∀ b,gr.ownBlock=some b->b<w1.heap.size:=fun b hb=>(e5.own.lt b hb).2
 have hR4:w4.heap[w1.heap.size]?=some _:=(q5.blockN hWs hRc hWs).trans hWR;have hR5:w5.heap[w1.heap.size]?=some _:=(ko.block _ (by have:=q5.size;omega) (fun hx=>by have:=hgl _ (Option.mem_toList.1 hx);omega)).trans hR4;have k6:=Off.set0 w1.heap.size w5 5 (.slice va (p.granted++(Desk.a0R s1.ts s1.es).2).length vc);have hcR4:c4 w1.heap.size=none:=q5.keepN hRc hWs;have hcQ1:col1 w.heap.size=none:=k5.keepN hcQ hQX;have hcQ4:c4 w.heap.size=none:=q5.keepN hcQ1 (by omega)
 have hv3:∀ b,(Value.slice va (p.granted++(Desk.a0R s1.ts s1.es).2).length vc).ownBlock=some b->gr.ownBlock=some b\/b=w4.heap.size:=fun b hb=>by
  rcases a4 with e|e
  ·exact .inl (by rw[<- e];exact hb)
  ·rw[hb] at e;exact .inr (Option.some.inj e)
 have hs4:=q5.size
 have h7':Q7 (w5.setCell ⟨w1.heap.size,5,none⟩ (.slice va (p.granted++(Desk.a0R s1.ts s1.es).2).length vc)) w.heap.size:=by
  refine h7.later ?_;have b1:=k5.blockN hQX hcQ hQX;have b2:=kW.block w.heap.size (by omega);have b3:=q5.blockN (b:=w.heap.size) (by omega) hcQ1 (by omega);have b4:=ko.block w.heap.size (by omega) (fun hx=>by have:=(e5.own.lt _ (Option.mem_toList.1 hx)).1;omega);have b5:=k6.block w.heap.size (by have:=ko.size;omega) (by simp;omega);rw[b5,b4,b3,b2,b1]
 have rEn:=c3O e3.own e3.no kW q5 ko k6 (zq _) (fun b hb hx=>(e7 b hx).1 hb);have rDa:=c3O e4.own e4.no kW q5 ko k6 (zq _) (fun b hb hx=>(e7 b hx).2.1 hb);have rEd:=c3O e6.own e6.no kW q5 ko k6 (zq _) (fun b hb hx=>(e7 b hx).2.2.1 hb)
 have rSp:∀ q∈l,a9V (w5.setCell ⟨w1.heap.size,5,none⟩ (.slice va (p.granted++(Desk.a0R s1.ts s1.es).2).length vc)) X.heap.size c4 q.2 q.1.a0e:=fun q hq=>by
  have x:=c3O (e3.sp q hq).1.own (e3.sp q hq).1.no kW q5 ko k6 (zq _) (fun b hb hx=>(e7 b hx).2.2.2 q hq hb);exact⟨x.1,x.2⟩
 refine⟨va,_,vc,w5,a1,?_,hR5,h7',fun x1 x2 x3 x4 x5 x6 x7=>?_⟩
 ·simp only[World.cell?,hR4];rfl
 ·have kq:=a2R (w5.setCell ⟨w1.heap.size,5,none⟩ (.slice va (p.granted++(Desk.a0R s1.ts s1.es).2).length vc)) w.heap.size x1 x2 x3 x4 x5 x6 x7;have hQ1:∀ x∈[w.heap.size],x<X.heap.size:=fun x hx=>by have:x=w.heap.size:=List.mem_singleton.1 hx;omega
  have hrep:a5m (w5.setCell ⟨w1.heap.size,5,none⟩ (.slice va (p.granted++(Desk.a0R s1.ts s1.es).2).length vc)) X.heap.size c4 (a0s er at_ n en da (.slice va (p.granted++(Desk.a0R s1.ts s1.es).2).length vc) ed) { p with granted:=p.granted++(Desk.a0R s1.ts s1.es).2 }:=by
   refine⟨en,da,_,ed,l,by rw[e1.1,e1.2.1,e1.2.2],hl,⟨rEn.1,rEn.2,fun q hq=>⟨rSp q hq,(e3.sp q hq).2⟩⟩,⟨rDa.1,rDa.2⟩,⟨a1i a2.own k6 (fun b hb hx=>?_),a2.no⟩,⟨rEd.1,rEd.2⟩,fun b hb=>?_⟩
   ·have e:b=w1.heap.size:=List.mem_singleton.1 hx;rcases hv3 b hb with e2|e2
    ·have:=hgl b e2;omega
    ·omega
   ·rcases hv3 b hb with e2|e2
    ·exact e7 b e2
    ·refine⟨fun e=>?_,fun e=>?_,fun e=>?_,fun q hq e=>?_⟩
     ·have:=(e3.own.lt b e).2;omega
     ·have:=(e4.own.lt b e).2;omega
     ·have:=(e6.own.lt b e).2;omega
     ·have:=((e3.sp q hq).1.own.lt b e).2;omega
  refine⟨r4,c4,((q1.off ko (fun x hx=>g4.no x (Option.mem_toList.1 hx))).off k6 (fun x hx=>by have:x=w1.heap.size:=List.mem_singleton.1 hx;subst this;exact hcR4)).off kq (fun x hx=>by have:x=w.heap.size:=List.mem_singleton.1 hx;subst this;exact hcQ4),q2,q3,q4,?_,(hrep.off kq hQ1).base hXw⟩;have t1:Step anyS w.heap.size col col1 w w1:=(Step.below hX).trans (k5.any hXw);have t2:Step anyS w.heap.size col c4 w w4:=(t1.trans (Step.below kW)).trans (q5.any (by omega));have t3:Step anyS w.heap.size c4 c4 w4 w5:=⟨⟨_,ko,fun x hx=>.inr ⟨g4.no x (Option.mem_toList.1 hx),by have:=(e5.own.lt x (Option.mem_toList.1 hx)).1;omega⟩⟩,fun _ _ h=>h,fun _ _ h=>.inl h⟩;have t4:Step anyS w.heap.size c4 c4 w5 (w5.setCell ⟨w1.heap.size,5,none⟩ (.slice va (p.granted++(Desk.a0R s1.ts s1.es).2).length vc)):=⟨⟨_,k6,fun x hx=>.inr (by have:x=w1.heap.size:=List.mem_singleton.1 hx;subst this;exact⟨hcR4,by omega⟩)⟩,fun _ _ h=>h,fun _ _ h=>.inl h⟩;have t5:Step anyS w.heap.size c4 c4 _ _:=⟨⟨_,kq,fun x hx=>.inr (by have:x=w.heap.size:=List.mem_singleton.1 hx;subst this;exact⟨hcQ4,Nat.le_refl _⟩)⟩,fun _ _ h=>h,fun _ _ h=>.inl h⟩;exact ((t2.trans t3).trans t4).trans t5
theorem a5m.later{p:Desk.Rep}(h:a5m w B col v p)(k:Below w.heap.size w w'):a5m w' B col v p:=by
 obtain⟨en,da,gr,ed,l,e1,e2,e3,e4,e5,e6,e7⟩:=h;exact⟨en,da,gr,ed,l,e1,e2,e3.later k,e4.later k,e5.later k,e6.later k,e7⟩
theorem a0l.later{q:St × Desk.Rep}(h:a0l X d col q v w1)(k:Below w1.heap.size w1 w2):a0l X d col q v w2:=by
 obtain⟨r',col',k1,k2,k3,k4,k5,k6⟩:=h;exact⟨r',col',k1.later k,k2,k3,k4,k5.trans (Step.below k),k6.later k⟩
theorem b9u{l:Desk.a7U}(h:(Desk.a0g s l).2.err≠0):Desk.a1q s l=Desk.a0g s l:=by unfold Desk.a1q;rw[if_pos h]
theorem c2k{l:Desk.a7U}(h:(Desk.a0g s l).2.err=0):Desk.a1q s l=({ (Desk.a0g s l).1 with es:=(Desk.a0R (Desk.a0g s l).1.ts (Desk.a0g s l).1.es).1 },{ (Desk.a0g s l).2 with granted:=(Desk.a0g s l).2.granted++(Desk.a0R (Desk.a0g s l).1.ts (Desk.a0g s l).1.es).2 }):=by unfold Desk.a1q;rw[if_neg (by omega)]
theorem c7o{a b c d e f g:Value}(h:w.heap[R]?=some (.cells #[a,b,c,d,e,f,g] 40 (0,0))):w.cell? ⟨R,0,none⟩=some a/\w.cell? ⟨R,1,none⟩=some b/\w.cell? ⟨R,2,none⟩=some c/\w.cell? ⟨R,3,none⟩=some d/\w.cell? ⟨R,4,none⟩=some e/\w.cell? ⟨R,5,none⟩=some f/\w.cell? ⟨R,6,none⟩=some g/\∀ o,w.frozen? ⟨R,o,none⟩=false:=by
 refine⟨?_,?_,?_,?_,?_,?_,?_,fun o=>frozen_of_row _ R o _ _ h⟩
 all_goals (simp only[World.cell?,h];rfl)
theorem c6E(h:DSt w d s r col)(line:Value)(l:Desk.a7U)(hl:Desk.a1O l)(hgl:(Desk.a0g s l).2.granted.length<=50000)
  (hans:∀ X,Below w.heap.size w X->DSt X d s r col->Calls Tryz.prog 64 #[.pointer (some ⟨d,0,none⟩),line] X fun e w'=>∃ v,e=.returned v/\a0l X d col (Desk.a0g s l) v w'):
  Calls Tryz.prog 46 #[.pointer (some ⟨d,0,none⟩),line] w fun e w'=>∃ v,e=.returned v/\a0l w d col (Desk.a1q s l) v w':=by
 have hX:Below w.heap.size w (w.alloc a0f):=(zr _ _).alloc (zq _) _;have hq:=a0p w a0f;have hs:w.heap.size<(w.alloc a0f).heap.size:=by simp
 have AN:=a0b (hans (w.alloc a0f) hX ⟨h.dk.later hX,h.of,h.wl,h.hl,h.inv⟩);have HX:=a0b (zA hX (zA (Q7.of hq) (h.dk.none (zq _))));have HM:=a0b (zA (Desk.b7f h.inv hl) hgl);have HE:=a0b (b9u (s:=s) (l:=l));have HO:=a0b (c2k (s:=s) (l:=l));clear h hans hX hq hgl;generalize Desk.a1q s l=SD at *;generalize Desk.a0g s l=D at *
 go_enter Tryz.func46,Tryz.ntmps46
 go_upto_region 1 with fail
 change Code.wp _ _ _ _ (w.alloc a0f);generalize w.alloc a0f=X at *
 go_wp2_with fail
 refine AN.out.mono ?_;rintro e w1 ⟨v,rfl,ap⟩;have AP:=a0b ap;obtain⟨r1,col1,k1,k2,k3,k4,k5,en,da,gr,ed,l2,rfl,hl2,e3,e4,e5,e6,e7⟩:=ap;obtain⟨b1,c1,rfl⟩:=a0B e3.own;obtain⟨b2,c2,rfl⟩:=e4.slice;obtain⟨b3,c3,rfl⟩:=e5.slice;obtain⟨b4,c4,rfl⟩:=e6.slice;have hs1:=k5.size
 by_cases he:D.2.err=0
 ·have HOO:=a0b (HO.out he);have GR:=a0b (b3y (w:=(w1.alloc (.cells #[.int .i64 D.2.err,.int .i64 D.2.at_,.int .i64 D.2.n,.slice b1 l2.length c1,.slice b2 D.2.days.length c2,.slice b3 D.2.granted.length c3,.slice b4 D.2.ended.length c4] 40)).drew) (k1.later ((zr _ _).alloc (zq _) _).drew) k2 k3 k4 HM.out.1)
  have AG:=a0b (fun v2 w4 g=>b8I (w:=w) (w4:=w4) (v2:=v2) (s1:=D.1) HX.out.1 hs HX.out.2.1 HX.out.2.2 k1 k5 hl2 e3 e4 e5 e6 e7 ⟨rfl,rfl,rfl⟩ g (by
   have h1:=a5e D.1.ts (D.1.es.filter Desk.a0T) (D.1.es,[]);have h2:=List.length_filter_le Desk.a0T D.1.es;have h3:=a1x HM.out.1;have e1:=Desk.a5F D.1.ts D.1.es HM.out.1.ids;have h4:=HM.out.2;simp only[List.length_nil] at h1;rw[<- e1] at h1
   omega))
  have yR:(w1.alloc (.cells #[.int .i64 D.2.err,.int .i64 D.2.at_,.int .i64 D.2.n,.slice b1 l2.length c1,.slice b2 D.2.days.length c2,.slice b3 D.2.granted.length c3,.slice b4 D.2.ended.length c4] 40)).cell? ⟨w1.heap.size,5,none⟩=some (.slice b3 D.2.granted.length c3):=by simp
  clear k1 k2 k3 k4 k5 hl2 e3 e4 e5 e6 e7 AP AN;simp only[a0s];rw[he] at GR AG yR HOO ⊢
  go_upto_region 3 with fail
  go_region_law (first
   |(refine a2k (by rfl) 65 _ _ (by rfl) _ (by simp[Act.eval,Act.put]) (b6Z _ _) GR.out ?_;rintro e w4 ⟨v2,rfl,p⟩;refine⟨_,rfl,?_⟩;obtain⟨a,m,cap,w5,hrun,g5,h5,q7,hf⟩:=AG.out v2 w4 p;have HR:=a0b hrun;have HF:=a0b hf;clear hrun hf;obtain⟨y0,y1,y2,y3,y4,y5,y6,fR⟩:=c7o h5;obtain⟨q0,q1,q2,q3,q4,q5,q6,fq⟩:=q7)
   |(refine a3u (by rfl) _ _ _ _ (by rfl) (HR.out _) ?_))
  all_goals
   have HG:=a0b (HF.out (.int .i64 0) (.int .i64 D.2.at_) (.int .i64 D.2.n) (.slice b1 l2.length c1) (.slice b2 D.2.days.length c2) (.slice a m cap) (.slice b4 D.2.ended.length c4));clear HF p GR AG HR yR g5 h5
   go_wp2_with fail
   exact bodyPost_ret (v:=a0s 0 D.2.at_ D.2.n (.slice b1 l2.length c1) (.slice b2 D.2.days.length c2) (.slice a m cap) (.slice b4 D.2.ended.length c4)) (by simp[results,Tryz.results46,go_sem,a0s,q0,q1,q2,q3,q4,q5,q6]) rfl ⟨_,rfl,by rw[HOO.out];exact HG.out⟩
 ·have hbe:(D.2.err==0)=false:=by simpa using he
  have HD:=a0b (HE.out he);have kW:Below w1.heap.size w1 (w1.alloc (.cells #[.int .i64 D.2.err,.int .i64 D.2.at_,.int .i64 D.2.n,.slice b1 l2.length c1,.slice b2 D.2.days.length c2,.slice b3 D.2.granted.length c3,.slice b4 D.2.ended.length c4] 40)):=(zr _ _).alloc (zq _) _;obtain⟨_,_,_,_,_,_,_,_,_,_,_,_,_,_,_,_,q7,hf⟩:=(AP.out.later kW).up HX.out.1 (zq _) hs HX.out.2.2 HX.out.2.1;have HF:=a0b (hf (.int .i64 D.2.err) (.int .i64 D.2.at_) (.int .i64 D.2.n) (.slice b1 l2.length c1) (.slice b2 D.2.days.length c2) (.slice b3 D.2.granted.length c3) (.slice b4 D.2.ended.length c4));obtain⟨q0,q1,q2,q3,q4,q5,q6,fq⟩:=q7;clear k1 k2 k3 k4 k5 hl2 e3 e4 e5 e6 e7 AP AN hf kW;simp only[a0s];generalize D.2.err=er at *
  go_wp2_with fail
  exact bodyPost_ret (v:=a0s er D.2.at_ D.2.n (.slice b1 l2.length c1) (.slice b2 D.2.days.length c2) (.slice b3 D.2.granted.length c3) (.slice b4 D.2.ended.length c4)) (by simp[results,Tryz.results46,go_sem,a0s,q0,q1,q2,q3,q4,q5,q6]) rfl ⟨_,rfl,by rw[HD.out];exact HF.out⟩
theorem a2a{a b:Bool}(h:a=b):Ending.returned (.bool a)=.returned (.bool b):=by rw[h]
theorem a3w{k:IntKind}(h:a=b):Ending.returned (.int k a)=.returned (.int k b):=by rw[h]
def Tab(w:World):Prop:=w.cell? ⟨1,0,none⟩=some (.int .i64 31)/\w.cell? ⟨1,1,none⟩=some (.int .i64 28)/\w.cell? ⟨1,2,none⟩=some (.int .i64 31)/\w.cell? ⟨1,3,none⟩=some (.int .i64 30)/\w.cell? ⟨1,4,none⟩=some (.int .i64 31)/\w.cell? ⟨1,5,none⟩=some (.int .i64 30)/\w.cell? ⟨1,6,none⟩=some (.int .i64 31)/\w.cell? ⟨1,7,none⟩=some (.int .i64 31)/\w.cell? ⟨1,8,none⟩=some (.int .i64 30)/\w.cell? ⟨1,9,none⟩=some (.int .i64 31)/\w.cell? ⟨1,10,none⟩=some (.int .i64 30)/\w.cell? ⟨1,11,none⟩=some (.int .i64 31)
theorem b8s(y:Int)(w:World)(h1:0<=y)(h2:y<=10000):
  Calls Tryz.prog 228 #[.int .i64 y] w fun e w'=>e=.returned (.bool (Cal.c2U y))/\w'=w:=by
 cases a4:(y % 4==0)
 ·go_enter Tryz.func228,Tryz.ntmps228
  go_wp2;go_ret;exact⟨a2a (by simp[Cal.c2U,a4]),rfl⟩
 ·cases a100:(y % 100 != 0)
  ·cases a400:(y % 400==0)
   all_goals
    go_enter Tryz.func228,Tryz.ntmps228
    go_wp2;go_ret;exact⟨a2a (by simp only[Cal.c2U,a4,a100,a400];rfl),rfl⟩
  ·go_enter Tryz.func228,Tryz.ntmps228
   go_wp2;go_ret;exact⟨a2a (by simp only[Cal.c2U,a4,a100];rfl),rfl⟩
theorem a3h(y:Int)(w:World)(h1:1<=y)(h2:y<=10000):
  Calls Tryz.prog 168 #[.int .i64 y] w fun e w'=>e=.returned (.int .i64 (Cal.ah y))/\w'=w:=by
 go_enter Tryz.func168,Tryz.ntmps168
 go_wp2;go_ret;exact⟨a3w (by unfold Cal.ah;omega),rfl⟩
theorem a5L(y m:Int)(w:World)(ht:Tab w)(h1:0<=y)(h2:y<=10000)(h3:1<=m)(h4:m<=12):
  Calls Tryz.prog 169 #[.int .i64 y,.int .i64 m] w fun e w'=>e=.returned (.int .i64 (Cal.dim y m))/\w'=w:=by
 obtain⟨c0,c1,c2,c3,c4,c5,c6,c7,c8,c9,c10,c11⟩:=ht;rcases Cal.c3Z m h3 h4 with h|h|h|h|h|h|h|h|h|h|h|h
 ·subst h
  go_enter Tryz.func169,Tryz.ntmps169
  go_wp2;go_ret;exact⟨a3w (by simp[Cal.dim,Cal.tab]),rfl⟩
 ·subst h
  cases hl:Cal.c2U y
  all_goals
   go_enter Tryz.func169,Tryz.ntmps169
   go_wp2_with (go_at_call 228;refine (b8s _ _ (by omega) (by omega)).mono ?_;rintro e w' ⟨rfl,rfl⟩)
   go_ret;exact⟨a3w (by simp[Cal.dim,Cal.lp,hl]),rfl⟩
 all_goals
  subst h
  go_enter Tryz.func169,Tryz.ntmps169
  go_wp2;go_ret;exact⟨a3w (by simp[Cal.dim,Cal.tab]),rfl⟩
theorem b7A(g:Int)(w:World)(h1:0<=g)(h2:g<3652059):
  Calls Tryz.prog 171 #[.int .i64 g] w fun e w'=>∃ y:Int,e=.returned (.int .i64 y)/\1<=y/\y<=9999/\Cal.ah y<=g/\g<Cal.ah (y+1)/\w'=w:=by
 have g0:=Cal.b7s g h1
 go_enter Tryz.func171,Tryz.ntmps171
 go_wp2
 go_loop [3] (fun t=>∃ y:Int,1<=y/\y<=9999/\Cal.ah y<=g/\t=.int .i64 y) (fun t=>(9999-intOf t).toNat)
 case atStart=>exact⟨_,by omega,by omega,g0,rfl⟩
 case round =>
  obtain⟨y,hy1,hy2,hy3,rfl⟩:=hrel;clear g0
  by_cases hd:Cal.ah (y+1)<=g
  ·have hy:y<9999:=by
    by_cases e:y=9999
    ·subst e;have:=Cal.b7t;rw[show (9999:Int)+1=10000 from rfl] at hd;omega
    ·omega
   go_wp2_with (go_at_call 168;refine (a3h _ _ (by omega) (by omega)).mono ?_;rintro e w' ⟨rfl,rfl⟩)
   go_round
   case rel=>exact⟨y+1,by omega,by omega,hd,rfl⟩
   case measure=>simp[intOf];omega
  ·have hd':g<Cal.ah (y+1):=by omega
   go_wp2_with (go_at_call 168;refine (a3h _ _ (by omega) (by omega)).mono ?_;rintro e w' ⟨rfl,rfl⟩)
   go_ret;exact⟨y,rfl,hy1,hy2,hy3,hd',rfl⟩
theorem a5A{d:Int}(h:¬ (1<=y/\y<=9999/\1<=m/\m<=12/\1<=d/\d<=Cal.dim y m)):Cal.ok y m d=false:=by
 unfold Cal.ok;exact decide_eq_false h
theorem b9Y{d:Int}(h:1<=y/\y<=9999/\1<=m/\m<=12/\1<=d/\d<=Cal.dim y m):Cal.ok y m d=true:=by
 unfold Cal.ok;exact decide_eq_true h
theorem b0T(y m d:Int)(w:World)(ht:Tab w):
  Calls Tryz.prog 167 #[.int .i64 y,.int .i64 m,.int .i64 d] w fun e w'=>e=.returned (.bool (Cal.ok y m d))/\w'=w:=by
 by_cases a:1<=y
 ·by_cases b:y<=9999
  ·by_cases c:1<=m
   ·by_cases f:m<=12
    ·by_cases g:1<=d
     ·by_cases k:d<=Cal.dim y m
      all_goals
       go_enter Tryz.func167,Tryz.ntmps167
       go_wp2_with (go_at_call 169;refine (a5L _ _ _ ht (by omega) (by omega) (by omega) (by omega)).mono ?_;rintro e w' ⟨rfl,rfl⟩)
       go_ret
      ·exact⟨a2a (by rw[b9Y ⟨a,b,c,f,g,k⟩]),rfl⟩
      ·exact⟨a2a (by rw[a5A (by omega)];exact decide_eq_false (by omega)),rfl⟩
     ·go_enter Tryz.func167,Tryz.ntmps167
      go_wp2;go_ret;exact⟨a2a (by rw[a5A (by omega)]),rfl⟩
    ·go_enter Tryz.func167,Tryz.ntmps167
     go_wp2;go_ret;exact⟨a2a (by rw[a5A (by omega)]),rfl⟩
   ·go_enter Tryz.func167,Tryz.ntmps167
    go_wp2;go_ret;exact⟨a2a (by rw[a5A (by omega)]),rfl⟩
  ·go_enter Tryz.func167,Tryz.ntmps167
   go_wp2;go_ret;exact⟨a2a (by rw[a5A (by omega)]),rfl⟩
 ·go_enter Tryz.func167,Tryz.ntmps167
  go_wp2;go_ret;exact⟨a2a (by rw[a5A (by omega)]),rfl⟩
theorem a9O(y m d:Int)(w:World)(ht:Tab w)(h:Cal.ok y m d=false):
  Calls Tryz.prog 112 #[.int .i64 y,.int .i64 m,.int .i64 d] w fun e w'=>e=.returned (.tuple #[.int .i64 0,.int .i64 6])/\w'=w:=by
 go_enter Tryz.func112,Tryz.ntmps112
 go_wp2_with (go_at_call 167;refine (b0T _ _ _ _ ht).mono ?_;rintro e w' ⟨rfl,rfl⟩)
 go_ret2;exact⟨rfl,rfl⟩
theorem c2w{k l:IntKind}{c:Int}(h:a=b):Ending.returned (.tuple #[.int k a,.int l c])=.returned (.tuple #[.int k b,.int l c]):=by rw[h]
theorem a7P(y m d:Int)(w:World)(ht:Tab w)(h:Cal.ok y m d=true):
  Calls Tryz.prog 112 #[.int .i64 y,.int .i64 m,.int .i64 d] w fun e w'=>e=.returned (.tuple #[.int .i64 (Cal.num y m d),.int .i64 0])/\w'=w:=by
 obtain⟨h1,h2,h3,h4,h5,h6⟩:=(Cal.a2K y m d).1 h;have hb:=Cal.c5D y h1 (by omega);have hdb:=Cal.b3I y m;have hl:=Cal.c4Z y
 go_enter Tryz.func112,Tryz.ntmps112
 go_wp2_with (first|(go_at_call 167;refine (b0T _ _ _ _ ht).mono ?_;rintro e w' ⟨rfl,rfl⟩)|(go_at_call 168;refine (a3h _ _ (by omega) (by omega)).mono ?_;rintro e w' ⟨rfl,rfl⟩))
 go_loop [8,9] (fun n k=>∃ j:Int,1<=j/\j<=m/\k=.int .i64 j/\n=.int .i64 (-738885+Cal.ah y+d-1+Cal.cum y j)) (fun _ k=>(m-intOf k).toNat)
 case atStart=>exact⟨1,by omega,by omega,rfl,by rw[Cal.a9K,Int.add_zero]⟩
 case round =>
  obtain⟨j,hj1,hj2,rfl,rfl⟩:=hrel;have cb:=Cal.b7m y j hj1 (by omega);have db:=Cal.b3I y j;have cs:=Cal.a5M y j hj1 (by omega);have HC:Hid (Cal.cum y (j+1)=Cal.cum y j+Cal.dim y j):=cs;clear cs
  by_cases hc:j<m
  ·go_wp2_with (go_at_call 169;refine (a5L _ _ _ ht (by omega) (by omega) (by omega) (by omega)).mono ?_;rintro e w' ⟨rfl,rfl⟩)
   go_round
   case rel=>exact⟨j+1,by omega,by omega,rfl,by rw[HC.out];go_num⟩
   case measure=>simp[intOf];omega
  ·obtain rfl:j=m:=by omega
   go_wp2;go_ret2;exact⟨c2w (by unfold Cal.num Cal.first;omega),rfl⟩
theorem b2R{fn:Func}{t u v x:Tmp}(h:fn.results=#[.tmp t,.tmp u,.tmp v,.tmp x])(tmps:Array Value)(P:Program)(w:World):
  (results fn tmps).run P w=.ok (.tuple #[tmps.getD t undef,tmps.getD u undef,tmps.getD v undef,tmps.getD x undef]) w:=by
 simp[results,h]
theorem c6d(n y k:Int):Cal.num y k (n+738885-Cal.ah y-Cal.cum y k+1)=n:=by unfold Cal.num Cal.first;omega
theorem b5w(n:Int)(w:World)(ht:Tab w)(h1:-738885<=n)(h2:n<=2913173):
  Calls Tryz.prog 116 #[.int .i64 n] w fun e w'=>∃ y m d:Int,e=.returned (.tuple #[.int .i64 y,.int .i64 m,.int .i64 d,.int .i64 0])/\Cal.ok y m d=true/\Cal.num y m d=n/\w'=w:=by
 go_enter Tryz.func116,Tryz.ntmps116
 go_wp2_with (first|(go_at_call 171;refine (b7A _ _ (by omega) (by omega)).mono ?_;rintro e w' ⟨y,rfl,hy1,hy2,hy3,hy4,rfl⟩;have hb:=Cal.c5D y hy1 (by omega))|(go_at_call 168;refine (a3h _ _ (by omega) (by omega)).mono ?_;rintro e w' ⟨rfl,rfl⟩))
 have hs:=Cal.b5I y hy1;have hl:=Cal.c4Z y
 go_loop [8,9] (fun r k=>∃ m:Int,1<=m/\m<=12/\k=.int .i64 m/\0<=n+738885-Cal.ah y-Cal.cum y m/\r=.int .i64 (n+738885-Cal.ah y-Cal.cum y m)) (fun _ k=>(12-intOf k).toNat)
 case atStart=>exact⟨1,by omega,by omega,rfl,by rw[Cal.a9K];omega,by rw[Cal.a9K,Int.sub_zero]⟩
 case round =>
  obtain⟨m,hm1,hm2,rfl,hr,rfl⟩:=hrel;have cb:=Cal.b7m y m hm1 (by omega);have db:=Cal.b3I y m;have cs:=Cal.a5M y m hm1 hm2;have ce:=Cal.b5q y
  by_cases hd:Cal.dim y m<=n+738885-Cal.ah y-Cal.cum y m
  ·have hm:m<12:=by
    by_cases e:m=12
    ·subst e;rw[show (12:Int)+1=13 from rfl] at cs;omega
    ·omega
   have HC:Hid (Cal.cum y (m+1)=Cal.cum y m+Cal.dim y m):=cs;clear cs ce hs
   go_wp2_with (go_at_call 169;refine (a5L _ _ _ ht (by omega) (by omega) (by omega) (by omega)).mono ?_;rintro e w' ⟨rfl,rfl⟩)
   go_round
   case rel=>exact⟨m+1,by omega,by omega,rfl,by rw[HC.out];omega,by rw[HC.out];go_num⟩
   case measure=>simp[intOf];omega
  ·have hok:Cal.ok y m (n+738885-Cal.ah y-Cal.cum y m+1)=true:=b9Y (by omega);clear cs ce hs
   go_wp2_with (go_at_call 169;refine (a5L _ _ _ ht (by omega) (by omega) (by omega) (by omega)).mono ?_;rintro e w' ⟨rfl,rfl⟩)
   (try simp only[Exit.inBlock,Exit.then]);refine bodyPost_ret (b2R rfl _ _ _) rfl ?_
   exact⟨y,m,_,rfl,hok,c6d n y m,rfl⟩
theorem hide{p:Prop}(h:p):Hid p:=h
theorem a0d{p:Prop}(h:Hid p):p:=h
theorem Tab.later(h:Tab w)(hb:Below w.heap.size w wx):Tab wx:=by
 obtain⟨c0,c1,c2,c3,c4,c5,c6,c7,c8,c9,c10,c11⟩:=h;exact⟨cell_later hb c0,cell_later hb c1,cell_later hb c2,cell_later hb c3,cell_later hb c4,cell_later hb c5,cell_later hb c6,cell_later hb c7,cell_later hb c8,cell_later hb c9,cell_later hb c10,cell_later hb c11⟩
theorem a0A{k:IntKind}{c d:Bool}(h:a=b)(g:c=d):Ending.returned (.tuple #[.int k a,.bool c])=.returned (.tuple #[.int k b,.bool d]):=by rw[h,g]
theorem a0m(s:ByteArray)(w:World)(hs:s.size<=maxLen):
  Calls Tryz.prog 139 #[.string s] w fun e w'=>e=.returned (.tuple #[.int .i64 (Txt.a2f s.data.toList),.bool (Txt.isNum s.data.toList)])/\w'=w:=by
 unfold maxLen at hs
 by_cases h0:s.size=0
 ·have H:Hid (Txt.isNum s.data.toList=false):=Txt.b3o (by rw[Txt.a1d];omega);have h1:((s.size:Int)==0)=true:=beq_iff_eq.2 (by omega)
  go_enter Tryz.func139,Tryz.ntmps139
  go_wp2;go_ret2;exact⟨a0A (by simp[Txt.a2f,H.out]) (by rw[H.out]),rfl⟩
 ·have h1:((s.size:Int)==0)=false:=beq_eq_false_iff_ne.2 (by omega)
  by_cases h7:7<s.size
  ·have H:Hid (Txt.isNum s.data.toList=false):=Txt.b3o (by rw[Txt.a1d];omega);clear h0
   go_enter Tryz.func139,Tryz.ntmps139
   go_wp2;go_ret2;exact⟨a0A (by simp[Txt.a2f,H.out]) (by rw[H.out]),rfl⟩
  ·go_enter Tryz.func139,Tryz.ntmps139
   go_wp2
   go_loop [4,5,6] (fun n i _=>∃ k:Nat,k<=s.size/\i=.int .i64 k/\n=.int .i64 (Txt.b4R (s.data.toList.take k))/\Txt.a6j (s.data.toList.take k)=true) (fun _ i _=>s.size-(intOf i).toNat)
   case atStart=>exact⟨0,Nat.zero_le _,rfl,rfl,rfl⟩
   case round =>
    obtain⟨k,hk,rfl,rfl,hd⟩:=hrel;have HD:=hide hd;have nb:=Txt.c0i (s.data.toList.take k) hd (by rw[List.length_take];omega);clear hd
    by_cases hlt:k<s.size
    ·have HT:Hid (s.data.toList.take (k+1)=s.data.toList.take k++[s[k]]):=Txt.a8N s k hlt
     by_cases hc:Txt.dig s[k]=true
     ·have hc':=(Txt.a6k _).1 hc;have HC:=hide hc;obtain⟨hc1,hc2⟩:=hc';clear hc;go_wp2
      go_round
      case rel=>exact⟨k+1,by omega,by go_num,by rw[HT.out,Txt.b2Y],by rw[HT.out,Txt.a6X,HD.out,HC.out];rfl⟩
      case measure=>simp[intOf];omega
     ·have HC:Hid (Txt.isNum s.data.toList=false):=Txt.b3q (Txt.a8h _ (k+1) (by rw[HT.out,Txt.a6X,HD.out];simpa using hc))
      have hc':(s[k].toNat:Int)<48\/(¬ (s[k].toNat:Int)<48/\57<(s[k].toNat:Int)):=by
       have:=mt (Txt.a6k s[k]).2 hc;omega
      clear hc;rcases hc' with hc' |⟨hc',hc''⟩
      all_goals
       go_wp2;go_ret2;exact⟨a0A (by simp[Txt.a2f,HC.out]) (by rw[HC.out]),rfl⟩
    ·have HA:Hid (s.data.toList.take k=s.data.toList):=Txt.a5t s k (by omega);have HN:Hid (Txt.isNum s.data.toList=true):=Txt.b0J (by rw[Txt.a1d];omega) (by rw[Txt.a1d];omega) (by rw[<- HA.out];exact HD.out);go_wp2;go_ret2;exact⟨a0A (by rw[HA.out];simp[Txt.a2f,HN.out]) (by rw[HN.out]),rfl⟩
theorem b5y(h:a≠b):(a != b)=true:=by rw[bne_iff_ne];exact h
theorem b5z(h:a=b):(a != b)=false:=by subst h;simp
theorem a0P(s:ByteArray)(a b:Nat)(h:s.size<=maxLen):(s.extract a b).size<=maxLen:=by
 have:(s.extract a b).size=min b s.size-a:=ByteArray.size_extract ..;omega
theorem a2m(s:ByteArray)(w:World)(hm:s.size<=maxLen):
  Calls Tryz.prog 137 #[.string s] w fun e w'=>e=.returned (.tuple #[.int .i64 (Txt.a6J s),.bool (Txt.a3a s)])/\w'=w:=by
 have HM:=hide hm;clear hm
 by_cases hs:s.size=5
 ·have h5:((s.size:Int) != 5)=false:=b5z (by omega);have h6:(2:Int)<(s.size:Int):=by omega
  have h2n:2<s.size:=by omega
  have h7:(3:Int)<=(s.size:Int):=by omega
  by_cases hb:Txt.a0V s 2=58
  ·have hc:(((s[2]'h2n).toNat:Int) != 58)=false:=b5z (by rw[<- Txt.a2W];exact hb);have b1:=Txt.a2B (Txt.part s 0 2);have b2:=Txt.a2B (Txt.part s 3 5);have HS:=hide hs;have HB:=hide hb;clear hs hb;have HF:=hide (Txt.b6G HS.out HB.out)
   cases n1:Txt.isNum (Txt.part s 0 2)
   ·go_enter Tryz.func137,Tryz.ntmps137
    go_wp2_with fail
    refine (a0m _ _ (a0P _ _ _ HM.out)).mono ?_;rintro e w' ⟨rfl,rfl⟩;rw[show (s.extract 0 2).data.toList=Txt.part s 0 2 from rfl]
    go_wp2_with fail
    refine (a0m _ _ (a0P _ _ _ HM.out)).mono ?_;rintro e w' ⟨rfl,rfl⟩;rw[show (s.extract 3 s.size).data.toList=Txt.part s 3 5 from by rw[HS.out];rfl];go_wp2;go_ret2;exact⟨a0A (by simp[Txt.a6J,a0d HF,n1]) (by simp[a0d HF,n1]),rfl⟩
   ·cases n2:Txt.isNum (Txt.part s 3 5)
    ·go_enter Tryz.func137,Tryz.ntmps137
     go_wp2_with fail
     refine (a0m _ _ (a0P _ _ _ HM.out)).mono ?_;rintro e w' ⟨rfl,rfl⟩;rw[show (s.extract 0 2).data.toList=Txt.part s 0 2 from rfl]
     go_wp2_with fail
     refine (a0m _ _ (a0P _ _ _ HM.out)).mono ?_;rintro e w' ⟨rfl,rfl⟩;rw[show (s.extract 3 s.size).data.toList=Txt.part s 3 5 from by rw[HS.out];rfl];go_wp2;go_ret2;exact⟨a0A (by simp[Txt.a6J,a0d HF,n1,n2]) (by simp[a0d HF,n1,n2]),rfl⟩
    ·by_cases g1:Txt.a2f (Txt.part s 0 2)<=23
     ·by_cases g2:Txt.a2f (Txt.part s 3 5)<=59
      ·go_enter Tryz.func137,Tryz.ntmps137
       go_wp2_with fail
       refine (a0m _ _ (a0P _ _ _ HM.out)).mono ?_;rintro e w' ⟨rfl,rfl⟩;rw[show (s.extract 0 2).data.toList=Txt.part s 0 2 from rfl]
       go_wp2_with fail
       refine (a0m _ _ (a0P _ _ _ HM.out)).mono ?_;rintro e w' ⟨rfl,rfl⟩;rw[show (s.extract 3 s.size).data.toList=Txt.part s 3 5 from by rw[HS.out];rfl];go_wp2;go_ret2;exact⟨a0A (by simp[Txt.a6J,a0d HF,n1,n2,g1,g2]) (by simp[a0d HF,n1,n2,g1,g2]),rfl⟩
      ·go_enter Tryz.func137,Tryz.ntmps137
       go_wp2_with fail
       refine (a0m _ _ (a0P _ _ _ HM.out)).mono ?_;rintro e w' ⟨rfl,rfl⟩;rw[show (s.extract 0 2).data.toList=Txt.part s 0 2 from rfl]
       go_wp2_with fail
       refine (a0m _ _ (a0P _ _ _ HM.out)).mono ?_;rintro e w' ⟨rfl,rfl⟩;rw[show (s.extract 3 s.size).data.toList=Txt.part s 3 5 from by rw[HS.out];rfl];go_wp2;go_ret2;have g2':¬ Txt.a2f (Txt.part s 3 5)<=59:=by omega
       exact⟨a0A (by simp[Txt.a6J,a0d HF,n1,n2,g1,g2']) (by simp[a0d HF,n1,n2,g1,g2']),rfl⟩
     ·go_enter Tryz.func137,Tryz.ntmps137
      go_wp2_with fail
      refine (a0m _ _ (a0P _ _ _ HM.out)).mono ?_;rintro e w' ⟨rfl,rfl⟩;rw[show (s.extract 0 2).data.toList=Txt.part s 0 2 from rfl]
      go_wp2_with fail
      refine (a0m _ _ (a0P _ _ _ HM.out)).mono ?_;rintro e w' ⟨rfl,rfl⟩;rw[show (s.extract 3 s.size).data.toList=Txt.part s 3 5 from by rw[HS.out];rfl];go_wp2;go_ret2;have g1':¬ Txt.a2f (Txt.part s 0 2)<=23:=by omega
      exact⟨a0A (by simp[Txt.a6J,a0d HF,n1,n2,g1']) (by simp[a0d HF,n1,n2,g1']),rfl⟩
  ·have hc:(((s[2]'h2n).toNat:Int) != 58)=true:=b5y (by rw[<- Txt.a2W];exact hb);have HF:Hid (Txt.a3a s=false):=Txt.a5D (by omega);clear hs hb
   go_enter Tryz.func137,Tryz.ntmps137
   go_wp2;go_ret2;exact⟨a0A (by simp[Txt.a6J,HF.out]) (by rw[HF.out]),rfl⟩
 ·have h5:((s.size:Int) != 5)=true:=b5y (by omega);have HF:Hid (Txt.a3a s=false):=Txt.a5D (by omega);clear hs
  go_enter Tryz.func137,Tryz.ntmps137
  go_wp2;go_ret2;exact⟨a0A (by simp[Txt.a6J,HF.out]) (by rw[HF.out]),rfl⟩
theorem a1U(s:ByteArray)(w:World)(ht:Tab w)(hm:s.size<=maxLen):
  Calls Tryz.prog 195 #[.string s] w fun e w'=>e=.returned (.tuple #[.int .i64 (Txt.a2o s),.bool (Txt.a5j s)])/\w'=w:=by
 have HM:=hide hm;clear hm
 by_cases hs:s.size=10
 ·have h5:((s.size:Int) != 10)=false:=b5z (by omega);have h4n:4<s.size:=by omega
  have h7n:7<s.size:=by omega
  have h4:(4:Int)<(s.size:Int):=by omega
  have h7:(7:Int)<(s.size:Int):=by omega
  have h8:(8:Int)<=(s.size:Int):=by omega
  by_cases hb:Txt.a0V s 4=45
  ·have hc:(((s[4]'h4n).toNat:Int) != 45)=false:=b5z (by rw[<- Txt.a2W];exact hb)
   by_cases hd:Txt.a0V s 7=45
   ·have he:(((s[7]'h7n).toNat:Int) != 45)=false:=b5z (by rw[<- Txt.a2W];exact hd);have b1:=Txt.a2B (Txt.part s 0 4);have b2:=Txt.a2B (Txt.part s 5 7);have b3:=Txt.a2B (Txt.part s 8 10);have HF:=hide (Txt.c1h hs hb hd);have HS:=hide hs;clear hs hb hd;have hn:∃ n1 n2 n3:Bool,Txt.isNum (Txt.part s 0 4)=n1/\Txt.isNum (Txt.part s 5 7)=n2/\Txt.isNum (Txt.part s 8 10)=n3:=⟨_,_,_,rfl,rfl,rfl⟩;obtain⟨n1,n2,n3,e1,e2,e3⟩:=hn;have walk3:n1=false\/(n1=true/\n2=false)\/(n1=true/\n2=true/\n3=false)\/(n1=true/\n2=true/\n3=true):=by cases n1 <;> cases n2 <;> cases n3 <;> simp
    rcases walk3 with h|⟨h,h'⟩|⟨h,h',h''⟩|⟨h,h',h''⟩
    ·subst h;clear e2 e3
     go_enter Tryz.func195,Tryz.ntmps195
     go_wp2_with fail
     refine (a0m _ _ (a0P _ _ _ HM.out)).mono ?_;rintro e w' ⟨rfl,rfl⟩;rw[show (s.extract 0 4).data.toList=Txt.part s 0 4 from rfl]
     go_wp2_with fail
     refine (a0m _ _ (a0P _ _ _ HM.out)).mono ?_;rintro e w' ⟨rfl,rfl⟩;rw[show (s.extract 5 7).data.toList=Txt.part s 5 7 from rfl]
     go_wp2_with fail
     refine (a0m _ _ (a0P _ _ _ HM.out)).mono ?_;rintro e w' ⟨rfl,rfl⟩;rw[show (s.extract 8 s.size).data.toList=Txt.part s 8 10 from by rw[HS.out];rfl];go_wp2;go_ret2;exact⟨a0A (by simp[Txt.a2o,a0d HF,e1]) (by simp[a0d HF,e1]),rfl⟩
    ·subst h h';clear e3
     go_enter Tryz.func195,Tryz.ntmps195
     go_wp2_with fail
     refine (a0m _ _ (a0P _ _ _ HM.out)).mono ?_;rintro e w' ⟨rfl,rfl⟩;rw[show (s.extract 0 4).data.toList=Txt.part s 0 4 from rfl]
     go_wp2_with fail
     refine (a0m _ _ (a0P _ _ _ HM.out)).mono ?_;rintro e w' ⟨rfl,rfl⟩;rw[show (s.extract 5 7).data.toList=Txt.part s 5 7 from rfl]
     go_wp2_with fail
     refine (a0m _ _ (a0P _ _ _ HM.out)).mono ?_;rintro e w' ⟨rfl,rfl⟩;rw[show (s.extract 8 s.size).data.toList=Txt.part s 8 10 from by rw[HS.out];rfl];go_wp2;go_ret2;exact⟨a0A (by simp[Txt.a2o,a0d HF,e1,e2]) (by simp[a0d HF,e1,e2]),rfl⟩
    ·subst h h' h''
     go_enter Tryz.func195,Tryz.ntmps195
     go_wp2_with fail
     refine (a0m _ _ (a0P _ _ _ HM.out)).mono ?_;rintro e w' ⟨rfl,rfl⟩;rw[show (s.extract 0 4).data.toList=Txt.part s 0 4 from rfl]
     go_wp2_with fail
     refine (a0m _ _ (a0P _ _ _ HM.out)).mono ?_;rintro e w' ⟨rfl,rfl⟩;rw[show (s.extract 5 7).data.toList=Txt.part s 5 7 from rfl]
     go_wp2_with fail
     refine (a0m _ _ (a0P _ _ _ HM.out)).mono ?_;rintro e w' ⟨rfl,rfl⟩;rw[show (s.extract 8 s.size).data.toList=Txt.part s 8 10 from by rw[HS.out];rfl];go_wp2;go_ret2;exact⟨a0A (by simp[Txt.a2o,a0d HF,e1,e2,e3]) (by simp[a0d HF,e1,e2,e3]),rfl⟩
    ·subst h h' h''
     cases ho:Cal.ok (Txt.a2f (Txt.part s 0 4)) (Txt.a2f (Txt.part s 5 7)) (Txt.a2f (Txt.part s 8 10))
     ·go_enter Tryz.func195,Tryz.ntmps195
      go_wp2_with fail
      refine (a0m _ _ (a0P _ _ _ HM.out)).mono ?_;rintro e w' ⟨rfl,rfl⟩;rw[show (s.extract 0 4).data.toList=Txt.part s 0 4 from rfl]
      go_wp2_with fail
      refine (a0m _ _ (a0P _ _ _ HM.out)).mono ?_;rintro e w' ⟨rfl,rfl⟩;rw[show (s.extract 5 7).data.toList=Txt.part s 5 7 from rfl]
      go_wp2_with fail
      refine (a0m _ _ (a0P _ _ _ HM.out)).mono ?_;rintro e w' ⟨rfl,rfl⟩;rw[show (s.extract 8 s.size).data.toList=Txt.part s 8 10 from by rw[HS.out];rfl]
      go_wp2_with fail
      refine (a9O _ _ _ _ ht ho).mono ?_;rintro e w' ⟨rfl,rfl⟩;go_wp2;go_ret2;exact⟨a0A (by simp[Txt.a2o,a0d HF,e1,e2,e3,ho]) (by simp[a0d HF,e1,e2,e3,ho]),rfl⟩
     ·go_enter Tryz.func195,Tryz.ntmps195
      go_wp2_with fail
      refine (a0m _ _ (a0P _ _ _ HM.out)).mono ?_;rintro e w' ⟨rfl,rfl⟩;rw[show (s.extract 0 4).data.toList=Txt.part s 0 4 from rfl]
      go_wp2_with fail
      refine (a0m _ _ (a0P _ _ _ HM.out)).mono ?_;rintro e w' ⟨rfl,rfl⟩;rw[show (s.extract 5 7).data.toList=Txt.part s 5 7 from rfl]
      go_wp2_with fail
      refine (a0m _ _ (a0P _ _ _ HM.out)).mono ?_;rintro e w' ⟨rfl,rfl⟩;rw[show (s.extract 8 s.size).data.toList=Txt.part s 8 10 from by rw[HS.out];rfl]
      go_wp2_with fail
      refine (a7P _ _ _ _ ht ho).mono ?_;rintro e w' ⟨rfl,rfl⟩;go_wp2;go_ret2;exact⟨a0A (by simp[Txt.a2o,a0d HF,e1,e2,e3,ho]) (by simp[a0d HF,e1,e2,e3,ho]),rfl⟩
   ·have he:(((s[7]'h7n).toNat:Int) != 45)=true:=b5y (by rw[<- Txt.a2W];exact hd);have HF:Hid (Txt.a5j s=false):=Txt.a6l (by omega);clear hs hb hd
    go_enter Tryz.func195,Tryz.ntmps195
    go_wp2;go_ret2;exact⟨a0A (by simp[Txt.a2o,HF.out]) (by rw[HF.out]),rfl⟩
  ·have hc:(((s[4]'h4n).toNat:Int) != 45)=true:=b5y (by rw[<- Txt.a2W];exact hb);have HF:Hid (Txt.a5j s=false):=Txt.a6l (by omega);clear hs hb
   go_enter Tryz.func195,Tryz.ntmps195
   go_wp2;go_ret2;exact⟨a0A (by simp[Txt.a2o,HF.out]) (by rw[HF.out]),rfl⟩
 ·have h5:((s.size:Int) != 10)=true:=b5y (by omega);have HF:Hid (Txt.a5j s=false):=Txt.a6l (by omega);clear hs
  go_enter Tryz.func195,Tryz.ntmps195
  go_wp2;go_ret2;exact⟨a0A (by simp[Txt.a2o,HF.out]) (by rw[HF.out]),rfl⟩
structure Kept(R:Nat)(w w':World):Prop where
 os:w'.os=w.os
 tape:w'.tape=w.tape
 output:w'.output=w.output
 size:w.heap.size<=w'.heap.size
 block:∀ k,k<w.heap.size->k≠R->w'.heap[k]?=w.heap[k]?
theorem Kept.refl(R:Nat)(w:World):Kept R w w:=⟨rfl,rfl,rfl,Nat.le_refl _,fun _ _ _=>rfl⟩
theorem Kept.trans{a b c:World}(h:Kept R a b)(k:Kept R b c):Kept R a c :=
 ⟨k.os.trans h.os,k.tape.trans h.tape,k.output.trans h.output,Nat.le_trans h.size k.size,fun i hi hr=>(k.block i (zL hi h.size) hr).trans (h.block i hi hr)⟩
theorem Kept.of_below(h:Below w.heap.size w w'):Kept R w w':=⟨h.os,h.tape,h.output,h.size,fun k hk _=>h.block k hk⟩
theorem Kept.drewN(h:Kept R w w')(n:Nat):Kept R w (w'.drewN n):=⟨h.os,h.tape,h.output,h.size,h.block⟩
theorem Kept.setCell(h:Kept R w w')(o:Nat)(v:Value):Kept R w (w'.setCell ⟨R,o,none⟩ v) :=
 h.trans ⟨(Below.setCell (B:=0) (Below.refl 0 w') (zN _) v).os,(Below.setCell (B:=0) (Below.refl 0 w') (zN _) v).tape,(Below.setCell (B:=0) (Below.refl 0 w') (zN _) v).output,(Below.setCell (B:=0) (Below.refl 0 w') (p:=⟨R,o,none⟩) (zN _) v).size,fun k _ hr=>Below.heap_setCell w' _ v k hr⟩
theorem Kept.below(h:Kept R w w')(hr:B<=R)(hb:B<=w.heap.size):Below B w w' :=
 ⟨h.os,h.tape,h.output,h.size,fun k hk=>h.block k (zL hk hb) (Nat.ne_of_lt (zL hk hr))⟩
theorem Kept.cell(h:Kept R w w'){b o:Nat}(hne:b≠R)(hc:w.cell? ⟨b,o,none⟩=some v):w'.cell? ⟨b,o,none⟩=some v :=
 (zo (w:=w) (h.block b (zb _ _ hc) hne)).trans hc
structure RS(w:World)(R A:Nat)(ws:List ByteArray)(nx:Nat)(wr:Bool):Prop where
 c0:w.cell? ⟨R,0,none⟩=some (.slice (some ⟨A,0,none⟩) ws.length ws.length)
 c1:w.cell? ⟨R,1,none⟩=some (.int .i64 nx)
 c2:w.cell? ⟨R,2,none⟩=some (.bool wr)
 f1:w.frozen? ⟨R,1,none⟩=false
 f2:w.frozen? ⟨R,2,none⟩=false
 ne:A≠R
 rows:∀ (i:Nat) (h:i<ws.length),w.cell? ⟨A,i,none⟩=some (.string ws[i])
 len:ws.length<=160
 c6c:nx<=ws.length
 short:∀ x∈ws,x.size<=160
theorem RS.of_below(h:RS w R A ws nx wr)(hb:Below w.heap.size w w'):RS w' R A ws nx wr :=
 ⟨cell_later hb h.c0,cell_later hb h.c1,cell_later hb h.c2,(hb.frozen (zb _ _ h.c1)).trans h.f1,(hb.frozen (zb _ _ h.c2)).trans h.f2,h.ne,fun i hi=>cell_later hb (h.rows i hi),h.len,h.c6c,h.short⟩
theorem RS.drewN(h:RS w R A ws nx wr)(n:Nat):RS (w.drewN n) R A ws nx wr:=⟨h.c0,h.c1,h.c2,h.f1,h.f2,h.ne,h.rows,h.len,h.c6c,h.short⟩
def a1b(n nx:Nat)(wr:Bool):Bool:=!wr && decide (nx<n)
theorem a0X(R A:Nat)(ws:List ByteArray)(nx:Nat)(wr:Bool)(w:World)(h:RS w R A ws nx wr):
  Calls Tryz.prog 63 #[.pointer (some ⟨R,0,none⟩)] w fun e w'=>e=.returned (.bool (a1b ws.length nx wr))/\∃ n,w'=w.drewN n:=by
 have c0:=h.c0;have c1:=h.c1;have c2:=h.c2;clear h
 cases wr
 ·go_enter Tryz.func63,Tryz.ntmps63
  go_wp2
  go_quiet (fail)
  go_wp2;go_ret;exact⟨a2a (by simp[a1b]),_,rfl⟩
 ·go_enter Tryz.func63,Tryz.ntmps63
  go_wp2
  go_quiet (fail)
  go_wp2;go_ret;exact⟨a2a (by simp[a1b]),_,rfl⟩
theorem a9d(h:¬ (wr=false/\nx<n)):a1b n nx wr=false:=by
 unfold a1b
 cases wr
 ·simp;simp at h;exact h
 ·rfl
theorem c6l(R A:Nat)(ws:List ByteArray)(nx:Nat)(wr:Bool)(word:ByteArray)(w:World)(h:RS w R A ws nx wr)(hn:a1b ws.length nx wr=false):
  Calls Tryz.prog 82 #[.pointer (some ⟨R,0,none⟩),.string word] w fun e w'=>e=.returned (.bool false)/\∃ n,w'=w.drewN n:=by
 go_enter Tryz.func82,Tryz.ntmps82
 go_wp2
 go_quiet ((go_at_call 63;exact Calls.quiet_of (a0X R A ws nx wr _ (h.drewN _))))
 go_wp2;go_ret;exact⟨rfl,_,rfl⟩
theorem c2Z(R A:Nat)(ws:List ByteArray)(nx:Nat)(wr:Bool)(word:ByteArray)(w:World)(h:RS w R A ws nx wr)(hn:a1b ws.length nx wr=true)(hlt:nx<ws.length)(he:(ws[nx].toList==word.toList)=false):
  Calls Tryz.prog 82 #[.pointer (some ⟨R,0,none⟩),.string word] w fun e w'=>e=.returned (.bool false)/\∃ n,w'=w.drewN n:=by
 have c0:=h.c0;have c1:=h.c1;have c2:=h.c2;have cr:=h.rows nx hlt;have hi:(nx:Int)<(ws.length:Int):=by omega
 go_enter Tryz.func82,Tryz.ntmps82
 go_wp2
 go_quiet ((go_at_call 63;exact Calls.quiet_of (a0X R A ws nx wr _ (h.drewN _))))
 go_wp2;go_ret;exact⟨rfl,_,rfl⟩
theorem RS.step(h:RS w R A ws nx wr)(hlt:nx<ws.length):RS (w.setCell ⟨R,1,none⟩ (.int .i64 ((nx:Int)+1))) R A ws (nx+1) wr :=
 ⟨(zS _ _ _ _ (by simp)).trans h.c0,World.cell?_setCell_same _ _ _ h.c1,(zS _ _ _ _ (by simp)).trans h.c2,(zF ..).trans h.f1,(zF ..).trans h.f2,h.ne,
  fun i hi=>(zS _ _ _ _ (by simp;intro e;exact absurd e.symm h.ne)).trans (h.rows i hi),h.len,hlt,h.short⟩
theorem RS.bad(h:RS w R A ws nx wr):RS (w.setCell ⟨R,2,none⟩ (.bool true)) R A ws nx true :=
 ⟨(zS _ _ _ _ (by simp)).trans h.c0,(zS _ _ _ _ (by simp)).trans h.c1,World.cell?_setCell_same _ _ _ h.c2,(zF ..).trans h.f1,(zF ..).trans h.f2,h.ne,
  fun i hi=>(zS _ _ _ _ (by simp;intro e;exact absurd e.symm h.ne)).trans (h.rows i hi),h.len,h.c6c,h.short⟩
theorem c6k(R A:Nat)(ws:List ByteArray)(nx:Nat)(wr:Bool)(word:ByteArray)(w:World)(h:RS w R A ws nx wr)(hn:a1b ws.length nx wr=true)(hlt:nx<ws.length)(he:(ws[nx].toList==word.toList)=true):
  Calls Tryz.prog 82 #[.pointer (some ⟨R,0,none⟩),.string word] w fun e w'=>e=.returned (.bool true)/\RS w' R A ws (nx+1) wr/\Kept R w w':=by
 have c0:=h.c0;have c1:=h.c1;have c2:=h.c2;have f1:=h.f1;have cr:=h.rows nx hlt;have hl:=h.len;have hi:(nx:Int)<(ws.length:Int):=by omega
 go_enter Tryz.func82,Tryz.ntmps82
 go_wp2
 go_quiet ((go_at_call 63;exact Calls.quiet_of (a0X R A ws nx wr _ (h.drewN _))))
 go_wp2;go_ret;exact⟨rfl,(h.drewN _).step hlt,((Kept.refl R w).drewN _).setCell _ _⟩
def isB(ws:List ByteArray)(nx:Nat)(wr:Bool)(word:ByteArray):Bool:=a1b ws.length nx wr && ((ws.getD nx ByteArray.empty).toList==word.toList)
theorem a2n(R A:Nat)(ws:List ByteArray)(nx:Nat)(wr:Bool)(word:ByteArray)(w:World)(h:RS w R A ws nx wr):
  Calls Tryz.prog 82 #[.pointer (some ⟨R,0,none⟩),.string word] w fun e w'=>e=.returned (.bool (isB ws nx wr word))/\RS w' R A ws (if isB ws nx wr word then nx+1 else nx) wr/\Kept R w w':=by
 cases hm:a1b ws.length nx wr
 ·have e:isB ws nx wr word=false:=by simp[isB,hm]
  rw[e];refine (c6l R A ws nx wr word w h hm).mono ?_;rintro e w' ⟨rfl,n,rfl⟩;exact⟨rfl,h.drewN n,(Kept.refl R w).drewN n⟩
 ·have hlt:nx<ws.length:=by
   by_cases hlt:nx<ws.length
   ·exact hlt
   ·rw[a9d (by omega)] at hm;cases hm
  have eg:ws.getD nx ByteArray.empty=ws[nx]:=by simp[List.getD,hlt]
  cases he:(ws[nx].toList==word.toList)
  ·have e:isB ws nx wr word=false:=by rw[isB,eg,he,Bool.and_false]
   rw[e];refine (c2Z R A ws nx wr word w h hm hlt he).mono ?_;rintro e w' ⟨rfl,n,rfl⟩;exact⟨rfl,h.drewN n,(Kept.refl R w).drewN n⟩
  ·have e:isB ws nx wr word=true:=by rw[isB,eg,he,hm];rfl
   rw[e];exact c6k R A ws nx wr word w h hm hlt he
theorem b1F(R A:Nat)(ws:List ByteArray)(nx:Nat)(wr:Bool)(word:ByteArray)(w:World)(h:RS w R A ws nx wr):
  Calls Tryz.prog 134 #[.pointer (some ⟨R,0,none⟩),.string word] w fun e w'=>e=.returned (.tuple #[])/\RS w' R A ws (if isB ws nx wr word then nx+1 else nx) (if isB ws nx wr word then wr else true)/\Kept R w w':=by
 cases hb:isB ws nx wr word
 ·go_enter Tryz.func134,Tryz.ntmps134
  go_wp2_with fail
  refine (a2n R A ws nx wr word w h).mono ?_;rintro e w' ⟨rfl,h1,k1⟩;rw[hb] at h1 ⊢;have c2:=h1.c2;have f2:=h1.f2;go_wp2
  go_end0
  exact⟨rfl,h1.bad,k1.setCell _ _⟩
 ·go_enter Tryz.func134,Tryz.ntmps134
  go_wp2_with fail
  refine (a2n R A ws nx wr word w h).mono ?_;rintro e w' ⟨rfl,h1,k1⟩;rw[hb] at h1 ⊢;go_wp2
  go_end0
  exact⟨rfl,h1,k1⟩
def tkB(ws:List ByteArray)(nx:Nat)(wr:Bool)(B:ByteArray->Bool):Bool:=a1b ws.length nx wr && B (ws.getD nx ByteArray.empty)
def tkN(ws:List ByteArray)(nx:Nat)(wr:Bool)(B:ByteArray->Bool):Nat:=if tkB ws nx wr B then nx+1 else nx
def tkW(ws:List ByteArray)(nx:Nat)(wr:Bool)(B:ByteArray->Bool):Bool:=if tkB ws nx wr B then wr else true
def tkV(ws:List ByteArray)(nx:Nat)(wr:Bool)(B:ByteArray->Bool)(V:ByteArray->Int):Int:=if tkB ws nx wr B then V (ws.getD nx ByteArray.empty) else 0
theorem a4q(h:a1b n nx wr=true):nx<n:=by
 by_cases hlt:nx<n
 ·exact hlt
 ·rw[a9d (by omega)] at h;cases h
theorem a5f(ws:List ByteArray)(nx:Nat)(h:nx<ws.length):ws.getD nx ByteArray.empty=ws[nx]:=by simp[List.getD,h]
theorem a3s(f:Value)(R A:Nat)(ws:List ByteArray)(nx:Nat)(wr:Bool)(w:World)(h:RS w R A ws nx wr)(hm:a1b ws.length nx wr=false):
  Calls Tryz.prog 135 #[.pointer (some ⟨R,0,none⟩),f] w fun e w'=>e=.returned (.int .i64 0)/\RS w' R A ws nx true/\Kept R w w':=by
 go_enter Tryz.func135,Tryz.ntmps135
 go_wp2_with fail
 refine (a0X R A ws nx wr w h).mono ?_;rintro e w1 ⟨rfl,n,hw⟩;have h1:RS w1 R A ws nx wr:=by rw[hw];exact h.drewN n
 have k1:Kept R w w1:=by rw[hw];exact (Kept.refl R w).drewN n
 have c2:=h1.c2;have f2:=h1.f2;clear hw;go_wp2;go_ret;exact⟨rfl,h1.bad,k1.setCell _ _⟩
theorem b7N(R A:Nat)(ws:List ByteArray)(nx:Nat)(wr:Bool)(w:World)(h:RS w R A ws nx wr)(hm:a1b ws.length nx wr=true)(hlt:nx<ws.length)(hs:ws[nx].size<=maxLen)(hb:Txt.isNum ws[nx].data.toList=true):
  Calls Tryz.prog 135 #[.pointer (some ⟨R,0,none⟩),.func (.func 139) #[] #[]] w fun e w'=>e=.returned (.int .i64 (Txt.a2f ws[nx].data.toList))/\RS w' R A ws (nx+1) wr/\Kept R w w':=by
 have hi:(nx:Int)<(ws.length:Int):=by omega
 go_enter Tryz.func135,Tryz.ntmps135
 go_wp2_with fail
 refine (a0X R A ws nx wr w h).mono ?_;rintro e w1 ⟨rfl,n,hw⟩;have h1:RS w1 R A ws nx wr:=by rw[hw];exact h.drewN n
 have k1:Kept R w w1:=by rw[hw];exact (Kept.refl R w).drewN n
 have c0:=h1.c0;have c1:=h1.c1;have f1:=h1.f1;have cr:=h1.rows nx hlt;have hl:=h1.len;clear hw;go_wp2
 go_quiet ((go_at_call 139;exact Calls.quiet_of_same (a0m _ _ hs)))
 go_wp2;go_ret;exact⟨rfl,(h1.drewN _).step hlt,(k1.drewN _).setCell _ _⟩
theorem b7O(R A:Nat)(ws:List ByteArray)(nx:Nat)(wr:Bool)(w:World)(h:RS w R A ws nx wr)(hm:a1b ws.length nx wr=true)(hlt:nx<ws.length)(hs:ws[nx].size<=maxLen)(hb:Txt.isNum ws[nx].data.toList=false):
  Calls Tryz.prog 135 #[.pointer (some ⟨R,0,none⟩),.func (.func 139) #[] #[]] w fun e w'=>e=.returned (.int .i64 0)/\RS w' R A ws nx true/\Kept R w w':=by
 have hi:(nx:Int)<(ws.length:Int):=by omega
 go_enter Tryz.func135,Tryz.ntmps135
 go_wp2_with fail
 refine (a0X R A ws nx wr w h).mono ?_;rintro e w1 ⟨rfl,n,hw⟩;have h1:RS w1 R A ws nx wr:=by rw[hw];exact h.drewN n
 have k1:Kept R w w1:=by rw[hw];exact (Kept.refl R w).drewN n
 have c0:=h1.c0;have c1:=h1.c1;have c2:=h1.c2;have f2:=h1.f2;have cr:=h1.rows nx hlt;have hl:=h1.len;clear hw;go_wp2
 go_quiet ((go_at_call 139;exact Calls.quiet_of_same (a0m _ _ hs)))
 go_wp2;go_ret;exact⟨rfl,(h1.drewN _).bad,(k1.drewN _).setCell _ _⟩
structure Env(w:World):Prop where
 tab:Tab w
 c5L:∃ m,w.cell? ⟨2,0,none⟩=some (.int .i64 m)
 pow : Lib.TabIs Tryz.prog w "internal/strconv.uint64pow10" .u64 Lib.pow10Tab
 size:10<=w.heap.size
 mo:w.cell? ⟨3,0,none⟩=some (.string ⟨#[109,111]⟩)
 tu:w.cell? ⟨3,1,none⟩=some (.string ⟨#[116,117]⟩)
 we:w.cell? ⟨3,2,none⟩=some (.string ⟨#[119,101]⟩)
 th:w.cell? ⟨3,3,none⟩=some (.string ⟨#[116,104]⟩)
 fr:w.cell? ⟨3,4,none⟩=some (.string ⟨#[102,114]⟩)
 sa:w.cell? ⟨3,5,none⟩=some (.string ⟨#[115,97]⟩)
 su:w.cell? ⟨3,6,none⟩=some (.string ⟨#[115,117]⟩)
theorem c6q : Tryz.prog.globalNamed "internal/strconv.uint64pow10" = some 0 := by kernel_rfl
theorem Env.later(h:Env w)(hb:Below w.heap.size w wx):Env wx:=by
 obtain⟨m,hm⟩:=h.c5L;refine⟨h.tab.later hb,⟨m,cell_later hb hm⟩,?_,Nat.le_trans h.size hb.size,cell_later hb h.mo,cell_later hb h.tu,cell_later hb h.we,cell_later hb h.th,cell_later hb h.fr,cell_later hb h.sa,cell_later hb h.su⟩;have hp:=h.pow;have hz:=h.size;unfold Lib.TabIs World.var? at hp ⊢;simp only[c6q,Option.bind_some] at hp ⊢;rw[hb.block 0 (by omega)];exact hp
theorem Env.drewN(h:Env w)(n:Nat):Env (w.drewN n):=h.later (w:=w) (wx:=w.drewN n) ⟨rfl,rfl,rfl,Nat.le_refl _,fun _ _=>rfl⟩
theorem b1z{a b:ByteArray}{c d:Bool}(h:a=b)(g:c=d):Ending.returned (.tuple #[.string a,.bool c])=.returned (.tuple #[.string b,.bool d]):=by rw[h,g]
theorem b3Q(s:ByteArray)(w:World)(hs:s.size<=281474976710656):
  Calls Tryz.prog 142 #[.string s] w fun e w'=>e=.returned (.string s)/\Below w.heap.size w w':=by
 go_enter Tryz.func142,Tryz.ntmps142
 go_wp2_with fail
 refine (Tryz.stringslite_Clone s w hs).mono ?_;rintro e w' ⟨rfl,hb⟩;go_wp2;go_ret;exact⟨rfl,hb⟩
def b4S(s:ByteArray):ByteArray:=if Txt.a1j s.data.toList then s else ⟨#[]⟩
theorem a8a(s:ByteArray)(w:World)(hs:s.size<=160):
  Calls Tryz.prog 131 #[.string s] w fun e w'=>e=.returned (.tuple #[.string (b4S s),.bool (Txt.a1j s.data.toList)])/\Below w.heap.size w w':=by
 by_cases h0:s.size=0
 ·have H:Hid (Txt.a1j s.data.toList=false):=Txt.b0K (by rw[Txt.a1d];omega);have h1:((s.size:Int)==0)=true:=beq_iff_eq.2 (by omega)
  go_enter Tryz.func131,Tryz.ntmps131
  go_wp2;go_ret2;exact⟨b1z (by simp[b4S,H.out]) (by rw[H.out]),Below.refl _ _⟩
 ·have h1:((s.size:Int)==0)=false:=beq_eq_false_iff_ne.2 (by omega)
  by_cases h7:8<s.size
  ·have H:Hid (Txt.a1j s.data.toList=false):=Txt.b0K (by rw[Txt.a1d];omega);clear h0
   go_enter Tryz.func131,Tryz.ntmps131
   go_wp2;go_ret2;exact⟨b1z (by simp[b4S,H.out]) (by rw[H.out]),Below.refl _ _⟩
  ·go_enter Tryz.func131,Tryz.ntmps131
   go_wp2
   go_loop [4] (fun i=>∃ k:Nat,k<=s.size/\i=.int .i64 k/\Txt.c1M (s.data.toList.take k)=true) (fun i=>s.size-(intOf i).toNat)
   case atStart=>exact⟨0,Nat.zero_le _,rfl,rfl⟩
   case round =>
    obtain⟨k,hk,rfl,hd⟩:=hrel;have HD:=hide hd;clear hd
    by_cases hlt:k<s.size
    ·have HT:Hid (s.data.toList.take (k+1)=s.data.toList.take k++[s[k]]):=Txt.a8N s k hlt
     by_cases hc:Txt.low s[k]=true
     ·have hc':=(Txt.c0s _).1 hc;have HC:=hide hc;obtain⟨hc1,hc2⟩:=hc';clear hc;go_wp2
      go_round
      case rel=>exact⟨k+1,by omega,by go_num,by rw[HT.out,Txt.b3c,HD.out,HC.out];rfl⟩
      case measure=>simp[intOf];omega
     ·have HC:Hid (Txt.a1j s.data.toList=false):=Txt.b8r (Txt.b3d _ (k+1) (by rw[HT.out,Txt.b3c,HD.out];simpa using hc))
      have hc':(s[k].toNat:Int)<97\/(¬ (s[k].toNat:Int)<97/\122<(s[k].toNat:Int)):=by
       have:=mt (Txt.c0s s[k]).2 hc;omega
      clear hc;rcases hc' with hc' |⟨hc',hc''⟩
      all_goals
       go_wp2;go_ret2;exact⟨b1z (by simp[b4S,HC.out]) (by rw[HC.out]),Below.refl _ _⟩
    ·have HA:Hid (s.data.toList.take k=s.data.toList):=Txt.a5t s k (by omega);have HN:Hid (Txt.a1j s.data.toList=true):=Txt.b5b (by rw[Txt.a1d];omega) (by rw[Txt.a1d];omega) (by rw[<- HA.out];exact HD.out)
     go_wp2_with fail
     refine (b3Q s w (by omega)).mono ?_;rintro e w' ⟨rfl,hb⟩;go_wp2;go_ret2;exact⟨b1z (by simp[b4S,HN.out]) (by rw[HN.out]),hb⟩
end Go.Proofs.YtfigmlfdnickmaaGreatDoor
