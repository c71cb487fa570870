import Derived.Test.YtfigmlfdnickmaaGreatDoorL09
import Derived.Test.YtfigmlfdnickmaaGreatDoorProg
import Derived.Test.YtfigmlfdnickmaaGreatDoorShelf
import Derived.WalkKit
import Derived.WalkSpells
import Derived.WalkLawsBesides
import Derived.Deep.QuietTactic
import Derived.BigQuiet
import Derived.Lib.SmallJoins
set_option maxRecDepth 100000
set_option maxHeartbeats 8000000
variable{c wr:Bool}{a b m y:Int}{ws:List ByteArray}{A B R d hi lo n nx:Nat}{col col1:Nat->Option Go.Proofs.YtfigmlfdnickmaaGreatDoor.Col}{s:Go.Proofs.YtfigmlfdnickmaaGreatDoor.Desk.St}{v:Go.Value}{X w w' w1 w4 wx:Go.World}
namespace Go.Proofs.YtfigmlfdnickmaaGreatDoor
open Go.RowKit
open Desk (Ent St Ids kept a0C a0Q a1C a2e ofB a0y a2c Mid a1H a0z Inv)
theorem c3O{S:Col->Prop}{W w5 Z:World}{c4:Nat->Option Col}{base e size:Nat}{gr:Value}{xs:List Value}(h:w1.ownsRow base e size v n xs)(hc:∀ b,v.ownBlock=some b->col1 b=none)(kW:Below w1.heap.size w1 W)(q5:Step S W.heap.size col1 c4 W w4)(k5:Off gr.ownBlock.toList w4 w5)(k6:Off [R] w5 Z)(hR:w1.heap.size<=R)(ha:∀ b,v.ownBlock=some b->gr.ownBlock≠some b):
  Z.ownsRow base e size v n xs/\∀ b,v.ownBlock=some b->c4 b=none:=by
 have hl:∀ b,v.ownBlock=some b->b<w1.heap.size:=fun b hb=>(h.lt b hb).2
 have hs:=kW.size;refine⟨a1i (a1i (q5.own (a1g h kW) (fun b hb=>⟨hc b hb,by have:=hl b hb;omega⟩)) k5 (fun b hb hx=>ha b hb (Option.mem_toList.1 hx))) k6 (fun b hb hx=>?_),fun b hb=>q5.keepN (hc b hb) (by have:=hl b hb;omega)⟩;have:=hl b hb;have:b=R:=List.mem_singleton.1 hx;omega
theorem b8I{s1:St}{r1:Raw}{p:Desk.Rep}{er at_ n:Int}{en da gr ed v2:Value}{l:List (Ent × Value)}(hX:Below w.heap.size w X)(hQX:w.heap.size<X.heap.size)(h7:Q7 X w.heap.size)(hcQ:col w.heap.size=none)
  (k1:DK w1 d r1 col1) (k5:Step anyS X.heap.size col col1 X w1) (hl:l.map (·.1)=p.entries) (e3:a3j w1 X.heap.size col1 en l) (e4:a2I w1 X.heap.size col1 da p.days) (e5:a2I w1 X.heap.size col1 gr p.granted) (e6:a2I w1 X.heap.size col1 ed p.ended) (e7:∀ b,gr.ownBlock=some b->en.ownBlock≠some b/\da.ownBlock≠some b/\ed.ownBlock≠some b/\∀ q∈l,q.2.ownBlock≠some b) (e8:∀ b,da.ownBlock=some b->ed.ownBlock≠some b) (e1:er=p.err/\at_=p.at_/\n=p.n)
  (g:a5o (w1.alloc (.cells #[.int .i64 er,.int .i64 at_,.int .i64 n,en,da,gr,ed] 40)).drew d s1 col1 v2 w4) (hb:p.granted.length+(Desk.a0R s1.ts s1.es).2.length<=100000):
  ∃ a m cap w5,(∀ ty,(Builtin.append_ #[38,38] ty #[gr,v2]).run Tryz.prog w4=.ok (.slice a m cap) w5)/\w4.cell? ⟨w1.heap.size,5,none⟩=some gr/\w5.heap[w1.heap.size]?=some (.cells #[.int .i64 er,.int .i64 at_,.int .i64 n,en,da,gr,ed] 40 (0,0))/\Q7 (w5.setCell ⟨w1.heap.size,5,none⟩ (.slice a m cap)) w.heap.size /\
   ∀ x1 x2 x3 x4 x5 x6 x7,a0l w d col ({ s1 with es:=(Desk.a0R s1.ts s1.es).1 },{ p with granted:=p.granted++(Desk.a0R s1.ts s1.es).2 }) (a0s er at_ n en da (.slice a m cap) ed) (a2w (w5.setCell ⟨w1.heap.size,5,none⟩ (.slice a m cap)) w.heap.size x1 x2 x3 x4 x5 x6 x7):=by
 have kW:Below w1.heap.size w1 (w1.alloc (.cells #[.int .i64 er,.int .i64 at_,.int .i64 n,en,da,gr,ed] 40)).drew:=((zr _ _).alloc (zq _) _).drew;have hWR:(w1.alloc (.cells #[.int .i64 er,.int .i64 at_,.int .i64 n,en,da,gr,ed] 40)).drew.heap[w1.heap.size]?=some (.cells #[.int .i64 er,.int .i64 at_,.int .i64 n,en,da,gr,ed] 40 (0,0)):=a0p w1 _;have hWs:w1.heap.size<(w1.alloc (.cells #[.int .i64 er,.int .i64 at_,.int .i64 n,en,da,gr,ed] 40)).drew.heap.size:=by show _<(w1.alloc _).heap.size;simp
 generalize (w1.alloc (.cells #[.int .i64 er,.int .i64 at_,.int .i64 n,en,da,gr,ed] 40)).drew=W at *;obtain⟨r4,c4,q1,q2,q3,q4,q5,q6⟩:=g;have hXw:=hX.size;have hXs:=k5.size;have hRc:col1 w1.heap.size=none:=k1.none (zq _);have g4:=(e5.later kW).step q5 (zq _);obtain⟨v3,w5,a1,a2,a3,a4⟩:=g4.append (q6.base (B':=X.heap.size) (by omega)) (by have:=q5.size;omega) (fun b hb=>q1.none hb) hb;obtain⟨va,vc,rfl⟩:=a2.slice;have ko:Off gr.ownBlock.toList w4 w5:=Off.grown (Off.refl _ w4) a3 (fun k hk=>.inl (Option.mem_toList.2 hk));have hgl:∀ b,gr.ownBlock=some b->b<w1.heap.size:=fun b hb=>(e5.own.lt b hb).2
 have hR4:w4.heap[w1.heap.size]?=some _:=(q5.blockN hWs hRc hWs).trans hWR;have hR5:w5.heap[w1.heap.size]?=some _:=(ko.block _ (by have:=q5.size;omega) (fun hx=>by have:=hgl _ (Option.mem_toList.1 hx);omega)).trans hR4;have k6:=Off.set0 w1.heap.size w5 5 (.slice va (p.granted++(Desk.a0R s1.ts s1.es).2).length vc);have hcR4:c4 w1.heap.size=none:=q5.keepN hRc hWs;have hcQ1:col1 w.heap.size=none:=k5.keepN hcQ hQX;have hcQ4:c4 w.heap.size=none:=q5.keepN hcQ1 (by omega)
 have hv3:∀ b,(Value.slice va (p.granted++(Desk.a0R s1.ts s1.es).2).length vc).ownBlock=some b->gr.ownBlock=some b\/b=w4.heap.size:=fun b hb=>by
  rcases a4 with e|e
  ·exact .inl (by rw[<- e];exact hb)
  ·rw[hb] at e;exact .inr (Option.some.inj e)
 have hs4:=q5.size
 have h7':Q7 (w5.setCell ⟨w1.heap.size,5,none⟩ (.slice va (p.granted++(Desk.a0R s1.ts s1.es).2).length vc)) w.heap.size:=by
  refine h7.later ?_;have b1:=k5.blockN hQX hcQ hQX;have b2:=kW.block w.heap.size (by omega);have b3:=q5.blockN (b:=w.heap.size) (by omega) hcQ1 (by omega);have b4:=ko.block w.heap.size (by omega) (fun hx=>by have:=(e5.own.lt _ (Option.mem_toList.1 hx)).1;omega);have b5:=k6.block w.heap.size (by have:=ko.size;omega) (by simp;omega);rw[b5,b4,b3,b2,b1]
 have rEn:=c3O e3.own e3.no kW q5 ko k6 (zq _) (fun b hb hx=>(e7 b hx).1 hb);have rDa:=c3O e4.own e4.no kW q5 ko k6 (zq _) (fun b hb hx=>(e7 b hx).2.1 hb);have rEd:=c3O e6.own e6.no kW q5 ko k6 (zq _) (fun b hb hx=>(e7 b hx).2.2.1 hb)
 have rSp:∀ q∈l,a9V (w5.setCell ⟨w1.heap.size,5,none⟩ (.slice va (p.granted++(Desk.a0R s1.ts s1.es).2).length vc)) X.heap.size c4 q.2 q.1.a0e:=fun q hq=>by
  have x:=c3O (e3.sp q hq).1.own (e3.sp q hq).1.no kW q5 ko k6 (zq _) (fun b hb hx=>(e7 b hx).2.2.2 q hq hb);exact⟨x.1,x.2⟩
 refine⟨va,_,vc,w5,a1,?_,hR5,h7',fun x1 x2 x3 x4 x5 x6 x7=>?_⟩
 ·simp only[World.cell?,hR4];rfl
 ·have kq:=a2R (w5.setCell ⟨w1.heap.size,5,none⟩ (.slice va (p.granted++(Desk.a0R s1.ts s1.es).2).length vc)) w.heap.size x1 x2 x3 x4 x5 x6 x7;have hQ1:∀ x∈[w.heap.size],x<X.heap.size:=fun x hx=>by have:x=w.heap.size:=List.mem_singleton.1 hx;omega
  have hrep:a5m (w5.setCell ⟨w1.heap.size,5,none⟩ (.slice va (p.granted++(Desk.a0R s1.ts s1.es).2).length vc)) X.heap.size c4 (a0s er at_ n en da (.slice va (p.granted++(Desk.a0R s1.ts s1.es).2).length vc) ed) { p with granted:=p.granted++(Desk.a0R s1.ts s1.es).2 }:=by
   refine⟨en,da,_,ed,l,by rw[e1.1,e1.2.1,e1.2.2],hl,⟨rEn.1,rEn.2,fun q hq=>⟨rSp q hq,(e3.sp q hq).2⟩,e3.pw⟩,⟨rDa.1,rDa.2⟩,⟨a1i a2.own k6 (fun b hb hx=>?_),a2.no⟩,⟨rEd.1,rEd.2⟩,fun b hb=>?_,e8⟩
   ·have e:b=w1.heap.size:=List.mem_singleton.1 hx;rcases hv3 b hb with e2|e2
    ·have:=hgl b e2;omega
    ·omega
   ·rcases hv3 b hb with e2|e2
    ·exact e7 b e2
    ·refine⟨fun e=>?_,fun e=>?_,fun e=>?_,fun q hq e=>?_⟩
     ·have:=(e3.own.lt b e).2;omega
     ·have:=(e4.own.lt b e).2;omega
     ·have:=(e6.own.lt b e).2;omega
     ·have:=((e3.sp q hq).1.own.lt b e).2;omega
  refine⟨r4,c4,((q1.off ko (fun x hx=>g4.no x (Option.mem_toList.1 hx))).off k6 (fun x hx=>by have:x=w1.heap.size:=List.mem_singleton.1 hx;subst this;exact hcR4)).off kq (fun x hx=>by have:x=w.heap.size:=List.mem_singleton.1 hx;subst this;exact hcQ4),q2,q3,q4,?_,(hrep.off kq hQ1).base hXw⟩;have t1:Step anyS w.heap.size col col1 w w1:=(Step.below hX).trans (k5.any hXw);have t2:Step anyS w.heap.size col c4 w w4:=(t1.trans (Step.below kW)).trans (q5.any (by omega));have t3:Step anyS w.heap.size c4 c4 w4 w5:=⟨⟨_,ko,fun x hx=>.inr ⟨g4.no x (Option.mem_toList.1 hx),by have:=(e5.own.lt x (Option.mem_toList.1 hx)).1;omega⟩⟩,fun _ _ h=>h,fun _ _ h=>.inl h⟩;have t4:Step anyS w.heap.size c4 c4 w5 (w5.setCell ⟨w1.heap.size,5,none⟩ (.slice va (p.granted++(Desk.a0R s1.ts s1.es).2).length vc)):=⟨⟨_,k6,fun x hx=>.inr (by have:x=w1.heap.size:=List.mem_singleton.1 hx;subst this;exact⟨hcR4,by omega⟩)⟩,fun _ _ h=>h,fun _ _ h=>.inl h⟩;have t5:Step anyS w.heap.size c4 c4 _ _:=⟨⟨_,kq,fun x hx=>.inr (by have:x=w.heap.size:=List.mem_singleton.1 hx;subst this;exact⟨hcQ4,Nat.le_refl _⟩)⟩,fun _ _ h=>h,fun _ _ h=>.inl h⟩;exact ((t2.trans t3).trans t4).trans t5
theorem a5m.later{p:Desk.Rep}(h:a5m w B col v p)(k:Below w.heap.size w w'):a5m w' B col v p:=by
 obtain⟨en,da,gr,ed,l,e1,e2,e3,e4,e5,e6,e7⟩:=h;exact⟨en,da,gr,ed,l,e1,e2,e3.later k,e4.later k,e5.later k,e6.later k,e7⟩
theorem a0l.later{w2:World}{q:St × Desk.Rep}(h:a0l X d col q v w1)(k:Below w1.heap.size w1 w2):a0l X d col q v w2:=by
 obtain⟨r',col',k1,k2,k3,k4,k5,k6⟩:=h;exact⟨r',col',k1.later k,k2,k3,k4,k5.trans (Step.below k),k6.later k⟩
theorem b9u{l:Desk.a7U}(h:(Desk.a0g s l).2.err≠0):Desk.a1q s l=Desk.a0g s l:=by unfold Desk.a1q;rw[if_pos h]
theorem c2k{l:Desk.a7U}(h:(Desk.a0g s l).2.err=0):Desk.a1q s l=({ (Desk.a0g s l).1 with es:=(Desk.a0R (Desk.a0g s l).1.ts (Desk.a0g s l).1.es).1 },{ (Desk.a0g s l).2 with granted:=(Desk.a0g s l).2.granted++(Desk.a0R (Desk.a0g s l).1.ts (Desk.a0g s l).1.es).2 }):=by unfold Desk.a1q;rw[if_neg (by omega)]
theorem c7o{a b c d e f g:Value}(h:w.heap[R]?=some (.cells #[a,b,c,d,e,f,g] 40 (0,0))):w.cell? ⟨R,0,none⟩=some a/\w.cell? ⟨R,1,none⟩=some b/\w.cell? ⟨R,2,none⟩=some c/\w.cell? ⟨R,3,none⟩=some d/\w.cell? ⟨R,4,none⟩=some e/\w.cell? ⟨R,5,none⟩=some f/\w.cell? ⟨R,6,none⟩=some g/\∀ o,w.frozen? ⟨R,o,none⟩=false:=by
 refine⟨?_,?_,?_,?_,?_,?_,?_,fun o=>frozen_of_row _ R o _ _ h⟩
 all_goals (simp only[World.cell?,h];rfl)
theorem c6E{r:Raw}(h:DSt w d s r col)(line:Value)(l:Desk.a7U)(hmd:Desk.Mid (Desk.a0g s l).1)(hgl:(Desk.a0g s l).2.granted.length<=50000)
  (hans:∀ X,Below w.heap.size w X->DSt X d s r col->Calls Tryz.prog 64 #[.pointer (some ⟨d,0,none⟩),line] X fun e w'=>∃ v,e=.returned v/\a0l X d col (Desk.a0g s l) v w'):
  Calls Tryz.prog 46 #[.pointer (some ⟨d,0,none⟩),line] w fun e w'=>∃ v,e=.returned v/\a0l w d col (Desk.a1q s l) v w':=by
 have hX:Below w.heap.size w (w.alloc a0f):=(zr _ _).alloc (zq _) _;have hq:=a0p w a0f;have hs:w.heap.size<(w.alloc a0f).heap.size:=by simp
 have AN:=a0b (hans (w.alloc a0f) hX ⟨h.dk.later hX,h.of,h.wl,h.hl,h.inv⟩);have HX:=a0b (zA hX (zA (Q7.of hq) (h.dk.none (zq _))));have HM:=a0b (zA hmd hgl);have HE:=a0b (b9u (s:=s) (l:=l));have HO:=a0b (c2k (s:=s) (l:=l));clear h hans hX hq hgl;generalize Desk.a1q s l=SD at *;generalize Desk.a0g s l=D at *
 go_enter Tryz.func46,Tryz.ntmps46
 go_upto_region 1 with fail
 change Code.wp _ _ _ _ (w.alloc a0f);generalize w.alloc a0f=X at *
 go_wp2_with fail
 refine AN.out.mono ?_;rintro e w1 ⟨v,rfl,ap⟩;have AP:=a0b ap;obtain⟨r1,col1,k1,k2,k3,k4,k5,en,da,gr,ed,l2,rfl,hl2,e3,e4,e5,e6,e7⟩:=ap;obtain⟨b1,c1,rfl⟩:=a0B e3.own;obtain⟨b2,c2,rfl⟩:=e4.slice;obtain⟨b3,c3,rfl⟩:=e5.slice;obtain⟨b4,c4,rfl⟩:=e6.slice;have hs1:=k5.size
 by_cases he:D.2.err=0
 ·have HOO:=a0b (HO.out he);have GR:=a0b (b3y (w:=(w1.alloc (.cells #[.int .i64 D.2.err,.int .i64 D.2.at_,.int .i64 D.2.n,.slice b1 l2.length c1,.slice b2 D.2.days.length c2,.slice b3 D.2.granted.length c3,.slice b4 D.2.ended.length c4] 40)).drew) (k1.later ((zr _ _).alloc (zq _) _).drew) k2 k3 k4 HM.out.1)
  have AG:=a0b (fun v2 w4 g=>b8I (w:=w) (w4:=w4) (v2:=v2) (s1:=D.1) HX.out.1 hs HX.out.2.1 HX.out.2.2 k1 k5 hl2 e3 e4 e5 e6 e7.1 e7.2 ⟨rfl,rfl,rfl⟩ g (by
   have h1:=a5e D.1.ts (D.1.es.filter Desk.a0T) (D.1.es,[]);have h2:=List.length_filter_le Desk.a0T D.1.es;have h3:=a1x HM.out.1;have e1:=Desk.a5F D.1.ts D.1.es HM.out.1.ids;have h4:=HM.out.2;simp only[List.length_nil] at h1;rw[<- e1] at h1
   omega))
  have yR:(w1.alloc (.cells #[.int .i64 D.2.err,.int .i64 D.2.at_,.int .i64 D.2.n,.slice b1 l2.length c1,.slice b2 D.2.days.length c2,.slice b3 D.2.granted.length c3,.slice b4 D.2.ended.length c4] 40)).cell? ⟨w1.heap.size,5,none⟩=some (.slice b3 D.2.granted.length c3):=by simp
  clear k1 k2 k3 k4 k5 hl2 e3 e4 e5 e6 e7 AP AN;simp only[a0s];rw[he] at GR AG yR HOO ⊢
  go_upto_region 3 with fail
  go_region_law (first
   |(refine a2k (by rfl) 65 _ _ (by rfl) _ (by simp[Act.eval,Act.put]) (b6Z _ _) GR.out ?_;rintro e w4 ⟨v2,rfl,p⟩;refine⟨_,rfl,?_⟩;obtain⟨a,m,cap,w5,hrun,g5,h5,q7,hf⟩:=AG.out v2 w4 p;have HR:=a0b hrun;have HF:=a0b hf;clear hrun hf;obtain⟨y0,y1,y2,y3,y4,y5,y6,fR⟩:=c7o h5;obtain⟨q0,q1,q2,q3,q4,q5,q6,fq⟩:=q7)
   |(refine a3u (by rfl) _ _ _ _ (by rfl) (HR.out _) ?_))
  all_goals
   have HG:=a0b (HF.out (.int .i64 0) (.int .i64 D.2.at_) (.int .i64 D.2.n) (.slice b1 l2.length c1) (.slice b2 D.2.days.length c2) (.slice a m cap) (.slice b4 D.2.ended.length c4));clear HF p GR AG HR yR g5 h5
   go_wp2_with fail
   exact bodyPost_ret (v:=a0s 0 D.2.at_ D.2.n (.slice b1 l2.length c1) (.slice b2 D.2.days.length c2) (.slice a m cap) (.slice b4 D.2.ended.length c4)) (by simp[results,Tryz.results46,go_sem,a0s,q0,q1,q2,q3,q4,q5,q6]) rfl ⟨_,rfl,by rw[HOO.out];exact HG.out⟩
 ·have hbe:(D.2.err==0)=false:=by simpa using he
  have HD:=a0b (HE.out he);have kW:Below w1.heap.size w1 (w1.alloc (.cells #[.int .i64 D.2.err,.int .i64 D.2.at_,.int .i64 D.2.n,.slice b1 l2.length c1,.slice b2 D.2.days.length c2,.slice b3 D.2.granted.length c3,.slice b4 D.2.ended.length c4] 40)):=(zr _ _).alloc (zq _) _;obtain⟨_,_,_,_,_,_,_,_,_,_,_,_,_,_,_,_,q7,hf⟩:=(AP.out.later kW).up HX.out.1 (zq _) hs HX.out.2.2 HX.out.2.1;have HF:=a0b (hf (.int .i64 D.2.err) (.int .i64 D.2.at_) (.int .i64 D.2.n) (.slice b1 l2.length c1) (.slice b2 D.2.days.length c2) (.slice b3 D.2.granted.length c3) (.slice b4 D.2.ended.length c4));obtain⟨q0,q1,q2,q3,q4,q5,q6,fq⟩:=q7;clear k1 k2 k3 k4 k5 hl2 e3 e4 e5 e6 e7 AP AN hf kW;simp only[a0s];generalize D.2.err=er at *
  go_wp2_with fail
  exact bodyPost_ret (v:=a0s er D.2.at_ D.2.n (.slice b1 l2.length c1) (.slice b2 D.2.days.length c2) (.slice b3 D.2.granted.length c3) (.slice b4 D.2.ended.length c4)) (by simp[results,Tryz.results46,go_sem,a0s,q0,q1,q2,q3,q4,q5,q6]) rfl ⟨_,rfl,by rw[HD.out];exact HF.out⟩
theorem a2a{a b:Bool}(h:a=b):Ending.returned (.bool a)=.returned (.bool b):=by rw[h]
theorem a3w{k:IntKind}(h:a=b):Ending.returned (.int k a)=.returned (.int k b):=by rw[h]
def Tab(w:World):Prop:=w.cell? ⟨1,0,none⟩=some (.int .i64 31)/\w.cell? ⟨1,1,none⟩=some (.int .i64 28)/\w.cell? ⟨1,2,none⟩=some (.int .i64 31)/\w.cell? ⟨1,3,none⟩=some (.int .i64 30)/\w.cell? ⟨1,4,none⟩=some (.int .i64 31)/\w.cell? ⟨1,5,none⟩=some (.int .i64 30)/\w.cell? ⟨1,6,none⟩=some (.int .i64 31)/\w.cell? ⟨1,7,none⟩=some (.int .i64 31)/\w.cell? ⟨1,8,none⟩=some (.int .i64 30)/\w.cell? ⟨1,9,none⟩=some (.int .i64 31)/\w.cell? ⟨1,10,none⟩=some (.int .i64 30)/\w.cell? ⟨1,11,none⟩=some (.int .i64 31)
theorem b8s(y:Int)(w:World)(h1:0<=y)(h2:y<=10000):
  Calls Tryz.prog 228 #[.int .i64 y] w fun e w'=>e=.returned (.bool (Cal.c2U y))/\w'=w:=by
 cases a4:(y % 4==0)
 ·go_enter Tryz.func228,Tryz.ntmps228
  go_wp2;go_ret;exact⟨a2a (by simp[Cal.c2U,a4]),rfl⟩
 ·cases a100:(y % 100 != 0)
  ·cases a400:(y % 400==0)
   all_goals
    go_enter Tryz.func228,Tryz.ntmps228
    go_wp2;go_ret;exact⟨a2a (by simp only[Cal.c2U,a4,a100,a400];rfl),rfl⟩
  ·go_enter Tryz.func228,Tryz.ntmps228
   go_wp2;go_ret;exact⟨a2a (by simp only[Cal.c2U,a4,a100];rfl),rfl⟩
theorem a3h(y:Int)(w:World)(h1:1<=y)(h2:y<=10000):
  Calls Tryz.prog 168 #[.int .i64 y] w fun e w'=>e=.returned (.int .i64 (Cal.ah y))/\w'=w:=by
 go_enter Tryz.func168,Tryz.ntmps168
 go_wp2;go_ret;exact⟨a3w (by unfold Cal.ah;omega),rfl⟩
theorem a5L(y m:Int)(w:World)(ht:Tab w)(h1:0<=y)(h2:y<=10000)(h3:1<=m)(h4:m<=12):
  Calls Tryz.prog 169 #[.int .i64 y,.int .i64 m] w fun e w'=>e=.returned (.int .i64 (Cal.dim y m))/\w'=w:=by
 obtain⟨c0,c1,c2,c3,c4,c5,c6,c7,c8,c9,c10,c11⟩:=ht;rcases Cal.c3Z m h3 h4 with h|h|h|h|h|h|h|h|h|h|h|h
 ·subst h
  go_enter Tryz.func169,Tryz.ntmps169
  go_wp2;go_ret;exact⟨a3w (by simp[Cal.dim,Cal.tab]),rfl⟩
 ·subst h
  cases hl:Cal.c2U y
  all_goals
   go_enter Tryz.func169,Tryz.ntmps169
   go_wp2_with (go_at_call 228;refine (b8s _ _ (by omega) (by omega)).mono ?_;rintro e w' ⟨rfl,rfl⟩)
   go_ret;exact⟨a3w (by simp[Cal.dim,Cal.lp,hl]),rfl⟩
 all_goals
  subst h
  go_enter Tryz.func169,Tryz.ntmps169
  go_wp2;go_ret;exact⟨a3w (by simp[Cal.dim,Cal.tab]),rfl⟩
theorem a5A{d:Int}(h:¬ (1<=y/\y<=9999/\1<=m/\m<=12/\1<=d/\d<=Cal.dim y m)):Cal.ok y m d=false:=by
 unfold Cal.ok;exact decide_eq_false h
theorem b9Y{d:Int}(h:1<=y/\y<=9999/\1<=m/\m<=12/\1<=d/\d<=Cal.dim y m):Cal.ok y m d=true:=by
 unfold Cal.ok;exact decide_eq_true h
theorem b0T(y m d:Int)(w:World)(ht:Tab w):
  Calls Tryz.prog 167 #[.int .i64 y,.int .i64 m,.int .i64 d] w fun e w'=>e=.returned (.bool (Cal.ok y m d))/\w'=w:=by
 by_cases a:1<=y
 ·by_cases b:y<=9999
  ·by_cases c:1<=m
   ·by_cases f:m<=12
    ·by_cases g:1<=d
     ·by_cases k:d<=Cal.dim y m
      all_goals
       go_enter Tryz.func167,Tryz.ntmps167
       go_wp2_with (go_at_call 169;refine (a5L _ _ _ ht (by omega) (by omega) (by omega) (by omega)).mono ?_;rintro e w' ⟨rfl,rfl⟩)
       go_ret
      ·exact⟨a2a (by rw[b9Y ⟨a,b,c,f,g,k⟩]),rfl⟩
      ·exact⟨a2a (by rw[a5A (by omega)];exact decide_eq_false (by omega)),rfl⟩
     ·go_enter Tryz.func167,Tryz.ntmps167
      go_wp2;go_ret;exact⟨a2a (by rw[a5A (by omega)]),rfl⟩
    ·go_enter Tryz.func167,Tryz.ntmps167
     go_wp2;go_ret;exact⟨a2a (by rw[a5A (by omega)]),rfl⟩
   ·go_enter Tryz.func167,Tryz.ntmps167
    go_wp2;go_ret;exact⟨a2a (by rw[a5A (by omega)]),rfl⟩
  ·go_enter Tryz.func167,Tryz.ntmps167
   go_wp2;go_ret;exact⟨a2a (by rw[a5A (by omega)]),rfl⟩
 ·go_enter Tryz.func167,Tryz.ntmps167
  go_wp2;go_ret;exact⟨a2a (by rw[a5A (by omega)]),rfl⟩
theorem a9O(y m d:Int)(w:World)(ht:Tab w)(h:Cal.ok y m d=false):
  Calls Tryz.prog 112 #[.int .i64 y,.int .i64 m,.int .i64 d] w fun e w'=>e=.returned (.tuple #[.int .i64 0,.int .i64 6])/\w'=w:=by
 go_enter Tryz.func112,Tryz.ntmps112
 go_wp2_with (go_at_call 167;refine (b0T _ _ _ _ ht).mono ?_;rintro e w' ⟨rfl,rfl⟩)
 go_ret2;exact⟨rfl,rfl⟩
theorem c2w{k l:IntKind}{c:Int}(h:a=b):Ending.returned (.tuple #[.int k a,.int l c])=.returned (.tuple #[.int k b,.int l c]):=by rw[h]
theorem a7P(y m d:Int)(w:World)(ht:Tab w)(h:Cal.ok y m d=true):
  Calls Tryz.prog 112 #[.int .i64 y,.int .i64 m,.int .i64 d] w fun e w'=>e=.returned (.tuple #[.int .i64 (Cal.num y m d),.int .i64 0])/\w'=w:=by
 obtain⟨h1,h2,h3,h4,h5,h6⟩:=(Cal.a2K y m d).1 h;have hb:=Cal.c5D y h1 (by omega);have hdb:=Cal.b3I y m;have hl:=Cal.c4Z y
 go_enter Tryz.func112,Tryz.ntmps112
 go_wp2_with (first|(go_at_call 167;refine (b0T _ _ _ _ ht).mono ?_;rintro e w' ⟨rfl,rfl⟩)|(go_at_call 168;refine (a3h _ _ (by omega) (by omega)).mono ?_;rintro e w' ⟨rfl,rfl⟩))
 go_loop [8,9] (fun n k=>∃ j:Int,1<=j/\j<=m/\k=.int .i64 j/\n=.int .i64 (-738885+Cal.ah y+d-1+Cal.cum y j)) (fun _ k=>(m-intOf k).toNat)
 case atStart=>exact⟨1,by omega,by omega,rfl,by rw[Cal.a9K,Int.add_zero]⟩
 case round =>
  obtain⟨j,hj1,hj2,rfl,rfl⟩:=hrel;have cb:=Cal.b7m y j hj1 (by omega);have db:=Cal.b3I y j;have cs:=Cal.a5M y j hj1 (by omega);have HC:Hid (Cal.cum y (j+1)=Cal.cum y j+Cal.dim y j):=cs;clear cs
  by_cases hc:j<m
  ·go_wp2_with (go_at_call 169;refine (a5L _ _ _ ht (by omega) (by omega) (by omega) (by omega)).mono ?_;rintro e w' ⟨rfl,rfl⟩)
   go_round
   case rel=>exact⟨j+1,by omega,by omega,rfl,by rw[HC.out];go_num⟩
   case measure=>simp[intOf];omega
  ·obtain rfl:j=m:=by omega
   go_wp2;go_ret2;exact⟨c2w (by unfold Cal.num Cal.first;omega),rfl⟩
theorem b2R{fn:Func}{t u v x:Tmp}(h:fn.results=#[.tmp t,.tmp u,.tmp v,.tmp x])(tmps:Array Value)(P:Program)(w:World):
  (results fn tmps).run P w=.ok (.tuple #[tmps.getD t undef,tmps.getD u undef,tmps.getD v undef,tmps.getD x undef]) w:=by
 simp[results,h]
theorem d8n(y:Int)(w:World)(h1:0<=y)(h2:y<=10000):
  Calls Tryz.prog 170 #[.int .i64 y] w fun e w'=>e=.returned (.bool (Cal.c2U y))/\w'=w:=by
 cases a100:(y % 100==0)
 ·go_enter Tryz.func170,Tryz.ntmps170
  go_wp2;go_ret;exact⟨a2a (by simp only[Cal.c2U,bne,a100];simp),rfl⟩
 ·have a4:(y % 4==0)=true:=by simp only[beq_iff_eq] at a100 ⊢;omega
  have HA:Hid ((y % 4==0)=true):=a4;clear a4
  go_enter Tryz.func170,Tryz.ntmps170
  go_wp2;go_ret;exact⟨a2a (by simp only[Cal.c2U,bne,a100,HA.out];simp),rfl⟩
theorem c9C(y:Int)(w:World)(h1:0<=y)(h2:y<=10000):
  Calls Tryz.prog 115 #[.int .i64 y] w fun e w'=>e=.returned (.int .i64 (365+Cal.lp y))/\w'=w:=by
 cases hl:Cal.c2U y
 all_goals
  go_enter Tryz.func115,Tryz.ntmps115
  go_wp2_with (go_at_call 170;refine (d8n _ _ (by omega) (by omega)).mono ?_;rintro e w' ⟨rfl,rfl⟩)
  go_ret;exact⟨a3w (by simp[Cal.lp,hl]),rfl⟩
theorem c9Q(y m:Int)(w:World)(h1:0<=y)(h2:y<=10000)(h3:1<=m)(h4:m<=12):
  Calls Tryz.prog 114 #[.int .i64 y,.int .i64 m] w fun e w'=>e=.returned (.int .i64 (Cal.dim y m))/\w'=w:=by
 rcases Cal.c3Z m h3 h4 with h|h|h|h|h|h|h|h|h|h|h|h
 ·subst h
  go_enter Tryz.func114,Tryz.ntmps114
  go_wp2;go_ret;exact⟨a3w (by simp[Cal.dim,Cal.tab]),rfl⟩
 ·subst h
  cases hl:Cal.c2U y
  all_goals
   go_enter Tryz.func114,Tryz.ntmps114
   go_wp2_with (go_at_call 170;refine (d8n _ _ (by omega) (by omega)).mono ?_;rintro e w' ⟨rfl,rfl⟩)
   go_ret;exact⟨a3w (by simp[Cal.dim,Cal.lp,hl]),rfl⟩
 all_goals
  subst h
  go_enter Tryz.func114,Tryz.ntmps114
  go_wp2;go_ret;exact⟨a3w (by simp[Cal.dim,Cal.tab]),rfl⟩
theorem e0r(y m d:Int)(w:World):
  Calls Tryz.prog 113 #[.int .i64 y,.int .i64 m,.int .i64 d] w fun e w'=>e=.returned (.bool (Cal.ok y m d))/\w'=w:=by
 by_cases a:1<=y
 ·by_cases b:y<=9999
  ·by_cases c:1<=m
   ·by_cases f:m<=12
    ·by_cases g:1<=d
     ·by_cases k:d<=Cal.dim y m
      all_goals
       go_enter Tryz.func113,Tryz.ntmps113
       go_wp2_with (go_at_call 114;refine (c9Q _ _ _ (by omega) (by omega) (by omega) (by omega)).mono ?_;rintro e w' ⟨rfl,rfl⟩)
       go_ret
      ·exact⟨a2a (by rw[b9Y ⟨a,b,c,f,g,k⟩]),rfl⟩
      ·exact⟨a2a (by rw[a5A (by omega)];exact decide_eq_false (by omega)),rfl⟩
     ·go_enter Tryz.func113,Tryz.ntmps113
      go_wp2;go_ret;exact⟨a2a (by rw[a5A (by omega)]),rfl⟩
    ·go_enter Tryz.func113,Tryz.ntmps113
     go_wp2;go_ret;exact⟨a2a (by rw[a5A (by omega)]),rfl⟩
   ·go_enter Tryz.func113,Tryz.ntmps113
    go_wp2;go_ret;exact⟨a2a (by rw[a5A (by omega)]),rfl⟩
  ·go_enter Tryz.func113,Tryz.ntmps113
   go_wp2;go_ret;exact⟨a2a (by rw[a5A (by omega)]),rfl⟩
 ·go_enter Tryz.func113,Tryz.ntmps113
  go_wp2;go_ret;exact⟨a2a (by rw[a5A (by omega)]),rfl⟩
theorem f3X(y m d:Int)(w:World)(h:Cal.ok y m d=false):
  Calls Tryz.prog 71 #[.int .i64 y,.int .i64 m,.int .i64 d] w fun e w'=>e=.returned (.tuple #[.int .i64 0,.int .i64 6])/\w'=w:=by
 go_enter Tryz.func71,Tryz.ntmps71
 go_wp2_with (go_at_call 113;refine (e0r _ _ _ _).mono ?_;rintro e w' ⟨rfl,rfl⟩)
 go_ret2;exact⟨rfl,rfl⟩
theorem d9w:Cal.ah 2024=738885:=by decide
theorem f1m(y m d:Int)(w:World)(h:Cal.ok y m d=true):
  Calls Tryz.prog 71 #[.int .i64 y,.int .i64 m,.int .i64 d] w fun e w'=>e=.returned (.tuple #[.int .i64 (Cal.num y m d),.int .i64 0])/\w'=w:=by
 obtain⟨h1,h2,h3,h4,h5,h6⟩:=(Cal.a2K y m d).1 h;have hb:=Cal.c5D y h1 (by omega);have hdb:=Cal.b3I y m;have hl:=Cal.c4Z y;have cbm:=Cal.b7m y m h3 (by omega)
 go_enter Tryz.func71,Tryz.ntmps71
 go_wp2_with (go_at_call 113;refine (e0r _ _ _ _).mono ?_;rintro e w' ⟨rfl,rfl⟩)
 go_loop [9,10,11] (fun n k _=>∃ j:Int,1<=j/\j<=m/\k=.int .i64 j/\n=.int .i64 (d-1+Cal.cum y j)) (fun _ k _=>(m-intOf k).toNat)
 case atStart=>exact⟨1,by omega,by omega,rfl,by rw[Cal.a9K,Int.add_zero]⟩
 case round =>
  obtain⟨j,hj1,hj2,rfl,rfl⟩:=hrel;have cb:=Cal.b7m y j hj1 (by omega);have db:=Cal.b3I y j;have cs:=Cal.a5M y j hj1 (by omega);have HC:Hid (Cal.cum y (j+1)=Cal.cum y j+Cal.dim y j):=cs;clear cs
  by_cases hc:j<m
  ·go_wp2_with (go_at_call 114;refine (c9Q _ _ _ (by omega) (by omega) (by omega) (by omega)).mono ?_;rintro e w' ⟨rfl,rfl⟩)
   go_round
   case rel=>exact⟨j+1,by omega,by omega,rfl,by rw[HC.out];go_num⟩
   case measure=>simp[intOf];omega
  ·obtain rfl:j=m:=by omega
   go_wp2
   go_loop [9,12,13] (fun n k _=>∃ j':Int,2024<=j'/\(j'<=y\/j'=2024)/\k=.int .i64 j'/\n=.int .i64 (d-1+Cal.cum y j+(Cal.ah j' - 738885))) (fun _ k _=>(y-intOf k).toNat)
   case atStart=>exact⟨2024,by omega,by omega,rfl,by rw[d9w];go_num⟩
   case round =>
    obtain⟨k,hk1,hk2,rfl,rfl⟩:=hrel;have kb:=Cal.c5D k (by omega) (by omega);have kl:=Cal.c4Z k;have ks:=Cal.b5I k (by omega);have HK:Hid (Cal.ah (k+1)=Cal.ah k+365+Cal.lp k):=ks;clear ks
    by_cases hk:k<y
    ·go_wp2_with (go_at_call 115;refine (c9C _ _ (by omega) (by omega)).mono ?_;rintro e w' ⟨rfl,rfl⟩)
     go_round
     case rel=>exact⟨k+1,by omega,by omega,rfl,by rw[HK.out];go_num⟩
     case measure=>simp[intOf];omega
    ·have km:Cal.ah y<=Cal.ah k:=Cal.a9T y k h1 (by omega);have hk3:(y=k)\/(y<2024/\k=2024):=by omega
     have HK3:Hid ((y=k)\/(y<2024/\k=2024)):=hk3;clear hk3;go_wp2
     go_loop [9,14,15] (fun n k' _=>∃ i:Int,y<=i/\(i<=2024\/i=y)/\k'=.int .i64 i/\n=.int .i64 (d-1+Cal.cum y j+(Cal.ah k-738885)-(Cal.ah i-Cal.ah y))) (fun _ k' _=>(2024-intOf k').toNat)
     case atStart=>exact⟨y,by omega,by omega,rfl,by go_num⟩
     case round =>
      obtain⟨i,hi1,hi2,rfl,rfl⟩:=hrel;have ib:=Cal.c5D i (by omega) (by omega);have il:=Cal.c4Z i;have is:=Cal.b5I i (by omega);have HI:Hid (Cal.ah (i+1)=Cal.ah i+365+Cal.lp i):=is;clear is
      by_cases hi:i<2024
      ·go_wp2_with (go_at_call 115;refine (c9C _ _ (by omega) (by omega)).mono ?_;rintro e w' ⟨rfl,rfl⟩)
       go_round
       case rel=>exact⟨i+1,by omega,by omega,rfl,by rw[HI.out];go_num⟩
       case measure=>simp[intOf];omega
      ·go_wp2;go_ret2;refine⟨c2w ?_,rfl⟩;have a24:=d9w;rcases HK3.out with e|⟨e1,e2⟩
       ·subst e
        by_cases hy:i=y
        ·subst hy;unfold Cal.num Cal.first;omega
        ·obtain rfl:i=2024:=by omega
         exact absurd hi1 (by omega)
       ·subst e2;obtain rfl:i=2024:=by omega
        unfold Cal.num Cal.first;omega
theorem early(n z:Int)(h:0<=n+(738885-Cal.ah z)\/z=1)(g:n+(738885-Cal.ah z)<0):n < -738885\/2913173<n:=by
 rcases h with h|h
 ·omega
 ·subst h;have:=Cal.g3J;omega
theorem late(n z:Int)(h:z=9999)(e:Cal.ah (z+1)=Cal.ah z+365+Cal.lp z)(g:365+Cal.lp z<=n+(738885-Cal.ah z)):n < -738885\/2913173<n:=by
 subst h;have:=Cal.b7t;rw[show (9999:Int)+1=10000 from rfl] at e;omega
theorem e6M(n y k:Int):Cal.num y k (n+(738885-Cal.ah y)-Cal.cum y k+1)=n:=by unfold Cal.num Cal.first;omega
theorem inside(n z m:Int)(h:Cal.ok z m (n+(738885-Cal.ah z)-Cal.cum z m+1)=true):¬ (n < -738885\/2913173<n):=by
 have b:=Cal.c3X _ _ _ h;rw[e6M] at b;unfold Cal.first Cal.last at b;omega
theorem e6D(n:Int)(w:World)(h1:-9223372036854775808<=n)(h2:n<=9223372036854775807):
  Calls Tryz.prog 73 #[.int .i64 n] w fun e w'=>((n < -738885\/2913173<n)/\e=.returned (.tuple #[.int .i64 0,.int .i64 0,.int .i64 0,.int .i64 6])\/(¬ (n < -738885\/2913173<n))/\∃ y m d:Int,e=.returned (.tuple #[.int .i64 y,.int .i64 m,.int .i64 d,.int .i64 0])/\Cal.ok y m d=true/\Cal.num y m d=n)/\w'=w:=by
 go_enter Tryz.func73,Tryz.ntmps73
 go_wp2
 go_loop [0,6,7] (fun t k _=>∃ y:Int,1<=y/\y<=2024/\k=.int .i64 y/\t=.int .i64 (n+(738885-Cal.ah y))/\n+(738885-Cal.ah y)<=9223372036854775807) (fun _ k _=>(intOf k).toNat)
 case atStart=>exact⟨2024,by omega,by omega,rfl,by rw[d9w];go_num,by rw[d9w];omega⟩
 case round =>
  obtain⟨y,hy1,hy2,rfl,rfl,hyt⟩:=hrel;have yb:=Cal.c5D y hy1 (by omega);have ym:=Cal.a9T y 2024 hy1 hy2;rw[d9w] at ym
  by_cases hn:n+(738885-Cal.ah y)<0/\1<y
  ·obtain⟨hn,hy⟩:=hn;have ys:=Cal.b5I (y-1) (by omega);rw[show y-1+1=y from by omega] at ys;have yl:=Cal.c4Z (y-1);have HY:Hid (Cal.ah y=Cal.ah (y-1)+365+Cal.lp (y-1)):=ys;clear ys
   go_wp2_with (go_at_call 115;refine (c9C _ _ (by omega) (by omega)).mono ?_;rintro e w' ⟨rfl,rfl⟩)
   go_round
   case rel=>exact⟨y-1,by omega,by omega,rfl,by have:=HY.out;go_num,by have:=HY.out;omega⟩
   case measure=>simp[intOf];omega
  ·have hz:0<=n+(738885-Cal.ah y)\/y=1:=by omega
   have HZ:Hid (0<=n+(738885-Cal.ah y)\/y=1):=hz;clear hz;have hn0:(n+(738885-Cal.ah y)<0/\¬ 1<y)\/¬ n+(738885-Cal.ah y)<0:=by omega
   clear hn;rcases hn0 with ⟨hn0,hy⟩|hn0
   all_goals
    go_wp2
    go_loop [0,6,8] (fun t k _=>∃ z:Int,1<=z/\z<=9999/\k=.int .i64 z/\t=.int .i64 (n+(738885-Cal.ah z))/\n+(738885-Cal.ah z)<=9223372036854775807/\(0<=n+(738885-Cal.ah z)\/z=1)) (fun _ k _=>(9999-intOf k).toNat)
    case atStart=>exact⟨y,by omega,by omega,rfl,rfl,hyt,HZ.out⟩
    case round =>
     obtain⟨z,hz1,hz2,rfl,rfl,hzt,hz3⟩:=hrel;have HZ3:Hid (0<=n+(738885-Cal.ah z)\/z=1):=hz3;clear hz3 yb ym hn0;have zb:=Cal.c5D z hz1 (by omega);have zl:=Cal.c4Z z;have zs:=Cal.b5I z hz1;have HS:Hid (Cal.ah (z+1)=Cal.ah z+365+Cal.lp z):=zs;clear zs
     by_cases hz9:z<9999
     ·by_cases hge:365+Cal.lp z<=n+(738885-Cal.ah z)
      ·go_wp2_with (go_at_call 115;refine (c9C _ _ (by omega) (by omega)).mono ?_;rintro e w' ⟨rfl,rfl⟩)
       go_round
       case rel=>exact⟨z+1,by omega,by omega,rfl,by have:=HS.out;go_num,by have:=HS.out;omega,by have:=HS.out;omega⟩
       case measure=>simp[intOf];omega
      ·by_cases hneg:n+(738885-Cal.ah z)<0
       ·go_wp2_with (go_at_call 115;refine (c9C _ _ (by omega) (by omega)).mono ?_;rintro e w' ⟨rfl,rfl⟩)
        (try simp only[Exit.inBlock,Exit.then]);refine bodyPost_ret (b2R rfl _ _ _) rfl ?_
        exact⟨Or.inl ⟨early n z HZ3.out hneg,rfl⟩,rfl⟩
       ·go_wp2_with (go_at_call 115;refine (c9C _ _ (by omega) (by omega)).mono ?_;rintro e w' ⟨rfl,rfl⟩)
        go_loop [0,9,10] (fun r k _=>∃ m:Int,1<=m/\m<=12/\k=.int .i64 m/\0<=n+(738885-Cal.ah z)-Cal.cum z m/\r=.int .i64 (n+(738885-Cal.ah z)-Cal.cum z m)) (fun _ k _=>(12-intOf k).toNat)
        case atStart=>exact⟨1,by omega,by omega,rfl,by rw[Cal.a9K];omega,by rw[Cal.a9K,Int.sub_zero]⟩
        case round =>
         obtain⟨m,hm1,hm2,rfl,hr,rfl⟩:=hrel;have cb:=Cal.b7m z m hm1 (by omega);have db:=Cal.b3I z m;have cs:=Cal.a5M z m hm1 hm2;have ce:=Cal.b5q z
         by_cases hd:Cal.dim z m<=n+(738885-Cal.ah z)-Cal.cum z m
         ·have hm:m<12:=by
           by_cases e:m=12
           ·subst e;rw[show (12:Int)+1=13 from rfl] at cs;omega
           ·omega
          have HC:Hid (Cal.cum z (m+1)=Cal.cum z m+Cal.dim z m):=cs;clear cs ce
          go_wp2_with (go_at_call 114;refine (c9Q _ _ _ (by omega) (by omega) (by omega) (by omega)).mono ?_;rintro e w' ⟨rfl,rfl⟩)
          go_round
          case rel=>exact⟨m+1,by omega,by omega,rfl,by rw[HC.out];omega,by rw[HC.out];go_num⟩
          case measure=>simp[intOf];omega
         ·have hok:Cal.ok z m (n+(738885-Cal.ah z)-Cal.cum z m+1)=true:=b9Y (by omega);have hin:¬ (n < -738885\/2913173<n):=inside n z m hok;have HIN:Hid (¬ (n < -738885\/2913173<n)):=hin;clear cs ce hin
          go_wp2_with (go_at_call 114;refine (c9Q _ _ _ (by omega) (by omega) (by omega) (by omega)).mono ?_;rintro e w' ⟨rfl,rfl⟩)
          (try simp only[Exit.inBlock,Exit.then]);refine bodyPost_ret (b2R rfl _ _ _) rfl ?_
          exact⟨Or.inr ⟨HIN.out,z,m,_,rfl,hok,e6M n z m⟩,rfl⟩
     ·by_cases hneg:n+(738885-Cal.ah z)<0
      ·go_wp2
       (try simp only[Exit.inBlock,Exit.then]);refine bodyPost_ret (b2R rfl _ _ _) rfl ?_
       exact⟨Or.inl ⟨early n z HZ3.out hneg,rfl⟩,rfl⟩
      ·by_cases hge:365+Cal.lp z<=n+(738885-Cal.ah z)
       ·go_wp2_with (go_at_call 115;refine (c9C _ _ (by omega) (by omega)).mono ?_;rintro e w' ⟨rfl,rfl⟩)
        (try simp only[Exit.inBlock,Exit.then]);refine bodyPost_ret (b2R rfl _ _ _) rfl ?_
        exact⟨Or.inl ⟨late n z (by omega) HS.out hge,rfl⟩,rfl⟩
       ·go_wp2_with (go_at_call 115;refine (c9C _ _ (by omega) (by omega)).mono ?_;rintro e w' ⟨rfl,rfl⟩)
        go_loop [0,9,10] (fun r k _=>∃ m:Int,1<=m/\m<=12/\k=.int .i64 m/\0<=n+(738885-Cal.ah z)-Cal.cum z m/\r=.int .i64 (n+(738885-Cal.ah z)-Cal.cum z m)) (fun _ k _=>(12-intOf k).toNat)
        case atStart=>exact⟨1,by omega,by omega,rfl,by rw[Cal.a9K];omega,by rw[Cal.a9K,Int.sub_zero]⟩
        case round =>
         obtain⟨m,hm1,hm2,rfl,hr,rfl⟩:=hrel;have cb:=Cal.b7m z m hm1 (by omega);have db:=Cal.b3I z m;have cs:=Cal.a5M z m hm1 hm2;have ce:=Cal.b5q z
         by_cases hd:Cal.dim z m<=n+(738885-Cal.ah z)-Cal.cum z m
         ·have hm:m<12:=by
           by_cases e:m=12
           ·subst e;rw[show (12:Int)+1=13 from rfl] at cs;omega
           ·omega
          have HC:Hid (Cal.cum z (m+1)=Cal.cum z m+Cal.dim z m):=cs;clear cs ce
          go_wp2_with (go_at_call 114;refine (c9Q _ _ _ (by omega) (by omega) (by omega) (by omega)).mono ?_;rintro e w' ⟨rfl,rfl⟩)
          go_round
          case rel=>exact⟨m+1,by omega,by omega,rfl,by rw[HC.out];omega,by rw[HC.out];go_num⟩
          case measure=>simp[intOf];omega
         ·have hok:Cal.ok z m (n+(738885-Cal.ah z)-Cal.cum z m+1)=true:=b9Y (by omega);have hin:¬ (n < -738885\/2913173<n):=inside n z m hok;have HIN:Hid (¬ (n < -738885\/2913173<n)):=hin;clear cs ce hin
          go_wp2_with (go_at_call 114;refine (c9Q _ _ _ (by omega) (by omega) (by omega) (by omega)).mono ?_;rintro e w' ⟨rfl,rfl⟩)
          (try simp only[Exit.inBlock,Exit.then]);refine bodyPost_ret (b2R rfl _ _ _) rfl ?_
          exact⟨Or.inr ⟨HIN.out,z,m,_,rfl,hok,e6M n z m⟩,rfl⟩
theorem hide{p:Prop}(h:p):Hid p:=h
theorem a0d{p:Prop}(h:Hid p):p:=h
theorem Tab.later(h:Tab w)(hb:Below w.heap.size w wx):Tab wx:=by
 obtain⟨c0,c1,c2,c3,c4,c5,c6,c7,c8,c9,c10,c11⟩:=h;exact⟨cell_later hb c0,cell_later hb c1,cell_later hb c2,cell_later hb c3,cell_later hb c4,cell_later hb c5,cell_later hb c6,cell_later hb c7,cell_later hb c8,cell_later hb c9,cell_later hb c10,cell_later hb c11⟩
theorem a0A{k:IntKind}{d:Bool}(h:a=b)(g:c=d):Ending.returned (.tuple #[.int k a,.bool c])=.returned (.tuple #[.int k b,.bool d]):=by rw[h,g]
theorem a0m(s:ByteArray)(w:World)(hs:s.size<=maxLen):
  Calls Tryz.prog 139 #[.string s] w fun e w'=>e=.returned (.tuple #[.int .i64 (Txt.a2f s.data.toList),.bool (Txt.isNum s.data.toList)])/\w'=w:=by
 unfold maxLen at hs
 by_cases h0:s.size=0
 ·have H:Hid (Txt.isNum s.data.toList=false):=Txt.b3o (by rw[Txt.a1d];omega);have h1:((s.size:Int)==0)=true:=beq_iff_eq.2 (by omega)
  go_enter Tryz.func139,Tryz.ntmps139
  go_wp2;go_ret2;exact⟨a0A (by simp[Txt.a2f,H.out]) (by rw[H.out]),rfl⟩
 ·have h1:((s.size:Int)==0)=false:=beq_eq_false_iff_ne.2 (by omega)
  by_cases h7:7<s.size
  ·have H:Hid (Txt.isNum s.data.toList=false):=Txt.b3o (by rw[Txt.a1d];omega);clear h0
   go_enter Tryz.func139,Tryz.ntmps139
   go_wp2;go_ret2;exact⟨a0A (by simp[Txt.a2f,H.out]) (by rw[H.out]),rfl⟩
  ·go_enter Tryz.func139,Tryz.ntmps139
   go_wp2
   go_loop [4,5,6] (fun n i _=>∃ k:Nat,k<=s.size/\i=.int .i64 k/\n=.int .i64 (Txt.b4R (s.data.toList.take k))/\Txt.a6j (s.data.toList.take k)=true) (fun _ i _=>s.size-(intOf i).toNat)
   case atStart=>exact⟨0,Nat.zero_le _,rfl,rfl,rfl⟩
   case round =>
    obtain⟨k,hk,rfl,rfl,hd⟩:=hrel;have HD:=hide hd;have nb:=Txt.c0i (s.data.toList.take k) hd (by rw[List.length_take];omega);clear hd
    by_cases hlt:k<s.size
    ·have HT:Hid (s.data.toList.take (k+1)=s.data.toList.take k++[s[k]]):=Txt.a8N s k hlt
     by_cases hc:Txt.dig s[k]=true
     ·have hc':=(Txt.a6k _).1 hc;have HC:=hide hc;obtain⟨hc1,hc2⟩:=hc';clear hc;go_wp2
      go_round
      case rel=>exact⟨k+1,by omega,by go_num,by rw[HT.out,Txt.b2Y],by rw[HT.out,Txt.a6X,HD.out,HC.out];rfl⟩
      case measure=>simp[intOf];omega
     ·have HC:Hid (Txt.isNum s.data.toList=false):=Txt.b3q (Txt.a8h _ (k+1) (by rw[HT.out,Txt.a6X,HD.out];simpa using hc))
      have hc':(s[k].toNat:Int)<48\/(¬ (s[k].toNat:Int)<48/\57<(s[k].toNat:Int)):=by
       have:=mt (Txt.a6k s[k]).2 hc;omega
      clear hc;rcases hc' with hc' |⟨hc',hc''⟩
      all_goals
       go_wp2;go_ret2;exact⟨a0A (by simp[Txt.a2f,HC.out]) (by rw[HC.out]),rfl⟩
    ·have HA:Hid (s.data.toList.take k=s.data.toList):=Txt.a5t s k (by omega);have HN:Hid (Txt.isNum s.data.toList=true):=Txt.b0J (by rw[Txt.a1d];omega) (by rw[Txt.a1d];omega) (by rw[<- HA.out];exact HD.out);go_wp2;go_ret2;exact⟨a0A (by rw[HA.out];simp[Txt.a2f,HN.out]) (by rw[HN.out]),rfl⟩
theorem b5y(h:a≠b):(a != b)=true:=by rw[bne_iff_ne];exact h
theorem b5z(h:a=b):(a != b)=false:=by subst h;simp
theorem a0P(s:ByteArray)(a b:Nat)(h:s.size<=maxLen):(s.extract a b).size<=maxLen:=by
 have:(s.extract a b).size=min b s.size-a:=ByteArray.size_extract ..;omega
theorem a2m(s:ByteArray)(w:World)(hm:s.size<=maxLen):
  Calls Tryz.prog 137 #[.string s] w fun e w'=>e=.returned (.tuple #[.int .i64 (Txt.a6J s),.bool (Txt.a3a s)])/\w'=w:=by
 have HM:=hide hm;clear hm
 by_cases hs:s.size=5
 ·have h5:((s.size:Int) != 5)=false:=b5z (by omega);have h6:(2:Int)<(s.size:Int):=by omega
  have h2n:2<s.size:=by omega
  have h7:(3:Int)<=(s.size:Int):=by omega
  by_cases hb:Txt.a0V s 2=58
  ·have hc:(((s[2]'h2n).toNat:Int) != 58)=false:=b5z (by rw[<- Txt.a2W];exact hb);have b1:=Txt.a2B (Txt.part s 0 2);have b2:=Txt.a2B (Txt.part s 3 5);have HS:=hide hs;have HB:=hide hb;clear hs hb;have HF:=hide (Txt.b6G HS.out HB.out)
   cases n1:Txt.isNum (Txt.part s 0 2)
   ·go_enter Tryz.func137,Tryz.ntmps137
    go_wp2_with fail
    refine (a0m _ _ (a0P _ _ _ HM.out)).mono ?_;rintro e w' ⟨rfl,rfl⟩;rw[show (s.extract 0 2).data.toList=Txt.part s 0 2 from rfl]
    go_wp2_with fail
    refine (a0m _ _ (a0P _ _ _ HM.out)).mono ?_;rintro e w' ⟨rfl,rfl⟩;rw[show (s.extract 3 s.size).data.toList=Txt.part s 3 5 from by rw[HS.out];rfl];go_wp2;go_ret2;exact⟨a0A (by simp[Txt.a6J,a0d HF,n1]) (by simp[a0d HF,n1]),rfl⟩
   ·cases n2:Txt.isNum (Txt.part s 3 5)
    ·go_enter Tryz.func137,Tryz.ntmps137
     go_wp2_with fail
     refine (a0m _ _ (a0P _ _ _ HM.out)).mono ?_;rintro e w' ⟨rfl,rfl⟩;rw[show (s.extract 0 2).data.toList=Txt.part s 0 2 from rfl]
     go_wp2_with fail
     refine (a0m _ _ (a0P _ _ _ HM.out)).mono ?_;rintro e w' ⟨rfl,rfl⟩;rw[show (s.extract 3 s.size).data.toList=Txt.part s 3 5 from by rw[HS.out];rfl];go_wp2;go_ret2;exact⟨a0A (by simp[Txt.a6J,a0d HF,n1,n2]) (by simp[a0d HF,n1,n2]),rfl⟩
    ·by_cases g1:Txt.a2f (Txt.part s 0 2)<=23
     ·by_cases g2:Txt.a2f (Txt.part s 3 5)<=59
      ·go_enter Tryz.func137,Tryz.ntmps137
       go_wp2_with fail
       refine (a0m _ _ (a0P _ _ _ HM.out)).mono ?_;rintro e w' ⟨rfl,rfl⟩;rw[show (s.extract 0 2).data.toList=Txt.part s 0 2 from rfl]
       go_wp2_with fail
       refine (a0m _ _ (a0P _ _ _ HM.out)).mono ?_;rintro e w' ⟨rfl,rfl⟩;rw[show (s.extract 3 s.size).data.toList=Txt.part s 3 5 from by rw[HS.out];rfl];go_wp2;go_ret2;exact⟨a0A (by simp[Txt.a6J,a0d HF,n1,n2,g1,g2]) (by simp[a0d HF,n1,n2,g1,g2]),rfl⟩
      ·go_enter Tryz.func137,Tryz.ntmps137
       go_wp2_with fail
       refine (a0m _ _ (a0P _ _ _ HM.out)).mono ?_;rintro e w' ⟨rfl,rfl⟩;rw[show (s.extract 0 2).data.toList=Txt.part s 0 2 from rfl]
       go_wp2_with fail
       refine (a0m _ _ (a0P _ _ _ HM.out)).mono ?_;rintro e w' ⟨rfl,rfl⟩;rw[show (s.extract 3 s.size).data.toList=Txt.part s 3 5 from by rw[HS.out];rfl];go_wp2;go_ret2;have g2':¬ Txt.a2f (Txt.part s 3 5)<=59:=by omega
       exact⟨a0A (by simp[Txt.a6J,a0d HF,n1,n2,g1,g2']) (by simp[a0d HF,n1,n2,g1,g2']),rfl⟩
     ·go_enter Tryz.func137,Tryz.ntmps137
      go_wp2_with fail
      refine (a0m _ _ (a0P _ _ _ HM.out)).mono ?_;rintro e w' ⟨rfl,rfl⟩;rw[show (s.extract 0 2).data.toList=Txt.part s 0 2 from rfl]
      go_wp2_with fail
      refine (a0m _ _ (a0P _ _ _ HM.out)).mono ?_;rintro e w' ⟨rfl,rfl⟩;rw[show (s.extract 3 s.size).data.toList=Txt.part s 3 5 from by rw[HS.out];rfl];go_wp2;go_ret2;have g1':¬ Txt.a2f (Txt.part s 0 2)<=23:=by omega
      exact⟨a0A (by simp[Txt.a6J,a0d HF,n1,n2,g1']) (by simp[a0d HF,n1,n2,g1']),rfl⟩
  ·have hc:(((s[2]'h2n).toNat:Int) != 58)=true:=b5y (by rw[<- Txt.a2W];exact hb);have HF:Hid (Txt.a3a s=false):=Txt.a5D (by omega);clear hs hb
   go_enter Tryz.func137,Tryz.ntmps137
   go_wp2;go_ret2;exact⟨a0A (by simp[Txt.a6J,HF.out]) (by rw[HF.out]),rfl⟩
 ·have h5:((s.size:Int) != 5)=true:=b5y (by omega);have HF:Hid (Txt.a3a s=false):=Txt.a5D (by omega);clear hs
  go_enter Tryz.func137,Tryz.ntmps137
  go_wp2;go_ret2;exact⟨a0A (by simp[Txt.a6J,HF.out]) (by rw[HF.out]),rfl⟩
theorem a1U(s:ByteArray)(w:World)(ht:Tab w)(hm:s.size<=maxLen):
  Calls Tryz.prog 195 #[.string s] w fun e w'=>e=.returned (.tuple #[.int .i64 (Txt.a2o s),.bool (Txt.a5j s)])/\w'=w:=by
 have HM:=hide hm;clear hm
 by_cases hs:s.size=10
 ·have h5:((s.size:Int) != 10)=false:=b5z (by omega);have h4n:4<s.size:=by omega
  have h7n:7<s.size:=by omega
  have h4:(4:Int)<(s.size:Int):=by omega
  have h7:(7:Int)<(s.size:Int):=by omega
  have h8:(8:Int)<=(s.size:Int):=by omega
  by_cases hb:Txt.a0V s 4=45
  ·have hc:(((s[4]'h4n).toNat:Int) != 45)=false:=b5z (by rw[<- Txt.a2W];exact hb)
   by_cases hd:Txt.a0V s 7=45
   ·have he:(((s[7]'h7n).toNat:Int) != 45)=false:=b5z (by rw[<- Txt.a2W];exact hd);have b1:=Txt.a2B (Txt.part s 0 4);have b2:=Txt.a2B (Txt.part s 5 7);have b3:=Txt.a2B (Txt.part s 8 10);have HF:=hide (Txt.c1h hs hb hd);have HS:=hide hs;clear hs hb hd;have hn:∃ n1 n2 n3:Bool,Txt.isNum (Txt.part s 0 4)=n1/\Txt.isNum (Txt.part s 5 7)=n2/\Txt.isNum (Txt.part s 8 10)=n3:=⟨_,_,_,rfl,rfl,rfl⟩;obtain⟨n1,n2,n3,e1,e2,e3⟩:=hn;have walk3:n1=false\/(n1=true/\n2=false)\/(n1=true/\n2=true/\n3=false)\/(n1=true/\n2=true/\n3=true):=by cases n1 <;> cases n2 <;> cases n3 <;> simp
    rcases walk3 with h|⟨h,h'⟩|⟨h,h',h''⟩|⟨h,h',h''⟩
    ·subst h;clear e2 e3
     go_enter Tryz.func195,Tryz.ntmps195
     go_wp2_with fail
     refine (a0m _ _ (a0P _ _ _ HM.out)).mono ?_;rintro e w' ⟨rfl,rfl⟩;rw[show (s.extract 0 4).data.toList=Txt.part s 0 4 from rfl]
     go_wp2_with fail
     refine (a0m _ _ (a0P _ _ _ HM.out)).mono ?_;rintro e w' ⟨rfl,rfl⟩;rw[show (s.extract 5 7).data.toList=Txt.part s 5 7 from rfl]
     go_wp2_with fail
     refine (a0m _ _ (a0P _ _ _ HM.out)).mono ?_;rintro e w' ⟨rfl,rfl⟩;rw[show (s.extract 8 s.size).data.toList=Txt.part s 8 10 from by rw[HS.out];rfl];go_wp2;go_ret2;exact⟨a0A (by simp[Txt.a2o,a0d HF,e1]) (by simp[a0d HF,e1]),rfl⟩
    ·subst h h';clear e3
     go_enter Tryz.func195,Tryz.ntmps195
     go_wp2_with fail
     refine (a0m _ _ (a0P _ _ _ HM.out)).mono ?_;rintro e w' ⟨rfl,rfl⟩;rw[show (s.extract 0 4).data.toList=Txt.part s 0 4 from rfl]
     go_wp2_with fail
     refine (a0m _ _ (a0P _ _ _ HM.out)).mono ?_;rintro e w' ⟨rfl,rfl⟩;rw[show (s.extract 5 7).data.toList=Txt.part s 5 7 from rfl]
     go_wp2_with fail
     refine (a0m _ _ (a0P _ _ _ HM.out)).mono ?_;rintro e w' ⟨rfl,rfl⟩;rw[show (s.extract 8 s.size).data.toList=Txt.part s 8 10 from by rw[HS.out];rfl];go_wp2;go_ret2;exact⟨a0A (by simp[Txt.a2o,a0d HF,e1,e2]) (by simp[a0d HF,e1,e2]),rfl⟩
    ·subst h h' h''
     go_enter Tryz.func195,Tryz.ntmps195
     go_wp2_with fail
     refine (a0m _ _ (a0P _ _ _ HM.out)).mono ?_;rintro e w' ⟨rfl,rfl⟩;rw[show (s.extract 0 4).data.toList=Txt.part s 0 4 from rfl]
     go_wp2_with fail
     refine (a0m _ _ (a0P _ _ _ HM.out)).mono ?_;rintro e w' ⟨rfl,rfl⟩;rw[show (s.extract 5 7).data.toList=Txt.part s 5 7 from rfl]
     go_wp2_with fail
     refine (a0m _ _ (a0P _ _ _ HM.out)).mono ?_;rintro e w' ⟨rfl,rfl⟩;rw[show (s.extract 8 s.size).data.toList=Txt.part s 8 10 from by rw[HS.out];rfl];go_wp2;go_ret2;exact⟨a0A (by simp[Txt.a2o,a0d HF,e1,e2,e3]) (by simp[a0d HF,e1,e2,e3]),rfl⟩
    ·subst h h' h''
     cases ho:Cal.ok (Txt.a2f (Txt.part s 0 4)) (Txt.a2f (Txt.part s 5 7)) (Txt.a2f (Txt.part s 8 10))
     ·go_enter Tryz.func195,Tryz.ntmps195
      go_wp2_with fail
      refine (a0m _ _ (a0P _ _ _ HM.out)).mono ?_;rintro e w' ⟨rfl,rfl⟩;rw[show (s.extract 0 4).data.toList=Txt.part s 0 4 from rfl]
      go_wp2_with fail
      refine (a0m _ _ (a0P _ _ _ HM.out)).mono ?_;rintro e w' ⟨rfl,rfl⟩;rw[show (s.extract 5 7).data.toList=Txt.part s 5 7 from rfl]
      go_wp2_with fail
      refine (a0m _ _ (a0P _ _ _ HM.out)).mono ?_;rintro e w' ⟨rfl,rfl⟩;rw[show (s.extract 8 s.size).data.toList=Txt.part s 8 10 from by rw[HS.out];rfl]
      go_wp2_with fail
      refine (a9O _ _ _ _ ht ho).mono ?_;rintro e w' ⟨rfl,rfl⟩;go_wp2;go_ret2;exact⟨a0A (by simp[Txt.a2o,a0d HF,e1,e2,e3,ho]) (by simp[a0d HF,e1,e2,e3,ho]),rfl⟩
     ·go_enter Tryz.func195,Tryz.ntmps195
      go_wp2_with fail
      refine (a0m _ _ (a0P _ _ _ HM.out)).mono ?_;rintro e w' ⟨rfl,rfl⟩;rw[show (s.extract 0 4).data.toList=Txt.part s 0 4 from rfl]
      go_wp2_with fail
      refine (a0m _ _ (a0P _ _ _ HM.out)).mono ?_;rintro e w' ⟨rfl,rfl⟩;rw[show (s.extract 5 7).data.toList=Txt.part s 5 7 from rfl]
      go_wp2_with fail
      refine (a0m _ _ (a0P _ _ _ HM.out)).mono ?_;rintro e w' ⟨rfl,rfl⟩;rw[show (s.extract 8 s.size).data.toList=Txt.part s 8 10 from by rw[HS.out];rfl]
      go_wp2_with fail
      refine (a7P _ _ _ _ ht ho).mono ?_;rintro e w' ⟨rfl,rfl⟩;go_wp2;go_ret2;exact⟨a0A (by simp[Txt.a2o,a0d HF,e1,e2,e3,ho]) (by simp[a0d HF,e1,e2,e3,ho]),rfl⟩
   ·have he:(((s[7]'h7n).toNat:Int) != 45)=true:=b5y (by rw[<- Txt.a2W];exact hd);have HF:Hid (Txt.a5j s=false):=Txt.a6l (by omega);clear hs hb hd
    go_enter Tryz.func195,Tryz.ntmps195
    go_wp2;go_ret2;exact⟨a0A (by simp[Txt.a2o,HF.out]) (by rw[HF.out]),rfl⟩
  ·have hc:(((s[4]'h4n).toNat:Int) != 45)=true:=b5y (by rw[<- Txt.a2W];exact hb);have HF:Hid (Txt.a5j s=false):=Txt.a6l (by omega);clear hs hb
   go_enter Tryz.func195,Tryz.ntmps195
   go_wp2;go_ret2;exact⟨a0A (by simp[Txt.a2o,HF.out]) (by rw[HF.out]),rfl⟩
 ·have h5:((s.size:Int) != 10)=true:=b5y (by omega);have HF:Hid (Txt.a5j s=false):=Txt.a6l (by omega);clear hs
  go_enter Tryz.func195,Tryz.ntmps195
  go_wp2;go_ret2;exact⟨a0A (by simp[Txt.a2o,HF.out]) (by rw[HF.out]),rfl⟩
structure Kept(R:Nat)(w w':World):Prop where
 os:w'.os=w.os
 tape:w'.tape=w.tape
 output:w'.output=w.output
 size:w.heap.size<=w'.heap.size
 block:∀ k,k<w.heap.size->k≠R->w'.heap[k]?=w.heap[k]?
theorem Kept.refl(R:Nat)(w:World):Kept R w w:=⟨rfl,rfl,rfl,Nat.le_refl _,fun _ _ _=>rfl⟩
theorem Kept.trans{a b c:World}(h:Kept R a b)(k:Kept R b c):Kept R a c :=
 ⟨k.os.trans h.os,k.tape.trans h.tape,k.output.trans h.output,Nat.le_trans h.size k.size,fun i hi hr=>(k.block i (zL hi h.size) hr).trans (h.block i hi hr)⟩
theorem Kept.of_below(h:Below w.heap.size w w'):Kept R w w':=⟨h.os,h.tape,h.output,h.size,fun k hk _=>h.block k hk⟩
theorem Kept.drewN(h:Kept R w w')(n:Nat):Kept R w (w'.drewN n):=⟨h.os,h.tape,h.output,h.size,h.block⟩
theorem Kept.setCell(h:Kept R w w')(o:Nat)(v:Value):Kept R w (w'.setCell ⟨R,o,none⟩ v) :=
 h.trans ⟨(Below.setCell (B:=0) (Below.refl 0 w') (zN _) v).os,(Below.setCell (B:=0) (Below.refl 0 w') (zN _) v).tape,(Below.setCell (B:=0) (Below.refl 0 w') (zN _) v).output,(Below.setCell (B:=0) (Below.refl 0 w') (p:=⟨R,o,none⟩) (zN _) v).size,fun k _ hr=>Below.heap_setCell w' _ v k hr⟩
theorem Kept.below(h:Kept R w w')(hr:B<=R)(hb:B<=w.heap.size):Below B w w' :=
 ⟨h.os,h.tape,h.output,h.size,fun k hk=>h.block k (zL hk hb) (Nat.ne_of_lt (zL hk hr))⟩
theorem Kept.cell(h:Kept R w w'){b o:Nat}(hne:b≠R)(hc:w.cell? ⟨b,o,none⟩=some v):w'.cell? ⟨b,o,none⟩=some v :=
 (zo (w:=w) (h.block b (World.block_lt_of_cell? _ _ hc) hne)).trans hc
structure RS(w:World)(R A:Nat)(ws:List ByteArray)(nx:Nat)(wr:Bool):Prop where
 c0:w.cell? ⟨R,0,none⟩=some (.slice (some ⟨A,0,none⟩) ws.length ws.length)
 c1:w.cell? ⟨R,1,none⟩=some (.int .i64 nx)
 c2:w.cell? ⟨R,2,none⟩=some (.bool wr)
 f1:w.frozen? ⟨R,1,none⟩=false
 f2:w.frozen? ⟨R,2,none⟩=false
 ne:A≠R
 rows:∀ (i:Nat) (h:i<ws.length),w.cell? ⟨A,i,none⟩=some (.string ws[i])
 len:ws.length<=160
 c6c:nx<=ws.length
 short:∀ x∈ws,x.size<=160
theorem RS.of_below(h:RS w R A ws nx wr)(hb:Below w.heap.size w w'):RS w' R A ws nx wr :=
 ⟨cell_later hb h.c0,cell_later hb h.c1,cell_later hb h.c2,(hb.frozen (World.block_lt_of_cell? _ _ h.c1)).trans h.f1,(hb.frozen (World.block_lt_of_cell? _ _ h.c2)).trans h.f2,h.ne,fun i hi=>cell_later hb (h.rows i hi),h.len,h.c6c,h.short⟩
theorem RS.drewN(h:RS w R A ws nx wr)(n:Nat):RS (w.drewN n) R A ws nx wr:=⟨h.c0,h.c1,h.c2,h.f1,h.f2,h.ne,h.rows,h.len,h.c6c,h.short⟩
def a1b(n nx:Nat)(wr:Bool):Bool:=!wr && decide (nx<n)
theorem a0X(R A:Nat)(ws:List ByteArray)(nx:Nat)(wr:Bool)(w:World)(h:RS w R A ws nx wr):
  Calls Tryz.prog 63 #[.pointer (some ⟨R,0,none⟩)] w fun e w'=>e=.returned (.bool (a1b ws.length nx wr))/\∃ n,w'=w.drewN n:=by
 have c0:=h.c0;have c1:=h.c1;have c2:=h.c2;clear h
 cases wr
 ·go_enter Tryz.func63,Tryz.ntmps63
  go_wp2
  go_quiet (fail)
  go_wp2;go_ret;exact⟨a2a (by simp[a1b]),_,rfl⟩
 ·go_enter Tryz.func63,Tryz.ntmps63
  go_wp2
  go_quiet (fail)
  go_wp2;go_ret;exact⟨a2a (by simp[a1b]),_,rfl⟩
theorem a9d(h:¬ (wr=false/\nx<n)):a1b n nx wr=false:=by
 unfold a1b
 cases wr
 ·simp;simp at h;exact h
 ·rfl
theorem c6l(R A:Nat)(ws:List ByteArray)(nx:Nat)(wr:Bool)(word:ByteArray)(w:World)(h:RS w R A ws nx wr)(hn:a1b ws.length nx wr=false):
  Calls Tryz.prog 82 #[.pointer (some ⟨R,0,none⟩),.string word] w fun e w'=>e=.returned (.bool false)/\∃ n,w'=w.drewN n:=by
 go_enter Tryz.func82,Tryz.ntmps82
 go_wp2
 go_quiet ((go_at_call 63;exact Calls.quiet_of (a0X R A ws nx wr _ (h.drewN _))))
 go_wp2;go_ret;exact⟨rfl,_,rfl⟩
theorem c2Z(R A:Nat)(ws:List ByteArray)(nx:Nat)(wr:Bool)(word:ByteArray)(w:World)(h:RS w R A ws nx wr)(hn:a1b ws.length nx wr=true)(hlt:nx<ws.length)(he:(ws[nx].toList==word.toList)=false):
  Calls Tryz.prog 82 #[.pointer (some ⟨R,0,none⟩),.string word] w fun e w'=>e=.returned (.bool false)/\∃ n,w'=w.drewN n:=by
 have c0:=h.c0;have c1:=h.c1;have c2:=h.c2;have cr:=h.rows nx hlt;have hi:(nx:Int)<(ws.length:Int):=by omega
 go_enter Tryz.func82,Tryz.ntmps82
 go_wp2
 go_quiet ((go_at_call 63;exact Calls.quiet_of (a0X R A ws nx wr _ (h.drewN _))))
 go_wp2;go_ret;exact⟨rfl,_,rfl⟩
theorem RS.step(h:RS w R A ws nx wr)(hlt:nx<ws.length):RS (w.setCell ⟨R,1,none⟩ (.int .i64 ((nx:Int)+1))) R A ws (nx+1) wr :=
 ⟨(zS _ _ _ _ (by simp)).trans h.c0,World.cell?_setCell_same _ _ _ h.c1,(zS _ _ _ _ (by simp)).trans h.c2,(zF ..).trans h.f1,(zF ..).trans h.f2,h.ne,
  fun i hi=>(zS _ _ _ _ (by simp;intro e;exact absurd e.symm h.ne)).trans (h.rows i hi),h.len,hlt,h.short⟩
theorem RS.bad(h:RS w R A ws nx wr):RS (w.setCell ⟨R,2,none⟩ (.bool true)) R A ws nx true :=
 ⟨(zS _ _ _ _ (by simp)).trans h.c0,(zS _ _ _ _ (by simp)).trans h.c1,World.cell?_setCell_same _ _ _ h.c2,(zF ..).trans h.f1,(zF ..).trans h.f2,h.ne,
  fun i hi=>(zS _ _ _ _ (by simp;intro e;exact absurd e.symm h.ne)).trans (h.rows i hi),h.len,h.c6c,h.short⟩
theorem c6k(R A:Nat)(ws:List ByteArray)(nx:Nat)(wr:Bool)(word:ByteArray)(w:World)(h:RS w R A ws nx wr)(hn:a1b ws.length nx wr=true)(hlt:nx<ws.length)(he:(ws[nx].toList==word.toList)=true):
  Calls Tryz.prog 82 #[.pointer (some ⟨R,0,none⟩),.string word] w fun e w'=>e=.returned (.bool true)/\RS w' R A ws (nx+1) wr/\Kept R w w':=by
 have c0:=h.c0;have c1:=h.c1;have c2:=h.c2;have f1:=h.f1;have cr:=h.rows nx hlt;have hl:=h.len;have hi:(nx:Int)<(ws.length:Int):=by omega
 go_enter Tryz.func82,Tryz.ntmps82
 go_wp2
 go_quiet ((go_at_call 63;exact Calls.quiet_of (a0X R A ws nx wr _ (h.drewN _))))
 go_wp2;go_ret;exact⟨rfl,(h.drewN _).step hlt,((Kept.refl R w).drewN _).setCell _ _⟩
def isB(ws:List ByteArray)(nx:Nat)(wr:Bool)(word:ByteArray):Bool:=a1b ws.length nx wr && ((ws.getD nx ByteArray.empty).toList==word.toList)
theorem a2n(R A:Nat)(ws:List ByteArray)(nx:Nat)(wr:Bool)(word:ByteArray)(w:World)(h:RS w R A ws nx wr):
  Calls Tryz.prog 82 #[.pointer (some ⟨R,0,none⟩),.string word] w fun e w'=>e=.returned (.bool (isB ws nx wr word))/\RS w' R A ws (if isB ws nx wr word then nx+1 else nx) wr/\Kept R w w':=by
 cases hm:a1b ws.length nx wr
 ·have e:isB ws nx wr word=false:=by simp[isB,hm]
  rw[e];refine (c6l R A ws nx wr word w h hm).mono ?_;rintro e w' ⟨rfl,n,rfl⟩;exact⟨rfl,h.drewN n,(Kept.refl R w).drewN n⟩
 ·have hlt:nx<ws.length:=by
   by_cases hlt:nx<ws.length
   ·exact hlt
   ·rw[a9d (by omega)] at hm;cases hm
  have eg:ws.getD nx ByteArray.empty=ws[nx]:=by simp[List.getD,hlt]
  cases he:(ws[nx].toList==word.toList)
  ·have e:isB ws nx wr word=false:=by rw[isB,eg,he,Bool.and_false]
   rw[e];refine (c2Z R A ws nx wr word w h hm hlt he).mono ?_;rintro e w' ⟨rfl,n,rfl⟩;exact⟨rfl,h.drewN n,(Kept.refl R w).drewN n⟩
  ·have e:isB ws nx wr word=true:=by rw[isB,eg,he,hm];rfl
   rw[e];exact c6k R A ws nx wr word w h hm hlt he
def tkB(ws:List ByteArray)(nx:Nat)(wr:Bool)(B:ByteArray->Bool):Bool:=a1b ws.length nx wr && B (ws.getD nx ByteArray.empty)
def tkN(ws:List ByteArray)(nx:Nat)(wr:Bool)(B:ByteArray->Bool):Nat:=if tkB ws nx wr B then nx+1 else nx
def tkW(ws:List ByteArray)(nx:Nat)(wr:Bool)(B:ByteArray->Bool):Bool:=if tkB ws nx wr B then wr else true
def tkV(ws:List ByteArray)(nx:Nat)(wr:Bool)(B:ByteArray->Bool)(V:ByteArray->Int):Int:=if tkB ws nx wr B then V (ws.getD nx ByteArray.empty) else 0
theorem a4q(h:a1b n nx wr=true):nx<n:=by
 by_cases hlt:nx<n
 ·exact hlt
 ·rw[a9d (by omega)] at h;cases h
theorem a5f(ws:List ByteArray)(nx:Nat)(h:nx<ws.length):ws.getD nx ByteArray.empty=ws[nx]:=by simp[List.getD,h]
theorem a3s(f:Value)(R A:Nat)(ws:List ByteArray)(nx:Nat)(wr:Bool)(w:World)(h:RS w R A ws nx wr)(hm:a1b ws.length nx wr=false):
  Calls Tryz.prog 135 #[.pointer (some ⟨R,0,none⟩),f] w fun e w'=>e=.returned (.int .i64 0)/\RS w' R A ws nx true/\Kept R w w':=by
 go_enter Tryz.func135,Tryz.ntmps135
 go_wp2_with fail
 refine (a0X R A ws nx wr w h).mono ?_;rintro e w1 ⟨rfl,n,hw⟩;have h1:RS w1 R A ws nx wr:=by rw[hw];exact h.drewN n
 have k1:Kept R w w1:=by rw[hw];exact (Kept.refl R w).drewN n
 have c2:=h1.c2;have f2:=h1.f2;clear hw;go_wp2;go_ret;exact⟨rfl,h1.bad,k1.setCell _ _⟩
theorem b7N(R A:Nat)(ws:List ByteArray)(nx:Nat)(wr:Bool)(w:World)(h:RS w R A ws nx wr)(hm:a1b ws.length nx wr=true)(hlt:nx<ws.length)(hs:ws[nx].size<=maxLen)(hb:Txt.isNum ws[nx].data.toList=true):
  Calls Tryz.prog 135 #[.pointer (some ⟨R,0,none⟩),.func (.func 139) #[] #[]] w fun e w'=>e=.returned (.int .i64 (Txt.a2f ws[nx].data.toList))/\RS w' R A ws (nx+1) wr/\Kept R w w':=by
 have hi:(nx:Int)<(ws.length:Int):=by omega
 go_enter Tryz.func135,Tryz.ntmps135
 go_wp2_with fail
 refine (a0X R A ws nx wr w h).mono ?_;rintro e w1 ⟨rfl,n,hw⟩;have h1:RS w1 R A ws nx wr:=by rw[hw];exact h.drewN n
 have k1:Kept R w w1:=by rw[hw];exact (Kept.refl R w).drewN n
 have c0:=h1.c0;have c1:=h1.c1;have f1:=h1.f1;have cr:=h1.rows nx hlt;have hl:=h1.len;clear hw;go_wp2
 go_quiet ((go_at_call 139;exact Calls.quiet_of_same (a0m _ _ hs)))
 go_wp2;go_ret;exact⟨rfl,(h1.drewN _).step hlt,(k1.drewN _).setCell _ _⟩
theorem b7O(R A:Nat)(ws:List ByteArray)(nx:Nat)(wr:Bool)(w:World)(h:RS w R A ws nx wr)(hm:a1b ws.length nx wr=true)(hlt:nx<ws.length)(hs:ws[nx].size<=maxLen)(hb:Txt.isNum ws[nx].data.toList=false):
  Calls Tryz.prog 135 #[.pointer (some ⟨R,0,none⟩),.func (.func 139) #[] #[]] w fun e w'=>e=.returned (.int .i64 0)/\RS w' R A ws nx true/\Kept R w w':=by
 have hi:(nx:Int)<(ws.length:Int):=by omega
 go_enter Tryz.func135,Tryz.ntmps135
 go_wp2_with fail
 refine (a0X R A ws nx wr w h).mono ?_;rintro e w1 ⟨rfl,n,hw⟩;have h1:RS w1 R A ws nx wr:=by rw[hw];exact h.drewN n
 have k1:Kept R w w1:=by rw[hw];exact (Kept.refl R w).drewN n
 have c0:=h1.c0;have c1:=h1.c1;have c2:=h1.c2;have f2:=h1.f2;have cr:=h1.rows nx hlt;have hl:=h1.len;clear hw;go_wp2
 go_quiet ((go_at_call 139;exact Calls.quiet_of_same (a0m _ _ hs)))
 go_wp2;go_ret;exact⟨rfl,(h1.drewN _).bad,(k1.drewN _).setCell _ _⟩
structure Env(w:World):Prop where
 tab:Tab w
 c5L:∃ m,w.cell? ⟨2,0,none⟩=some (.int .i64 m)
 pow : Lib.TabIs Tryz.prog w "internal/strconv.uint64pow10" .u64 Lib.pow10Tab
 size:10<=w.heap.size
 mo:w.cell? ⟨3,0,none⟩=some (.string ⟨#[109,111]⟩)
 tu:w.cell? ⟨3,1,none⟩=some (.string ⟨#[116,117]⟩)
 we:w.cell? ⟨3,2,none⟩=some (.string ⟨#[119,101]⟩)
 th:w.cell? ⟨3,3,none⟩=some (.string ⟨#[116,104]⟩)
 fr:w.cell? ⟨3,4,none⟩=some (.string ⟨#[102,114]⟩)
 sa:w.cell? ⟨3,5,none⟩=some (.string ⟨#[115,97]⟩)
 su:w.cell? ⟨3,6,none⟩=some (.string ⟨#[115,117]⟩)
theorem c6q : Tryz.prog.globalNamed "internal/strconv.uint64pow10" = some 0 := by kernel_rfl
theorem Env.later(h:Env w)(hb:Below w.heap.size w wx):Env wx:=by
 obtain⟨m,hm⟩:=h.c5L;refine⟨h.tab.later hb,⟨m,cell_later hb hm⟩,?_,Nat.le_trans h.size hb.size,cell_later hb h.mo,cell_later hb h.tu,cell_later hb h.we,cell_later hb h.th,cell_later hb h.fr,cell_later hb h.sa,cell_later hb h.su⟩;have hp:=h.pow;have hz:=h.size;unfold Lib.TabIs World.var? at hp ⊢;simp only[c6q,Option.bind_some] at hp ⊢;rw[hb.block 0 (by omega)];exact hp
theorem Env.drewN(h:Env w)(n:Nat):Env (w.drewN n):=h.later (w:=w) (wx:=w.drewN n) ⟨rfl,rfl,rfl,Nat.le_refl _,fun _ _=>rfl⟩
theorem b1z{a b:ByteArray}{d:Bool}(h:a=b)(g:c=d):Ending.returned (.tuple #[.string a,.bool c])=.returned (.tuple #[.string b,.bool d]):=by rw[h,g]
theorem b3Q(s:ByteArray)(w:World)(hs:s.size<=281474976710656):
  Calls Tryz.prog 142 #[.string s] w fun e w'=>e=.returned (.string s)/\Below w.heap.size w w':=by
 go_enter Tryz.func142,Tryz.ntmps142
 go_wp2_with fail
 refine (Tryz.stringslite_Clone s w hs).mono ?_;rintro e w' ⟨rfl,hb⟩;go_wp2;go_ret;exact⟨rfl,hb⟩
def b4S(s:ByteArray):ByteArray:=if Txt.a1j s.data.toList then s else ⟨#[]⟩
theorem a8a(s:ByteArray)(w:World)(hs:s.size<=160):
  Calls Tryz.prog 131 #[.string s] w fun e w'=>e=.returned (.tuple #[.string (b4S s),.bool (Txt.a1j s.data.toList)])/\Below w.heap.size w w':=by
 by_cases h0:s.size=0
 ·have H:Hid (Txt.a1j s.data.toList=false):=Txt.b0K (by rw[Txt.a1d];omega);have h1:((s.size:Int)==0)=true:=beq_iff_eq.2 (by omega)
  go_enter Tryz.func131,Tryz.ntmps131
  go_wp2;go_ret2;exact⟨b1z (by simp[b4S,H.out]) (by rw[H.out]),Below.refl _ _⟩
 ·have h1:((s.size:Int)==0)=false:=beq_eq_false_iff_ne.2 (by omega)
  by_cases h7:8<s.size
  ·have H:Hid (Txt.a1j s.data.toList=false):=Txt.b0K (by rw[Txt.a1d];omega);clear h0
   go_enter Tryz.func131,Tryz.ntmps131
   go_wp2;go_ret2;exact⟨b1z (by simp[b4S,H.out]) (by rw[H.out]),Below.refl _ _⟩
  ·go_enter Tryz.func131,Tryz.ntmps131
   go_wp2
   go_loop [4] (fun i=>∃ k:Nat,k<=s.size/\i=.int .i64 k/\Txt.c1M (s.data.toList.take k)=true) (fun i=>s.size-(intOf i).toNat)
   case atStart=>exact⟨0,Nat.zero_le _,rfl,rfl⟩
   case round =>
    obtain⟨k,hk,rfl,hd⟩:=hrel;have HD:=hide hd;clear hd
    by_cases hlt:k<s.size
    ·have HT:Hid (s.data.toList.take (k+1)=s.data.toList.take k++[s[k]]):=Txt.a8N s k hlt
     by_cases hc:Txt.low s[k]=true
     ·have hc':=(Txt.c0s _).1 hc;have HC:=hide hc;obtain⟨hc1,hc2⟩:=hc';clear hc;go_wp2
      go_round
      case rel=>exact⟨k+1,by omega,by go_num,by rw[HT.out,Txt.b3c,HD.out,HC.out];rfl⟩
      case measure=>simp[intOf];omega
     ·have HC:Hid (Txt.a1j s.data.toList=false):=Txt.b8r (Txt.b3d _ (k+1) (by rw[HT.out,Txt.b3c,HD.out];simpa using hc))
      have hc':(s[k].toNat:Int)<97\/(¬ (s[k].toNat:Int)<97/\122<(s[k].toNat:Int)):=by
       have:=mt (Txt.c0s s[k]).2 hc;omega
      clear hc;rcases hc' with hc' |⟨hc',hc''⟩
      all_goals
       go_wp2;go_ret2;exact⟨b1z (by simp[b4S,HC.out]) (by rw[HC.out]),Below.refl _ _⟩
    ·have HA:Hid (s.data.toList.take k=s.data.toList):=Txt.a5t s k (by omega);have HN:Hid (Txt.a1j s.data.toList=true):=Txt.b5b (by rw[Txt.a1d];omega) (by rw[Txt.a1d];omega) (by rw[<- HA.out];exact HD.out)
     go_wp2_with fail
     refine (b3Q s w (by omega)).mono ?_;rintro e w' ⟨rfl,hb⟩;go_wp2;go_ret2;exact⟨b1z (by simp[b4S,HN.out]) (by rw[HN.out]),hb⟩
theorem f4Z(s:ByteArray)(w:World)(hs:s.size<=160):
  Calls Tryz.prog 186 #[.string s] w fun e w'=>e=.returned (.bool (Txt.a1j s.data.toList))/\w'=w:=by
 by_cases h0:s.size<1
 ·have H:Hid (Txt.a1j s.data.toList=false):=Txt.b0K (by rw[Txt.a1d];omega);have h1:((s.size:Int)<1):=by omega
  go_enter Tryz.func186,Tryz.ntmps186
  go_wp2;go_ret;exact⟨a2a (by rw[H.out]),rfl⟩
 ·have h1:¬ ((s.size:Int)<1):=by omega
  by_cases h7:8<s.size
  ·have H:Hid (Txt.a1j s.data.toList=false):=Txt.b0K (by rw[Txt.a1d];omega)
   go_enter Tryz.func186,Tryz.ntmps186
   go_wp2;go_ret;exact⟨a2a (by rw[H.out]),rfl⟩
  ·go_enter Tryz.func186,Tryz.ntmps186
   go_wp2
   go_loop [3] (fun i=>∃ k:Nat,k<=s.size/\i=.int .i64 k/\Txt.c1M (s.data.toList.take k)=true) (fun i=>s.size-(intOf i).toNat)
   case atStart=>exact⟨0,Nat.zero_le _,rfl,rfl⟩
   case round =>
    obtain⟨k,hk,rfl,hd⟩:=hrel;have HD:=hide hd;clear hd
    by_cases hlt:k<s.size
    ·have HT:Hid (s.data.toList.take (k+1)=s.data.toList.take k++[s[k]]):=Txt.a8N s k hlt
     by_cases hc:Txt.low s[k]=true
     ·have hc':=(Txt.c0s _).1 hc;have HC:=hide hc;obtain⟨hc1,hc2⟩:=hc';clear hc;go_wp2
      go_round
      case rel=>exact⟨k+1,by omega,by go_num,by rw[HT.out,Txt.b3c,HD.out,HC.out];rfl⟩
      case measure=>simp[intOf];omega
     ·have HC:Hid (Txt.a1j s.data.toList=false):=Txt.b8r (Txt.b3d _ (k+1) (by rw[HT.out,Txt.b3c,HD.out];simpa using hc))
      have hc':(s[k].toNat:Int)<97\/(¬ (s[k].toNat:Int)<97/\122<(s[k].toNat:Int)):=by
       have:=mt (Txt.c0s s[k]).2 hc;omega
      clear hc;rcases hc' with hc' |⟨hc',hc''⟩
      all_goals
       go_wp2;go_ret;exact⟨a2a (by rw[HC.out]),rfl⟩
    ·have HA:Hid (s.data.toList.take k=s.data.toList):=Txt.a5t s k (by omega);have HN:Hid (Txt.a1j s.data.toList=true):=Txt.b5b (by rw[Txt.a1d];omega) (by rw[Txt.a1d];omega) (by rw[<- HA.out];exact HD.out);go_wp2;go_ret;exact⟨a2a (by rw[HN.out]),rfl⟩
theorem b3K(l:List UInt8):∀ acc:Nat,Txt.a6j l=true->∃ n:Nat,Lib.decFrom acc l=some n/\(n:Int)=l.foldl (fun n c=>n*10+((c.toNat:Int)-48)) (acc:Int):=by
 induction l with
 |nil=>intro acc _;exact⟨acc,rfl,rfl⟩
 |cons c l ih =>
  intro acc h;simp only[Txt.a6j,List.all_cons,Bool.and_eq_true] at h;have hc:=(Txt.a6k c).1 h.1;obtain⟨n,h1,h2⟩:=ih (acc*10+(c.toNat-48)) h.2;refine⟨n,?_,?_⟩
  ·simp only[Lib.decFrom,Lib.digitVal];rw[if_pos (by omega)];exact h1
  ·rw[h2,List.foldl_cons]
   congr 1
   omega
theorem c1z(l:List UInt8)(h:Txt.a6j l=true)(h0:l≠[]):Lib.atoi l=some (Txt.b4R l):=by
 obtain⟨n,h1,h2⟩:=b3K l 0 h
 cases l with
 |nil=>exact absurd rfl h0
 |cons b r =>
  simp only[Txt.a6j,List.all_cons,Bool.and_eq_true] at h;have hb:=(Txt.a6k b).1 h.1
  have b1:(b==45)=false:=by
   rw[beq_eq_false_iff_ne];intro e;subst e;revert hb;decide
  have b2:(b==43)=false:=by
   rw[beq_eq_false_iff_ne];intro e;subst e;revert hb;decide
  simp only[Lib.atoi,b1,b2,Bool.false_eq_true,if_false,Lib.decNat,List.isEmpty_cons,h1,Option.map_some];rw[h2];rfl
def b4g(s:ByteArray)(lo hi:Nat):Int:=if lo<=s.size/\s.size<=hi/\Txt.a6j s.data.toList=true then Txt.b4R s.data.toList else -1
theorem b6z{s:ByteArray}(h:¬ (lo<=s.size/\s.size<=hi)):b4g s lo hi=-1:=by
 unfold b4g;rw[if_neg (fun g=>h ⟨g.1,g.2.1⟩)]
theorem b6A{s:ByteArray}(h:Txt.a6j s.data.toList=false):b4g s lo hi=-1:=by
 unfold b4g;rw[if_neg (fun g=>by rw[h] at g;exact absurd g.2.2 (by decide))]
theorem b6y{s:ByteArray}(h1:lo<=s.size)(h2:s.size<=hi)(h:Txt.a6j s.data.toList=true):b4g s lo hi=Txt.b4R s.data.toList:=by
 unfold b4g;rw[if_pos ⟨h1,h2,h⟩]
theorem b0E(s:ByteArray)(lo hi:Nat)(w:World)(hs:s.size<=160)(hlo:1<=lo)(hhi:hi<=7):
  Calls Tryz.prog 126 #[.string s,.int .i64 lo,.int .i64 hi] w fun e w'=>e=.returned (.int .i64 (b4g s lo hi))/\Below w.heap.size w w':=by
 by_cases h0:s.size<lo
 ·have H:Hid (b4g s lo hi=-1):=b6z (by omega);have h1:((s.size:Int)<(lo:Int)):=by omega
  go_enter Tryz.func126,Tryz.ntmps126
  go_wp2;go_ret;exact⟨a3w (by rw[H.out]),Below.refl _ _⟩
 ·have h1:¬ ((s.size:Int)<(lo:Int)):=by omega
  by_cases h7:hi<s.size
  ·have H:Hid (b4g s lo hi=-1):=b6z (by omega);have h2:((hi:Int)<(s.size:Int)):=by omega
   go_enter Tryz.func126,Tryz.ntmps126
   go_wp2;go_ret;exact⟨a3w (by rw[H.out]),Below.refl _ _⟩
  ·have h2:¬ ((hi:Int)<(s.size:Int)):=by omega
   go_enter Tryz.func126,Tryz.ntmps126
   go_wp2
   go_loop [7] (fun i=>∃ k:Nat,k<=s.size/\i=.int .i64 k/\Txt.a6j (s.data.toList.take k)=true) (fun i=>s.size-(intOf i).toNat)
   case atStart=>exact⟨0,Nat.zero_le _,rfl,rfl⟩
   case round =>
    obtain⟨k,hk,rfl,hd⟩:=hrel;have HD:=hide hd;clear hd
    by_cases hlt:k<s.size
    ·have HT:Hid (s.data.toList.take (k+1)=s.data.toList.take k++[s[k]]):=Txt.a8N s k hlt
     by_cases hc:Txt.dig s[k]=true
     ·have hc':=(Txt.a6k _).1 hc;have HC:=hide hc;obtain⟨hc1,hc2⟩:=hc';clear hc;go_wp2
      go_round
      case rel=>exact⟨k+1,by omega,by go_num,by rw[HT.out,Txt.a6X,HD.out,HC.out];rfl⟩
      case measure=>simp[intOf];omega
     ·have HC:Hid (b4g s lo hi=-1):=b6A (Txt.a8h _ (k+1) (by rw[HT.out,Txt.a6X,HD.out];simpa using hc))
      have hc':(s[k].toNat:Int)<48\/(¬ (s[k].toNat:Int)<48/\57<(s[k].toNat:Int)):=by
       have:=mt (Txt.a6k s[k]).2 hc;omega
      clear hc;rcases hc' with hc' |⟨hc',hc''⟩
      all_goals
       go_wp2;go_ret;exact⟨a3w (by rw[HC.out]),Below.refl _ _⟩
    ·have HA:Hid (s.data.toList.take k=s.data.toList):=Txt.a5t s k (by omega);have hdg:Txt.a6j s.data.toList=true:=by rw[<- HA.out];exact HD.out
     have HN:Hid (b4g s lo hi=Txt.b4R s.data.toList):=b6y (by omega) (by omega) hdg;have HE:Hid (Lib.atoi s.data.toList=some (Txt.b4R s.data.toList)):=c1z _ hdg (fun e=>by have:=Txt.a1d s;rw[e] at this;simp at this;omega);clear hdg
     go_wp2_with fail
     refine (Tryz.strconv_Atoi s _ (by omega) HE.out w).mono ?_;rintro e w' ⟨rfl,t,hw⟩;have hb:Below w.heap.size w w':=by rw[hw];exact Joins.below_bytesWorld _ _ _ _ (zq _)
     clear hw;go_wp2;go_ret;exact⟨a3w (by rw[HN.out]),hb⟩
end Go.Proofs.YtfigmlfdnickmaaGreatDoor
