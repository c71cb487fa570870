import Derived.Test.YtfigmlfdnickmaaGreatDoorL07
import Derived.RangeFuncKeeps
import Derived.RangeFuncBound
import Derived.RangeFuncLeaves
import Derived.Shelf.Abstract
import Derived.Shelf.RegionOpen
import Derived.OwnWalkIn
import Derived.TacticsInMore
import Derived.Deep.CutRange
import Derived.Deep.RegionWith
import Derived.Deep.RegionHeld3
import Derived.RangeFuncCalls
import Derived.Lib.ItoaNum
import Derived.Deep.AppendLies
set_option maxRecDepth 100000
set_option maxHeartbeats 8000000
variable{name x:ByteArray}{e:Go.Proofs.YtfigmlfdnickmaaGreatDoor.Desk.Ent}{ev' fr mi mn pc pc' ti ti' til u un un':Int}{l tl:List (Go.Proofs.YtfigmlfdnickmaaGreatDoor.Desk.Ent × Go.Value)}{L:List (Int × Int)}{p ws:List ByteArray}{acc acc':List Int}{xs:List Go.Value}{B Q b c1 cap d g i k m mm n n₀:Nat}{s' st:Nat × Bool}{col:Nat->Option Go.Proofs.YtfigmlfdnickmaaGreatDoor.Col}{a1:Option Go.Addr}{r rw_:Go.Proofs.YtfigmlfdnickmaaGreatDoor.Raw}{s:Go.Proofs.YtfigmlfdnickmaaGreatDoor.Desk.St}{v v':Go.Value}{W W' w w' w1 w2 w3 wx:Go.World}
namespace Go.Proofs.YtfigmlfdnickmaaGreatDoor
open Go.RowKit
open Desk (Ent St Ids kept a0C a0Q a1C a2e ofB a0y a2c Mid a1H a0z Inv)
def a3U:Obj:=.cells #[.int .i64 0,.int .i64 0,.string ByteArray.empty,.int .i64 0,.slice none 0 0,.int .i64 0] 58 (0,0)
def a8k(e:Ent)(v:Value):Value:=.agg #[.int .i64 e.id,.int .i64 e.kind,.string e.a0k,.int .i64 e.a0c,v,.int .i64 e.a0Z]
def c5K(Z:World)(Q:Nat)(a b c d e f:Value):World:=(((((Z.setCell ⟨Q,0,none⟩ a).setCell ⟨Q,1,none⟩ b).setCell ⟨Q,2,none⟩ c).setCell ⟨Q,3,none⟩ d).setCell ⟨Q,4,none⟩ e).setCell ⟨Q,5,none⟩ f
theorem b6a(Z:World)(Q:Nat)(a b c d e f:Value):Off [Q] Z (c5K Z Q a b c d e f) :=
 ((((((Off.refl [Q] Z).setCell (.inl (by simp)) _ _).setCell (.inl (by simp)) _ _).setCell (.inl (by simp)) _ _).setCell (.inl (by simp)) _ _).setCell (.inl (by simp)) _ _).setCell (.inl (by simp)) _ _
def b2p(w:World)(e:Ent)(v:Value)(w':World):Prop:=∃ sp,v=a8k e sp/\w'.ownsRow w.heap.size 60 2 sp e.a0e.length (e.a0e.flatMap spV)/\Below w.heap.size w w'
theorem c7v(h:w.heap[Q]?=some a3U):w.cell? ⟨Q,0,none⟩=some (.int .i64 0):=by unfold a3U at h;simp only[World.cell?,h];rfl
theorem c7u(h:w.heap[Q]?=some a3U):w.cell? ⟨Q,1,none⟩=some (.int .i64 0):=by unfold a3U at h;simp only[World.cell?,h];rfl
theorem c7t(h:w.heap[Q]?=some a3U):w.cell? ⟨Q,2,none⟩=some (.string ByteArray.empty):=by unfold a3U at h;simp only[World.cell?,h];rfl
theorem c7s(h:w.heap[Q]?=some a3U):w.cell? ⟨Q,3,none⟩=some (.int .i64 0):=by unfold a3U at h;simp only[World.cell?,h];rfl
theorem c7r(h:w.heap[Q]?=some a3U):w.cell? ⟨Q,4,none⟩=some (.slice none 0 0):=by unfold a3U at h;simp only[World.cell?,h];rfl
theorem c7q(h:w.heap[Q]?=some a3U):w.cell? ⟨Q,5,none⟩=some (.int .i64 0):=by unfold a3U at h;simp only[World.cell?,h];rfl
theorem c7p(h:w.heap[Q]?=some a3U):∀ o,w.frozen? ⟨Q,o,none⟩=false:=fun o=>frozen_of_row _ Q o _ _ h
theorem c2d(w:World)(g:EG)(h:ENK w g)(hn:w.cell? ⟨g.tb,0,none⟩=some (.string g.e.a0k))(hL:g.e.a0e.length<=100):
  Calls Tryz.prog 152 #[.pointer (some ⟨g.eb,0,none⟩)] w fun e w'=>∃ v,e=.returned v/\b2p w g.e v w':=by
 have hX:Below w.heap.size w (w.alloc a3U):=(zr _ _).alloc (zq _) _;have hq:=a0p w a3U;have hx:=h.off (G:=[]) (Off.of_below hX) (by simp) (by simp);have c0:=hx.en.c0;have c1:=hx.k;have c2:=hx.en.c1;have c3:=hx.en.c2;have c4:=hx.en.c3;have c5:=hx.u;have cn:=a0a hX hn;have CL:=a0b (b4C (w.alloc a3U).drew g.B g.cap g.e.a0e (hx.en.sl.off (G:=[]) (Off.of_below (a0q _)) (by simp)) hL);have HX:=a0b (And.intro hX hq);have hne:g.eb≠w.heap.size/\g.tb≠w.heap.size:=⟨by have:=h.lt;omega,by have h1:g.tb<w.heap.size:=World.block_lt_of_cell? _ _ hn;omega⟩;clear h hn hX hq hx
 go_enter Tryz.func152,Tryz.ntmps152
 go_upto_region 1 with fail
 change Code.wp _ _ _ _ (w.alloc a3U);have hs:w.heap.size<(w.alloc a3U).heap.size:=by simp
 generalize w.alloc a3U=X at *;have AC:Hid (∀ w2,Below X.drew.heap.size X.drew w2->w2.cell? ⟨g.eb,0,none⟩=some (.int .i64 g.e.id)/\w2.cell? ⟨g.eb,1,none⟩=some (.int .i64 g.e.kind)/\w2.cell? ⟨g.eb,2,none⟩=some (.pointer (some ⟨g.tb,0,none⟩))/\w2.cell? ⟨g.eb,3,none⟩=some (.int .i64 g.e.a0c)/\w2.cell? ⟨g.eb,4,none⟩=some (.slice (some ⟨g.B,0,none⟩) g.e.a0e.length g.cap)/\w2.cell? ⟨g.eb,5,none⟩=some (.int .i64 g.e.a0Z)/\w2.cell? ⟨g.tb,0,none⟩=some (.string g.e.a0k)):=fun w2 k=>⟨a0a k c0,a0a k c1,a0a k c2,a0a k c3,a0a k c4,a0a k c5,a0a k cn⟩
 have AQ:Hid (∀ w2,Below X.drew.heap.size X.drew w2->w2.heap[w.heap.size]?=some a3U):=fun w2 k=>(k.block _ hs).trans HX.out.2
 have AS:Hid (∀ w2 a b c d e f,Below X.drew.heap.size X.drew w2->((((((w2.setCell ⟨w.heap.size,0,none⟩ a).setCell ⟨w.heap.size,1,none⟩ b).setCell ⟨w.heap.size,2,none⟩ c).setCell ⟨w.heap.size,3,none⟩ d).setCell ⟨w.heap.size,4,none⟩ e).setCell ⟨w.heap.size,5,none⟩ f).cell? ⟨g.eb,0,none⟩=some (.int .i64 g.e.id)/\((((((w2.setCell ⟨w.heap.size,0,none⟩ a).setCell ⟨w.heap.size,1,none⟩ b).setCell ⟨w.heap.size,2,none⟩ c).setCell ⟨w.heap.size,3,none⟩ d).setCell ⟨w.heap.size,4,none⟩ e).setCell ⟨w.heap.size,5,none⟩ f).cell? ⟨g.eb,1,none⟩=some (.int .i64 g.e.kind)/\((((((w2.setCell ⟨w.heap.size,0,none⟩ a).setCell ⟨w.heap.size,1,none⟩ b).setCell ⟨w.heap.size,2,none⟩ c).setCell ⟨w.heap.size,3,none⟩ d).setCell ⟨w.heap.size,4,none⟩ e).setCell ⟨w.heap.size,5,none⟩ f).cell? ⟨g.eb,2,none⟩=some (.pointer (some ⟨g.tb,0,none⟩))/\((((((w2.setCell ⟨w.heap.size,0,none⟩ a).setCell ⟨w.heap.size,1,none⟩ b).setCell ⟨w.heap.size,2,none⟩ c).setCell ⟨w.heap.size,3,none⟩ d).setCell ⟨w.heap.size,4,none⟩ e).setCell ⟨w.heap.size,5,none⟩ f).cell? ⟨g.eb,3,none⟩=some (.int .i64 g.e.a0c)/\((((((w2.setCell ⟨w.heap.size,0,none⟩ a).setCell ⟨w.heap.size,1,none⟩ b).setCell ⟨w.heap.size,2,none⟩ c).setCell ⟨w.heap.size,3,none⟩ d).setCell ⟨w.heap.size,4,none⟩ e).setCell ⟨w.heap.size,5,none⟩ f).cell? ⟨g.eb,4,none⟩=some (.slice (some ⟨g.B,0,none⟩) g.e.a0e.length g.cap)/\((((((w2.setCell ⟨w.heap.size,0,none⟩ a).setCell ⟨w.heap.size,1,none⟩ b).setCell ⟨w.heap.size,2,none⟩ c).setCell ⟨w.heap.size,3,none⟩ d).setCell ⟨w.heap.size,4,none⟩ e).setCell ⟨w.heap.size,5,none⟩ f).cell? ⟨g.eb,5,none⟩=some (.int .i64 g.e.a0Z)/\((((((w2.setCell ⟨w.heap.size,0,none⟩ a).setCell ⟨w.heap.size,1,none⟩ b).setCell ⟨w.heap.size,2,none⟩ c).setCell ⟨w.heap.size,3,none⟩ d).setCell ⟨w.heap.size,4,none⟩ e).setCell ⟨w.heap.size,5,none⟩ f).cell? ⟨g.tb,0,none⟩=some (.string g.e.a0k)):=fun w2 a b c d e f k=>by
  have o:=b6a w2 w.heap.size a b c d e f;obtain⟨k0,k1,k2,k3,k4,k5,k6⟩:=AC.out w2 k;exact⟨o.cell (by simpa using hne.1) k0,o.cell (by simpa using hne.1) k1,o.cell (by simpa using hne.1) k2,o.cell (by simpa using hne.1) k3,o.cell (by simpa using hne.1) k4,o.cell (by simpa using hne.1) k5,o.cell (by simpa using hne.2) k6⟩
 clear hne
 go_region_held3 (fun w'=>w'.cell? ⟨g.eb,0,none⟩=some (.int .i64 g.e.id)/\w'.cell? ⟨g.eb,1,none⟩=some (.int .i64 g.e.kind)/\w'.cell? ⟨g.eb,2,none⟩=some (.pointer (some ⟨g.tb,0,none⟩))/\w'.cell? ⟨g.eb,3,none⟩=some (.int .i64 g.e.a0c)/\w'.cell? ⟨g.eb,4,none⟩=some (.slice (some ⟨g.B,0,none⟩) g.e.a0e.length g.cap)/\w'.cell? ⟨g.eb,5,none⟩=some (.int .i64 g.e.a0Z)/\w'.cell? ⟨g.tb,0,none⟩=some (.string g.e.a0k))
  (first
   |with_reducible exact AS.out _ _ _ _ _ _ _ hb2
   |with_reducible exact AC.out _ hb2
   |exact⟨c0,c1,c2,c3,c4,c5,cn⟩)
  (first
   |(go_at_call 210;refine CL.out.mono ?_;rintro e w2 ⟨v,rfl,ho,hb2⟩;obtain⟨va,vc,rfl⟩:=a0B ho;have hq2:=AQ.out w2 hb2;have q0:=c7v hq2;have q1:=c7u hq2;have q2:=c7t hq2;have q3:=c7s hq2;have q4:=c7r hq2;have q5:=c7q hq2;have fq:=c7p hq2;clear hq2))
 have HF:Hid (b2p w g.e (a8k g.e (.slice va g.e.a0e.length vc)) (c5K w2 w.heap.size (.int .i64 g.e.id) (.int .i64 g.e.kind) (.string g.e.a0k) (.int .i64 g.e.a0c) (.slice va g.e.a0e.length vc) (.int .i64 g.e.a0Z))):=by
  have hXs:=HX.out.1.size;have k:=b6a w2 w.heap.size (.int .i64 g.e.id) (.int .i64 g.e.kind) (.string g.e.a0k) (.int .i64 g.e.a0c) (.slice va g.e.a0e.length vc) (.int .i64 g.e.a0Z);have h1:Below w.heap.size w w2:=HX.out.1.drew.trans (hb2.mono hXs);refine⟨_,rfl,a1i (Joins.ownsRow_le ho hXs) k (fun b hb hx=>?_),?_⟩
  ·have:=(ho.lt b hb).1;have e:b=w.heap.size:=List.mem_singleton.1 hx;have hs':w.heap.size<X.drew.heap.size:=hs;omega
  ·exact⟨k.os.trans h1.os,k.tape.trans h1.tape,k.output.trans h1.output,Nat.le_trans h1.size k.size,fun b hb=>(k.block b (zL hb h1.size) (by simp;omega)).trans (h1.block b hb)⟩
 clear ho hb2 CL AC AQ AS c0 c1 c2 c3 c4 c5 cn HX hs
 go_wp2_with fail
 exact bodyPost_ret (v:=a8k g.e (.slice va g.e.a0e.length vc)) (by simp[results,Tryz.results152,go_sem,a8k,q0,q1,q2,q3,q4,q5]) rfl ⟨_,rfl,HF.out⟩
theorem b6R:(Tryz.prog.info? 58).map (fun i=>(i.zero,i.size,i.bytes))=some (some (.agg #[.int .i64 0,.int .i64 0,.string ByteArray.empty,.int .i64 0,.slice none 0 0,.int .i64 0]),6,72):=by kernel_rfl
theorem a3j.snoc(h:a3j wx B col v l){sp:Value}(ho:w2.ownsRow wx.heap.size 60 2 sp e.a0e.length (e.a0e.flatMap spV))(k:Below wx.heap.size wx w2)(hB:B<=wx.heap.size)(hc:∀ b,wx.heap.size<=b->col b=none)(k3:Off v.ownBlock.toList w2 w3){g2:Nat}(hown:w3.ownsRow B 58 6 (.slice (some ⟨g2,0,none⟩) (l.length+1) cap) (l.length+1) (l.flatMap a1f++a1f (e,sp)))(hat:v.ownBlock=some g2\/w2.heap.size<=g2):
  a3j w3 B col (.slice (some ⟨g2,0,none⟩) (l.length+1) cap) (l++[(e,sp)]):=by
 have hks:=k.size;refine⟨?_,fun b hb=>?_,fun p hp=>?_,?_⟩
 ·rw[List.length_append,List.flatMap_append];have:[(e,sp)].flatMap a1f=a1f (e,sp):=by simp
  rw[this];exact hown
 ·have:g2=b:=by simpa[Value.ownBlock] using hb
  subst this;rcases hat with e1|e1
  ·exact h.no g2 e1
  ·exact hc g2 (by omega)
 ·rcases List.mem_append.1 hp with hp|hp
  ·obtain⟨s1,s2⟩:=h.sp p hp;refine⟨⟨a1i (a1g s1.own k) k3 (fun b hb hx=>s2 b hb (Option.mem_toList.1 hx)),s1.no⟩,fun b hb hx=>?_⟩;have:g2=b:=by simpa[Value.ownBlock] using hx
   subst this;rcases hat with e1|e1
   ·exact s2 g2 hb e1
   ·have:=(s1.own.lt g2 hb).2;omega
  ·have:p=(e,sp):=List.mem_singleton.1 hp;subst this;have hvb:∀ b,v.ownBlock=some b->b<wx.heap.size:=fun b hb=>(h.own.lt b hb).2
   refine⟨⟨a1i (Joins.ownsRow_le ho hB) k3 (fun b hb hx=>?_),fun b hb=>hc b (ho.lt b hb).1⟩,fun b hb hx=>?_⟩
   ·have h1:=(ho.lt b hb).1;have h2:=hvb b (Option.mem_toList.1 hx);omega
   ·have:g2=b:=by simpa[Value.ownBlock] using hx
    subst this;have h1:=ho.lt g2 hb;rcases hat with e1|e1
    ·have:=hvb g2 e1;omega
    ·omega
 ·refine List.pairwise_append.2 ⟨h.pw,List.pairwise_singleton _ _,fun p hp q hq b hb hx=>?_⟩;rw[List.mem_singleton.1 hq] at hx;have h1:=(ho.lt b hx).1;have h2:=((h.sp p hp).1.own.lt b hb).2;omega
theorem DSt.tells(h:DSt w d s r col)(k:Below w.heap.size w wx){g:EG}(hg:g∈r.eg):
  Calls Tryz.prog 152 #[.pointer (some ⟨g.eb,0,none⟩)] wx fun e w'=>∃ v,e=.returned v/\b2p wx g.e v w':=by
 have d1:=h.dk.later k;obtain⟨i,hi,e1,e2⟩:=h.of.tb g hg;obtain⟨ul,us,Fl,Fs,t1,_⟩:=d1.th i hi;have hc:=t1.c0;rw[e1,<- e2] at hc;exact c2d wx g (d1.en g hg).1 hc (by have:=(h.inv.en _ (h.of.mem hg)).sl;omega)
def a4L(g:EG):Bool:=g.e.kind==3
def WT(w wx:World)(r:Raw)(col:Nat->Option Col)(k:Nat)(v:Value):Prop:=∃ l,l.map (·.1)=((r.eg.filter a4L).take k).map (·.e)/\a3j wx w.heap.size col v l/\Below w.heap.size w wx
theorem a8L(h:DSt w d s r col):
  Calls Tryz.prog 99 #[.pointer (some ⟨d,0,none⟩)] w fun e w'=>∃ v,e=.returned v/\WT w w' r col (r.eg.filter a4L).length v:=by
 obtain⟨i0,hi0,hz0,hz1,hz2⟩:=info_parts b6R;obtain⟨v4,c4,own4,hc4⟩:=h.dk.wa;have hwl:r.wl.length=(r.eg.filter a4L).length:=by rw[h.wl,List.length_map];rfl
 have hwn:(r.eg.filter a4L).length<=60:=by
  have h1:=List.length_filter_le a4L r.eg;have h2:=a1x h.mid;have h3:r.eg.length=s.es.length:=by rw[<- h.of.es];simp
  omega
 rw[hwl] at own4;obtain⟨a,cap,rfl⟩:=a0B own4;have G0:Hid (WT w w r col 0 (.slice none 0 0)):=⟨[],rfl,a3j.nil _ _ _,Below.refl _ _⟩;have HH:=a0b h;have O4:=a0b own4;clear h own4 hc4
 go_enter Tryz.func99,Tryz.ntmps99
 go_wp2_with fail
 clear c4
 go_loopw [3,5,11] (fun vg _ vi wx=>∃ k:Nat,k<=(r.eg.filter a4L).length/\vi=.int .i64 k/\WT w wx r col k vg) (fun _ _ vi _=>(r.eg.filter a4L).length-(intOf vi).toNat)
 case atStart=>exact⟨0,Nat.zero_le _,rfl,G0.out⟩
 case round =>
  obtain⟨k,hk,rfl,l,hl,X,hb⟩:=hrel
  by_cases hlt:k<(r.eg.filter a4L).length
  ·have hi0':(k:Int)<((r.eg.filter a4L).length:Int):=by omega
   have hg:=(List.mem_filter.1 (zg hlt)).1
   have hlk:l.length=k:=by
    have:=congrArg List.length hl;rw[List.length_map,List.length_map,List.length_take] at this;omega
   have row:=a1g O4.out hb;obtain⟨Hh,cap',e1⟩:=Joins.ownsRow_form row (by omega);simp only[Value.slice.injEq,true_and] at e1;obtain⟨rfl,rfl⟩:=e1;have a0:=row.cellAt k (by omega)
   have e2:(r.wl.map a5x)[k]?=some (a5x (r.eg.filter a4L)[k].eb):=by
    rw[HH.out.wl,List.getElem?_map,List.getElem?_map];show Option.map a5x (Option.map _ (r.eg.filter a4L)[k]?)=_;rw[List.getElem?_eq_getElem hlt];rfl
   rw[e2] at a0;unfold a5x at a0;have TE:=a0b (HH.out.tells hb hg);have HX:=a0b (And.intro hl (And.intro X (And.intro hb hlk)));have hl60:l.length<=60:=by omega
   obtain⟨g,hge⟩:∃ g,g=(r.eg.filter a4L)[k]:=⟨_,rfl⟩;rw[<- hge] at TE a0;have GE:=a0b hge;clear hge e2 row hl X hb hlk hg
   go_wp2_with fail
   refine TE.out.mono ?_;rintro e w2 ⟨v,rfl,sp,rfl,ho,hb2⟩;obtain⟨sa,sc,rfl⟩:=a0B ho;have RW:=a0b (a1g HX.out.2.1.own hb2);have SR:=a0b (And.intro ho hb2);have hsz:w.heap.size<=w2.heap.size:=Nat.le_trans HX.out.2.2.1.size hb2.size;clear ho hb2 TE a0;simp only[a8k]
   go_wp2_with (first
    |(at_builtin;refine wpList_append_lies _ rfl _ _ 34 rfl w.heap.size 58 i0 _ 6 72 Tryz.underlying34 hi0 hz0 hz1 hz2 rfl (by decide) _ _ _ rfl (RW.out.alloc _) ⟨w2.heap.size,0,none⟩ 1 1 (a1f (g.e,.slice sa g.e.a0e.length sc)) rfl rfl (World.news_of_block (cs:=(a1f (g.e,.slice sa g.e.a0e.length sc)).toArray) (a0p w2 _)) (by simp[a1f,Value.oneCell']) (by omega) (by unfold maxLen;omega) (by omega) (by simp;omega) (w2.heap.size+1) (by simp) ?_;intro g2 cap2 w3 hown hgrow hat hlt2))
   have ko:Off u3.ownBlock.toList w2 w3:=Off.grown ((Off.refl _ w2).alloc _) hgrow (fun k hk=>.inl (Option.mem_toList.2 hk));have hat':u3.ownBlock=some g2\/g2=w2.heap.size+1:=hat
   have HN:Hid (WT w w3 r col (k+1) (.slice (some ⟨g2,0,none⟩) (l.length+1) cap2)):=by
    obtain⟨e1,e2,e3,e4⟩:=HX.out;obtain⟨s1,s2⟩:=SR.out;refine⟨l++[(g.e,.slice sa g.e.a0e.length sc)],?_,e2.snoc s1 s2 e3.size (fun b hb=>HH.out.dk.none (Nat.le_trans e3.size hb)) ko hown (hat'.imp id (fun e=>by omega)),?_⟩
    ·rw[List.map_append,List.take_succ_eq_append_getElem hlt,List.map_append,e1,<- GE.out];rfl
    ·have h2:Below w.heap.size w w2:=e3.trans (s2.mono e3.size);exact⟨ko.os.trans h2.os,ko.tape.trans h2.tape,ko.output.trans h2.output,Nat.le_trans h2.size ko.size,fun b hb=>(ko.block b (zL hb h2.size) (fun hx=>by have:=(e2.own.lt b (Option.mem_toList.1 hx)).1;omega)).trans (h2.block b hb)⟩
   clear hown hgrow hat ko hat' HX SR RW
   go_wp2_with fail
   go_roundw
   case rel=>exact⟨k+1,by omega,by go_num,HN.out⟩
   case measure=>simp[intOf];omega
  ·have hke:k=(r.eg.filter a4L).length:=by omega
   have hi0':¬ ((k:Int)<((r.eg.filter a4L).length:Int)):=by omega
   have HF:Hid (WT w wr r col (r.eg.filter a4L).length u3):=⟨l,by rw[<- hke];exact hl,X,hb⟩;clear hl X hb
   go_wp2_with fail
   go_ret;exact⟨_,rfl,HF.out⟩
theorem a3M:∀ {l:List (Ent × Value)}{k:Nat}(hk:k<l.length){j:Nat}(_:j<6),(l.flatMap a1f)[k*6+j]?=(a1f l[k])[j]?
 |p :: l,0,hk,j,hj=>by
  have e:(p :: l).flatMap a1f=a1f p++l.flatMap a1f:=by simp
  rw[e,List.getElem?_append_left (by simp[a1f];omega)];simp
 |p :: l,k+1,hk,j,hj=>by
  have hk':k<l.length:=by simpa using hk
  have e:(p :: l).flatMap a1f=a1f p++l.flatMap a1f:=by simp
  have hl:(a1f p).length=6:=rfl;rw[e,List.getElem?_append_right (by rw[hl];omega),hl,show (k+1)*6+j-6=k*6+j by omega,a3M hk' hj];simp
theorem b8q(eb:Nat)(id:Int)(x:Ent)(a:Option Addr)(n c:Nat)(w:World)(hc:w.cell? ⟨eb,0,none⟩=some (.int .i64 id)):
  Calls Tryz.prog 209 #[.pointer (some ⟨eb,0,none⟩),a8k x (.slice a n c)] w fun e w'=>e=.returned (.bool (x.id==id))/\Below w.heap.size w w':=by
 have hX:Below w.heap.size w (w.alloc (.cells #[.int .i64 x.id,.int .i64 x.kind,.string x.a0k,.int .i64 x.a0c,.slice a n c,.int .i64 x.a0Z] 58)):=(zr _ _).alloc (zq _) _;have x0:(w.alloc (.cells #[.int .i64 x.id,.int .i64 x.kind,.string x.a0k,.int .i64 x.a0c,.slice a n c,.int .i64 x.a0Z] 58)).cell? ⟨w.heap.size,0,none⟩=some (.int .i64 x.id):=by simp
 have x1:=a0a hX hc;have HX:=a0b hX;clear hX hc;unfold a8k
 go_enter Tryz.func209,Tryz.ntmps209
 go_upto_region 1 with fail
 generalize w.alloc (.cells #[.int .i64 x.id,.int .i64 x.kind,.string x.a0k,.int .i64 x.a0c,.slice a n c,.int .i64 x.a0Z] 58)=X at *
 go_big_region
 go_wp2_with fail
 go_ret;exact⟨rfl,HX.out.drew⟩
theorem b1T(l:List (Ent × Value))(v:Value)(B eb:Nat)(id:Int)(w:World)(own:w.ownsRow B 58 6 v l.length (l.flatMap a1f))(hs:∀ p∈l,∃ a n c,p.2=.slice a n c)(hc:w.cell? ⟨eb,0,none⟩=some (.int .i64 id))(hl:l.length<=1000):
  Calls Tryz.prog 256 #[v,.func (.func 209) #[.pointer (some ⟨eb,0,none⟩)] #[]] w fun e w'=>e=.returned (.int .i64 (a3z (fun p:Ent × Value=>p.1.id==id) l 0))/\Below w.heap.size w w':=by
 obtain⟨a,cap,rfl⟩:=a0B own;have CC:=a0b hc;have HS:=a0b hs;have OWN:=a0b own;clear hc hs own
 go_enter Tryz.func256,Tryz.ntmps256
 go_wp2_with fail
 go_loopw [8] (fun i wx=>∃ k:Nat,k<=l.length/\i=.int .i64 k/\a3z (fun p:Ent × Value=>p.1.id==id) l 0=a3z (fun p:Ent × Value=>p.1.id==id) (l.drop k) k/\Below w.heap.size w wx) (fun i _=>l.length-(intOf i).toNat)
 case atStart=>exact⟨0,Nat.zero_le _,rfl,rfl,Below.refl _ _⟩
 case round =>
  obtain⟨k,hk,rfl,hu,hb⟩:=hrel;have HU:=a0b hu;have HB:=a0b hb
  by_cases hlt:k<l.length
  ·have hi:(k:Int)<(l.length:Int):=by omega
   obtain⟨H,cap',e1⟩:=Joins.ownsRow_form OWN.out (by omega);simp only[Value.slice.injEq,true_and] at e1;obtain⟨rfl,rfl⟩:=e1;have ownr:=a1g OWN.out hb;have a0:=(ownr.cellAt (k*6) (by omega)).trans (a3M hlt (j:=0) (by omega));have a1:=(ownr.cellAt (k*6+1) (by omega)).trans (a3M hlt (j:=1) (by omega));have a2:=(ownr.cellAt (k*6+2) (by omega)).trans (a3M hlt (j:=2) (by omega));have a3:=(ownr.cellAt (k*6+3) (by omega)).trans (a3M hlt (j:=3) (by omega));have a4:=(ownr.cellAt (k*6+4) (by omega)).trans (a3M hlt (j:=4) (by omega));have a5:=(ownr.cellAt (k*6+5) (by omega)).trans (a3M hlt (j:=5) (by omega));simp only[a1f,List.getElem?_cons_zero,List.getElem?_cons_succ] at a0 a1 a2 a3 a4 a5;obtain⟨sa,sn,sc,hsp⟩:=HS.out l[k] (zg hlt);rw[hsp] at a4;have D1:=a0b (b8q eb id l[k].1 sa sn sc wr (a0a hb CC.out));have ed:a3z (fun p:Ent × Value=>p.1.id==id) (l.drop k) k=if l[k].1.id==id then (k:Int) else a3z (fun p:Ent × Value=>p.1.id==id) (l.drop (k+1)) ((k+1:Nat):Int):=by rw[List.drop_eq_getElem_cons hlt];rfl
   have ED:=a0b ed;clear ed ownr hb hu hsp
   cases hq:(l[k].1.id==id)
   ·have HN:Hid (a3z (fun p:Ent × Value=>p.1.id==id) l 0=a3z (fun p:Ent × Value=>p.1.id==id) (l.drop (k+1)) ((k+1:Nat):Int)):=by show _=_;rw[HU.out,ED.out,hq];rfl
    rw[hq] at D1;clear hq;unfold a8k at D1
    go_wp2_with fail
    refine D1.out.mono ?_;rintro e w1 ⟨rfl,k1⟩;have HK:=a0b (a0j HB.out k1 (zq _));clear k1 a0 a1 a2 a3 a4 a5 D1
    go_wp2_with fail
    go_roundw
    case rel=>exact⟨k+1,by omega,by go_num,HN.out,HK.out⟩
    case measure=>simp[intOf];omega
   ·have HN:Hid (a3z (fun p:Ent × Value=>p.1.id==id) l 0=k):=by show _=_;rw[HU.out,ED.out,hq];rfl
    rw[hq] at D1;clear hq;unfold a8k at D1
    go_wp2_with fail
    refine D1.out.mono ?_;rintro e w1 ⟨rfl,k1⟩;have HK:=a0b (a0j HB.out k1 (zq _));clear k1 a0 a1 a2 a3 a4 a5 D1
    go_wp2_with fail
    go_ret;exact⟨a1L HN.out.symm,HK.out⟩
  ·have hke:k=l.length:=by omega
   have hi:¬ ((k:Int)<(l.length:Int)):=by omega
   have HN:Hid (a3z (fun p:Ent × Value=>p.1.id==id) l 0=-1):=by show _=_;rw[HU.out,hke,List.drop_length];rfl
   clear hu hb
   go_wp2_with fail
   go_ret;exact⟨a1L HN.out.symm,HB.out⟩
theorem a8q(l:List (Ent × Value))(v:Value)(B eb:Nat)(id:Int)(w:World)(own:w.ownsRow B 58 6 v l.length (l.flatMap a1f))(hs:∀ p∈l,∃ a n c,p.2=.slice a n c)(hc:w.cell? ⟨eb,0,none⟩=some (.int .i64 id))(hl:l.length<=1000):
  Calls Tryz.prog 208 #[v,.func (.func 209) #[.pointer (some ⟨eb,0,none⟩)] #[]] w fun e w'=>e=.returned (.bool (l.any (fun p:Ent × Value=>p.1.id==id)))/\Below w.heap.size w w':=by
 have HI:=a0b (b1T l v B eb id w own hs hc hl)
 have key:(decide ((0:Int)<=a3z (fun p:Ent × Value=>p.1.id==id) l 0))=l.any (fun p:Ent × Value=>p.1.id==id):=by
  rcases a7F (fun p:Ent × Value=>p.1.id==id) l 0 with ⟨h1,h2⟩|⟨k,h,h1,h2,_⟩
  ·rw[h1];have:l.any (fun p:Ent × Value=>p.1.id==id)=false:=List.any_eq_false.2 (fun x hx=>by rw[h2 x hx];simp);rw[this];rfl
  ·have:l.any (fun p:Ent × Value=>p.1.id==id)=true:=List.any_eq_true.2 ⟨_,List.getElem_mem h,h2⟩;rw[this,h1];exact decide_eq_true (by omega)
 have KEY:=a0b key;clear key own hs hc
 go_enter Tryz.func208,Tryz.ntmps208
 go_wp2_with fail
 refine HI.out.mono ?_;rintro e w1 ⟨rfl,k1⟩;have HK:=a0b k1;clear k1 HI;generalize a3z (fun p:Ent × Value=>p.1.id==id) l 0=z at *
 go_wp2_with fail
 go_ret;exact⟨by rw[KEY.out];rfl,HK.out⟩
structure c7f(w wx:World)(r:Rd.a0Y)(days:List Int)(k:Nat)(v:Value):Prop where
 own:wx.ownsRow w.heap.size 60 2 v k ((((days.take k).map (a4K r))).flatMap spV)
 bl:Below w.heap.size w wx
 ru:wx.heap[w.heap.size]?=some (a0u r)
 ne:v.ownBlock≠some w.heap.size
theorem c1E(r:Rd.a0Y)(hf:Rd.a6s r)(days:List Int)(hd:∀ d∈days,0<=d/\d<100000)(hl:days.length<=100)(v:Value)(B:Nat)(w:World)(own:w.ownsRow B 3 1 v days.length (days.map (Value.int .i64))):
  Calls Tryz.prog 148 #[a1S r,v] w fun e w'=>∃ v',e=.returned v'/\w'.ownsRow w.heap.size 60 2 v' days.length ((days.map (a4K r)).flatMap spV)/\Below w.heap.size w w':=by
 obtain⟨i0,hi0,hz0,hz1,hz2⟩:=info_parts b6Q;obtain⟨a,cap,rfl⟩:=a0B own;have hX:Below w.heap.size w (w.alloc (a0u r)):=(zr _ _).alloc (zq _) _;have hr:=a0p w (a0u r);have hs:(w.alloc (a0u r)).heap.size=w.heap.size+1:=by simp
 have HX:=a0b (And.intro hX (And.intro hr hs));have OW:=a0b own;have HD:=a0b (And.intro hd hf);clear own hX hr hd hf hs;unfold a1S
 go_enter Tryz.func148,Tryz.ntmps148
 go_upto_region 1 with fail
 change Code.wp _ _ _ _ (w.alloc (a0u r));generalize w.alloc (a0u r)=X at *
 go_wp2_with (first
  |(at_make;refine wpList_make_own _ rfl _ _ 56 rfl w.heap.size 60 i0 _ 2 Tryz.underlying56 hi0 hz0 hz1 .i64 .i64 (days.length:Int) days.length rfl rfl rfl (by rw[hz2];omega) (by unfold maxLen;omega) (by have:=HX.out.1.size;omega) ?_;intro w1 hown hgrow))
 have S0:Hid (c7f w w1 r days 0 (.slice (some ⟨X.heap.size,0,none⟩) 0 days.length)):=by
  obtain⟨x1,x2,x3⟩:=HX.out;refine⟨by simpa using hown,x1.grown hgrow x1.size (fun k e=>by cases e),(hgrow.block _ (by omega) (by simp)).trans x2,fun e=>?_⟩;have:X.heap.size=w.heap.size:=by simpa[Value.ownBlock] using e
  omega
 clear hown hgrow
 go_loopw [5,7,13] (fun vs _ vi wx=>∃ k:Nat,k<=days.length/\vi=.int .i64 k/\c7f w wx r days k vs) (fun _ _ vi _=>days.length-(intOf vi).toNat)
 case atStart=>exact⟨0,Nat.zero_le _,rfl,S0.out⟩
 case round =>
  obtain⟨k,hk,rfl,S⟩:=hrel
  by_cases hlt:k<days.length
  ·have hi0':(k:Int)<(days.length:Int):=by omega
   have row:=a1g OW.out S.bl;obtain⟨Hh,cap',e1⟩:=Joins.ownsRow_form row (by omega);simp only[Value.slice.injEq,true_and] at e1;obtain⟨rfl,rfl⟩:=e1;have a0:=row.cellAt k (by omega);rw[List.getElem?_map,List.getElem?_eq_getElem hlt,Option.map_some] at a0;have SO:=a0b (b0u r HD.out.2 days[k] (HD.out.1 _ (zg hlt)).1 (HD.out.1 _ (zg hlt)).2 wr);have x0:=a7u S.ru;have x1:=a3R S.ru;have x2:=a7t S.ru;have x3:=a7s S.ru;have x4:=a7r S.ru;have x5:=a7q S.ru;have x6:=a7p S.ru;have x7:=a7o S.ru;have x8:=a7n S.ru;have x9:=a4m S.ru;have x10:=a6E S.ru;have x11:=a6D S.ru;have x12:=a6C S.ru;have x13:=a6B S.ru;have HS:=a0b S;unfold a1S at SO;clear S row
   go_wp2_with fail
   refine SO.out.mono ?_;rintro e w2 ⟨rfl,hb2⟩;have RW:=a0b (a1g HS.out.own hb2);have HB:=a0b hb2;have hsz:w.heap.size<=w2.heap.size:=Nat.le_trans HS.out.bl.size hb2.size;clear hb2 SO a0 x0 x1 x2 x3 x4 x5 x6 x7 x8 x9 x10 x11 x12 x13
   go_wp2_with (first
    |(at_builtin;refine wpList_append_lies _ rfl _ _ 56 rfl w.heap.size 60 i0 _ 2 16 Tryz.underlying56 hi0 hz0 hz1 hz2 rfl (by decide) _ _ _ rfl (RW.out.alloc _) ⟨w2.heap.size,0,none⟩ 1 1 (spV (a4K r days[k])) rfl rfl (World.news_of_block (cs:=(spV (a4K r days[k])).toArray) (a0p w2 _)) (by simp[spV,Value.oneCell']) (by omega) (by unfold maxLen;omega) (by omega) (by simp;omega) (w2.heap.size+1) (by simp) ?_;intro g2 cap2 w3 hown hgrow hat hlt2))
   have ko:Off u5.ownBlock.toList w2 w3:=Off.grown ((Off.refl _ w2).alloc _) hgrow (fun k hk=>.inl (Option.mem_toList.2 hk));have hat':u5.ownBlock=some g2\/g2=w2.heap.size+1:=hat
   have HN:Hid (c7f w w3 r days (k+1) (.slice (some ⟨g2,0,none⟩) (k+1) cap2)):=by
    have S:=HS.out;have h2:Below w.heap.size w w2:=S.bl.trans (HB.out.mono S.bl.size)
    have hwl:w.heap.size<wr.heap.size:=by
     have:=a7u S.ru;exact World.block_lt_of_cell? _ _ this
    refine⟨?_,⟨ko.os.trans h2.os,ko.tape.trans h2.tape,ko.output.trans h2.output,Nat.le_trans h2.size ko.size,fun b hb=>(ko.block b (zL hb h2.size) (fun hx=>by have:=(S.own.lt b (Option.mem_toList.1 hx)).1;omega)).trans (h2.block b hb)⟩,?_,fun e=>?_⟩
    ·rw[List.take_succ_eq_append_getElem hlt,List.map_append,List.flatMap_append];have:([days[k]].map (a4K r)).flatMap spV=spV (a4K r days[k]):=by simp
     rw[this];exact hown
    ·exact ((ko.block _ (by have:=HB.out.size;omega) (fun hx=>S.ne (Option.mem_toList.1 hx))).trans (HB.out.block _ hwl)).trans S.ru
    ·have:g2=w.heap.size:=by simpa[Value.ownBlock] using e
     rcases hat' with e1|e1
     ·exact S.ne (by rw[e1,this])
     ·have:=HB.out.size;omega
   clear hown hgrow hat ko hat' HS RW HB
   go_wp2_with fail
   go_roundw
   case rel=>exact⟨k+1,by omega,by go_num,HN.out⟩
   case measure=>simp[intOf];omega
  ·have hke:k=days.length:=by omega
   have hi0':¬ ((k:Int)<(days.length:Int)):=by omega
   have HF:Hid (wr.ownsRow w.heap.size 60 2 u5 days.length ((days.map (a4K r)).flatMap spV)/\Below w.heap.size w wr):=by
    have o:=S.own;rw[hke,List.take_length] at o;exact⟨o,S.bl⟩
   clear S
   go_wp2_with fail
   go_ret;exact⟨_,rfl,HF.out⟩
theorem a9F{q:Rd.a0Y}(h:Desk.a0S s.ts name u≠0):Desk.a0g s (.series name u q)=(s,Desk.Rep.error (Desk.a0S s.ts name u)):=by
 have e:Desk.a2l s name u q=Desk.a0S s.ts name u:=by unfold Desk.a2l;rw[if_pos h]
 simp only[Desk.a0g];rw[e,if_pos h]
theorem a9E{q:Rd.a0Y}(hf:Rd.a6s q)(h:Desk.a0S s.ts name u=0)(h2:Rd.a0L q≠0):Desk.a0g s (.series name u q)=(s,Desk.Rep.error (Rd.a0L q)):=by
 have e1:=(Rd.a5K hf).1;have e:Desk.a2l s name u q=Rd.a0L q:=by unfold Desk.a2l;rw[if_neg (by omega),<- e1,if_pos h2]
 simp only[Desk.a0g];rw[e,if_pos h2]
theorem b5m{q:Rd.a0Y}(hf:Rd.a6s q)(h:Desk.a0S s.ts name u=0)(h2:Rd.a0L q=0):Desk.a0g s (.series name u q)=a1N s ⟨0,1,name,u,(a0U q).map (a4K q),0⟩:=by
 obtain⟨e1,e2⟩:=Rd.a5K hf;have e3:=(e2 (by rw[<- e1];exact h2)).1;have e4:(a0U q).map (a4K q)=Rd.a2M q (Rd.a0E q):=by unfold a0U;rw[if_pos h2,e3];rfl
 simp only[Desk.a0g];unfold Desk.a2l a1N;rw[if_neg (c:=Desk.a0S s.ts name u≠0) (by omega),<- e1,if_neg (c:=Rd.a0L q≠0) (by omega),e4]
 by_cases h3:s.given=60
 ·simp[h3]
 ·cases Desk.a1e s.ts s.es name u (Rd.a2M q (Rd.a0E q)) <;> simp[h3]
theorem b3B:∀ (i:Nat)(h:i<L.length),(L.flatMap spV)[i*2]?=some (.int .i64 L[i].1)/\(L.flatMap spV)[i*2+1]?=some (.int .i64 L[i].2):=by
 induction L with
 |nil=>intro i h;simp at h
 |cons a L ih =>
  intro i h
  cases i with
  |zero=>exact⟨rfl,rfl⟩
  |succ i =>
   obtain⟨h1,h2⟩:=ih i (by simpa using h);have e:(a :: L).flatMap spV=[.int .i64 a.1,.int .i64 a.2]++L.flatMap spV:=rfl;rw[e,show (i+1)*2=2+i*2 from by omega,show 2+i*2+1=2+(i*2+1) from by omega];constructor
   ·rw[List.getElem?_append_right (by simp)];simpa using h1
   ·rw[List.getElem?_append_right (by simp)];simpa using h2
theorem DSt.asksR(h:DSt w d s r col)(kb:Below w.heap.size w w3){B0:Nat}(hi:i<r.tg.length)(hname:r.tg[i].name=name)(row:w3.ownsRow B0 60 2 (.slice (some ⟨g,0,none⟩) n cap) n (L.flatMap spV))(hn:n=L.length)(hB0:B<=B0)(hB:w.heap.size<=B)(ok:a1H s.now ⟨0,1,name,u,L,0⟩):
  b4h (w3.alloc (.cells #[.int .i64 0,.int .i64 1,.pointer (some ⟨r.tg[i].tb,0,none⟩),.int .i64 u,.slice (some ⟨g,0,none⟩) n cap,.int .i64 0] 200)) B d s r col ⟨⟨0,1,name,u,L,0⟩,w3.heap.size,g,cap,r.tg[i].tb⟩ i:=by
 have kz:Below w3.heap.size w3 (w3.alloc (.cells #[.int .i64 0,.int .i64 1,.pointer (some ⟨r.tg[i].tb,0,none⟩),.int .i64 u,.slice (some ⟨g,0,none⟩) n cap,.int .i64 0] 200)):=(zr _ _).alloc (zq _) _;have d1:=h.dk.later kb;have eb:=a0p w3 (.cells #[.int .i64 0,.int .i64 1,.pointer (some ⟨r.tg[i].tb,0,none⟩),.int .i64 u,.slice (some ⟨g,0,none⟩) n cap,.int .i64 0] 200);have gl:=row.lt g rfl;have hs:(w3.alloc (.cells #[.int .i64 0,.int .i64 1,.pointer (some ⟨r.tg[i].tb,0,none⟩),.int .i64 u,.slice (some ⟨g,0,none⟩) n cap,.int .i64 0] 200)).heap.size=w3.heap.size+1:=by simp
 have row2:=a1g row kz;generalize w3.alloc (.cells #[.int .i64 0,.int .i64 1,.pointer (some ⟨r.tg[i].tb,0,none⟩),.int .i64 u,.slice (some ⟨g,0,none⟩) n cap,.int .i64 0] 200)=Z at *;refine⟨⟨d1.later kz,h.of,h.wl,h.hl,h.inv⟩,⟨⟨?_,?_,?_,?_,fun j hj=>?_,?_⟩,?_,?_,fun o=>frozen_of_row _ _ _ _ _ eb,⟨_,eb⟩⟩,d1.none (zq _),h.dk.none (by show w.heap.size<=g;omega),(by show B<=w3.heap.size;omega),(by show B<=g;omega),(by show w3.heap.size≠g;omega),(by omega),hi,hname,rfl,ok⟩
 ·show Z.cell? ⟨w3.heap.size,0,none⟩=_;simp only[World.cell?,eb];rfl
 ·show Z.cell? ⟨w3.heap.size,2,none⟩=_;simp only[World.cell?,eb];rfl
 ·show Z.cell? ⟨w3.heap.size,3,none⟩=_;simp only[World.cell?,eb];rfl
 ·show Z.cell? ⟨w3.heap.size,4,none⟩=some (.slice (some ⟨g,0,none⟩) L.length cap);rw[<- hn];simp only[World.cell?,eb];rfl
 ·have hj':j<L.length:=hj;obtain⟨f1,f2⟩:=b3B j hj';have c0:=row2.cellAt (j*2) (by omega);have c1:=row2.cellAt (j*2+1) (by omega);exact⟨c0.trans f1,c1.trans f2⟩
 ·show g<_;omega
 ·show Z.cell? ⟨w3.heap.size,1,none⟩=_;simp only[World.cell?,eb];rfl
 ·show Z.cell? ⟨w3.heap.size,5,none⟩=_;simp only[World.cell?,eb];rfl
theorem b9z(w:World)(name:ByteArray)(u:Int)(q:Rd.a0Y):let X:=((w.alloc (.cells #[.string name,.int .i64 u,.int .i64 q.pc,.int .i64 q.ev,.bool (isd q.acc 0),.bool (isd q.acc 1),.bool (isd q.acc 2),.bool (isd q.acc 3),.bool (isd q.acc 4),.bool (isd q.acc 5),.bool (isd q.acc 6),.int .i64 q.fr,.int .i64 q.mn,.int .i64 q.mi,.int .i64 q.ti,.int .i64 q.un] 165)).alloc a0f);Below w.heap.size w X/\X.heap[w.heap.size+1]?=some a0f/\X.heap.size=w.heap.size+2/\X.heap[w.heap.size]?=some (.cells #[.string name,.int .i64 u,.int .i64 q.pc,.int .i64 q.ev,.bool (isd q.acc 0),.bool (isd q.acc 1),.bool (isd q.acc 2),.bool (isd q.acc 3),.bool (isd q.acc 4),.bool (isd q.acc 5),.bool (isd q.acc 6),.int .i64 q.fr,.int .i64 q.mn,.int .i64 q.mi,.int .i64 q.ti,.int .i64 q.un] 165 (0,0)):=by
 obtain⟨h1,h2⟩:=a2q (w:=w) (.cells #[.string name,.int .i64 u,.int .i64 q.pc,.int .i64 q.ev,.bool (isd q.acc 0),.bool (isd q.acc 1),.bool (isd q.acc 2),.bool (isd q.acc 3),.bool (isd q.acc 4),.bool (isd q.acc 5),.bool (isd q.acc 6),.int .i64 q.fr,.int .i64 q.mn,.int .i64 q.mi,.int .i64 q.ti,.int .i64 q.un] 165);exact⟨h1,h2,by simp,(Below.heap_alloc _ _ _ (by simp)).trans (a0p w _)⟩
theorem c3m(args:Array Value)(w:World):(callFunc 148 args).run Tryz.prog w=.ok (.enter 148 args) w:=by kernel_rfl
theorem c3n(args:Array Value)(w:World):(callFunc 144 args).run Tryz.prog w=.ok (.enter 144 args) w:=by kernel_rfl
theorem b7T(h:DSt w d s r col)(ht:Tab w)(h10:10<=w.heap.size)(name:ByteArray)(hn:name.size<=1000)(u:Int)(q:Rd.a0Y)(hl:Desk.a1O (.series name u q)):
  Calls Tryz.prog 95 #[.pointer (some ⟨d,0,none⟩),.agg #[.string name,.int .i64 u,.int .i64 q.pc,.int .i64 q.ev,.bool (isd q.acc 0),.bool (isd q.acc 1),.bool (isd q.acc 2),.bool (isd q.acc 3),.bool (isd q.acc 4),.bool (isd q.acc 5),.bool (isd q.acc 6),.int .i64 q.fr,.int .i64 q.mn,.int .i64 q.mi,.int .i64 q.ti,.int .i64 q.un]] w fun e w'=>∃ v,e=.returned v/\a0l w d col (Desk.a0g s (.series name u q)) v w':=by
 obtain⟨hX,hXQ,hsz,hXb⟩:=b9z w name u q;obtain⟨hu1,hu9,hf⟩:=hl;have HV:=a0b (b0O (h.dk.later hX) h.of h.mid name hn u);have DY:=a0b (b7z q hf ((w.alloc (.cells #[.string name,.int .i64 u,.int .i64 q.pc,.int .i64 q.ev,.bool (isd q.acc 0),.bool (isd q.acc 1),.bool (isd q.acc 2),.bool (isd q.acc 3),.bool (isd q.acc 4),.bool (isd q.acc 5),.bool (isd q.acc 6),.int .i64 q.fr,.int .i64 q.mn,.int .i64 q.mi,.int .i64 q.ti,.int .i64 q.un] 165)).alloc a0f) (a3c ht hX h10) (by rw[hsz];omega));have HH:=a0b h;have HX:=a0b (And.intro hX (And.intro hXQ hsz));have HA:=a0b (a9F (s:=s) (name:=name) (u:=u) (q:=q));have HE:=a0b (a9E (s:=s) (name:=name) (u:=u) hf);have HO:=a0b (b5m (s:=s) (name:=name) (u:=u) hf);have HFI:=a0b hf;have x0:=d0h hXb 0 rfl;have x1:=d0h hXb 1 rfl;have x2:=d0h hXb 2 rfl;have x3:=d0h hXb 3 rfl;have x4:=d0h hXb 4 rfl;have x5:=d0h hXb 5 rfl;have x6:=d0h hXb 6 rfl;have x7:=d0h hXb 7 rfl;have x8:=d0h hXb 8 rfl;have x9:=d0h hXb 9 rfl;have x10:=d0h hXb 10 rfl;have x11:=d0h hXb 11 rfl;have x12:=d0h hXb 12 rfl;have x13:=d0h hXb 13 rfl;have x14:=d0h hXb 14 rfl;have x15:=d0h hXb 15 rfl;unfold a1S at DY;clear h hX hXQ hsz hXb hf ht
 go_enter Tryz.func95,Tryz.ntmps95
 go_upto_region 1 with fail
 change Code.wp _ _ _ _ ((w.alloc (.cells #[.string name,.int .i64 u,.int .i64 q.pc,.int .i64 q.ev,.bool (isd q.acc 0),.bool (isd q.acc 1),.bool (isd q.acc 2),.bool (isd q.acc 3),.bool (isd q.acc 4),.bool (isd q.acc 5),.bool (isd q.acc 6),.int .i64 q.fr,.int .i64 q.mn,.int .i64 q.mi,.int .i64 q.ti,.int .i64 q.un] 165)).alloc a0f);generalize ((w.alloc (.cells #[.string name,.int .i64 u,.int .i64 q.pc,.int .i64 q.ev,.bool (isd q.acc 0),.bool (isd q.acc 1),.bool (isd q.acc 2),.bool (isd q.acc 3),.bool (isd q.acc 4),.bool (isd q.acc 5),.bool (isd q.acc 6),.int .i64 q.fr,.int .i64 q.mn,.int .i64 q.mi,.int .i64 q.ti,.int .i64 q.un] 165)).alloc a0f)=X at *;have BX:Hid (Below w.heap.size w X):=HX.out.1;have QX:Hid (Q7 X (w.heap.size+1)):=Q7.of HX.out.2.1
 go_wp2_with fail
 refine HV.out.mono ?_;rintro e w1 ⟨hp,rfl⟩;rcases hp with ⟨h1,rfl⟩|⟨h1,i,hi,e1,e2,rfl⟩
 ·have HD:=a0b (HA.out h1);generalize Desk.a0S s.ts name u=er at *;have hb1:(er != 0)=true:=by simpa using h1
  clear h1 HV HX DY HE HO HA x0 x1 x2 x3 x4 x5 x6 x7 x8 x9 x10 x11 x12 x13 x14 x15
  go_wp2_with fail
  refine (a0D er w1).mono ?_;rintro e w9 ⟨rfl,hb9⟩;have HF:=a0b (HH.out.refuse BX.out QX.out hb9 HD.out);obtain⟨q0,q1,q2,q3,q4,q5,q6,fq⟩:=HF.out.1;simp only[a0s]
  go_wp2_with fail
  exact d0O Tryz.results95 ⟨q0,q1,q2,q3,q4,q5,q6,fq⟩ ⟨_,rfl,HF.out.2⟩
 ·go_wp2_with fail
  refine DY.out.mono ?_;rintro e w2 ⟨da,rfl,own,hb2⟩;have BX2:Hid (Below w.heap.size w w2):=BX.out.trans (hb2.mono BX.out.size);have QX2:Hid (Q7 w2 (w.heap.size+1)):=QX.out.later (hb2.block _ (World.block_lt_of_cell? _ _ QX.out.q0));obtain⟨a1,cap1,rfl⟩:=b1C own
  by_cases he:Rd.a0L q=0
  ·have HD:=a0b (HO.out h1 he);have hb1:(Rd.a0L q != 0)=false:=by simpa using he
   obtain⟨es1,es2⟩:=Rd.a5K HFI.out;have edn:=es2 (by rw[<- es1];exact he);have edd:a0U q=Rd.a0E q:=by unfold a0U;rw[if_pos he,edn.1]
   have OK:Hid (a1H s.now ⟨0,1,name,u,(a0U q).map (a4K q),0⟩):=by
    obtain⟨p1,p2,p3,p4⟩:=Desk.Rd.spans_ok HFI.out (by rw[<- es1];exact he);have e4:(a0U q).map (a4K q)=Rd.a2M q (Rd.a0E q):=by rw[edd];rfl
    show a1H _ _;rw[e4];exact⟨hu1,hu9,p4,p3,p1,p2,.inl ⟨rfl,rfl⟩⟩
   have hpos:0<(a0U q).length:=List.length_pos_iff.2 (by rw[edd];exact edn.2.1);have h40:(a0U q).length<=40:=by rw[edd];exact edn.2.2.1
   have SP:=a0b (c1E q HFI.out (a0U q) (fun d hd=>by rw[edd] at hd;have:=Rd.a4x HFI.out hd;have:=HFI.out.f0;omega) (by omega) (.slice a1 (a0U q).length cap1) w1.heap.size w2.drew (b9R own));have hsz2:w.heap.size+2<=w2.drew.heap.size:=by have:=hb2.size;have:=HX.out.2.2;show w.heap.size+2<=w2.heap.size;omega
   have AS:=a0b (fun (w3:World) (g cap:Nat) (hb3:Below w2.drew.heap.size w2.drew w3) (row:w3.ownsRow w2.drew.heap.size 60 2 (.slice (some ⟨g,0,none⟩) (a0U q).length cap) (a0U q).length (((a0U q).map (a4K q)).flatMap spV)) =>
    a9B (HH.out.asksR (BX2.out.drew.trans (hb3.mono BX2.out.size)) (B:=w.heap.size+2) hi e1 row (by simp) hsz2 (by omega) OK.out))
   have AP:=a0b (fun (w3 w4:World) (g cap:Nat) (v:Value) (hb3:Below w2.drew.heap.size w2.drew w3) (ep:a1n (w3.alloc (.cells #[.int .i64 0,.int .i64 1,.pointer (some ⟨r.tg[i].tb,0,none⟩),.int .i64 u,.slice (some ⟨g,0,none⟩) (a0U q).length cap,.int .i64 0] 200)) (w.heap.size+2) d col (a1N s ⟨0,1,name,u,(a0U q).map (a4K q),0⟩) v w4) =>
    ep.ans (w:=w) (Q:=w.heap.size+1) (Step.below ((BX2.out.drew.trans (hb3.mono BX2.out.size)).trans (((zr w3.heap.size w3).alloc (zq _) _).mono (BX2.out.drew.trans (hb3.mono BX2.out.size)).size))) (by omega) (by omega) (by omega) (HH.out.dk.none (by omega)) ((QX2.out.later (w':=w2.drew) rfl).later (((Below.heap_alloc w3 _ _ (zL (World.block_lt_of_cell? _ _ QX2.out.q0) hb3.size))).trans (hb3.block _ (World.block_lt_of_cell? _ _ QX2.out.q0)))))
   have y1:=a0a hb2 x1;have y2:=a0a hb2 x2;have y3:=a0a hb2 x3;have y4:=a0a hb2 x4;have y5:=a0a hb2 x5;have y6:=a0a hb2 x6;have y7:=a0a hb2 x7;have y8:=a0a hb2 x8;have y9:=a0a hb2 x9;have y10:=a0a hb2 x10;have y11:=a0a hb2 x11;have y12:=a0a hb2 x12;have y13:=a0a hb2 x13;have y14:=a0a hb2 x14;have y15:=a0a hb2 x15;unfold a1S at SP;clear HV DY HE HO HA HX own hb2 edn edd es1 es2 OK h1 x0 x1 x2 x3 x4 x5 x6 x7 x8 x9 x10 x11 x12 x13 x14 x15 BX QX;generalize Rd.a0L q=er at *;subst he
   go_upto_region 7 with fail
   go_region_law (first
    |(refine a2k (by rfl) 148 _ _ (by rfl) _ (by simp[Act.eval]) (c3m _ _) SP.out ?_;rintro e w3 ⟨v',rfl,row,hb3⟩;refine⟨_,rfl,?_⟩;obtain⟨g,cap,rfl⟩:=Joins.ownsRow_form row hpos;have z1:=a0a hb3 y1;have EN:=a0b (AS.out w3 g cap hb3 row);have AQ:=a0b (fun w4 v ep=>AP.out w3 w4 g cap v hb3 ep);clear SP AS AP row)
    |(refine a2k (by rfl) 144 _ _ (by rfl) _ (by simp[Act.eval]) (c3n _ _) EN.out ?_;rintro e w4 ⟨v,rfl,ep⟩;refine⟨_,rfl,?_⟩;obtain⟨er,nn,rfl,q7,hf⟩:=AQ.out w4 v ep;have HF:Hid (a0l w d col (Desk.a0g s (.series name u q)) (a0s er 0 nn (.slice none 0 0) (.slice none 0 0) (.slice none 0 0) (.slice none 0 0)) (a2w w4 (w.heap.size+1) (.int .i64 er) (.int .i64 0) (.int .i64 nn) (.slice none 0 0) (.slice none 0 0) (.slice none 0 0) (.slice none 0 0))):=(by rw[HD.out];exact hf _ _ _ _ _ _ _);obtain⟨q0,q1,q2,q3,q4,q5,q6,fq⟩:=q7;clear ep hf EN AQ;simp only[a0s]))
   all_goals
    go_wp2_with fail
    exact d0O Tryz.results95 ⟨q0,q1,q2,q3,q4,q5,q6,fq⟩ ⟨_,rfl,HF.out⟩
  ·have HD:=a0b (HE.out h1 he);generalize Rd.a0L q=er at *;have hb1:(er != 0)=true:=by simpa using he
   clear h1 HV HX DY HE HO HA x0 x1 x2 x3 x4 x5 x6 x7 x8 x9 x10 x11 x12 x13 x14 x15 own hb2 he
   go_wp2_with fail
   refine (a0D er w2).mono ?_;rintro e w9 ⟨rfl,hb9⟩;have HF:=a0b (HH.out.refuse BX2.out QX2.out hb9 HD.out);obtain⟨q0,q1,q2,q3,q4,q5,q6,fq⟩:=HF.out.1;simp only[a0s]
   go_wp2_with fail
   exact d0O Tryz.results95 ⟨q0,q1,q2,q3,q4,q5,q6,fq⟩ ⟨_,rfl,HF.out.2⟩
theorem b2l(h:DSt w d s rw_ col)(ht:Tab w)(h10:10<=w.heap.size)(name:ByteArray)(hn:name.size<=1000)(u:Int)(r:Rd.a0Y)(hl:Desk.a1O (.series name u r)):
  Calls Tryz.prog 64 #[.pointer (some ⟨d,0,none⟩),.iface 165 (.agg #[.string name,.int .i64 u,.int .i64 r.pc,.int .i64 r.ev,.bool (isd r.acc 0),.bool (isd r.acc 1),.bool (isd r.acc 2),.bool (isd r.acc 3),.bool (isd r.acc 4),.bool (isd r.acc 5),.bool (isd r.acc 6),.int .i64 r.fr,.int .i64 r.mn,.int .i64 r.mi,.int .i64 r.ti,.int .i64 r.un])] w fun e w'=>∃ v,e=.returned v/\a0l w d col (Desk.a0g s (.series name u r)) v w':=by
 have HX:=a0b (h.kit (.cells #[.string name,.int .i64 u,.int .i64 r.pc,.int .i64 r.ev,.bool (isd r.acc 0),.bool (isd r.acc 1),.bool (isd r.acc 2),.bool (isd r.acc 3),.bool (isd r.acc 4),.bool (isd r.acc 5),.bool (isd r.acc 6),.int .i64 r.fr,.int .i64 r.mn,.int .i64 r.mi,.int .i64 r.ti,.int .i64 r.un] 165));have EF:=a0b (b7T HX.out.1 (a3c ht HX.out.2.1 h10) (Nat.le_trans h10 HX.out.2.1.size) name hn u r hl);clear h;unfold a0f at EF HX;have noThing:=d0q 165 (by decide);have noBook:=d2o 165 (by decide);have noHold:=d2F 165 (by decide);have noWait:=d3H 165 (by decide);have yesSeries:=e9l Tryz.underlying165
 go_enter Tryz.func64,Tryz.ntmps64
 go_wp2_with fail
 refine EF.out.mono ?_;rintro e w2 ⟨v,rfl,ep⟩;obtain⟨er,at_,nn,a1,a2,a3,a4,n1,n2,n3,n4,c1,c2,c3,c4,rfl,q7,hf⟩:=ep.upA HX.out.2;have HF:=a0b hf;clear ep hf EF noThing noBook noHold noWait yesSeries;obtain⟨q0,q1,q2,q3,q4,q5,q6,fq⟩:=q7;simp only[a0s]
 go_wp2_with fail
 exact d0O Tryz.results64 ⟨q0,q1,q2,q3,q4,q5,q6,fq⟩ ⟨_,rfl,HF.out⟩
theorem DSt.ansEntries{Z:World}(h:DSt w d s r col)(k:Below w.heap.size w Z)(hQ:w.heap.size<=Q){en:Value}(er:a3j Z (Q+1) col en l)(a b c e f g i:Value):
  a0l w d col (s,⟨0,0,0,l.map (·.1),[],[],[]⟩) (a0s 0 0 0 en (.slice none 0 0) (.slice none 0 0) (.slice none 0 0)) (a2w Z Q a b c e f g i):=by
 have ko:=a2R Z Q a b c e f g i;have dz:=h.dk.later k;have nq:∀ b,Q<=b->col b=none:=fun b hb=>h.dk.none (by omega)
 have st:Step anyS w.heap.size col col Z (a2w Z Q a b c e f g i):=⟨⟨_,ko,fun x hx=>.inr (by have:x=Q:=List.mem_singleton.1 hx;subst this;exact⟨nq _ (zq _),hQ⟩)⟩,fun _ _ h=>h,fun _ _ h=>.inl h⟩
 have rp:a5m Z (Q+1) col (a0s 0 0 0 en (.slice none 0 0) (.slice none 0 0) (.slice none 0 0)) ⟨0,0,0,l.map (·.1),[],[],[]⟩ :=
  ⟨_,_,_,_,l,rfl,rfl,er,a2I.nil _ _ _,a2I.nil _ _ _,a2I.nil _ _ _,(fun b hb=>by cases hb),fun b hb=>by cases hb⟩
 exact⟨r,col,dz.off ko (fun x hx=>by have:x=Q:=List.mem_singleton.1 hx;subst this;exact nq _ (zq _)),h.of,h.wl,h.hl,(Step.below k).trans st,(rp.off ko (fun x hx=>by have:x=Q:=List.mem_singleton.1 hx;omega)).base (by omega)⟩
theorem b8Y(h:Of s r):(r.eg.filter a4L).map (·.e)=s.es.filter fun e=>e.kind==3:=by
 rw[<- h.es,List.filter_map];rfl
theorem b0k(h:DSt w d s rw_ col):
  Calls Tryz.prog 64 #[.pointer (some ⟨d,0,none⟩),.iface 173 (.agg #[])] w fun e w'=>∃ v,e=.returned v/\a0l w d col (Desk.a0g s .waiting) v w':=by
 have hX:Below w.heap.size w ((w.alloc (.cells #[.int .i64 0,.int .i64 0,.int .i64 0,.slice none 0 0,.slice none 0 0,.slice none 0 0,.slice none 0 0] 40)).alloc (.cells #[] 173)):=((zr _ _).alloc (zq _) _).alloc (by simp) _;have hq:((w.alloc (.cells #[.int .i64 0,.int .i64 0,.int .i64 0,.slice none 0 0,.slice none 0 0,.slice none 0 0,.slice none 0 0] 40)).alloc (.cells #[] 173)).heap[w.heap.size]?=some a0f:=(Below.heap_alloc _ _ _ (by simp)).trans (a0p w a0f);have hs:((w.alloc (.cells #[.int .i64 0,.int .i64 0,.int .i64 0,.slice none 0 0,.slice none 0 0,.slice none 0 0,.slice none 0 0] 40)).alloc (.cells #[] 173)).heap.size=w.heap.size+2:=by simp
 have TW:=a0b (a8L (w:=((w.alloc (.cells #[.int .i64 0,.int .i64 0,.int .i64 0,.slice none 0 0,.slice none 0 0,.slice none 0 0,.slice none 0 0] 40)).alloc (.cells #[] 173))) (s:=s) ⟨h.dk.later hX,h.of,h.wl,h.hl,h.inv⟩);have HX:=a0b (And.intro hX (And.intro (Q7.of hq) hs))
 have HD:Hid (Desk.a0g s .waiting=(s,⟨0,0,0,(rw_.eg.filter a4L).map (·.e),[],[],[]⟩)):=by show _=_;rw[b8Y h.of];rfl
 clear hX hq hs;have HH:=a0b h;clear h;have noThing:=d0q 173 (by decide);have noBook:=d2o 173 (by decide);have noHold:=d2F 173 (by decide);have noWait:=d3H 173 (by decide);have noSeries:=d0K 173 (by decide);have noConfirm:=d0y 173 (by decide);have noCancel:=d1Q 173 (by decide);have noList:=d8g 173 (by decide);have yesWaiting:=e9l Tryz.underlying173
 go_enter Tryz.func64,Tryz.ntmps64
 go_wp2_with fail
 refine TW.out.mono ?_;rintro e w2 ⟨v,rfl,l,hl,er,hb⟩;obtain⟨a1,c1,rfl⟩:=a0B er.own;have q7:=HX.out.2.1.later (hb.block w.heap.size (by rw[HX.out.2.2];omega))
 have HF:Hid (∀ a b c e f g i,a0l w d col (Desk.a0g s .waiting) (a0s 0 0 0 (.slice a1 l.length c1) (.slice none 0 0) (.slice none 0 0) (.slice none 0 0)) (a2w w2 w.heap.size a b c e f g i)):=fun a b c e f g i=>by
  have e1:l.map (·.1)=(rw_.eg.filter a4L).map (·.e):=by rw[hl,List.take_length]
  rw[HD.out,<- e1];exact HH.out.ansEntries (HX.out.1.trans (hb.mono HX.out.1.size)) (zq _) (er.base (by rw[HX.out.2.2];omega)) a b c e f g i
 clear TW er hl hb noThing noBook noHold noWait noSeries noConfirm noCancel noList yesWaiting;obtain⟨q0,q1,q2,q3,q4,q5,q6,fq⟩:=q7
 go_wp2_with fail
 exact d0O Tryz.results64 ⟨q0,q1,q2,q3,q4,q5,q6,fq⟩ ⟨_,rfl,HF.out _ _ _ _ _ _ _⟩
theorem b3W(h:DSt w d s rw_ col):
  Calls Tryz.prog 64 #[.pointer (some ⟨d,0,none⟩),.iface 183 (.agg #[])] w fun e w'=>∃ v,e=.returned v/\a0l w d col (Desk.a0g s .clock) v w':=by
 have hX:Below w.heap.size w ((w.alloc (.cells #[.int .i64 0,.int .i64 0,.int .i64 0,.slice none 0 0,.slice none 0 0,.slice none 0 0,.slice none 0 0] 40)).alloc (.cells #[] 183)):=((zr _ _).alloc (zq _) _).alloc (by simp) _;have hq:((w.alloc (.cells #[.int .i64 0,.int .i64 0,.int .i64 0,.slice none 0 0,.slice none 0 0,.slice none 0 0,.slice none 0 0] 40)).alloc (.cells #[] 183)).heap[w.heap.size]?=some a0f:=(Below.heap_alloc _ _ _ (by simp)).trans (a0p w a0f);have xn:=(h.dk.later hX).c0;rw[h.of.now] at xn;have HX:=a0b hX;have HH:=a0b h;have q7:=Q7.of hq;have HD:Hid (Desk.a0g s .clock=(s,⟨0,0,s.now,[],[],[],[]⟩)):=rfl;clear hX hq h;have noThing:=d0q 183 (by decide);have noBook:=d2o 183 (by decide);have noHold:=d2F 183 (by decide);have noWait:=d3H 183 (by decide);have noSeries:=d0K 183 (by decide);have noConfirm:=d0y 183 (by decide);have noCancel:=d1Q 183 (by decide);have noList:=d8g 183 (by decide);have noWaiting:=d2E 183 (by decide);have noPeak:=e3J 183 (by decide);have noFind:=e7l 183 (by decide);have noExpand:=e3K 183 (by decide);have noTick:=f3K 183 (by decide);have yesClock:=e9l Tryz.underlying183
 go_enter Tryz.func64,Tryz.ntmps64
 go_upto_region 43 with fail
 change Code.wp _ _ _ _ ((w.alloc (.cells #[.int .i64 0,.int .i64 0,.int .i64 0,.slice none 0 0,.slice none 0 0,.slice none 0 0,.slice none 0 0] 40)).alloc (.cells #[] 183));generalize ((w.alloc (.cells #[.int .i64 0,.int .i64 0,.int .i64 0,.slice none 0 0,.slice none 0 0,.slice none 0 0,.slice none 0 0] 40)).alloc (.cells #[] 183))=X at *
 have HF:Hid (∀ a b c e f g i,a0l w d col (Desk.a0g s .clock) (a0s 0 0 s.now (.slice none 0 0) (.slice none 0 0) (.slice none 0 0) (.slice none 0 0)) (a2w X w.heap.size a b c e f g i)):=fun a b c e f g i=>by
  rw[HD.out];exact HH.out.said HX.out (zq _) 0 s.now a b c e f g i
 clear noThing noBook noHold noWait noSeries noConfirm noCancel noList noWaiting noPeak noFind noExpand noTick yesClock;obtain⟨q0,q1,q2,q3,q4,q5,q6,fq⟩:=q7
 go_wp2_with fail
 exact d0O Tryz.results64 ⟨q0,q1,q2,q3,q4,q5,q6,fq⟩ ⟨_,rfl,HF.out _ _ _ _ _ _ _⟩
open Go.RowKit Go.Shelf
attribute [local go_sem] Oper.semAt_some
theorem b2Q{F:Fence}(hd:F.depth=none)(k:Nat):F.room k:=fun d h=>by rw[hd] at h;cases h
theorem RoundIn.anyDepth{F:Fence}(hd:F.depth=none){m':Nat}{P:Program}{l:Nat}{f:FuncId}{tmps:Array Value}{assign body:Code}{R:Ending->World->Prop}
  (h:RoundIn F m P l f tmps assign body w R):RoundIn F m' P l f tmps assign body w R:=⟨h.1,fun c cs _=>h.2 c cs (b2Q hd _)⟩
theorem YieldAt.anyDepth{F:Fence}(hd:F.depth=none)(m':Nat){P:Program}{l:Nat}{args:Array Value}{R:Ending->World->Prop}(h:YieldAt F m P l args W R):YieldAt F m' P l args W R:=by
 obtain⟨fn,tmps,assign,body,hy,hR⟩:=h;exact⟨fn,tmps,assign,body,hy,RoundIn.anyDepth hd hR⟩
theorem a2G.belowN{x:Avl.It}(h:a2G w b x)(k:Below n₀ w w')(hb:b<n₀):a2G w' b x :=
 ⟨(k.cell (p:=⟨b,0,none⟩) hb).trans h.c0,(k.cell (p:=⟨b,1,none⟩) hb).trans h.c1,(k.cell (p:=⟨b,2,none⟩) hb).trans h.c2,(k.cell (p:=⟨b,3,none⟩) hb).trans h.c3,h.c4.imp (fun _=>(k.cell (p:=⟨b,4,none⟩) hb).trans),h.c5.imp (fun _=>(k.cell (p:=⟨b,5,none⟩) hb).trans),h.c6.imp (fun _=>(k.cell (p:=⟨b,6,none⟩) hb).trans),h.c7.imp (fun _=>(k.cell (p:=⟨b,7,none⟩) hb).trans),fun o=>(k.frozen (p:=⟨b,o,none⟩) hb).trans (h.fz o)⟩
theorem a2p.belowN{n₀:Nat}{w w':World}(k:Below n₀ w w'):∀ {t:Avl.S}{p:Value}{F:List Nat},a2p w t p F->(∀ i∈F,i<n₀)->a2p w' t p F
 |.nil,p,F,hr,_=>hr
 |.node a l r,p,F,hr,hd=>by
  obtain⟨b,pl,pr,Fl,Fr,rfl,n,c4,c5,c6,c7,hl,hr,rfl,nd⟩:=hr;have hb:b<n₀:=hd b (by simp);exact⟨b,pl,pr,Fl,Fr,rfl,n.belowN k hb,(k.cell (p:=⟨b,4,none⟩) hb).trans c4,(k.cell (p:=⟨b,5,none⟩) hb).trans c5,(k.cell (p:=⟨b,6,none⟩) hb).trans c6,(k.cell (p:=⟨b,7,none⟩) hb).trans c7,a2p.belowN k hl (fun i hi=>hd i (by simp[hi])),a2p.belowN k hr (fun i hi=>hd i (by simp[hi])),rfl,nd⟩
theorem b8b(F:Fence)(hd:F.depth=none)(h6:F.fn 255)(hro:F.round=none)(l n₀ N:Nat)(a b:Int){Q:Avl.It->Prop}(J Jx:List {x:Avl.It // Q x}->World->Prop)
  (hY:∀ m pre x W,J pre W->pre.length<N->YieldAt F m Tryz.prog l #[.pointer (some ⟨x.1.v,0,none⟩)] W fun e W' =>
   (e=.returned (.bool true)/\J (pre++[x]) W'/\Below n₀ W W')\/(e=.returned (.bool false)/\Jx (pre++[x]) W')) (t:Avl.S):
  ∀ (n:Nat) (p:Option Addr) (G:List Nat) (pre ys:List {x:Avl.It // Q x}) (W:World),a2p W t (.pointer p) G->(∀ i∈G,i<n₀)->ys.map (·.1)=Avl.meet a b t->J pre W->pre.length+ys.length<=N ->
   CallsIn F n Tryz.prog 255 #[.pointer p,.int .i64 a,.int .i64 b,.func (.yield l) #[] #[]] W fun e W' =>
    (e=.returned (.bool true)/\J (pre++ys) W'/\Below n₀ W W')\/(e=.returned (.bool false)/\∃ q,q <+: ys/\Jx (pre++q) W'):=by
 induction t with
 |nil =>
  intro n p G pre ys W ht _ hys hJ _;obtain⟨hp,_⟩:=ht
  cases hp
  obtain rfl:ys=[]:=List.map_eq_nil_iff.1 (hys.trans rfl);refine callsIn_of_wp Tryz.func255 rfl h6 ?_ hro;simp only[Tryz.ntmps255,List.size_toArray,List.length_cons,List.length_nil,Nat.reduceAdd,Nat.reduceSub,Array.replicate_succ,Array.replicate_zero,List.push_toArray,List.append_toArray,List.nil_append,List.cons_append]
  gi_wp2
  go_ret;exact .inl ⟨rfl,by simpa using hJ,Below.refl _ _⟩
 |node x tl tr ihl ihr =>
  intro n p G pre ys W ht hG hys hJ hN;obtain⟨bk,pl,pr,Fl,Fr,rfl,rfl,hh,c4,_⟩:=ht.half;have hdd:∀ k:Nat,(F.depth.isSome=true->1<=k):=fun k h=>by rw[hd] at h;cases h
  have hb:bk<n₀:=hG bk (by simp);have hGl:∀ i∈Fl,i<n₀:=fun i hi=>hG i (by simp[hi])
  have hGr:∀ i∈Fr,i<n₀:=fun i hi=>hG i (by simp[hi])
  generalize hla:Avl.late (.node x tl tr)=la at c4
  by_cases q1:la<=a
  ·obtain rfl:ys=[]:=by
    have:Avl.meet a b (.node x tl tr)=[]:=by rw[Avl.meet,hla,if_pos q1]
    exact List.map_eq_nil_iff.1 (hys.trans this)
   refine callsIn_of_wp Tryz.func255 rfl h6 ?_ hro;simp only[Tryz.ntmps255,List.size_toArray,List.length_cons,List.length_nil,Nat.reduceAdd,Nat.reduceSub,Array.replicate_succ,Array.replicate_zero,List.push_toArray,List.append_toArray,List.nil_append,List.cons_append]
   gi_wp2
   go_ret;exact .inl ⟨rfl,by simpa using hJ,Below.refl _ _⟩
  ·have em:Avl.meet a b (.node x tl tr)=Avl.meet a b tl++if b<=x.f then [] else (if a<x.t then [x] else [])++Avl.meet a b tr:=by rw[Avl.meet,hla,if_neg q1]
   rw[em] at hys;obtain⟨y1,y2,rfl,hy1,hy2⟩:=List.map_eq_append_iff.1 hys;clear em hys;simp only[List.length_append] at hN;have c0:=hh.n.c0;have c1:=hh.n.c1;have c3:=hh.n.c3;have c6:=hh.c6;have c7:=hh.c7
   by_cases q2:b<=x.f
   ·rw[if_pos q2] at hy2;obtain rfl:y2=[]:=List.map_eq_nil_iff.1 hy2
    have ih1:=(ihl (n-1) pl Fl pre y1 W hh.l hGl hy1 hJ (by simpa using hN)).mono (R':=fun e W1 =>
      (e=.returned (.bool true)/\J (pre++y1) W1/\Below n₀ W W1/\W1.cell? ⟨bk,0,none⟩=some (.int .i64 x.f))\/(e=.returned (.bool false)/\∃ q,q <+: y1/\Jx (pre++q) W1))
     (fun e W1 h=>h.elim (fun ⟨he,hj,hb1⟩=>.inl ⟨he,hj,hb1,(hb1.cell (p:=⟨bk,0,none⟩) hb).trans c0⟩) .inr)
    clear ihl ihr hh ht;refine callsIn_of_wp Tryz.func255 rfl h6 ?_ hro;simp only[Tryz.ntmps255,List.size_toArray,List.length_cons,List.length_nil,Nat.reduceAdd,Nat.reduceSub,Array.replicate_succ,Array.replicate_zero,List.push_toArray,List.append_toArray,List.nil_append,List.cons_append]
    gi_wp2_with (first
     |((try refine⟨hdd _,?_⟩);gi_at_call 255;refine ih1.mono ?_;clear ih1;rintro e W1 (⟨rfl,hJ1,hb1,c0'⟩|⟨rfl,q,hq,hx1⟩)))
    ·go_ret;exact .inl ⟨rfl,by simpa using hJ1,hb1⟩
    ·go_ret;exact .inr ⟨rfl,q,by simpa using hq,hx1⟩
   ·rw[if_neg q2] at hy2;have q2':x.f<b:=by omega
    obtain⟨y3,y4,rfl,hy3,hy4⟩:=List.map_eq_append_iff.1 hy2;clear hy2;simp only[List.length_append] at hN
    by_cases q3:a<x.t
    ·rw[if_pos q3] at hy3
     obtain⟨x',rfl,hx'⟩:∃ x':{x:Avl.It // Q x},y3=[x']/\x'.1=x:=by
      rcases y3 with _|⟨x',_|⟨z,r⟩⟩
      ·simp at hy3
      ·exact⟨x',rfl,by simpa using hy3⟩
      ·simp at hy3
     subst hx';simp only[List.length_cons,List.length_nil] at hN
     have hy2:∀ W1,J (pre++y1) W1->Below n₀ W W1->YieldAt F (n-1) Tryz.prog l #[.pointer (some ⟨x'.1.v,0,none⟩)] W1 fun e W2 =>
       (e=.returned (.bool true)/\J (pre++y1++[x']) W2/\Below n₀ W W2/\W2.cell? ⟨bk,7,none⟩=some (.pointer pr)/\a2p W2 tr (.pointer pr) Fr)\/(e=.returned (.bool false)/\Jx (pre++y1++[x']) W2):=fun W1 hJ1 hb1 =>
      YieldAt.mono (hY (n-1) _ x' W1 hJ1 (by simp;omega)) fun e W2 h=>h.elim
       (fun ⟨he,hj,hb2⟩=>.inl ⟨he,hj,hb1.trans hb2,((hb1.trans hb2).cell (p:=⟨bk,7,none⟩) hb).trans c7,hh.r.belowN (hb1.trans hb2) hGr⟩) .inr
     have ih1:=(ihl (n-1) pl Fl pre y1 W hh.l hGl hy1 hJ (by omega)).mono (R':=fun e W1 =>
       (e=.returned (.bool true)/\W1.cell? ⟨bk,0,none⟩=some (.int .i64 x'.1.f)/\W1.cell? ⟨bk,1,none⟩=some (.int .i64 x'.1.t)/\W1.cell? ⟨bk,3,none⟩=some (.pointer (some ⟨x'.1.v,0,none⟩))/\YieldAt F (n-1) Tryz.prog l #[.pointer (some ⟨x'.1.v,0,none⟩)] W1 fun e W2 =>
        (e=.returned (.bool true)/\J (pre++y1++[x']) W2/\Below n₀ W W2/\W2.cell? ⟨bk,7,none⟩=some (.pointer pr)/\a2p W2 tr (.pointer pr) Fr)\/(e=.returned (.bool false)/\Jx (pre++y1++[x']) W2)) \/
       (e=.returned (.bool false)/\∃ q,q <+: y1/\Jx (pre++q) W1))
      (fun e W1 h=>h.elim (fun ⟨he,hj,hb1⟩=>.inl ⟨he,(hb1.cell (p:=⟨bk,0,none⟩) hb).trans c0,(hb1.cell (p:=⟨bk,1,none⟩) hb).trans c1,(hb1.cell (p:=⟨bk,3,none⟩) hb).trans c3,hy2 W1 hj hb1⟩) .inr)
     clear hy2 ihl hh ht;refine callsIn_of_wp Tryz.func255 rfl h6 ?_ hro;simp only[Tryz.ntmps255,List.size_toArray,List.length_cons,List.length_nil,Nat.reduceAdd,Nat.reduceSub,Array.replicate_succ,Array.replicate_zero,List.push_toArray,List.append_toArray,List.nil_append,List.cons_append]
     gi_wp2_with (first
      |((try refine⟨hdd _,?_⟩);gi_at_call 255;refine ih1.mono ?_;clear ih1;rintro e W1 (⟨rfl,c0',c1',c3',fn,tmps,assign,body,hy,hR⟩|⟨rfl,q,hq,hx1⟩))
      |((try refine⟨hdd _,?_⟩);refine hR.mono ?_;clear hR;rintro e W2 (⟨rfl,hJ2,hb2,c7',hr2⟩|⟨rfl,hx2⟩))
      |((try refine⟨hdd _,?_⟩);gi_at_call 255;refine (ihr (n-1) pr Fr _ y4 _ hr2 hGr hy4 hJ2 (by simp;omega)).mono ?_;rintro e W3 (⟨rfl,hJ3,hb3⟩|⟨rfl,q,hq,hx3⟩)))
     ·go_ret;exact .inl ⟨rfl,by simpa[List.append_assoc] using hJ3,hb2.trans hb3⟩
     ·go_ret;obtain⟨r,hr'⟩:=hq;exact .inr ⟨rfl,y1++x' :: q,⟨r,by simp[<- hr']⟩,by simpa[List.append_assoc] using hx3⟩
     ·go_ret;exact .inr ⟨rfl,y1++[x'],⟨y4,by simp⟩,by simpa[List.append_assoc] using hx2⟩
     ·go_ret;exact .inr ⟨rfl,q,hq.trans ⟨_,rfl⟩,hx1⟩
    ·rw[if_neg q3] at hy3;obtain rfl:y3=[]:=List.map_eq_nil_iff.1 hy3;have q3':x.t<=a:=by omega
     simp only[List.length_nil] at hN
     have ih1:=(ihl (n-1) pl Fl pre y1 W hh.l hGl hy1 hJ (by omega)).mono (R':=fun e W1 =>
       (e=.returned (.bool true)/\W1.cell? ⟨bk,0,none⟩=some (.int .i64 x.f)/\W1.cell? ⟨bk,1,none⟩=some (.int .i64 x.t)/\W1.cell? ⟨bk,7,none⟩=some (.pointer pr)/\a2p W1 tr (.pointer pr) Fr/\J (pre++y1) W1/\Below n₀ W W1) \/
       (e=.returned (.bool false)/\∃ q,q <+: y1/\Jx (pre++q) W1))
      (fun e W1 h=>h.elim (fun ⟨he,hj,hb1⟩=>.inl ⟨he,(hb1.cell (p:=⟨bk,0,none⟩) hb).trans c0,(hb1.cell (p:=⟨bk,1,none⟩) hb).trans c1,(hb1.cell (p:=⟨bk,7,none⟩) hb).trans c7,hh.r.belowN hb1 hGr,hj,hb1⟩) .inr)
     clear ihl hh ht;refine callsIn_of_wp Tryz.func255 rfl h6 ?_ hro;simp only[Tryz.ntmps255,List.size_toArray,List.length_cons,List.length_nil,Nat.reduceAdd,Nat.reduceSub,Array.replicate_succ,Array.replicate_zero,List.push_toArray,List.append_toArray,List.nil_append,List.cons_append]
     gi_wp2_with (first
      |((try refine⟨hdd _,?_⟩);gi_at_call 255;refine ih1.mono ?_;clear ih1;rintro e W1 (⟨rfl,c0',c1',c7',hr2,hJ2,hb2⟩|⟨rfl,q,hq,hx1⟩))
      |((try refine⟨hdd _,?_⟩);gi_at_call 255;refine (ihr (n-1) pr Fr _ y4 _ hr2 hGr hy4 hJ2 (by simp;omega)).mono ?_;rintro e W3 (⟨rfl,hJ3,hb3⟩|⟨rfl,q,hq,hx3⟩)))
     ·refine⟨fun _ h=>(by cases h),?_⟩
      gi_wp2_with (first
       |((try refine⟨hdd _,?_⟩);gi_at_call 255;refine (ihr (n-1) pr Fr _ y4 _ hr2 hGr hy4 hJ2 (by simp;omega)).mono ?_;rintro e W3 (⟨rfl,hJ3,hb3⟩|⟨rfl,q,hq,hx3⟩)))
      ·go_ret;exact .inl ⟨rfl,by simpa[List.append_assoc] using hJ3,hb2.trans hb3⟩
      ·go_ret;obtain⟨r,hr'⟩:=hq;exact .inr ⟨rfl,y1++q,⟨r,by simp[<- hr']⟩,by simpa[List.append_assoc] using hx3⟩
     ·go_ret;exact .inr ⟨rfl,q,hq.trans ⟨_,rfl⟩,hx1⟩
theorem b3x(W:World):W.grownBy W.drew none:=⟨rfl,rfl,rfl,Nat.le_refl _,fun _ _ _=>rfl⟩
theorem b4b(l B1 B2 B3 n₀:Nat)(tb o:Nat)(p0:Option Addr)(a b:Int)(t:Avl.S)(G:List Nat){Q:Avl.It->Prop}(xs:List {x:Avl.It // Q x})(hxs:xs.map (·.1)=Avl.meet a b t)(J Jx:List {x:Avl.It // Q x}->World->Prop)
  (hY:∀ m pre x W,J pre W->pre.length<xs.length->YieldAt Fence.wide m Tryz.prog l #[.pointer (some ⟨x.1.v,0,none⟩)] W fun e W' =>
   (e=.returned (.bool true)/\J (pre++[x]) W'/\Below n₀ W W')\/(e=.returned (.bool false)/\Jx (pre++[x]) W'))
  (hJd:∀ pre W,J pre W->J pre W.drew)
  (W:World) (hB1:W.cell? ⟨B1,0,none⟩=some (.pointer (some ⟨tb,o,none⟩))) (hB2:W.cell? ⟨B2,0,none⟩=some (.int .i64 a)) (hB3:W.cell? ⟨B3,0,none⟩=some (.int .i64 b)) (hc:W.cell? ⟨tb,o,none⟩=some (.pointer p0)) (hT:a2p W t (.pointer p0) G) (hG:∀ i∈G,i<n₀) (h0:J [] W):
  Calls Tryz.prog 254 #[.func (.yield l) #[] #[],.pointer (some ⟨B1,0,none⟩),.pointer (some ⟨B2,0,none⟩),.pointer (some ⟨B3,0,none⟩)] W fun e W'=>(∃ v,e=.returned v) /\
   ((∃ ys,ys=xs/\J ys W')\/(∃ pre,pre <+: xs/\Jx pre W')):=by
 have hp:=callsIn_wide.1 (b8b Fence.wide rfl trivial rfl l n₀ xs.length a b J Jx hY t 0 p0 G [] xs W.drew (hT.same (Off.refl _ _).drew) hG hxs (hJd _ _ h0) (by simp))
 have hp2:=a0b (hp.mono (R':=fun e W'=>(∃ bv,e=.returned (.bool bv))/\((∃ ys,ys=xs/\J ys W')\/(∃ pre,pre <+: xs/\Jx pre W')))
  (fun e W' h=>h.elim (fun ⟨he,hj,_⟩=>⟨⟨_,he⟩,.inl ⟨_,rfl,by simpa using hj⟩⟩) (fun ⟨he,q,hq,hx⟩=>⟨⟨_,he⟩,.inr ⟨q,hq,by simpa using hx⟩⟩)))
 clear hp hY hJd h0 hxs hT hG
 go_enter Tryz.func254,Tryz.ntmps254
 go_upto_region 0 with fail
 go_region_with (first
  |(go_at_call 255;refine hp2.out.mono ?_;rintro e W1 ⟨⟨bv,rfl⟩,hfin⟩))
 all_goals
  go_wp2_with fail
  go_end0
  exact⟨⟨_,rfl⟩,hfin⟩
open Desk (Ent St Ids kept a0C a0Q a1C a2e ofB a0y a2c Mid a1H a0z Inv uniq a5s a6u)
def QI(r:Raw)(x:Avl.It):Prop:=∃ g∈r.eg,x.v=g.eb/\x.n=g.e.id
theorem b8d(ho:Of s r)(hn:(r.eg.map (·.e.id)).Nodup)(hi:i<r.tg.length){a b:Int}{z:Avl.It}(hz:z∈Avl.meet a b r.tg[i].T):QI r z:=by
 obtain⟨_,h1,h2⟩:=ho.th i hi;rw[Avl.b1J a b _ h1] at hz;obtain⟨e,he,_,sp,_,rfl⟩:=(h2 z).1 (List.mem_filter.1 hz).1;obtain⟨g,hg,rfl⟩:=ho.get he;exact⟨g,hg,b2j hn hg,rfl⟩
def c1U(r:Raw):(l:List Avl.It)->(∀ z∈l,QI r z)->List {x:Avl.It // QI r x}
 |[],_=>[]
 |z :: l,h=>⟨z,h z (by simp)⟩ :: c1U r l (fun y hy=>h y (by simp[hy]))
theorem b2v(r:Raw):∀ (l:List Avl.It)(h:∀ z∈l,QI r z),(c1U r l h).map (·.1)=l
 |[],_=>rfl
 |z :: l,h=>by simp[c1U,b2v r l]
structure a4M(s:St)(M:List Avl.It)(l:List (Ent × Value)):Prop where
 len:l.length=(uniq M).length
 at_:∀ (i:Nat) (h:i<l.length),l[i].1∈s.es/\l[i].1.id=((uniq M)[i]'(by omega)).n
 nd:(l.map (·.1.id)).Nodup
theorem a4M.nil(s:St):a4M s [] []:=⟨rfl,fun i h=>by simp at h,by simp⟩
theorem a4M.any{M:List Avl.It}(h:a4M s M l)(n:Int):l.any (fun p=>p.1.id==n)=(uniq M).any (fun u=>decide (u.n=n)):=by
 rw[Bool.eq_iff_iff,List.any_eq_true,List.any_eq_true];constructor
 ·rintro ⟨p,hp,e⟩;obtain⟨i,hi,rfl⟩:=List.getElem_of_mem hp;have:=h.at_ i hi;exact⟨_,List.getElem_mem (by have:=h.len;omega:i<(uniq M).length),by simpa[<- this.2] using e⟩
 ·rintro ⟨u,hu,e⟩;obtain⟨i,hi,rfl⟩:=List.getElem_of_mem hu;have hl:i<l.length:=by rw[h.len];exact hi
  have:=h.at_ i hl;exact⟨_,List.getElem_mem hl,by rw[this.2];simpa using e⟩
theorem a4M.old{M:List Avl.It}(h:a4M s M l){z:Avl.It}(ha:l.any (fun p=>p.1.id==z.n)=true):a4M s (M++[z]) l:=by
 have e:uniq (M++[z])=uniq M:=by rw[a6u];unfold a5s;rw[<- h.any z.n,ha];rfl
 exact⟨by rw[e];exact h.len,fun i hi=>by have:=h.at_ i hi;simp only[e];exact this,h.nd⟩
theorem a4M.new_at{M:List Avl.It}(h:a4M s M l){z:Avl.It}(eu:uniq (M++[z])=uniq M++[z])(he:e∈s.es)(hn:e.id=z.n){sp:Value}(hi:i<(l++[(e,sp)]).length):(l++[(e,sp)])[i].1∈s.es/\(l++[(e,sp)])[i].1.id=((uniq (M++[z]))[i]'(by rw[eu];have:=h.len;simp at hi ⊢;omega)).n:=by
 have hlen:=h.len;simp only[eu];rw[List.length_append] at hi
 by_cases hlt:i<l.length
 ·rw[List.getElem_append_left hlt,List.getElem_append_left (by omega)];exact h.at_ i hlt
 ·have hie:i=l.length:=by simp at hi;omega
  subst hie;rw[List.getElem_append_right (zq _),List.getElem_append_right (by omega)];simp[hlen,he,hn]
theorem a4M.new{M:List Avl.It}(h:a4M s M l){z:Avl.It}(ha:l.any (fun p=>p.1.id==z.n)=false)(he:e∈s.es)(hn:e.id=z.n)(sp:Value):a4M s (M++[z]) (l++[(e,sp)]):=by
 have eu:uniq (M++[z])=uniq M++[z]:=by rw[a6u];unfold a5s;rw[<- h.any z.n,ha];rfl
 have hlen:=h.len;refine⟨by rw[eu];simp[hlen],fun i hi=>?_,?_⟩
 ·exact a4M.new_at h eu he hn hi
 ·rw[List.map_append,List.nodup_append];refine⟨h.nd,by simp,fun x hx y hy=>?_⟩;obtain⟨p,hp,rfl⟩:=List.mem_map.1 hx;have:y=e.id:=by simpa using hy
  subst this;intro c;have:=List.any_eq_false.1 ha p hp;simp[c,hn] at this
theorem b6D:∀ {l m:List Int},l.Nodup->(∀ x∈l,x∈m)->l.length<=m.length
 |[],_,_,_=>zN _
 |a :: l,m,hn,h=>by
  rw[List.nodup_cons] at hn;have ha:=h a (by simp);have:=b6D (l:=l) (m:=m.erase a) hn.2 (fun x hx=>(List.mem_erase_of_ne (show x≠a from fun e=>hn.1 (by rw[<- e];exact hx))).2 (h x (by simp[hx])));rw[List.length_erase_of_mem ha] at this;have:=List.length_pos_of_mem ha;simp;omega
theorem a4M.small{M:List Avl.It}(h:a4M s M l):l.length<=s.es.length:=by
 have:=b6D (m:=s.es.map (·.id)) h.nd (fun x hx=>by
  obtain⟨p,hp,rfl⟩:=List.mem_map.1 hx;obtain⟨i,hi,rfl⟩:=List.getElem_of_mem hp
  exact List.mem_map.2 ⟨_,(h.at_ i hi).1,rfl⟩)
 simpa using this
theorem b4O{e size:Nat}(h:w.ownsRow B e size v n xs)(hb:v.ownBlock=some b):∃ cs k,w.heap[b]?=some (.cells cs e k):=by
 rcases h.2 with ⟨rfl,_⟩|⟨g,cap,cur,rfl,_,hgb,_⟩
 ·cases hb
 ·obtain rfl:g=b:=by simpa[Value.ownBlock] using hb
  exact⟨_,_,hgb⟩
theorem a3j.snocT(h:a3j wx B col v l){sp:Value}(ho:w2.ownsRow wx.heap.size 60 2 sp e.a0e.length (e.a0e.flatMap spV))(k:Below wx.heap.size wx w2)(hB:B<=wx.heap.size)(hc:∀ b,B<=b->col b=none)(k3:Off v.ownBlock.toList w2 w3)(hown:w3.ownsRow B 58 6 v' (l.length+1) (l.flatMap a1f++a1f (e,sp))):
  a3j w3 B col v' (l++[(e,sp)]):=by
 have hvb:∀ b,v.ownBlock=some b->b<wx.heap.size:=fun b hb=>(h.own.lt b hb).2
 have o1:∀ p∈l,w3.ownsRow B 60 2 p.2 p.1.a0e.length (p.1.a0e.flatMap spV):=fun p hp=>a1i (a1g (h.sp p hp).1.own k) k3 (fun b hb hx=>(h.sp p hp).2 b hb (Option.mem_toList.1 hx))
 have o2:w3.ownsRow B 60 2 sp e.a0e.length (e.a0e.flatMap spV):=a1i (Joins.ownsRow_le ho hB) k3 (fun b hb hx=>by have h1:=(ho.lt b hb).1;have h2:=hvb b (Option.mem_toList.1 hx);omega)
 have ne:∀ {q:Value}{n:Nat}{xs:List Value},w3.ownsRow B 60 2 q n xs->∀ b,q.ownBlock=some b->v'.ownBlock≠some b:=fun hq b hb hx=>by
  obtain⟨c1,k1,e1⟩:=b4O hq hb;obtain⟨c2,k2,e2⟩:=b4O hown hx;have:=e1.symm.trans e2;simp at this
 refine⟨?_,fun b hb=>hc b (hown.lt b hb).1,fun p hp=>?_,?_⟩
 ·rw[List.length_append,List.flatMap_append];have:[(e,sp)].flatMap a1f=a1f (e,sp):=by simp
  rw[this];exact hown
 ·rcases List.mem_append.1 hp with hp|hp
  ·exact⟨⟨o1 p hp,(h.sp p hp).1.no⟩,ne (o1 p hp)⟩
  ·have:p=(e,sp):=List.mem_singleton.1 hp;subst this;exact⟨⟨o2,fun b hb=>hc b (o2.lt b hb).1⟩,ne o2⟩
 ·refine List.pairwise_append.2 ⟨h.pw,List.pairwise_singleton _ _,fun p hp q hq b hb hx=>?_⟩;rw[List.mem_singleton.1 hq] at hx;have h1:=(ho.lt b hx).1;have h2:=((h.sp p hp).1.own.lt b hb).2;omega
theorem b5L(p:Option Addr)(a b:Int)(w:World):
  Calls Tryz.prog 207 #[.pointer p,.int .i64 a,.int .i64 b] w fun e w'=>e=.returned (.func (.func 254) #[] #[.pointer (some ⟨w.heap.size,0,none⟩),.pointer (some ⟨w.heap.size+1,0,none⟩),.pointer (some ⟨w.heap.size+2,0,none⟩)])/\w'=((w.alloc (.cells #[.pointer p] 301)).alloc (.cells #[.int .i64 a] 3)).alloc (.cells #[.int .i64 b] 3):=by
 go_enter Tryz.func207,Tryz.ntmps207
 go_wp2_with fail
 go_ret;exact⟨rfl,rfl⟩
theorem b8c(n:Nat)(r:Raw)(B1 B2 B3 n₀ tb o:Nat)(p0:Option Addr)(a b:Int)(t:Avl.S)(G:List Nat)(xs:List {x:Avl.It // QI r x})(hxs:xs.map (·.1)=Avl.meet a b t)(w:World)(h1:w.cell? ⟨B1,0,none⟩=some (.pointer (some ⟨tb,o,none⟩)))(h2:w.cell? ⟨B2,0,none⟩=some (.int .i64 a))(h3:w.cell? ⟨B3,0,none⟩=some (.int .i64 b))(hc:w.cell? ⟨tb,o,none⟩=some (.pointer p0))(hT:a2p w t (.pointer p0) G)(hG:∀ i∈G,i<n₀)(hn:n₀<=w.heap.size):
  SeqStopsK Fence.wide n Tryz.prog 254 #[.pointer (some ⟨B1,0,none⟩),.pointer (some ⟨B2,0,none⟩),.pointer (some ⟨B3,0,none⟩)] (fun x:{x:Avl.It // QI r x}=>#[Value.pointer (some ⟨x.1.v,0,none⟩)]) (Below n₀) (fun ys=>ys=xs) (fun pre=>pre <+: xs) xs.length w:=by
 intro l J Jx W hW hJ _ hY h0;refine callsIn_wide.2 ?_;exact b4b l B1 B2 B3 n₀ tb o p0 a b t G xs hxs J Jx (fun m pre x W' hp hl=>YieldAt.anyDepth rfl m (hY pre x W' hp hl)) (fun pre W' hp=>hJ pre W' _ none hp (b3x W') (fun r e=>by cases e)) W (a0a hW h1) (a0a hW h2) (a0a hW h3) (a0a hW hc) (hT.belowN (hW.mono hn) hG) hG h0
open Desk (Ent St Ids kept a0C a0Q a1C a2e ofB a0y a2c Mid a1H a0z Inv uniq)
attribute [local go_sem] Oper.semAt_some
structure LI(w W:World)(s:St)(col:Nat->Option Col)(M:List Avl.It):Prop where
 bx:∃ v l,Boxed W (w.heap.size+1) 34 v/\a3j W (w.heap.size+5) col v l/\a4M s M l
 bl:Below w.heap.size w W
 sz:w.heap.size+5<=W.heap.size
theorem b6k{row:Option Nat}{e size:Nat}(h:W.ownsRow B e size v n xs)(hg:W.grownBy W' row)(hr:∀ r,row=some r->∃ o:Obj,W.heap[r]?=some o/\o.isCells=false):W'.ownsRow B e size v n xs:=by
 refine h.kept hg ?_;rcases h.2 with ⟨rfl,_⟩|⟨g,cap,cur,rfl,_,hgb,_⟩
 ·exact .inl rfl
 ·refine .inr fun e'=>?_
  obtain⟨o,ho,hc⟩:=hr g (by simpa[Value.ownBlock] using e'.symm);rw[hgb] at ho;cases ho;cases hc
theorem c6j(w:World)(s:St)(r:Raw)(col:Nat->Option Col)(hB:w.heap.size<=B):OwnFrom B (fun (pre:List {x:Avl.It // QI r x}) W=>LI w W s col (pre.map (·.1))):=by
 intro pre W W' row h hg hrow;have hr:∀ r,row=some r->∃ o:Obj,W.heap[r]?=some o/\o.isCells=false:=fun r e=>(hrow r e).2
 obtain⟨v,l,hv,er,tl⟩:=h.bx;exact⟨⟨v,l,a6Z hv hg hr,⟨b6k er.own hg hr,er.no,fun p hp=>⟨⟨b6k (er.sp p hp).1.own hg hr,(er.sp p hp).1.no⟩,(er.sp p hp).2⟩,er.pw⟩,tl⟩,h.bl.grown hg h.bl.size (fun k e=>Nat.le_trans hB (hrow k e).1),Nat.le_trans h.sz hg.size⟩
theorem b8k(h:Below W.heap.size W W'):KeepsFrom B W W':=⟨h.size,fun k _ _ hk _=>(h.block k (Array.getElem?_eq_some_iff.1 hk).1).trans hk⟩
theorem b7J(X:World)(p x y:Value)(t1 t2 t3:TypeId):Below X.heap.size X (((X.alloc (.cells #[p] t1)).alloc (.cells #[x] t2)).alloc (.cells #[y] t3)).drew/\(((X.alloc (.cells #[p] t1)).alloc (.cells #[x] t2)).alloc (.cells #[y] t3)).drew.cell? ⟨X.heap.size,0,none⟩=some p/\(((X.alloc (.cells #[p] t1)).alloc (.cells #[x] t2)).alloc (.cells #[y] t3)).drew.cell? ⟨X.heap.size+1,0,none⟩=some x/\(((X.alloc (.cells #[p] t1)).alloc (.cells #[x] t2)).alloc (.cells #[y] t3)).drew.cell? ⟨X.heap.size+2,0,none⟩=some y/\(((X.alloc (.cells #[p] t1)).alloc (.cells #[x] t2)).alloc (.cells #[y] t3)).drew.heap.size=X.heap.size+3:=by
 have b1:=Boxed.new X t1 p;have b2:=Boxed.new (X.alloc (.cells #[p] t1)) t2 x;have b3:=Boxed.new ((X.alloc (.cells #[p] t1)).alloc (.cells #[x] t2)) t3 y;simp only[World.size_alloc] at b2 b3;exact⟨((((zr _ X).alloc (zq _) _).alloc (by simp) _).alloc (by simp;omega) _).drew,((b1.alloc _).alloc _).cell,(b2.alloc _).cell,b3.cell,by rw[heap_drew];simp⟩
theorem a1Z{F:Fence}{P:Program}(w:World){ops:Array Oper}{o:Oper}{a:Act}{K:Act->World->Prop}{Q:Exit->Act->World->Prop}{E:Prop}
  (hg:o.guard=none) (s x:Operand) (t:TypeId) (hop:o.op=Op.call { callee:=Callee.builtin Builtin.append,args:=#[s,x],argTypes:=#[t,t] })
  (base:Nat) (e:TypeId) (i:TypeInfo) (z:Value) (size bytes:Nat) (h1:P.underlying t=some (.slice e)) (h2:P.info? e=some i) (h3:i.zero=some z) (h4:i.size=size) (h5:i.bytes=bytes) (h6:z.cells.size=size) (h7:0<size)
  (v:Value) (k:Nat) (xs:List Value) (hs:a.eval s=v) (hown:w.ownsRow base e size v k xs) (ad:Addr) (m c:Nat) (news:List Value) (hx:a.eval x=.slice (some ad) m c) (hn:news.length=m*size)
  (hc:∀ j u,news[j]?=some u->w.cell? (ad.add j)=some u) (h1c:∀ u∈news,u.oneCell'=true) (b1:k+m<=maxLen) (b2:(k+m)*bytes<=140737488355328) (b3:base<=w.heap.size)
  (hK:∀ v' w',w'.ownsRow base e size v' (k+m) (xs++news)->w.grownBy w' v.ownBlock->K (a.put o.dst v') w'):
  if Region.wanted o (yielded ops a.tmps)=true then Oper.wpIn F n P o a w K Q else E:=by
 have hw:Region.wanted o (yielded ops a.tmps)=true:=by simp[Region.wanted,hg]
 rw[if_pos hw];obtain⟨v',w',hrun,r1,r2,r3⟩:=run_append_own (P:=P) w base t o.type e i z size bytes h1 h2 h3 h4 h5 h6 h7 v k xs hown ad m c news hn hc h1c b1 b2 b3;unfold Oper.wpIn;refine⟨?_,?_⟩
 ·simp[Oper.about,hop,resolve,Target.leads,Sem.run_pure]
 ·rw[Oper.semAt_plain F _ _ (by rw[hop];intro c hc';cases hc')];simp[execOp,hop,resolve,invoke,builtin,hs,hx,hrun,Result.andThen];exact hK v' w' r1 r2
theorem a6Y(h:W.cell? ⟨b,i,none⟩=some v)(o:Obj):(W.alloc o).cell? ⟨b,i,none⟩=some v:=(zo (w:=W) (Below.heap_alloc _ o _ (World.block_lt_of_cell? _ _ h))).trans h
theorem b6K{M:List Avl.It}(h:LI w W s col M)(hv:Boxed W (w.heap.size+1) 34 (.slice a1 tl.length c1))(er:a3j W (w.heap.size+5) col (.slice a1 tl.length c1) tl)(hb1:Below W.heap.size W w1)(hb2:Below w1.drew.heap.size w1.drew w2)(o:Obj)
  (hgrow:(w2.alloc o).grownBy w3 (Value.slice a1 tl.length c1).ownBlock):Boxed w3 (w.heap.size+1) 34 (.slice a1 tl.length c1):=by
 have sz:=h.sz;have k1:Below W.heap.size W w1.drew:=hb1.drew;have k12:Below W.heap.size W w2:=k1.trans (hb2.mono k1.size);have h2:Boxed w2 (w.heap.size+1) 34 (.slice a1 tl.length c1):=(k12.block _ (by omega)).trans hv;exact (h2.alloc o).kept hgrow (fun e=>by have:=(er.own.lt _ e.symm).1;omega)
theorem b6J{M:List Avl.It}(h:LI w W s col M)(hv:Boxed W (w.heap.size+1) 34 (.slice a1 tl.length c1))(er:a3j W (w.heap.size+5) col (.slice a1 tl.length c1) tl)(tld:a4M s M tl)(hb1:Below W.heap.size W w1){sp:Value}(ho:w2.ownsRow w1.drew.heap.size 60 2 sp e.a0e.length (e.a0e.flatMap spV))(hb2:Below w1.drew.heap.size w1.drew w2)(o:Obj)
  (hgrow:(w2.alloc o).grownBy w3 (Value.slice a1 tl.length c1).ownBlock) (hown:w3.ownsRow (w.heap.size+5) 58 6 v' (tl.length+1) (tl.flatMap a1f++a1f (e,sp))) (hc:∀ b,w.heap.size<=b->col b=none) {z:Avl.It}(ha:tl.any (fun p=>p.1.id==z.n)=false) (he:e∈s.es) (hn:e.id=z.n):
  KeepsFrom B W (w3.setCell ⟨w.heap.size+1,0,none⟩ v')/\Below w.heap.size W (w3.setCell ⟨w.heap.size+1,0,none⟩ v')/\LI w (w3.setCell ⟨w.heap.size+1,0,none⟩ v') s col (M++[z]):=by
 have sz:=h.sz;have k1:Below W.heap.size W w1.drew:=hb1.drew;have k12:Below W.heap.size W w2:=k1.trans (hb2.mono k1.size);have ko:Off (Value.slice a1 tl.length c1).ownBlock.toList w2 w3:=Off.grown ((Off.refl _ w2).alloc _) hgrow (fun k hk=>.inl (Option.mem_toList.2 hk));have E3:=er.snocT (Joins.ownsRow_le ho k1.size) k12 sz (fun b hb=>hc b (by omega)) ko hown;have own5:∀ b,(Value.slice a1 tl.length c1).ownBlock=some b->w.heap.size+5<=b:=fun b hb=>(er.own.lt b hb).1
 have ks:=Off.set0 (w.heap.size+1) w3 0 v'
 have bk:∀ b,b<W.heap.size->b≠w.heap.size+1->(Value.slice a1 tl.length c1).ownBlock≠some b->(w3.setCell ⟨w.heap.size+1,0,none⟩ v').heap[b]?=W.heap[b]?:=fun b hb h1 h2=>by
  rw[ks.block b (zL (zL hb k12.size) ko.size) (fun hx=>h1 (List.mem_singleton.1 hx)),ko.block b (zL hb k12.size) (fun hx=>h2 (Option.mem_toList.1 hx)),k12.block b hb]
 have hv3:Boxed w3 (w.heap.size+1) 34 (.slice a1 tl.length c1):=(ko.block _ (by have:=k12.size;omega) (fun hx=>by have:=own5 _ (Option.mem_toList.1 hx);omega)).trans ((k12.block _ (by omega)).trans hv);have hsz:W.heap.size<=(w3.setCell ⟨w.heap.size+1,0,none⟩ v').heap.size:=Nat.le_trans k12.size (Nat.le_trans ko.size ks.size);have hbl:Below w.heap.size W (w3.setCell ⟨w.heap.size+1,0,none⟩ v'):=⟨ks.os.trans (ko.os.trans k12.os),ks.tape.trans (ko.tape.trans k12.tape),ks.output.trans (ko.output.trans k12.output),hsz,fun b hb=>bk b (by omega) (by omega) (fun hx=>by have:=own5 _ hx;omega)⟩;refine⟨⟨hsz,fun k o' _ hk hcl=>(bk k (Array.getElem?_eq_some_iff.1 hk).1 (fun e1=>?_) (fun e1=>?_)).trans hk⟩,hbl,⟨⟨v',tl++[(e,sp)],hv3.set v',E3.off ks (fun x hx=>by have:=List.mem_singleton.1 hx;omega),tld.new ha he hn sp⟩,h.bl.trans hbl,Nat.le_trans sz hsz⟩⟩
 ·subst e1;rw[show W.heap[w.heap.size+1]?=_ from hv] at hk
  cases hk;cases hcl
 ·obtain⟨cs,q,e2⟩:=b4O er.own e1;rw[e2] at hk
  cases hk;cases hcl
def c6f(Q:Exit->Act->World->Prop):Exit->Act->World->Prop
 |.panic _,_,_=>False
 |.normal,a,w=>Q .normal a w
 |.ret,a,w=>Q .ret a w
 |.exit i,a,w=>Q (.exit i) a w
 |.goto t,a,w=>Q (.goto t) a w
 |.outgrown,a,w=>Q .outgrown a w
theorem c2H{Q:Exit->Act->World->Prop}:∀ e a w,c6f Q e a w->Q e a w
 |.panic _,_,_,h=>h.elim
 |.normal,_,_,h=>h
 |.ret,_,_,h=>h
 |.exit _,_,_,h=>h
 |.goto _,_,_,h=>h
 |.outgrown,_,_,h=>h
theorem c0k{Q:Exit->Act->World->Prop}{a:Act}(h:Q .ret a w):c6f Q .ret a w:=h
theorem b2y(h:DSt w d s r col)(hi:i<r.tg.length)(a b:Int):
  Calls Tryz.prog 151 #[.pointer (some ⟨r.tg[i].tb,0,none⟩),.agg #[.int .i64 a,.int .i64 b]] w fun e w'=>∃ v l,e=.returned v/\l.map (·.1)=Desk.a2x r.tg[i].name a b s.es/\a3j w' w.heap.size col v l/\Below w.heap.size w w':=by
 obtain⟨i0,hi0,hz0,hz1,hz2⟩:=info_parts b6R;obtain⟨ul,us,Fl,Fs,th,hcol⟩:=h.dk.th i hi;have HH:=a0b h;have tlt:r.tg[i].tb<w.heap.size:=World.block_lt_of_cell? _ _ th.c0;have xa:((w.alloc (.cells #[.int .i64 a,.int .i64 b] 60)).alloc (.cells #[.slice none 0 0] 34)).cell? ⟨w.heap.size,0,none⟩=some (.int .i64 a):=by simp
 have xb:((w.alloc (.cells #[.int .i64 a,.int .i64 b] 60)).alloc (.cells #[.slice none 0 0] 34)).cell? ⟨w.heap.size,1,none⟩=some (.int .i64 b):=by simp
 have bt:=Boxed.new (w.alloc (.cells #[.int .i64 a,.int .i64 b] 60)) 34 (.slice none 0 0);have hX:Below w.heap.size w ((w.alloc (.cells #[.int .i64 a,.int .i64 b] 60)).alloc (.cells #[.slice none 0 0] 34)):=((zr _ _).alloc (zq _) _).alloc (by simp) _;have hXs:((w.alloc (.cells #[.int .i64 a,.int .i64 b] 60)).alloc (.cells #[.slice none 0 0] 34)).heap.size=w.heap.size+2:=by simp
 rw[World.size_alloc] at bt;have HX:=a0b (And.intro hX (And.intro hXs bt));have HT:=a0b th;clear h th hX bt;refine (callsIn_wide (n:=3)).1 ?_;refine callsIn_of_wp_marks Tryz.func151 rfl trivial ?_ rfl;simp only[Tryz.ntmps151,List.size_toArray,List.length_cons,List.length_nil,Nat.reduceAdd,Nat.reduceSub,Array.replicate_succ,Array.replicate_zero,List.push_toArray,List.append_toArray,List.nil_append,List.cons_append];refine wpIn_wide.2 (Code.wp_mono c2H ?_);generalize r.tg[i].tb=tb at *
 go_upto_region 2 with fail
 change Code.wp _ _ _ _ ((w.alloc (.cells #[.int .i64 a,.int .i64 b] 60)).alloc (.cells #[.slice none 0 0] 34));generalize (w.alloc (.cells #[.int .i64 a,.int .i64 b] 60)).alloc (.cells #[.slice none 0 0] 34)=X at *;have ME:=a0b (b5L (some ⟨tb,3,none⟩) a b X.drew);have hXd:X.drew.heap.size=w.heap.size+2:=hXs;rw[hXd] at ME
 go_region_with (first
  |(go_at_call 207;refine ME.out.mono ?_;rintro e w1 ⟨rfl,rfl⟩))
 all_goals
  obtain⟨k0,z1,z2,z3,z4⟩:=b7J X (.pointer (some ⟨tb,3,none⟩)) (.int .i64 a) (.int .i64 b) 301 3 3;rw[hXs] at z1 z2 z3 z4
  go_wp2_with fail
  generalize (((X.alloc (.cells #[.pointer (some ⟨tb,3,none⟩)] 301)).alloc (.cells #[.int .i64 a] 3)).alloc (.cells #[.int .i64 b] 3)).drew=Z at *;have BZ:Below w.heap.size w Z:=HX.out.1.trans (k0.mono HX.out.1.size);have L0:Hid (LI w Z s col ([]:List Avl.It)):=⟨⟨_,[],(k0.block _ (by omega)).trans HX.out.2.2,a3j.nil _ _ _,a4M.nil s⟩,BZ,by omega⟩;have hxs:=b2v r (Avl.meet a b r.tg[i].T) (fun z hz=>b8d HH.out.of HH.out.dk.ni hi hz);generalize c1U r (Avl.meet a b r.tg[i].T) _=xs at hxs;have MS:=a0b (b8c 2 r (w.heap.size+2) (w.heap.size+2+1) (w.heap.size+2+2) w.heap.size tb 3 us a b r.tg[i].T Fs xs hxs Z z1 z2 z3 (a0a BZ HT.out.c3) (HT.out.sp.belowN BZ (fun k hk=>HT.out.lt k (by simp[hk]))) (fun k hk=>HT.out.lt k (by simp[hk])) (by omega));have HXS:=a0b hxs;have h5:w.heap.size<=Z.heap.size:=by omega
  clear k0 z1 z2 z3 hxs xa xb ME;refine (wpIn_wide (n:=3)).1 ?_
  refine wpIn_rangeFunc_ownG rfl (by omega) (gf:=254) (lb:=#[.pointer (some ⟨w.heap.size+2,0,none⟩),.pointer (some ⟨w.heap.size+2+1,0,none⟩),.pointer (some ⟨w.heap.size+2+2,0,none⟩)]) rfl trivial (enters_of Tryz.func254 (by kernel_rfl) rfl) MS.out belowK_t (belowK_b h5) (zr _ _) (fun _=>rfl)
   (fun pre W=>LI w W s col (pre.map (·.1))) (fun _ _ _=>False) (c6j w s r col h5) (fun _ _ _ _ _ hs _ _=>hs) L0.out
   (fun x=>{ tmps:=#[.pointer (some ⟨tb,0,none⟩),.agg #[.int .i64 a,.int .i64 b],undef,.pointer (some ⟨w.heap.size,0,none⟩),.slice none 0 0,.pointer (some ⟨w.heap.size+1,0,none⟩),.pointer (some ⟨x.1.v,0,none⟩),.pointer (some ⟨tb,0,none⟩),.pointer (some ⟨tb,0,none⟩),.pointer (some ⟨tb,3,none⟩),.pointer (some ⟨w.heap.size,0,none⟩),.int .i64 a,.pointer (some ⟨w.heap.size,1,none⟩),.int .i64 b,.func (.func 254) #[] #[.pointer (some ⟨w.heap.size+2,0,none⟩),.pointer (some ⟨w.heap.size+2+1,0,none⟩),.pointer (some ⟨w.heap.size+2+2,0,none⟩)],.pointer (some ⟨x.1.v,0,none⟩),undef,undef,undef,undef,undef,undef,undef,undef,undef,undef,undef],defers:=[] }) ?assign ?body ?done ?stop
  case assign =>
   intro l x W K hK
   gi_wp2
   exact hK
  case body =>
   rintro l pre x W h hlt;obtain⟨g,hg,ev,en⟩:=x.2;obtain⟨v,tl,hv,er,tld⟩:=h.bx;obtain⟨a1,c1,rfl⟩:=a0B er.own;have hcd:=hv.cell;have hsm:=Nat.le_trans tld.small (a1x HH.out.mid);have dW:=HH.out.dk.later h.bl;have CT:=a0b (a8q tl _ (w.heap.size+5) g.eb g.e.id W er.own (fun p hp=>by obtain⟨x1,x2,x3⟩:=a0B (er.sp p hp).1.own;exact⟨x1,_,x2,x3⟩) (dW.en g hg).1.en.c0 (by omega));have HI:=a0b (And.intro h (And.intro hv (And.intro er tld)));have hsz:=h.sz;have TE:=a0b (fun W' (k:Below w.heap.size w W')=>HH.out.tells k hg);clear h hv er tld dW;rw[<- ev] at CT;simp only[<- ev] at TE;have EVN:=a0b (And.intro ev en);clear ev en
   cases hany:tl.any (fun p=>p.1.id==g.e.id)
   ·rw[hany] at CT
    gi_wp2
    refine⟨trivial,?_⟩;refine (CallsIn.inRound l (callsIn_wide.2 CT.out)).mono ?_;rintro e w1 ⟨rfl,hb1⟩
    gi_wp2
    have hmix:Tryz.prog.follows .mixedOrders=true:=by kernel_rfl
    have BW1:Hid (Below w.heap.size w w1/\Below W.heap.size W w1):=⟨HI.out.1.bl.trans (hb1.mono HI.out.1.bl.size),hb1⟩;have hcd1:=a0a hb1 hcd;have TE1:=a0b (TE.out w1.drew BW1.out.1.drew);clear TE CT hb1;refine wpIn_region_any hmix ?_;change wpAnyIn _ _ _ _ _ _ _ _ _ (World.drew _);refine wpAnyIn_ready (rs:=[0,1]) (by kernel_rfl) (by simp) ?_;refine AllReadyIn.cons rfl (fun K hK=>?_) (AllReadyIn.cons rfl (fun K hK=>?_) AllReadyIn.nil)
    go_simp
    refine hK _ _ ?_;clear hK K;refine wpAnyIn_ready (rs:=[1]) (by kernel_rfl) (by simp) ?_;refine AllReadyIn.cons rfl (fun K hK=>?_) AllReadyIn.nil
    go_simp
    refine hK _ _ ?_;clear hK K;refine wpAnyIn_ready (rs:=[2]) (by kernel_rfl) (by simp) ?_;refine AllReadyIn.cons rfl (fun K hK=>?_) AllReadyIn.nil
    rotate_left
    go_simp
    refine hK _ _ ?_;clear hK K;refine wpAnyIn_ready (rs:=[0,2]) (by kernel_rfl) (by simp) ?_;refine AllReadyIn.cons rfl (fun K hK=>?_) (AllReadyIn.cons rfl (fun K hK=>?_) AllReadyIn.nil)
    go_simp
    refine hK _ _ ?_;clear hK K;refine wpAnyIn_ready (rs:=[2]) (by kernel_rfl) (by simp) ?_;refine AllReadyIn.cons rfl (fun K hK=>?_) AllReadyIn.nil
    all_goals
     go_simp
     refine⟨trivial,(CallsIn.inRound l (callsIn_wide.2 TE1.out)).mono ?_⟩;rintro e w2 ⟨v2,rfl,sp2,rfl,ho2,hb2⟩;refine hK _ _ ?_;clear hK K;obtain⟨sa,sc,rfl⟩:=a0B ho2;simp only[a8k];have hcd2:w2.cell? ⟨w.heap.size+1,0,none⟩=some (.slice a1 tl.length c1):=a0a hb2 hcd1;have hs2:w.heap.size+5<=w2.heap.size:=Nat.le_trans (Nat.le_trans HI.out.1.sz BW1.out.2.size) hb2.size;have OW:=a0b (a1g (a1g HI.out.2.2.1.own BW1.out.2.drew) hb2);have S2:=a0b (And.intro ho2 hb2);clear ho2 hb2
    rotate_left
    refine wpAnyIn_ready (rs:=[0,3]) (by kernel_rfl) (by simp) ?_;refine AllReadyIn.cons rfl (fun K hK=>?_) (AllReadyIn.cons rfl (fun K hK=>?_) AllReadyIn.nil)
    go_simp
    refine hK _ _ ?_;clear hK K;refine wpAnyIn_ready (rs:=[3]) (by kernel_rfl) (by simp) ?_;refine AllReadyIn.cons rfl (fun K hK=>?_) AllReadyIn.nil
    rotate_left 2
    refine wpAnyIn_ready (rs:=[3]) (by kernel_rfl) (by simp) ?_;refine AllReadyIn.cons rfl (fun K hK=>?_) AllReadyIn.nil
    rotate_left
    refine wpAnyIn_ready (rs:=[3]) (by kernel_rfl) (by simp) ?_;refine AllReadyIn.cons rfl (fun K hK=>?_) AllReadyIn.nil
    rotate_left
    all_goals
     go_simp
     refine hK _ _ ?_;clear hK K;have hcd3:=a6Y hcd2 (.cells #[.int .i64 g.e.id,.int .i64 g.e.kind,.string g.e.a0k,.int .i64 g.e.a0c,.slice sa g.e.a0e.length sc,.int .i64 g.e.a0Z] 58);obtain⟨V3,hV3⟩:∃ V3,V3=w2.alloc (.cells #[.int .i64 g.e.id,.int .i64 g.e.kind,.string g.e.a0k,.int .i64 g.e.a0c,.slice sa g.e.a0e.length sc,.int .i64 g.e.a0Z] 58):=⟨_,rfl⟩;rw[<- hV3] at hcd3;rw[<- hV3];have AV:Hid (V3=w2.alloc (.cells (a1f (g.e,.slice sa g.e.a0e.length sc)).toArray 58)):=a0b hV3;clear hV3
    rotate_left
    refine wpAnyIn_ready (rs:=[0]) (by kernel_rfl) (by simp) ?_;refine AllReadyIn.cons rfl (fun K hK=>?_) AllReadyIn.nil
    go_simp
    refine hK _ _ ?_;clear hK K
    all_goals
     refine wpAnyIn_ready (rs:=[4]) (by kernel_rfl) (by simp) ?_;refine AllReadyIn.cons rfl (fun K hK=>?_) AllReadyIn.nil;refine a1Z V3 rfl (.tmp 21) (.tmp 24) 34 rfl (w.heap.size+5) 58 i0 _ 6 72 Tryz.underlying34 hi0 hz0 hz1 hz2 rfl (by decide) (.slice a1 tl.length c1) tl.length (tl.flatMap a1f) rfl (by rw[AV.out];exact OW.out.alloc _) ⟨w2.heap.size,0,none⟩ 1 1 (a1f (g.e,.slice sa g.e.a0e.length sc)) rfl rfl (by rw[AV.out];exact World.news_of_block (cs:=(a1f (g.e,.slice sa g.e.a0e.length sc)).toArray) (a0p w2 _)) (by simp[a1f,Value.oneCell']) (by unfold maxLen;omega) (by omega) (by rw[AV.out];simp;omega) ?_;intro v3 w3 hown3 hgrow3;obtain⟨va3,vc3,rfl⟩:=a0B hown3;refine hK _ _ ?_;clear hK K;rw[AV.out] at hgrow3;have BX:=b6K HI.out.1 HI.out.2.1 HI.out.2.2.1 BW1.out.2 S2.out.2 _ hgrow3;have hcd4:=BX.cell;have hfr4:=BX.frozen;have G3:=a0b (And.intro hown3 hgrow3);clear hown3 hgrow3 BX AV hcd3;refine wpAnyIn_ready (rs:=[5]) (by kernel_rfl) (by simp) ?_;refine AllReadyIn.cons rfl (fun K hK=>?_) AllReadyIn.nil
     go_simp
     refine hK _ _ ?_;clear hK K;refine wpAnyIn_done (by kernel_rfl) ?_ _;have h0:=HI.out;have hL:=b6J (B:=Z.heap.size) h0.1 h0.2.1 h0.2.2.1 h0.2.2.2 BW1.out.2 S2.out.1 S2.out.2 _ G3.out.2 G3.out.1 (fun b hb=>HH.out.dk.none hb) (z:=x.1) (by rw[EVN.out.2];exact hany) (HH.out.of.mem hg) EVN.out.2.symm;refine⟨hL.1,hL.2.1,?_⟩;show LI w _ s col (List.map (fun x=>x.val) (pre++[x]));rw[List.map_append];exact hL.2.2
   ·rw[hany] at CT
    gi_wp2
    refine⟨trivial,?_⟩;refine (CallsIn.inRound l (callsIn_wide.2 CT.out)).mono ?_;rintro e w1 ⟨rfl,hb1⟩
    gi_wp2
    have h0:=HI.out
    exact⟨b8k hb1,hb1.mono h0.1.bl.size,⟨⟨_,tl,(hb1.block _ h0.2.1.lt).trans h0.2.1,h0.2.2.1.later hb1,by
     have:=h0.2.2.2.old (z:=x.1) (by rw[EVN.out.2];exact hany)
     simpa using this⟩,h0.1.bl.trans (hb1.mono h0.1.bl.size),Nat.le_trans h0.1.sz hb1.size⟩⟩
  case done =>
   rintro D ys W hD rfl h hK;obtain⟨v,tl,hv,er,tld⟩:=h.bx;have hc:=hv.cell;obtain⟨a1,c1,rfl⟩:=a0B er.own
   have HF:Hid (tl.map (·.1)=Desk.a2x r.tg[i].name a b s.es):=by
    rw[HXS.out] at tld;have it:=(HH.out.of.th i hi).2;have inv:=HH.out.inv
    obtain⟨p1,p2⟩:=Desk.c4u (ys:=tl.map (·.1)) (a:=a) (b:=b) it inv.ids (fun e he=>(inv.en e he).ri) (fun e he sp hs=>((inv.en e he).sp sp hs).1) (by rw[List.length_map];exact tld.len) (fun j hj=>by
     have hj':j<tl.length:=by simpa using hj
     have:=tld.at_ j hj'
     simpa using this)
    exact Desk.b3f inv.ids p1 p2
   have HE:Hid (a3j W w.heap.size col (.slice a1 tl.length c1) tl/\Below w.heap.size w W):=⟨er.base (by omega),h.bl⟩;clear h er tld hv
   go_wp2_with fail
   refine c0k ?_;refine⟨by simp,.inl ⟨_,_,rfl,run_takeDeferred hK,?_⟩⟩;have kp:Below W.heap.size W (W.putObj D (.deferred none))->True:=fun _=>trivial
   refine⟨_,results_tmp rfl _ _ _,_,tl,rfl,HF.out,?_,HE.out.2.trans (belowK_b (w:=w) (zq _) W D _ _ (by omega) hK rfl rfl)⟩;exact⟨ownsRow_putObj HE.out.1.own _ hK rfl,HE.out.1.no,fun p hp=>⟨⟨ownsRow_putObj (HE.out.1.sp p hp).1.own _ hK rfl,(HE.out.1.sp p hp).1.no⟩,(HE.out.1.sp p hp).2⟩,HE.out.1.pw⟩
  case stop =>
   rintro D c pre W _ _ h _;exact h.elim
theorem a6V(hm:Mid s)(h:a1c s name 0 fr til≠0):Desk.a0g s (.list name fr til)=(s,Desk.Rep.error (a1c s name 0 fr til)):=by
 have hn:=Desk.a4g hm.tu name;simp only[Desk.a0g];unfold a1c Desk.a0S at *
 by_cases h1:Desk.a0h name s.ts=0
 ·rw[if_pos h1];simp[h1]
 ·have h2:¬ (Desk.a0h name s.ts<0):=by omega
  simp only[h1,h2] at h ⊢
  by_cases h3:til<=fr
  ·simp[h3]
  ·simp[h3] at h
theorem b3H(h:a1c s name 0 fr til=0):Desk.a0g s (.list name fr til)=(s,⟨0,0,0,Desk.a2x name fr til s.es,[],[],[]⟩):=by
 obtain⟨h1,h2⟩:=a1E h;have h3:Desk.a0h name s.ts≠0:=fun e=>by unfold Desk.a0S at h1;rw[if_pos e] at h1;omega
 simp only[Desk.a0g];rw[if_neg h3,if_neg (by omega)];rfl
theorem b3e(name:ByteArray)(wi:Bool)(fr til a b:Int):Below w.heap.size w (((w.alloc (.cells #[.string name,.bool wi,.int .i64 fr,.int .i64 til] 170)).alloc a0f).alloc (.cells #[.int .i64 a,.int .i64 b] 60))/\(((w.alloc (.cells #[.string name,.bool wi,.int .i64 fr,.int .i64 til] 170)).alloc a0f).alloc (.cells #[.int .i64 a,.int .i64 b] 60)).heap[w.heap.size+1]?=some a0f/\(((w.alloc (.cells #[.string name,.bool wi,.int .i64 fr,.int .i64 til] 170)).alloc a0f).alloc (.cells #[.int .i64 a,.int .i64 b] 60)).cell? ⟨w.heap.size+1+1,0,none⟩=some (.int .i64 a)/\(((w.alloc (.cells #[.string name,.bool wi,.int .i64 fr,.int .i64 til] 170)).alloc a0f).alloc (.cells #[.int .i64 a,.int .i64 b] 60)).cell? ⟨w.heap.size+1+1,1,none⟩=some (.int .i64 b)/\(((w.alloc (.cells #[.string name,.bool wi,.int .i64 fr,.int .i64 til] 170)).alloc a0f).alloc (.cells #[.int .i64 a,.int .i64 b] 60)).heap.size=w.heap.size+3:=by
 have h1:=a0p (w.alloc (.cells #[.string name,.bool wi,.int .i64 fr,.int .i64 til] 170)) a0f;have h2:=a0p ((w.alloc (.cells #[.string name,.bool wi,.int .i64 fr,.int .i64 til] 170)).alloc a0f) (.cells #[.int .i64 a,.int .i64 b] 60);rw[World.size_alloc] at h1;rw[World.size_alloc,World.size_alloc] at h2;refine⟨(((zr _ _).alloc (zq _) _).alloc (by simp) _).alloc (by rw[World.size_alloc,World.size_alloc];omega) _,(Below.heap_alloc _ _ _ (by rw[World.size_alloc,World.size_alloc];omega)).trans h1,?_,?_,by rw[World.size_alloc,World.size_alloc,World.size_alloc]⟩
 ·simp only[World.cell?,h2];rfl
 ·simp only[World.cell?,h2];rfl
theorem c2Q(h:DSt w d s r col)(name:ByteArray)(hn:name.size<=1000)(wi:Bool)(fr til:Int):
  Calls Tryz.prog 98 #[.pointer (some ⟨d,0,none⟩),.agg #[.string name,.bool wi,.int .i64 fr,.int .i64 til]] w fun e w'=>∃ v,e=.returned v/\a0l w d col (Desk.a0g s (.list name (if wi then fr else 0) (if wi then til else 1048320))) v w':=by
 have HH:=a0b h;clear h
 cases wi
 ·simp only[reduceIte,Bool.false_eq_true];obtain⟨hX,hXQ,x1,x2,hNX⟩:=b3e (w:=w) name false fr til 0 1048320;have AK:=a0b (a4e (HH.out.dk.later hX) HH.out.of HH.out.mid name hn 0 0 1048320);have HX:=a0b (And.intro hX hXQ);clear hX hXQ
  go_enter Tryz.func98,Tryz.ntmps98
  unfold a0f at AK HX x1 x2 hNX
  go_upto_region 9 with fail
  generalize (((w.alloc (.cells #[.string name,.bool false,.int .i64 fr,.int .i64 til] 170)).alloc (.cells #[.int .i64 0,.int .i64 0,.int .i64 0,.slice none 0 0,.slice none 0 0,.slice none 0 0,.slice none 0 0] 40)).alloc (.cells #[.int .i64 0,.int .i64 1048320] 60))=X at *;refine AK.out.mono ?_;rintro e w1 ⟨hp,hb⟩;have BX:Hid (Below w.heap.size w w1):=HX.out.1.trans (hb.mono HX.out.1.size);have QX:Hid (Q7 w1 (w.heap.size+1)):=(Q7.of HX.out.2).later (hb.block _ (by omega));rcases hp with ⟨h1,rfl⟩|⟨h1,i,hi,e1,e2,rfl⟩
  ·have HD:=a0b (a6V HH.out.mid h1);generalize a1c s name 0 0 1048320=er at *;have hb1:(er != 0)=true:=by simpa using h1
   clear h1 AK HX hb x1 x2
   go_wp2_with fail
   refine (a0D er w1).mono ?_;rintro e w2 ⟨rfl,hb2⟩;have HF:=a0b (HH.out.refuse BX.out QX.out hb2 HD.out);obtain⟨q0,q1,q2,q3,q4,q5,q6,fq⟩:=HF.out.1;simp only[a0s]
   go_wp2_with fail
   exact d0O Tryz.results98 ⟨q0,q1,q2,q3,q4,q5,q6,fq⟩ ⟨_,rfl,HF.out.2⟩
  ·have HD:=a0b (b3H h1);have y1:=a0a hb x1;have y2:=a0a hb x2;have hs1:w.heap.size+3<=w1.heap.size:=by have:=hb.size;omega
   have TL:=a0b (b2y (w:=w1) (s:=s) ⟨HH.out.dk.later BX.out,HH.out.of,HH.out.wl,HH.out.hl,HH.out.inv⟩ hi 0 1048320);rw[e1] at TL;clear h1 AK HX hb x1 x2 e1 e2
   go_wp2_with fail
   refine TL.out.mono ?_;rintro e w2 ⟨v,l,rfl,hl,er,hb2⟩;obtain⟨a1,c1,rfl⟩:=a0B er.own;have hq:=hb2.block (w.heap.size+1) (World.block_lt_of_cell? _ _ QX.out.q0)
   have HF:Hid (∀ a b c e f g i,a0l w d col (Desk.a0g s (.list name 0 1048320)) (a0s 0 0 0 (.slice a1 l.length c1) (.slice none 0 0) (.slice none 0 0) (.slice none 0 0)) (a2w w2 (w.heap.size+1) a b c e f g i)):=fun a b c e f g i=>by
    rw[HD.out,<- hl];exact HH.out.ansEntries (BX.out.trans (hb2.mono BX.out.size)) (by omega) (er.base (by omega)) a b c e f g i
   obtain⟨q0,q1,q2,q3,q4,q5,q6,fq⟩:=QX.out.later hq;clear TL er hl hb2 hq
   go_wp2_with fail
   exact d0O Tryz.results98 ⟨q0,q1,q2,q3,q4,q5,q6,fq⟩ ⟨_,rfl,HF.out _ _ _ _ _ _ _⟩
 ·simp only[if_true];obtain⟨hX,hXQ,x1,x2,hNX⟩:=b3e (w:=w) name true fr til fr til;have AK:=a0b (a4e (HH.out.dk.later hX) HH.out.of HH.out.mid name hn 0 fr til);have HX:=a0b (And.intro hX hXQ);clear hX hXQ
  go_enter Tryz.func98,Tryz.ntmps98
  unfold a0f at AK HX x1 x2 hNX
  go_upto_region 9 with fail
  generalize (((w.alloc (.cells #[.string name,.bool true,.int .i64 fr,.int .i64 til] 170)).alloc (.cells #[.int .i64 0,.int .i64 0,.int .i64 0,.slice none 0 0,.slice none 0 0,.slice none 0 0,.slice none 0 0] 40)).alloc (.cells #[.int .i64 fr,.int .i64 til] 60))=X at *;refine AK.out.mono ?_;rintro e w1 ⟨hp,hb⟩;have BX:Hid (Below w.heap.size w w1):=HX.out.1.trans (hb.mono HX.out.1.size);have QX:Hid (Q7 w1 (w.heap.size+1)):=(Q7.of HX.out.2).later (hb.block _ (by omega));rcases hp with ⟨h1,rfl⟩|⟨h1,i,hi,e1,e2,rfl⟩
  ·have HD:=a0b (a6V HH.out.mid h1);generalize a1c s name 0 fr til=er at *;have hb1:(er != 0)=true:=by simpa using h1
   clear h1 AK HX hb x1 x2
   go_wp2_with fail
   refine (a0D er w1).mono ?_;rintro e w2 ⟨rfl,hb2⟩;have HF:=a0b (HH.out.refuse BX.out QX.out hb2 HD.out);obtain⟨q0,q1,q2,q3,q4,q5,q6,fq⟩:=HF.out.1;simp only[a0s]
   go_wp2_with fail
   exact d0O Tryz.results98 ⟨q0,q1,q2,q3,q4,q5,q6,fq⟩ ⟨_,rfl,HF.out.2⟩
  ·have HD:=a0b (b3H h1);have y1:=a0a hb x1;have y2:=a0a hb x2;have hs1:w.heap.size+3<=w1.heap.size:=by have:=hb.size;omega
   have TL:=a0b (b2y (w:=w1) (s:=s) ⟨HH.out.dk.later BX.out,HH.out.of,HH.out.wl,HH.out.hl,HH.out.inv⟩ hi fr til);rw[e1] at TL;clear h1 AK HX hb x1 x2 e1 e2
   go_wp2_with fail
   refine TL.out.mono ?_;rintro e w2 ⟨v,l,rfl,hl,er,hb2⟩;obtain⟨a1,c1,rfl⟩:=a0B er.own;have hq:=hb2.block (w.heap.size+1) (World.block_lt_of_cell? _ _ QX.out.q0)
   have HF:Hid (∀ a b c e f g i,a0l w d col (Desk.a0g s (.list name fr til)) (a0s 0 0 0 (.slice a1 l.length c1) (.slice none 0 0) (.slice none 0 0) (.slice none 0 0)) (a2w w2 (w.heap.size+1) a b c e f g i)):=fun a b c e f g i=>by
    rw[HD.out,<- hl];exact HH.out.ansEntries (BX.out.trans (hb2.mono BX.out.size)) (by omega) (er.base (by omega)) a b c e f g i
   obtain⟨q0,q1,q2,q3,q4,q5,q6,fq⟩:=QX.out.later hq;clear TL er hl hb2 hq
   go_wp2_with fail
   exact d0O Tryz.results98 ⟨q0,q1,q2,q3,q4,q5,q6,fq⟩ ⟨_,rfl,HF.out _ _ _ _ _ _ _⟩
theorem b5D(h:DSt w d s rw_ col)(name:ByteArray)(hn:name.size<=1000)(wi:Bool)(fr til a b:Int)(ha:(if wi then fr else 0)=a)(hb:(if wi then til else 1048320)=b):
  Calls Tryz.prog 64 #[.pointer (some ⟨d,0,none⟩),.iface 170 (.agg #[.string name,.bool wi,.int .i64 fr,.int .i64 til])] w fun e w'=>∃ v,e=.returned v/\a0l w d col (Desk.a0g s (.list name a b)) v w':=by
 have HX:=a0b (h.kit (.cells #[.string name,.bool wi,.int .i64 fr,.int .i64 til] 170));have EF:=a0b (c2Q HX.out.1 name hn wi fr til);rw[ha,hb] at EF;clear h ha hb;unfold a0f at EF HX;have noThing:=d0q 170 (by decide);have noBook:=d2o 170 (by decide);have noHold:=d2F 170 (by decide);have noWait:=d3H 170 (by decide);have noSeries:=d0K 170 (by decide);have noConfirm:=d0y 170 (by decide);have noCancel:=d1Q 170 (by decide);have yesList:=e9l Tryz.underlying170
 go_enter Tryz.func64,Tryz.ntmps64
 go_wp2_with fail
 refine EF.out.mono ?_;rintro e w2 ⟨v,rfl,ep⟩;obtain⟨er,at_,nn,a1,a2,a3,a4,n1,n2,n3,n4,c1,c2,c3,c4,rfl,q7,hf⟩:=ep.upA HX.out.2;have HF:=a0b hf;clear ep hf EF noThing noBook noHold noWait noSeries noConfirm noCancel yesList;obtain⟨q0,q1,q2,q3,q4,q5,q6,fq⟩:=q7;simp only[a0s]
 go_wp2_with fail
 exact d0O Tryz.results64 ⟨q0,q1,q2,q3,q4,q5,q6,fq⟩ ⟨_,rfl,HF.out⟩
namespace Desk
theorem a6h(ts:List (ByteArray × Int)):∀ (r done:List Ent),(a0O ts done r).2.length<=r.length
 |[],done=>by simp[a0O]
 |e :: r,done=>by
  simp only[a0O]
  split
  ·show ((a0O ts (done++[a0Q e]) r).2.length+1)<=_;have:=a6h ts r (done++[a0Q e]);simp;omega
  ·have:=a6h ts r (done++[e]);simp;omega
theorem b8x(ts:List (ByteArray × Int))(es:List Ent):(a0R ts es).2.length<=es.length:=a6h ts es []
theorem b0s(ts:List (ByteArray × Int))(tq:Int)(N:Nat):∀ (k:Nat)(es:List Ent)(now:Int),es.length<=N->(a1K ts k es now tq).2.2.length<=k*N
 |0,es,now,_=>by simp[a1K]
 |k+1,es,now,h=>by
  simp only[a1K]
  split
  ·have hf:(es.filter fun e=>!a0z (a3D tq es) e).length<=N:=Nat.le_trans (List.length_filter_le _ _) h;have h1:=b8x ts (es.filter fun e=>!a0z (a3D tq es) e);have h2:=b0s ts tq N k (a0R ts (es.filter fun e=>!a0z (a3D tq es) e)).1 (a3D tq es) (by rw[a7H];exact hf);rw[List.length_append,Nat.succ_mul];omega
  ·simp
theorem c3u(h:Mid s)(l:a7U):(a0g s l).2.granted.length<=50000:=by
 have hl:=a1x h
 cases l with
 |tick n =>
  simp only[a0g]
  split
  ·simp[Rep.error]
  ·have h1:=b0s s.ts (s.now+n) 60 (s.es.length+1) s.es s.now hl;show (a1K s.ts (s.es.length+1) s.es s.now (s.now+n)).2.2.length<=50000;have:(s.es.length+1)*60<=61*60:=Nat.mul_le_mul_right _ (by omega);omega
 |confirm id=>simp only[a0g];split <;> (try split) <;> simp[Rep.error,Rep.num]
 |cancel id=>simp only[a0g];split <;> simp[Rep.error,Rep.num]
 |waiting=>simp[a0g,Rep.num]
 |clock=>simp[a0g,Rep.num]
 |a0k=>simp only[a0g];split <;> (try split) <;> simp[Rep.error,Rep.num]
 |enter=>simp only[a0g,a2t];split <;> simp[Rep.error,Rep.num]
 |series=>simp only[a0g,a2t];split <;> simp[Rep.error,Rep.num]
 |list=>simp only[a0g];split <;> (try split) <;> simp[Rep.error,Rep.num]
 |peak=>simp only[a0g];split <;> (try split) <;> simp[Rep.error,Rep.num]
 |find=>simp only[a0g];split <;> (try split) <;> simp[Rep.error,Rep.num]
 |expand=>simp only[a0g];split <;> simp[Rep.error,Rep.num]
end Desk
inductive LV:Value->Desk.a7U->Prop where
 |a0k (name:ByteArray) (hn:name.size<=1000) (u:Int):LV (.iface 149 (.agg #[.string name,.int .i64 u])) (.a0k name u)
 |book (name:ByteArray) (hn:name.size<=1000) (u fr til:Int):LV (.iface 154 (.agg #[.string name,.int .i64 u,.int .i64 fr,.int .i64 til])) (.enter 1 name u fr til 0)
 |hold (name:ByteArray) (hn:name.size<=1000) (u fr til long:Int):LV (.iface 156 (.agg #[.string name,.int .i64 u,.int .i64 fr,.int .i64 til,.int .i64 long])) (.enter 2 name u fr til long)
 |wait (name:ByteArray) (hn:name.size<=1000) (u fr til long:Int):LV (.iface 157 (.agg #[.string name,.int .i64 u,.int .i64 fr,.int .i64 til,.int .i64 long])) (.enter 3 name u fr til long)
 |series (name:ByteArray) (hn:name.size<=1000) (u:Int) (r:Rd.a0Y):LV (.iface 165 (.agg #[.string name,.int .i64 u,.int .i64 r.pc,.int .i64 r.ev,.bool (isd r.acc 0),.bool (isd r.acc 1),.bool (isd r.acc 2),.bool (isd r.acc 3),.bool (isd r.acc 4),.bool (isd r.acc 5),.bool (isd r.acc 6),.int .i64 r.fr,.int .i64 r.mn,.int .i64 r.mi,.int .i64 r.ti,.int .i64 r.un])) (.series name u r)
 |confirm (id:Int):LV (.iface 167 (.agg #[.int .i64 id])) (.confirm id)
 |cancel (id:Int):LV (.iface 168 (.agg #[.int .i64 id])) (.cancel id)
 |list (name:ByteArray) (hn:name.size<=1000) (wi:Bool) (fr til a b:Int) (ha:(if wi then fr else 0)=a) (hb:(if wi then til else 1048320)=b):LV (.iface 170 (.agg #[.string name,.bool wi,.int .i64 fr,.int .i64 til])) (.list name a b)
 |waiting:LV (.iface 173 (.agg #[])) (.waiting)
 |peak (name:ByteArray) (hn:name.size<=1000) (fr til:Int):LV (.iface 176 (.agg #[.string name,.int .i64 fr,.int .i64 til])) (.peak name fr til)
 |find (name:ByteArray) (hn:name.size<=1000) (u long fr til:Int):LV (.iface 178 (.agg #[.string name,.int .i64 u,.int .i64 long,.int .i64 fr,.int .i64 til])) (.find name u long fr til)
 |expand (r:Rd.a0Y):LV (.iface 180 (.agg #[.int .i64 r.pc,.int .i64 r.ev,.bool (isd r.acc 0),.bool (isd r.acc 1),.bool (isd r.acc 2),.bool (isd r.acc 3),.bool (isd r.acc 4),.bool (isd r.acc 5),.bool (isd r.acc 6),.int .i64 r.fr,.int .i64 r.mn,.int .i64 r.mi,.int .i64 r.ti,.int .i64 r.un])) (.expand r)
 |tick (n:Int):LV (.iface 182 (.agg #[.int .i64 n])) (.tick n)
 |clock:LV (.iface 183 (.agg #[])) (.clock)
theorem b8R(h:DSt w d s rw_ col)(ht:Tab w)(h10:10<=w.heap.size){line:Value}{l:Desk.a7U}(hv:LV line l)(hl:Desk.a1O l):
  Calls Tryz.prog 64 #[.pointer (some ⟨d,0,none⟩),line] w fun e w'=>∃ v,e=.returned v/\a0l w d col (Desk.a0g s l) v w':=by
 cases hv with
 |a0k name hn u=>exact b3V h name hn u
 |book name hn u fr til=>exact b5G h name hn u fr til hl
 |hold name hn u fr til long=>exact b5E h name hn u fr til long hl
 |wait name hn u fr til long=>exact b5A h name hn u fr til long hl
 |series name hn u r=>exact b2l h ht h10 name hn u r hl
 |confirm id=>exact b0l h id hl
 |cancel id=>exact b2n h id hl
 |list name hn wi fr til a b ha hb=>exact b5D h name hn wi fr til a b ha hb
 |waiting=>exact b0k h
 |peak name hn fr til=>exact b5C h name hn fr til hl
 |find name hn u long fr til=>exact b5F h name hn u long fr til hl
 |expand r=>exact b2m h ht h10 r hl
 |tick n=>exact b5B h n hl
 |clock=>exact b3W h
theorem f4d{s:ByteArray}(h:a1s x s=true):s=x:=by
 have e:s.toList=x.toList:=eq_of_beq h;rw[ByteArray.toList_eq,ByteArray.toList_eq] at e;exact Txt.a7x e
theorem c4A{B:ByteArray->Bool}(h:n<ws.length)(hB:B (ws.getD n ByteArray.empty)=true):stp ws B (n,false)=(n+1,false):=by
 simp only[stp,tkN,tkW,tkB,a1b,hB,h,decide_true,Bool.not_false,Bool.and_self,if_true]
theorem a6y(ws:List ByteArray)(st:Nat × Bool):a0M ws [] st=st:=rfl
theorem b4m{B:ByteArray->Bool}{wr:Bool}(h:tkB ws n wr B=true):wr=false/\n<ws.length/\B (ws.getD n ByteArray.empty)=true:=by
 unfold tkB a1b at h;simp only[Bool.and_eq_true,Bool.not_eq_true',decide_eq_true_eq] at h;exact⟨h.1.1,h.1.2,h.2⟩
theorem a8u{B:ByteArray->Bool}(h:(stp ws B st).2=false):tkB ws st.1 st.2 B=true:=by
 unfold stp tkW at h
 cases e:tkB ws st.1 st.2 B
 ·rw[e] at h;simp at h
 ·rfl
theorem a0H{B:ByteArray->Bool}(h:(stp ws B st).2=false):st.2=false:=(b4m (a8u h)).1
theorem a0F{B:ByteArray->Bool}(h:(stp ws B st).2=false):∃ x,B x=true/\∀ V,a0v ws st B V=V x:=by
 have t:=a8u h;exact⟨_,(b4m t).2.2,fun V=>by unfold a0v tkV;rw[t];rfl⟩
theorem b7G(h:unB x=true):1<=nvF x/\nvF x<=9:=by
 unfold unB a0K at h;simp only[Bool.and_eq_true,decide_eq_true_eq] at h;exact⟨h.1.2,h.2⟩
theorem c0p(h:miB x=true):1<=nvF x/\nvF x<=1048320:=by
 unfold miB a0K at h;simp only[Bool.and_eq_true,decide_eq_true_eq] at h;exact⟨h.1.2,h.2⟩
theorem c3l(h:evB x=true):1<=nvF x/\nvF x<=99:=by
 unfold evB a0K at h;simp only[Bool.and_eq_true,decide_eq_true_eq] at h;exact⟨h.1.2,h.2⟩
theorem c6p(x:ByteArray):0<=nvF x/\nvF x<=9999999:=Txt.a2B _
theorem a2Y(h:a0n x=true):0<=a1J x/\a1J x<=1048320:=by
 unfold a1J;rw[if_pos h];unfold a0n at h;simp only[Bool.and_eq_true,decide_eq_true_eq] at h;exact h.2
theorem c1g(h:Txt.a2y x=true):0<=b0a x/\b0a x<728:=by
 unfold b0a;rw[if_pos h];unfold Txt.a2y at h;exact (of_decide_eq_true h).2
theorem c6h(h:Txt.a3a x=true):0<=Txt.a6J x/\Txt.a6J x<1440:=by
 unfold Txt.a6J;rw[if_pos h];unfold Txt.a3a at h;obtain⟨_,_,_,_,h1,h2⟩:=of_decide_eq_true h;have:=Txt.a2B (Txt.part x 0 2);have:=Txt.a2B (Txt.part x 3 5);omega
theorem a4o(h:nmB x=true):x.size<=1000:=by
 unfold nmB Txt.a1j at h;rw[Bool.and_eq_true] at h;have:=of_decide_eq_true h.1;have e:x.size=x.data.toList.length:=by rw[Array.length_toList];rfl
 omega
theorem b7b{s:Nat × Bool}(h:c3M ws st ti un s)(h2:s.2=false):st.2=false/\0<=ti/\ti<=99/\0<=un/\un<728:=by
 cases h with
 |times h =>
  have h2':(stp ws evB (nxt st)).2=false:=h2;obtain⟨x,hx,hv⟩:=a0F h2';have:=c3l hx;have hs:(nxt st).2=false:=a0H h2';rw[hv nvF];exact⟨hs,by omega,by omega,by omega,by omega⟩
 |til h1 h =>
  have h2':(stp ws Txt.a2y (nxt st)).2=false:=h2;obtain⟨x,hx,hv⟩:=a0F h2';have:=c1g hx;have hs:(nxt st).2=false:=a0H h2';rw[hv b0a];exact⟨hs,by omega,by omega,by omega,by omega⟩
 |none h1 h=>cases h2
theorem b9P{ev:Int}{s:Nat × Bool}(h:b0n ws st pc ev acc s)(h2:s.2=false):st.2=false/\1<=pc/\pc<=3/\1<=ev/\ev<=99:=by
 cases h with
 |daily h =>
  have h2':(stp ws evB (nxt st)).2=false:=h2;obtain⟨x,hx,hv⟩:=a0F h2';have:=c3l hx;have hs:(nxt st).2=false:=a0H h2';rw[hv nvF];exact⟨hs,by omega,by omega,by omega,by omega⟩
 |weekly h1 h acc ha =>
  have h2':(stp ws Txt.onB (stp ws evB (nxt st))).2=false:=h2;have h3:=a0H h2';obtain⟨x,hx,hv⟩:=a0F h3;have:=c3l hx;have hs:(nxt st).2=false:=a0H h3;rw[hv nvF];exact⟨hs,by omega,by omega,by omega,by omega⟩
 |monthly g1 g2 g =>
  have h2':(stp ws evB (nxt st)).2=false:=h2;obtain⟨x,hx,hv⟩:=a0F h2';have:=c3l hx;have hs:(nxt st).2=false:=a0H h2';rw[hv nvF];exact⟨hs,by omega,by omega,by omega,by omega⟩
 |none g1 g2 g=>cases h2
theorem a7m{ev:Int}{s:Nat × Bool}(h:b0m ws st pc ev acc fr mn mi ti un s):∃ s0,b0n ws st pc ev acc s0/\c3M ws (c4Y ws s0) ti un s/\fr=a0v ws (a0M ws [a1s a1t] s0) Txt.a2y b0a/\mn=a0v ws (a0M ws [a1s a1t,Txt.a2y,a1s atW] s0) Txt.a3a Txt.a6J/\mi=a0v ws (a0M ws [a1s a1t,Txt.a2y,a1s atW,Txt.a3a,a1s b3z] s0) miB nvF:=by
 cases h
 exact⟨_,by assumption,by assumption,rfl,rfl,rfl⟩
theorem b2O{ev:Int}{s:Nat × Bool}(h:b0m ws st pc ev acc fr mn mi ti un s)(h2:s.2=false):st.2=false/\Rd.a6s ⟨pc,ev,acc,fr,mn,mi,ti,un⟩:=by
 obtain⟨s0,hp,he,rfl,rfl,rfl⟩:=a7m h;obtain⟨hm,t0,t1,u0,u1⟩:=b7b he h2;have m6:(stp ws miB (stp ws (a1s b3z) (stp ws Txt.a3a (stp ws (a1s atW) (stp ws Txt.a2y (stp ws (a1s a1t) s0)))))).2=false:=hm;have m5:=a0H m6;have m4:=a0H m5;have m3:=a0H m4;have m2:=a0H m3;have m1:=a0H m2;obtain⟨hs,p1,p3,e1,e2⟩:=b9P hp (a0H m1);obtain⟨xi,hi,vi⟩:=a0F m6;obtain⟨xm,hx,vm⟩:=a0F m4;obtain⟨xd,hd,vd⟩:=a0F m2;have b1:=c0p hi;have b2:=c6h hx;have b3:=c1g hd;refine⟨hs,⟨p1,p3,e1,e2,?_,?_,?_,?_,?_,?_,t0,t1,u0,u1⟩⟩
 ·show 0<=a0v ws (stp ws (a1s a1t) s0) Txt.a2y b0a;rw[vd];exact b3.1
 ·show a0v ws (stp ws (a1s a1t) s0) Txt.a2y b0a<728;rw[vd];exact b3.2
 ·show 0<=a0v ws (stp ws (a1s atW) (stp ws Txt.a2y (stp ws (a1s a1t) s0))) Txt.a3a Txt.a6J;rw[vm];exact b2.1
 ·show a0v ws (stp ws (a1s atW) (stp ws Txt.a2y (stp ws (a1s a1t) s0))) Txt.a3a Txt.a6J<1440;rw[vm];exact b2.2
 ·show 1<=a0v ws (stp ws (a1s b3z) (stp ws Txt.a3a (stp ws (a1s atW) (stp ws Txt.a2y (stp ws (a1s a1t) s0))))) miB nvF;rw[vi];exact b1.1
 ·show a0v ws (stp ws (a1s b3z) (stp ws Txt.a3a (stp ws (a1s atW) (stp ws Txt.a2y (stp ws (a1s a1t) s0))))) miB nvF<=1048320;rw[vi];exact b1.2
theorem c6m(h:isB ws 0 false x=true)(y:ByteArray):isB ws 0 false y=(x.toList==y.toList):=by
 unfold isB at h ⊢;rw[Bool.and_eq_true] at h;have e:=eq_of_beq h.2;rw[h.1,e,Bool.true_and]
def c2h:Value->Nat
 |.iface t _=>t
 |_=>0
def tyL:List (ByteArray × Nat):=[(a3F,149),(a9P,154),(b5f,156),(b4k,157),(a7l,165),(a4z,167),(a6m,168),(a5Q,170),(a5q,173),(a9a,176),(b5h,178),(a7M,180),(b4n,182),(b1c,183)]
def tyF(f:ByteArray->Bool):Nat:=((tyL.find? fun p=>f p.1).map (·.2)).getD 0
theorem a3p(h:isB ws 0 false x=true):tyF (isB ws 0 false)=tyF (fun y=>x.toList==y.toList):=by
 rw[show isB ws 0 false=fun y=>x.toList==y.toList from funext (c6m h)]
theorem a2H.tag{s:Nat × Bool}(h:a2H ws v s):c2h v=tyF (isB ws 0 false):=by
 cases h with
 |none h0 h1 h2 h3 h4 h5 h6 h7 h8 h9 h10 h11 h12 h13=>simp[c2h,tyF,tyL,h0,h1,h2,h3,h4,h5,h6,h7,h8,h9,h10,h11,h12,h13]
 |a0k h=>rw[a3p h];exact (by decide +kernel:149=tyF (fun y=>a3F.toList==y.toList))
 |book h=>rw[a3p h];exact (by decide +kernel:154=tyF (fun y=>a9P.toList==y.toList))
 |hold h=>rw[a3p h];exact (by decide +kernel:156=tyF (fun y=>b5f.toList==y.toList))
 |wait h=>rw[a3p h];exact (by decide +kernel:157=tyF (fun y=>b4k.toList==y.toList))
 |series h=>rw[a3p h];exact (by decide +kernel:165=tyF (fun y=>a7l.toList==y.toList))
 |confirm h=>rw[a3p h];exact (by decide +kernel:167=tyF (fun y=>a4z.toList==y.toList))
 |cancel h=>rw[a3p h];exact (by decide +kernel:168=tyF (fun y=>a6m.toList==y.toList))
 |list0 h=>rw[a3p h];exact (by decide +kernel:170=tyF (fun y=>a5Q.toList==y.toList))
 |list1 h=>rw[a3p h];exact (by decide +kernel:170=tyF (fun y=>a5Q.toList==y.toList))
 |waiting h=>rw[a3p h];exact (by decide +kernel:173=tyF (fun y=>a5q.toList==y.toList))
 |peak h=>rw[a3p h];exact (by decide +kernel:176=tyF (fun y=>a9a.toList==y.toList))
 |find h=>rw[a3p h];exact (by decide +kernel:178=tyF (fun y=>b5h.toList==y.toList))
 |expand h=>rw[a3p h];exact (by decide +kernel:180=tyF (fun y=>a7M.toList==y.toList))
 |tick h=>rw[a3p h];exact (by decide +kernel:182=tyF (fun y=>b4n.toList==y.toList))
 |clock h=>rw[a3p h];exact (by decide +kernel:183=tyF (fun y=>b1c.toList==y.toList))
theorem c5u{s:Nat × Bool}(h:c3M ws st ti un s)(h':c3M ws st ti' un' s'):s=s'/\ti=ti'/\un=un':=by
 cases h <;> cases h' <;> first|exact⟨rfl,rfl,rfl⟩|(simp_all;done)
theorem c2F{ev:Int}{s:Nat × Bool}(h:b0n ws st pc ev acc s)(h':b0n ws st pc' ev' acc' s'):s=s'/\pc=pc'/\ev=ev'/\(s.2=false->acc=acc'):=by
 cases h with
 |daily h=>cases h' <;> first|exact⟨rfl,rfl,rfl,fun _=>rfl⟩|(simp_all;done)
 |monthly h1 h2 h=>cases h' <;> first|exact⟨rfl,rfl,rfl,fun _=>rfl⟩|(simp_all;done)
 |none h1 h2 h=>cases h' <;> first|exact⟨rfl,rfl,rfl,fun _=>rfl⟩|(simp_all;done)
 |weekly h1 h acc ha =>
  cases h' with
  |daily g=>rw[g] at h1;cases h1
  |weekly g1 g acc' ga =>
   refine⟨rfl,rfl,rfl,fun h2=>?_⟩;have t:tkB ws (a0M ws [evB] (nxt st)).1 (a0M ws [evB] (nxt st)).2 Txt.onB=true:=a8u (B:=Txt.onB) (st:=a0M ws [evB] (nxt st)) h2;exact Option.some.inj ((ha t).symm.trans (ga t))
  |monthly g1 g2 g=>rw[h] at g2;cases g2
  |none g1 g2 g=>rw[h] at g2;cases g2
theorem b6f{ev:Int}{s:Nat × Bool}{fr' mn' mi':Int}(h:b0m ws st pc ev acc fr mn mi ti un s)(h':b0m ws st pc' ev' acc' fr' mn' mi' ti' un' s'):
  s=s'/\pc=pc'/\ev=ev'/\(s.2=false->acc=acc')/\fr=fr'/\mn=mn'/\mi=mi'/\ti=ti'/\un=un':=by
 obtain⟨s0,hp,he,rfl,rfl,rfl⟩:=a7m h;obtain⟨s0',hp',he',rfl,rfl,rfl⟩:=a7m h';obtain⟨rfl,rfl,rfl,ha⟩:=c2F hp hp';obtain⟨rfl,rfl,rfl⟩:=c5u he he';refine⟨rfl,rfl,rfl,fun h2=>ha ?_,rfl,rfl,rfl,rfl,rfl⟩;have hm:=(b7b he h2).1;have m6:(stp ws miB (stp ws (a1s b3z) (stp ws Txt.a3a (stp ws (a1s atW) (stp ws Txt.a2y (stp ws (a1s a1t) s0)))))).2=false:=hm;exact a0H (a0H (a0H (a0H (a0H (a0H m6)))))
theorem a8x{s:Nat × Bool}(h1:a2H ws v s)(h2:a2H ws v' s'):s=s'/\(s.2=false->v=v'):=by
 have e:c2h v=c2h v':=h1.tag.trans h2.tag.symm
 cases h1 with
 |series h pc ev acc fr mn mi ti un s hr =>
  cases h2 with
  |series h' pc' ev' acc' fr' mn' mi' ti' un' s' hr' =>
   obtain⟨rfl,rfl,rfl,ha,rfl,rfl,rfl,rfl,rfl⟩:=b6f hr hr';exact⟨rfl,fun h2=>by rw[ha h2]⟩
  |_=>exact absurd e (by simp[c2h])
 |expand h pc ev acc fr mn mi ti un s hr =>
  cases h2 with
  |expand h' pc' ev' acc' fr' mn' mi' ti' un' s' hr' =>
   obtain⟨rfl,rfl,rfl,ha,rfl,rfl,rfl,rfl,rfl⟩:=b6f hr hr';exact⟨rfl,fun h2=>by rw[ha h2]⟩
  |_=>exact absurd e (by simp[c2h])
 |list0 h hm =>
  cases h2 with
  |list0 h' hm'=>exact⟨rfl,fun _=>rfl⟩
  |list1 h' hm'=>rw[hm] at hm';cases hm'
  |_=>exact absurd e (by simp[c2h])
 |list1 h hm =>
  cases h2 with
  |list0 h' hm'=>rw[hm] at hm';cases hm'
  |list1 h' hm'=>exact⟨rfl,fun _=>rfl⟩
  |_=>exact absurd e (by simp[c2h])
 |_=>cases h2 <;> first|exact⟨rfl,fun _=>rfl⟩|exact absurd e (by simp[c2h])
theorem a8v{t:ByteArray}{e e':Ending}(h:a7T t e)(h':a7T t e'):e=e':=by
 cases h with
 |long h =>
  cases h' with
  |long h'=>rfl
  |bad h'=>omega
  |e6J h'=>omega
 |bad h v st hl hb =>
  cases h' with
  |long h'=>omega
  |bad h' v' st' hl' hb'=>obtain⟨rfl,_⟩:=a8x hl hl';rfl
  |e6J h' v' st' hl' h2 hb' =>
   obtain⟨rfl,_⟩:=a8x hl hl';rcases hb with hb|hb
   ·rw[h2] at hb;cases hb
   ·rw[hb'] at hb;cases hb
 |e6J h v st hl h2 hb =>
  cases h' with
  |long h'=>omega
  |bad h' v' st' hl' hb' =>
   obtain⟨rfl,_⟩:=a8x hl hl';rcases hb' with hb' |hb'
   ·rw[h2] at hb';cases hb'
   ·rw[hb] at hb';cases hb'
  |e6J h' v' st' hl' h2' hb'=>obtain⟨rfl,hv⟩:=a8x hl hl';rw[hv h2]
def c4m(t:ByteArray):(Int × Int) ⊕ Desk.a7U->Prop
 |.inl (er,at_)=>er≠0/\(er=1/\at_=0\/er=2/\0<=at_)/\∀ e,a7T t e->e=.returned (.tuple #[.nilIface,.int .i64 er,.int .i64 at_])
 |.inr l=>∃ line,(∀ e,a7T t e->e=.returned (.tuple #[line,.int .i64 0,.int .i64 0]))/\LV line l/\Desk.a1O l
end Go.Proofs.YtfigmlfdnickmaaGreatDoor
namespace Go.Proofs.YtfigmlfdnickmaaGreatDoor.Txt
open Go
theorem b5p:∀ (k u:Nat),u<10 ^ (k+1)->(Lib.decDigits u).length<=k+1
 |0,u,h=>by rw[Lib.decDigits];simp at h;rw[dif_pos h];simp
 |k+1,u,h=>by
  rw[Lib.decDigits]
  split
  ·simp
  ·have:=b5p k (u / 10) (by rw[Nat.pow_succ] at h;omega);simp;omega
def a0x(n:Int):ByteArray:=⟨(Lib.itoa n).toArray⟩
theorem a0I(n:Int)(h0:0<=n)(h:n<=9999999):(a0x n).size<=7:=by
 rw[<- a1d];unfold a0x Lib.itoa;rw[if_neg (by omega)];have:=b5p 6 n.toNat (by omega)
 simpa using this
def pz:Nat->ByteArray->ByteArray
 |0,t=>t
 |k+1,t=>pz k (⟨#[48]⟩++t)
def b8V(n:Int)(size:Nat):ByteArray:=pz (size-(a0x n).size) (a0x n)
theorem e2f:∀ (k:Nat)(t:ByteArray),(pz k t).size=k+t.size
 |0,t=>by simp[pz]
 |k+1,t=>by
  rw[pz,e2f k];have:(⟨#[48]⟩++t:ByteArray).size=1+t.size:=ByteArray.size_append;omega
theorem d1q(n:Int)(size:Nat)(h0:0<=n)(h:n<=9999999):(b8V n size).size<=size+7:=by
 unfold b8V;rw[e2f];have:=a0I n h0 h;omega
theorem e2g:∀ (k:Nat)(t:ByteArray),(pz k t).data.toList=List.replicate k 48++t.data.toList
 |0,t=>rfl
 |k+1,t=>by
  rw[pz,e2g k,a1X];rw[show (ByteArray.mk #[48]).data.toList=[48] from rfl,<- List.append_assoc]
  congr 1
  rw[List.replicate_succ']
theorem d7B(c:UInt8)(h:dig c=true)(u:Nat)(hu:(u:Int)=(c.toNat:Int)-48):UInt8.ofNat (48+u)=c:=by
 have:=(a6k c).1 h;apply UInt8.toNat_inj.1;rw[UInt8.toNat_ofNat'];omega
theorem c1f(u:Nat)(h:u<10):Lib.decDigits u=[UInt8.ofNat (48+u)]:=by
 rw[Lib.decDigits,dif_pos h]
theorem c5x(u:Nat)(h:¬ u<10):Lib.decDigits u=Lib.decDigits (u / 10)++[UInt8.ofNat (48+u % 10)]:=by
 rw[Lib.decDigits,dif_neg h]
theorem e9N:∀ (n:Nat)(l:List UInt8),l.length=n+1->a6j l=true->List.replicate (n+1-(Lib.decDigits (b4R l).toNat).length) 48++Lib.decDigits (b4R l).toNat=l/\0<=b4R l/\(Lib.decDigits (b4R l).toNat).length<=n+1
 |0,l,hl,hd=>by
  match l,hl with
  |[c],_ =>
   simp only[a6j,List.all_cons,List.all_nil,Bool.and_true] at hd;have hc:=(a6k c).1 hd;have e:b4R [c]=(c.toNat:Int)-48:=by simp[b4R]
   rw[e,c1f _ (by omega)];refine⟨?_,by omega,by simp⟩;simp only[List.length_singleton,Nat.sub_self,List.replicate_zero,List.nil_append];rw[d7B c hd _ (by omega)]
 |n+1,l,hl,hd=>by
  obtain⟨m,c,rfl⟩:∃ m c,l=m++[c]:=by
   have hne:l≠[]:=by intro e;subst e;simp at hl
   exact⟨l.dropLast,l.getLast hne,(List.dropLast_concat_getLast hne).symm⟩
  rw[a6X,Bool.and_eq_true] at hd;have hc:=(a6k c).1 hd.2;have hml:m.length=n+1:=by simp at hl;exact hl
  obtain⟨i1,i2,i3⟩:=e9N n m hml hd.1;rw[b2Y];obtain⟨a,ha⟩:=Int.eq_ofNat_of_zero_le i2;rw[ha] at i1 i3 ⊢;simp only[Int.toNat_natCast] at i1 i3;have et:((a:Int)*10+((c.toNat:Int)-48)).toNat=a*10+(c.toNat-48):=by omega
  rw[et];have hcn:c.toNat-48<10:=by omega
  by_cases ha0:a=0
  ·subst ha0;have e0:(0:Nat)*10+(c.toNat-48)=c.toNat-48:=by omega
   rw[e0,c1f _ hcn,d7B c hd.2 _ (by omega)];refine⟨?_,by omega,by simp⟩;rw[c1f 0 (by omega)] at i1;simp only[List.length_singleton] at i1 ⊢;rw[show n+1+1-1=n+1 from by omega];rw[<- i1]
   congr 1
   rw[show n+1-1=n from by omega,List.replicate_succ'];rfl
  ·rw[c5x _ (by omega),show (a*10+(c.toNat-48)) / 10=a from by omega,show (a*10+(c.toNat-48)) % 10=c.toNat-48 from by omega,d7B c hd.2 _ (by omega)];refine⟨?_,by omega,by simp;omega⟩;rw[List.length_append,List.length_singleton,show n+1+1-((Lib.decDigits a).length+1)=n+1-(Lib.decDigits a).length from by omega,<- List.append_assoc,i1]
theorem f6E(t:ByteArray)(n:Nat)(h:t.size=n+1)(hd:a6j t.data.toList=true):b8V (b4R t.data.toList) (n+1)=t:=by
 obtain⟨h1,h2,_⟩:=e9N n t.data.toList (by rw[a1d];exact h) hd;apply a7x;unfold b8V;have e:a0x (b4R t.data.toList)=⟨(Lib.decDigits (b4R t.data.toList).toNat).toArray⟩:=by unfold a0x Lib.itoa;rw[if_neg (by omega)]
 rw[e2g,e];have sz:(ByteArray.mk (Lib.decDigits (b4R t.data.toList).toNat).toArray).size=(Lib.decDigits (b4R t.data.toList).toNat).length:=by rw[<- a1d]
 rw[sz];exact h1
end Go.Proofs.YtfigmlfdnickmaaGreatDoor.Txt
namespace Go.Proofs.YtfigmlfdnickmaaGreatDoor
open Go.RowKit
theorem b8w(w:World)(k:Nat)(os:Array Obj):Below w.heap.size w (Sort.grow (w.drewN k) os) :=
 ⟨rfl,rfl,rfl,by simp[Sort.grow],fun j hj=>by simp only[Sort.grow,World.heap_drewN];rw[Array.getElem?_append_left hj]⟩
theorem c2Y(n:Int)(w:World)(he:Env w)(h0:-9223372036854775808<=n)(h1:n<=9223372036854775807):
  Calls Tryz.prog 47 #[.int .i64 n] w fun e w'=>e=.returned (.string (Txt.a0x n))/\Below w.heap.size w w':=by
 refine (Tryz.strconv_Itoa n h0 h1 w he.pow).mono ?_;rintro e w' ⟨rfl,k,os,rfl⟩;exact⟨rfl,b8w w k os⟩
end Go.Proofs.YtfigmlfdnickmaaGreatDoor
namespace Go.Proofs.YtfigmlfdnickmaaGreatDoor.Txt
open Go
theorem a1l(s:ByteArray):s.data.toList.length=s.size:=by rw[Array.length_toList];rfl
end Go.Proofs.YtfigmlfdnickmaaGreatDoor.Txt
namespace Go.Proofs.YtfigmlfdnickmaaGreatDoor.Txt
open Go
end Go.Proofs.YtfigmlfdnickmaaGreatDoor.Txt
namespace Go.Proofs.YtfigmlfdnickmaaGreatDoor
open Go.RowKit
theorem a0G{x:Int}(h1:-9223372036854775808<=x)(h2:x<=9223372036854775807):IntKind.i64.wrap x=x:=by
 rw[IntKind.wrap_i64];omega
def a2s(c n:Int):Int:=(if c<0 then -(c+1) else c) % n
theorem a6G{c n:Int}(hn:1<=n):0<=a2s c n/\a2s c n<n:=⟨Int.emod_nonneg _ (by omega),Int.emod_lt_of_pos _ (by omega)⟩
open Desk (Ent St Ids kept a0C a0Q a1C a2e ofB a0y a2c Mid a1H a0z Inv)
def g2m(w:ByteArray)(lo hi:Int):Bool:=decide (lo<=b4g w 1 7/\b4g w 1 7<=hi)
def g2B(sym w:ByteArray):Bool :=
 if sym.toList==[78,65,77,69] then Txt.a1j w.data.toList else
 if sym.toList==[85,78,73,84,83] then g2m w 1 9 else
 if sym.toList==[77,73,78,85,84,69,83] then g2m w 1 1048320 else
 if sym.toList==[69,86,69,82,89] then g2m w 1 99 else
 if sym.toList==[73,68] then decide (0<=b4g w 1 7) else
 if sym.toList==[84,73,77,69] then decide (0<=g2T w) else
 if sym.toList==[68,65,84,69] then decide (0<=g2R w/\g2R w<728) else
 if sym.toList==[77,73,78,85,84,69] then decide (0<=c5N w) else
 if sym.toList==[79,78] then Txt.onB w else
 sym.toList==w.toList
theorem f9e(sym w:ByteArray)(W:World)(hs:w.size<=160):
  Calls Tryz.prog 125 #[.string sym,.string w] W fun e w'=>e=.returned (.bool (g2B sym w))/\Below W.heap.size W w':=by
 cases c0:(sym.toList==[78,65,77,69])
 case true =>
  go_enter Tryz.func125,Tryz.ntmps125
  go_wp2_with fail
  refine (b0E w 1 7 W hs (by omega) (by omega)).mono ?_;rintro e w1 ⟨rfl,hb1⟩
  go_wp2_with fail
  refine (f4Z w _ hs).mono ?_;rintro e w2 ⟨rfl,rfl⟩;go_wp2;go_ret;exact⟨a2a (by simp[g2B,c0]),hb1⟩
 cases c1:(sym.toList==[85,78,73,84,83])
 case true =>
  have HF:Hid (g2B sym w=g2m w 1 9):=by show g2B sym w=_;simp[g2B,c0,c1]
  by_cases g1:1<=b4g w 1 7
  ·by_cases g2:b4g w 1 7<=9
   ·go_enter Tryz.func125,Tryz.ntmps125
    go_wp2_with fail
    refine (b0E w 1 7 W hs (by omega) (by omega)).mono ?_;rintro e w1 ⟨rfl,hb1⟩;go_wp2;go_ret;exact⟨a2a (by rw[HF.out,g2m,decide_eq_true ⟨g1,g2⟩]),hb1⟩
   ·go_enter Tryz.func125,Tryz.ntmps125
    go_wp2_with fail
    refine (b0E w 1 7 W hs (by omega) (by omega)).mono ?_;rintro e w1 ⟨rfl,hb1⟩;go_wp2;go_ret;exact⟨a2a (by rw[HF.out,g2m,decide_eq_false (by omega)];simp;omega),hb1⟩
  ·go_enter Tryz.func125,Tryz.ntmps125
   go_wp2_with fail
   refine (b0E w 1 7 W hs (by omega) (by omega)).mono ?_;rintro e w1 ⟨rfl,hb1⟩;go_wp2;go_ret;exact⟨a2a (by rw[HF.out,g2m,decide_eq_false (by omega)]),hb1⟩
 cases c2:(sym.toList==[77,73,78,85,84,69,83])
 case true =>
  have HF:Hid (g2B sym w=g2m w 1 1048320):=by show g2B sym w=_;simp[g2B,c0,c1,c2]
  by_cases g1:1<=b4g w 1 7
  ·by_cases g2:b4g w 1 7<=1048320
   ·go_enter Tryz.func125,Tryz.ntmps125
    go_wp2_with fail
    refine (b0E w 1 7 W hs (by omega) (by omega)).mono ?_;rintro e w1 ⟨rfl,hb1⟩;go_wp2;go_ret;exact⟨a2a (by rw[HF.out,g2m,decide_eq_true ⟨g1,g2⟩]),hb1⟩
   ·go_enter Tryz.func125,Tryz.ntmps125
    go_wp2_with fail
    refine (b0E w 1 7 W hs (by omega) (by omega)).mono ?_;rintro e w1 ⟨rfl,hb1⟩;go_wp2;go_ret;exact⟨a2a (by rw[HF.out,g2m,decide_eq_false (by omega)];simp;omega),hb1⟩
  ·go_enter Tryz.func125,Tryz.ntmps125
   go_wp2_with fail
   refine (b0E w 1 7 W hs (by omega) (by omega)).mono ?_;rintro e w1 ⟨rfl,hb1⟩;go_wp2;go_ret;exact⟨a2a (by rw[HF.out,g2m,decide_eq_false (by omega)]),hb1⟩
 cases c3:(sym.toList==[69,86,69,82,89])
 case true =>
  have HF:Hid (g2B sym w=g2m w 1 99):=by show g2B sym w=_;simp[g2B,c0,c1,c2,c3]
  by_cases g1:1<=b4g w 1 7
  ·by_cases g2:b4g w 1 7<=99
   ·go_enter Tryz.func125,Tryz.ntmps125
    go_wp2_with fail
    refine (b0E w 1 7 W hs (by omega) (by omega)).mono ?_;rintro e w1 ⟨rfl,hb1⟩;go_wp2;go_ret;exact⟨a2a (by rw[HF.out,g2m,decide_eq_true ⟨g1,g2⟩]),hb1⟩
   ·go_enter Tryz.func125,Tryz.ntmps125
    go_wp2_with fail
    refine (b0E w 1 7 W hs (by omega) (by omega)).mono ?_;rintro e w1 ⟨rfl,hb1⟩;go_wp2;go_ret;exact⟨a2a (by rw[HF.out,g2m,decide_eq_false (by omega)];simp;omega),hb1⟩
  ·go_enter Tryz.func125,Tryz.ntmps125
   go_wp2_with fail
   refine (b0E w 1 7 W hs (by omega) (by omega)).mono ?_;rintro e w1 ⟨rfl,hb1⟩;go_wp2;go_ret;exact⟨a2a (by rw[HF.out,g2m,decide_eq_false (by omega)]),hb1⟩
 cases c4:(sym.toList==[73,68])
 case true =>
  go_enter Tryz.func125,Tryz.ntmps125
  go_wp2_with fail
  refine (b0E w 1 7 W hs (by omega) (by omega)).mono ?_;rintro e w1 ⟨rfl,hb1⟩;go_wp2;go_ret;exact⟨a2a (by simp[g2B,c0,c1,c2,c3,c4]),hb1⟩
 cases c5:(sym.toList==[84,73,77,69])
 case true =>
  go_enter Tryz.func125,Tryz.ntmps125
  go_wp2_with fail
  refine (b0E w 1 7 W hs (by omega) (by omega)).mono ?_;rintro e w1 ⟨rfl,hb1⟩
  go_wp2_with fail
  refine (d0T w _ hs).mono ?_;rintro e w2 ⟨rfl,hb2⟩;have hbb:=hb1.trans (hb2.mono hb1.size);go_wp2;go_ret;exact⟨a2a (by simp[g2B,c0,c1,c2,c3,c4,c5]),hbb⟩
 cases c6:(sym.toList==[68,65,84,69])
 case true =>
  have HF:Hid (g2B sym w=decide (0<=g2R w/\g2R w<728)):=by show g2B sym w=_;simp[g2B,c0,c1,c2,c3,c4,c5,c6]
  by_cases g1:0<=g2R w
  ·by_cases g2:g2R w<728
   ·go_enter Tryz.func125,Tryz.ntmps125
    go_wp2_with fail
    refine (b0E w 1 7 W hs (by omega) (by omega)).mono ?_;rintro e w1 ⟨rfl,hb1⟩
    go_wp2_with fail
    refine (d4B w _ hs).mono ?_;rintro e w2 ⟨rfl,hb2⟩;have hbb:=hb1.trans (hb2.mono hb1.size);go_wp2;go_ret;exact⟨a2a (by rw[HF.out,decide_eq_true ⟨g1,g2⟩]),hbb⟩
   ·go_enter Tryz.func125,Tryz.ntmps125
    go_wp2_with fail
    refine (b0E w 1 7 W hs (by omega) (by omega)).mono ?_;rintro e w1 ⟨rfl,hb1⟩
    go_wp2_with fail
    refine (d4B w _ hs).mono ?_;rintro e w2 ⟨rfl,hb2⟩;have hbb:=hb1.trans (hb2.mono hb1.size);go_wp2;go_ret;exact⟨a2a (by rw[HF.out,decide_eq_false (by omega)];simp;omega),hbb⟩
  ·go_enter Tryz.func125,Tryz.ntmps125
   go_wp2_with fail
   refine (b0E w 1 7 W hs (by omega) (by omega)).mono ?_;rintro e w1 ⟨rfl,hb1⟩
   go_wp2_with fail
   refine (d4B w _ hs).mono ?_;rintro e w2 ⟨rfl,hb2⟩;have hbb:=hb1.trans (hb2.mono hb1.size);go_wp2;go_ret;exact⟨a2a (by rw[HF.out,decide_eq_false (by omega)]),hbb⟩
 cases c7:(sym.toList==[77,73,78,85,84,69])
 case true =>
  go_enter Tryz.func125,Tryz.ntmps125
  go_wp2_with fail
  refine (b0E w 1 7 W hs (by omega) (by omega)).mono ?_;rintro e w1 ⟨rfl,hb1⟩
  go_wp2_with fail
  refine (c5y w _ hs).mono ?_;rintro e w2 ⟨rfl,hb2⟩;have hbb:=hb1.trans (hb2.mono hb1.size);go_wp2;go_ret;exact⟨a2a (by simp[g2B,c0,c1,c2,c3,c4,c5,c6,c7]),hbb⟩
 cases c8:(sym.toList==[79,78])
 case true =>
  go_enter Tryz.func125,Tryz.ntmps125
  go_wp2_with fail
  refine (b0E w 1 7 W hs (by omega) (by omega)).mono ?_;rintro e w1 ⟨rfl,hb1⟩
  go_wp2_with fail
  refine (g0u w _ hs).mono ?_;rintro e w2 ⟨⟨acc,rfl,_⟩,hb2⟩;have hbb:=hb1.trans (hb2.mono hb1.size);unfold a3E;go_wp2;go_ret;exact⟨a2a (by simp[g2B,c0,c1,c2,c3,c4,c5,c6,c7,c8]),hbb.alloc (Nat.le_trans hb1.size hb2.size) _⟩
 go_enter Tryz.func125,Tryz.ntmps125
 go_wp2_with fail
 refine (b0E w 1 7 W hs (by omega) (by omega)).mono ?_;rintro e w1 ⟨rfl,hb1⟩;go_wp2;go_ret;exact⟨a2a (by simp[g2B,c0,c1,c2,c3,c4,c5,c6,c7,c8]),hb1⟩
def d3a(i:Nat):ByteArray:=match i with|0=>⟨#[100,97,105,108,121,32,69,86,69,82,89]⟩|1=>⟨#[119,101,101,107,108,121,32,69,86,69,82,89,32,79,78]⟩|_=>⟨#[109,111,110,116,104,108,121,32,69,86,69,82,89]⟩
def e9S(i:Nat):ByteArray:=match i with|0=>⟨#[116,105,109,101,115,32,69,86,69,82,89]⟩|_=>⟨#[117,110,116,105,108,32,68,65,84,69]⟩
def g4G:ByteArray:=⟨#[32,102,114,111,109,32,68,65,84,69,32,97,116,32,77,73,78,85,84,69,32,102,111,114,32,77,73,78,85,84,69,83,32]⟩
def f3T(ahead:ByteArray)(i k:Nat):ByteArray:=ahead++⟨#[32]⟩++d3a i++g4G++e9S k
def d1g(ahead:ByteArray)(n:Nat):List ByteArray:=(List.range n).map fun j=>f3T ahead (j / 2) (j % 2)
theorem e6w(ahead:ByteArray)(n:Nat):d1g ahead (n+1)=d1g ahead n++[f3T ahead (n / 2) (n % 2)]:=by
 simp[d1g,List.range_succ]
theorem e4y(i:Nat):(d3a i).size<=15:=by unfold d3a;split <;> decide
theorem e9R(i:Nat):(e9S i).size<=11:=by unfold e9S;split <;> decide
theorem d4F(a b:ByteArray)(m n:Nat)(ha:a.size<=m)(hb:b.size<=n):(a++b).size<=m+n:=by
 have:(a++b).size=a.size+b.size:=ByteArray.size_append;omega
theorem e2I(a b:ByteArray)(m n:Nat)(ha:a.size<=m)(hb:b.size<=n)(h:m+n<=1000):∀ wx,(Op.stringOp .add a b).run Tryz.prog wx=.ok (.string (a++b)) wx:=by
 intro wx;apply run_string_add_sum;omega
theorem c9G{base base' e size:Nat}(h:w.ownsRow base e size v n xs)(hb:base'<=base):w.ownsRow base' e size v n xs:=by
 refine⟨h.1,?_⟩;rcases h.2 with h0|⟨g,cap,cur,hv,hg,rest⟩
 ·exact .inl h0
 ·exact .inr ⟨g,cap,cur,hv,Nat.le_trans hb hg,rest⟩
theorem e3P(ahead:ByteArray)(w:World)(ha:ahead.size<=20):
  Calls Tryz.prog 185 #[.string ahead] w fun e w'=>∃ v,e=.returned v/\w'.ownsRow w.heap.size 9 1 v 6 ((d1g ahead 6).map Value.string)/\Below w.heap.size w w':=by
 obtain⟨i0,hi0,hz0,hz1,hz2⟩:=info_parts e4B
 go_enter Tryz.func185,Tryz.ntmps185
 go_wp2;obtain⟨W,hW⟩:∃ W,W=(w.alloc (.cells #[.string (d3a 0),.string (d3a 1),.string (d3a 2)] 9)).alloc (.cells #[.string (e9S 0),.string (e9S 1)] 9):=⟨_,rfl⟩;simp only[d3a,e9S] at hW;rw[<- hW];have hB:Below w.heap.size w W:=by rw[hW];exact ((zr _ _).alloc (zq _) _).alloc (by simp) _
 have hZ:w.heap.size+2=W.heap.size:=by rw[hW];simp
 have cK:∀ i,i<3->W.cell? ⟨w.heap.size,i,none⟩=some (.string (d3a i)):=fun i hi=>by
  rw[hW];rcases (show i=0\/i=1\/i=2 by omega) with rfl|rfl|rfl <;> simp[d3a]
 have cE:∀ i,i<2->W.cell? ⟨w.heap.size+1,i,none⟩=some (.string (e9S i)):=fun i hi=>by
  rw[hW];rcases (show i=0\/i=1 by omega) with rfl|rfl <;> simp[e9S]
 have CK:=hide cK;have CE:=hide cE;clear hW cK cE
 go_loopw [3,6,7] (fun v i _ wx=>∃ a:Nat,a<=3/\i=.int .i64 a/\wx.ownsRow (w.heap.size+2) 9 1 v (2*a) ((d1g ahead (2*a)).map Value.string)/\Below (w.heap.size+2) W wx) (fun _ i _ _=>3-(intOf i).toNat)
 case atStart=>exact⟨0,by omega,rfl,World.ownsRow_nil _ _ _ _,Below.refl _ _⟩
 case round =>
  obtain⟨a,hka,rfl,hown,hnx⟩:=hrel
  by_cases hlt:a<3
  ·have i1:(0:Int)<=(a:Int):=Int.natCast_nonneg _;have i2:(a:Int)<3:=by omega
   go_wp2;obtain⟨wo,hwo⟩:∃ wo:World,wo=wr:=⟨_,rfl⟩;rw[<- hwo] at hown hnx ⊢;clear hwo
   go_loopw [3,7] (fun v k wx=>∃ b:Nat,b<=2/\k=.int .i64 b/\wx.ownsRow (w.heap.size+2) 9 1 v (2*a+b) ((d1g ahead (2*a+b)).map Value.string)/\Below (w.heap.size+2) W wx) (fun _ k _=>2-(intOf k).toNat)
   case atStart=>exact⟨0,by omega,rfl,hown,hnx⟩
   case round =>
    obtain⟨b,hkb,rfl,hown2,hnx2⟩:=hrel
    by_cases hlb:b<2
    ·have kz:=e4y a;have ez:=e9R b;have c1:wr.cell? ⟨w.heap.size,a,none⟩=some (.string (d3a a)):=(hnx2.cell (p:=⟨w.heap.size,a,none⟩) (by simp)).trans (a0d CK a hlt);have c2:wr.cell? ⟨w.heap.size+1,b,none⟩=some (.string (e9S b)):=(hnx2.cell (p:=⟨w.heap.size+1,b,none⟩) (by simp)).trans (a0d CE b hlb);have i3:(0:Int)<=(b:Int):=Int.natCast_nonneg _;have i4:(b:Int)<2:=by omega
     have ne1:u3.ownBlock≠some w.heap.size:=fun e=>by have:=d0U hown2 e;omega
     have ne2:u3.ownBlock≠some (w.heap.size+1):=fun e=>by have:=d0U hown2 e;omega
     have hwz:=hnx2.size;have s1:∀ wx,(Op.stringOp .add ahead ⟨#[32]⟩).run Tryz.prog wx=.ok (.string (ahead++⟨#[32]⟩)) wx:=e2I ahead _ 20 1 ha (by decide) (by decide);have s2:∀ wx,(Op.stringOp .add (ahead++⟨#[32]⟩) (d3a a)).run Tryz.prog wx=.ok (.string (ahead++⟨#[32]⟩++d3a a)) wx:=e2I _ _ 21 15 (d4F _ _ 20 1 ha (by decide)) kz (by decide);have s3:∀ wx,(Op.stringOp .add (ahead++⟨#[32]⟩++d3a a) ⟨#[32,102,114,111,109,32,68,65,84,69,32,97,116,32,77,73,78,85,84,69,32,102,111,114,32,77,73,78,85,84,69,83,32]⟩).run Tryz.prog wx=.ok (.string (ahead++⟨#[32]⟩++d3a a++⟨#[32,102,114,111,109,32,68,65,84,69,32,97,116,32,77,73,78,85,84,69,32,102,111,114,32,77,73,78,85,84,69,83,32]⟩)) wx:=e2I _ _ 36 33 (d4F _ _ 21 15 (d4F _ _ 20 1 ha (by decide)) kz) (by decide) (by decide);have s4:∀ wx,(Op.stringOp .add (ahead++⟨#[32]⟩++d3a a++⟨#[32,102,114,111,109,32,68,65,84,69,32,97,116,32,77,73,78,85,84,69,32,102,111,114,32,77,73,78,85,84,69,83,32]⟩) (e9S b)).run Tryz.prog wx=.ok (.string (ahead++⟨#[32]⟩++d3a a++⟨#[32,102,114,111,109,32,68,65,84,69,32,97,116,32,77,73,78,85,84,69,32,102,111,114,32,77,73,78,85,84,69,83,32]⟩++e9S b)) wx:=e2I _ _ 69 11 (d4F _ _ 36 33 (d4F _ _ 21 15 (d4F _ _ 20 1 ha (by decide)) kz) (by decide)) ez (by decide)
     go_wp2_with fail
     go_region_held3 (fun w'=>w'.cell? ⟨w.heap.size,a,none⟩=some (.string (d3a a))/\w'.cell? ⟨w.heap.size+1,b,none⟩=some (.string (e9S b)))
      (first
       |go_keep
       |(
        go_split_ands
        refine⟨?_,?_⟩
        ·(rw[hgrow.cell_far _ (by simp;omega) (Ne.symm ne1)];assumption)
        ·(rw[hgrow.cell_far _ (by simp;omega) (Ne.symm ne2)];assumption)))
      ((refine step_append_lies _ (by rfl) _ _ _ (by rfl) (w.heap.size+2) 9 i0 _ 1 16 Tryz.underlying26 hi0 hz0 hz1 hz2 rfl (by omega) u3 (2*a+b) ((d1g ahead (2*a+b)).map Value.string) (by rfl) ((hown2.alloc _).drew) ⟨wr.heap.size,0,none⟩ 1 1 [.string (ahead++⟨#[32]⟩++d3a a++⟨#[32,102,114,111,109,32,68,65,84,69,32,97,116,32,77,73,78,85,84,69,32,102,111,114,32,77,73,78,85,84,69,83,32]⟩++e9S b)] (by rfl) (by rfl) (World.news_of_block (cs:=#[.string (ahead++⟨#[32]⟩++d3a a++⟨#[32,102,114,111,109,32,68,65,84,69,32,97,116,32,77,73,78,85,84,69,32,102,111,114,32,77,73,78,85,84,69,83,32]⟩++e9S b)]) (t:=9) (fr:=(0,0)) (heap_alloc_new wr _)) (by simp[Value.oneCell']) (by omega) (by unfold maxLen;omega) (by omega) (by simp;omega) (wr.heap.size+1) (by simp) ?_;intro g cap w1 hown1 hgrow hat hltg))
     have hbw:Below (w.heap.size+2) W w1:=by
      first
       |exact ((hnx2.alloc (by omega) _).drew).grown hgrow (by simp;omega) (fun k hk=>d0U hown2 hk)
       |exact (hnx2.alloc (by omega) _).grown hgrow (by simp;omega) (fun k hk=>d0U hown2 hk)
     have HO:Hid (w1.ownsRow (w.heap.size+2) 9 1 (.slice (some ⟨g,0,none⟩) (2*a+b+1) cap) (2*a+(b+1)) ((d1g ahead (2*a+(b+1))).map Value.string)):=by
      show w1.ownsRow _ _ _ _ _ _;rw[show 2*a+(b+1)=2*a+b+1 from by omega,e6w,show (2*a+b) / 2=a from by omega,show (2*a+b) % 2=b from by omega,List.map_append];exact hown1
     clear hown1;go_wp2;refine⟨?_,?_⟩
     ·first|exact⟨b+1,by omega,by go_num,HO.out,hbw⟩|((repeat apply Exists.intro);exact⟨⟨b+1,by omega,by go_num,HO.out,hbw⟩,rfl⟩)
     ·simp[intOf];omega
    ·obtain rfl:b=2:=by omega
     have HO:Hid (wr.ownsRow (w.heap.size+2) 9 1 u3 (2*(a+1)) ((d1g ahead (2*(a+1))).map Value.string)):=by
      show wr.ownsRow _ _ _ _ _ _;rw[show 2*(a+1)=2*a+2 from by omega];exact hown2
     clear hown2;go_wp2;exact⟨⟨a+1,by omega,by go_num,HO.out,hnx2⟩,by simp[intOf];omega⟩
  ·obtain rfl:a=3:=by omega
   go_wp2;go_ret;exact⟨_,rfl,c9G hown (by omega),hB.trans (hnx.mono (by omega))⟩
def f6J:List ByteArray:=[⟨#[116,104,105,110,103,32,78,65,77,69,32,85,78,73,84,83]⟩,⟨#[98,111,111,107,32,78,65,77,69,32,85,78,73,84,83,32,84,73,77,69,32,84,73,77,69]⟩,⟨#[104,111,108,100,32,78,65,77,69,32,85,78,73,84,83,32,84,73,77,69,32,84,73,77,69,32,77,73,78,85,84,69,83]⟩,⟨#[119,97,105,116,32,78,65,77,69,32,85,78,73,84,83,32,84,73,77,69,32,84,73,77,69,32,77,73,78,85,84,69,83]⟩,⟨#[99,111,110,102,105,114,109,32,73,68]⟩,⟨#[99,97,110,99,101,108,32,73,68]⟩,⟨#[108,105,115,116,32,78,65,77,69]⟩,⟨#[108,105,115,116,32,78,65,77,69,32,84,73,77,69,32,84,73,77,69]⟩,⟨#[119,97,105,116,105,110,103]⟩,⟨#[112,101,97,107,32,78,65,77,69,32,84,73,77,69,32,84,73,77,69]⟩,⟨#[102,105,110,100,32,78,65,77,69,32,85,78,73,84,83,32,77,73,78,85,84,69,83,32,84,73,77,69,32,84,73,77,69]⟩,⟨#[116,105,99,107,32,77,73,78,85,84,69,83]⟩,⟨#[99,108,111,99,107]⟩]
def g2X:ByteArray:=⟨#[115,101,114,105,101,115,32,78,65,77,69,32,85,78,73,84,83]⟩
def g3U:ByteArray:=⟨#[101,120,112,97,110,100]⟩
def d4K:List ByteArray:=f6J++d1g g2X 6++d1g g3U 6
theorem c9H{base e size:Nat}(h:w.ownsRow base e size v n xs)(hb:Below w.heap.size w w'):w'.ownsRow base e size v n xs:=by
 refine⟨h.1,?_⟩;rcases h.2 with h0|⟨g,cap,cur,hv,hg,hh,rest⟩
 ·exact .inl h0
 ·refine .inr ⟨g,cap,cur,hv,hg,?_,rest⟩
  have:g<w.heap.size:=by
   by_cases hl:g<w.heap.size
   ·exact hl
   ·rw[Array.getElem?_eq_none (by omega)] at hh;cases hh
  rw[hb.block g this];exact hh
theorem d8s{base e:Nat}(h:w.ownsRow base e 1 v n xs)(hn:0<n):∃ g cap,v=.slice (some ⟨g,0,none⟩) n cap/\base<=g/\g<w.heap.size/\∀ j u,xs[j]?=some u->w.cell? (Addr.add ⟨g,0,none⟩ j)=some u:=by
 rcases h.2 with ⟨_,h0⟩|⟨g,cap,cur,hv,hg,hh,hc,_,hs,ht⟩
 ·omega
 ·have hl:g<w.heap.size:=by
   by_cases hl:g<w.heap.size
   ·exact hl
   ·rw[Array.getElem?_eq_none (by omega)] at hh;cases hh
  refine⟨g,cap,hv,hg,hl,fun j u hj=>?_⟩
  have ha:Addr.add ⟨g,0,none⟩ j=⟨g,j,none⟩:=by
   unfold Addr.add;split
   ·subst_vars;rfl
   ·simp
  have hjn:j<n:=by
   have h1:=h.1;have:=(List.getElem?_eq_some_iff.1 hj).1;omega
  have hcur:cur[j]?=some u:=by
   rw[<- ht,List.getElem?_take,if_pos (by omega)] at hj
   simpa using hj
  rw[ha];simp[World.cell?,hh,hcur]
theorem e4e(w:World):
  Calls Tryz.prog 124 #[] w fun e w'=>∃ v,e=.returned v/\w'.ownsRow w.heap.size 9 1 v 25 (d4K.map Value.string)/\Below w.heap.size w w':=by
 obtain⟨i0,hi,hz0,hz1,hz2⟩:=info_parts e4B
 go_enter Tryz.func124,Tryz.ntmps124
 go_wp2_with fail
 obtain⟨W,hW⟩:∃ W,W=w.alloc (.cells #[.string ⟨#[116,104,105,110,103,32,78,65,77,69,32,85,78,73,84,83]⟩,.string ⟨#[98,111,111,107,32,78,65,77,69,32,85,78,73,84,83,32,84,73,77,69,32,84,73,77,69]⟩,.string ⟨#[104,111,108,100,32,78,65,77,69,32,85,78,73,84,83,32,84,73,77,69,32,84,73,77,69,32,77,73,78,85,84,69,83]⟩,.string ⟨#[119,97,105,116,32,78,65,77,69,32,85,78,73,84,83,32,84,73,77,69,32,84,73,77,69,32,77,73,78,85,84,69,83]⟩,.string ⟨#[99,111,110,102,105,114,109,32,73,68]⟩,.string ⟨#[99,97,110,99,101,108,32,73,68]⟩,.string ⟨#[108,105,115,116,32,78,65,77,69]⟩,.string ⟨#[108,105,115,116,32,78,65,77,69,32,84,73,77,69,32,84,73,77,69]⟩,.string ⟨#[119,97,105,116,105,110,103]⟩,.string ⟨#[112,101,97,107,32,78,65,77,69,32,84,73,77,69,32,84,73,77,69]⟩,.string ⟨#[102,105,110,100,32,78,65,77,69,32,85,78,73,84,83,32,77,73,78,85,84,69,83,32,84,73,77,69,32,84,73,77,69]⟩,.string ⟨#[116,105,99,107,32,77,73,78,85,84,69,83]⟩,.string ⟨#[99,108,111,99,107]⟩] 9):=⟨_,rfl⟩;rw[<- hW];have hB:Below w.heap.size w W:=by rw[hW];exact (zr _ _).alloc (zq _) _
 have hown:W.ownsRow w.heap.size 9 1 (.slice (some ⟨w.heap.size,0,none⟩) 13 13) 13 (f6J.map Value.string):=by
  refine⟨rfl,.inr ⟨w.heap.size,13,#[.string ⟨#[116,104,105,110,103,32,78,65,77,69,32,85,78,73,84,83]⟩,.string ⟨#[98,111,111,107,32,78,65,77,69,32,85,78,73,84,83,32,84,73,77,69,32,84,73,77,69]⟩,.string ⟨#[104,111,108,100,32,78,65,77,69,32,85,78,73,84,83,32,84,73,77,69,32,84,73,77,69,32,77,73,78,85,84,69,83]⟩,.string ⟨#[119,97,105,116,32,78,65,77,69,32,85,78,73,84,83,32,84,73,77,69,32,84,73,77,69,32,77,73,78,85,84,69,83]⟩,.string ⟨#[99,111,110,102,105,114,109,32,73,68]⟩,.string ⟨#[99,97,110,99,101,108,32,73,68]⟩,.string ⟨#[108,105,115,116,32,78,65,77,69]⟩,.string ⟨#[108,105,115,116,32,78,65,77,69,32,84,73,77,69,32,84,73,77,69]⟩,.string ⟨#[119,97,105,116,105,110,103]⟩,.string ⟨#[112,101,97,107,32,78,65,77,69,32,84,73,77,69,32,84,73,77,69]⟩,.string ⟨#[102,105,110,100,32,78,65,77,69,32,85,78,73,84,83,32,77,73,78,85,84,69,83,32,84,73,77,69,32,84,73,77,69]⟩,.string ⟨#[116,105,99,107,32,77,73,78,85,84,69,83]⟩,.string ⟨#[99,108,111,99,107]⟩],rfl,Nat.le_refl _,?_,Nat.le_refl _,by decide,rfl,rfl⟩⟩;rw[hW];exact heap_alloc_new w _
 clear hW;refine (e3P _ W (by decide)).mono ?_;rintro e w1 ⟨v1,rfl,o1,b1⟩;obtain⟨g1,cap1,rfl,hg1,hl1,hc1⟩:=d8s o1 (by omega);have hown1:=c9H hown b1;have hB1:=hB.trans (b1.mono hB.size);have hS1:=hB1.size;clear o1 hown hB
 go_wp2_with (first
  |(at_builtin;refine wpList_append_own _ rfl _ _ 26 rfl w.heap.size 9 i0 (.string ⟨#[]⟩) 1 16 Tryz.underlying26 hi hz0 hz1 hz2 rfl (by decide) _ 13 (f6J.map Value.string) rfl hown1 ⟨g1,0,none⟩ 6 cap1 ((d1g g2X 6).map Value.string) rfl rfl ?c1 ?c2 ?c3 ?c4 ?c5 ?_))
 case c1=>exact hc1
 case c2=>intro u hu;simp only[List.mem_map] at hu;obtain⟨x,_,rfl⟩:=hu;rfl
 case c3=>decide
 case c4=>decide
 case c5=>exact hS1
 intro v2 w2 hown2 hgrow2 _;have hB2:Below w.heap.size w w2:=hB1.grown hgrow2 hS1 (fun k hk=>d0U hown1 hk);have hS2:=hB2.size;clear hgrow2 hown1
 go_wp2_with fail
 refine (e3P _ w2 (by decide)).mono ?_;rintro e w3 ⟨v3,rfl,o3,b3⟩;obtain⟨g3,cap3,rfl,hg3,hl3,hc3⟩:=d8s o3 (by omega);have hown3:=c9H hown2 b3;have hB3:=hB2.trans (b3.mono hS2);have hS3:=hB3.size;clear o3 hown2
 go_wp2_with (first
  |(at_builtin;refine wpList_append_own _ rfl _ _ 26 rfl w.heap.size 9 i0 (.string ⟨#[]⟩) 1 16 Tryz.underlying26 hi hz0 hz1 hz2 rfl (by decide) v2 (13+6) (f6J.map Value.string++(d1g g2X 6).map Value.string) rfl hown3 ⟨g3,0,none⟩ 6 cap3 ((d1g g3U 6).map Value.string) rfl rfl ?c1 ?c2 ?c3 ?c4 ?c5 ?_))
 case c1=>exact hc3
 case c2=>intro u hu;simp only[List.mem_map] at hu;obtain⟨x,_,rfl⟩:=hu;rfl
 case c3=>decide
 case c4=>decide
 case c5=>exact hS3
 intro v4 w4 hown4 hgrow4 _;have hB4:Below w.heap.size w w4:=hB3.grown hgrow4 hS3 (fun k hk=>d0U hown3 hk)
 have HO:Hid (w4.ownsRow w.heap.size 9 1 v4 25 (d4K.map Value.string)):=by
  show w4.ownsRow _ _ _ _ _ _;rw[d4K,List.map_append,List.map_append];exact hown4
 clear hown4 hgrow4;go_wp2;go_ret;exact⟨v4,rfl,HO.out,hB4⟩
def pre:List ByteArray->List ByteArray->Nat
 |s :: p,w :: ws=>if g2B s w then pre p ws+1 else 0
 |_,_=>0
theorem d8p:∀ (p ws:List ByteArray),pre p ws<=p.length/\pre p ws<=ws.length
 |[],_=>by simp[pre]
 |_ :: _,[]=>by simp[pre]
 |s :: p,w :: ws=>by
  unfold pre;have:=d8p p ws
  split <;> simp <;> omega
theorem e1z:∀ (p ws:List ByteArray)(n:Nat)(h1:n<p.length)(h2:n<ws.length),n<pre p ws->g2B p[n] ws[n]=true
 |[],_,_,h1,_,_=>by simp at h1
 |_ :: _,[],_,_,h2,_=>by simp at h2
 |s :: p,w :: ws,0,_,_,h=>by
  unfold pre at h
  split at h
  ·assumption
  ·omega
 |s :: p,w :: ws,n+1,h1,h2,h=>by
  unfold pre at h
  split at h
  ·exact e1z p ws n (by simpa using h1) (by simpa using h2) (by omega)
  ·omega
theorem e8Y:∀ (p ws:List ByteArray)(n:Nat)(h1:n<p.length)(h2:n<ws.length),n=pre p ws->g2B p[n] ws[n]=false
 |[],_,_,h1,_,_=>by simp at h1
 |_ :: _,[],_,_,h2,_=>by simp at h2
 |s :: p,w :: ws,0,_,_,h=>by
  unfold pre at h
  cases hf:g2B s w
  ·exact hf
  ·rw[if_pos hf] at h;omega
 |s :: p,w :: ws,n+1,h1,h2,h=>by
  unfold pre at h
  split at h
  ·exact e8Y p ws n (by simpa using h1) (by simpa using h2) (by omega)
  ·omega
theorem f8u(h1:n<p.length)(h2:n<ws.length)(hn:n<=pre p ws)(hf:g2B p[n] ws[n]=true):n+1<=pre p ws:=by
 by_cases e:n=pre p ws
 ·have:=e8Y p ws n h1 h2 e;rw[hf] at this;cases this
 ·omega
theorem f8v(h1:n<p.length)(h2:n<ws.length)(hn:n<=pre p ws)(hf:g2B p[n] ws[n]=false):n=pre p ws:=by
 by_cases e:n=pre p ws
 ·exact e
 ·have:=e1z p ws n h1 h2 (by omega);rw[hf] at this;cases this
def scan:List (List ByteArray)->List ByteArray->Nat->Option (List ByteArray) × Nat
 |[],_,m=>(none,m)
 |p :: ps,ws,m=>if pre p ws=p.length/\pre p ws=ws.length then (some p,0) else scan ps ws (if m<pre p ws then pre p ws else m)
def g2n:List (List ByteArray):=d4K.map Txt.a1v
theorem f4m:g2n.length=25:=by simp[g2n,d4K,f6J,d1g]
def g0V(s:ByteArray):Option (List ByteArray) × Nat:=scan g2n (Txt.a1v s) 0
theorem e0i:∀ x∈d4K,x.size<=160:=by
 intro x hx
 have key:∀ a k,(f3T g2X a k).size<=160/\(f3T g3U a k).size<=160:=fun a k=>by
  have h1:=e4y a;have h2:=e9R k;have hm:g4G.size=33:=by decide
  have e1:g2X.size=17:=by decide
  have e2:g3U.size=6:=by decide
  have e3:(⟨#[32]⟩:ByteArray).size=1:=by decide
  unfold f3T;simp only[ByteArray.size_append];omega
 unfold d4K d1g at hx;simp only[List.mem_append,List.mem_map] at hx;rcases hx with (hx|⟨j,_,rfl⟩)|⟨j,_,rfl⟩
 ·revert x;decide
 ·exact (key _ _).1
 ·exact (key _ _).2
theorem d7Q(s:ByteArray):(Txt.a1v s).length<=s.size+1:=by
 rw[Txt.b2t,List.length_append];have:=Txt.b5J s s.size
 split <;> simp <;> omega
structure Row(w:World)(a:Option Addr)(g:Nat)(xs:List ByteArray):Prop where
 at_:0<xs.length->a=some ⟨g,0,none⟩
 cells:∀ (j:Nat) (h:j<xs.length),w.cell? ⟨g,j,none⟩=some (.string xs[j])
theorem Row.later{a:Option Addr}{xs:List ByteArray}(h:Row w a g xs)(hb:Below w.heap.size w wx):Row wx a g xs :=
 ⟨h.at_,fun j hj=>cell_later hb (h.cells j hj)⟩
theorem e0O{base:Nat}{xs:List ByteArray}(h:w.ownsRow base 9 1 v n (xs.map Value.string))(hn:n=xs.length):∃ a cap g,v=.slice a xs.length cap/\Row w a g xs:=by
 subst hn
 by_cases h0:0<xs.length
 ·obtain⟨g,cap,hv,_,_,hc⟩:=d8s h h0;refine⟨some ⟨g,0,none⟩,cap,g,hv,fun _=>rfl,fun j hj=>?_⟩;have:=hc j (.string xs[j]) (by simp[hj])
  have ha:Addr.add ⟨g,0,none⟩ j=⟨g,j,none⟩:=by
   unfold Addr.add;split
   ·subst_vars;rfl
   ·simp
  rwa [ha] at this
 ·rcases h.2 with ⟨hv,h1⟩|⟨g,cap,cur,hv,_⟩
  ·exact⟨none,0,0,by rw[hv,h1],fun h=>absurd h h0,fun j hj=>absurd hj (by omega)⟩
  ·exact⟨_,cap,g,hv,fun h=>absurd h h0,fun j hj=>absurd hj (by omega)⟩
def boN:Value->Nat
 |.bool true=>1
 |_=>0
theorem f3S{s:ByteArray}{q:List ByteArray}(hk:k<d4K.length)(hq:q=Txt.a1v d4K[k])(h:g0V s=scan (g2n.drop k) (Txt.a1v s) mm):
  g0V s=if pre q (Txt.a1v s)=q.length/\pre q (Txt.a1v s)=(Txt.a1v s).length then (some q,0) else scan (g2n.drop (k+1)) (Txt.a1v s) (if mm<pre q (Txt.a1v s) then pre q (Txt.a1v s) else mm):=by
 have hl:k<g2n.length:=by unfold g2n;simpa using hk
 rw[h,List.drop_eq_getElem_cons hl];have e:g2n[k]=q:=by rw[hq];exact List.getElem_map ..
 rw[e,scan]
theorem f8m{s:ByteArray}(hk:25<=k)(h:g0V s=scan (g2n.drop k) (Txt.a1v s) mm):g0V s=(none,mm):=by
 rw[h,List.drop_of_length_le (by rw[f4m];exact hk)];rfl
def RR(s:ByteArray)(w':World)(e:Ending):Prop :=
 (∃ (p:List ByteArray) (a b:Option Addr) (c d g h:Nat),g0V s=(some p,0)/\e=.returned (.tuple #[.slice a (Txt.a1v s).length c,.slice b p.length d,.int .i64 0,.int .i64 0])/\Row w' a g (Txt.a1v s)/\Row w' b h p) \/
 (∃ m:Nat,g0V s=(none,m)/\e=.returned (.tuple #[.slice none 0 0,.slice none 0 0,.int .i64 2,.int .i64 m]))
theorem d4Z(s:ByteArray)(w:World)(hs:s.size<=160):
  Calls Tryz.prog 78 #[.string s] w fun e w'=>RR s w' e/\Below w.heap.size w w':=by
 have hwl:=d7Q s;have hs2:(s.size:Int)<=160:=by omega
 go_enter Tryz.func78,Tryz.ntmps78
 go_wp2_with fail
 refine (e3b s w hs).mono ?_;rintro e w1 ⟨v1,rfl,o1,b1⟩;obtain⟨aw,cw,gw,rfl,rw1⟩:=e0O o1 rfl
 go_wp2_with fail
 refine (e4e w1).mono ?_;rintro e w2 ⟨v2,rfl,o2,b2⟩;obtain⟨ap,cp,gp,rfl,rp2⟩:=e0O o2 (by decide);have rw2:=rw1.later b2;have hB2:=b1.trans (b2.mono b1.size);clear o1 o2 rw1 b1 b2;obtain rfl:=rp2.at_ (by decide);rw[show d4K.length=25 from by decide];go_wp2
 go_loopw [8,9,10,11,12] (fun m i _ _ _ wx=>∃ k mm:Nat,k<=25/\mm<=161/\i=.int .i64 k/\m=.int .i64 mm/\g0V s=scan (g2n.drop k) (Txt.a1v s) mm/\Row wx aw gw (Txt.a1v s)/\Row wx (some ⟨gp,0,none⟩) gp d4K/\Below w.heap.size w wx) (fun _ i _ _ _ _=>25-(intOf i).toNat)
 case atStart=>exact⟨0,0,by omega,by omega,rfl,rfl,rfl,rw2,rp2,hB2⟩
 case round =>
  obtain⟨k,mm,hk,hmm,rfl,rfl,hsc,rw,rp,hnx⟩:=hrel;have HSC:=hide hsc;clear hsc rw2 rp2 hB2
  by_cases hlt:k<25
  ·have hi:(k:Int)<25:=by omega
   have hpl:k<d4K.length:=by rw[show d4K.length=25 from by decide];exact hlt
   have hc:=rp.cells k hpl
   go_wp2_with fail
   refine (e3b _ _ (e0i _ (zg hpl))).mono ?_;rintro e w3 ⟨v3,rfl,o3,b3⟩;obtain⟨ax,cx,gx,rfl,rx⟩:=e0O o3 rfl;have rw3:=rw.later b3;have rp3:=rp.later b3;have hnx3:=hnx.trans (b3.mono hnx.size);obtain⟨q,hq⟩:∃ q,q=Txt.a1v d4K[k]:=⟨_,rfl⟩;rw[<- hq] at rx ⊢;have HQ:=hide hq;have hql:q.length<=161:=by rw[hq];have:=d7Q d4K[k];have:=e0i _ (zg hpl);omega
   clear hq o3 rw rp hnx b3 hc;go_wp2
   go_loopw [11,12] (fun n mo wx=>∃ (n':Nat) (mo':Bool),n=.int .i64 n'/\mo=.bool mo'/\n'<=pre q (Txt.a1v s)/\(mo'=false->n'=pre q (Txt.a1v s))/\Row wx aw gw (Txt.a1v s)/\Row wx (some ⟨gp,0,none⟩) gp d4K/\Row wx ax gx q/\Below w.heap.size w wx) (fun n mo _=>boN mo+(q.length-(intOf n).toNat))
   case atStart=>exact⟨0,true,rfl,rfl,Nat.zero_le _,fun h=>absurd h (by decide),rw3,rp3,rx,hnx3⟩
   case round =>
    obtain⟨n',mo',rfl,rfl,hn,hmo,rwr,rpr,rxr,hbx⟩:=hrel;have hpl2:=d8p q (Txt.a1v s)
    have hcase:(mo'=true/\n'<q.length/\n'<(Txt.a1v s).length)\/mo'=false\/(mo'=true/\¬ n'<q.length)\/(mo'=true/\n'<q.length/\¬ n'<(Txt.a1v s).length):=by
     cases mo'
     ·simp
     ·simp;omega
    have HMO:=hide hmo;clear hmo rw3 rp3 rx hnx3;rcases hcase with ⟨rfl,h1,h2⟩|hex
    ·obtain rfl:=rxr.at_ (by omega);obtain rfl:=rwr.at_ (by omega);have c1:=rxr.cells n' h1;have c2:=rwr.cells n' h2;have j1:(n':Int)<(q.length:Int):=by omega
     have j2:(n':Int)<((Txt.a1v s).length:Int):=by omega
     have j0:(0:Int)<=(n':Int):=Int.natCast_nonneg _;have hsm:(Txt.a1v s)[n'].size<=160:=Nat.le_trans (b4i s _ (zg h2)) hs;have HSM:=hide hsm;clear hsm
     go_wp2_with fail
     go_region_held3 (fun w'=>w'.cell? ⟨gx,n',none⟩=some (.string q[n'])/\w'.cell? ⟨gw,n',none⟩=some (.string (Txt.a1v s)[n']))
      (first
       |go_keep
       |(
        go_split_ands
        refine⟨?_,?_⟩
        ·exact cell_later hbf (by assumption)
        ·exact cell_later hbf (by assumption)))
      ((go_at_call 125;refine (f9e _ _ _ (a0d HSM)).mono ?_;rintro e w4 ⟨rfl,hbf⟩))
     have hbf':Below wr.heap.size wr w4:=⟨hbf.os,hbf.tape,hbf.output,hbf.size,hbf.block⟩;have hbx4:=hbx.trans (hbf'.mono hbx.size);have rw4:=rwr.later hbf';have rp4:=rpr.later hbf';have rx4:=rxr.later hbf'
     cases hf:g2B q[n'] (Txt.a1v s)[n']
     ·have HP:=hide (f8v h1 h2 hn hf);go_wp2;exact⟨⟨n',false,rfl,rfl,hn,fun _=>a0d HP,rw4,rp4,rx4,hbx4⟩,by simp[boN,intOf]⟩
     ·have HP:=hide (f8u h1 h2 hn hf);go_wp2;exact⟨⟨n'+1,true,by go_num,rfl,a0d HP,fun h=>absurd h (by decide),rw4,rp4,rx4,hbx4⟩,by simp[boN,intOf];omega⟩
    ·have hpn:n'=pre q (Txt.a1v s):=by
      rcases hex with h|⟨_,h⟩|⟨_,_,h⟩
      ·exact a0d HMO h
      ·omega
      ·omega
     have HST:=hide (f3S hpl (a0d HQ) (a0d HSC));rw[<- hpn] at HST;clear hpn
     by_cases hfull:n'=q.length/\n'=(Txt.a1v s).length
     ·obtain⟨f1,f2⟩:=hfull;have HR:Hid (g0V s=(some q,0)):=(a0d HST).trans (if_pos ⟨f1,f2⟩);have g1:((n':Int)==(q.length:Int))=true:=beq_iff_eq.2 (by omega);have g2:((n':Int)==((Txt.a1v s).length:Int))=true:=beq_iff_eq.2 (by omega);have F1:=hide f1;have F2:=hide f2;clear f1 f2;rcases hex with rfl|⟨rfl,hx⟩|⟨rfl,hx,hy⟩
      all_goals
       go_wp2
       (try simp only[Exit.inBlock,Exit.then]);refine bodyPost_ret (b2R rfl _ _ _) rfl ?_
       exact⟨.inl ⟨q,aw,ax,cw,cx,gw,gx,HR.out,rfl,rwr,rxr⟩,hbx⟩
     ·have HR:Hid (g0V s=scan (g2n.drop (k+1)) (Txt.a1v s) (if mm<n' then n' else mm)):=(a0d HST).trans (if_neg hfull)
      have hg:((n':Int)==(q.length:Int))=false\/(((n':Int)==(q.length:Int))=true/\((n':Int)==((Txt.a1v s).length:Int))=false):=by
       by_cases e:n'=q.length
       ·right;exact⟨beq_iff_eq.2 (by omega),beq_eq_false_iff_ne.2 (by omega)⟩
       ·left;exact beq_eq_false_iff_ne.2 (by omega)
      clear hfull;have hmx:mm<n'\/¬ mm<n':=by omega
      rcases hex with rfl|⟨rfl,hx⟩|⟨rfl,hx,hy⟩
      all_goals rcases hg with g1|⟨g1,g2⟩
      all_goals rcases hmx with hm|hm
      all_goals
       go_wp2
       first
        |exact⟨⟨k+1,n',by omega,by omega,by go_num,rfl,HR.out.trans (by rw[if_pos hm]),rwr,rpr,hbx⟩,by simp[intOf];omega⟩
        |exact⟨⟨k+1,mm,by omega,by omega,by go_num,rfl,HR.out.trans (by rw[if_neg hm]),rwr,rpr,hbx⟩,by simp[intOf];omega⟩
  ·have HE:=hide (f8m (by omega) (a0d HSC));go_wp2
   (try simp only[Exit.inBlock,Exit.then]);refine bodyPost_ret (b2R rfl _ _ _) rfl ?_
   exact⟨.inr ⟨mm,a0d HE,rfl⟩,hnx⟩
theorem f2O{a b:ByteArray}(h:a=b):Ending.returned (.string a)=.returned (.string b):=by rw[h]
def g2O:Value->Nat
 |.string s=>s.size
 |_=>0
theorem f2P(j:Nat)(t:ByteArray):(⟨#[48]⟩:ByteArray)++Txt.pz j t=Txt.pz (j+1) t:=by
 apply Txt.a7x;rw[Txt.a1X,Txt.e2g,Txt.e2g,List.replicate_succ];rfl
theorem g2o(n:Int)(size:Nat)(w:World)(he:Env w)(h0:0<=n)(h1:n<=9999999)(hs:size<=9):
  Calls Tryz.prog 128 #[.int .i64 n,.int .i64 size] w fun e w'=>e=.returned (.string (Txt.b8V n size))/\Below w.heap.size w w':=by
 have hz:=Txt.a0I n h0 h1;have HE:=hide he;clear he
 go_enter Tryz.func128,Tryz.ntmps128
 go_wp2_with fail
 refine (c2Y n w (a0d HE) (by omega) (by omega)).mono ?_;rintro e w1 ⟨rfl,hb1⟩;go_wp2
 go_loop [5] (fun t=>∃ j:Nat,j<=size-(Txt.a0x n).size/\t=.string (Txt.pz j (Txt.a0x n))) (fun t=>size-g2O t)
 case atStart=>exact⟨0,Nat.zero_le _,rfl⟩
 case round =>
  obtain⟨j,hj,rfl⟩:=hrel;have pzz:=Txt.e2f j (Txt.a0x n);have HZ:=hide pzz;have pb:(Txt.pz j (Txt.a0x n)).size<=20:=by omega
  clear pzz
  by_cases hlt:(Txt.pz j (Txt.a0x n)).size<size
  ·have hlt':((Txt.pz j (Txt.a0x n)).size:Int)<(size:Int):=by omega
   have HN:=hide (f2P j (Txt.a0x n));have HZ2:Hid (((⟨#[48]⟩:ByteArray)++Txt.pz j (Txt.a0x n)).size=1+(Txt.pz j (Txt.a0x n)).size):=ByteArray.size_append;go_wp2
   go_round
   case rel=>exact⟨j+1,by have:=a0d HZ;omega,by rw[a0d HN]⟩
   case measure =>
    have q:=a0d HZ2;show size-((⟨#[48]⟩:ByteArray)++Txt.pz j (Txt.a0x n)).size<size-(Txt.pz j (Txt.a0x n)).size;omega
  ·have hlt':¬ ((Txt.pz j (Txt.a0x n)).size:Int)<(size:Int):=by omega
   have HJ:Hid (Txt.b8V n size=Txt.pz j (Txt.a0x n)):=by
    show Txt.b8V n size=_;unfold Txt.b8V;rw[show size-(Txt.a0x n).size=j from by have:=a0d HZ;omega]
   go_wp2;go_ret;exact⟨f2O (by rw[HJ.out]),hb1⟩
theorem d0r(n:Int)(w:World)(he:Env w)(h0:-9223372036854775808<=n)(h1:n<=9223372036854775807):
  Calls Tryz.prog 327 #[.int .i64 n] w fun e w'=>e=.returned (.string (Txt.a0x n))/\Below w.heap.size w w':=by
 have HE:=hide he;clear he
 go_enter Tryz.func327,Tryz.ntmps327
 go_wp2_with fail
 refine (c2Y n w (a0d HE) h0 h1).mono ?_;rintro e w1 ⟨rfl,hb1⟩;go_wp2;go_ret;exact⟨rfl,hb1⟩
theorem d3g(n:Int)(size:Nat)(w:World)(he:Env w)(h0:0<=n)(h1:n<=9999999)(hs:size<=9):
  Calls Tryz.prog 333 #[.int .i64 n,.int .i64 size] w fun e w'=>e=.returned (.string (Txt.b8V n size))/\Below w.heap.size w w':=by
 have hz:=Txt.a0I n h0 h1;have HE:=hide he;clear he
 go_enter Tryz.func333,Tryz.ntmps333
 go_wp2_with fail
 refine (d0r n w (a0d HE) (by omega) (by omega)).mono ?_;rintro e w1 ⟨rfl,hb1⟩;go_wp2
 go_loop [5] (fun t=>∃ j:Nat,j<=size-(Txt.a0x n).size/\t=.string (Txt.pz j (Txt.a0x n))) (fun t=>size-g2O t)
 case atStart=>exact⟨0,Nat.zero_le _,rfl⟩
 case round =>
  obtain⟨j,hj,rfl⟩:=hrel;have pzz:=Txt.e2f j (Txt.a0x n);have HZ:=hide pzz;have pb:(Txt.pz j (Txt.a0x n)).size<=20:=by omega
  clear pzz
  by_cases hlt:(Txt.pz j (Txt.a0x n)).size<size
  ·have hlt':((Txt.pz j (Txt.a0x n)).size:Int)<(size:Int):=by omega
   have HN:=hide (f2P j (Txt.a0x n));have HZ2:Hid (((⟨#[48]⟩:ByteArray)++Txt.pz j (Txt.a0x n)).size=1+(Txt.pz j (Txt.a0x n)).size):=ByteArray.size_append;go_wp2
   go_round
   case rel=>exact⟨j+1,by have:=a0d HZ;omega,by rw[a0d HN]⟩
   case measure =>
    have q:=a0d HZ2;show size-((⟨#[48]⟩:ByteArray)++Txt.pz j (Txt.a0x n)).size<size-(Txt.pz j (Txt.a0x n)).size;omega
  ·have hlt':¬ ((Txt.pz j (Txt.a0x n)).size:Int)<(size:Int):=by omega
   have HJ:Hid (Txt.b8V n size=Txt.pz j (Txt.a0x n)):=by
    show Txt.b8V n size=_;unfold Txt.b8V;rw[show size-(Txt.a0x n).size=j from by have:=a0d HZ;omega]
   go_wp2;go_ret;exact⟨f2O (by rw[HJ.out]),hb1⟩
def f4t(y m d:Int):ByteArray:=Txt.b8V y 4++⟨#[45]⟩++Txt.b8V m 2++⟨#[45]⟩++Txt.b8V d 2
def d8f(n:Int):ByteArray:=Txt.b8V (n / 60) 2++⟨#[58]⟩++Txt.b8V (n % 60) 2
theorem d2S(n:Int)(w:World)(he:Env w)(h0:0<=n)(h1:n<1440):
  Calls Tryz.prog 332 #[.int .i64 n] w fun e w'=>e=.returned (.string (d8f n))/\Below w.heap.size w w':=by
 have HE:=hide he;have z1:=Txt.d1q (n / 60) 2 (by omega) (by omega);have z2:=Txt.d1q (n % 60) 2 (by omega) (by omega);clear he
 go_enter Tryz.func332,Tryz.ntmps332
 go_wp2_with fail
 refine (d3g (n / 60) 2 w (a0d HE) (by omega) (by omega) (by omega)).mono ?_;rintro e w1 ⟨rfl,hb1⟩
 go_wp2_with fail
 refine (d3g (n % 60) 2 w1 ((a0d HE).later hb1) (by omega) (by omega) (by omega)).mono ?_;rintro e w2 ⟨rfl,hb2⟩;have hbb:=hb1.trans (hb2.mono hb1.size);go_wp2;go_ret;exact⟨rfl,hbb⟩
theorem e5d(n:Int)(w:World)(he:Env w)(h0:-738885<=n)(h1:n<=2913173):
  Calls Tryz.prog 331 #[.int .i64 n] w fun e w'=>(∃ y m d,e=.returned (.string (f4t y m d))/\Cal.ok y m d=true/\Cal.num y m d=n)/\Below w.heap.size w w':=by
 have HE:=hide he;clear he
 go_enter Tryz.func331,Tryz.ntmps331
 go_wp2_with fail
 refine (b5w n w (a0d HE).tab h0 h1).mono ?_;rintro e w1 ⟨y,m,d,rfl,hok,hnum,rfl⟩;have HO:=hide hok;have HN:=hide hnum;obtain⟨y1,y2,m1,m2,d1,d2⟩:=(Cal.a2K y m d).1 hok;have db:=Cal.b3I y m;have z1:=Txt.d1q y 4 (by omega) (by omega);have z2:=Txt.d1q m 2 (by omega) (by omega);have z3:=Txt.d1q d 2 (by omega) (by omega);clear hok hnum
 go_wp2_with fail
 refine (d3g y 4 _ (a0d HE) (by omega) (by omega) (by omega)).mono ?_;rintro e w2 ⟨rfl,hb2⟩
 go_wp2_with fail
 refine (d3g m 2 _ ((a0d HE).later hb2) (by omega) (by omega) (by omega)).mono ?_;rintro e w3 ⟨rfl,hb3⟩;have hb23:=hb2.trans (hb3.mono hb2.size)
 go_wp2_with fail
 refine (d3g d 2 _ ((a0d HE).later hb23) (by omega) (by omega) (by omega)).mono ?_;rintro e w4 ⟨rfl,hb4⟩;have hb24:=hb23.trans (hb4.mono hb23.size);go_wp2;go_ret;exact⟨⟨y,m,d,rfl,a0d HO,a0d HN⟩,hb24⟩
end Go.Proofs.YtfigmlfdnickmaaGreatDoor
