/-
  Parts of the proof, one behind the other.
-/
import Derived.Test.YtfigmlfdnickmaaGreatDoorL15
import Derived.RangeFuncKeeps
import Derived.RangeFuncBound
import Derived.RangeFuncLeaves
import Derived.Shelf.Abstract
import Derived.Shelf.RegionOpen
import Derived.OwnWalkIn
import Derived.TacticsInMore
import Derived.Deep.CutRange
import Derived.Deep.RegionWith
import Derived.Deep.RegionHeld3
set_option maxRecDepth 100000
set_option maxHeartbeats 8000000
namespace Go.Proofs.YtfigmlfdnickmaaGreatDoor
open Go.RowKit
open Desk (Ent St Ids kept a0C a0Q a1C a2e ofB a0y a2c Mid a1H a0z Inv)
def a3U:Obj:=.cells #[.int .i64 0,.int .i64 0,.string ByteArray.empty,.int .i64 0,.slice none 0 0,.int .i64 0] 58 (0,0)
def a8k(e:Ent)(v:Value):Value:=.agg #[.int .i64 e.id,.int .i64 e.kind,.string e.a0k,.int .i64 e.a0c,v,.int .i64 e.a0Z]
def c5K(Z:World)(Q:Nat)(a b c d e f:Value):World:=(((((Z.setCell ⟨Q,0,none⟩ a).setCell ⟨Q,1,none⟩ b).setCell ⟨Q,2,none⟩ c).setCell ⟨Q,3,none⟩ d).setCell ⟨Q,4,none⟩ e).setCell ⟨Q,5,none⟩ f
theorem b6a(Z:World)(Q:Nat)(a b c d e f:Value):Off [Q] Z (c5K Z Q a b c d e f) :=
 ((((((Off.refl [Q] Z).setCell (.inl (by simp)) _ _).setCell (.inl (by simp)) _ _).setCell (.inl (by simp)) _ _).setCell (.inl (by simp)) _ _).setCell (.inl (by simp)) _ _).setCell (.inl (by simp)) _ _
def b2p(w:World)(e:Ent)(v:Value)(w':World):Prop:=∃ sp,v=a8k e sp/\w'.ownsRow w.heap.size 60 2 sp e.a0e.length (e.a0e.flatMap spV)/\Below w.heap.size w w'
theorem c7v{w:World}{Q:Nat}(h:w.heap[Q]?=some a3U):w.cell? ⟨Q,0,none⟩=some (.int .i64 0):=by unfold a3U at h;simp only[World.cell?,h];rfl
theorem c7u{w:World}{Q:Nat}(h:w.heap[Q]?=some a3U):w.cell? ⟨Q,1,none⟩=some (.int .i64 0):=by unfold a3U at h;simp only[World.cell?,h];rfl
theorem c7t{w:World}{Q:Nat}(h:w.heap[Q]?=some a3U):w.cell? ⟨Q,2,none⟩=some (.string ByteArray.empty):=by unfold a3U at h;simp only[World.cell?,h];rfl
theorem c7s{w:World}{Q:Nat}(h:w.heap[Q]?=some a3U):w.cell? ⟨Q,3,none⟩=some (.int .i64 0):=by unfold a3U at h;simp only[World.cell?,h];rfl
theorem c7r{w:World}{Q:Nat}(h:w.heap[Q]?=some a3U):w.cell? ⟨Q,4,none⟩=some (.slice none 0 0):=by unfold a3U at h;simp only[World.cell?,h];rfl
theorem c7q{w:World}{Q:Nat}(h:w.heap[Q]?=some a3U):w.cell? ⟨Q,5,none⟩=some (.int .i64 0):=by unfold a3U at h;simp only[World.cell?,h];rfl
theorem c7p{w:World}{Q:Nat}(h:w.heap[Q]?=some a3U):∀ o,w.frozen? ⟨Q,o,none⟩=false:=fun o=>frozen_of_row _ Q o _ _ h
theorem c2d(w:World)(g:EG)(h:ENK w g)(hn:w.cell? ⟨g.tb,0,none⟩=some (.string g.e.a0k))(hL:g.e.a0e.length<=100):
  Calls Tryz.prog 152 #[.pointer (some ⟨g.eb,0,none⟩)] w fun e w'=>∃ v,e=.returned v/\b2p w g.e v w':=by
 have hX:Below w.heap.size w (w.alloc a3U):=(Below.refl _ _).alloc (Nat.le_refl _) _
 have hq:=a0p w a3U
 have hx:=h.off (G:=[]) (Off.of_below hX) (by simp) (by simp)
 have c0:=hx.en.c0
 have c1:=hx.k
 have c2:=hx.en.c1
 have c3:=hx.en.c2
 have c4:=hx.en.c3
 have c5:=hx.u
 have cn:=a0a hX hn
 have CL:=a0b (b4C (w.alloc a3U).drew g.B g.cap g.e.a0e (hx.en.sl.off (G:=[]) (Off.of_below (a0q _)) (by simp)) hL)
 have HX:=a0b (And.intro hX hq)
 have hne:g.eb≠w.heap.size/\g.tb≠w.heap.size:=⟨by have:=h.lt;omega,by have h1:g.tb<w.heap.size:=World.block_lt_of_cell? _ _ hn;omega⟩
 clear h hn hX hq hx
 go_enter Tryz.func152,Tryz.ntmps152
 go_upto_region 1 with fail
 change Code.wp _ _ _ _ (w.alloc a3U)
 have hs:w.heap.size<(w.alloc a3U).heap.size:=by simp
 generalize w.alloc a3U=X at *
 have AC:Hid (∀ w2,Below X.drew.heap.size X.drew w2->w2.cell? ⟨g.eb,0,none⟩=some (.int .i64 g.e.id)/\w2.cell? ⟨g.eb,1,none⟩=some (.int .i64 g.e.kind)/\w2.cell? ⟨g.eb,2,none⟩=some (.pointer (some ⟨g.tb,0,none⟩))/\w2.cell? ⟨g.eb,3,none⟩=some (.int .i64 g.e.a0c)/\w2.cell? ⟨g.eb,4,none⟩=some (.slice (some ⟨g.B,0,none⟩) g.e.a0e.length g.cap)/\w2.cell? ⟨g.eb,5,none⟩=some (.int .i64 g.e.a0Z)/\w2.cell? ⟨g.tb,0,none⟩=some (.string g.e.a0k)):=fun w2 k=>⟨a0a k c0,a0a k c1,a0a k c2,a0a k c3,a0a k c4,a0a k c5,a0a k cn⟩
 have AQ:Hid (∀ w2,Below X.drew.heap.size X.drew w2->w2.heap[w.heap.size]?=some a3U):=fun w2 k=>(k.block _ hs).trans HX.out.2
 have AS:Hid (∀ w2 a b c d e f,Below X.drew.heap.size X.drew w2->((((((w2.setCell ⟨w.heap.size,0,none⟩ a).setCell ⟨w.heap.size,1,none⟩ b).setCell ⟨w.heap.size,2,none⟩ c).setCell ⟨w.heap.size,3,none⟩ d).setCell ⟨w.heap.size,4,none⟩ e).setCell ⟨w.heap.size,5,none⟩ f).cell? ⟨g.eb,0,none⟩=some (.int .i64 g.e.id)/\((((((w2.setCell ⟨w.heap.size,0,none⟩ a).setCell ⟨w.heap.size,1,none⟩ b).setCell ⟨w.heap.size,2,none⟩ c).setCell ⟨w.heap.size,3,none⟩ d).setCell ⟨w.heap.size,4,none⟩ e).setCell ⟨w.heap.size,5,none⟩ f).cell? ⟨g.eb,1,none⟩=some (.int .i64 g.e.kind)/\((((((w2.setCell ⟨w.heap.size,0,none⟩ a).setCell ⟨w.heap.size,1,none⟩ b).setCell ⟨w.heap.size,2,none⟩ c).setCell ⟨w.heap.size,3,none⟩ d).setCell ⟨w.heap.size,4,none⟩ e).setCell ⟨w.heap.size,5,none⟩ f).cell? ⟨g.eb,2,none⟩=some (.pointer (some ⟨g.tb,0,none⟩))/\((((((w2.setCell ⟨w.heap.size,0,none⟩ a).setCell ⟨w.heap.size,1,none⟩ b).setCell ⟨w.heap.size,2,none⟩ c).setCell ⟨w.heap.size,3,none⟩ d).setCell ⟨w.heap.size,4,none⟩ e).setCell ⟨w.heap.size,5,none⟩ f).cell? ⟨g.eb,3,none⟩=some (.int .i64 g.e.a0c)/\((((((w2.setCell ⟨w.heap.size,0,none⟩ a).setCell ⟨w.heap.size,1,none⟩ b).setCell ⟨w.heap.size,2,none⟩ c).setCell ⟨w.heap.size,3,none⟩ d).setCell ⟨w.heap.size,4,none⟩ e).setCell ⟨w.heap.size,5,none⟩ f).cell? ⟨g.eb,4,none⟩=some (.slice (some ⟨g.B,0,none⟩) g.e.a0e.length g.cap)/\((((((w2.setCell ⟨w.heap.size,0,none⟩ a).setCell ⟨w.heap.size,1,none⟩ b).setCell ⟨w.heap.size,2,none⟩ c).setCell ⟨w.heap.size,3,none⟩ d).setCell ⟨w.heap.size,4,none⟩ e).setCell ⟨w.heap.size,5,none⟩ f).cell? ⟨g.eb,5,none⟩=some (.int .i64 g.e.a0Z)/\((((((w2.setCell ⟨w.heap.size,0,none⟩ a).setCell ⟨w.heap.size,1,none⟩ b).setCell ⟨w.heap.size,2,none⟩ c).setCell ⟨w.heap.size,3,none⟩ d).setCell ⟨w.heap.size,4,none⟩ e).setCell ⟨w.heap.size,5,none⟩ f).cell? ⟨g.tb,0,none⟩=some (.string g.e.a0k)):=fun w2 a b c d e f k=>by
  have o:=b6a w2 w.heap.size a b c d e f
  obtain⟨k0,k1,k2,k3,k4,k5,k6⟩:=AC.out w2 k
  exact⟨o.cell (by simpa using hne.1) k0,o.cell (by simpa using hne.1) k1,o.cell (by simpa using hne.1) k2,o.cell (by simpa using hne.1) k3,o.cell (by simpa using hne.1) k4,o.cell (by simpa using hne.1) k5,o.cell (by simpa using hne.2) k6⟩
 clear hne
 go_region_held3 (fun w'=>w'.cell? ⟨g.eb,0,none⟩=some (.int .i64 g.e.id)/\w'.cell? ⟨g.eb,1,none⟩=some (.int .i64 g.e.kind)/\w'.cell? ⟨g.eb,2,none⟩=some (.pointer (some ⟨g.tb,0,none⟩))/\w'.cell? ⟨g.eb,3,none⟩=some (.int .i64 g.e.a0c)/\w'.cell? ⟨g.eb,4,none⟩=some (.slice (some ⟨g.B,0,none⟩) g.e.a0e.length g.cap)/\w'.cell? ⟨g.eb,5,none⟩=some (.int .i64 g.e.a0Z)/\w'.cell? ⟨g.tb,0,none⟩=some (.string g.e.a0k))
  (first
   |with_reducible exact AS.out _ _ _ _ _ _ _ hb2
   |with_reducible exact AC.out _ hb2
   |exact⟨c0,c1,c2,c3,c4,c5,cn⟩)
  (first
   |(go_at_call 210;refine CL.out.mono ?_;rintro e w2 ⟨v,rfl,ho,hb2⟩;obtain⟨va,vc,rfl⟩:=a0B ho;have hq2:=AQ.out w2 hb2;have q0:=c7v hq2;have q1:=c7u hq2;have q2:=c7t hq2;have q3:=c7s hq2;have q4:=c7r hq2;have q5:=c7q hq2;have fq:=c7p hq2;clear hq2))
 have HF:Hid (b2p w g.e (a8k g.e (.slice va g.e.a0e.length vc)) (c5K w2 w.heap.size (.int .i64 g.e.id) (.int .i64 g.e.kind) (.string g.e.a0k) (.int .i64 g.e.a0c) (.slice va g.e.a0e.length vc) (.int .i64 g.e.a0Z))):=by
  have hXs:=HX.out.1.size
  have k:=b6a w2 w.heap.size (.int .i64 g.e.id) (.int .i64 g.e.kind) (.string g.e.a0k) (.int .i64 g.e.a0c) (.slice va g.e.a0e.length vc) (.int .i64 g.e.a0Z)
  have h1:Below w.heap.size w w2:=HX.out.1.drew.trans (hb2.mono hXs)
  refine⟨_,rfl,a1i (Joins.ownsRow_le ho hXs) k (fun b hb hx=>?_),?_⟩
  ·have:=(ho.lt b hb).1
   have e:b=w.heap.size:=List.mem_singleton.1 hx
   have hs':w.heap.size<X.drew.heap.size:=hs
   omega
  ·exact⟨k.os.trans h1.os,k.tape.trans h1.tape,k.output.trans h1.output,Nat.le_trans h1.size k.size,fun b hb=>(k.block b (Nat.lt_of_lt_of_le hb h1.size) (by simp;omega)).trans (h1.block b hb)⟩
 clear ho hb2 CL AC AQ AS c0 c1 c2 c3 c4 c5 cn HX hs
 go_wp2_with fail
 exact bodyPost_ret (v:=a8k g.e (.slice va g.e.a0e.length vc)) (by simp[results,Tryz.results152,go_sem,a8k,q0,q1,q2,q3,q4,q5]) rfl ⟨_,rfl,HF.out⟩
theorem b6R:(Tryz.prog.info? 58).map (fun i=>(i.zero,i.size,i.bytes))=some (some (.agg #[.int .i64 0,.int .i64 0,.string ByteArray.empty,.int .i64 0,.slice none 0 0,.int .i64 0]),6,72):=by kernel_rfl
theorem a3j.snoc{wx w2 w3:World}{B:Nat}{col:Nat->Option Col}{v:Value}{l:List (Ent × Value)}(h:a3j wx B col v l){e:Ent}{sp:Value}(ho:w2.ownsRow wx.heap.size 60 2 sp e.a0e.length (e.a0e.flatMap spV))(k:Below wx.heap.size wx w2)(hB:B<=wx.heap.size)(hc:∀ b,wx.heap.size<=b->col b=none)(k3:Off v.ownBlock.toList w2 w3){g2 cap:Nat}(hown:w3.ownsRow B 58 6 (.slice (some ⟨g2,0,none⟩) (l.length+1) cap) (l.length+1) (l.flatMap a1f++a1f (e,sp)))(hat:v.ownBlock=some g2\/w2.heap.size<=g2):
  a3j w3 B col (.slice (some ⟨g2,0,none⟩) (l.length+1) cap) (l++[(e,sp)]):=by
 have hks:=k.size
 refine⟨?_,fun b hb=>?_,fun p hp=>?_⟩
 ·rw[List.length_append,List.flatMap_append]
  have:[(e,sp)].flatMap a1f=a1f (e,sp):=by simp
  rw[this];exact hown
 ·have:g2=b:=by simpa[Value.ownBlock] using hb
  subst this
  rcases hat with e1|e1
  ·exact h.no g2 e1
  ·exact hc g2 (by omega)
 ·rcases List.mem_append.1 hp with hp|hp
  ·obtain⟨s1,s2⟩:=h.sp p hp
   refine⟨⟨a1i (a1g s1.own k) k3 (fun b hb hx=>s2 b hb (Option.mem_toList.1 hx)),s1.no⟩,fun b hb hx=>?_⟩
   have:g2=b:=by simpa[Value.ownBlock] using hx
   subst this
   rcases hat with e1|e1
   ·exact s2 g2 hb e1
   ·have:=(s1.own.lt g2 hb).2;omega
  ·have:p=(e,sp):=List.mem_singleton.1 hp
   subst this
   have hvb:∀ b,v.ownBlock=some b->b<wx.heap.size:=fun b hb=>(h.own.lt b hb).2
   refine⟨⟨a1i (Joins.ownsRow_le ho hB) k3 (fun b hb hx=>?_),fun b hb=>hc b (ho.lt b hb).1⟩,fun b hb hx=>?_⟩
   ·have h1:=(ho.lt b hb).1
    have h2:=hvb b (Option.mem_toList.1 hx)
    omega
   ·have:g2=b:=by simpa[Value.ownBlock] using hx
    subst this
    have h1:=ho.lt g2 hb
    rcases hat with e1|e1
    ·have:=hvb g2 e1;omega
    ·omega
theorem DSt.tells{w wx:World}{d:Nat}{s:St}{r:Raw}{col:Nat->Option Col}(h:DSt w d s r col)(k:Below w.heap.size w wx){g:EG}(hg:g∈r.eg):
  Calls Tryz.prog 152 #[.pointer (some ⟨g.eb,0,none⟩)] wx fun e w'=>∃ v,e=.returned v/\b2p wx g.e v w':=by
 have d1:=h.dk.later k
 obtain⟨i,hi,e1,e2⟩:=h.of.tb g hg
 obtain⟨ul,us,Fl,Fs,t1,_⟩:=d1.th i hi
 have hc:=t1.c0
 rw[e1,<- e2] at hc
 exact c2d wx g (d1.en g hg).1 hc (by have:=(h.inv.en _ (h.of.mem hg)).sl;omega)
def a4L(g:EG):Bool:=g.e.kind==3
def WT(w wx:World)(r:Raw)(col:Nat->Option Col)(k:Nat)(v:Value):Prop:=∃ l,l.map (·.1)=((r.eg.filter a4L).take k).map (·.e)/\a3j wx w.heap.size col v l/\Below w.heap.size w wx
theorem a8L{w:World}{d:Nat}{s:St}{r:Raw}{col:Nat->Option Col}(h:DSt w d s r col):
  Calls Tryz.prog 99 #[.pointer (some ⟨d,0,none⟩)] w fun e w'=>∃ v,e=.returned v/\WT w w' r col (r.eg.filter a4L).length v:=by
 obtain⟨i0,hi0,hz0,hz1,hz2⟩:=info_parts b6R
 obtain⟨v4,c4,own4,hc4⟩:=h.dk.wa
 have hwl:r.wl.length=(r.eg.filter a4L).length:=by rw[h.wl,List.length_map];rfl
 have hwn:(r.eg.filter a4L).length<=60:=by
  have h1:=List.length_filter_le a4L r.eg
  have h2:=a1x h.mid
  have h3:r.eg.length=s.es.length:=by rw[<- h.of.es];simp
  omega
 rw[hwl] at own4
 obtain⟨a,cap,rfl⟩:=a0B own4
 have G0:Hid (WT w w r col 0 (.slice none 0 0)):=⟨[],rfl,a3j.nil _ _ _,Below.refl _ _⟩
 have HH:=a0b h
 have O4:=a0b own4
 clear h own4 hc4
 go_enter Tryz.func99,Tryz.ntmps99
 go_wp2_with fail
 clear c4
 go_loopw [3,5,11] (fun vg _ vi wx=>∃ k:Nat,k<=(r.eg.filter a4L).length/\vi=.int .i64 k/\WT w wx r col k vg) (fun _ _ vi _=>(r.eg.filter a4L).length-(intOf vi).toNat)
 case atStart=>exact⟨0,Nat.zero_le _,rfl,G0.out⟩
 case round =>
  obtain⟨k,hk,rfl,l,hl,X,hb⟩:=hrel
  by_cases hlt:k<(r.eg.filter a4L).length
  ·have hi0':(k:Int)<((r.eg.filter a4L).length:Int):=by omega
   have hg:=(List.mem_filter.1 (List.getElem_mem hlt)).1
   have hlk:l.length=k:=by
    have:=congrArg List.length hl
    rw[List.length_map,List.length_map,List.length_take] at this
    omega
   have row:=a1g O4.out hb
   obtain⟨Hh,cap',e1⟩:=Joins.ownsRow_form row (by omega)
   simp only[Value.slice.injEq,true_and] at e1
   obtain⟨rfl,rfl⟩:=e1
   have a0:=row.cellAt k (by omega)
   have e2:(r.wl.map a5x)[k]?=some (a5x (r.eg.filter a4L)[k].eb):=by
    rw[HH.out.wl,List.getElem?_map,List.getElem?_map]
    show Option.map a5x (Option.map _ (r.eg.filter a4L)[k]?)=_
    rw[List.getElem?_eq_getElem hlt];rfl
   rw[e2] at a0
   unfold a5x at a0
   have TE:=a0b (HH.out.tells hb hg)
   have HX:=a0b (And.intro hl (And.intro X (And.intro hb hlk)))
   have hl60:l.length<=60:=by omega
   obtain⟨g,hge⟩:∃ g,g=(r.eg.filter a4L)[k]:=⟨_,rfl⟩
   rw[<- hge] at TE a0
   have GE:=a0b hge
   clear hge e2 row hl X hb hlk hg
   go_wp2_with fail
   refine TE.out.mono ?_
   rintro e w2 ⟨v,rfl,sp,rfl,ho,hb2⟩
   obtain⟨sa,sc,rfl⟩:=a0B ho
   have RW:=a0b (a1g HX.out.2.1.own hb2)
   have SR:=a0b (And.intro ho hb2)
   have hsz:w.heap.size<=w2.heap.size:=Nat.le_trans HX.out.2.2.1.size hb2.size
   clear ho hb2 TE a0
   simp only[a8k]
   go_wp2_with (first
    |(at_builtin;refine wpList_append_lies _ rfl _ _ 34 rfl w.heap.size 58 i0 _ 6 72 Tryz.underlying34 hi0 hz0 hz1 hz2 rfl (by decide) _ _ _ rfl (RW.out.alloc _) ⟨w2.heap.size,0,none⟩ 1 1 (a1f (g.e,.slice sa g.e.a0e.length sc)) rfl rfl (World.news_of_block (cs:=(a1f (g.e,.slice sa g.e.a0e.length sc)).toArray) (a0p w2 _)) (by simp[a1f,Value.oneCell']) (by omega) (by unfold maxLen;omega) (by omega) (by simp;omega) (w2.heap.size+1) (by simp) ?_;intro g2 cap2 w3 hown hgrow hat hlt2))
   have ko:Off u3.ownBlock.toList w2 w3:=Off.grown ((Off.refl _ w2).alloc _) hgrow (fun k hk=>.inl (Option.mem_toList.2 hk))
   have hat':u3.ownBlock=some g2\/g2=w2.heap.size+1:=hat
   have HN:Hid (WT w w3 r col (k+1) (.slice (some ⟨g2,0,none⟩) (l.length+1) cap2)):=by
    obtain⟨e1,e2,e3,e4⟩:=HX.out
    obtain⟨s1,s2⟩:=SR.out
    refine⟨l++[(g.e,.slice sa g.e.a0e.length sc)],?_,e2.snoc s1 s2 e3.size (fun b hb=>HH.out.dk.none (Nat.le_trans e3.size hb)) ko hown (hat'.imp id (fun e=>by omega)),?_⟩
    ·rw[List.map_append,List.take_succ_eq_append_getElem hlt,List.map_append,e1,<- GE.out];rfl
    ·have h2:Below w.heap.size w w2:=e3.trans (s2.mono e3.size)
     exact⟨ko.os.trans h2.os,ko.tape.trans h2.tape,ko.output.trans h2.output,Nat.le_trans h2.size ko.size,fun b hb=>(ko.block b (Nat.lt_of_lt_of_le hb h2.size) (fun hx=>by have:=(e2.own.lt b (Option.mem_toList.1 hx)).1;omega)).trans (h2.block b hb)⟩
   clear hown hgrow hat ko hat' HX SR RW
   go_wp2_with fail
   go_roundw
   case rel=>exact⟨k+1,by omega,by go_num,HN.out⟩
   case measure=>simp[intOf];omega
  ·have hke:k=(r.eg.filter a4L).length:=by omega
   have hi0':¬ ((k:Int)<((r.eg.filter a4L).length:Int)):=by omega
   have HF:Hid (WT w wr r col (r.eg.filter a4L).length u3):=⟨l,by rw[<- hke];exact hl,X,hb⟩
   clear hl X hb
   go_wp2_with fail
   go_ret
   exact⟨_,rfl,HF.out⟩
theorem a3M:∀ {l:List (Ent × Value)}{k:Nat}(hk:k<l.length){j:Nat}(_:j<6),(l.flatMap a1f)[k*6+j]?=(a1f l[k])[j]?
 |p :: l,0,hk,j,hj=>by
  have e:(p :: l).flatMap a1f=a1f p++l.flatMap a1f:=by simp
  rw[e,List.getElem?_append_left (by simp[a1f];omega)]
  simp
 |p :: l,k+1,hk,j,hj=>by
  have hk':k<l.length:=by simpa using hk
  have e:(p :: l).flatMap a1f=a1f p++l.flatMap a1f:=by simp
  have hl:(a1f p).length=6:=rfl
  rw[e,List.getElem?_append_right (by rw[hl];omega),hl,show (k+1)*6+j-6=k*6+j by omega,a3M hk' hj]
  simp
theorem b8q(eb:Nat)(id:Int)(x:Ent)(a:Option Addr)(n c:Nat)(w:World)(hc:w.cell? ⟨eb,0,none⟩=some (.int .i64 id)):
  Calls Tryz.prog 209 #[.pointer (some ⟨eb,0,none⟩),a8k x (.slice a n c)] w fun e w'=>e=.returned (.bool (x.id==id))/\Below w.heap.size w w':=by
 have hX:Below w.heap.size w (w.alloc (.cells #[.int .i64 x.id,.int .i64 x.kind,.string x.a0k,.int .i64 x.a0c,.slice a n c,.int .i64 x.a0Z] 58)):=(Below.refl _ _).alloc (Nat.le_refl _) _
 have x0:(w.alloc (.cells #[.int .i64 x.id,.int .i64 x.kind,.string x.a0k,.int .i64 x.a0c,.slice a n c,.int .i64 x.a0Z] 58)).cell? ⟨w.heap.size,0,none⟩=some (.int .i64 x.id):=by simp
 have x1:=a0a hX hc
 have HX:=a0b hX
 clear hX hc
 unfold a8k
 go_enter Tryz.func209,Tryz.ntmps209
 go_upto_region 1 with fail
 generalize w.alloc (.cells #[.int .i64 x.id,.int .i64 x.kind,.string x.a0k,.int .i64 x.a0c,.slice a n c,.int .i64 x.a0Z] 58)=X at *
 go_big_region
 go_wp2_with fail
 go_ret
 exact⟨rfl,HX.out.drew⟩
theorem b1T(l:List (Ent × Value))(v:Value)(B eb:Nat)(id:Int)(w:World)(own:w.ownsRow B 58 6 v l.length (l.flatMap a1f))(hs:∀ p∈l,∃ a n c,p.2=.slice a n c)(hc:w.cell? ⟨eb,0,none⟩=some (.int .i64 id))(hl:l.length<=1000):
  Calls Tryz.prog 256 #[v,.func (.func 209) #[.pointer (some ⟨eb,0,none⟩)] #[]] w fun e w'=>e=.returned (.int .i64 (a3z (fun p:Ent × Value=>p.1.id==id) l 0))/\Below w.heap.size w w':=by
 obtain⟨a,cap,rfl⟩:=a0B own
 have CC:=a0b hc
 have HS:=a0b hs
 have OWN:=a0b own
 clear hc hs own
 go_enter Tryz.func256,Tryz.ntmps256
 go_wp2_with fail
 go_loopw [8] (fun i wx=>∃ k:Nat,k<=l.length/\i=.int .i64 k/\a3z (fun p:Ent × Value=>p.1.id==id) l 0=a3z (fun p:Ent × Value=>p.1.id==id) (l.drop k) k/\Below w.heap.size w wx) (fun i _=>l.length-(intOf i).toNat)
 case atStart=>exact⟨0,Nat.zero_le _,rfl,rfl,Below.refl _ _⟩
 case round =>
  obtain⟨k,hk,rfl,hu,hb⟩:=hrel
  have HU:=a0b hu
  have HB:=a0b hb
  by_cases hlt:k<l.length
  ·have hi:(k:Int)<(l.length:Int):=by omega
   obtain⟨H,cap',e1⟩:=Joins.ownsRow_form OWN.out (by omega)
   simp only[Value.slice.injEq,true_and] at e1
   obtain⟨rfl,rfl⟩:=e1
   have ownr:=a1g OWN.out hb
   have a0:=(ownr.cellAt (k*6) (by omega)).trans (a3M hlt (j:=0) (by omega))
   have a1:=(ownr.cellAt (k*6+1) (by omega)).trans (a3M hlt (j:=1) (by omega))
   have a2:=(ownr.cellAt (k*6+2) (by omega)).trans (a3M hlt (j:=2) (by omega))
   have a3:=(ownr.cellAt (k*6+3) (by omega)).trans (a3M hlt (j:=3) (by omega))
   have a4:=(ownr.cellAt (k*6+4) (by omega)).trans (a3M hlt (j:=4) (by omega))
   have a5:=(ownr.cellAt (k*6+5) (by omega)).trans (a3M hlt (j:=5) (by omega))
   simp only[a1f,List.getElem?_cons_zero,List.getElem?_cons_succ] at a0 a1 a2 a3 a4 a5
   obtain⟨sa,sn,sc,hsp⟩:=HS.out l[k] (List.getElem_mem hlt)
   rw[hsp] at a4
   have D1:=a0b (b8q eb id l[k].1 sa sn sc wr (a0a hb CC.out))
   have ed:a3z (fun p:Ent × Value=>p.1.id==id) (l.drop k) k=if l[k].1.id==id then (k:Int) else a3z (fun p:Ent × Value=>p.1.id==id) (l.drop (k+1)) ((k+1:Nat):Int):=by rw[List.drop_eq_getElem_cons hlt];rfl
   have ED:=a0b ed
   clear ed ownr hb hu hsp
   cases hq:(l[k].1.id==id)
   ·have HN:Hid (a3z (fun p:Ent × Value=>p.1.id==id) l 0=a3z (fun p:Ent × Value=>p.1.id==id) (l.drop (k+1)) ((k+1:Nat):Int)):=by show _=_;rw[HU.out,ED.out,hq];rfl
    rw[hq] at D1
    clear hq
    unfold a8k at D1
    go_wp2_with fail
    refine D1.out.mono ?_
    rintro e w1 ⟨rfl,k1⟩
    have HK:=a0b (a0j HB.out k1 (Nat.le_refl _))
    clear k1 a0 a1 a2 a3 a4 a5 D1
    go_wp2_with fail
    go_roundw
    case rel=>exact⟨k+1,by omega,by go_num,HN.out,HK.out⟩
    case measure=>simp[intOf];omega
   ·have HN:Hid (a3z (fun p:Ent × Value=>p.1.id==id) l 0=k):=by show _=_;rw[HU.out,ED.out,hq];rfl
    rw[hq] at D1
    clear hq
    unfold a8k at D1
    go_wp2_with fail
    refine D1.out.mono ?_
    rintro e w1 ⟨rfl,k1⟩
    have HK:=a0b (a0j HB.out k1 (Nat.le_refl _))
    clear k1 a0 a1 a2 a3 a4 a5 D1
    go_wp2_with fail
    go_ret
    exact⟨a1L HN.out.symm,HK.out⟩
  ·have hke:k=l.length:=by omega
   have hi:¬ ((k:Int)<(l.length:Int)):=by omega
   have HN:Hid (a3z (fun p:Ent × Value=>p.1.id==id) l 0=-1):=by show _=_;rw[HU.out,hke,List.drop_length];rfl
   clear hu hb
   go_wp2_with fail
   go_ret
   exact⟨a1L HN.out.symm,HB.out⟩
theorem a8q(l:List (Ent × Value))(v:Value)(B eb:Nat)(id:Int)(w:World)(own:w.ownsRow B 58 6 v l.length (l.flatMap a1f))(hs:∀ p∈l,∃ a n c,p.2=.slice a n c)(hc:w.cell? ⟨eb,0,none⟩=some (.int .i64 id))(hl:l.length<=1000):
  Calls Tryz.prog 208 #[v,.func (.func 209) #[.pointer (some ⟨eb,0,none⟩)] #[]] w fun e w'=>e=.returned (.bool (l.any (fun p:Ent × Value=>p.1.id==id)))/\Below w.heap.size w w':=by
 have HI:=a0b (b1T l v B eb id w own hs hc hl)
 have key:(decide ((0:Int)<=a3z (fun p:Ent × Value=>p.1.id==id) l 0))=l.any (fun p:Ent × Value=>p.1.id==id):=by
  rcases a7F (fun p:Ent × Value=>p.1.id==id) l 0 with ⟨h1,h2⟩|⟨k,h,h1,h2,_⟩
  ·rw[h1]
   have:l.any (fun p:Ent × Value=>p.1.id==id)=false:=List.any_eq_false.2 (fun x hx=>by rw[h2 x hx];simp)
   rw[this];rfl
  ·have:l.any (fun p:Ent × Value=>p.1.id==id)=true:=List.any_eq_true.2 ⟨_,List.getElem_mem h,h2⟩
   rw[this,h1]
   exact decide_eq_true (by omega)
 have KEY:=a0b key
 clear key own hs hc
 go_enter Tryz.func208,Tryz.ntmps208
 go_wp2_with fail
 refine HI.out.mono ?_
 rintro e w1 ⟨rfl,k1⟩
 have HK:=a0b k1
 clear k1 HI
 generalize a3z (fun p:Ent × Value=>p.1.id==id) l 0=z at *
 go_wp2_with fail
 go_ret
 exact⟨by rw[KEY.out];rfl,HK.out⟩
structure c7f(w wx:World)(r:Rd.a0Y)(days:List Int)(k:Nat)(v:Value):Prop where
 own:wx.ownsRow w.heap.size 60 2 v k ((((days.take k).map (a4K r))).flatMap spV)
 bl:Below w.heap.size w wx
 ru:wx.heap[w.heap.size]?=some (a0u r)
 ne:v.ownBlock≠some w.heap.size
theorem c1E(r:Rd.a0Y)(hf:Rd.a6s r)(days:List Int)(hd:∀ d∈days,0<=d/\d<100000)(hl:days.length<=100)(v:Value)(B:Nat)(w:World)(own:w.ownsRow B 3 1 v days.length (days.map (Value.int .i64))):
  Calls Tryz.prog 148 #[a1S r,v] w fun e w'=>∃ v',e=.returned v'/\w'.ownsRow w.heap.size 60 2 v' days.length ((days.map (a4K r)).flatMap spV)/\Below w.heap.size w w':=by
 obtain⟨i0,hi0,hz0,hz1,hz2⟩:=info_parts b6Q
 obtain⟨a,cap,rfl⟩:=a0B own
 have hX:Below w.heap.size w (w.alloc (a0u r)):=(Below.refl _ _).alloc (Nat.le_refl _) _
 have hr:=a0p w (a0u r)
 have hs:(w.alloc (a0u r)).heap.size=w.heap.size+1:=by simp
 have HX:=a0b (And.intro hX (And.intro hr hs))
 have OW:=a0b own
 have HD:=a0b (And.intro hd hf)
 clear own hX hr hd hf hs
 unfold a1S
 go_enter Tryz.func148,Tryz.ntmps148
 go_upto_region 1 with fail
 change Code.wp _ _ _ _ (w.alloc (a0u r))
 generalize w.alloc (a0u r)=X at *
 go_wp2_with (first
  |(at_make;refine wpList_make_own _ rfl _ _ 56 rfl w.heap.size 60 i0 _ 2 Tryz.underlying56 hi0 hz0 hz1 .i64 .i64 (days.length:Int) days.length rfl rfl rfl (by rw[hz2];omega) (by unfold maxLen;omega) (by have:=HX.out.1.size;omega) ?_;intro w1 hown hgrow))
 have S0:Hid (c7f w w1 r days 0 (.slice (some ⟨X.heap.size,0,none⟩) 0 days.length)):=by
  obtain⟨x1,x2,x3⟩:=HX.out
  refine⟨by simpa using hown,x1.grown hgrow x1.size (fun k e=>by cases e),(hgrow.block _ (by omega) (by simp)).trans x2,fun e=>?_⟩
  have:X.heap.size=w.heap.size:=by simpa[Value.ownBlock] using e
  omega
 clear hown hgrow
 go_loopw [5,7,13] (fun vs _ vi wx=>∃ k:Nat,k<=days.length/\vi=.int .i64 k/\c7f w wx r days k vs) (fun _ _ vi _=>days.length-(intOf vi).toNat)
 case atStart=>exact⟨0,Nat.zero_le _,rfl,S0.out⟩
 case round =>
  obtain⟨k,hk,rfl,S⟩:=hrel
  by_cases hlt:k<days.length
  ·have hi0':(k:Int)<(days.length:Int):=by omega
   have row:=a1g OW.out S.bl
   obtain⟨Hh,cap',e1⟩:=Joins.ownsRow_form row (by omega)
   simp only[Value.slice.injEq,true_and] at e1
   obtain⟨rfl,rfl⟩:=e1
   have a0:=row.cellAt k (by omega)
   rw[List.getElem?_map,List.getElem?_eq_getElem hlt,Option.map_some] at a0
   have SO:=a0b (b0u r HD.out.2 days[k] (HD.out.1 _ (List.getElem_mem hlt)).1 (HD.out.1 _ (List.getElem_mem hlt)).2 wr)
   have x0:=a7u S.ru
   have x1:=a3R S.ru
   have x2:=a7t S.ru
   have x3:=a7s S.ru
   have x4:=a7r S.ru
   have x5:=a7q S.ru
   have x6:=a7p S.ru
   have x7:=a7o S.ru
   have x8:=a7n S.ru
   have x9:=a4m S.ru
   have x10:=a6E S.ru
   have x11:=a6D S.ru
   have x12:=a6C S.ru
   have x13:=a6B S.ru
   have HS:=a0b S
   unfold a1S at SO
   clear S row
   go_wp2_with fail
   refine SO.out.mono ?_
   rintro e w2 ⟨rfl,hb2⟩
   have RW:=a0b (a1g HS.out.own hb2)
   have HB:=a0b hb2
   have hsz:w.heap.size<=w2.heap.size:=Nat.le_trans HS.out.bl.size hb2.size
   clear hb2 SO a0 x0 x1 x2 x3 x4 x5 x6 x7 x8 x9 x10 x11 x12 x13
   go_wp2_with (first
    |(at_builtin;refine wpList_append_lies _ rfl _ _ 56 rfl w.heap.size 60 i0 _ 2 16 Tryz.underlying56 hi0 hz0 hz1 hz2 rfl (by decide) _ _ _ rfl (RW.out.alloc _) ⟨w2.heap.size,0,none⟩ 1 1 (spV (a4K r days[k])) rfl rfl (World.news_of_block (cs:=(spV (a4K r days[k])).toArray) (a0p w2 _)) (by simp[spV,Value.oneCell']) (by omega) (by unfold maxLen;omega) (by omega) (by simp;omega) (w2.heap.size+1) (by simp) ?_;intro g2 cap2 w3 hown hgrow hat hlt2))
   have ko:Off u5.ownBlock.toList w2 w3:=Off.grown ((Off.refl _ w2).alloc _) hgrow (fun k hk=>.inl (Option.mem_toList.2 hk))
   have hat':u5.ownBlock=some g2\/g2=w2.heap.size+1:=hat
   have HN:Hid (c7f w w3 r days (k+1) (.slice (some ⟨g2,0,none⟩) (k+1) cap2)):=by
    have S:=HS.out
    have h2:Below w.heap.size w w2:=S.bl.trans (HB.out.mono S.bl.size)
    have hwl:w.heap.size<wr.heap.size:=by
     have:=a7u S.ru
     exact World.block_lt_of_cell? _ _ this
    refine⟨?_,⟨ko.os.trans h2.os,ko.tape.trans h2.tape,ko.output.trans h2.output,Nat.le_trans h2.size ko.size,fun b hb=>(ko.block b (Nat.lt_of_lt_of_le hb h2.size) (fun hx=>by have:=(S.own.lt b (Option.mem_toList.1 hx)).1;omega)).trans (h2.block b hb)⟩,?_,fun e=>?_⟩
    ·rw[List.take_succ_eq_append_getElem hlt,List.map_append,List.flatMap_append]
     have:([days[k]].map (a4K r)).flatMap spV=spV (a4K r days[k]):=by simp
     rw[this];exact hown
    ·exact ((ko.block _ (by have:=HB.out.size;omega) (fun hx=>S.ne (Option.mem_toList.1 hx))).trans (HB.out.block _ hwl)).trans S.ru
    ·have:g2=w.heap.size:=by simpa[Value.ownBlock] using e
     rcases hat' with e1|e1
     ·exact S.ne (by rw[e1,this])
     ·have:=HB.out.size;omega
   clear hown hgrow hat ko hat' HS RW HB
   go_wp2_with fail
   go_roundw
   case rel=>exact⟨k+1,by omega,by go_num,HN.out⟩
   case measure=>simp[intOf];omega
  ·have hke:k=days.length:=by omega
   have hi0':¬ ((k:Int)<(days.length:Int)):=by omega
   have HF:Hid (wr.ownsRow w.heap.size 60 2 u5 days.length ((days.map (a4K r)).flatMap spV)/\Below w.heap.size w wr):=by
    have o:=S.own
    rw[hke,List.take_length] at o
    exact⟨o,S.bl⟩
   clear S
   go_wp2_with fail
   go_ret
   exact⟨_,rfl,HF.out⟩
theorem a9F{s:St}{name:ByteArray}{u:Int}{q:Rd.a0Y}(h:Desk.a0S s.ts name u≠0):Desk.a0g s (.series name u q)=(s,Desk.Rep.error (Desk.a0S s.ts name u)):=by
 have e:Desk.a2l s name u q=Desk.a0S s.ts name u:=by unfold Desk.a2l;rw[if_pos h]
 simp only[Desk.a0g];rw[e,if_pos h]
theorem a9E{s:St}{name:ByteArray}{u:Int}{q:Rd.a0Y}(hf:Rd.a6s q)(h:Desk.a0S s.ts name u=0)(h2:Rd.a0L q≠0):Desk.a0g s (.series name u q)=(s,Desk.Rep.error (Rd.a0L q)):=by
 have e1:=(Rd.a5K hf).1
 have e:Desk.a2l s name u q=Rd.a0L q:=by unfold Desk.a2l;rw[if_neg (by omega),<- e1,if_pos h2]
 simp only[Desk.a0g];rw[e,if_pos h2]
theorem b5m{s:St}{name:ByteArray}{u:Int}{q:Rd.a0Y}(hf:Rd.a6s q)(h:Desk.a0S s.ts name u=0)(h2:Rd.a0L q=0):Desk.a0g s (.series name u q)=a1N s ⟨0,1,name,u,(a0U q).map (a4K q),0⟩:=by
 obtain⟨e1,e2⟩:=Rd.a5K hf
 have e3:=(e2 (by rw[<- e1];exact h2)).1
 have e4:(a0U q).map (a4K q)=Rd.a2M q (Rd.a0E q):=by unfold a0U;rw[if_pos h2,e3];rfl
 simp only[Desk.a0g]
 unfold Desk.a2l a1N
 rw[if_neg (c:=Desk.a0S s.ts name u≠0) (by omega),<- e1,if_neg (c:=Rd.a0L q≠0) (by omega),e4]
 by_cases h3:s.given=60
 ·simp[h3]
 ·cases Desk.a1e s.ts s.es name u (Rd.a2M q (Rd.a0E q)) <;> simp[h3]
theorem b3B{L:List (Int × Int)}:∀ (i:Nat)(h:i<L.length),(L.flatMap spV)[i*2]?=some (.int .i64 L[i].1)/\(L.flatMap spV)[i*2+1]?=some (.int .i64 L[i].2):=by
 induction L with
 |nil=>intro i h;simp at h
 |cons a L ih =>
  intro i h
  cases i with
  |zero=>exact⟨rfl,rfl⟩
  |succ i =>
   obtain⟨h1,h2⟩:=ih i (by simpa using h)
   have e:(a :: L).flatMap spV=[.int .i64 a.1,.int .i64 a.2]++L.flatMap spV:=rfl
   rw[e,show (i+1)*2=2+i*2 from by omega,show 2+i*2+1=2+(i*2+1) from by omega]
   constructor
   ·rw[List.getElem?_append_right (by simp)];simpa using h1
   ·rw[List.getElem?_append_right (by simp)];simpa using h2
theorem DSt.asksR{w w3:World}{d:Nat}{s:St}{r:Raw}{col:Nat->Option Col}(h:DSt w d s r col)(kb:Below w.heap.size w w3){name:ByteArray}{u:Int}{L:List (Int × Int)}{i g n cap B B0:Nat}(hi:i<r.tg.length)(hname:r.tg[i].name=name)(row:w3.ownsRow B0 60 2 (.slice (some ⟨g,0,none⟩) n cap) n (L.flatMap spV))(hn:n=L.length)(hB0:B<=B0)(hB:w.heap.size<=B)(ok:a1H s.now ⟨0,1,name,u,L,0⟩):
  b4h (w3.alloc (.cells #[.int .i64 0,.int .i64 1,.pointer (some ⟨r.tg[i].tb,0,none⟩),.int .i64 u,.slice (some ⟨g,0,none⟩) n cap,.int .i64 0] 200)) B d s r col ⟨⟨0,1,name,u,L,0⟩,w3.heap.size,g,cap,r.tg[i].tb⟩ i:=by
 have kz:Below w3.heap.size w3 (w3.alloc (.cells #[.int .i64 0,.int .i64 1,.pointer (some ⟨r.tg[i].tb,0,none⟩),.int .i64 u,.slice (some ⟨g,0,none⟩) n cap,.int .i64 0] 200)):=(Below.refl _ _).alloc (Nat.le_refl _) _
 have d1:=h.dk.later kb
 have eb:=a0p w3 (.cells #[.int .i64 0,.int .i64 1,.pointer (some ⟨r.tg[i].tb,0,none⟩),.int .i64 u,.slice (some ⟨g,0,none⟩) n cap,.int .i64 0] 200)
 have gl:=row.lt g rfl
 have hs:(w3.alloc (.cells #[.int .i64 0,.int .i64 1,.pointer (some ⟨r.tg[i].tb,0,none⟩),.int .i64 u,.slice (some ⟨g,0,none⟩) n cap,.int .i64 0] 200)).heap.size=w3.heap.size+1:=by simp
 have row2:=a1g row kz
 generalize w3.alloc (.cells #[.int .i64 0,.int .i64 1,.pointer (some ⟨r.tg[i].tb,0,none⟩),.int .i64 u,.slice (some ⟨g,0,none⟩) n cap,.int .i64 0] 200)=Z at *
 refine⟨⟨d1.later kz,h.of,h.wl,h.hl,h.inv⟩,⟨⟨?_,?_,?_,?_,fun j hj=>?_,?_⟩,?_,?_,fun o=>frozen_of_row _ _ _ _ _ eb,⟨_,eb⟩⟩,d1.none (Nat.le_refl _),h.dk.none (by show w.heap.size<=g;omega),(by show B<=w3.heap.size;omega),(by show B<=g;omega),(by show w3.heap.size≠g;omega),(by omega),hi,hname,rfl,ok⟩
 ·show Z.cell? ⟨w3.heap.size,0,none⟩=_
  simp only[World.cell?,eb];rfl
 ·show Z.cell? ⟨w3.heap.size,2,none⟩=_
  simp only[World.cell?,eb];rfl
 ·show Z.cell? ⟨w3.heap.size,3,none⟩=_
  simp only[World.cell?,eb];rfl
 ·show Z.cell? ⟨w3.heap.size,4,none⟩=some (.slice (some ⟨g,0,none⟩) L.length cap)
  rw[<- hn];simp only[World.cell?,eb];rfl
 ·have hj':j<L.length:=hj
  obtain⟨f1,f2⟩:=b3B j hj'
  have c0:=row2.cellAt (j*2) (by omega)
  have c1:=row2.cellAt (j*2+1) (by omega)
  exact⟨c0.trans f1,c1.trans f2⟩
 ·show g<_
  omega
 ·show Z.cell? ⟨w3.heap.size,1,none⟩=_
  simp only[World.cell?,eb];rfl
 ·show Z.cell? ⟨w3.heap.size,5,none⟩=_
  simp only[World.cell?,eb];rfl
theorem b9z(w:World)(name:ByteArray)(u:Int)(q:Rd.a0Y):let X:=((w.alloc (.cells #[.string name,.int .i64 u,.int .i64 q.pc,.int .i64 q.ev,.bool (isd q.acc 0),.bool (isd q.acc 1),.bool (isd q.acc 2),.bool (isd q.acc 3),.bool (isd q.acc 4),.bool (isd q.acc 5),.bool (isd q.acc 6),.int .i64 q.fr,.int .i64 q.mn,.int .i64 q.mi,.int .i64 q.ti,.int .i64 q.un] 165)).alloc a0f);Below w.heap.size w X/\X.heap[w.heap.size+1]?=some a0f/\X.heap.size=w.heap.size+2/\X.heap[w.heap.size]?=some (.cells #[.string name,.int .i64 u,.int .i64 q.pc,.int .i64 q.ev,.bool (isd q.acc 0),.bool (isd q.acc 1),.bool (isd q.acc 2),.bool (isd q.acc 3),.bool (isd q.acc 4),.bool (isd q.acc 5),.bool (isd q.acc 6),.int .i64 q.fr,.int .i64 q.mn,.int .i64 q.mi,.int .i64 q.ti,.int .i64 q.un] 165 (0,0)):=by
 obtain⟨h1,h2⟩:=a2q (w:=w) (.cells #[.string name,.int .i64 u,.int .i64 q.pc,.int .i64 q.ev,.bool (isd q.acc 0),.bool (isd q.acc 1),.bool (isd q.acc 2),.bool (isd q.acc 3),.bool (isd q.acc 4),.bool (isd q.acc 5),.bool (isd q.acc 6),.int .i64 q.fr,.int .i64 q.mn,.int .i64 q.mi,.int .i64 q.ti,.int .i64 q.un] 165)
 exact⟨h1,h2,by simp,(Below.heap_alloc _ _ _ (by simp)).trans (a0p w _)⟩
theorem c6a{w:World}{b:Nat}{name:ByteArray}{u:Int}{q:Rd.a0Y}(h:w.heap[b]?=some (.cells #[.string name,.int .i64 u,.int .i64 q.pc,.int .i64 q.ev,.bool (isd q.acc 0),.bool (isd q.acc 1),.bool (isd q.acc 2),.bool (isd q.acc 3),.bool (isd q.acc 4),.bool (isd q.acc 5),.bool (isd q.acc 6),.int .i64 q.fr,.int .i64 q.mn,.int .i64 q.mi,.int .i64 q.ti,.int .i64 q.un] 165 (0,0))):w.cell? ⟨b,0,none⟩=some (.string name):=by simp only[World.cell?,h];rfl
theorem c5Z{w:World}{b:Nat}{name:ByteArray}{u:Int}{q:Rd.a0Y}(h:w.heap[b]?=some (.cells #[.string name,.int .i64 u,.int .i64 q.pc,.int .i64 q.ev,.bool (isd q.acc 0),.bool (isd q.acc 1),.bool (isd q.acc 2),.bool (isd q.acc 3),.bool (isd q.acc 4),.bool (isd q.acc 5),.bool (isd q.acc 6),.int .i64 q.fr,.int .i64 q.mn,.int .i64 q.mi,.int .i64 q.ti,.int .i64 q.un] 165 (0,0))):w.cell? ⟨b,1,none⟩=some (.int .i64 u):=by simp only[World.cell?,h];rfl
theorem c5Y{w:World}{b:Nat}{name:ByteArray}{u:Int}{q:Rd.a0Y}(h:w.heap[b]?=some (.cells #[.string name,.int .i64 u,.int .i64 q.pc,.int .i64 q.ev,.bool (isd q.acc 0),.bool (isd q.acc 1),.bool (isd q.acc 2),.bool (isd q.acc 3),.bool (isd q.acc 4),.bool (isd q.acc 5),.bool (isd q.acc 6),.int .i64 q.fr,.int .i64 q.mn,.int .i64 q.mi,.int .i64 q.ti,.int .i64 q.un] 165 (0,0))):w.cell? ⟨b,2,none⟩=some (.int .i64 q.pc):=by simp only[World.cell?,h];rfl
theorem c5X{w:World}{b:Nat}{name:ByteArray}{u:Int}{q:Rd.a0Y}(h:w.heap[b]?=some (.cells #[.string name,.int .i64 u,.int .i64 q.pc,.int .i64 q.ev,.bool (isd q.acc 0),.bool (isd q.acc 1),.bool (isd q.acc 2),.bool (isd q.acc 3),.bool (isd q.acc 4),.bool (isd q.acc 5),.bool (isd q.acc 6),.int .i64 q.fr,.int .i64 q.mn,.int .i64 q.mi,.int .i64 q.ti,.int .i64 q.un] 165 (0,0))):w.cell? ⟨b,3,none⟩=some (.int .i64 q.ev):=by simp only[World.cell?,h];rfl
theorem c5W{w:World}{b:Nat}{name:ByteArray}{u:Int}{q:Rd.a0Y}(h:w.heap[b]?=some (.cells #[.string name,.int .i64 u,.int .i64 q.pc,.int .i64 q.ev,.bool (isd q.acc 0),.bool (isd q.acc 1),.bool (isd q.acc 2),.bool (isd q.acc 3),.bool (isd q.acc 4),.bool (isd q.acc 5),.bool (isd q.acc 6),.int .i64 q.fr,.int .i64 q.mn,.int .i64 q.mi,.int .i64 q.ti,.int .i64 q.un] 165 (0,0))):w.cell? ⟨b,4,none⟩=some (.bool (isd q.acc 0)):=by simp only[World.cell?,h];rfl
theorem c5V{w:World}{b:Nat}{name:ByteArray}{u:Int}{q:Rd.a0Y}(h:w.heap[b]?=some (.cells #[.string name,.int .i64 u,.int .i64 q.pc,.int .i64 q.ev,.bool (isd q.acc 0),.bool (isd q.acc 1),.bool (isd q.acc 2),.bool (isd q.acc 3),.bool (isd q.acc 4),.bool (isd q.acc 5),.bool (isd q.acc 6),.int .i64 q.fr,.int .i64 q.mn,.int .i64 q.mi,.int .i64 q.ti,.int .i64 q.un] 165 (0,0))):w.cell? ⟨b,5,none⟩=some (.bool (isd q.acc 1)):=by simp only[World.cell?,h];rfl
theorem c5U{w:World}{b:Nat}{name:ByteArray}{u:Int}{q:Rd.a0Y}(h:w.heap[b]?=some (.cells #[.string name,.int .i64 u,.int .i64 q.pc,.int .i64 q.ev,.bool (isd q.acc 0),.bool (isd q.acc 1),.bool (isd q.acc 2),.bool (isd q.acc 3),.bool (isd q.acc 4),.bool (isd q.acc 5),.bool (isd q.acc 6),.int .i64 q.fr,.int .i64 q.mn,.int .i64 q.mi,.int .i64 q.ti,.int .i64 q.un] 165 (0,0))):w.cell? ⟨b,6,none⟩=some (.bool (isd q.acc 2)):=by simp only[World.cell?,h];rfl
theorem c5T{w:World}{b:Nat}{name:ByteArray}{u:Int}{q:Rd.a0Y}(h:w.heap[b]?=some (.cells #[.string name,.int .i64 u,.int .i64 q.pc,.int .i64 q.ev,.bool (isd q.acc 0),.bool (isd q.acc 1),.bool (isd q.acc 2),.bool (isd q.acc 3),.bool (isd q.acc 4),.bool (isd q.acc 5),.bool (isd q.acc 6),.int .i64 q.fr,.int .i64 q.mn,.int .i64 q.mi,.int .i64 q.ti,.int .i64 q.un] 165 (0,0))):w.cell? ⟨b,7,none⟩=some (.bool (isd q.acc 3)):=by simp only[World.cell?,h];rfl
theorem c5S{w:World}{b:Nat}{name:ByteArray}{u:Int}{q:Rd.a0Y}(h:w.heap[b]?=some (.cells #[.string name,.int .i64 u,.int .i64 q.pc,.int .i64 q.ev,.bool (isd q.acc 0),.bool (isd q.acc 1),.bool (isd q.acc 2),.bool (isd q.acc 3),.bool (isd q.acc 4),.bool (isd q.acc 5),.bool (isd q.acc 6),.int .i64 q.fr,.int .i64 q.mn,.int .i64 q.mi,.int .i64 q.ti,.int .i64 q.un] 165 (0,0))):w.cell? ⟨b,8,none⟩=some (.bool (isd q.acc 4)):=by simp only[World.cell?,h];rfl
theorem c5R{w:World}{b:Nat}{name:ByteArray}{u:Int}{q:Rd.a0Y}(h:w.heap[b]?=some (.cells #[.string name,.int .i64 u,.int .i64 q.pc,.int .i64 q.ev,.bool (isd q.acc 0),.bool (isd q.acc 1),.bool (isd q.acc 2),.bool (isd q.acc 3),.bool (isd q.acc 4),.bool (isd q.acc 5),.bool (isd q.acc 6),.int .i64 q.fr,.int .i64 q.mn,.int .i64 q.mi,.int .i64 q.ti,.int .i64 q.un] 165 (0,0))):w.cell? ⟨b,9,none⟩=some (.bool (isd q.acc 5)):=by simp only[World.cell?,h];rfl
theorem c4K{w:World}{b:Nat}{name:ByteArray}{u:Int}{q:Rd.a0Y}(h:w.heap[b]?=some (.cells #[.string name,.int .i64 u,.int .i64 q.pc,.int .i64 q.ev,.bool (isd q.acc 0),.bool (isd q.acc 1),.bool (isd q.acc 2),.bool (isd q.acc 3),.bool (isd q.acc 4),.bool (isd q.acc 5),.bool (isd q.acc 6),.int .i64 q.fr,.int .i64 q.mn,.int .i64 q.mi,.int .i64 q.ti,.int .i64 q.un] 165 (0,0))):w.cell? ⟨b,10,none⟩=some (.bool (isd q.acc 6)):=by simp only[World.cell?,h];rfl
theorem c4J{w:World}{b:Nat}{name:ByteArray}{u:Int}{q:Rd.a0Y}(h:w.heap[b]?=some (.cells #[.string name,.int .i64 u,.int .i64 q.pc,.int .i64 q.ev,.bool (isd q.acc 0),.bool (isd q.acc 1),.bool (isd q.acc 2),.bool (isd q.acc 3),.bool (isd q.acc 4),.bool (isd q.acc 5),.bool (isd q.acc 6),.int .i64 q.fr,.int .i64 q.mn,.int .i64 q.mi,.int .i64 q.ti,.int .i64 q.un] 165 (0,0))):w.cell? ⟨b,11,none⟩=some (.int .i64 q.fr):=by simp only[World.cell?,h];rfl
theorem c4I{w:World}{b:Nat}{name:ByteArray}{u:Int}{q:Rd.a0Y}(h:w.heap[b]?=some (.cells #[.string name,.int .i64 u,.int .i64 q.pc,.int .i64 q.ev,.bool (isd q.acc 0),.bool (isd q.acc 1),.bool (isd q.acc 2),.bool (isd q.acc 3),.bool (isd q.acc 4),.bool (isd q.acc 5),.bool (isd q.acc 6),.int .i64 q.fr,.int .i64 q.mn,.int .i64 q.mi,.int .i64 q.ti,.int .i64 q.un] 165 (0,0))):w.cell? ⟨b,12,none⟩=some (.int .i64 q.mn):=by simp only[World.cell?,h];rfl
theorem c4H{w:World}{b:Nat}{name:ByteArray}{u:Int}{q:Rd.a0Y}(h:w.heap[b]?=some (.cells #[.string name,.int .i64 u,.int .i64 q.pc,.int .i64 q.ev,.bool (isd q.acc 0),.bool (isd q.acc 1),.bool (isd q.acc 2),.bool (isd q.acc 3),.bool (isd q.acc 4),.bool (isd q.acc 5),.bool (isd q.acc 6),.int .i64 q.fr,.int .i64 q.mn,.int .i64 q.mi,.int .i64 q.ti,.int .i64 q.un] 165 (0,0))):w.cell? ⟨b,13,none⟩=some (.int .i64 q.mi):=by simp only[World.cell?,h];rfl
theorem c4G{w:World}{b:Nat}{name:ByteArray}{u:Int}{q:Rd.a0Y}(h:w.heap[b]?=some (.cells #[.string name,.int .i64 u,.int .i64 q.pc,.int .i64 q.ev,.bool (isd q.acc 0),.bool (isd q.acc 1),.bool (isd q.acc 2),.bool (isd q.acc 3),.bool (isd q.acc 4),.bool (isd q.acc 5),.bool (isd q.acc 6),.int .i64 q.fr,.int .i64 q.mn,.int .i64 q.mi,.int .i64 q.ti,.int .i64 q.un] 165 (0,0))):w.cell? ⟨b,14,none⟩=some (.int .i64 q.ti):=by simp only[World.cell?,h];rfl
theorem c4F{w:World}{b:Nat}{name:ByteArray}{u:Int}{q:Rd.a0Y}(h:w.heap[b]?=some (.cells #[.string name,.int .i64 u,.int .i64 q.pc,.int .i64 q.ev,.bool (isd q.acc 0),.bool (isd q.acc 1),.bool (isd q.acc 2),.bool (isd q.acc 3),.bool (isd q.acc 4),.bool (isd q.acc 5),.bool (isd q.acc 6),.int .i64 q.fr,.int .i64 q.mn,.int .i64 q.mi,.int .i64 q.ti,.int .i64 q.un] 165 (0,0))):w.cell? ⟨b,15,none⟩=some (.int .i64 q.un):=by simp only[World.cell?,h];rfl
theorem c3m(args:Array Value)(w:World):(callFunc 148 args).run Tryz.prog w=.ok (.enter 148 args) w:=by kernel_rfl
theorem c3n(args:Array Value)(w:World):(callFunc 144 args).run Tryz.prog w=.ok (.enter 144 args) w:=by kernel_rfl
theorem b7T{w:World}{d:Nat}{s:St}{r:Raw}{col:Nat->Option Col}(h:DSt w d s r col)(ht:Tab w)(h10:10<=w.heap.size)(name:ByteArray)(hn:name.size<=1000)(u:Int)(q:Rd.a0Y)(hl:Desk.a1O (.series name u q)):
  Calls Tryz.prog 95 #[.pointer (some ⟨d,0,none⟩),.agg #[.string name,.int .i64 u,.int .i64 q.pc,.int .i64 q.ev,.bool (isd q.acc 0),.bool (isd q.acc 1),.bool (isd q.acc 2),.bool (isd q.acc 3),.bool (isd q.acc 4),.bool (isd q.acc 5),.bool (isd q.acc 6),.int .i64 q.fr,.int .i64 q.mn,.int .i64 q.mi,.int .i64 q.ti,.int .i64 q.un]] w fun e w'=>∃ v,e=.returned v/\a0l w d col (Desk.a0g s (.series name u q)) v w':=by
 obtain⟨hX,hXQ,hsz,hXb⟩:=b9z w name u q
 obtain⟨hu1,hu9,hf⟩:=hl
 have HV:=a0b (b0O (h.dk.later hX) h.of h.mid name hn u)
 have DY:=a0b (b7z q hf ((w.alloc (.cells #[.string name,.int .i64 u,.int .i64 q.pc,.int .i64 q.ev,.bool (isd q.acc 0),.bool (isd q.acc 1),.bool (isd q.acc 2),.bool (isd q.acc 3),.bool (isd q.acc 4),.bool (isd q.acc 5),.bool (isd q.acc 6),.int .i64 q.fr,.int .i64 q.mn,.int .i64 q.mi,.int .i64 q.ti,.int .i64 q.un] 165)).alloc a0f) (a3c ht hX h10) (by rw[hsz];omega))
 have HH:=a0b h
 have HX:=a0b (And.intro hX (And.intro hXQ hsz))
 have HA:=a0b (a9F (s:=s) (name:=name) (u:=u) (q:=q))
 have HE:=a0b (a9E (s:=s) (name:=name) (u:=u) hf)
 have HO:=a0b (b5m (s:=s) (name:=name) (u:=u) hf)
 have HFI:=a0b hf
 have x0:=c6a hXb
 have x1:=c5Z hXb
 have x2:=c5Y hXb
 have x3:=c5X hXb
 have x4:=c5W hXb
 have x5:=c5V hXb
 have x6:=c5U hXb
 have x7:=c5T hXb
 have x8:=c5S hXb
 have x9:=c5R hXb
 have x10:=c4K hXb
 have x11:=c4J hXb
 have x12:=c4I hXb
 have x13:=c4H hXb
 have x14:=c4G hXb
 have x15:=c4F hXb
 unfold a1S at DY
 clear h hX hXQ hsz hXb hf ht
 go_enter Tryz.func95,Tryz.ntmps95
 go_upto_region 1 with fail
 change Code.wp _ _ _ _ ((w.alloc (.cells #[.string name,.int .i64 u,.int .i64 q.pc,.int .i64 q.ev,.bool (isd q.acc 0),.bool (isd q.acc 1),.bool (isd q.acc 2),.bool (isd q.acc 3),.bool (isd q.acc 4),.bool (isd q.acc 5),.bool (isd q.acc 6),.int .i64 q.fr,.int .i64 q.mn,.int .i64 q.mi,.int .i64 q.ti,.int .i64 q.un] 165)).alloc a0f)
 generalize ((w.alloc (.cells #[.string name,.int .i64 u,.int .i64 q.pc,.int .i64 q.ev,.bool (isd q.acc 0),.bool (isd q.acc 1),.bool (isd q.acc 2),.bool (isd q.acc 3),.bool (isd q.acc 4),.bool (isd q.acc 5),.bool (isd q.acc 6),.int .i64 q.fr,.int .i64 q.mn,.int .i64 q.mi,.int .i64 q.ti,.int .i64 q.un] 165)).alloc a0f)=X at *
 have BX:Hid (Below w.heap.size w X):=HX.out.1
 have QX:Hid (Q7 X (w.heap.size+1)):=Q7.of HX.out.2.1
 go_wp2_with fail
 refine HV.out.mono ?_
 rintro e w1 ⟨hp,rfl⟩
 rcases hp with ⟨h1,rfl⟩|⟨h1,i,hi,e1,e2,rfl⟩
 ·have HD:=a0b (HA.out h1)
  generalize Desk.a0S s.ts name u=er at *
  have hb1:(er != 0)=true:=by simpa using h1
  clear h1 HV HX DY HE HO HA x0 x1 x2 x3 x4 x5 x6 x7 x8 x9 x10 x11 x12 x13 x14 x15
  go_wp2_with fail
  refine (a0D er w1).mono ?_
  rintro e w9 ⟨rfl,hb9⟩
  have hq:=hb9.block (w.heap.size+1) (World.block_lt_of_cell? _ _ QX.out.q0)
  have HF:Hid (a0l w d col (Desk.a0g s (.series name u q)) (a0s er 0 0 (.slice none 0 0) (.slice none 0 0) (.slice none 0 0) (.slice none 0 0)) (a2w w9 (w.heap.size+1) (.int .i64 er) (.int .i64 0) (.int .i64 0) (.slice none 0 0) (.slice none 0 0) (.slice none 0 0) (.slice none 0 0))):=by
   rw[HD.out];exact HH.out.said (BX.out.trans (hb9.mono BX.out.size)) (by omega) er 0 _ _ _ _ _ _ _
  obtain⟨q0,q1,q2,q3,q4,q5,q6,fq⟩:=QX.out.later hq
  simp only[a0s]
  go_wp2_with fail
  exact bodyPost_ret (v:=a0s er 0 0 (.slice none 0 0) (.slice none 0 0) (.slice none 0 0) (.slice none 0 0)) (by simp[results,Tryz.results95,go_sem,a0s,q0,q1,q2,q3,q4,q5,q6]) rfl ⟨_,rfl,HF.out⟩
 ·go_wp2_with fail
  refine DY.out.mono ?_
  rintro e w2 ⟨da,rfl,own,hb2⟩
  have BX2:Hid (Below w.heap.size w w2):=BX.out.trans (hb2.mono BX.out.size)
  have QX2:Hid (Q7 w2 (w.heap.size+1)):=QX.out.later (hb2.block _ (World.block_lt_of_cell? _ _ QX.out.q0))
  obtain⟨a1,cap1,rfl⟩:=b1C own
  by_cases he:Rd.a0L q=0
  ·have HD:=a0b (HO.out h1 he)
   have hb1:(Rd.a0L q != 0)=false:=by simpa using he
   obtain⟨es1,es2⟩:=Rd.a5K HFI.out
   have edn:=es2 (by rw[<- es1];exact he)
   have edd:a0U q=Rd.a0E q:=by unfold a0U;rw[if_pos he,edn.1]
   have OK:Hid (a1H s.now ⟨0,1,name,u,(a0U q).map (a4K q),0⟩):=by
    obtain⟨p1,p2,p3,p4⟩:=Desk.Rd.spans_ok HFI.out (by rw[<- es1];exact he)
    have e4:(a0U q).map (a4K q)=Rd.a2M q (Rd.a0E q):=by rw[edd];rfl
    show a1H _ _
    rw[e4]
    exact⟨hu1,hu9,p4,p3,p1,p2,.inl ⟨rfl,rfl⟩⟩
   have hpos:0<(a0U q).length:=List.length_pos_iff.2 (by rw[edd];exact edn.2.1)
   have h40:(a0U q).length<=40:=by rw[edd];exact edn.2.2.1
   have SP:=a0b (c1E q HFI.out (a0U q) (fun d hd=>by rw[edd] at hd;have:=Rd.a4x HFI.out hd;have:=HFI.out.f0;omega) (by omega) (.slice a1 (a0U q).length cap1) w1.heap.size w2.drew (b9R own))
   have hsz2:w.heap.size+2<=w2.drew.heap.size:=by have:=hb2.size;have:=HX.out.2.2;show w.heap.size+2<=w2.heap.size;omega
   have AS:=a0b (fun (w3:World) (g cap:Nat) (hb3:Below w2.drew.heap.size w2.drew w3) (row:w3.ownsRow w2.drew.heap.size 60 2 (.slice (some ⟨g,0,none⟩) (a0U q).length cap) (a0U q).length (((a0U q).map (a4K q)).flatMap spV)) =>
    a9B (HH.out.asksR (BX2.out.drew.trans (hb3.mono BX2.out.size)) (B:=w.heap.size+2) hi e1 row (by simp) hsz2 (by omega) OK.out))
   have AP:=a0b (fun (w3 w4:World) (g cap:Nat) (v:Value) (hb3:Below w2.drew.heap.size w2.drew w3) (ep:a1n (w3.alloc (.cells #[.int .i64 0,.int .i64 1,.pointer (some ⟨r.tg[i].tb,0,none⟩),.int .i64 u,.slice (some ⟨g,0,none⟩) (a0U q).length cap,.int .i64 0] 200)) (w.heap.size+2) d col (a1N s ⟨0,1,name,u,(a0U q).map (a4K q),0⟩) v w4) =>
    ep.ans (w:=w) (Q:=w.heap.size+1) (Step.below ((BX2.out.drew.trans (hb3.mono BX2.out.size)).trans (((Below.refl w3.heap.size w3).alloc (Nat.le_refl _) _).mono (BX2.out.drew.trans (hb3.mono BX2.out.size)).size))) (by omega) (by omega) (by omega) (HH.out.dk.none (by omega)) ((QX2.out.later (w':=w2.drew) rfl).later (((Below.heap_alloc w3 _ _ (Nat.lt_of_lt_of_le (World.block_lt_of_cell? _ _ QX2.out.q0) hb3.size))).trans (hb3.block _ (World.block_lt_of_cell? _ _ QX2.out.q0)))))
   have y1:=a0a hb2 x1
   have y2:=a0a hb2 x2
   have y3:=a0a hb2 x3
   have y4:=a0a hb2 x4
   have y5:=a0a hb2 x5
   have y6:=a0a hb2 x6
   have y7:=a0a hb2 x7
   have y8:=a0a hb2 x8
   have y9:=a0a hb2 x9
   have y10:=a0a hb2 x10
   have y11:=a0a hb2 x11
   have y12:=a0a hb2 x12
   have y13:=a0a hb2 x13
   have y14:=a0a hb2 x14
   have y15:=a0a hb2 x15
   unfold a1S at SP
   clear HV DY HE HO HA HX own hb2 edn edd es1 es2 OK h1 x0 x1 x2 x3 x4 x5 x6 x7 x8 x9 x10 x11 x12 x13 x14 x15 BX QX
   generalize Rd.a0L q=er at *
   subst he
   go_upto_region 7 with fail
   go_region_law (first
    |(refine a2k (by rfl) 148 _ _ (by rfl) _ (by simp[Act.eval]) (c3m _ _) SP.out ?_;rintro e w3 ⟨v',rfl,row,hb3⟩;refine⟨_,rfl,?_⟩;obtain⟨g,cap,rfl⟩:=Joins.ownsRow_form row hpos;have z1:=a0a hb3 y1;have EN:=a0b (AS.out w3 g cap hb3 row);have AQ:=a0b (fun w4 v ep=>AP.out w3 w4 g cap v hb3 ep);clear SP AS AP row)
    |(refine a2k (by rfl) 144 _ _ (by rfl) _ (by simp[Act.eval]) (c3n _ _) EN.out ?_;rintro e w4 ⟨v,rfl,ep⟩;refine⟨_,rfl,?_⟩;obtain⟨er,nn,rfl,q7,hf⟩:=AQ.out w4 v ep;have HF:Hid (a0l w d col (Desk.a0g s (.series name u q)) (a0s er 0 nn (.slice none 0 0) (.slice none 0 0) (.slice none 0 0) (.slice none 0 0)) (a2w w4 (w.heap.size+1) (.int .i64 er) (.int .i64 0) (.int .i64 nn) (.slice none 0 0) (.slice none 0 0) (.slice none 0 0) (.slice none 0 0))):=(by rw[HD.out];exact hf _ _ _ _ _ _ _);obtain⟨q0,q1,q2,q3,q4,q5,q6,fq⟩:=q7;clear ep hf EN AQ;simp only[a0s]))
   all_goals
    go_wp2_with fail
    exact bodyPost_ret (v:=a0s er 0 nn (.slice none 0 0) (.slice none 0 0) (.slice none 0 0) (.slice none 0 0)) (by simp[results,Tryz.results95,go_sem,a0s,q0,q1,q2,q3,q4,q5,q6]) rfl ⟨_,rfl,HF.out⟩
  ·have HD:=a0b (HE.out h1 he)
   generalize Rd.a0L q=er at *
   have hb1:(er != 0)=true:=by simpa using he
   clear h1 HV HX DY HE HO HA x0 x1 x2 x3 x4 x5 x6 x7 x8 x9 x10 x11 x12 x13 x14 x15 own hb2 he
   go_wp2_with fail
   refine (a0D er w2).mono ?_
   rintro e w9 ⟨rfl,hb9⟩
   have hq:=hb9.block (w.heap.size+1) (World.block_lt_of_cell? _ _ QX2.out.q0)
   have HF:Hid (a0l w d col (Desk.a0g s (.series name u q)) (a0s er 0 0 (.slice none 0 0) (.slice none 0 0) (.slice none 0 0) (.slice none 0 0)) (a2w w9 (w.heap.size+1) (.int .i64 er) (.int .i64 0) (.int .i64 0) (.slice none 0 0) (.slice none 0 0) (.slice none 0 0) (.slice none 0 0))):=by
    rw[HD.out];exact HH.out.said (BX2.out.trans (hb9.mono BX2.out.size)) (by omega) er 0 _ _ _ _ _ _ _
   obtain⟨q0,q1,q2,q3,q4,q5,q6,fq⟩:=QX2.out.later hq
   simp only[a0s]
   go_wp2_with fail
   exact bodyPost_ret (v:=a0s er 0 0 (.slice none 0 0) (.slice none 0 0) (.slice none 0 0) (.slice none 0 0)) (by simp[results,Tryz.results95,go_sem,a0s,q0,q1,q2,q3,q4,q5,q6]) rfl ⟨_,rfl,HF.out⟩
theorem b2l{w:World}{d:Nat}{s:St}{rw_:Raw}{col:Nat->Option Col}(h:DSt w d s rw_ col)(ht:Tab w)(h10:10<=w.heap.size)(name:ByteArray)(hn:name.size<=1000)(u:Int)(r:Rd.a0Y)(hl:Desk.a1O (.series name u r)):
  Calls Tryz.prog 64 #[.pointer (some ⟨d,0,none⟩),.iface 165 (.agg #[.string name,.int .i64 u,.int .i64 r.pc,.int .i64 r.ev,.bool (isd r.acc 0),.bool (isd r.acc 1),.bool (isd r.acc 2),.bool (isd r.acc 3),.bool (isd r.acc 4),.bool (isd r.acc 5),.bool (isd r.acc 6),.int .i64 r.fr,.int .i64 r.mn,.int .i64 r.mi,.int .i64 r.ti,.int .i64 r.un])] w fun e w'=>∃ v,e=.returned v/\a0l w d col (Desk.a0g s (.series name u r)) v w':=by
 have hX:Below w.heap.size w ((w.alloc a0f).alloc (.cells #[.string name,.int .i64 u,.int .i64 r.pc,.int .i64 r.ev,.bool (isd r.acc 0),.bool (isd r.acc 1),.bool (isd r.acc 2),.bool (isd r.acc 3),.bool (isd r.acc 4),.bool (isd r.acc 5),.bool (isd r.acc 6),.int .i64 r.fr,.int .i64 r.mn,.int .i64 r.mi,.int .i64 r.ti,.int .i64 r.un] 165)):=((Below.refl _ _).alloc (Nat.le_refl _) _).alloc (by simp) _
 have hq:((w.alloc a0f).alloc (.cells #[.string name,.int .i64 u,.int .i64 r.pc,.int .i64 r.ev,.bool (isd r.acc 0),.bool (isd r.acc 1),.bool (isd r.acc 2),.bool (isd r.acc 3),.bool (isd r.acc 4),.bool (isd r.acc 5),.bool (isd r.acc 6),.int .i64 r.fr,.int .i64 r.mn,.int .i64 r.mi,.int .i64 r.ti,.int .i64 r.un] 165)).heap[w.heap.size]?=some a0f:=(Below.heap_alloc _ _ _ (by simp)).trans (a0p w a0f)
 have hs:w.heap.size<((w.alloc a0f).alloc (.cells #[.string name,.int .i64 u,.int .i64 r.pc,.int .i64 r.ev,.bool (isd r.acc 0),.bool (isd r.acc 1),.bool (isd r.acc 2),.bool (isd r.acc 3),.bool (isd r.acc 4),.bool (isd r.acc 5),.bool (isd r.acc 6),.int .i64 r.fr,.int .i64 r.mn,.int .i64 r.mi,.int .i64 r.ti,.int .i64 r.un] 165)).heap.size:=by simp;omega
 have EF:=a0b (b7T (w:=((w.alloc a0f).alloc (.cells #[.string name,.int .i64 u,.int .i64 r.pc,.int .i64 r.ev,.bool (isd r.acc 0),.bool (isd r.acc 1),.bool (isd r.acc 2),.bool (isd r.acc 3),.bool (isd r.acc 4),.bool (isd r.acc 5),.bool (isd r.acc 6),.int .i64 r.fr,.int .i64 r.mn,.int .i64 r.mi,.int .i64 r.ti,.int .i64 r.un] 165))) ⟨h.dk.later hX,h.of,h.wl,h.hl,h.inv⟩ (a3c ht hX h10) (Nat.le_trans h10 hX.size) name hn u r hl)
 have HX:=a0b (And.intro hX (And.intro (Q7.of hq) (And.intro (h.dk.none (Nat.le_refl _)) hs)))
 clear h hX hq hs
 unfold a0f at EF HX
 have noThing:=d0q 165 (by decide)
 have noBook:=d2o 165 (by decide)
 have noHold:=d2F 165 (by decide)
 have noWait:=d3H 165 (by decide)
 have yesSeries:∀ (xT:TypeId) (v:Value) (w:World),(Instr.typeAssert (.iface 165 v) xT 165 true).run Tryz.prog w=.ok (.tuple #[v,.bool true]) w:=by intro xT v w;simp[Instr.typeAssert,go_sem,Result.andThen,run_underlying Tryz.underlying165]
 go_enter Tryz.func64,Tryz.ntmps64
 go_wp2_with fail
 refine EF.out.mono ?_
 rintro e w2 ⟨v,rfl,ep⟩
 obtain⟨er,at_,nn,a1,a2,a3,a4,n1,n2,n3,n4,c1,c2,c3,c4,rfl,q7,hf⟩:=ep.up HX.out.1 (Nat.le_refl _) HX.out.2.2.2 HX.out.2.2.1 HX.out.2.1
 have HF:=a0b (hf (.int .i64 er) (.int .i64 at_) (.int .i64 nn) (.slice a1 n1 c1) (.slice a2 n2 c2) (.slice a3 n3 c3) (.slice a4 n4 c4))
 clear ep hf EF noThing noBook noHold noWait yesSeries
 obtain⟨q0,q1,q2,q3,q4,q5,q6,fq⟩:=q7
 simp only[a0s]
 go_wp2_with fail
 exact bodyPost_ret (v:=a0s er at_ nn (.slice a1 n1 c1) (.slice a2 n2 c2) (.slice a3 n3 c3) (.slice a4 n4 c4)) (by simp[results,Tryz.results64,go_sem,a0s,q0,q1,q2,q3,q4,q5,q6]) rfl ⟨_,rfl,HF.out⟩
theorem DSt.ansEntries{w Z:World}{d:Nat}{s:St}{r:Raw}{col:Nat->Option Col}(h:DSt w d s r col)(k:Below w.heap.size w Z){Q:Nat}(hQ:w.heap.size<=Q){l:List (Ent × Value)}{en:Value}(er:a3j Z (Q+1) col en l)(a b c e f g i:Value):
  a0l w d col (s,⟨0,0,0,l.map (·.1),[],[],[]⟩) (a0s 0 0 0 en (.slice none 0 0) (.slice none 0 0) (.slice none 0 0)) (a2w Z Q a b c e f g i):=by
 have ko:=a2R Z Q a b c e f g i
 have dz:=h.dk.later k
 have nq:∀ b,Q<=b->col b=none:=fun b hb=>h.dk.none (by omega)
 have st:Step anyS w.heap.size col col Z (a2w Z Q a b c e f g i):=⟨⟨_,ko,fun x hx=>.inr (by have:x=Q:=List.mem_singleton.1 hx;subst this;exact⟨nq _ (Nat.le_refl _),hQ⟩)⟩,fun _ _ h=>h,fun _ _ h=>.inl h⟩
 have rp:a5m Z (Q+1) col (a0s 0 0 0 en (.slice none 0 0) (.slice none 0 0) (.slice none 0 0)) ⟨0,0,0,l.map (·.1),[],[],[]⟩ :=
  ⟨_,_,_,_,l,rfl,rfl,er,a2I.nil _ _ _,a2I.nil _ _ _,a2I.nil _ _ _,fun b hb=>by cases hb⟩
 exact⟨r,col,dz.off ko (fun x hx=>by have:x=Q:=List.mem_singleton.1 hx;subst this;exact nq _ (Nat.le_refl _)),h.of,h.wl,h.hl,(Step.below k).trans st,(rp.off ko (fun x hx=>by have:x=Q:=List.mem_singleton.1 hx;omega)).base (by omega)⟩
theorem b8Y{s:St}{r:Raw}(h:Of s r):(r.eg.filter a4L).map (·.e)=s.es.filter fun e=>e.kind==3:=by
 rw[<- h.es,List.filter_map];rfl
theorem b0k{w:World}{d:Nat}{s:St}{rw_:Raw}{col:Nat->Option Col}(h:DSt w d s rw_ col):
  Calls Tryz.prog 64 #[.pointer (some ⟨d,0,none⟩),.iface 173 (.agg #[])] w fun e w'=>∃ v,e=.returned v/\a0l w d col (Desk.a0g s .waiting) v w':=by
 have hX:Below w.heap.size w ((w.alloc (.cells #[.int .i64 0,.int .i64 0,.int .i64 0,.slice none 0 0,.slice none 0 0,.slice none 0 0,.slice none 0 0] 40)).alloc (.cells #[] 173)):=((Below.refl _ _).alloc (Nat.le_refl _) _).alloc (by simp) _
 have hq:((w.alloc (.cells #[.int .i64 0,.int .i64 0,.int .i64 0,.slice none 0 0,.slice none 0 0,.slice none 0 0,.slice none 0 0] 40)).alloc (.cells #[] 173)).heap[w.heap.size]?=some a0f:=(Below.heap_alloc _ _ _ (by simp)).trans (a0p w a0f)
 have hs:((w.alloc (.cells #[.int .i64 0,.int .i64 0,.int .i64 0,.slice none 0 0,.slice none 0 0,.slice none 0 0,.slice none 0 0] 40)).alloc (.cells #[] 173)).heap.size=w.heap.size+2:=by simp
 have TW:=a0b (a8L (w:=((w.alloc (.cells #[.int .i64 0,.int .i64 0,.int .i64 0,.slice none 0 0,.slice none 0 0,.slice none 0 0,.slice none 0 0] 40)).alloc (.cells #[] 173))) (s:=s) ⟨h.dk.later hX,h.of,h.wl,h.hl,h.inv⟩)
 have HX:=a0b (And.intro hX (And.intro (Q7.of hq) hs))
 have HD:Hid (Desk.a0g s .waiting=(s,⟨0,0,0,(rw_.eg.filter a4L).map (·.e),[],[],[]⟩)):=by show _=_;rw[b8Y h.of];rfl
 clear hX hq hs
 have HH:=a0b h
 clear h
 have noThing:=d0q 173 (by decide)
 have noBook:=d2o 173 (by decide)
 have noHold:=d2F 173 (by decide)
 have noWait:=d3H 173 (by decide)
 have noSeries:=d0K 173 (by decide)
 have noConfirm:=d0y 173 (by decide)
 have noCancel:=d1Q 173 (by decide)
 have noList:=d8g 173 (by decide)
 have yesWaiting:∀ (xT:TypeId) (v:Value) (w:World),(Instr.typeAssert (.iface 173 v) xT 173 true).run Tryz.prog w=.ok (.tuple #[v,.bool true]) w:=by intro xT v w;simp[Instr.typeAssert,go_sem,Result.andThen,run_underlying Tryz.underlying173]
 go_enter Tryz.func64,Tryz.ntmps64
 go_wp2_with fail
 refine TW.out.mono ?_
 rintro e w2 ⟨v,rfl,l,hl,er,hb⟩
 obtain⟨a1,c1,rfl⟩:=a0B er.own
 have q7:=HX.out.2.1.later (hb.block w.heap.size (by rw[HX.out.2.2];omega))
 have HF:Hid (∀ a b c e f g i,a0l w d col (Desk.a0g s .waiting) (a0s 0 0 0 (.slice a1 l.length c1) (.slice none 0 0) (.slice none 0 0) (.slice none 0 0)) (a2w w2 w.heap.size a b c e f g i)):=fun a b c e f g i=>by
  have e1:l.map (·.1)=(rw_.eg.filter a4L).map (·.e):=by rw[hl,List.take_length]
  rw[HD.out,<- e1]
  exact HH.out.ansEntries (HX.out.1.trans (hb.mono HX.out.1.size)) (Nat.le_refl _) (er.base (by rw[HX.out.2.2];omega)) a b c e f g i
 clear TW er hl hb noThing noBook noHold noWait noSeries noConfirm noCancel noList yesWaiting
 obtain⟨q0,q1,q2,q3,q4,q5,q6,fq⟩:=q7
 go_wp2_with fail
 exact bodyPost_ret (v:=a0s 0 0 0 (.slice a1 l.length c1) (.slice none 0 0) (.slice none 0 0) (.slice none 0 0)) (by simp[results,Tryz.results64,go_sem,a0s,q0,q1,q2,q3,q4,q5,q6]) rfl ⟨_,rfl,HF.out _ _ _ _ _ _ _⟩
theorem b3W{w:World}{d:Nat}{s:St}{rw_:Raw}{col:Nat->Option Col}(h:DSt w d s rw_ col):
  Calls Tryz.prog 64 #[.pointer (some ⟨d,0,none⟩),.iface 183 (.agg #[])] w fun e w'=>∃ v,e=.returned v/\a0l w d col (Desk.a0g s .clock) v w':=by
 have hX:Below w.heap.size w ((w.alloc (.cells #[.int .i64 0,.int .i64 0,.int .i64 0,.slice none 0 0,.slice none 0 0,.slice none 0 0,.slice none 0 0] 40)).alloc (.cells #[] 183)):=((Below.refl _ _).alloc (Nat.le_refl _) _).alloc (by simp) _
 have hq:((w.alloc (.cells #[.int .i64 0,.int .i64 0,.int .i64 0,.slice none 0 0,.slice none 0 0,.slice none 0 0,.slice none 0 0] 40)).alloc (.cells #[] 183)).heap[w.heap.size]?=some a0f:=(Below.heap_alloc _ _ _ (by simp)).trans (a0p w a0f)
 have xn:=(h.dk.later hX).c0
 rw[h.of.now] at xn
 have HX:=a0b hX
 have HH:=a0b h
 have q7:=Q7.of hq
 have HD:Hid (Desk.a0g s .clock=(s,⟨0,0,s.now,[],[],[],[]⟩)):=rfl
 clear hX hq h
 have noThing:=d0q 183 (by decide)
 have noBook:=d2o 183 (by decide)
 have noHold:=d2F 183 (by decide)
 have noWait:=d3H 183 (by decide)
 have noSeries:=d0K 183 (by decide)
 have noConfirm:=d0y 183 (by decide)
 have noCancel:=d1Q 183 (by decide)
 have noList:=d8g 183 (by decide)
 have noWaiting:=d2E 183 (by decide)
 have noPeak:=e3J 183 (by decide)
 have noFind:=e7l 183 (by decide)
 have noExpand:=e3K 183 (by decide)
 have noTick:=f3K 183 (by decide)
 have yesClock:∀ (xT:TypeId) (v:Value) (w:World),(Instr.typeAssert (.iface 183 v) xT 183 true).run Tryz.prog w=.ok (.tuple #[v,.bool true]) w:=by intro xT v w;simp[Instr.typeAssert,go_sem,Result.andThen,run_underlying Tryz.underlying183]
 go_enter Tryz.func64,Tryz.ntmps64
 go_upto_region 43 with fail
 change Code.wp _ _ _ _ ((w.alloc (.cells #[.int .i64 0,.int .i64 0,.int .i64 0,.slice none 0 0,.slice none 0 0,.slice none 0 0,.slice none 0 0] 40)).alloc (.cells #[] 183))
 generalize ((w.alloc (.cells #[.int .i64 0,.int .i64 0,.int .i64 0,.slice none 0 0,.slice none 0 0,.slice none 0 0,.slice none 0 0] 40)).alloc (.cells #[] 183))=X at *
 have HF:Hid (∀ a b c e f g i,a0l w d col (Desk.a0g s .clock) (a0s 0 0 s.now (.slice none 0 0) (.slice none 0 0) (.slice none 0 0) (.slice none 0 0)) (a2w X w.heap.size a b c e f g i)):=fun a b c e f g i=>by
  rw[HD.out];exact HH.out.said HX.out (Nat.le_refl _) 0 s.now a b c e f g i
 clear noThing noBook noHold noWait noSeries noConfirm noCancel noList noWaiting noPeak noFind noExpand noTick yesClock
 obtain⟨q0,q1,q2,q3,q4,q5,q6,fq⟩:=q7
 go_wp2_with fail
 exact bodyPost_ret (v:=a0s 0 0 s.now (.slice none 0 0) (.slice none 0 0) (.slice none 0 0) (.slice none 0 0)) (by simp[results,Tryz.results64,go_sem,a0s,q0,q1,q2,q3,q4,q5,q6]) rfl ⟨_,rfl,HF.out _ _ _ _ _ _ _⟩
open Go.RowKit Go.Shelf
attribute [local go_sem] Oper.semAt_some
theorem b2Q{F:Fence}(hd:F.depth=none)(k:Nat):F.room k:=fun d h=>by rw[hd] at h;cases h
theorem RoundIn.anyDepth{F:Fence}(hd:F.depth=none){m m':Nat}{P:Program}{l:Nat}{f:FuncId}{tmps:Array Value}{assign body:Code}{w:World}{R:Ending->World->Prop}
  (h:RoundIn F m P l f tmps assign body w R):RoundIn F m' P l f tmps assign body w R:=⟨h.1,fun c cs _=>h.2 c cs (b2Q hd _)⟩
theorem YieldAt.anyDepth{F:Fence}(hd:F.depth=none){m:Nat}(m':Nat){P:Program}{l:Nat}{args:Array Value}{W:World}{R:Ending->World->Prop}(h:YieldAt F m P l args W R):YieldAt F m' P l args W R:=by
 obtain⟨fn,tmps,assign,body,hy,hR⟩:=h
 exact⟨fn,tmps,assign,body,hy,RoundIn.anyDepth hd hR⟩
theorem a2G.belowN{n₀:Nat}{w w':World}{b:Nat}{x:Avl.It}(h:a2G w b x)(k:Below n₀ w w')(hb:b<n₀):a2G w' b x :=
 ⟨(k.cell (p:=⟨b,0,none⟩) hb).trans h.c0,(k.cell (p:=⟨b,1,none⟩) hb).trans h.c1,(k.cell (p:=⟨b,2,none⟩) hb).trans h.c2,(k.cell (p:=⟨b,3,none⟩) hb).trans h.c3,h.c4.imp (fun _=>(k.cell (p:=⟨b,4,none⟩) hb).trans),h.c5.imp (fun _=>(k.cell (p:=⟨b,5,none⟩) hb).trans),h.c6.imp (fun _=>(k.cell (p:=⟨b,6,none⟩) hb).trans),h.c7.imp (fun _=>(k.cell (p:=⟨b,7,none⟩) hb).trans),fun o=>(k.frozen (p:=⟨b,o,none⟩) hb).trans (h.fz o)⟩
theorem a2p.belowN{n₀:Nat}{w w':World}(k:Below n₀ w w'):∀ {t:Avl.S}{p:Value}{F:List Nat},a2p w t p F->(∀ i∈F,i<n₀)->a2p w' t p F
 |.nil,p,F,hr,_=>hr
 |.node a l r,p,F,hr,hd=>by
  obtain⟨b,pl,pr,Fl,Fr,rfl,n,c4,c5,c6,c7,hl,hr,rfl,nd⟩:=hr
  have hb:b<n₀:=hd b (by simp)
  exact⟨b,pl,pr,Fl,Fr,rfl,n.belowN k hb,(k.cell (p:=⟨b,4,none⟩) hb).trans c4,(k.cell (p:=⟨b,5,none⟩) hb).trans c5,(k.cell (p:=⟨b,6,none⟩) hb).trans c6,(k.cell (p:=⟨b,7,none⟩) hb).trans c7,a2p.belowN k hl (fun i hi=>hd i (by simp[hi])),a2p.belowN k hr (fun i hi=>hd i (by simp[hi])),rfl,nd⟩
theorem b8b(F:Fence)(hd:F.depth=none)(h6:F.fn 255)(hro:F.round=none)(l n₀ N:Nat)(a b:Int){Q:Avl.It->Prop}(J Jx:List {x:Avl.It // Q x}->World->Prop)
  (hY:∀ m pre x W,J pre W->pre.length<N->YieldAt F m Tryz.prog l #[.pointer (some ⟨x.1.v,0,none⟩)] W fun e W' =>
   (e=.returned (.bool true)/\J (pre++[x]) W'/\Below n₀ W W')\/(e=.returned (.bool false)/\Jx (pre++[x]) W')) (t:Avl.S):
  ∀ (n:Nat) (p:Option Addr) (G:List Nat) (pre ys:List {x:Avl.It // Q x}) (W:World),a2p W t (.pointer p) G->(∀ i∈G,i<n₀)->ys.map (·.1)=Avl.meet a b t->J pre W->pre.length+ys.length<=N ->
   CallsIn F n Tryz.prog 255 #[.pointer p,.int .i64 a,.int .i64 b,.func (.yield l) #[] #[]] W fun e W' =>
    (e=.returned (.bool true)/\J (pre++ys) W'/\Below n₀ W W')\/(e=.returned (.bool false)/\∃ q,q <+: ys/\Jx (pre++q) W'):=by
 induction t with
 |nil =>
  intro n p G pre ys W ht _ hys hJ _
  obtain⟨hp,_⟩:=ht
  cases hp
  obtain rfl:ys=[]:=List.map_eq_nil_iff.1 (hys.trans rfl)
  refine callsIn_of_wp Tryz.func255 rfl h6 ?_ hro
  simp only[Tryz.ntmps255,List.size_toArray,List.length_cons,List.length_nil,Nat.reduceAdd,Nat.reduceSub,Array.replicate_succ,Array.replicate_zero,List.push_toArray,List.append_toArray,List.nil_append,List.cons_append]
  gi_wp2
  go_ret
  exact .inl ⟨rfl,by simpa using hJ,Below.refl _ _⟩
 |node x tl tr ihl ihr =>
  intro n p G pre ys W ht hG hys hJ hN
  obtain⟨bk,pl,pr,Fl,Fr,rfl,rfl,hh,c4,_⟩:=ht.half
  have hdd:∀ k:Nat,(F.depth.isSome=true->1<=k):=fun k h=>by rw[hd] at h;cases h
  have hb:bk<n₀:=hG bk (by simp)
  have hGl:∀ i∈Fl,i<n₀:=fun i hi=>hG i (by simp[hi])
  have hGr:∀ i∈Fr,i<n₀:=fun i hi=>hG i (by simp[hi])
  generalize hla:Avl.late (.node x tl tr)=la at c4
  by_cases q1:la<=a
  ·obtain rfl:ys=[]:=by
    have:Avl.meet a b (.node x tl tr)=[]:=by rw[Avl.meet,hla,if_pos q1]
    exact List.map_eq_nil_iff.1 (hys.trans this)
   refine callsIn_of_wp Tryz.func255 rfl h6 ?_ hro
   simp only[Tryz.ntmps255,List.size_toArray,List.length_cons,List.length_nil,Nat.reduceAdd,Nat.reduceSub,Array.replicate_succ,Array.replicate_zero,List.push_toArray,List.append_toArray,List.nil_append,List.cons_append]
   gi_wp2
   go_ret
   exact .inl ⟨rfl,by simpa using hJ,Below.refl _ _⟩
  ·have em:Avl.meet a b (.node x tl tr)=Avl.meet a b tl++if b<=x.f then [] else (if a<x.t then [x] else [])++Avl.meet a b tr:=by rw[Avl.meet,hla,if_neg q1]
   rw[em] at hys
   obtain⟨y1,y2,rfl,hy1,hy2⟩:=List.map_eq_append_iff.1 hys
   clear em hys
   simp only[List.length_append] at hN
   have c0:=hh.n.c0
   have c1:=hh.n.c1
   have c3:=hh.n.c3
   have c6:=hh.c6
   have c7:=hh.c7
   by_cases q2:b<=x.f
   ·rw[if_pos q2] at hy2
    obtain rfl:y2=[]:=List.map_eq_nil_iff.1 hy2
    have ih1:=(ihl (n-1) pl Fl pre y1 W hh.l hGl hy1 hJ (by simpa using hN)).mono (R':=fun e W1 =>
      (e=.returned (.bool true)/\J (pre++y1) W1/\Below n₀ W W1/\W1.cell? ⟨bk,0,none⟩=some (.int .i64 x.f))\/(e=.returned (.bool false)/\∃ q,q <+: y1/\Jx (pre++q) W1))
     (fun e W1 h=>h.elim (fun ⟨he,hj,hb1⟩=>.inl ⟨he,hj,hb1,(hb1.cell (p:=⟨bk,0,none⟩) hb).trans c0⟩) .inr)
    clear ihl ihr hh ht
    refine callsIn_of_wp Tryz.func255 rfl h6 ?_ hro
    simp only[Tryz.ntmps255,List.size_toArray,List.length_cons,List.length_nil,Nat.reduceAdd,Nat.reduceSub,Array.replicate_succ,Array.replicate_zero,List.push_toArray,List.append_toArray,List.nil_append,List.cons_append]
    gi_wp2_with (first
     |((try refine⟨hdd _,?_⟩);gi_at_call 255;refine ih1.mono ?_;clear ih1;rintro e W1 (⟨rfl,hJ1,hb1,c0'⟩|⟨rfl,q,hq,hx1⟩)))
    ·go_ret
     exact .inl ⟨rfl,by simpa using hJ1,hb1⟩
    ·go_ret
     exact .inr ⟨rfl,q,by simpa using hq,hx1⟩
   ·rw[if_neg q2] at hy2
    have q2':x.f<b:=by omega
    obtain⟨y3,y4,rfl,hy3,hy4⟩:=List.map_eq_append_iff.1 hy2
    clear hy2
    simp only[List.length_append] at hN
    by_cases q3:a<x.t
    ·rw[if_pos q3] at hy3
     obtain⟨x',rfl,hx'⟩:∃ x':{x:Avl.It // Q x},y3=[x']/\x'.1=x:=by
      rcases y3 with _|⟨x',_|⟨z,r⟩⟩
      ·simp at hy3
      ·exact⟨x',rfl,by simpa using hy3⟩
      ·simp at hy3
     subst hx'
     simp only[List.length_cons,List.length_nil] at hN
     have hy2:∀ W1,J (pre++y1) W1->Below n₀ W W1->YieldAt F (n-1) Tryz.prog l #[.pointer (some ⟨x'.1.v,0,none⟩)] W1 fun e W2 =>
       (e=.returned (.bool true)/\J (pre++y1++[x']) W2/\Below n₀ W W2/\W2.cell? ⟨bk,7,none⟩=some (.pointer pr)/\a2p W2 tr (.pointer pr) Fr)\/(e=.returned (.bool false)/\Jx (pre++y1++[x']) W2):=fun W1 hJ1 hb1 =>
      YieldAt.mono (hY (n-1) _ x' W1 hJ1 (by simp;omega)) fun e W2 h=>h.elim
       (fun ⟨he,hj,hb2⟩=>.inl ⟨he,hj,hb1.trans hb2,((hb1.trans hb2).cell (p:=⟨bk,7,none⟩) hb).trans c7,hh.r.belowN (hb1.trans hb2) hGr⟩) .inr
     have ih1:=(ihl (n-1) pl Fl pre y1 W hh.l hGl hy1 hJ (by omega)).mono (R':=fun e W1 =>
       (e=.returned (.bool true)/\W1.cell? ⟨bk,0,none⟩=some (.int .i64 x'.1.f)/\W1.cell? ⟨bk,1,none⟩=some (.int .i64 x'.1.t)/\W1.cell? ⟨bk,3,none⟩=some (.pointer (some ⟨x'.1.v,0,none⟩))/\YieldAt F (n-1) Tryz.prog l #[.pointer (some ⟨x'.1.v,0,none⟩)] W1 fun e W2 =>
        (e=.returned (.bool true)/\J (pre++y1++[x']) W2/\Below n₀ W W2/\W2.cell? ⟨bk,7,none⟩=some (.pointer pr)/\a2p W2 tr (.pointer pr) Fr)\/(e=.returned (.bool false)/\Jx (pre++y1++[x']) W2)) \/
       (e=.returned (.bool false)/\∃ q,q <+: y1/\Jx (pre++q) W1))
      (fun e W1 h=>h.elim (fun ⟨he,hj,hb1⟩=>.inl ⟨he,(hb1.cell (p:=⟨bk,0,none⟩) hb).trans c0,(hb1.cell (p:=⟨bk,1,none⟩) hb).trans c1,(hb1.cell (p:=⟨bk,3,none⟩) hb).trans c3,hy2 W1 hj hb1⟩) .inr)
     clear hy2 ihl hh ht
     refine callsIn_of_wp Tryz.func255 rfl h6 ?_ hro
     simp only[Tryz.ntmps255,List.size_toArray,List.length_cons,List.length_nil,Nat.reduceAdd,Nat.reduceSub,Array.replicate_succ,Array.replicate_zero,List.push_toArray,List.append_toArray,List.nil_append,List.cons_append]
     gi_wp2_with (first
      |((try refine⟨hdd _,?_⟩);gi_at_call 255;refine ih1.mono ?_;clear ih1;rintro e W1 (⟨rfl,c0',c1',c3',fn,tmps,assign,body,hy,hR⟩|⟨rfl,q,hq,hx1⟩))
      |((try refine⟨hdd _,?_⟩);refine hR.mono ?_;clear hR;rintro e W2 (⟨rfl,hJ2,hb2,c7',hr2⟩|⟨rfl,hx2⟩))
      |((try refine⟨hdd _,?_⟩);gi_at_call 255;refine (ihr (n-1) pr Fr _ y4 _ hr2 hGr hy4 hJ2 (by simp;omega)).mono ?_;rintro e W3 (⟨rfl,hJ3,hb3⟩|⟨rfl,q,hq,hx3⟩)))
     ·go_ret
      exact .inl ⟨rfl,by simpa[List.append_assoc] using hJ3,hb2.trans hb3⟩
     ·go_ret
      obtain⟨r,hr'⟩:=hq
      exact .inr ⟨rfl,y1++x' :: q,⟨r,by simp[<- hr']⟩,by simpa[List.append_assoc] using hx3⟩
     ·go_ret
      exact .inr ⟨rfl,y1++[x'],⟨y4,by simp⟩,by simpa[List.append_assoc] using hx2⟩
     ·go_ret
      exact .inr ⟨rfl,q,hq.trans ⟨_,rfl⟩,hx1⟩
    ·rw[if_neg q3] at hy3
     obtain rfl:y3=[]:=List.map_eq_nil_iff.1 hy3
     have q3':x.t<=a:=by omega
     simp only[List.length_nil] at hN
     have ih1:=(ihl (n-1) pl Fl pre y1 W hh.l hGl hy1 hJ (by omega)).mono (R':=fun e W1 =>
       (e=.returned (.bool true)/\W1.cell? ⟨bk,0,none⟩=some (.int .i64 x.f)/\W1.cell? ⟨bk,1,none⟩=some (.int .i64 x.t)/\W1.cell? ⟨bk,7,none⟩=some (.pointer pr)/\a2p W1 tr (.pointer pr) Fr/\J (pre++y1) W1/\Below n₀ W W1) \/
       (e=.returned (.bool false)/\∃ q,q <+: y1/\Jx (pre++q) W1))
      (fun e W1 h=>h.elim (fun ⟨he,hj,hb1⟩=>.inl ⟨he,(hb1.cell (p:=⟨bk,0,none⟩) hb).trans c0,(hb1.cell (p:=⟨bk,1,none⟩) hb).trans c1,(hb1.cell (p:=⟨bk,7,none⟩) hb).trans c7,hh.r.belowN hb1 hGr,hj,hb1⟩) .inr)
     clear ihl hh ht
     refine callsIn_of_wp Tryz.func255 rfl h6 ?_ hro
     simp only[Tryz.ntmps255,List.size_toArray,List.length_cons,List.length_nil,Nat.reduceAdd,Nat.reduceSub,Array.replicate_succ,Array.replicate_zero,List.push_toArray,List.append_toArray,List.nil_append,List.cons_append]
     gi_wp2_with (first
      |((try refine⟨hdd _,?_⟩);gi_at_call 255;refine ih1.mono ?_;clear ih1;rintro e W1 (⟨rfl,c0',c1',c7',hr2,hJ2,hb2⟩|⟨rfl,q,hq,hx1⟩))
      |((try refine⟨hdd _,?_⟩);gi_at_call 255;refine (ihr (n-1) pr Fr _ y4 _ hr2 hGr hy4 hJ2 (by simp;omega)).mono ?_;rintro e W3 (⟨rfl,hJ3,hb3⟩|⟨rfl,q,hq,hx3⟩)))
     ·refine⟨fun _ h=>(by cases h),?_⟩
      gi_wp2_with (first
       |((try refine⟨hdd _,?_⟩);gi_at_call 255;refine (ihr (n-1) pr Fr _ y4 _ hr2 hGr hy4 hJ2 (by simp;omega)).mono ?_;rintro e W3 (⟨rfl,hJ3,hb3⟩|⟨rfl,q,hq,hx3⟩)))
      ·go_ret
       exact .inl ⟨rfl,by simpa[List.append_assoc] using hJ3,hb2.trans hb3⟩
      ·go_ret
       obtain⟨r,hr'⟩:=hq
       exact .inr ⟨rfl,y1++q,⟨r,by simp[<- hr']⟩,by simpa[List.append_assoc] using hx3⟩
     ·go_ret
      exact .inr ⟨rfl,q,hq.trans ⟨_,rfl⟩,hx1⟩
theorem b3x(W:World):W.grownBy W.drew none:=⟨rfl,rfl,rfl,Nat.le_refl _,fun _ _ _=>rfl⟩
theorem b4b(l B1 B2 B3 n₀:Nat)(tb o:Nat)(p0:Option Addr)(a b:Int)(t:Avl.S)(G:List Nat){Q:Avl.It->Prop}(xs:List {x:Avl.It // Q x})(hxs:xs.map (·.1)=Avl.meet a b t)(J Jx:List {x:Avl.It // Q x}->World->Prop)
  (hY:∀ m pre x W,J pre W->pre.length<xs.length->YieldAt Fence.wide m Tryz.prog l #[.pointer (some ⟨x.1.v,0,none⟩)] W fun e W' =>
   (e=.returned (.bool true)/\J (pre++[x]) W'/\Below n₀ W W')\/(e=.returned (.bool false)/\Jx (pre++[x]) W'))
  (hJd:∀ pre W,J pre W->J pre W.drew)
  (W:World) (hB1:W.cell? ⟨B1,0,none⟩=some (.pointer (some ⟨tb,o,none⟩))) (hB2:W.cell? ⟨B2,0,none⟩=some (.int .i64 a)) (hB3:W.cell? ⟨B3,0,none⟩=some (.int .i64 b)) (hc:W.cell? ⟨tb,o,none⟩=some (.pointer p0)) (hT:a2p W t (.pointer p0) G) (hG:∀ i∈G,i<n₀) (h0:J [] W):
  Calls Tryz.prog 254 #[.func (.yield l) #[] #[],.pointer (some ⟨B1,0,none⟩),.pointer (some ⟨B2,0,none⟩),.pointer (some ⟨B3,0,none⟩)] W fun e W'=>(∃ v,e=.returned v) /\
   ((∃ ys,ys=xs/\J ys W')\/(∃ pre,pre <+: xs/\Jx pre W')):=by
 have hp:=callsIn_wide.1 (b8b Fence.wide rfl trivial rfl l n₀ xs.length a b J Jx hY t 0 p0 G [] xs W.drew (hT.same (Off.refl _ _).drew) hG hxs (hJd _ _ h0) (by simp))
 have hp2:=a0b (hp.mono (R':=fun e W'=>(∃ bv,e=.returned (.bool bv))/\((∃ ys,ys=xs/\J ys W')\/(∃ pre,pre <+: xs/\Jx pre W')))
  (fun e W' h=>h.elim (fun ⟨he,hj,_⟩=>⟨⟨_,he⟩,.inl ⟨_,rfl,by simpa using hj⟩⟩) (fun ⟨he,q,hq,hx⟩=>⟨⟨_,he⟩,.inr ⟨q,hq,by simpa using hx⟩⟩)))
 clear hp hY hJd h0 hxs hT hG
 go_enter Tryz.func254,Tryz.ntmps254
 go_upto_region 0 with fail
 go_region_with (first
  |(go_at_call 255;refine hp2.out.mono ?_;rintro e W1 ⟨⟨bv,rfl⟩,hfin⟩))
 all_goals
  go_wp2_with fail
  go_end0
  exact⟨⟨_,rfl⟩,hfin⟩
end Go.Proofs.YtfigmlfdnickmaaGreatDoor
