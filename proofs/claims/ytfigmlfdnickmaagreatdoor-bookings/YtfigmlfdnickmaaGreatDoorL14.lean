import Derived.Test.YtfigmlfdnickmaaGreatDoorL13
import Derived.RangeFuncKeeps
import Derived.RangeFuncBound
import Derived.RangeFuncLeaves
import Derived.Shelf.Abstract
import Derived.Shelf.RegionOpen
import Derived.OwnWalkIn
import Derived.TacticsInMore
import Derived.Deep.CutRange
import Derived.Deep.RegionWith
import Derived.Deep.RegionHeld3
import Derived.RangeFuncCalls
set_option maxRecDepth 100000
set_option maxHeartbeats 8000000
variable{e:Go.Proofs.YtfigmlfdnickmaaGreatDoor.Desk.Ent}{l tl:List (Go.Proofs.YtfigmlfdnickmaaGreatDoor.Desk.Ent × Go.Value)}{xs:List Go.Value}{B Q b c1 d i m n n₀:Nat}{col:Nat->Option Go.Proofs.YtfigmlfdnickmaaGreatDoor.Col}{a1:Option Go.Addr}{r:Go.Proofs.YtfigmlfdnickmaaGreatDoor.Raw}{s:Go.Proofs.YtfigmlfdnickmaaGreatDoor.Desk.St}{sp v v':Go.Value}{W W' w w' w1 w2 w3 wx:Go.World}
namespace Go.Proofs.YtfigmlfdnickmaaGreatDoor
open Go.RowKit
open Desk (Ent St Ids kept a0C a0Q a1C a2e ofB a0y a2c Mid a1H a0z Inv)
def a3U:Obj:=.cells #[.int .i64 0,.int .i64 0,.string ByteArray.empty,.int .i64 0,.slice none 0 0,.int .i64 0] 58 (0,0)
def a8k(e:Ent)(v:Value):Value:=.agg #[.int .i64 e.id,.int .i64 e.kind,.string e.a0k,.int .i64 e.a0c,v,.int .i64 e.a0Z]
def c5K(Z:World)(Q:Nat)(a b c d e f:Value):World:=(((((Z.setCell ⟨Q,0,none⟩ a).setCell ⟨Q,1,none⟩ b).setCell ⟨Q,2,none⟩ c).setCell ⟨Q,3,none⟩ d).setCell ⟨Q,4,none⟩ e).setCell ⟨Q,5,none⟩ f
theorem b6a(Z:World)(Q:Nat)(a b c d e f:Value):Off [Q] Z (c5K Z Q a b c d e f) :=
 ((((((Off.refl [Q] Z).setCell (.inl (by simp)) _ _).setCell (.inl (by simp)) _ _).setCell (.inl (by simp)) _ _).setCell (.inl (by simp)) _ _).setCell (.inl (by simp)) _ _).setCell (.inl (by simp)) _ _
def b2p(w:World)(e:Ent)(v:Value)(w':World):Prop:=∃ sp,v=a8k e sp/\w'.ownsRow w.heap.size 60 2 sp e.a0e.length (e.a0e.flatMap spV)/\Below w.heap.size w w'
theorem c7v(h:w.heap[Q]?=some a3U):w.cell? ⟨Q,0,none⟩=some (.int .i64 0):=by unfold a3U at h;simp only[World.cell?,h];rfl
theorem c7u(h:w.heap[Q]?=some a3U):w.cell? ⟨Q,1,none⟩=some (.int .i64 0):=by unfold a3U at h;simp only[World.cell?,h];rfl
theorem c7t(h:w.heap[Q]?=some a3U):w.cell? ⟨Q,2,none⟩=some (.string ByteArray.empty):=by unfold a3U at h;simp only[World.cell?,h];rfl
theorem c7s(h:w.heap[Q]?=some a3U):w.cell? ⟨Q,3,none⟩=some (.int .i64 0):=by unfold a3U at h;simp only[World.cell?,h];rfl
theorem c7r(h:w.heap[Q]?=some a3U):w.cell? ⟨Q,4,none⟩=some (.slice none 0 0):=by unfold a3U at h;simp only[World.cell?,h];rfl
theorem c7q(h:w.heap[Q]?=some a3U):w.cell? ⟨Q,5,none⟩=some (.int .i64 0):=by unfold a3U at h;simp only[World.cell?,h];rfl
theorem c7p(h:w.heap[Q]?=some a3U):∀ o,w.frozen? ⟨Q,o,none⟩=false:=fun o=>frozen_of_row _ Q o _ _ h
theorem c2d(w:World)(g:EG)(h:ENK w g)(hn:w.cell? ⟨g.tb,0,none⟩=some (.string g.e.a0k))(hL:g.e.a0e.length<=100):
  Calls Tryz.prog 152 #[.pointer (some ⟨g.eb,0,none⟩)] w fun e w'=>∃ v,e=.returned v/\b2p w g.e v w':=by
 have hX:Below w.heap.size w (w.alloc a3U):=(zr _ _).alloc (zq _) _;have hq:=a0p w a3U;have hx:=h.off (G:=[]) (Off.of_below hX) (by simp) (by simp);have c0:=hx.en.c0;have c1:=hx.k;have c2:=hx.en.c1;have c3:=hx.en.c2;have c4:=hx.en.c3;have c5:=hx.u;have cn:=a0a hX hn;have CL:=a0b (b4C (w.alloc a3U).drew g.B g.cap g.e.a0e (hx.en.sl.off (G:=[]) (Off.of_below (a0q _)) (by simp)) hL);have HX:=a0b (zA hX hq);have hne:g.eb≠w.heap.size/\g.tb≠w.heap.size:=⟨by have:=h.lt;omega,by have h1:g.tb<w.heap.size:=World.block_lt_of_cell? _ _ hn;omega⟩;clear h hn hX hq hx
 go_enter Tryz.func152,Tryz.ntmps152
 go_upto_region 1 with fail
 change Code.wp _ _ _ _ (w.alloc a3U);have hs:w.heap.size<(w.alloc a3U).heap.size:=by simp
 generalize w.alloc a3U=X at *;have AC:Hid (∀ w2,Below X.drew.heap.size X.drew w2->w2.cell? ⟨g.eb,0,none⟩=some (.int .i64 g.e.id)/\w2.cell? ⟨g.eb,1,none⟩=some (.int .i64 g.e.kind)/\w2.cell? ⟨g.eb,2,none⟩=some (.pointer (some ⟨g.tb,0,none⟩))/\w2.cell? ⟨g.eb,3,none⟩=some (.int .i64 g.e.a0c)/\w2.cell? ⟨g.eb,4,none⟩=some (.slice (some ⟨g.B,0,none⟩) g.e.a0e.length g.cap)/\w2.cell? ⟨g.eb,5,none⟩=some (.int .i64 g.e.a0Z)/\w2.cell? ⟨g.tb,0,none⟩=some (.string g.e.a0k)):=fun w2 k=>⟨a0a k c0,a0a k c1,a0a k c2,a0a k c3,a0a k c4,a0a k c5,a0a k cn⟩
 have AQ:Hid (∀ w2,Below X.drew.heap.size X.drew w2->w2.heap[w.heap.size]?=some a3U):=fun w2 k=>(k.block _ hs).trans HX.out.2
 have AS:Hid (∀ w2 a b c d e f,Below X.drew.heap.size X.drew w2->((((((w2.setCell ⟨w.heap.size,0,none⟩ a).setCell ⟨w.heap.size,1,none⟩ b).setCell ⟨w.heap.size,2,none⟩ c).setCell ⟨w.heap.size,3,none⟩ d).setCell ⟨w.heap.size,4,none⟩ e).setCell ⟨w.heap.size,5,none⟩ f).cell? ⟨g.eb,0,none⟩=some (.int .i64 g.e.id)/\((((((w2.setCell ⟨w.heap.size,0,none⟩ a).setCell ⟨w.heap.size,1,none⟩ b).setCell ⟨w.heap.size,2,none⟩ c).setCell ⟨w.heap.size,3,none⟩ d).setCell ⟨w.heap.size,4,none⟩ e).setCell ⟨w.heap.size,5,none⟩ f).cell? ⟨g.eb,1,none⟩=some (.int .i64 g.e.kind)/\((((((w2.setCell ⟨w.heap.size,0,none⟩ a).setCell ⟨w.heap.size,1,none⟩ b).setCell ⟨w.heap.size,2,none⟩ c).setCell ⟨w.heap.size,3,none⟩ d).setCell ⟨w.heap.size,4,none⟩ e).setCell ⟨w.heap.size,5,none⟩ f).cell? ⟨g.eb,2,none⟩=some (.pointer (some ⟨g.tb,0,none⟩))/\((((((w2.setCell ⟨w.heap.size,0,none⟩ a).setCell ⟨w.heap.size,1,none⟩ b).setCell ⟨w.heap.size,2,none⟩ c).setCell ⟨w.heap.size,3,none⟩ d).setCell ⟨w.heap.size,4,none⟩ e).setCell ⟨w.heap.size,5,none⟩ f).cell? ⟨g.eb,3,none⟩=some (.int .i64 g.e.a0c)/\((((((w2.setCell ⟨w.heap.size,0,none⟩ a).setCell ⟨w.heap.size,1,none⟩ b).setCell ⟨w.heap.size,2,none⟩ c).setCell ⟨w.heap.size,3,none⟩ d).setCell ⟨w.heap.size,4,none⟩ e).setCell ⟨w.heap.size,5,none⟩ f).cell? ⟨g.eb,4,none⟩=some (.slice (some ⟨g.B,0,none⟩) g.e.a0e.length g.cap)/\((((((w2.setCell ⟨w.heap.size,0,none⟩ a).setCell ⟨w.heap.size,1,none⟩ b).setCell ⟨w.heap.size,2,none⟩ c).setCell ⟨w.heap.size,3,none⟩ d).setCell ⟨w.heap.size,4,none⟩ e).setCell ⟨w.heap.size,5,none⟩ f).cell? ⟨g.eb,5,none⟩=some (.int .i64 g.e.a0Z)/\((((((w2.setCell ⟨w.heap.size,0,none⟩ a).setCell ⟨w.heap.size,1,none⟩ b).setCell ⟨w.heap.size,2,none⟩ c).setCell ⟨w.heap.size,3,none⟩ d).setCell ⟨w.heap.size,4,none⟩ e).setCell ⟨w.heap.size,5,none⟩ f).cell? ⟨g.tb,0,none⟩=some (.string g.e.a0k)):=fun w2 a b c d e f k=>by
  have o:=b6a w2 w.heap.size a b c d e f;obtain⟨k0,k1,k2,k3,k4,k5,k6⟩:=AC.out w2 k;exact⟨o.cell (by simpa using hne.1) k0,o.cell (by simpa using hne.1) k1,o.cell (by simpa using hne.1) k2,o.cell (by simpa using hne.1) k3,o.cell (by simpa using hne.1) k4,o.cell (by simpa using hne.1) k5,o.cell (by simpa using hne.2) k6⟩
 clear hne
 go_region_held3 (fun w'=>w'.cell? ⟨g.eb,0,none⟩=some (.int .i64 g.e.id)/\w'.cell? ⟨g.eb,1,none⟩=some (.int .i64 g.e.kind)/\w'.cell? ⟨g.eb,2,none⟩=some (.pointer (some ⟨g.tb,0,none⟩))/\w'.cell? ⟨g.eb,3,none⟩=some (.int .i64 g.e.a0c)/\w'.cell? ⟨g.eb,4,none⟩=some (.slice (some ⟨g.B,0,none⟩) g.e.a0e.length g.cap)/\w'.cell? ⟨g.eb,5,none⟩=some (.int .i64 g.e.a0Z)/\w'.cell? ⟨g.tb,0,none⟩=some (.string g.e.a0k))
  (first
   |with_reducible exact AS.out _ _ _ _ _ _ _ hb2
   |with_reducible exact AC.out _ hb2
   |exact⟨c0,c1,c2,c3,c4,c5,cn⟩)
  (first
   |(go_at_call 210;refine CL.out.mono ?_;rintro e w2 ⟨v,rfl,ho,hb2⟩;obtain⟨va,vc,rfl⟩:=a0B ho;have hq2:=AQ.out w2 hb2;have q0:=c7v hq2;have q1:=c7u hq2;have q2:=c7t hq2;have q3:=c7s hq2;have q4:=c7r hq2;have q5:=c7q hq2;have fq:=c7p hq2;clear hq2))
 have HF:Hid (b2p w g.e (a8k g.e (.slice va g.e.a0e.length vc)) (c5K w2 w.heap.size (.int .i64 g.e.id) (.int .i64 g.e.kind) (.string g.e.a0k) (.int .i64 g.e.a0c) (.slice va g.e.a0e.length vc) (.int .i64 g.e.a0Z))):=by
  have hXs:=HX.out.1.size;have k:=b6a w2 w.heap.size (.int .i64 g.e.id) (.int .i64 g.e.kind) (.string g.e.a0k) (.int .i64 g.e.a0c) (.slice va g.e.a0e.length vc) (.int .i64 g.e.a0Z);have h1:Below w.heap.size w w2:=HX.out.1.drew.trans (hb2.mono hXs);refine⟨_,rfl,a1i (Joins.ownsRow_le ho hXs) k (fun b hb hx=>?_),?_⟩
  ·have:=(ho.lt b hb).1;have e:b=w.heap.size:=List.mem_singleton.1 hx;have hs':w.heap.size<X.drew.heap.size:=hs;omega
  ·exact⟨k.os.trans h1.os,k.tape.trans h1.tape,k.output.trans h1.output,Nat.le_trans h1.size k.size,fun b hb=>(k.block b (zL hb h1.size) (by simp;omega)).trans (h1.block b hb)⟩
 clear ho hb2 CL AC AQ AS c0 c1 c2 c3 c4 c5 cn HX hs
 go_wp2_with fail
 exact bodyPost_ret (v:=a8k g.e (.slice va g.e.a0e.length vc)) (by simp[results,Tryz.results152,go_sem,a8k,q0,q1,q2,q3,q4,q5]) rfl ⟨_,rfl,HF.out⟩
theorem b6R:(Tryz.prog.info? 58).map (fun i=>(i.zero,i.size,i.bytes))=some (some (.agg #[.int .i64 0,.int .i64 0,.string ByteArray.empty,.int .i64 0,.slice none 0 0,.int .i64 0]),6,72):=by kernel_rfl
theorem DSt.tells(h:DSt w d s r col)(k:Below w.heap.size w wx){g:EG}(hg:g∈r.eg):
  Calls Tryz.prog 152 #[.pointer (some ⟨g.eb,0,none⟩)] wx fun e w'=>∃ v,e=.returned v/\b2p wx g.e v w':=by
 have d1:=h.dk.later k;obtain⟨i,hi,e1,e2⟩:=h.of.tb g hg;obtain⟨ul,us,Fl,Fs,t1,_⟩:=d1.th i hi;have hc:=t1.c0;rw[e1,<- e2] at hc;exact c2d wx g (d1.en g hg).1 hc (by have:=(h.inv.en _ (h.of.mem hg)).sl;omega)
theorem a3M:∀ {l:List (Ent × Value)}{k:Nat}(hk:k<l.length){j:Nat}(_:j<6),(l.flatMap a1f)[k*6+j]?=(a1f l[k])[j]?
 |p :: l,0,hk,j,hj=>by
  have e:(p :: l).flatMap a1f=a1f p++l.flatMap a1f:=by simp
  rw[e,List.getElem?_append_left (by simp[a1f];omega)];simp
 |p :: l,k+1,hk,j,hj=>by
  have hk':k<l.length:=by simpa using hk
  have e:(p :: l).flatMap a1f=a1f p++l.flatMap a1f:=by simp
  have hl:(a1f p).length=6:=rfl;rw[e,List.getElem?_append_right (by rw[hl];omega),hl,show (k+1)*6+j-6=k*6+j by omega,a3M hk' hj];simp
theorem b8q(eb:Nat)(id:Int)(x:Ent)(a:Option Addr)(n c:Nat)(w:World)(hc:w.cell? ⟨eb,0,none⟩=some (.int .i64 id)):
  Calls Tryz.prog 209 #[.pointer (some ⟨eb,0,none⟩),a8k x (.slice a n c)] w fun e w'=>e=.returned (.bool (x.id==id))/\Below w.heap.size w w':=by
 have hX:Below w.heap.size w (w.alloc (.cells #[.int .i64 x.id,.int .i64 x.kind,.string x.a0k,.int .i64 x.a0c,.slice a n c,.int .i64 x.a0Z] 58)):=(zr _ _).alloc (zq _) _;have x0:(w.alloc (.cells #[.int .i64 x.id,.int .i64 x.kind,.string x.a0k,.int .i64 x.a0c,.slice a n c,.int .i64 x.a0Z] 58)).cell? ⟨w.heap.size,0,none⟩=some (.int .i64 x.id):=by simp
 have x1:=a0a hX hc;have HX:=a0b hX;clear hX hc;unfold a8k
 go_enter Tryz.func209,Tryz.ntmps209
 go_upto_region 1 with fail
 generalize w.alloc (.cells #[.int .i64 x.id,.int .i64 x.kind,.string x.a0k,.int .i64 x.a0c,.slice a n c,.int .i64 x.a0Z] 58)=X at *
 go_big_region
 go_wp2_with fail
 go_ret;exact⟨rfl,HX.out.drew⟩
theorem b1T(l:List (Ent × Value))(v:Value)(B eb:Nat)(id:Int)(w:World)(own:w.ownsRow B 58 6 v l.length (l.flatMap a1f))(hs:∀ p∈l,∃ a n c,p.2=.slice a n c)(hc:w.cell? ⟨eb,0,none⟩=some (.int .i64 id))(hl:l.length<=1000):
  Calls Tryz.prog 256 #[v,.func (.func 209) #[.pointer (some ⟨eb,0,none⟩)] #[]] w fun e w'=>e=.returned (.int .i64 (a3z (fun p:Ent × Value=>p.1.id==id) l 0))/\Below w.heap.size w w':=by
 obtain⟨a,cap,rfl⟩:=a0B own;have CC:=a0b hc;have HS:=a0b hs;have OWN:=a0b own;clear hc hs own
 go_enter Tryz.func256,Tryz.ntmps256
 go_wp2_with fail
 go_loopw [8] (fun i wx=>∃ k:Nat,k<=l.length/\i=.int .i64 k/\a3z (fun p:Ent × Value=>p.1.id==id) l 0=a3z (fun p:Ent × Value=>p.1.id==id) (l.drop k) k/\Below w.heap.size w wx) (fun i _=>l.length-(intOf i).toNat)
 case atStart=>exact⟨0,Nat.zero_le _,rfl,rfl,Below.refl _ _⟩
 case round =>
  obtain⟨k,hk,rfl,hu,hb⟩:=hrel;have HU:=a0b hu;have HB:=a0b hb
  by_cases hlt:k<l.length
  ·have hi:(k:Int)<(l.length:Int):=by omega
   obtain⟨H,cap',e1⟩:=Joins.ownsRow_form OWN.out (by omega);simp only[Value.slice.injEq,true_and] at e1;obtain⟨rfl,rfl⟩:=e1;have ownr:=a1g OWN.out hb;have a0:=(ownr.cellAt (k*6) (by omega)).trans (a3M hlt (j:=0) (by omega));have a1:=(ownr.cellAt (k*6+1) (by omega)).trans (a3M hlt (j:=1) (by omega));have a2:=(ownr.cellAt (k*6+2) (by omega)).trans (a3M hlt (j:=2) (by omega));have a3:=(ownr.cellAt (k*6+3) (by omega)).trans (a3M hlt (j:=3) (by omega));have a4:=(ownr.cellAt (k*6+4) (by omega)).trans (a3M hlt (j:=4) (by omega));have a5:=(ownr.cellAt (k*6+5) (by omega)).trans (a3M hlt (j:=5) (by omega));simp only[a1f,List.getElem?_cons_zero,List.getElem?_cons_succ] at a0 a1 a2 a3 a4 a5;obtain⟨sa,sn,sc,hsp⟩:=HS.out l[k] (zg hlt);rw[hsp] at a4;have D1:=a0b (b8q eb id l[k].1 sa sn sc wr (a0a hb CC.out));have ed:a3z (fun p:Ent × Value=>p.1.id==id) (l.drop k) k=if l[k].1.id==id then (k:Int) else a3z (fun p:Ent × Value=>p.1.id==id) (l.drop (k+1)) ((k+1:Nat):Int):=by rw[List.drop_eq_getElem_cons hlt];rfl
   have ED:=a0b ed;clear ed ownr hb hu hsp
   cases hq:(l[k].1.id==id)
   ·have HN:Hid (a3z (fun p:Ent × Value=>p.1.id==id) l 0=a3z (fun p:Ent × Value=>p.1.id==id) (l.drop (k+1)) ((k+1:Nat):Int)):=by show _=_;rw[HU.out,ED.out,hq];rfl
    rw[hq] at D1;clear hq;unfold a8k at D1
    go_wp2_with fail
    refine D1.out.mono ?_;rintro e w1 ⟨rfl,k1⟩;have HK:=a0b (a0j HB.out k1 (zq _));clear k1 a0 a1 a2 a3 a4 a5 D1
    go_wp2_with fail
    go_roundw
    case rel=>exact⟨k+1,by omega,by go_num,HN.out,HK.out⟩
    case measure=>simp[intOf];omega
   ·have HN:Hid (a3z (fun p:Ent × Value=>p.1.id==id) l 0=k):=by show _=_;rw[HU.out,ED.out,hq];rfl
    rw[hq] at D1;clear hq;unfold a8k at D1
    go_wp2_with fail
    refine D1.out.mono ?_;rintro e w1 ⟨rfl,k1⟩;have HK:=a0b (a0j HB.out k1 (zq _));clear k1 a0 a1 a2 a3 a4 a5 D1
    go_wp2_with fail
    go_ret;exact⟨a1L HN.out.symm,HK.out⟩
  ·have hke:k=l.length:=by omega
   have hi:¬ ((k:Int)<(l.length:Int)):=by omega
   have HN:Hid (a3z (fun p:Ent × Value=>p.1.id==id) l 0=-1):=by show _=_;rw[HU.out,hke,List.drop_length];rfl
   clear hu hb
   go_wp2_with fail
   go_ret;exact⟨a1L HN.out.symm,HB.out⟩
theorem a8q(l:List (Ent × Value))(v:Value)(B eb:Nat)(id:Int)(w:World)(own:w.ownsRow B 58 6 v l.length (l.flatMap a1f))(hs:∀ p∈l,∃ a n c,p.2=.slice a n c)(hc:w.cell? ⟨eb,0,none⟩=some (.int .i64 id))(hl:l.length<=1000):
  Calls Tryz.prog 208 #[v,.func (.func 209) #[.pointer (some ⟨eb,0,none⟩)] #[]] w fun e w'=>e=.returned (.bool (l.any (fun p:Ent × Value=>p.1.id==id)))/\Below w.heap.size w w':=by
 have HI:=a0b (b1T l v B eb id w own hs hc hl)
 have key:(decide ((0:Int)<=a3z (fun p:Ent × Value=>p.1.id==id) l 0))=l.any (fun p:Ent × Value=>p.1.id==id):=by
  rcases a7F (fun p:Ent × Value=>p.1.id==id) l 0 with ⟨h1,h2⟩|⟨k,h,h1,h2,_⟩
  ·rw[h1];have:l.any (fun p:Ent × Value=>p.1.id==id)=false:=List.any_eq_false.2 (fun x hx=>by rw[h2 x hx];simp);rw[this];rfl
  ·have:l.any (fun p:Ent × Value=>p.1.id==id)=true:=List.any_eq_true.2 ⟨_,List.getElem_mem h,h2⟩;rw[this,h1];exact decide_eq_true (by omega)
 have KEY:=a0b key;clear key own hs hc
 go_enter Tryz.func208,Tryz.ntmps208
 go_wp2_with fail
 refine HI.out.mono ?_;rintro e w1 ⟨rfl,k1⟩;have HK:=a0b k1;clear k1 HI;generalize a3z (fun p:Ent × Value=>p.1.id==id) l 0=z at *
 go_wp2_with fail
 go_ret;exact⟨by rw[KEY.out];rfl,HK.out⟩
theorem b3B{L:List (Int × Int)}:∀ (i:Nat)(h:i<L.length),(L.flatMap spV)[i*2]?=some (.int .i64 L[i].1)/\(L.flatMap spV)[i*2+1]?=some (.int .i64 L[i].2):=by
 induction L with
 |nil=>intro i h;simp at h
 |cons a L ih =>
  intro i h
  cases i with
  |zero=>exact⟨rfl,rfl⟩
  |succ i =>
   obtain⟨h1,h2⟩:=ih i (by simpa using h);have e:(a :: L).flatMap spV=[.int .i64 a.1,.int .i64 a.2]++L.flatMap spV:=rfl;rw[e,show (i+1)*2=2+i*2 from by omega,show 2+i*2+1=2+(i*2+1) from by omega];constructor
   ·rw[List.getElem?_append_right (by simp)];simpa using h1
   ·rw[List.getElem?_append_right (by simp)];simpa using h2
theorem DSt.ansEntries{Z:World}(h:DSt w d s r col)(k:Below w.heap.size w Z)(hQ:w.heap.size<=Q){en:Value}(er:a3j Z (Q+1) col en l)(a b c e f g i:Value):
  a0l w d col (s,⟨0,0,0,l.map (·.1),[],[],[]⟩) (a0s 0 0 0 en (.slice none 0 0) (.slice none 0 0) (.slice none 0 0)) (a2w Z Q a b c e f g i):=by
 have ko:=a2R Z Q a b c e f g i;have dz:=h.dk.later k;have nq:∀ b,Q<=b->col b=none:=fun b hb=>h.dk.none (by omega)
 have st:Step anyS w.heap.size col col Z (a2w Z Q a b c e f g i):=⟨⟨_,ko,fun x hx=>.inr (by have:x=Q:=List.mem_singleton.1 hx;subst this;exact⟨nq _ (zq _),hQ⟩)⟩,fun _ _ h=>h,fun _ _ h=>.inl h⟩
 have rp:a5m Z (Q+1) col (a0s 0 0 0 en (.slice none 0 0) (.slice none 0 0) (.slice none 0 0)) ⟨0,0,0,l.map (·.1),[],[],[]⟩ :=
  ⟨_,_,_,_,l,rfl,rfl,er,a2I.nil _ _ _,a2I.nil _ _ _,a2I.nil _ _ _,(fun b hb=>by cases hb),fun b hb=>by cases hb⟩
 exact⟨r,col,dz.off ko (fun x hx=>by have:x=Q:=List.mem_singleton.1 hx;subst this;exact nq _ (zq _)),h.of,h.wl,h.hl,(Step.below k).trans st,(rp.off ko (fun x hx=>by have:x=Q:=List.mem_singleton.1 hx;omega)).base (by omega)⟩
theorem b3W{rw_:Raw}(h:DSt w d s rw_ col):
  Calls Tryz.prog 64 #[.pointer (some ⟨d,0,none⟩),.iface 183 (.agg #[])] w fun e w'=>∃ v,e=.returned v/\a0l w d col (Desk.a0g s .clock) v w':=by
 have hX:Below w.heap.size w ((w.alloc (.cells #[.int .i64 0,.int .i64 0,.int .i64 0,.slice none 0 0,.slice none 0 0,.slice none 0 0,.slice none 0 0] 40)).alloc (.cells #[] 183)):=((zr _ _).alloc (zq _) _).alloc (by simp) _;have hq:((w.alloc (.cells #[.int .i64 0,.int .i64 0,.int .i64 0,.slice none 0 0,.slice none 0 0,.slice none 0 0,.slice none 0 0] 40)).alloc (.cells #[] 183)).heap[w.heap.size]?=some a0f:=(Below.heap_alloc _ _ _ (by simp)).trans (a0p w a0f);have xn:=(h.dk.later hX).c0;rw[h.of.now] at xn;have HX:=a0b hX;have HH:=a0b h;have q7:=Q7.of hq;have HD:Hid (Desk.a0g s .clock=(s,⟨0,0,s.now,[],[],[],[]⟩)):=rfl;clear hX hq h;have noThing:=d0q 183 (by decide);have noBook:=d2o 183 (by decide);have noHold:=d2F 183 (by decide);have noWait:=d3H 183 (by decide);have noSeries:=d0K 183 (by decide);have noConfirm:=d0y 183 (by decide);have noCancel:=d1Q 183 (by decide);have noList:=d8g 183 (by decide);have noWaiting:=d2E 183 (by decide);have noPeak:=e3J 183 (by decide);have noFind:=e7l 183 (by decide);have noExpand:=e3K 183 (by decide);have noTick:=f3K 183 (by decide);have yesClock:∀ (xT:TypeId) (v:Value) (w:World),(Instr.typeAssert (.iface 183 v) xT 183 true).run Tryz.prog w=.ok (.tuple #[v,.bool true]) w:=by intro xT v w;simp[Instr.typeAssert,go_sem,Result.andThen,run_underlying Tryz.underlying183]
 go_enter Tryz.func64,Tryz.ntmps64
 go_upto_region 43 with fail
 change Code.wp _ _ _ _ ((w.alloc (.cells #[.int .i64 0,.int .i64 0,.int .i64 0,.slice none 0 0,.slice none 0 0,.slice none 0 0,.slice none 0 0] 40)).alloc (.cells #[] 183));generalize ((w.alloc (.cells #[.int .i64 0,.int .i64 0,.int .i64 0,.slice none 0 0,.slice none 0 0,.slice none 0 0,.slice none 0 0] 40)).alloc (.cells #[] 183))=X at *
 have HF:Hid (∀ a b c e f g i,a0l w d col (Desk.a0g s .clock) (a0s 0 0 s.now (.slice none 0 0) (.slice none 0 0) (.slice none 0 0) (.slice none 0 0)) (a2w X w.heap.size a b c e f g i)):=fun a b c e f g i=>by
  rw[HD.out];exact HH.out.said HX.out (zq _) 0 s.now a b c e f g i
 clear noThing noBook noHold noWait noSeries noConfirm noCancel noList noWaiting noPeak noFind noExpand noTick yesClock;obtain⟨q0,q1,q2,q3,q4,q5,q6,fq⟩:=q7
 go_wp2_with fail
 exact bodyPost_ret (v:=a0s 0 0 s.now (.slice none 0 0) (.slice none 0 0) (.slice none 0 0) (.slice none 0 0)) (by simp[results,Tryz.results64,go_sem,a0s,q0,q1,q2,q3,q4,q5,q6]) rfl ⟨_,rfl,HF.out _ _ _ _ _ _ _⟩
open Go.RowKit Go.Shelf
attribute [local go_sem] Oper.semAt_some
theorem b2Q{F:Fence}(hd:F.depth=none)(k:Nat):F.room k:=fun d h=>by rw[hd] at h;cases h
theorem RoundIn.anyDepth{F:Fence}(hd:F.depth=none){m':Nat}{P:Program}{l:Nat}{f:FuncId}{tmps:Array Value}{assign body:Code}{R:Ending->World->Prop}
  (h:RoundIn F m P l f tmps assign body w R):RoundIn F m' P l f tmps assign body w R:=⟨h.1,fun c cs _=>h.2 c cs (b2Q hd _)⟩
theorem YieldAt.anyDepth{F:Fence}(hd:F.depth=none)(m':Nat){P:Program}{l:Nat}{args:Array Value}{R:Ending->World->Prop}(h:YieldAt F m P l args W R):YieldAt F m' P l args W R:=by
 obtain⟨fn,tmps,assign,body,hy,hR⟩:=h;exact⟨fn,tmps,assign,body,hy,RoundIn.anyDepth hd hR⟩
theorem a2G.belowN{x:Avl.It}(h:a2G w b x)(k:Below n₀ w w')(hb:b<n₀):a2G w' b x :=
 ⟨(k.cell (p:=⟨b,0,none⟩) hb).trans h.c0,(k.cell (p:=⟨b,1,none⟩) hb).trans h.c1,(k.cell (p:=⟨b,2,none⟩) hb).trans h.c2,(k.cell (p:=⟨b,3,none⟩) hb).trans h.c3,h.c4.imp (fun _=>(k.cell (p:=⟨b,4,none⟩) hb).trans),h.c5.imp (fun _=>(k.cell (p:=⟨b,5,none⟩) hb).trans),h.c6.imp (fun _=>(k.cell (p:=⟨b,6,none⟩) hb).trans),h.c7.imp (fun _=>(k.cell (p:=⟨b,7,none⟩) hb).trans),fun o=>(k.frozen (p:=⟨b,o,none⟩) hb).trans (h.fz o)⟩
theorem a2p.belowN{n₀:Nat}{w w':World}(k:Below n₀ w w'):∀ {t:Avl.S}{p:Value}{F:List Nat},a2p w t p F->(∀ i∈F,i<n₀)->a2p w' t p F
 |.nil,p,F,hr,_=>hr
 |.node a l r,p,F,hr,hd=>by
  obtain⟨b,pl,pr,Fl,Fr,rfl,n,c4,c5,c6,c7,hl,hr,rfl,nd⟩:=hr;have hb:b<n₀:=hd b (by simp);exact⟨b,pl,pr,Fl,Fr,rfl,n.belowN k hb,(k.cell (p:=⟨b,4,none⟩) hb).trans c4,(k.cell (p:=⟨b,5,none⟩) hb).trans c5,(k.cell (p:=⟨b,6,none⟩) hb).trans c6,(k.cell (p:=⟨b,7,none⟩) hb).trans c7,a2p.belowN k hl (fun i hi=>hd i (by simp[hi])),a2p.belowN k hr (fun i hi=>hd i (by simp[hi])),rfl,nd⟩
theorem b8b(F:Fence)(hd:F.depth=none)(h6:F.fn 255)(hro:F.round=none)(l n₀ N:Nat)(a b:Int){Q:Avl.It->Prop}(J Jx:List {x:Avl.It // Q x}->World->Prop)
  (hY:∀ m pre x W,J pre W->pre.length<N->YieldAt F m Tryz.prog l #[.pointer (some ⟨x.1.v,0,none⟩)] W fun e W' =>
   (e=.returned (.bool true)/\J (pre++[x]) W'/\Below n₀ W W')\/(e=.returned (.bool false)/\Jx (pre++[x]) W')) (t:Avl.S):
  ∀ (n:Nat) (p:Option Addr) (G:List Nat) (pre ys:List {x:Avl.It // Q x}) (W:World),a2p W t (.pointer p) G->(∀ i∈G,i<n₀)->ys.map (·.1)=Avl.meet a b t->J pre W->pre.length+ys.length<=N ->
   CallsIn F n Tryz.prog 255 #[.pointer p,.int .i64 a,.int .i64 b,.func (.yield l) #[] #[]] W fun e W' =>
    (e=.returned (.bool true)/\J (pre++ys) W'/\Below n₀ W W')\/(e=.returned (.bool false)/\∃ q,q <+: ys/\Jx (pre++q) W'):=by
 induction t with
 |nil =>
  intro n p G pre ys W ht _ hys hJ _;obtain⟨hp,_⟩:=ht
  cases hp
  obtain rfl:ys=[]:=List.map_eq_nil_iff.1 (hys.trans rfl);refine callsIn_of_wp Tryz.func255 rfl h6 ?_ hro;simp only[Tryz.ntmps255,List.size_toArray,List.length_cons,List.length_nil,Nat.reduceAdd,Nat.reduceSub,Array.replicate_succ,Array.replicate_zero,List.push_toArray,List.append_toArray,List.nil_append,List.cons_append]
  gi_wp2
  go_ret;exact .inl ⟨rfl,by simpa using hJ,Below.refl _ _⟩
 |node x tl tr ihl ihr =>
  intro n p G pre ys W ht hG hys hJ hN;obtain⟨bk,pl,pr,Fl,Fr,rfl,rfl,hh,c4,_⟩:=ht.half;have hdd:∀ k:Nat,(F.depth.isSome=true->1<=k):=fun k h=>by rw[hd] at h;cases h
  have hb:bk<n₀:=hG bk (by simp);have hGl:∀ i∈Fl,i<n₀:=fun i hi=>hG i (by simp[hi])
  have hGr:∀ i∈Fr,i<n₀:=fun i hi=>hG i (by simp[hi])
  generalize hla:Avl.late (.node x tl tr)=la at c4
  by_cases q1:la<=a
  ·obtain rfl:ys=[]:=by
    have:Avl.meet a b (.node x tl tr)=[]:=by rw[Avl.meet,hla,if_pos q1]
    exact List.map_eq_nil_iff.1 (hys.trans this)
   refine callsIn_of_wp Tryz.func255 rfl h6 ?_ hro;simp only[Tryz.ntmps255,List.size_toArray,List.length_cons,List.length_nil,Nat.reduceAdd,Nat.reduceSub,Array.replicate_succ,Array.replicate_zero,List.push_toArray,List.append_toArray,List.nil_append,List.cons_append]
   gi_wp2
   go_ret;exact .inl ⟨rfl,by simpa using hJ,Below.refl _ _⟩
  ·have em:Avl.meet a b (.node x tl tr)=Avl.meet a b tl++if b<=x.f then [] else (if a<x.t then [x] else [])++Avl.meet a b tr:=by rw[Avl.meet,hla,if_neg q1]
   rw[em] at hys;obtain⟨y1,y2,rfl,hy1,hy2⟩:=List.map_eq_append_iff.1 hys;clear em hys;simp only[List.length_append] at hN;have c0:=hh.n.c0;have c1:=hh.n.c1;have c3:=hh.n.c3;have c6:=hh.c6;have c7:=hh.c7
   by_cases q2:b<=x.f
   ·rw[if_pos q2] at hy2;obtain rfl:y2=[]:=List.map_eq_nil_iff.1 hy2
    have ih1:=(ihl (n-1) pl Fl pre y1 W hh.l hGl hy1 hJ (by simpa using hN)).mono (R':=fun e W1 =>
      (e=.returned (.bool true)/\J (pre++y1) W1/\Below n₀ W W1/\W1.cell? ⟨bk,0,none⟩=some (.int .i64 x.f))\/(e=.returned (.bool false)/\∃ q,q <+: y1/\Jx (pre++q) W1))
     (fun e W1 h=>h.elim (fun ⟨he,hj,hb1⟩=>.inl ⟨he,hj,hb1,(hb1.cell (p:=⟨bk,0,none⟩) hb).trans c0⟩) .inr)
    clear ihl ihr hh ht;refine callsIn_of_wp Tryz.func255 rfl h6 ?_ hro;simp only[Tryz.ntmps255,List.size_toArray,List.length_cons,List.length_nil,Nat.reduceAdd,Nat.reduceSub,Array.replicate_succ,Array.replicate_zero,List.push_toArray,List.append_toArray,List.nil_append,List.cons_append]
    gi_wp2_with (first
     |((try refine⟨hdd _,?_⟩);gi_at_call 255;refine ih1.mono ?_;clear ih1;rintro e W1 (⟨rfl,hJ1,hb1,c0'⟩|⟨rfl,q,hq,hx1⟩)))
    ·go_ret;exact .inl ⟨rfl,by simpa using hJ1,hb1⟩
    ·go_ret;exact .inr ⟨rfl,q,by simpa using hq,hx1⟩
   ·rw[if_neg q2] at hy2;have q2':x.f<b:=by omega
    obtain⟨y3,y4,rfl,hy3,hy4⟩:=List.map_eq_append_iff.1 hy2;clear hy2;simp only[List.length_append] at hN
    by_cases q3:a<x.t
    ·rw[if_pos q3] at hy3
     obtain⟨x',rfl,hx'⟩:∃ x':{x:Avl.It // Q x},y3=[x']/\x'.1=x:=by
      rcases y3 with _|⟨x',_|⟨z,r⟩⟩
      ·simp at hy3
      ·exact⟨x',rfl,by simpa using hy3⟩
      ·simp at hy3
     subst hx';simp only[List.length_cons,List.length_nil] at hN
     have hy2:∀ W1,J (pre++y1) W1->Below n₀ W W1->YieldAt F (n-1) Tryz.prog l #[.pointer (some ⟨x'.1.v,0,none⟩)] W1 fun e W2 =>
       (e=.returned (.bool true)/\J (pre++y1++[x']) W2/\Below n₀ W W2/\W2.cell? ⟨bk,7,none⟩=some (.pointer pr)/\a2p W2 tr (.pointer pr) Fr)\/(e=.returned (.bool false)/\Jx (pre++y1++[x']) W2):=fun W1 hJ1 hb1 =>
      YieldAt.mono (hY (n-1) _ x' W1 hJ1 (by simp;omega)) fun e W2 h=>h.elim
       (fun ⟨he,hj,hb2⟩=>.inl ⟨he,hj,hb1.trans hb2,((hb1.trans hb2).cell (p:=⟨bk,7,none⟩) hb).trans c7,hh.r.belowN (hb1.trans hb2) hGr⟩) .inr
     have ih1:=(ihl (n-1) pl Fl pre y1 W hh.l hGl hy1 hJ (by omega)).mono (R':=fun e W1 =>
       (e=.returned (.bool true)/\W1.cell? ⟨bk,0,none⟩=some (.int .i64 x'.1.f)/\W1.cell? ⟨bk,1,none⟩=some (.int .i64 x'.1.t)/\W1.cell? ⟨bk,3,none⟩=some (.pointer (some ⟨x'.1.v,0,none⟩))/\YieldAt F (n-1) Tryz.prog l #[.pointer (some ⟨x'.1.v,0,none⟩)] W1 fun e W2 =>
        (e=.returned (.bool true)/\J (pre++y1++[x']) W2/\Below n₀ W W2/\W2.cell? ⟨bk,7,none⟩=some (.pointer pr)/\a2p W2 tr (.pointer pr) Fr)\/(e=.returned (.bool false)/\Jx (pre++y1++[x']) W2)) \/
       (e=.returned (.bool false)/\∃ q,q <+: y1/\Jx (pre++q) W1))
      (fun e W1 h=>h.elim (fun ⟨he,hj,hb1⟩=>.inl ⟨he,(hb1.cell (p:=⟨bk,0,none⟩) hb).trans c0,(hb1.cell (p:=⟨bk,1,none⟩) hb).trans c1,(hb1.cell (p:=⟨bk,3,none⟩) hb).trans c3,hy2 W1 hj hb1⟩) .inr)
     clear hy2 ihl hh ht;refine callsIn_of_wp Tryz.func255 rfl h6 ?_ hro;simp only[Tryz.ntmps255,List.size_toArray,List.length_cons,List.length_nil,Nat.reduceAdd,Nat.reduceSub,Array.replicate_succ,Array.replicate_zero,List.push_toArray,List.append_toArray,List.nil_append,List.cons_append]
     gi_wp2_with (first
      |((try refine⟨hdd _,?_⟩);gi_at_call 255;refine ih1.mono ?_;clear ih1;rintro e W1 (⟨rfl,c0',c1',c3',fn,tmps,assign,body,hy,hR⟩|⟨rfl,q,hq,hx1⟩))
      |((try refine⟨hdd _,?_⟩);refine hR.mono ?_;clear hR;rintro e W2 (⟨rfl,hJ2,hb2,c7',hr2⟩|⟨rfl,hx2⟩))
      |((try refine⟨hdd _,?_⟩);gi_at_call 255;refine (ihr (n-1) pr Fr _ y4 _ hr2 hGr hy4 hJ2 (by simp;omega)).mono ?_;rintro e W3 (⟨rfl,hJ3,hb3⟩|⟨rfl,q,hq,hx3⟩)))
     ·go_ret;exact .inl ⟨rfl,by simpa[List.append_assoc] using hJ3,hb2.trans hb3⟩
     ·go_ret;obtain⟨r,hr'⟩:=hq;exact .inr ⟨rfl,y1++x' :: q,⟨r,by simp[<- hr']⟩,by simpa[List.append_assoc] using hx3⟩
     ·go_ret;exact .inr ⟨rfl,y1++[x'],⟨y4,by simp⟩,by simpa[List.append_assoc] using hx2⟩
     ·go_ret;exact .inr ⟨rfl,q,hq.trans ⟨_,rfl⟩,hx1⟩
    ·rw[if_neg q3] at hy3;obtain rfl:y3=[]:=List.map_eq_nil_iff.1 hy3;have q3':x.t<=a:=by omega
     simp only[List.length_nil] at hN
     have ih1:=(ihl (n-1) pl Fl pre y1 W hh.l hGl hy1 hJ (by omega)).mono (R':=fun e W1 =>
       (e=.returned (.bool true)/\W1.cell? ⟨bk,0,none⟩=some (.int .i64 x.f)/\W1.cell? ⟨bk,1,none⟩=some (.int .i64 x.t)/\W1.cell? ⟨bk,7,none⟩=some (.pointer pr)/\a2p W1 tr (.pointer pr) Fr/\J (pre++y1) W1/\Below n₀ W W1) \/
       (e=.returned (.bool false)/\∃ q,q <+: y1/\Jx (pre++q) W1))
      (fun e W1 h=>h.elim (fun ⟨he,hj,hb1⟩=>.inl ⟨he,(hb1.cell (p:=⟨bk,0,none⟩) hb).trans c0,(hb1.cell (p:=⟨bk,1,none⟩) hb).trans c1,(hb1.cell (p:=⟨bk,7,none⟩) hb).trans c7,hh.r.belowN hb1 hGr,hj,hb1⟩) .inr)
     clear ihl hh ht;refine callsIn_of_wp Tryz.func255 rfl h6 ?_ hro;simp only[Tryz.ntmps255,List.size_toArray,List.length_cons,List.length_nil,Nat.reduceAdd,Nat.reduceSub,Array.replicate_succ,Array.replicate_zero,List.push_toArray,List.append_toArray,List.nil_append,List.cons_append]
     gi_wp2_with (first
      |((try refine⟨hdd _,?_⟩);gi_at_call 255;refine ih1.mono ?_;clear ih1;rintro e W1 (⟨rfl,c0',c1',c7',hr2,hJ2,hb2⟩|⟨rfl,q,hq,hx1⟩))
      |((try refine⟨hdd _,?_⟩);gi_at_call 255;refine (ihr (n-1) pr Fr _ y4 _ hr2 hGr hy4 hJ2 (by simp;omega)).mono ?_;rintro e W3 (⟨rfl,hJ3,hb3⟩|⟨rfl,q,hq,hx3⟩)))
     ·refine⟨fun _ h=>(by cases h),?_⟩
      gi_wp2_with (first
       |((try refine⟨hdd _,?_⟩);gi_at_call 255;refine (ihr (n-1) pr Fr _ y4 _ hr2 hGr hy4 hJ2 (by simp;omega)).mono ?_;rintro e W3 (⟨rfl,hJ3,hb3⟩|⟨rfl,q,hq,hx3⟩)))
      ·go_ret;exact .inl ⟨rfl,by simpa[List.append_assoc] using hJ3,hb2.trans hb3⟩
      ·go_ret;obtain⟨r,hr'⟩:=hq;exact .inr ⟨rfl,y1++q,⟨r,by simp[<- hr']⟩,by simpa[List.append_assoc] using hx3⟩
     ·go_ret;exact .inr ⟨rfl,q,hq.trans ⟨_,rfl⟩,hx1⟩
theorem b3x(W:World):W.grownBy W.drew none:=⟨rfl,rfl,rfl,Nat.le_refl _,fun _ _ _=>rfl⟩
theorem b4b(l B1 B2 B3 n₀:Nat)(tb o:Nat)(p0:Option Addr)(a b:Int)(t:Avl.S)(G:List Nat){Q:Avl.It->Prop}(xs:List {x:Avl.It // Q x})(hxs:xs.map (·.1)=Avl.meet a b t)(J Jx:List {x:Avl.It // Q x}->World->Prop)
  (hY:∀ m pre x W,J pre W->pre.length<xs.length->YieldAt Fence.wide m Tryz.prog l #[.pointer (some ⟨x.1.v,0,none⟩)] W fun e W' =>
   (e=.returned (.bool true)/\J (pre++[x]) W'/\Below n₀ W W')\/(e=.returned (.bool false)/\Jx (pre++[x]) W'))
  (hJd:∀ pre W,J pre W->J pre W.drew)
  (W:World) (hB1:W.cell? ⟨B1,0,none⟩=some (.pointer (some ⟨tb,o,none⟩))) (hB2:W.cell? ⟨B2,0,none⟩=some (.int .i64 a)) (hB3:W.cell? ⟨B3,0,none⟩=some (.int .i64 b)) (hc:W.cell? ⟨tb,o,none⟩=some (.pointer p0)) (hT:a2p W t (.pointer p0) G) (hG:∀ i∈G,i<n₀) (h0:J [] W):
  Calls Tryz.prog 254 #[.func (.yield l) #[] #[],.pointer (some ⟨B1,0,none⟩),.pointer (some ⟨B2,0,none⟩),.pointer (some ⟨B3,0,none⟩)] W fun e W'=>(∃ v,e=.returned v) /\
   ((∃ ys,ys=xs/\J ys W')\/(∃ pre,pre <+: xs/\Jx pre W')):=by
 have hp:=callsIn_wide.1 (b8b Fence.wide rfl trivial rfl l n₀ xs.length a b J Jx hY t 0 p0 G [] xs W.drew (hT.same (Off.refl _ _).drew) hG hxs (hJd _ _ h0) (by simp))
 have hp2:=a0b (hp.mono (R':=fun e W'=>(∃ bv,e=.returned (.bool bv))/\((∃ ys,ys=xs/\J ys W')\/(∃ pre,pre <+: xs/\Jx pre W')))
  (fun e W' h=>h.elim (fun ⟨he,hj,_⟩=>⟨⟨_,he⟩,.inl ⟨_,rfl,by simpa using hj⟩⟩) (fun ⟨he,q,hq,hx⟩=>⟨⟨_,he⟩,.inr ⟨q,hq,by simpa using hx⟩⟩)))
 clear hp hY hJd h0 hxs hT hG
 go_enter Tryz.func254,Tryz.ntmps254
 go_upto_region 0 with fail
 go_region_with (first
  |(go_at_call 255;refine hp2.out.mono ?_;rintro e W1 ⟨⟨bv,rfl⟩,hfin⟩))
 all_goals
  go_wp2_with fail
  go_end0
  exact⟨⟨_,rfl⟩,hfin⟩
open Desk (Ent St Ids kept a0C a0Q a1C a2e ofB a0y a2c Mid a1H a0z Inv uniq a5s a6u)
def QI(r:Raw)(x:Avl.It):Prop:=∃ g∈r.eg,x.v=g.eb/\x.n=g.e.id
theorem b8d(ho:Of s r)(hn:(r.eg.map (·.e.id)).Nodup)(hi:i<r.tg.length){a b:Int}{z:Avl.It}(hz:z∈Avl.meet a b r.tg[i].T):QI r z:=by
 obtain⟨_,h1,h2⟩:=ho.th i hi;rw[Avl.b1J a b _ h1] at hz;obtain⟨e,he,_,sp,_,rfl⟩:=(h2 z).1 (List.mem_filter.1 hz).1;obtain⟨g,hg,rfl⟩:=ho.get he;exact⟨g,hg,b2j hn hg,rfl⟩
def c1U(r:Raw):(l:List Avl.It)->(∀ z∈l,QI r z)->List {x:Avl.It // QI r x}
 |[],_=>[]
 |z :: l,h=>⟨z,h z (by simp)⟩ :: c1U r l (fun y hy=>h y (by simp[hy]))
theorem b2v(r:Raw):∀ (l:List Avl.It)(h:∀ z∈l,QI r z),(c1U r l h).map (·.1)=l
 |[],_=>rfl
 |z :: l,h=>by simp[c1U,b2v r l]
structure a4M(s:St)(M:List Avl.It)(l:List (Ent × Value)):Prop where
 len:l.length=(uniq M).length
 at_:∀ (i:Nat) (h:i<l.length),l[i].1∈s.es/\l[i].1.id=((uniq M)[i]'(by omega)).n
 nd:(l.map (·.1.id)).Nodup
theorem a4M.nil(s:St):a4M s [] []:=⟨rfl,fun i h=>by simp at h,by simp⟩
theorem a4M.any{M:List Avl.It}(h:a4M s M l)(n:Int):l.any (fun p=>p.1.id==n)=(uniq M).any (fun u=>decide (u.n=n)):=by
 rw[Bool.eq_iff_iff,List.any_eq_true,List.any_eq_true];constructor
 ·rintro ⟨p,hp,e⟩;obtain⟨i,hi,rfl⟩:=List.getElem_of_mem hp;have:=h.at_ i hi;exact⟨_,List.getElem_mem (by have:=h.len;omega:i<(uniq M).length),by simpa[<- this.2] using e⟩
 ·rintro ⟨u,hu,e⟩;obtain⟨i,hi,rfl⟩:=List.getElem_of_mem hu;have hl:i<l.length:=by rw[h.len];exact hi
  have:=h.at_ i hl;exact⟨_,List.getElem_mem hl,by rw[this.2];simpa using e⟩
theorem a4M.old{M:List Avl.It}(h:a4M s M l){z:Avl.It}(ha:l.any (fun p=>p.1.id==z.n)=true):a4M s (M++[z]) l:=by
 have e:uniq (M++[z])=uniq M:=by rw[a6u];unfold a5s;rw[<- h.any z.n,ha];rfl
 exact⟨by rw[e];exact h.len,fun i hi=>by have:=h.at_ i hi;simp only[e];exact this,h.nd⟩
theorem a4M.new_at{M:List Avl.It}(h:a4M s M l){z:Avl.It}(eu:uniq (M++[z])=uniq M++[z])(he:e∈s.es)(hn:e.id=z.n)(hi:i<(l++[(e,sp)]).length):(l++[(e,sp)])[i].1∈s.es/\(l++[(e,sp)])[i].1.id=((uniq (M++[z]))[i]'(by rw[eu];have:=h.len;simp at hi ⊢;omega)).n:=by
 have hlen:=h.len;simp only[eu];rw[List.length_append] at hi
 by_cases hlt:i<l.length
 ·rw[List.getElem_append_left hlt,List.getElem_append_left (by omega)];exact h.at_ i hlt
 ·have hie:i=l.length:=by simp at hi;omega
  subst hie;rw[List.getElem_append_right (zq _),List.getElem_append_right (by omega)];simp[hlen,he,hn]
theorem a4M.new{M:List Avl.It}(h:a4M s M l){z:Avl.It}(ha:l.any (fun p=>p.1.id==z.n)=false)(he:e∈s.es)(hn:e.id=z.n)(sp:Value):a4M s (M++[z]) (l++[(e,sp)]):=by
 have eu:uniq (M++[z])=uniq M++[z]:=by rw[a6u];unfold a5s;rw[<- h.any z.n,ha];rfl
 have hlen:=h.len;refine⟨by rw[eu];simp[hlen],fun i hi=>?_,?_⟩
 ·exact a4M.new_at h eu he hn hi
 ·rw[List.map_append,List.nodup_append];refine⟨h.nd,by simp,fun x hx y hy=>?_⟩;obtain⟨p,hp,rfl⟩:=List.mem_map.1 hx;have:y=e.id:=by simpa using hy
  subst this;intro c;have:=List.any_eq_false.1 ha p hp;simp[c,hn] at this
theorem b6D:∀ {l m:List Int},l.Nodup->(∀ x∈l,x∈m)->l.length<=m.length
 |[],_,_,_=>zN _
 |a :: l,m,hn,h=>by
  rw[List.nodup_cons] at hn;have ha:=h a (by simp);have:=b6D (l:=l) (m:=m.erase a) hn.2 (fun x hx=>(List.mem_erase_of_ne (show x≠a from fun e=>hn.1 (by rw[<- e];exact hx))).2 (h x (by simp[hx])));rw[List.length_erase_of_mem ha] at this;have:=List.length_pos_of_mem ha;simp;omega
theorem a4M.small{M:List Avl.It}(h:a4M s M l):l.length<=s.es.length:=by
 have:=b6D (m:=s.es.map (·.id)) h.nd (fun x hx=>by
  obtain⟨p,hp,rfl⟩:=List.mem_map.1 hx;obtain⟨i,hi,rfl⟩:=List.getElem_of_mem hp
  exact List.mem_map.2 ⟨_,(h.at_ i hi).1,rfl⟩)
 simpa using this
theorem b4O{e size:Nat}(h:w.ownsRow B e size v n xs)(hb:v.ownBlock=some b):∃ cs k,w.heap[b]?=some (.cells cs e k):=by
 rcases h.2 with ⟨rfl,_⟩|⟨g,cap,cur,rfl,_,hgb,_⟩
 ·cases hb
 ·obtain rfl:g=b:=by simpa[Value.ownBlock] using hb
  exact⟨_,_,hgb⟩
theorem a3j.snocT(h:a3j wx B col v l)(ho:w2.ownsRow wx.heap.size 60 2 sp e.a0e.length (e.a0e.flatMap spV))(k:Below wx.heap.size wx w2)(hB:B<=wx.heap.size)(hc:∀ b,B<=b->col b=none)(k3:Off v.ownBlock.toList w2 w3)(hown:w3.ownsRow B 58 6 v' (l.length+1) (l.flatMap a1f++a1f (e,sp))):
  a3j w3 B col v' (l++[(e,sp)]):=by
 have hvb:∀ b,v.ownBlock=some b->b<wx.heap.size:=fun b hb=>(h.own.lt b hb).2
 have o1:∀ p∈l,w3.ownsRow B 60 2 p.2 p.1.a0e.length (p.1.a0e.flatMap spV):=fun p hp=>a1i (a1g (h.sp p hp).1.own k) k3 (fun b hb hx=>(h.sp p hp).2 b hb (Option.mem_toList.1 hx))
 have o2:w3.ownsRow B 60 2 sp e.a0e.length (e.a0e.flatMap spV):=a1i (Joins.ownsRow_le ho hB) k3 (fun b hb hx=>by have h1:=(ho.lt b hb).1;have h2:=hvb b (Option.mem_toList.1 hx);omega)
 have ne:∀ {q:Value}{n:Nat}{xs:List Value},w3.ownsRow B 60 2 q n xs->∀ b,q.ownBlock=some b->v'.ownBlock≠some b:=fun hq b hb hx=>by
  obtain⟨c1,k1,e1⟩:=b4O hq hb;obtain⟨c2,k2,e2⟩:=b4O hown hx;have:=e1.symm.trans e2;simp at this
 refine⟨?_,fun b hb=>hc b (hown.lt b hb).1,fun p hp=>?_,?_⟩
 ·rw[List.length_append,List.flatMap_append];have:[(e,sp)].flatMap a1f=a1f (e,sp):=by simp
  rw[this];exact hown
 ·rcases List.mem_append.1 hp with hp|hp
  ·exact⟨⟨o1 p hp,(h.sp p hp).1.no⟩,ne (o1 p hp)⟩
  ·have:p=(e,sp):=List.mem_singleton.1 hp;subst this;exact⟨⟨o2,fun b hb=>hc b (o2.lt b hb).1⟩,ne o2⟩
 ·refine List.pairwise_append.2 ⟨h.pw,List.pairwise_singleton _ _,fun p hp q hq b hb hx=>?_⟩;rw[List.mem_singleton.1 hq] at hx;have h1:=(ho.lt b hx).1;have h2:=((h.sp p hp).1.own.lt b hb).2;omega
theorem b5L(p:Option Addr)(a b:Int)(w:World):
  Calls Tryz.prog 207 #[.pointer p,.int .i64 a,.int .i64 b] w fun e w'=>e=.returned (.func (.func 254) #[] #[.pointer (some ⟨w.heap.size,0,none⟩),.pointer (some ⟨w.heap.size+1,0,none⟩),.pointer (some ⟨w.heap.size+2,0,none⟩)])/\w'=((w.alloc (.cells #[.pointer p] 301)).alloc (.cells #[.int .i64 a] 3)).alloc (.cells #[.int .i64 b] 3):=by
 go_enter Tryz.func207,Tryz.ntmps207
 go_wp2_with fail
 go_ret;exact⟨rfl,rfl⟩
theorem b8c(n:Nat)(r:Raw)(B1 B2 B3 n₀ tb o:Nat)(p0:Option Addr)(a b:Int)(t:Avl.S)(G:List Nat)(xs:List {x:Avl.It // QI r x})(hxs:xs.map (·.1)=Avl.meet a b t)(w:World)(h1:w.cell? ⟨B1,0,none⟩=some (.pointer (some ⟨tb,o,none⟩)))(h2:w.cell? ⟨B2,0,none⟩=some (.int .i64 a))(h3:w.cell? ⟨B3,0,none⟩=some (.int .i64 b))(hc:w.cell? ⟨tb,o,none⟩=some (.pointer p0))(hT:a2p w t (.pointer p0) G)(hG:∀ i∈G,i<n₀)(hn:n₀<=w.heap.size):
  SeqStopsK Fence.wide n Tryz.prog 254 #[.pointer (some ⟨B1,0,none⟩),.pointer (some ⟨B2,0,none⟩),.pointer (some ⟨B3,0,none⟩)] (fun x:{x:Avl.It // QI r x}=>#[Value.pointer (some ⟨x.1.v,0,none⟩)]) (Below n₀) (fun ys=>ys=xs) (fun pre=>pre <+: xs) xs.length w:=by
 intro l J Jx W hW hJ _ hY h0;refine callsIn_wide.2 ?_;exact b4b l B1 B2 B3 n₀ tb o p0 a b t G xs hxs J Jx (fun m pre x W' hp hl=>YieldAt.anyDepth rfl m (hY pre x W' hp hl)) (fun pre W' hp=>hJ pre W' _ none hp (b3x W') (fun r e=>by cases e)) W (a0a hW h1) (a0a hW h2) (a0a hW h3) (a0a hW hc) (hT.belowN (hW.mono hn) hG) hG h0
open Desk (Ent St Ids kept a0C a0Q a1C a2e ofB a0y a2c Mid a1H a0z Inv uniq)
attribute [local go_sem] Oper.semAt_some
structure LI(w W:World)(s:St)(col:Nat->Option Col)(M:List Avl.It):Prop where
 bx:∃ v l,Boxed W (w.heap.size+1) 34 v/\a3j W (w.heap.size+5) col v l/\a4M s M l
 bl:Below w.heap.size w W
 sz:w.heap.size+5<=W.heap.size
theorem b6k{row:Option Nat}{e size:Nat}(h:W.ownsRow B e size v n xs)(hg:W.grownBy W' row)(hr:∀ r,row=some r->∃ o:Obj,W.heap[r]?=some o/\o.isCells=false):W'.ownsRow B e size v n xs:=by
 refine h.kept hg ?_;rcases h.2 with ⟨rfl,_⟩|⟨g,cap,cur,rfl,_,hgb,_⟩
 ·exact .inl rfl
 ·refine .inr fun e'=>?_
  obtain⟨o,ho,hc⟩:=hr g (by simpa[Value.ownBlock] using e'.symm);rw[hgb] at ho;cases ho;cases hc
theorem c6j(w:World)(s:St)(r:Raw)(col:Nat->Option Col)(hB:w.heap.size<=B):OwnFrom B (fun (pre:List {x:Avl.It // QI r x}) W=>LI w W s col (pre.map (·.1))):=by
 intro pre W W' row h hg hrow;have hr:∀ r,row=some r->∃ o:Obj,W.heap[r]?=some o/\o.isCells=false:=fun r e=>(hrow r e).2
 obtain⟨v,l,hv,er,tl⟩:=h.bx;exact⟨⟨v,l,a6Z hv hg hr,⟨b6k er.own hg hr,er.no,fun p hp=>⟨⟨b6k (er.sp p hp).1.own hg hr,(er.sp p hp).1.no⟩,(er.sp p hp).2⟩,er.pw⟩,tl⟩,h.bl.grown hg h.bl.size (fun k e=>Nat.le_trans hB (hrow k e).1),Nat.le_trans h.sz hg.size⟩
theorem b8k(h:Below W.heap.size W W'):KeepsFrom B W W':=⟨h.size,fun k _ _ hk _=>(h.block k (Array.getElem?_eq_some_iff.1 hk).1).trans hk⟩
theorem b7J(X:World)(p x y:Value)(t1 t2 t3:TypeId):Below X.heap.size X (((X.alloc (.cells #[p] t1)).alloc (.cells #[x] t2)).alloc (.cells #[y] t3)).drew/\(((X.alloc (.cells #[p] t1)).alloc (.cells #[x] t2)).alloc (.cells #[y] t3)).drew.cell? ⟨X.heap.size,0,none⟩=some p/\(((X.alloc (.cells #[p] t1)).alloc (.cells #[x] t2)).alloc (.cells #[y] t3)).drew.cell? ⟨X.heap.size+1,0,none⟩=some x/\(((X.alloc (.cells #[p] t1)).alloc (.cells #[x] t2)).alloc (.cells #[y] t3)).drew.cell? ⟨X.heap.size+2,0,none⟩=some y/\(((X.alloc (.cells #[p] t1)).alloc (.cells #[x] t2)).alloc (.cells #[y] t3)).drew.heap.size=X.heap.size+3:=by
 have b1:=Boxed.new X t1 p;have b2:=Boxed.new (X.alloc (.cells #[p] t1)) t2 x;have b3:=Boxed.new ((X.alloc (.cells #[p] t1)).alloc (.cells #[x] t2)) t3 y;simp only[World.size_alloc] at b2 b3;exact⟨((((zr _ X).alloc (zq _) _).alloc (by simp) _).alloc (by simp;omega) _).drew,((b1.alloc _).alloc _).cell,(b2.alloc _).cell,b3.cell,by rw[heap_drew];simp⟩
theorem a1Z{F:Fence}{P:Program}(w:World){ops:Array Oper}{o:Oper}{a:Act}{K:Act->World->Prop}{Q:Exit->Act->World->Prop}{E:Prop}
  (hg:o.guard=none) (s x:Operand) (t:TypeId) (hop:o.op=Op.call { callee:=Callee.builtin Builtin.append,args:=#[s,x],argTypes:=#[t,t] })
  (base:Nat) (e:TypeId) (i:TypeInfo) (z:Value) (size bytes:Nat) (h1:P.underlying t=some (.slice e)) (h2:P.info? e=some i) (h3:i.zero=some z) (h4:i.size=size) (h5:i.bytes=bytes) (h6:z.cells.size=size) (h7:0<size)
  (v:Value) (k:Nat) (xs:List Value) (hs:a.eval s=v) (hown:w.ownsRow base e size v k xs) (ad:Addr) (m c:Nat) (news:List Value) (hx:a.eval x=.slice (some ad) m c) (hn:news.length=m*size)
  (hc:∀ j u,news[j]?=some u->w.cell? (ad.add j)=some u) (h1c:∀ u∈news,u.oneCell'=true) (b1:k+m<=maxLen) (b2:(k+m)*bytes<=140737488355328) (b3:base<=w.heap.size)
  (hK:∀ v' w',w'.ownsRow base e size v' (k+m) (xs++news)->w.grownBy w' v.ownBlock->K (a.put o.dst v') w'):
  if Region.wanted o (yielded ops a.tmps)=true then Oper.wpIn F n P o a w K Q else E:=by
 have hw:Region.wanted o (yielded ops a.tmps)=true:=by simp[Region.wanted,hg]
 rw[if_pos hw];obtain⟨v',w',hrun,r1,r2,r3⟩:=run_append_own (P:=P) w base t o.type e i z size bytes h1 h2 h3 h4 h5 h6 h7 v k xs hown ad m c news hn hc h1c b1 b2 b3;unfold Oper.wpIn;refine⟨?_,?_⟩
 ·simp[Oper.about,hop,resolve,Target.leads,Sem.run_pure]
 ·rw[Oper.semAt_plain F _ _ (by rw[hop];intro c hc';cases hc')];simp[execOp,hop,resolve,invoke,builtin,hs,hx,hrun,Result.andThen];exact hK v' w' r1 r2
theorem a6Y(h:W.cell? ⟨b,i,none⟩=some v)(o:Obj):(W.alloc o).cell? ⟨b,i,none⟩=some v:=(zo (w:=W) (Below.heap_alloc _ o _ (World.block_lt_of_cell? _ _ h))).trans h
theorem b6K{M:List Avl.It}(h:LI w W s col M)(hv:Boxed W (w.heap.size+1) 34 (.slice a1 tl.length c1))(er:a3j W (w.heap.size+5) col (.slice a1 tl.length c1) tl)(hb1:Below W.heap.size W w1)(hb2:Below w1.drew.heap.size w1.drew w2)(o:Obj)
  (hgrow:(w2.alloc o).grownBy w3 (Value.slice a1 tl.length c1).ownBlock):Boxed w3 (w.heap.size+1) 34 (.slice a1 tl.length c1):=by
 have sz:=h.sz;have k1:Below W.heap.size W w1.drew:=hb1.drew;have k12:Below W.heap.size W w2:=k1.trans (hb2.mono k1.size);have h2:Boxed w2 (w.heap.size+1) 34 (.slice a1 tl.length c1):=(k12.block _ (by omega)).trans hv;exact (h2.alloc o).kept hgrow (fun e=>by have:=(er.own.lt _ e.symm).1;omega)
theorem b6J{M:List Avl.It}(h:LI w W s col M)(hv:Boxed W (w.heap.size+1) 34 (.slice a1 tl.length c1))(er:a3j W (w.heap.size+5) col (.slice a1 tl.length c1) tl)(tld:a4M s M tl)(hb1:Below W.heap.size W w1)(ho:w2.ownsRow w1.drew.heap.size 60 2 sp e.a0e.length (e.a0e.flatMap spV))(hb2:Below w1.drew.heap.size w1.drew w2)(o:Obj)
  (hgrow:(w2.alloc o).grownBy w3 (Value.slice a1 tl.length c1).ownBlock) (hown:w3.ownsRow (w.heap.size+5) 58 6 v' (tl.length+1) (tl.flatMap a1f++a1f (e,sp))) (hc:∀ b,w.heap.size<=b->col b=none) {z:Avl.It}(ha:tl.any (fun p=>p.1.id==z.n)=false) (he:e∈s.es) (hn:e.id=z.n):
  KeepsFrom B W (w3.setCell ⟨w.heap.size+1,0,none⟩ v')/\Below w.heap.size W (w3.setCell ⟨w.heap.size+1,0,none⟩ v')/\LI w (w3.setCell ⟨w.heap.size+1,0,none⟩ v') s col (M++[z]):=by
 have sz:=h.sz;have k1:Below W.heap.size W w1.drew:=hb1.drew;have k12:Below W.heap.size W w2:=k1.trans (hb2.mono k1.size);have ko:Off (Value.slice a1 tl.length c1).ownBlock.toList w2 w3:=Off.grown ((Off.refl _ w2).alloc _) hgrow (fun k hk=>.inl (Option.mem_toList.2 hk));have E3:=er.snocT (Joins.ownsRow_le ho k1.size) k12 sz (fun b hb=>hc b (by omega)) ko hown;have own5:∀ b,(Value.slice a1 tl.length c1).ownBlock=some b->w.heap.size+5<=b:=fun b hb=>(er.own.lt b hb).1
 have ks:=Off.set0 (w.heap.size+1) w3 0 v'
 have bk:∀ b,b<W.heap.size->b≠w.heap.size+1->(Value.slice a1 tl.length c1).ownBlock≠some b->(w3.setCell ⟨w.heap.size+1,0,none⟩ v').heap[b]?=W.heap[b]?:=fun b hb h1 h2=>by
  rw[ks.block b (zL (zL hb k12.size) ko.size) (fun hx=>h1 (List.mem_singleton.1 hx)),ko.block b (zL hb k12.size) (fun hx=>h2 (Option.mem_toList.1 hx)),k12.block b hb]
 have hv3:Boxed w3 (w.heap.size+1) 34 (.slice a1 tl.length c1):=(ko.block _ (by have:=k12.size;omega) (fun hx=>by have:=own5 _ (Option.mem_toList.1 hx);omega)).trans ((k12.block _ (by omega)).trans hv);have hsz:W.heap.size<=(w3.setCell ⟨w.heap.size+1,0,none⟩ v').heap.size:=Nat.le_trans k12.size (Nat.le_trans ko.size ks.size);have hbl:Below w.heap.size W (w3.setCell ⟨w.heap.size+1,0,none⟩ v'):=⟨ks.os.trans (ko.os.trans k12.os),ks.tape.trans (ko.tape.trans k12.tape),ks.output.trans (ko.output.trans k12.output),hsz,fun b hb=>bk b (by omega) (by omega) (fun hx=>by have:=own5 _ hx;omega)⟩;refine⟨⟨hsz,fun k o' _ hk hcl=>(bk k (Array.getElem?_eq_some_iff.1 hk).1 (fun e1=>?_) (fun e1=>?_)).trans hk⟩,hbl,⟨⟨v',tl++[(e,sp)],hv3.set v',E3.off ks (fun x hx=>by have:=List.mem_singleton.1 hx;omega),tld.new ha he hn sp⟩,h.bl.trans hbl,Nat.le_trans sz hsz⟩⟩
 ·subst e1;rw[show W.heap[w.heap.size+1]?=_ from hv] at hk
  cases hk;cases hcl
 ·obtain⟨cs,q,e2⟩:=b4O er.own e1;rw[e2] at hk
  cases hk;cases hcl
def c6f(Q:Exit->Act->World->Prop):Exit->Act->World->Prop
 |.panic _,_,_=>False
 |.normal,a,w=>Q .normal a w
 |.ret,a,w=>Q .ret a w
 |.exit i,a,w=>Q (.exit i) a w
 |.goto t,a,w=>Q (.goto t) a w
 |.outgrown,a,w=>Q .outgrown a w
theorem c2H{Q:Exit->Act->World->Prop}:∀ e a w,c6f Q e a w->Q e a w
 |.panic _,_,_,h=>h.elim
 |.normal,_,_,h=>h
 |.ret,_,_,h=>h
 |.exit _,_,_,h=>h
 |.goto _,_,_,h=>h
 |.outgrown,_,_,h=>h
theorem c0k{Q:Exit->Act->World->Prop}{a:Act}(h:Q .ret a w):c6f Q .ret a w:=h
theorem b2y(h:DSt w d s r col)(hi:i<r.tg.length)(a b:Int):
  Calls Tryz.prog 151 #[.pointer (some ⟨r.tg[i].tb,0,none⟩),.agg #[.int .i64 a,.int .i64 b]] w fun e w'=>∃ v l,e=.returned v/\l.map (·.1)=Desk.a2x r.tg[i].name a b s.es/\a3j w' w.heap.size col v l/\Below w.heap.size w w':=by
 obtain⟨i0,hi0,hz0,hz1,hz2⟩:=info_parts b6R;obtain⟨ul,us,Fl,Fs,th,hcol⟩:=h.dk.th i hi;have HH:=a0b h;have tlt:r.tg[i].tb<w.heap.size:=World.block_lt_of_cell? _ _ th.c0;have xa:((w.alloc (.cells #[.int .i64 a,.int .i64 b] 60)).alloc (.cells #[.slice none 0 0] 34)).cell? ⟨w.heap.size,0,none⟩=some (.int .i64 a):=by simp
 have xb:((w.alloc (.cells #[.int .i64 a,.int .i64 b] 60)).alloc (.cells #[.slice none 0 0] 34)).cell? ⟨w.heap.size,1,none⟩=some (.int .i64 b):=by simp
 have bt:=Boxed.new (w.alloc (.cells #[.int .i64 a,.int .i64 b] 60)) 34 (.slice none 0 0);have hX:Below w.heap.size w ((w.alloc (.cells #[.int .i64 a,.int .i64 b] 60)).alloc (.cells #[.slice none 0 0] 34)):=((zr _ _).alloc (zq _) _).alloc (by simp) _;have hXs:((w.alloc (.cells #[.int .i64 a,.int .i64 b] 60)).alloc (.cells #[.slice none 0 0] 34)).heap.size=w.heap.size+2:=by simp
 rw[World.size_alloc] at bt;have HX:=a0b (zA hX (zA hXs bt));have HT:=a0b th;clear h th hX bt;refine (callsIn_wide (n:=3)).1 ?_;refine callsIn_of_wp_marks Tryz.func151 rfl trivial ?_ rfl;simp only[Tryz.ntmps151,List.size_toArray,List.length_cons,List.length_nil,Nat.reduceAdd,Nat.reduceSub,Array.replicate_succ,Array.replicate_zero,List.push_toArray,List.append_toArray,List.nil_append,List.cons_append];refine wpIn_wide.2 (Code.wp_mono c2H ?_);generalize r.tg[i].tb=tb at *
 go_upto_region 2 with fail
 change Code.wp _ _ _ _ ((w.alloc (.cells #[.int .i64 a,.int .i64 b] 60)).alloc (.cells #[.slice none 0 0] 34));generalize (w.alloc (.cells #[.int .i64 a,.int .i64 b] 60)).alloc (.cells #[.slice none 0 0] 34)=X at *;have ME:=a0b (b5L (some ⟨tb,3,none⟩) a b X.drew);have hXd:X.drew.heap.size=w.heap.size+2:=hXs;rw[hXd] at ME
 go_region_with (first
  |(go_at_call 207;refine ME.out.mono ?_;rintro e w1 ⟨rfl,rfl⟩))
 all_goals
  obtain⟨k0,z1,z2,z3,z4⟩:=b7J X (.pointer (some ⟨tb,3,none⟩)) (.int .i64 a) (.int .i64 b) 301 3 3;rw[hXs] at z1 z2 z3 z4
  go_wp2_with fail
  generalize (((X.alloc (.cells #[.pointer (some ⟨tb,3,none⟩)] 301)).alloc (.cells #[.int .i64 a] 3)).alloc (.cells #[.int .i64 b] 3)).drew=Z at *;have BZ:Below w.heap.size w Z:=HX.out.1.trans (k0.mono HX.out.1.size);have L0:Hid (LI w Z s col ([]:List Avl.It)):=⟨⟨_,[],(k0.block _ (by omega)).trans HX.out.2.2,a3j.nil _ _ _,a4M.nil s⟩,BZ,by omega⟩;have hxs:=b2v r (Avl.meet a b r.tg[i].T) (fun z hz=>b8d HH.out.of HH.out.dk.ni hi hz);generalize c1U r (Avl.meet a b r.tg[i].T) _=xs at hxs;have MS:=a0b (b8c 2 r (w.heap.size+2) (w.heap.size+2+1) (w.heap.size+2+2) w.heap.size tb 3 us a b r.tg[i].T Fs xs hxs Z z1 z2 z3 (a0a BZ HT.out.c3) (HT.out.sp.belowN BZ (fun k hk=>HT.out.lt k (by simp[hk]))) (fun k hk=>HT.out.lt k (by simp[hk])) (by omega));have HXS:=a0b hxs;have h5:w.heap.size<=Z.heap.size:=by omega
  clear k0 z1 z2 z3 hxs xa xb ME;refine (wpIn_wide (n:=3)).1 ?_
  refine wpIn_rangeFunc_ownG rfl (by omega) (gf:=254) (lb:=#[.pointer (some ⟨w.heap.size+2,0,none⟩),.pointer (some ⟨w.heap.size+2+1,0,none⟩),.pointer (some ⟨w.heap.size+2+2,0,none⟩)]) rfl trivial (enters_of Tryz.func254 (by kernel_rfl) rfl) MS.out belowK_t (belowK_b h5) (zr _ _) (fun _=>rfl)
   (fun pre W=>LI w W s col (pre.map (·.1))) (fun _ _ _=>False) (c6j w s r col h5) (fun _ _ _ _ _ hs _ _=>hs) L0.out
   (fun x=>{ tmps:=#[.pointer (some ⟨tb,0,none⟩),.agg #[.int .i64 a,.int .i64 b],undef,.pointer (some ⟨w.heap.size,0,none⟩),.slice none 0 0,.pointer (some ⟨w.heap.size+1,0,none⟩),.pointer (some ⟨x.1.v,0,none⟩),.pointer (some ⟨tb,0,none⟩),.pointer (some ⟨tb,0,none⟩),.pointer (some ⟨tb,3,none⟩),.pointer (some ⟨w.heap.size,0,none⟩),.int .i64 a,.pointer (some ⟨w.heap.size,1,none⟩),.int .i64 b,.func (.func 254) #[] #[.pointer (some ⟨w.heap.size+2,0,none⟩),.pointer (some ⟨w.heap.size+2+1,0,none⟩),.pointer (some ⟨w.heap.size+2+2,0,none⟩)],.pointer (some ⟨x.1.v,0,none⟩),undef,undef,undef,undef,undef,undef,undef,undef,undef,undef,undef],defers:=[] }) ?assign ?body ?done ?stop
  case assign =>
   intro l x W K hK
   gi_wp2
   exact hK
  case body =>
   rintro l pre x W h hlt;obtain⟨g,hg,ev,en⟩:=x.2;obtain⟨v,tl,hv,er,tld⟩:=h.bx;obtain⟨a1,c1,rfl⟩:=a0B er.own;have hcd:=hv.cell;have hsm:=Nat.le_trans tld.small (a1x HH.out.mid);have dW:=HH.out.dk.later h.bl;have CT:=a0b (a8q tl _ (w.heap.size+5) g.eb g.e.id W er.own (fun p hp=>by obtain⟨x1,x2,x3⟩:=a0B (er.sp p hp).1.own;exact⟨x1,_,x2,x3⟩) (dW.en g hg).1.en.c0 (by omega));have HI:=a0b (zA h (zA hv (zA er tld)));have hsz:=h.sz;have TE:=a0b (fun W' (k:Below w.heap.size w W')=>HH.out.tells k hg);clear h hv er tld dW;rw[<- ev] at CT;simp only[<- ev] at TE;have EVN:=a0b (zA ev en);clear ev en
   cases hany:tl.any (fun p=>p.1.id==g.e.id)
   ·rw[hany] at CT
    gi_wp2
    refine⟨trivial,?_⟩;refine (CallsIn.inRound l (callsIn_wide.2 CT.out)).mono ?_;rintro e w1 ⟨rfl,hb1⟩
    gi_wp2
    have hmix:Tryz.prog.follows .mixedOrders=true:=by kernel_rfl
    have BW1:Hid (Below w.heap.size w w1/\Below W.heap.size W w1):=⟨HI.out.1.bl.trans (hb1.mono HI.out.1.bl.size),hb1⟩;have hcd1:=a0a hb1 hcd;have TE1:=a0b (TE.out w1.drew BW1.out.1.drew);clear TE CT hb1;refine wpIn_region_any hmix ?_;change wpAnyIn _ _ _ _ _ _ _ _ _ (World.drew _);refine wpAnyIn_ready (rs:=[0,1]) (by kernel_rfl) (by simp) ?_;refine AllReadyIn.cons rfl (fun K hK=>?_) (AllReadyIn.cons rfl (fun K hK=>?_) AllReadyIn.nil)
    ·go_simp
     refine hK _ _ ?_;clear hK K;refine wpAnyIn_ready (rs:=[1]) (by kernel_rfl) (by simp) ?_;refine AllReadyIn.cons rfl (fun K hK=>?_) AllReadyIn.nil
     go_simp
     refine hK _ _ ?_;clear hK K;refine wpAnyIn_ready (rs:=[2]) (by kernel_rfl) (by simp) ?_;refine AllReadyIn.cons rfl (fun K hK=>?_) AllReadyIn.nil
     go_simp
     refine⟨trivial,(CallsIn.inRound l (callsIn_wide.2 TE1.out)).mono ?_⟩;rintro e w2 ⟨v2,rfl,sp2,rfl,ho2,hb2⟩;refine hK _ _ ?_;clear hK K;obtain⟨sa,sc,rfl⟩:=a0B ho2;simp only[a8k];have hcd2:w2.cell? ⟨w.heap.size+1,0,none⟩=some (.slice a1 tl.length c1):=a0a hb2 hcd1;have hs2:w.heap.size+5<=w2.heap.size:=Nat.le_trans (Nat.le_trans HI.out.1.sz BW1.out.2.size) hb2.size;have OW:=a0b (a1g (a1g HI.out.2.2.1.own BW1.out.2.drew) hb2);have S2:=a0b (zA ho2 hb2);clear ho2 hb2;refine wpAnyIn_ready (rs:=[3]) (by kernel_rfl) (by simp) ?_;refine AllReadyIn.cons rfl (fun K hK=>?_) AllReadyIn.nil
     go_simp
     refine hK _ _ ?_;clear hK K;have hcd3:=a6Y hcd2 (.cells #[.int .i64 g.e.id,.int .i64 g.e.kind,.string g.e.a0k,.int .i64 g.e.a0c,.slice sa g.e.a0e.length sc,.int .i64 g.e.a0Z] 58);obtain⟨V3,hV3⟩:∃ V3,V3=w2.alloc (.cells #[.int .i64 g.e.id,.int .i64 g.e.kind,.string g.e.a0k,.int .i64 g.e.a0c,.slice sa g.e.a0e.length sc,.int .i64 g.e.a0Z] 58):=⟨_,rfl⟩;rw[<- hV3] at hcd3;rw[<- hV3];have AV:Hid (V3=w2.alloc (.cells (a1f (g.e,.slice sa g.e.a0e.length sc)).toArray 58)):=a0b hV3;clear hV3;refine wpAnyIn_ready (rs:=[4]) (by kernel_rfl) (by simp) ?_;refine AllReadyIn.cons rfl (fun K hK=>?_) AllReadyIn.nil;refine a1Z V3 rfl (.tmp 21) (.tmp 24) 34 rfl (w.heap.size+5) 58 i0 _ 6 72 Tryz.underlying34 hi0 hz0 hz1 hz2 rfl (by decide) (.slice a1 tl.length c1) tl.length (tl.flatMap a1f) rfl (by rw[AV.out];exact OW.out.alloc _) ⟨w2.heap.size,0,none⟩ 1 1 (a1f (g.e,.slice sa g.e.a0e.length sc)) rfl rfl (by rw[AV.out];exact World.news_of_block (cs:=(a1f (g.e,.slice sa g.e.a0e.length sc)).toArray) (a0p w2 _)) (by simp[a1f,Value.oneCell']) (by unfold maxLen;omega) (by omega) (by rw[AV.out];simp;omega) ?_;intro v3 w3 hown3 hgrow3;obtain⟨va3,vc3,rfl⟩:=a0B hown3;refine hK _ _ ?_;clear hK K;rw[AV.out] at hgrow3;have BX:=b6K HI.out.1 HI.out.2.1 HI.out.2.2.1 BW1.out.2 S2.out.2 _ hgrow3;have hcd4:=BX.cell;have hfr4:=BX.frozen;have G3:=a0b (zA hown3 hgrow3);clear hown3 hgrow3 BX AV hcd3;refine wpAnyIn_ready (rs:=[5]) (by kernel_rfl) (by simp) ?_;refine AllReadyIn.cons rfl (fun K hK=>?_) AllReadyIn.nil
     go_simp
     refine hK _ _ ?_;clear hK K;refine wpAnyIn_done (by kernel_rfl) ?_ _;have h0:=HI.out;have hL:=b6J (B:=Z.heap.size) h0.1 h0.2.1 h0.2.2.1 h0.2.2.2 BW1.out.2 S2.out.1 S2.out.2 _ G3.out.2 G3.out.1 (fun b hb=>HH.out.dk.none hb) (z:=x.1) (by rw[EVN.out.2];exact hany) (HH.out.of.mem hg) EVN.out.2.symm;refine⟨hL.1,hL.2.1,?_⟩;show LI w _ s col (List.map (fun x=>x.val) (pre++[x]));rw[List.map_append];exact hL.2.2
    ·go_simp
     refine hK _ _ ?_;clear hK K;refine wpAnyIn_ready (rs:=[0,2]) (by kernel_rfl) (by simp) ?_;refine AllReadyIn.cons rfl (fun K hK=>?_) (AllReadyIn.cons rfl (fun K hK=>?_) AllReadyIn.nil)
     ·go_simp
      refine hK _ _ ?_;clear hK K;refine wpAnyIn_ready (rs:=[2]) (by kernel_rfl) (by simp) ?_;refine AllReadyIn.cons rfl (fun K hK=>?_) AllReadyIn.nil
      go_simp
      refine⟨trivial,(CallsIn.inRound l (callsIn_wide.2 TE1.out)).mono ?_⟩;rintro e w2 ⟨v2,rfl,sp2,rfl,ho2,hb2⟩;refine hK _ _ ?_;clear hK K;obtain⟨sa,sc,rfl⟩:=a0B ho2;simp only[a8k];have hcd2:w2.cell? ⟨w.heap.size+1,0,none⟩=some (.slice a1 tl.length c1):=a0a hb2 hcd1;have hs2:w.heap.size+5<=w2.heap.size:=Nat.le_trans (Nat.le_trans HI.out.1.sz BW1.out.2.size) hb2.size;have OW:=a0b (a1g (a1g HI.out.2.2.1.own BW1.out.2.drew) hb2);have S2:=a0b (zA ho2 hb2);clear ho2 hb2;refine wpAnyIn_ready (rs:=[3]) (by kernel_rfl) (by simp) ?_;refine AllReadyIn.cons rfl (fun K hK=>?_) AllReadyIn.nil
      go_simp
      refine hK _ _ ?_;clear hK K;have hcd3:=a6Y hcd2 (.cells #[.int .i64 g.e.id,.int .i64 g.e.kind,.string g.e.a0k,.int .i64 g.e.a0c,.slice sa g.e.a0e.length sc,.int .i64 g.e.a0Z] 58);obtain⟨V3,hV3⟩:∃ V3,V3=w2.alloc (.cells #[.int .i64 g.e.id,.int .i64 g.e.kind,.string g.e.a0k,.int .i64 g.e.a0c,.slice sa g.e.a0e.length sc,.int .i64 g.e.a0Z] 58):=⟨_,rfl⟩;rw[<- hV3] at hcd3;rw[<- hV3];have AV:Hid (V3=w2.alloc (.cells (a1f (g.e,.slice sa g.e.a0e.length sc)).toArray 58)):=a0b hV3;clear hV3;refine wpAnyIn_ready (rs:=[4]) (by kernel_rfl) (by simp) ?_;refine AllReadyIn.cons rfl (fun K hK=>?_) AllReadyIn.nil;refine a1Z V3 rfl (.tmp 21) (.tmp 24) 34 rfl (w.heap.size+5) 58 i0 _ 6 72 Tryz.underlying34 hi0 hz0 hz1 hz2 rfl (by decide) (.slice a1 tl.length c1) tl.length (tl.flatMap a1f) rfl (by rw[AV.out];exact OW.out.alloc _) ⟨w2.heap.size,0,none⟩ 1 1 (a1f (g.e,.slice sa g.e.a0e.length sc)) rfl rfl (by rw[AV.out];exact World.news_of_block (cs:=(a1f (g.e,.slice sa g.e.a0e.length sc)).toArray) (a0p w2 _)) (by simp[a1f,Value.oneCell']) (by unfold maxLen;omega) (by omega) (by rw[AV.out];simp;omega) ?_;intro v3 w3 hown3 hgrow3;obtain⟨va3,vc3,rfl⟩:=a0B hown3;refine hK _ _ ?_;clear hK K;rw[AV.out] at hgrow3;have BX:=b6K HI.out.1 HI.out.2.1 HI.out.2.2.1 BW1.out.2 S2.out.2 _ hgrow3;have hcd4:=BX.cell;have hfr4:=BX.frozen;have G3:=a0b (zA hown3 hgrow3);clear hown3 hgrow3 BX AV hcd3;refine wpAnyIn_ready (rs:=[5]) (by kernel_rfl) (by simp) ?_;refine AllReadyIn.cons rfl (fun K hK=>?_) AllReadyIn.nil
      go_simp
      refine hK _ _ ?_;clear hK K;refine wpAnyIn_done (by kernel_rfl) ?_ _;have h0:=HI.out;have hL:=b6J (B:=Z.heap.size) h0.1 h0.2.1 h0.2.2.1 h0.2.2.2 BW1.out.2 S2.out.1 S2.out.2 _ G3.out.2 G3.out.1 (fun b hb=>HH.out.dk.none hb) (z:=x.1) (by rw[EVN.out.2];exact hany) (HH.out.of.mem hg) EVN.out.2.symm;refine⟨hL.1,hL.2.1,?_⟩;show LI w _ s col (List.map (fun x=>x.val) (pre++[x]));rw[List.map_append];exact hL.2.2
     ·go_simp
      refine⟨trivial,(CallsIn.inRound l (callsIn_wide.2 TE1.out)).mono ?_⟩;rintro e w2 ⟨v2,rfl,sp2,rfl,ho2,hb2⟩;refine hK _ _ ?_;clear hK K;obtain⟨sa,sc,rfl⟩:=a0B ho2;simp only[a8k];have hcd2:w2.cell? ⟨w.heap.size+1,0,none⟩=some (.slice a1 tl.length c1):=a0a hb2 hcd1;have hs2:w.heap.size+5<=w2.heap.size:=Nat.le_trans (Nat.le_trans HI.out.1.sz BW1.out.2.size) hb2.size;have OW:=a0b (a1g (a1g HI.out.2.2.1.own BW1.out.2.drew) hb2);have S2:=a0b (zA ho2 hb2);clear ho2 hb2;refine wpAnyIn_ready (rs:=[0,3]) (by kernel_rfl) (by simp) ?_;refine AllReadyIn.cons rfl (fun K hK=>?_) (AllReadyIn.cons rfl (fun K hK=>?_) AllReadyIn.nil)
      ·go_simp
       refine hK _ _ ?_;clear hK K;refine wpAnyIn_ready (rs:=[3]) (by kernel_rfl) (by simp) ?_;refine AllReadyIn.cons rfl (fun K hK=>?_) AllReadyIn.nil
       go_simp
       refine hK _ _ ?_;clear hK K;have hcd3:=a6Y hcd2 (.cells #[.int .i64 g.e.id,.int .i64 g.e.kind,.string g.e.a0k,.int .i64 g.e.a0c,.slice sa g.e.a0e.length sc,.int .i64 g.e.a0Z] 58);obtain⟨V3,hV3⟩:∃ V3,V3=w2.alloc (.cells #[.int .i64 g.e.id,.int .i64 g.e.kind,.string g.e.a0k,.int .i64 g.e.a0c,.slice sa g.e.a0e.length sc,.int .i64 g.e.a0Z] 58):=⟨_,rfl⟩;rw[<- hV3] at hcd3;rw[<- hV3];have AV:Hid (V3=w2.alloc (.cells (a1f (g.e,.slice sa g.e.a0e.length sc)).toArray 58)):=a0b hV3;clear hV3;refine wpAnyIn_ready (rs:=[4]) (by kernel_rfl) (by simp) ?_;refine AllReadyIn.cons rfl (fun K hK=>?_) AllReadyIn.nil;refine a1Z V3 rfl (.tmp 21) (.tmp 24) 34 rfl (w.heap.size+5) 58 i0 _ 6 72 Tryz.underlying34 hi0 hz0 hz1 hz2 rfl (by decide) (.slice a1 tl.length c1) tl.length (tl.flatMap a1f) rfl (by rw[AV.out];exact OW.out.alloc _) ⟨w2.heap.size,0,none⟩ 1 1 (a1f (g.e,.slice sa g.e.a0e.length sc)) rfl rfl (by rw[AV.out];exact World.news_of_block (cs:=(a1f (g.e,.slice sa g.e.a0e.length sc)).toArray) (a0p w2 _)) (by simp[a1f,Value.oneCell']) (by unfold maxLen;omega) (by omega) (by rw[AV.out];simp;omega) ?_;intro v3 w3 hown3 hgrow3;obtain⟨va3,vc3,rfl⟩:=a0B hown3;refine hK _ _ ?_;clear hK K;rw[AV.out] at hgrow3;have BX:=b6K HI.out.1 HI.out.2.1 HI.out.2.2.1 BW1.out.2 S2.out.2 _ hgrow3;have hcd4:=BX.cell;have hfr4:=BX.frozen;have G3:=a0b (zA hown3 hgrow3);clear hown3 hgrow3 BX AV hcd3;refine wpAnyIn_ready (rs:=[5]) (by kernel_rfl) (by simp) ?_;refine AllReadyIn.cons rfl (fun K hK=>?_) AllReadyIn.nil
       go_simp
       refine hK _ _ ?_;clear hK K;refine wpAnyIn_done (by kernel_rfl) ?_ _;have h0:=HI.out;have hL:=b6J (B:=Z.heap.size) h0.1 h0.2.1 h0.2.2.1 h0.2.2.2 BW1.out.2 S2.out.1 S2.out.2 _ G3.out.2 G3.out.1 (fun b hb=>HH.out.dk.none hb) (z:=x.1) (by rw[EVN.out.2];exact hany) (HH.out.of.mem hg) EVN.out.2.symm;refine⟨hL.1,hL.2.1,?_⟩;show LI w _ s col (List.map (fun x=>x.val) (pre++[x]));rw[List.map_append];exact hL.2.2
      ·go_simp
       refine hK _ _ ?_;clear hK K;have hcd3:=a6Y hcd2 (.cells #[.int .i64 g.e.id,.int .i64 g.e.kind,.string g.e.a0k,.int .i64 g.e.a0c,.slice sa g.e.a0e.length sc,.int .i64 g.e.a0Z] 58);obtain⟨V3,hV3⟩:∃ V3,V3=w2.alloc (.cells #[.int .i64 g.e.id,.int .i64 g.e.kind,.string g.e.a0k,.int .i64 g.e.a0c,.slice sa g.e.a0e.length sc,.int .i64 g.e.a0Z] 58):=⟨_,rfl⟩;rw[<- hV3] at hcd3;rw[<- hV3];have AV:Hid (V3=w2.alloc (.cells (a1f (g.e,.slice sa g.e.a0e.length sc)).toArray 58)):=a0b hV3;clear hV3;refine wpAnyIn_ready (rs:=[0]) (by kernel_rfl) (by simp) ?_;refine AllReadyIn.cons rfl (fun K hK=>?_) AllReadyIn.nil
       go_simp
       refine hK _ _ ?_;clear hK K;refine wpAnyIn_ready (rs:=[4]) (by kernel_rfl) (by simp) ?_;refine AllReadyIn.cons rfl (fun K hK=>?_) AllReadyIn.nil;refine a1Z V3 rfl (.tmp 21) (.tmp 24) 34 rfl (w.heap.size+5) 58 i0 _ 6 72 Tryz.underlying34 hi0 hz0 hz1 hz2 rfl (by decide) (.slice a1 tl.length c1) tl.length (tl.flatMap a1f) rfl (by rw[AV.out];exact OW.out.alloc _) ⟨w2.heap.size,0,none⟩ 1 1 (a1f (g.e,.slice sa g.e.a0e.length sc)) rfl rfl (by rw[AV.out];exact World.news_of_block (cs:=(a1f (g.e,.slice sa g.e.a0e.length sc)).toArray) (a0p w2 _)) (by simp[a1f,Value.oneCell']) (by unfold maxLen;omega) (by omega) (by rw[AV.out];simp;omega) ?_;intro v3 w3 hown3 hgrow3;obtain⟨va3,vc3,rfl⟩:=a0B hown3;refine hK _ _ ?_;clear hK K;rw[AV.out] at hgrow3;have BX:=b6K HI.out.1 HI.out.2.1 HI.out.2.2.1 BW1.out.2 S2.out.2 _ hgrow3;have hcd4:=BX.cell;have hfr4:=BX.frozen;have G3:=a0b (zA hown3 hgrow3);clear hown3 hgrow3 BX AV hcd3;refine wpAnyIn_ready (rs:=[5]) (by kernel_rfl) (by simp) ?_;refine AllReadyIn.cons rfl (fun K hK=>?_) AllReadyIn.nil
       go_simp
       refine hK _ _ ?_;clear hK K;refine wpAnyIn_done (by kernel_rfl) ?_ _;have h0:=HI.out;have hL:=b6J (B:=Z.heap.size) h0.1 h0.2.1 h0.2.2.1 h0.2.2.2 BW1.out.2 S2.out.1 S2.out.2 _ G3.out.2 G3.out.1 (fun b hb=>HH.out.dk.none hb) (z:=x.1) (by rw[EVN.out.2];exact hany) (HH.out.of.mem hg) EVN.out.2.symm;refine⟨hL.1,hL.2.1,?_⟩;show LI w _ s col (List.map (fun x=>x.val) (pre++[x]));rw[List.map_append];exact hL.2.2
   ·rw[hany] at CT
    gi_wp2
    refine⟨trivial,?_⟩;refine (CallsIn.inRound l (callsIn_wide.2 CT.out)).mono ?_;rintro e w1 ⟨rfl,hb1⟩
    gi_wp2
    have h0:=HI.out
    exact⟨b8k hb1,hb1.mono h0.1.bl.size,⟨⟨_,tl,(hb1.block _ h0.2.1.lt).trans h0.2.1,h0.2.2.1.later hb1,by
     have:=h0.2.2.2.old (z:=x.1) (by rw[EVN.out.2];exact hany)
     simpa using this⟩,h0.1.bl.trans (hb1.mono h0.1.bl.size),Nat.le_trans h0.1.sz hb1.size⟩⟩
  case done =>
   rintro D ys W hD rfl h hK;obtain⟨v,tl,hv,er,tld⟩:=h.bx;have hc:=hv.cell;obtain⟨a1,c1,rfl⟩:=a0B er.own
   have HF:Hid (tl.map (·.1)=Desk.a2x r.tg[i].name a b s.es):=by
    rw[HXS.out] at tld;have it:=(HH.out.of.th i hi).2;have inv:=HH.out.inv
    obtain⟨p1,p2⟩:=Desk.c4u (ys:=tl.map (·.1)) (a:=a) (b:=b) it inv.ids (fun e he=>(inv.en e he).ri) (fun e he sp hs=>((inv.en e he).sp sp hs).1) (by rw[List.length_map];exact tld.len) (fun j hj=>by
     have hj':j<tl.length:=by simpa using hj
     have:=tld.at_ j hj'
     simpa using this)
    exact Desk.b3f inv.ids p1 p2
   have HE:Hid (a3j W w.heap.size col (.slice a1 tl.length c1) tl/\Below w.heap.size w W):=⟨er.base (by omega),h.bl⟩;clear h er tld hv
   go_wp2_with fail
   refine c0k ?_;refine⟨by simp,.inl ⟨_,_,rfl,run_takeDeferred hK,?_⟩⟩;have kp:Below W.heap.size W (W.putObj D (.deferred none))->True:=fun _=>trivial
   refine⟨_,results_tmp rfl _ _ _,_,tl,rfl,HF.out,?_,HE.out.2.trans (belowK_b (w:=w) (zq _) W D _ _ (by omega) hK rfl rfl)⟩;exact⟨ownsRow_putObj HE.out.1.own _ hK rfl,HE.out.1.no,fun p hp=>⟨⟨ownsRow_putObj (HE.out.1.sp p hp).1.own _ hK rfl,(HE.out.1.sp p hp).1.no⟩,(HE.out.1.sp p hp).2⟩,HE.out.1.pw⟩
  case stop =>
   rintro D c pre W _ _ h _;exact h.elim
end Go.Proofs.YtfigmlfdnickmaaGreatDoor
