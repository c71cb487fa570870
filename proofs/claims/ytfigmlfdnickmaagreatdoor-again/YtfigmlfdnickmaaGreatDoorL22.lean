import Derived.Test.YtfigmlfdnickmaaGreatDoorL21
import Derived.Test.YtfigmlfdnickmaaGreatDoorRows
import Derived.Test.YtfigmlfdnickmaaGreatDoorCards
import Derived.Test.YtfigmlfdnickmaaGreatDoorTie
import Derived.WalkKit
import Derived.ProofKit
import Derived.Deep.DeepWitnessRowRef
import Derived.LaidLaws
import Derived.OpenShut
import Derived.Deep.Slices
import Derived.Deep.DeepHandedRow
import Derived.Lib.LaidTab
import Derived.Lib.LaidU8
import Derived.Shelf.Vars
set_option maxRecDepth 100000
set_option maxHeartbeats 8000000
variable{o t:ByteArray}{ks:List (Nat × Go.Obj)}{ds:List Go.Proofs.YtfigmlfdnickmaaGreatDoor.Dsk}{rs:List Go.Proofs.YtfigmlfdnickmaaGreatDoor.OR}{g i k n:Nat}{s:Go.Proofs.YtfigmlfdnickmaaGreatDoor.Desk.St}{W X:Go.World}
namespace Go.Proofs.YtfigmlfdnickmaaGreatDoor
open Go.RowKit
open Desk (Ent St Inv a0h a2x a1q Rep)
theorem d2W(w:World)(l m:List (Ent × Value))(err at_ n:Int)(v1 v2 v3 v4 u1 u2 u3 u4:Value)(da gr ed:List Int)(h1:EV w v1 l)(k1:EV w u1 m)(he:l.map (·.1)=m.map (·.1))(hl:l.length<=1000)(hs:∀ p∈l,p.1.a0e.length<=1000)
  (h2:w.ownsRow 0 3 1 v2 da.length (da.map (Value.int .i64))) (k2:w.ownsRow 0 3 1 u2 da.length (da.map (Value.int .i64))) (h3:w.ownsRow 0 3 1 v3 gr.length (gr.map (Value.int .i64))) (k3:w.ownsRow 0 3 1 u3 gr.length (gr.map (Value.int .i64))) (h4:w.ownsRow 0 3 1 v4 ed.length (ed.map (Value.int .i64))) (k4:w.ownsRow 0 3 1 u4 ed.length (ed.map (Value.int .i64))) (b2:da.length<=1000000) (b3:gr.length<=1000000) (b4:ed.length<=1000000):
  Calls Tryz.prog 36 #[.agg #[.int .i64 err,.int .i64 at_,.int .i64 n,v1,v2,v3,v4],.agg #[.int .i64 err,.int .i64 at_,.int .i64 n,u1,u2,u3,u4]] w fun e w'=>e=.returned (.bool true)/\Below w.heap.size w w':=by
 have kX:Below w.heap.size w ((w.alloc (a5w err at_ n v1 v2 v3 v4)).alloc (a5w err at_ n u1 u2 u3 u4)):=((zr w.heap.size w).alloc (zq _) _).trans (((zr (w.alloc (a5w err at_ n v1 v2 v3 v4)).heap.size (w.alloc (a5w err at_ n v1 v2 v3 v4))).alloc (zq _) _).mono (by simp));have HX:=a0b kX;have RA:Hid (((w.alloc (a5w err at_ n v1 v2 v3 v4)).alloc (a5w err at_ n u1 u2 u3 u4)).heap[w.heap.size]?=some (a5w err at_ n v1 v2 v3 v4)):=((((zr (w.alloc (a5w err at_ n v1 v2 v3 v4)).heap.size (w.alloc (a5w err at_ n v1 v2 v3 v4))).alloc (zq _) (a5w err at_ n u1 u2 u3 u4)).block w.heap.size (by simp)).trans (a0p w _))
 have RB:Hid (((w.alloc (a5w err at_ n v1 v2 v3 v4)).alloc (a5w err at_ n u1 u2 u3 u4)).heap[w.heap.size+1]?=some (a5w err at_ n u1 u2 u3 u4)):=by
  have:=a0p (w.alloc (a5w err at_ n v1 v2 v3 v4)) (a5w err at_ n u1 u2 u3 u4);have e:(w.alloc (a5w err at_ n v1 v2 v3 v4)).heap.size=w.heap.size+1:=by simp
  rw[e] at this;exact this
 have H1:=a0b h1;have K1:=a0b k1;have H2:=a0b h2;have K2:=a0b k2;have H3:=a0b h3;have K3:=a0b k3;have H4:=a0b h4;have K4:=a0b k4;have HE:=a0b he;have HS:=a0b hs;clear h1 k1 h2 k2 h3 k3 h4 k4 he hs kX
 go_enter Tryz.func36,Tryz.ntmps36
 go_upto_region 1 with fail
 change Code.wp _ _ _ _ ((w.alloc (a5w err at_ n v1 v2 v3 v4)).alloc (a5w err at_ n u1 u2 u3 u4));generalize (w.alloc (a5w err at_ n v1 v2 v3 v4)).alloc (a5w err at_ n u1 u2 u3 u4)=V at HX RA RB ⊢
 have KA:Hid (∀ W',Below V.heap.size V W'->(W'.cell? ⟨w.heap.size,0,none⟩=some (.int .i64 err)/\W'.cell? ⟨w.heap.size,1,none⟩=some (.int .i64 at_)/\W'.cell? ⟨w.heap.size,2,none⟩=some (.int .i64 n)/\W'.cell? ⟨w.heap.size,3,none⟩=some v1/\W'.cell? ⟨w.heap.size,4,none⟩=some v2/\W'.cell? ⟨w.heap.size,5,none⟩=some v3/\W'.cell? ⟨w.heap.size,6,none⟩=some v4)/\(W'.cell? ⟨w.heap.size+1,0,none⟩=some (.int .i64 err)/\W'.cell? ⟨w.heap.size+1,1,none⟩=some (.int .i64 at_)/\W'.cell? ⟨w.heap.size+1,2,none⟩=some (.int .i64 n)/\W'.cell? ⟨w.heap.size+1,3,none⟩=some u1/\W'.cell? ⟨w.heap.size+1,4,none⟩=some u2/\W'.cell? ⟨w.heap.size+1,5,none⟩=some u3/\W'.cell? ⟨w.heap.size+1,6,none⟩=some u4)):=fun W' k =>
  ⟨a2T ((k.block _ (Array.getElem?_eq_some_iff.1 RA.out).1).trans RA.out),a2T ((k.block _ (Array.getElem?_eq_some_iff.1 RB.out).1).trans RB.out)⟩
 have S1:=a0b (fun W' (k:Below V.heap.size V W')=>a8V l m v1 u1 W' ((H1.out.later HX.out).later k) ((K1.out.later HX.out).later k) HE.out hl HS.out);have S2:=a0b (fun W' (k:Below V.heap.size V W')=>f1K da da v2 u2 0 0 W' (c6T (c6T H2.out HX.out) k) (c6T (c6T K2.out HX.out) k) b2);have S3:=a0b (fun W' (k:Below V.heap.size V W')=>f1K gr gr v3 u3 0 0 W' (c6T (c6T H3.out HX.out) k) (c6T (c6T K3.out HX.out) k) b3);have S4:=a0b (fun W' (k:Below V.heap.size V W')=>f1K ed ed v4 u4 0 0 W' (c6T (c6T H4.out HX.out) k) (c6T (c6T K4.out HX.out) k) b4);rw[show decide (da=da)=true from by simp] at S2;rw[show decide (gr=gr)=true from by simp] at S3;rw[show decide (ed=ed)=true from by simp] at S4;clear RA RB H1 K1 H2 K2 H3 K3 H4 K4 HE HS;generalize w.heap.size+1=Rb at KA ⊢;generalize hA:w.heap.size=Ra at KA ⊢;have HAe:=a0b hA;clear hA;obtain⟨⟨_,_,_,x3,x4,x5,x6⟩,⟨_,_,_,y3,y4,y5,y6⟩⟩:=KA.out V (zr _ _)
 go_upto_region 2 with (first
  |(go_at_call 29;refine (S1.out _ (zr _ _)).mono ?_;rintro e w1 ⟨rfl,hb⟩;have HB:=a0b hb;clear hb S1))
 clear x3 x4 x5 x6 y3 y4 y5 y6;obtain⟨⟨_,_,_,_,x4,_,_⟩,⟨_,_,_,_,y4,_,_⟩⟩:=KA.out _ HB.out
 go_upto_region 3 with (first
  |(go_at_call 34;refine (S2.out _ HB.out).mono ?_;rintro e w2 ⟨rfl,hb⟩;have HB2:=a0b (a0j HB.out hb (zq _));clear hb S2))
 clear x4 y4 HB;obtain⟨⟨_,_,_,_,_,x5,_⟩,⟨_,_,_,_,_,y5,_⟩⟩:=KA.out _ HB2.out
 go_upto_region 4 with (first
  |(go_at_call 34;refine (S3.out _ HB2.out).mono ?_;rintro e w3 ⟨rfl,hb⟩;have HB3:=a0b (a0j HB2.out hb (zq _));clear hb S3))
 clear x5 y5 HB2;obtain⟨⟨_,_,_,_,_,_,x6⟩,⟨_,_,_,_,_,_,y6⟩⟩:=KA.out _ HB3.out
 go_upto_region 5 with (first
  |(go_at_call 34;refine (S4.out _ HB3.out).mono ?_;rintro e w4 ⟨rfl,hb⟩;have HB4:=a0b (a0j HB3.out hb (zq _));clear hb S4))
 clear x6 y6 HB3;obtain⟨⟨x0,x1,x2,_,_,_,_⟩,⟨y0,y1,y2,_,_,_,_⟩⟩:=KA.out _ HB4.out;have HF:=a0b (HX.out.trans (HB4.out.mono HX.out.size));have q0:(err==err)=true:=by simp
 have q1:(at_==at_)=true:=by simp
 have q2:(n==n)=true:=by simp
 clear KA HB4 HX
 go_wp2_with fail
 go_ret;exact⟨rfl,HF.out⟩
theorem e4J{d:Dsk}(h:ds[i]?=some d):ds.set i d=ds:=by
 obtain⟨hl,e⟩:=List.getElem?_eq_some_iff.1 h;subst e;exact List.set_getElem_self hl
def d5a:Nat->ByteArray
 |0=>⟨#[108,105,115,116,32,97]⟩
 |1=>⟨#[108,105,115,116,32,98]⟩
 |2=>⟨#[119,97,105,116,105,110,103]⟩
 |_=>⟨#[99,108,111,99,107]⟩
def d3o:Obj:=.cells #[.string (d5a 0),.string (d5a 1),.string (d5a 2),.string (d5a 3)] 9 (0,0)
theorem f0f{b:Nat}(h:W.heap[b]?=some d3o)(k:Nat)(hk:k<4):W.cell? ⟨b,k,none⟩=some (.string (d5a k)):=by
 unfold d3o at h;have:k=0\/k=1\/k=2\/k=3:=by omega
 rcases this with rfl|rfl|rfl|rfl <;> (simp only[World.cell?,h];rfl)
structure f5A(s:St)(k:Nat)(rep:Rep):Prop where
 err:rep.err=0
 da:rep.days=[]
 gr:rep.granted=[]
 ed:rep.ended=[]
 len:rep.entries.length<=60
 sp:∀ e∈rep.entries,e.a0e.length<=1000
 go:∀ {X W:World}{ds:List Dsk}{ks:List (Nat × Obj)}{es:List (Value × List (Ent × Value))}{rs:List OR},CM X W ds ks es rs->∀ (i p dk:Nat),ds[i]?=some (p,dk,s)->Calls Tryz.prog 21 #[.pointer (some ⟨p,0,none⟩),.string (d5a k)] W fun e W'=>MDo X W ds i p dk ks es rs (s,rep) e W'
theorem f4l(hi:Inv s)(ha:a0h (⟨#[97]⟩:ByteArray) s.ts≠0)(hb:a0h (⟨#[98]⟩:ByteArray) s.ts≠0)(k:Nat)(hk:k<4):∃ rep,f5A s k rep:=by
 have esp:∀ e∈s.es,e.a0e.length<=1000:=fun e he=>by have:=(hi.en e he).sl;omega
 have:k=0\/k=1\/k=2\/k=3:=by omega
 rcases this with rfl|rfl|rfl|rfl
 ·exact⟨_,rfl,rfl,rfl,rfl,Desk.c2P hi _,fun e he=>esp e (Desk.b6I hi _ he).1,fun h i p dk hd=>h.few i hd (b8g c7k rfl) (LV.list (⟨#[97]⟩:ByteArray) (by decide) false 0 0 0 1048320 rfl rfl) ⟨by omega,by omega,by omega,by omega⟩ rfl (Desk.c0t hi ha)⟩
 ·exact⟨_,rfl,rfl,rfl,rfl,Desk.c2P hi _,fun e he=>esp e (Desk.b6I hi _ he).1,fun h i p dk hd=>h.few i hd (b8g c7j rfl) (LV.list (⟨#[98]⟩:ByteArray) (by decide) false 0 0 0 1048320 rfl rfl) ⟨by omega,by omega,by omega,by omega⟩ rfl (Desk.c0t hi hb)⟩
 ·exact⟨_,rfl,rfl,rfl,rfl,Nat.le_trans (List.length_filter_le ..) (Desk.c6C hi),fun e he=>esp e (List.mem_filter.1 he).1,fun h i p dk hd=>h.few i hd d9f LV.waiting trivial rfl (d5K hi)⟩
 ·exact⟨_,rfl,rfl,rfl,rfl,by simp[Rep.num],fun e he=>by simp[Rep.num] at he,fun h i p dk hd=>h.few i hd e4h LV.clock trivial rfl (e7G hi)⟩
theorem f0e(h:CM X W ds ks [] rs){j p1 d1 p2 d2:Nat}(hi:ds[i]?=some (p1,d1,s))(hj:ds[j]?=some (p2,d2,s))(ha:a0h (⟨#[97]⟩:ByteArray) s.ts≠0)(hb:a0h (⟨#[98]⟩:ByteArray) s.ts≠0):
  Calls Tryz.prog 37 #[.pointer (some ⟨p1,0,none⟩),.pointer (some ⟨p2,0,none⟩)] W fun e W'=>e=.returned (.bool true)/\CM X W' ds ks [] rs:=by
 have AQ:=a0b (f4l (h.inv hi) ha hb);have HC:=a0b (h.alloc d3o);have HI:=a0b hi;have HJ:=a0b hj;clear h ha hb hi hj
 go_enter Tryz.func37,Tryz.ntmps37
 go_upto_region 2 with fail
 change Code.wp _ _ _ _ (W.alloc d3o);generalize W.alloc d3o=V at HC ⊢;generalize W.heap.size=lb at HC ⊢
 go_upto_region 3 with fail
 go_loopw [6,7,8,9] (fun vk _ _ _ wr=>∃ k:Nat,k<=4/\vk=.int .i64 k/\CM X wr ds ((lb,d3o) :: ks) [] rs) (fun vk _ _ _ _=>4-(intOf vk).toNat)
 case atStart=>exact⟨0,by omega,rfl,HC.out⟩
 case round =>
  obtain⟨k,hk,rfl,hcm⟩:=hrel;replace HC:=a0b hcm;clear hcm
  by_cases hlt:k<4
  ·have hlt':(k:Int)<4:=by omega
   obtain⟨rep,ra⟩:=AQ.out k hlt;have LO:Hid (∀ W' kk ee rr,CM X W' ds (kk++(lb,d3o) :: ks) ee rr->W'.cell? ⟨lb,k,none⟩=some (.string (d5a k))):=fun W' kk ee rr hc=>f0f (hc.kb (List.mem_append_right _ (List.mem_cons_self ..))) k hlt
   have GO:Hid (∀ (W':World) (kk:List (Nat × Obj)) (ee:List (Value × List (Ent × Value))) (rr:List OR),CM X W' ds kk ee rr->∀ (i p dk:Nat),ds[i]?=some (p,dk,s)->Calls Tryz.prog 21 #[.pointer (some ⟨p,0,none⟩),.string (d5a k)] W' fun e W''=>MDo X W' ds i p dk kk ee rr (s,rep) e W''):=fun W' kk ee rr hc i p dk hd=>ra.go hc i p dk hd
   have e0:=ra.err;have e1:=ra.da;have e2:=ra.gr;have e3:=ra.ed;have LB:=a0b (zA ra.len ra.sp);clear ra;have c0:=LO.out wr [] [] rs HC.out;generalize d5a k=t at LO GO c0
   go_upto_region 6 with (first
    |(go_at_call 21;refine (GO.out _ _ _ _ HC.out i p1 d1 HI.out).mono ?_;rintro e w1 ⟨l,a1,a2,a3,a4,c1,c2,c3,c4,rfl,hents,hc1,_⟩;have HE1:=a0b hents;replace HC:=a0b hc1;clear hc1 hents c0))
   replace HC:Hid (CM X w1 ds ((lb,d3o) :: ks) [(.slice a1 l.length c1,l)] (c9T (.slice a2 0 c2) [] :: c9T (.slice a3 0 c3) [] :: c9T (.slice a4 0 c4) [] :: rs)):=by
    have h:CM X w1 (ds.set i (p1,d1,s)) ((lb,d3o) :: ks) [(.slice a1 l.length c1,l)] (c9T (.slice a2 rep.days.length c2) rep.days :: c9T (.slice a3 rep.granted.length c3) rep.granted :: c9T (.slice a4 rep.ended.length c4) rep.ended :: rs):=HC.out;rw[e4J HI.out,e1,e2,e3] at h;exact h
   change Code.wp _ _ _ _ (w1.alloc (a5w 0 rep.at_ rep.n (.slice a1 l.length c1) (.slice a2 0 c2) (.slice a3 0 c3) (.slice a4 0 c4)));replace HC:=a0b (HC.out.alloc (a5w 0 rep.at_ rep.n (.slice a1 l.length c1) (.slice a2 0 c2) (.slice a3 0 c3) (.slice a4 0 c4)));generalize w1.alloc (a5w 0 rep.at_ rep.n (.slice a1 l.length c1) (.slice a2 0 c2) (.slice a3 0 c3) (.slice a4 0 c4))=V1 at HC ⊢;generalize w1.heap.size=xb at HC ⊢;have c0:=LO.out V1 [_] _ _ HC.out
   go_upto_region 7 with (first
    |(go_at_call 21;refine (GO.out _ _ _ _ HC.out j p2 d2 HJ.out).mono ?_;rintro e w2 ⟨m,b1,b2,b3,b4,d1',d2',d3,d4,rfl,hents,hc2,_⟩;have HE2:=a0b hents;replace HC:=a0b hc2;clear hc2 hents c0))
   replace HC:Hid (CM X w2 ds ((xb,a5w 0 rep.at_ rep.n (.slice a1 l.length c1) (.slice a2 0 c2) (.slice a3 0 c3) (.slice a4 0 c4)) :: (lb,d3o) :: ks) [(.slice b1 m.length d1',m),(.slice a1 l.length c1,l)] (c9T (.slice b2 0 d2') [] :: c9T (.slice b3 0 d3) [] :: c9T (.slice b4 0 d4) [] :: c9T (.slice a2 0 c2) [] :: c9T (.slice a3 0 c3) [] :: c9T (.slice a4 0 c4) [] :: rs)):=by
    have h:CM X w2 (ds.set j (p2,d2,s)) _ [(.slice b1 m.length d1',m),(.slice a1 l.length c1,l)] (c9T (.slice b2 rep.days.length d2') rep.days :: c9T (.slice b3 rep.granted.length d3) rep.granted :: c9T (.slice b4 rep.ended.length d4) rep.ended :: c9T (.slice a2 0 c2) [] :: c9T (.slice a3 0 c3) [] :: c9T (.slice a4 0 c4) [] :: rs):=HC.out;rw[e4J HJ.out,e1,e2,e3] at h;exact h
   change Code.wp _ _ _ _ (w2.alloc (a5w 0 rep.at_ rep.n (.slice b1 m.length d1') (.slice b2 0 d2') (.slice b3 0 d3) (.slice b4 0 d4)));replace HC:=a0b (HC.out.alloc (a5w 0 rep.at_ rep.n (.slice b1 m.length d1') (.slice b2 0 d2') (.slice b3 0 d3) (.slice b4 0 d4)));generalize w2.alloc (a5w 0 rep.at_ rep.n (.slice b1 m.length d1') (.slice b2 0 d2') (.slice b3 0 d3) (.slice b4 0 d4))=V2 at HC ⊢;generalize w2.heap.size=yb at HC ⊢
   have SR:=a0b (d2W V2 l m 0 rep.at_ rep.n (.slice a1 l.length c1) (.slice a2 0 c2) (.slice a3 0 c3) (.slice a4 0 c4) (.slice b1 m.length d1') (.slice b2 0 d2') (.slice b3 0 d3) (.slice b4 0 d4) [] [] [] (HC.out.ev (List.mem_cons_of_mem _ (List.mem_cons_self ..))) (HC.out.ev (List.mem_cons_self ..)) (HE1.out.trans HE2.out.symm) (by
     have:=LB.out.1;rw[<- HE1.out,List.length_map] at this
     omega) (fun q hq=>LB.out.2 q.1 (by
     have:=HE1.out;show q.1∈rep.entries;rw[<- this]
     exact List.mem_map.2 ⟨q,hq,rfl⟩))
    (HC.out.row (q:=c9T (.slice a2 0 c2) []) (by simp)) (HC.out.row (q:=c9T (.slice b2 0 d2') []) (by simp)) (HC.out.row (q:=c9T (.slice a3 0 c3) []) (by simp)) (HC.out.row (q:=c9T (.slice b3 0 d3) []) (by simp)) (HC.out.row (q:=c9T (.slice a4 0 c4) []) (by simp)) (HC.out.row (q:=c9T (.slice b4 0 d4) []) (by simp)) (by simp) (by simp) (by simp))
   obtain⟨y0,y1,y2,y3,y4,y5,y6⟩:=a2T (HC.out.kb (List.mem_cons_self ..));obtain⟨x0,x1,x2,x3,x4,x5,x6⟩:=a2T (HC.out.kb (b:=xb) (List.mem_cons_of_mem _ (List.mem_cons_self ..)))
   go_upto_region 8 with (first
    |(go_at_call 36;refine SR.out.mono ?_;rintro e w3 ⟨rfl,hb⟩;replace x0:=a0a hb x0;replace HC:=a0b (HC.out.later hb);clear hb SR y0 y1 y2 y3 y4 y5 y6 x1 x2 x3 x4 x5 x6))
   have HF:Hid (CM X w3 ds ((lb,d3o) :: ks) [] rs):=HC.out.less (fun q hq=>List.mem_cons_of_mem _ (List.mem_cons_of_mem _ hq)) (by simp) (fun q hq=>by simp[hq]);clear HC GO LO LB HE1 HE2
   go_wp2_with fail
   go_roundw
   case rel=>exact⟨k+1,by omega,by go_num,HF.out⟩
   case measure=>simp[intOf];omega
  ·have hlt':¬ (k:Int)<4:=by omega
   have HF:Hid (CM X wr ds ks [] rs):=HC.out.less (fun q hq=>List.mem_cons_of_mem _ hq) (by simp) (fun q hq=>hq);clear HC
   go_wp2_with fail
   go_ret;exact⟨rfl,HF.out⟩
namespace Desk
theorem d9a(p:Ent->Bool):∀ l:List Ent,(l.filter p).length+(l.filter fun e=>!p e).length=l.length
 |[]=>rfl
 |a :: r=>by
  have ih:=d9a p r;simp only[List.filter_cons]
  cases p a <;> simp <;> omega
theorem d8u(ts:List (ByteArray × Int)):∀ (k:Nat)(es:List Ent)(now tq:Int),(a1K ts k es now tq).2.1.length<=es.length
 |0,es,_,_=>by simp[a1K]
 |k+1,es,now,tq=>by
  simp only[a1K]
  split
  ·have h1:=d8u ts k (a0R ts (es.filter fun e=>!a0z (a3D tq es) e)).1 (a3D tq es) tq;have h2:=a7H ts (es.filter fun e=>!a0z (a3D tq es) e);have h3:=d9a (a0z (a3D tq es)) es;simp only[List.length_append,List.length_map];omega
  ·simp
structure f5z(s:St)(r:Rep):Prop where
 en:r.entries.length<=60
 es:∀ e∈r.entries,e∈s.es
 da:r.days.length<=60
 ed:r.ended.length<=60
theorem f5z.plain{r:Rep}(h1:r.entries=[])(h2:r.days=[])(h3:r.ended=[]):f5z s r:=⟨by rw[h1];simp,by rw[h1];simp,by rw[h2];simp,by rw[h3];simp⟩
theorem e7j(h:Inv s){l:a7U}(hl:a1O l):f5z s (a0g s l).2:=by
 cases l with
 |a0k name u=>simp only[a0g];split <;> first|exact .plain rfl rfl rfl|(split <;> exact .plain rfl rfl rfl)
 |enter k name u fr til long=>simp only[a0g];split <;> exact .plain rfl rfl rfl
 |series name u r=>simp only[a0g];split <;> exact .plain rfl rfl rfl
 |confirm id =>
  simp only[a0g]
  split
  ·exact .plain rfl rfl rfl
  ·split <;> exact .plain rfl rfl rfl
 |cancel id=>simp only[a0g];split <;> exact .plain rfl rfl rfl
 |list name fr til =>
  simp only[a0g]
  split
  ·exact .plain rfl rfl rfl
  ·split
   ·exact .plain rfl rfl rfl
   ·have hm:∀ e∈a2x name fr til s.es,e∈s.es:=fun e he=>(List.mem_filter.1 (a4U.1 he)).1
    have hlen:(a2x name fr til s.es).length<=60:=by
     have:=c6C h;have e:=(a3Y (a:=fr) (b:=til) (s.es.filter (b7U name fr til))).length_eq;have f:=List.length_filter_le (b7U name fr til) s.es;unfold a2x;omega
    exact⟨hlen,hm,by simp[Rep.num],by simp[Rep.num]⟩
 |waiting=>exact⟨zt (List.length_filter_le ..) (c6C h),fun e he=>(List.mem_filter.1 he).1,by simp[a0g,Rep.num],by simp[a0g,Rep.num]⟩
 |peak name fr til=>simp only[a0g];split <;> first|exact .plain rfl rfl rfl|(split <;> exact .plain rfl rfl rfl)
 |find name u long fr til=>simp only[a0g];split <;> first|exact .plain rfl rfl rfl|(split <;> exact .plain rfl rfl rfl)
 |expand r =>
  simp only[a0g]
  split
  ·exact .plain rfl rfl rfl
  ·rename_i c
   have hf:Rd.a6s r:=hl;have:=((Rd.a5K hf).2 (by omega)).2.2.1;exact⟨by simp[Rep.num],by simp[Rep.num],by show (Rd.a0E r).length<=60;omega,by simp[Rep.num]⟩
 |tick n =>
  simp only[a0g]
  split
  ·exact .plain rfl rfl rfl
  ·have h1:=d8u s.ts (s.es.length+1) s.es s.now (s.now+n);have h2:=c6C h;exact⟨by simp[Rep.num],by simp[Rep.num],by simp[Rep.num],by show (a1K s.ts (s.es.length+1) s.es s.now (s.now+n)).2.1.length<=60;omega⟩
 |clock=>exact .plain rfl rfl rfl
theorem e6u(h:Inv s){l:a7U}(hl:a1O l):f5z s (a1q s l).2/\(a1q s l).2.granted.length<=100000:=by
 have h1:=e7j h hl;have h2:=c3u h.mid l;unfold a1q
 split
 ·exact⟨h1,by omega⟩
 ·refine⟨⟨h1.en,h1.es,h1.da,h1.ed⟩,?_⟩;have h3:=b8x (a0g s l).1.ts (a0g s l).1.es;have h4:=a1x (b7f h hl);simp only[List.length_append];omega
end Desk
theorem CM.plt{es:List (Value × List (Ent × Value))}(h:CM X W ds ks es rs):∀ d∈ds,d.1<W.heap.size:=fun d hd=>by
 obtain⟨cc,h⟩:=h;obtain⟨j,hj,ej⟩:=List.getElem_of_mem hd;obtain⟨r,D⟩:=h.dg j d (by rw[List.getElem?_eq_getElem hj,ej]);exact (Array.getElem?_eq_some_iff.1 D.bd.pc).1
theorem CM.lineS{F a:Nat}(h:CM X W ds ((F,a8o t a) :: ks) [] rs)(h10:10<=X.heap.size)(hX:X.heap.size<=F)(hp:∀ d∈ds,d.1≠F)(hn:∀ q∈ks,q.1≠F)(hr:∀ q∈rs,∀ c,q.v.ownBlock=some c->c≠F)(ha:a<=t.size)(hs:t.size<=9223372036854775807):
  Calls Tryz.prog 32 #[.pointer (some ⟨F,0,none⟩)] W fun e W'=>∃ (x:ByteArray) (a':Nat),e=.returned (.string x)/\Made x/\a'<=t.size/\CM X W' ds ((F,a8o t a') :: ks) [] rs:=by
 have hf:FW W F t W:=⟨⟨a,h.kb (List.mem_cons_self ..),ha,hs⟩,h.env,Off.refl _ _,Nat.le_trans h10 hX⟩;refine (f1f hf).mono ?_;rintro e W' ⟨x,rfl,hm,kf⟩;obtain⟨a',fd⟩:=kf.fd;exact⟨x,a',rfl,hm,fd.le,h.put h10 hX hp hn hr kf.off fd.b⟩
theorem g4Q{v:Value}{l:Desk.a7U}(hv:LV v l)(ht:c2h v∈d2B):g5r l=true:=by
 cases hv <;> first|rfl|exact absurd ht (show ¬ ((176:Nat)∈d2B) by decide)|exact absurd ht (show ¬ ((178:Nat)∈d2B) by decide)|exact absurd ht (show ¬ ((180:Nat)∈d2B) by decide)
theorem f1L{P:ByteArray}(h:0<P.size):P.toList.isEmpty=false:=by
 rw[List.isEmpty_eq_false_iff,ByteArray.toList_eq];intro e;have h1:=congrArg List.length e;rw[Txt.a1l] at h1;have h2:P.size=0:=h1;omega
theorem f6I(hk:k<t.size)(h:e3l (t.data.toList.take k) o.data.toList):e3l (t.data.toList.take (k+1)) (o++t.extract k (k+1)).data.toList:=by
 rw[Txt.a8N t k hk,Txt.a1X,Txt.c2G t k hk];exact h.same _
theorem f3l(hk:k<t.size)(hb:(t[k].toNat:Int)=32)(h:e3l (t.data.toList.take k) o.data.toList):e3l (t.data.toList.take (k+1)) ((o++t.extract k (k+1))++(⟨#[32]⟩:ByteArray)).data.toList:=by
 have e:t[k]=32:=by
  apply UInt8.toNat_inj.1;show t[k].toNat=32;omega
 rw[Txt.a8N t k hk,Txt.a1X,Txt.a1X,Txt.c2G t k hk];have e2:t.data.toList[k]'(by rw[Txt.a1l];exact hk)=32:=e;rw[e,e2];exact h.more
theorem f1h(a b:Int)(raw:Value)(ss:List ByteArray)(w:World)(he:Env w)(hraw:TV w raw ss)(ha1:-9223372036854775808<=a)(ha2:a<=9223372036854775807)(hb1:-9223372036854775808<=b)(hb2:b<=9223372036854775807):
  Calls Tryz.prog 11 #[.int .i64 a,.int .i64 b,raw] w fun e w'=>e=.returned (.bool true)/\Below w.heap.size w w':=by
 obtain⟨rav,racap,rfl⟩:=hraw.form;have RM:=a0b (c2p a b w ha1 ha2 hb1 hb2);obtain⟨x1,x2⟩:=a6G (c:=a) (n:=4) (by omega);obtain⟨y1,y2⟩:=a6G (c:=b) (n:=9) (by omega);have A1:1<=1+a2s a 4:=by omega
 have A2:1+a2s a 4<=9:=by omega
 have B1:1<=1+a2s b 9:=by omega
 have B2:1+a2s b 9<=9:=by omega
 have HE:=a0b he;have HR:=a0b hraw;generalize 1+a2s a 4=A at *;generalize 1+a2s b 9=B at *;clear x1 x2 y1 y2 he hraw ha1 ha2 hb1 hb2
 go_enter Tryz.func11,Tryz.ntmps11
 go_upto_region 2 with (first
  |(go_at_call 17;refine RM.out.mono ?_;rintro e w1 ⟨rfl,hb1⟩))
 change Code.wp _ _ _ _ (w1.alloc (a1T A B));have hX:Below w.heap.size w (w1.alloc (a1T A B)):=hb1.trans (((zr w1.heap.size w1).alloc (zq _) _).mono hb1.size);have hro:=a0p w1 (a1T A B);have hrl:w1.heap.size<(w1.alloc (a1T A B)).heap.size:=by simp
 have HX:=a0b hX;have h10:=Nat.le_trans HE.out.size hX.size
 have RO:Hid (∀ W',Below (w1.alloc (a1T A B)).heap.size (w1.alloc (a1T A B)) W'->W'.cell? ⟨w1.heap.size,0,none⟩=some (.int .i64 A)/\W'.cell? ⟨w1.heap.size,1,none⟩=some (.int .i64 B)):=fun W' k=>by
  have h:=(k.block w1.heap.size hrl).trans hro;unfold a1T at h;obtain⟨x,y,_⟩:=b0q h;exact⟨x,y⟩
 have HC:Hid (CM (w1.alloc (a1T A B)) (w1.alloc (a1T A B)) [] [] [] []):=CM.start (HE.out.later hX);have HT:=a0b (HR.out.below hX);clear hX hro hrl RM hb1 HR HE;generalize w1.alloc (a1T A B)=X at *;generalize w1.heap.size=Rb at *;obtain⟨ra,rb⟩:=RO.out X (zr _ _)
 go_upto_region 3 with (first
  |(go_at_call 18;refine (HC.out.begin A B ⟨A1,A2⟩ ⟨B1,B2⟩).mono ?_;rintro e w2 ⟨p1,k1,rfl,g1,g2,hc⟩;replace HC:=a0b hc;clear hc ra rb))
 obtain⟨ra,rb⟩:=RO.out w2 HC.out.bl
 go_upto_region 6 with (first
  |(go_at_call 18;refine (HC.out.begin A B ⟨A1,A2⟩ ⟨B1,B2⟩).mono ?_;rintro e w3 ⟨p2,k2,rfl,g3,g4,hc⟩;replace HC:=a0b hc;clear hc ra rb))
 have C0:Hid (∃ s:St,a0h (⟨#[97]⟩:ByteArray) s.ts≠0/\a0h (⟨#[98]⟩:ByteArray) s.ts≠0/\CM X w3 [(p1,k1,s),(p2,k2,s)] [] [] []):=⟨a3Z A B,b2x A1 B1 0,b2x A1 B1 1,HC.out⟩;clear HC
 go_upto_region 7 with fail
 go_loopw [12,13,14,15,16,17,18,19,20,21,22,23,24,25] (fun vi _ _ _ _ _ _ _ _ _ _ _ _ _ wr=>∃ (i:Nat) (s:St),i<=ss.length/\i<=30/\vi=.int .i64 i/\a0h (⟨#[97]⟩:ByteArray) s.ts≠0/\a0h (⟨#[98]⟩:ByteArray) s.ts≠0/\CM X wr [(p1,k1,s),(p2,k2,s)] [] [] []) (fun vi _ _ _ _ _ _ _ _ _ _ _ _ _ _=>30-(intOf vi).toNat)
 case atStart =>
  obtain⟨s,u1,u2,c⟩:=C0.out;exact⟨0,s,Nat.zero_le _,by omega,rfl,u1,u2,c⟩
 case round =>
  obtain⟨i,s,hi,hi30,rfl,hua,hub,hcm⟩:=hrel;have HC:=a0b hcm;clear hcm C0
  by_cases hlt:i<ss.length/\i<30
  ·obtain⟨hl1,hl2⟩:=hlt;have hl1':(i:Int)<(ss.length:Int):=by omega
   have hl2':(i:Int)<30:=by omega
   obtain⟨wo,rfl⟩:∃ wo:World,wo=wr:=⟨_,rfl⟩;obtain⟨bb,off,cap',e,c0⟩:=HT.out.cell i hl1;simp only[Value.slice.injEq,true_and] at e;obtain⟨rfl,rfl⟩:=e;have c1:=(zo (w:=X) (HC.out.bl.block bb (zb _ _ c0))).trans c0;have hsz:=HT.out.size _ (zg hl1);generalize ss[i]=sf at hsz c1;clear c0
   go_upto_region 10 with fail
   change Code.wp _ _ _ _ (wo.alloc (a8o sf 0));have xF:=HC.out.bl.size
   have pp:Hid (∀ s1 s2:St,∀ d∈[(p1,k1,s1),(p2,k2,s2)],d.1≠wo.heap.size):=fun s1 s2 d hd=>by
    have h1:p1<wo.heap.size:=HC.out.plt (p1,k1,s) (by simp);have h2:p2<wo.heap.size:=HC.out.plt (p2,k2,s) (by simp);simp only[List.mem_cons,List.not_mem_nil,or_false] at hd;rcases hd with rfl|rfl
    ·exact Nat.ne_of_lt h1
    ·exact Nat.ne_of_lt h2
   replace HC:=a0b (HC.out.alloc (a8o sf 0));generalize wo.alloc (a8o sf 0)=V0 at HC ⊢;generalize wo.heap.size=F at HC pp xF ⊢;clear c1;have LS:=a0b (HC.out.lineS h10 xF (pp.out _ _) (by simp) (by simp) (zN _) hsz)
   go_upto_region 13 with (first
    |(go_at_call 32;refine LS.out.mono ?_;rintro e w5 ⟨t,fa,rfl,hm,hfa,hc5⟩;replace HC:=a0b hc5;have HM:=a0b hm;clear hc5 LS hm))
   obtain⟨ws,xs,v,hM⟩:=HM.out;have tsz:=hM.sz;have M:=a0b hM;clear HM hM;obtain⟨wo2,rfl⟩:∃ wo2:World,wo2=w5:=⟨_,rfl⟩
   go_loopw [15,16] (fun vo vk wr=>∃ (k:Nat) (o:ByteArray) (fb:Nat),k<=t.size/\vk=.int .i64 k/\vo=.string o/\e3l (t.data.toList.take k) o.data.toList/\fb<=sf.size/\CM X wr [(p1,k1,s),(p2,k2,s)] [(F,a8o sf fb)] [] []) (fun _ vk _=>t.size-(intOf vk).toNat)
   case atStart=>exact⟨0,⟨#[32,32]⟩,fa,Nat.zero_le _,rfl,rfl,e3l.nil,hfa,HC.out⟩
   case round =>
    obtain⟨k,o,fb,hk,rfl,rfl,hodd,hfb,hcm⟩:=hrel;replace HC:=a0b hcm;have HO:=a0b hodd
    have osz:o.size<=158:=by
     have h1:=hodd.len;rw[Txt.a1l,List.length_take] at h1;omega
    clear hcm hodd hfa
    by_cases hkt:k<t.size
    ·have hkt':(k:Int)<(t.size:Int):=by omega
     have O1:=a0b (f6I hkt HO.out)
     by_cases hb:(t[k].toNat:Int)=32
     ·have O2:=a0b (f3l hkt hb HO.out);have b1:((t[k].toNat:Int)==32)=true:=by simpa using hb
      have NX:=a0b (CM.next HC.out h10 xF (pp.out _ _) (by simp) (by simp) hfb hsz 3 (by omega) (by omega));clear hb HO
      go_wp2_with (first
       |(go_at_call 26;refine NX.out.mono ?_;rintro e w6 ⟨nv,fc,rfl,_,_,hfc,hc6⟩;replace HC:=a0b hc6;clear hc6 NX))
      ·go_roundw
       case rel=>exact⟨k+1,_,fc,by omega,by go_num,rfl,O2.out,hfc,HC.out⟩
       case measure=>simp[intOf];omega
      ·go_roundw
       case rel=>exact⟨k+1,_,fc,by omega,by go_num,rfl,O1.out,hfc,HC.out⟩
       case measure=>simp[intOf];omega
     ·have b1:((t[k].toNat:Int)==32)=false:=by simpa using hb
      clear hb HO
      go_wp2_with fail
      go_roundw
      case rel=>exact⟨k+1,_,fb,by omega,by go_num,rfl,O1.out,hfb,HC.out⟩
      case measure=>simp[intOf];omega
    ·obtain rfl:k=t.size:=by omega
     have hkt':¬ (t.size:Int)<(t.size:Int):=by omega
     have RO1:Hid (Reads o v):=M.out.odd (by
      have:=HO.out;rw[List.take_of_length_le (by rw[Txt.a1l];exact zq _)] at this
      exact this)
     have RO2:Hid (Reads (jn xs) v):=M.out.plain;obtain⟨ln,hlv,hlo⟩:=M.out.line;have LVh:=a0b hlv;have LOh:=a0b hlo;have FWh:=a0b (g4Q hlv M.out.tg);have PZ:=M.out.some;have PL:=M.out.js;have BP:Hid (∀ (W:World) (x:ByteArray),Env W->Reads x v->Calls Tryz.prog 35 #[.string x] W fun e w'=>e=.returned (.tuple #[.string (jn xs),.int .i64 0,.int .i64 0])/\Below W.heap.size W w'):=fun W x hE hR=>e6W x W hE hR M.out.tg M.out.pw M.out.x0 M.out.x1 (by omega)
     clear hlv hlo M HO;generalize jn xs=P at RO2 PZ PL BP;replace HC:Hid (CM X wr [(p1,k1,s),(p2,k2,s)] [] [] []):=HC.out.less (by simp) (by simp) (by simp);have P1:=a0b (BP.out wr o HC.out.env RO1.out)
     go_upto_region 19 with (first
      |(go_at_call 35;refine P1.out.mono ?_;rintro e w7 ⟨rfl,hb7⟩;replace HC:=a0b (HC.out.later hb7);clear hb7 P1))
     have P2:=a0b (BP.out w7 P HC.out.env RO2.out)
     go_upto_region 20 with (first
      |(go_at_call 35;refine P2.out.mono ?_;rintro e w8 ⟨rfl,hb8⟩;replace HC:=a0b (HC.out.later hb8);clear hb8 P2 BP))
     have n1:(P.toList != P.toList)=false:=by simp
     have n2:(P.toList==P.toList)=true:=by simp
     have n3:P.toList.isEmpty=false:=f1L PZ
     go_upto_region 22 with fail
     clear n3;have HI:=a0b (HC.out.inv (i:=0) rfl);have SM:=a0b (Desk.e6u HI.out LOh.out);have UN:=a0b (zA (fun nm (h:a0h nm s.ts≠0)=>(show a0h nm (a1q s ln).1.ts≠0 by rw[Desk.b7F HI.out ln h];exact h)) trivial);have SP:=a0b (fun e (he:e∈s.es)=>(HI.out.en e he).sl);obtain⟨q,hq⟩:∃ q,a1q s ln=q:=⟨_,rfl⟩;rw[hq] at SM UN;have QE:=a0b hq;clear hq n1 n2;have D1:=a0b (CM.few HC.out 0 rfl RO1.out LVh.out LOh.out FWh.out QE.out)
     go_upto_region 23 with (first
      |(go_at_call 21;refine D1.out.mono ?_;rintro e w9 ⟨l1,b1,b2,b3,b4,d1,d2,d3,d4,rfl,hents,hc9,_⟩;have HE1:=a0b hents;replace HC:=a0b hc9;clear hents hc9 D1))
     replace HC:Hid (CM X w9 [(p1,k1,q.1),(p2,k2,s)] [] [(.slice b1 l1.length d1,l1)] [c9T (.slice b2 q.2.days.length d2) q.2.days,c9T (.slice b3 q.2.granted.length d3) q.2.granted,c9T (.slice b4 q.2.ended.length d4) q.2.ended]):=HC.out;change Code.wp _ _ _ _ (w9.alloc (a5w q.2.err q.2.at_ q.2.n (.slice b1 l1.length d1) (.slice b2 q.2.days.length d2) (.slice b3 q.2.granted.length d3) (.slice b4 q.2.ended.length d4)));replace HC:=a0b (HC.out.alloc (a5w q.2.err q.2.at_ q.2.n (.slice b1 l1.length d1) (.slice b2 q.2.days.length d2) (.slice b3 q.2.granted.length d3) (.slice b4 q.2.ended.length d4)));generalize w9.alloc (a5w q.2.err q.2.at_ q.2.n (.slice b1 l1.length d1) (.slice b2 q.2.days.length d2) (.slice b3 q.2.granted.length d3) (.slice b4 q.2.ended.length d4))=V9 at HC ⊢;generalize w9.heap.size=pb at HC ⊢;have D2:=a0b (CM.few HC.out 1 rfl RO2.out LVh.out LOh.out FWh.out QE.out)
     go_upto_region 24 with (first
      |(go_at_call 21;refine D2.out.mono ?_;rintro e w10 ⟨l2,f1,f2,f3,f4,g1,g2,g3,g4,rfl,hents,hc10,_⟩;have HE2:=a0b hents;replace HC:=a0b hc10;clear hents hc10 D2))
     replace HC:Hid (CM X w10 [(p1,k1,q.1),(p2,k2,q.1)] [(pb,a5w q.2.err q.2.at_ q.2.n (.slice b1 l1.length d1) (.slice b2 q.2.days.length d2) (.slice b3 q.2.granted.length d3) (.slice b4 q.2.ended.length d4))] [(.slice f1 l2.length g1,l2),(.slice b1 l1.length d1,l1)] [c9T (.slice f2 q.2.days.length g2) q.2.days,c9T (.slice f3 q.2.granted.length g3) q.2.granted,c9T (.slice f4 q.2.ended.length g4) q.2.ended,c9T (.slice b2 q.2.days.length d2) q.2.days,c9T (.slice b3 q.2.granted.length d3) q.2.granted,c9T (.slice b4 q.2.ended.length d4) q.2.ended]):=HC.out;change Code.wp _ _ _ _ (w10.alloc (a5w q.2.err q.2.at_ q.2.n (.slice f1 l2.length g1) (.slice f2 q.2.days.length g2) (.slice f3 q.2.granted.length g3) (.slice f4 q.2.ended.length g4)));replace HC:=a0b (HC.out.alloc (a5w q.2.err q.2.at_ q.2.n (.slice f1 l2.length g1) (.slice f2 q.2.days.length g2) (.slice f3 q.2.granted.length g3) (.slice f4 q.2.ended.length g4)));generalize w10.alloc (a5w q.2.err q.2.at_ q.2.n (.slice f1 l2.length g1) (.slice f2 q.2.days.length g2) (.slice f3 q.2.granted.length g3) (.slice f4 q.2.ended.length g4))=V10 at HC ⊢;generalize w10.heap.size=qb at HC ⊢
     have SR:=a0b (d2W V10 l1 l2 q.2.err q.2.at_ q.2.n (.slice b1 l1.length d1) (.slice b2 q.2.days.length d2) (.slice b3 q.2.granted.length d3) (.slice b4 q.2.ended.length d4) (.slice f1 l2.length g1) (.slice f2 q.2.days.length g2) (.slice f3 q.2.granted.length g3) (.slice f4 q.2.ended.length g4) q.2.days q.2.granted q.2.ended (HC.out.ev (by simp)) (HC.out.ev (by simp)) (HE1.out.trans HE2.out.symm) (by
       have:=SM.out.1.en;rw[<- HE1.out,List.length_map] at this
       omega) (fun x hx=>by
       have hm:x.1∈q.2.entries:=by rw[<- HE1.out];exact List.mem_map.2 ⟨x,hx,rfl⟩
       have:=SP.out x.1 (SM.out.1.es x.1 hm)
       omega)
      (HC.out.row (q:=c9T (.slice b2 q.2.days.length d2) q.2.days) (by simp)) (HC.out.row (q:=c9T (.slice f2 q.2.days.length g2) q.2.days) (by simp)) (HC.out.row (q:=c9T (.slice b3 q.2.granted.length d3) q.2.granted) (by simp)) (HC.out.row (q:=c9T (.slice f3 q.2.granted.length g3) q.2.granted) (by simp)) (HC.out.row (q:=c9T (.slice b4 q.2.ended.length d4) q.2.ended) (by simp)) (HC.out.row (q:=c9T (.slice f4 q.2.ended.length g4) q.2.ended) (by simp)) (by have:=SM.out.1.da;omega) (by have:=SM.out.2;omega) (by have:=SM.out.1.ed;omega))
     obtain⟨z0,z1,z2,z3,z4,z5,z6⟩:=a2T (HC.out.kb (b:=qb) (List.mem_cons_self ..));obtain⟨x0,x1,x2,x3,x4,x5,x6⟩:=a2T (HC.out.kb (b:=pb) (List.mem_cons_of_mem _ (List.mem_cons_self ..)))
     go_upto_region 25 with (first
      |(go_at_call 36;refine SR.out.mono ?_;rintro e w11 ⟨rfl,hb⟩;replace HC:=a0b (HC.out.later hb);clear hb SR z0 z1 z2 z3 z4 z5 z6 x0 x1 x2 x3 x4 x5 x6))
     have HF:Hid (CM X w11 [(p1,k1,q.1),(p2,k2,q.1)] [] [] []):=HC.out.less (by simp) (by simp) (by simp);clear HC HE1 HE2 SM SP HI
     go_wp2_with fail
     go_roundw
     case rel=>exact⟨i+1,q.1,by omega,by omega,by go_num,UN.out.1 _ hua,UN.out.1 _ hub,HF.out⟩
     case measure=>simp[intOf];omega
  ·have HF:Hid (CM X wr [(p1,k1,s),(p2,k2,s)] [] [] []):=HC.out;have AL:=a0b (f0e HF.out (i:=0) (j:=1) rfl rfl hua hub);have BW:Hid (∀ W',CM X W' [(p1,k1,s),(p2,k2,s)] [] [] []->Below w.heap.size w W'):=fun W' hc=>HX.out.trans (hc.bl.mono HX.out.size)
   clear HC
   by_cases h1:i<ss.length
   ·have h1':(i:Int)<(ss.length:Int):=by omega
    have h2':¬ (i:Int)<30:=by omega
    clear hlt
    go_wp2_with (first
     |(go_at_call 37;refine AL.out.mono ?_;rintro e w9 ⟨rfl,hc⟩;have HF2:=a0b (BW.out _ hc);clear hc))
    go_ret;exact⟨rfl,HF2.out⟩
   ·have h1':¬ (i:Int)<(ss.length:Int):=by omega
    clear hlt
    go_wp2_with (first
     |(go_at_call 37;refine AL.out.mono ?_;rintro e w9 ⟨rfl,hc⟩;have HF2:=a0b (BW.out _ hc);clear hc))
    go_ret;exact⟨rfl,HF2.out⟩
end Go.Proofs.YtfigmlfdnickmaaGreatDoor
namespace Go.Proofs.YtfigmlfdnickmaaGreatDoor.Laid
def val:DataW Unit->Value
 |.lit (.int k n)=>.int k n
 |.lit (.string b)=>.string ⟨b.toArray⟩
 |_=>.bool false
def row:DataW Unit->List Value
 |.agg l=>l.map val
 |_=>[]
def rows:DataW Unit->List Value
 |.agg l=>l.flatMap row
 |_=>[]
def text:DataW Unit->Value
 |.iface _ (.ptr (.agg [d]))=>val d
 |_=>.bool false
def put(l:List Value):Obj->Obj
 |.cells _ t frozen=>.cells l.toArray t frozen
 |o=>o
def c6N(w:World):World :=
 { w with heap:=(((((((((w.heap.modify 1 (put (row Rows.laid_bookings_calendar_monthDays))).modify 0 (put (row Rows.laid_internal_strconv_uint64pow10))).modify 6 (put [.iface 369 (.pointer (some ⟨w.heap.size,0,none⟩))])).modify 7 (put [.iface 369 (.pointer (some ⟨w.heap.size+1,0,none⟩))])).modify 3 (put (row Rows.laid_bookings_lines_weekdays))).modify 4 (put (row Rows.laid_math_bits_deBruijn32tab))).modify 5 (put (row Rows.laid_math_bits_deBruijn64tab))).modify 8 (put (row Rows.laid_unicode_utf8_first))).modify 9 (put (rows Rows.laid_unicode_utf8_acceptRanges))).push (.cells #[text Rows.laid_strconv_ErrSyntax] 371) |>.push (.cells #[text Rows.laid_strconv_ErrRange] 371) }
theorem met(os:Os):laidMet Tryz.prog Rows.datesRow.laid ((c6N (World.holding Tryz.prog os ⟨#[],#[],[]⟩)).forCall (fun _ _=>0) ⟨#[],#[.slice none 0 0],[]⟩).memory :=
 laidMet_of_run' 8 (by kernel_rfl) (by kernel_rfl)
end Go.Proofs.YtfigmlfdnickmaaGreatDoor.Laid
namespace Go.Proofs.YtfigmlfdnickmaaGreatDoor.datesLaw
open Go.ChangeShapes Go.WideShapes Go.ChangeAt Go.RowKit
theorem own:ownKnob Tryz.prog.godebug=none:=by kernel_rfl
theorem c5b:laidOutB Tryz.prog=true:=by kernel_rfl
def b9r:String:=Rows.datesRow.named.getD 0 Rows.datesRow.func
theorem b8y:Tryz.prog.globalNamed b9r=some 1:=by kernel_rfl
theorem c3e:(Tryz.prog.globals[1]?).map (·.type)=some 314:=by kernel_rfl
theorem c3A:Tryz.prog.cellsOf 314=12:=by kernel_rfl
theorem c3D:Tryz.prog.cellsOf 3=1:=by kernel_rfl
theorem b7n:Tryz.prog.cellsOf 9=1:=by kernel_rfl
theorem table(h:laidMetH Tryz.prog Rows.datesRow.laid W):Lib.TabIs Tryz.prog W b9r .i64 [31,28,31,30,31,30,31,31,30,31,30,31] :=
 Lib.tabIs_of_head b8y c3e Tryz.underlying314 Tryz.underlying3 c3D c3A h
theorem tab(h:laidMetH Tryz.prog Rows.datesRow.laid W):Tab W :=
 ⟨(table h).cell b8y 0 (by decide),(table h).cell b8y 1 (by decide),(table h).cell b8y 2 (by decide),(table h).cell b8y 3 (by decide),(table h).cell b8y 4 (by decide),(table h).cell b8y 5 (by decide),(table h).cell b8y 6 (by decide),(table h).cell b8y 7 (by decide),(table h).cell b8y 8 (by decide),(table h).cell b8y 9 (by decide),(table h).cell b8y 10 (by decide),(table h).cell b8y 11 (by decide)⟩
theorem six{α:Type}{l:List α}(h:l.length=6):∃ a b c d e f,l=[a,b,c,d,e,f]:=by
 match l,h with
 |[a,b,c,d,e,f],_=>exact⟨a,b,c,d,e,f,rfl⟩
end Go.Proofs.YtfigmlfdnickmaaGreatDoor.datesLaw
namespace Go.Proofs.YtfigmlfdnickmaaGreatDoor.EnvLaid
open Go.ChangeShapes Go.WideShapes Go.ChangeAt Go.RowKit
theorem b2G{P:Program}{name:String}{k:IntKind}{zs:List Int}{t e:TypeId}
  (hg:P.globalNamed name=some g) (hty:(P.globals[g]?).map (·.type)=some t) (ht:P.underlying t=some (.array n e)) (he:P.underlying e=some (.int k)) (hce:P.cellsOf e=1) (hct:P.cellsOf t=n)
  (h:Lib.VarReads P W name (Lib.tabData k zs)):Lib.TabIs P W name k zs:=by
 obtain⟨g',t',cs,fuel,p,hg',ht',hvar,hd⟩:=h;obtain rfl:=Option.some.inj (hg.symm.trans hg');obtain rfl:=Option.some.inj (hty.symm.trans ht');unfold Lib.TabIs;rw[hvar,<- Lib.cells_of_tab ht he hce hct hd]
theorem b9t{P:Program}{name:String}{zs:List (List UInt8)}{t e:TypeId}
  (hg:P.globalNamed name=some g) (hty:(P.globals[g]?).map (·.type)=some t) (ht:P.underlying t=some (.array n e)) (he:P.underlying e=some .string) (hce:P.cellsOf e=1)
  (h:Lib.VarReads P W name (.agg (zs.map fun z=>.lit (.string z)))) (i:Nat) (z:List UInt8) (hz:zs[i]?=some z):W.cell? ⟨g,i,none⟩=some (.string ⟨z.toArray⟩):=by
 obtain⟨g',t',cs,fuel,p,hg',ht',hvar,hd⟩:=h;obtain rfl:=Option.some.inj (hg.symm.trans hg');obtain rfl:=Option.some.inj (hty.symm.trans ht');obtain⟨xs,m,_,hx,_,hxl,hall⟩:=DataW.trod_array ht hd
 have hx1:zs.map (fun z=>(DataW.lit (.string z):DataW Unit))=xs.map (·.1):=by
  have:=congrArg Prod.fst hx
  simpa using this
 have hlen:zs.length=xs.length:=by
  have:=congrArg List.length hx1
  simpa using this
 have hi:i<zs.length:=(List.getElem?_eq_some_iff.1 hz).1;have hxi:xs[i]?=some xs[i]:=List.getElem?_eq_getElem (by omega);have hti:=hall i (by omega);rw[hxi,hce] at hti;obtain⟨s,hs1,hs2,_⟩:=DataW.trod_string he hti
 have h1:(xs.map (·.1))[i]?=some (DataW.lit (.string z):DataW Unit):=by rw[<- hx1];simp[hz]
 have h2:(xs.map (·.1))[i]?=some (DataW.lit (.string s.data.toList):DataW Unit):=by simp[hxi,hs2]
 have h3:z=s.data.toList:=by
  have:=h1.symm.trans h2
  simpa using this
 have h4:cs[i]?=some (.string s):=by
  have:=congrArg (·[0]?) hs1
  simpa[List.getElem?_take,List.getElem?_drop] using this
 rw[World.var?_cell hg hvar i,h4,h3]
theorem c3f:(Tryz.prog.globals[0]?).map (·.type)=some 306:=by kernel_rfl
theorem c3B:Tryz.prog.cellsOf 306=20:=by kernel_rfl
theorem c3z:Tryz.prog.cellsOf 265=1:=by kernel_rfl
theorem c6X : Tryz.prog.globalNamed "bookings/lines.weekdays" = some 3 := by kernel_rfl
theorem c0J:(Tryz.prog.globals[3]?).map (·.type)=some 352:=by kernel_rfl
theorem b8z : Tryz.prog.globalNamed "bookings/calendar.monthDays" = some 1 := by kernel_rfl
theorem c3g:(Tryz.prog.globals[1]?).map (·.type)=some 314:=by kernel_rfl
theorem c3C:Tryz.prog.cellsOf 314=12:=by kernel_rfl
theorem c6I:Tryz.prog.cellsOf 3=1:=by kernel_rfl
theorem b7n:Tryz.prog.cellsOf 9=1:=by kernel_rfl
theorem c6Y {W: World} {l: List (String × DataW Unit)} (hM : laidMet Tryz.prog l W) (hS : W.ShapedOpen Tryz.prog) (m1 : ("bookings/calendar.monthDays", Rows.laid_bookings_calendar_monthDays) ∈ l) (m2 : ("internal/strconv.uint64pow10", Rows.laid_internal_strconv_uint64pow10) ∈ l) (m3 : ("bookings/lines.weekdays", Rows.laid_bookings_lines_weekdays) ∈ l) : Env W := by
 have ht : Lib.VarReads Tryz.prog W "bookings/calendar.monthDays" (Lib.tabData .i64 [31, 28, 31, 30, 31, 30, 31, 31, 30, 31, 30, 31]) := Lib.laidMet.reads hM (d := Rows.laid_bookings_calendar_monthDays) m1;have hp : Lib.VarReads Tryz.prog W "internal/strconv.uint64pow10" (Lib.tabData .u64 Lib.pow10Tab) := Lib.laidMet.reads hM (d := Rows.laid_internal_strconv_uint64pow10) m2;have hd : Lib.VarReads Tryz.prog W "bookings/lines.weekdays" (.agg ([[109, 111], [116, 117], [119, 101], [116, 104], [102, 114], [115, 97], [115, 117]].map fun z => .lit (.string z))) := Lib.laidMet.reads hM (d := Rows.laid_bookings_lines_weekdays) m3;have day:=fun i z hz=>b9t c6X c0J Tryz.underlying352 Tryz.underlying9 b7n hd i z hz
 have tb:=b2G b8z c3g Tryz.underlying314 Tryz.underlying3 c6I c3C ht
 have hsz:10<=W.heap.size:=by
  have h0:(((begin Tryz.prog (fun _ _=>0) default).world.heap[9]?).bind Obj.row?).isSome=true:=by kernel_rfl
  obtain⟨⟨zero,t⟩,h1⟩:=Option.isSome_iff_exists.1 h0;obtain⟨cs,hh,_⟩:=hS.1 9 zero t (of_decide_eq_true (by kernel_rfl)) h1;exact (Array.getElem?_eq_some_iff.1 hh).1
 exact⟨⟨tb.cell b8z 0 (by decide),tb.cell b8z 1 (by decide),tb.cell b8z 2 (by decide),tb.cell b8z 3 (by decide),tb.cell b8z 4 (by decide),tb.cell b8z 5 (by decide),tb.cell b8z 6 (by decide),tb.cell b8z 7 (by decide),tb.cell b8z 8 (by decide),tb.cell b8z 9 (by decide),tb.cell b8z 10 (by decide),tb.cell b8z 11 (by decide)⟩,cell_of_shapedOpen_int (zero:=#[.int .i64 0]) (t:=3) hS (of_decide_eq_true (by kernel_rfl)) (by kernel_rfl) rfl (by kernel_rfl) (by kernel_rfl) Tryz.underlying3,
  b2G c6q c3f Tryz.underlying306 Tryz.underlying265 c3z c3B hp,hsz,
  day 0 _ rfl,day 1 _ rfl,day 2 _ rfl,day 3 _ rfl,day 4 _ rfl,day 5 _ rfl,day 6 _ rfl⟩
end Go.Proofs.YtfigmlfdnickmaaGreatDoor.EnvLaid
