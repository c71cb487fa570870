/-
  Parts of the proof, one behind the other.
-/
import Derived.Test.YtfigmlfdnickmaaGreatDoorL19
set_option maxRecDepth 100000
set_option maxHeartbeats 8000000
variable{t x:ByteArray}{a b e:Int}{ws:List ByteArray}{i k wn:Nat}{v:Go.Value}{W:Go.World}
namespace Go.Proofs.YtfigmlfdnickmaaGreatDoor
open Go.RowKit
open Desk (Ent St Inv a0h a2x a1q Rep)
theorem d2W(w:World)(l m:List (Ent × Value))(err at_ n:Int)(v1 v2 v3 v4 u1 u2 u3 u4:Value)(da gr ed:List Int)(h1:EV w v1 l)(k1:EV w u1 m)(he:l.map (·.1)=m.map (·.1))(hl:l.length<=1000)(hs:∀ p∈l,p.1.a0e.length<=1000)
  (h2:w.ownsRow 0 3 1 v2 da.length (da.map (Value.int .i64))) (k2:w.ownsRow 0 3 1 u2 da.length (da.map (Value.int .i64))) (h3:w.ownsRow 0 3 1 v3 gr.length (gr.map (Value.int .i64))) (k3:w.ownsRow 0 3 1 u3 gr.length (gr.map (Value.int .i64))) (h4:w.ownsRow 0 3 1 v4 ed.length (ed.map (Value.int .i64))) (k4:w.ownsRow 0 3 1 u4 ed.length (ed.map (Value.int .i64))) (b2:da.length<=1000000) (b3:gr.length<=1000000) (b4:ed.length<=1000000):
  Calls Tryz.prog 36 #[.agg #[.int .i64 err,.int .i64 at_,.int .i64 n,v1,v2,v3,v4],.agg #[.int .i64 err,.int .i64 at_,.int .i64 n,u1,u2,u3,u4]] w fun e w'=>e=.returned (.bool true)/\Below w.heap.size w w':=by
 have kX:Below w.heap.size w ((w.alloc (a5w err at_ n v1 v2 v3 v4)).alloc (a5w err at_ n u1 u2 u3 u4)):=((Below.refl w.heap.size w).alloc (Nat.le_refl _) _).trans (((Below.refl (w.alloc (a5w err at_ n v1 v2 v3 v4)).heap.size (w.alloc (a5w err at_ n v1 v2 v3 v4))).alloc (Nat.le_refl _) _).mono (by simp))
 have HX:=a0b kX;have RA:Hid (((w.alloc (a5w err at_ n v1 v2 v3 v4)).alloc (a5w err at_ n u1 u2 u3 u4)).heap[w.heap.size]?=some (a5w err at_ n v1 v2 v3 v4)):=((((Below.refl (w.alloc (a5w err at_ n v1 v2 v3 v4)).heap.size (w.alloc (a5w err at_ n v1 v2 v3 v4))).alloc (Nat.le_refl _) (a5w err at_ n u1 u2 u3 u4)).block w.heap.size (by simp)).trans (a0p w _))
 have RB:Hid (((w.alloc (a5w err at_ n v1 v2 v3 v4)).alloc (a5w err at_ n u1 u2 u3 u4)).heap[w.heap.size+1]?=some (a5w err at_ n u1 u2 u3 u4)):=by
  have:=a0p (w.alloc (a5w err at_ n v1 v2 v3 v4)) (a5w err at_ n u1 u2 u3 u4);have e:(w.alloc (a5w err at_ n v1 v2 v3 v4)).heap.size=w.heap.size+1:=by simp
  rw[e] at this;exact this
 have H1:=a0b h1;have K1:=a0b k1;have H2:=a0b h2;have K2:=a0b k2;have H3:=a0b h3;have K3:=a0b k3;have H4:=a0b h4;have K4:=a0b k4;have HE:=a0b he;have HS:=a0b hs;clear h1 k1 h2 k2 h3 k3 h4 k4 he hs kX
 go_enter Tryz.func36,Tryz.ntmps36
 go_upto_region 1 with fail
 change Code.wp _ _ _ _ ((w.alloc (a5w err at_ n v1 v2 v3 v4)).alloc (a5w err at_ n u1 u2 u3 u4));generalize (w.alloc (a5w err at_ n v1 v2 v3 v4)).alloc (a5w err at_ n u1 u2 u3 u4)=V at HX RA RB ⊢
 have KA:Hid (∀ W',Below V.heap.size V W'->(W'.cell? ⟨w.heap.size,0,none⟩=some (.int .i64 err)/\W'.cell? ⟨w.heap.size,1,none⟩=some (.int .i64 at_)/\W'.cell? ⟨w.heap.size,2,none⟩=some (.int .i64 n)/\W'.cell? ⟨w.heap.size,3,none⟩=some v1/\W'.cell? ⟨w.heap.size,4,none⟩=some v2/\W'.cell? ⟨w.heap.size,5,none⟩=some v3/\W'.cell? ⟨w.heap.size,6,none⟩=some v4)/\(W'.cell? ⟨w.heap.size+1,0,none⟩=some (.int .i64 err)/\W'.cell? ⟨w.heap.size+1,1,none⟩=some (.int .i64 at_)/\W'.cell? ⟨w.heap.size+1,2,none⟩=some (.int .i64 n)/\W'.cell? ⟨w.heap.size+1,3,none⟩=some u1/\W'.cell? ⟨w.heap.size+1,4,none⟩=some u2/\W'.cell? ⟨w.heap.size+1,5,none⟩=some u3/\W'.cell? ⟨w.heap.size+1,6,none⟩=some u4)):=fun W' k =>
  ⟨a2T ((k.block _ (Array.getElem?_eq_some_iff.1 RA.out).1).trans RA.out),a2T ((k.block _ (Array.getElem?_eq_some_iff.1 RB.out).1).trans RB.out)⟩
 have S1:=a0b (fun W' (k:Below V.heap.size V W')=>a8V l m v1 u1 W' ((H1.out.later HX.out).later k) ((K1.out.later HX.out).later k) HE.out hl HS.out)
 have S2:=a0b (fun W' (k:Below V.heap.size V W')=>f1K da da v2 u2 0 0 W' (c6T (c6T H2.out HX.out) k) (c6T (c6T K2.out HX.out) k) b2)
 have S3:=a0b (fun W' (k:Below V.heap.size V W')=>f1K gr gr v3 u3 0 0 W' (c6T (c6T H3.out HX.out) k) (c6T (c6T K3.out HX.out) k) b3)
 have S4:=a0b (fun W' (k:Below V.heap.size V W')=>f1K ed ed v4 u4 0 0 W' (c6T (c6T H4.out HX.out) k) (c6T (c6T K4.out HX.out) k) b4)
 rw[show decide (da=da)=true from by simp] at S2
 rw[show decide (gr=gr)=true from by simp] at S3
 rw[show decide (ed=ed)=true from by simp] at S4
 clear RA RB H1 K1 H2 K2 H3 K3 H4 K4 HE HS;generalize w.heap.size+1=Rb at KA ⊢;generalize hA:w.heap.size=Ra at KA ⊢;have HAe:=a0b hA;clear hA;obtain⟨⟨_,_,_,x3,x4,x5,x6⟩,⟨_,_,_,y3,y4,y5,y6⟩⟩:=KA.out V (Below.refl _ _)
 go_upto_region 2 with (first
  |(go_at_call 29;refine (S1.out _ (Below.refl _ _)).mono ?_;rintro e w1 ⟨rfl,hb⟩;have HB:=a0b hb;clear hb S1))
 clear x3 x4 x5 x6 y3 y4 y5 y6;obtain⟨⟨_,_,_,_,x4,_,_⟩,⟨_,_,_,_,y4,_,_⟩⟩:=KA.out _ HB.out
 go_upto_region 3 with (first
  |(go_at_call 34;refine (S2.out _ HB.out).mono ?_;rintro e w2 ⟨rfl,hb⟩;have HB2:=a0b (a0j HB.out hb (Nat.le_refl _));clear hb S2))
 clear x4 y4 HB;obtain⟨⟨_,_,_,_,_,x5,_⟩,⟨_,_,_,_,_,y5,_⟩⟩:=KA.out _ HB2.out
 go_upto_region 4 with (first
  |(go_at_call 34;refine (S3.out _ HB2.out).mono ?_;rintro e w3 ⟨rfl,hb⟩;have HB3:=a0b (a0j HB2.out hb (Nat.le_refl _));clear hb S3))
 clear x5 y5 HB2;obtain⟨⟨_,_,_,_,_,_,x6⟩,⟨_,_,_,_,_,_,y6⟩⟩:=KA.out _ HB3.out
 go_upto_region 5 with (first
  |(go_at_call 34;refine (S4.out _ HB3.out).mono ?_;rintro e w4 ⟨rfl,hb⟩;have HB4:=a0b (a0j HB3.out hb (Nat.le_refl _));clear hb S4))
 clear x6 y6 HB3;obtain⟨⟨x0,x1,x2,_,_,_,_⟩,⟨y0,y1,y2,_,_,_,_⟩⟩:=KA.out _ HB4.out;have HF:=a0b (HX.out.trans (HB4.out.mono HX.out.size));have q0:(err==err)=true:=by simp
 have q1:(at_==at_)=true:=by simp
 have q2:(n==n)=true:=by simp
 clear KA HB4 HX
 go_wp2_with fail
 go_ret;exact⟨rfl,HF.out⟩
theorem e4J{ds:List Dsk}{d:Dsk}(h:ds[i]?=some d):ds.set i d=ds:=by
 obtain⟨hl,e⟩:=List.getElem?_eq_some_iff.1 h;subst e;exact List.set_getElem_self hl
def d5a:Nat->ByteArray
 |0=>⟨#[108,105,115,116,32,97]⟩
 |1=>⟨#[108,105,115,116,32,98]⟩
 |2=>⟨#[119,97,105,116,105,110,103]⟩
 |_=>⟨#[99,108,111,99,107]⟩
def d3o:Obj:=.cells #[.string (d5a 0),.string (d5a 1),.string (d5a 2),.string (d5a 3)] 9 (0,0)
theorem f0f{b:Nat}(h:W.heap[b]?=some d3o)(k:Nat)(hk:k<4):W.cell? ⟨b,k,none⟩=some (.string (d5a k)):=by
 unfold d3o at h;have:k=0\/k=1\/k=2\/k=3:=by omega
 rcases this with rfl|rfl|rfl|rfl <;> (simp only[World.cell?,h];rfl)
structure f5A(s:St)(k:Nat)(rep:Rep):Prop where
 err:rep.err=0
 da:rep.days=[]
 gr:rep.granted=[]
 ed:rep.ended=[]
 len:rep.entries.length<=60
 sp:∀ e∈rep.entries,e.a0e.length<=1000
 go:∀ {X W:World}{ds:List Dsk}{ks:List (Nat × Obj)}{es:List (Value × List (Ent × Value))}{rs:List OR},CM X W ds ks es rs->∀ (i p dk:Nat),ds[i]?=some (p,dk,s)->Calls Tryz.prog 21 #[.pointer (some ⟨p,0,none⟩),.string (d5a k)] W fun e W'=>MDo X W ds i p dk ks es rs (s,rep) e W'
theorem f4l{s:St}(hi:Inv s)(ha:a0h (⟨#[97]⟩:ByteArray) s.ts≠0)(hb:a0h (⟨#[98]⟩:ByteArray) s.ts≠0)(k:Nat)(hk:k<4):∃ rep,f5A s k rep:=by
 have esp:∀ e∈s.es,e.a0e.length<=1000:=fun e he=>by have:=(hi.en e he).sl;omega
 have:k=0\/k=1\/k=2\/k=3:=by omega
 rcases this with rfl|rfl|rfl|rfl
 ·exact⟨_,rfl,rfl,rfl,rfl,Desk.c2P hi _,fun e he=>esp e (Desk.b6I hi _ he).1,fun h i p dk hd=>h.line i hd (b8g c7k rfl) (LV.list (⟨#[97]⟩:ByteArray) (by decide) false 0 0 0 1048320 rfl rfl) ⟨by omega,by omega,by omega,by omega⟩ (Desk.c0t hi ha)⟩
 ·exact⟨_,rfl,rfl,rfl,rfl,Desk.c2P hi _,fun e he=>esp e (Desk.b6I hi _ he).1,fun h i p dk hd=>h.line i hd (b8g c7j rfl) (LV.list (⟨#[98]⟩:ByteArray) (by decide) false 0 0 0 1048320 rfl rfl) ⟨by omega,by omega,by omega,by omega⟩ (Desk.c0t hi hb)⟩
 ·exact⟨_,rfl,rfl,rfl,rfl,Nat.le_trans (List.length_filter_le ..) (Desk.c6C hi),fun e he=>esp e (List.mem_filter.1 he).1,fun h i p dk hd=>h.line i hd d9f LV.waiting trivial (d5K hi)⟩
 ·exact⟨_,rfl,rfl,rfl,rfl,by simp[Rep.num],fun e he=>by simp[Rep.num] at he,fun h i p dk hd=>h.line i hd e4h LV.clock trivial (e7G hi)⟩
theorem f0e{X:World}{ds:List Dsk}{ks:List (Nat × Obj)}{rs:List OR}(h:CM X W ds ks [] rs){j p1 d1 p2 d2:Nat}{s:St}(hi:ds[i]?=some (p1,d1,s))(hj:ds[j]?=some (p2,d2,s))(ha:a0h (⟨#[97]⟩:ByteArray) s.ts≠0)(hb:a0h (⟨#[98]⟩:ByteArray) s.ts≠0):
  Calls Tryz.prog 37 #[.pointer (some ⟨p1,0,none⟩),.pointer (some ⟨p2,0,none⟩)] W fun e W'=>e=.returned (.bool true)/\CM X W' ds ks [] rs:=by
 have AQ:=a0b (f4l (h.inv hi) ha hb);have HC:=a0b (h.alloc d3o);have HI:=a0b hi;have HJ:=a0b hj;clear h ha hb hi hj
 go_enter Tryz.func37,Tryz.ntmps37
 go_upto_region 2 with fail
 change Code.wp _ _ _ _ (W.alloc d3o);generalize W.alloc d3o=V at HC ⊢;generalize W.heap.size=lb at HC ⊢
 go_upto_region 3 with fail
 go_loopw [6,7,8,9] (fun vk _ _ _ wr=>∃ k:Nat,k<=4/\vk=.int .i64 k/\CM X wr ds ((lb,d3o) :: ks) [] rs) (fun vk _ _ _ _=>4-(intOf vk).toNat)
 case atStart=>exact⟨0,by omega,rfl,HC.out⟩
 case round =>
  obtain⟨k,hk,rfl,hcm⟩:=hrel;replace HC:=a0b hcm;clear hcm
  by_cases hlt:k<4
  ·have hlt':(k:Int)<4:=by omega
   obtain⟨rep,ra⟩:=AQ.out k hlt;have LO:Hid (∀ W' kk ee rr,CM X W' ds (kk++(lb,d3o) :: ks) ee rr->W'.cell? ⟨lb,k,none⟩=some (.string (d5a k))):=fun W' kk ee rr hc=>f0f (hc.kb (List.mem_append_right _ (List.mem_cons_self ..))) k hlt
   have GO:Hid (∀ (W':World) (kk:List (Nat × Obj)) (ee:List (Value × List (Ent × Value))) (rr:List OR),CM X W' ds kk ee rr->∀ (i p dk:Nat),ds[i]?=some (p,dk,s)->Calls Tryz.prog 21 #[.pointer (some ⟨p,0,none⟩),.string (d5a k)] W' fun e W''=>MDo X W' ds i p dk kk ee rr (s,rep) e W''):=fun W' kk ee rr hc i p dk hd=>ra.go hc i p dk hd
   have e0:=ra.err;have e1:=ra.da;have e2:=ra.gr;have e3:=ra.ed;have LB:=a0b (And.intro ra.len ra.sp);clear ra;have c0:=LO.out wr [] [] rs HC.out;generalize d5a k=t at LO GO c0
   go_upto_region 6 with (first
    |(go_at_call 21;refine (GO.out _ _ _ _ HC.out i p1 d1 HI.out).mono ?_;rintro e w1 ⟨l,a1,a2,a3,a4,c1,c2,c3,c4,rfl,hents,hc1,_⟩;have HE1:=a0b hents;replace HC:=a0b hc1;clear hc1 hents c0))
   replace HC:Hid (CM X w1 ds ((lb,d3o) :: ks) [(.slice a1 l.length c1,l)] (c9T (.slice a2 0 c2) [] :: c9T (.slice a3 0 c3) [] :: c9T (.slice a4 0 c4) [] :: rs)):=by
    have h:CM X w1 (ds.set i (p1,d1,s)) ((lb,d3o) :: ks) [(.slice a1 l.length c1,l)] (c9T (.slice a2 rep.days.length c2) rep.days :: c9T (.slice a3 rep.granted.length c3) rep.granted :: c9T (.slice a4 rep.ended.length c4) rep.ended :: rs):=HC.out;rw[e4J HI.out,e1,e2,e3] at h;exact h
   change Code.wp _ _ _ _ (w1.alloc (a5w 0 rep.at_ rep.n (.slice a1 l.length c1) (.slice a2 0 c2) (.slice a3 0 c3) (.slice a4 0 c4)));replace HC:=a0b (HC.out.alloc (a5w 0 rep.at_ rep.n (.slice a1 l.length c1) (.slice a2 0 c2) (.slice a3 0 c3) (.slice a4 0 c4)));generalize w1.alloc (a5w 0 rep.at_ rep.n (.slice a1 l.length c1) (.slice a2 0 c2) (.slice a3 0 c3) (.slice a4 0 c4))=V1 at HC ⊢;generalize w1.heap.size=xb at HC ⊢;have c0:=LO.out V1 [_] _ _ HC.out
   go_upto_region 7 with (first
    |(go_at_call 21;refine (GO.out _ _ _ _ HC.out j p2 d2 HJ.out).mono ?_;rintro e w2 ⟨m,b1,b2,b3,b4,d1',d2',d3,d4,rfl,hents,hc2,_⟩;have HE2:=a0b hents;replace HC:=a0b hc2;clear hc2 hents c0))
   replace HC:Hid (CM X w2 ds ((xb,a5w 0 rep.at_ rep.n (.slice a1 l.length c1) (.slice a2 0 c2) (.slice a3 0 c3) (.slice a4 0 c4)) :: (lb,d3o) :: ks) [(.slice b1 m.length d1',m),(.slice a1 l.length c1,l)] (c9T (.slice b2 0 d2') [] :: c9T (.slice b3 0 d3) [] :: c9T (.slice b4 0 d4) [] :: c9T (.slice a2 0 c2) [] :: c9T (.slice a3 0 c3) [] :: c9T (.slice a4 0 c4) [] :: rs)):=by
    have h:CM X w2 (ds.set j (p2,d2,s)) _ [(.slice b1 m.length d1',m),(.slice a1 l.length c1,l)] (c9T (.slice b2 rep.days.length d2') rep.days :: c9T (.slice b3 rep.granted.length d3) rep.granted :: c9T (.slice b4 rep.ended.length d4) rep.ended :: c9T (.slice a2 0 c2) [] :: c9T (.slice a3 0 c3) [] :: c9T (.slice a4 0 c4) [] :: rs):=HC.out;rw[e4J HJ.out,e1,e2,e3] at h;exact h
   change Code.wp _ _ _ _ (w2.alloc (a5w 0 rep.at_ rep.n (.slice b1 m.length d1') (.slice b2 0 d2') (.slice b3 0 d3) (.slice b4 0 d4)));replace HC:=a0b (HC.out.alloc (a5w 0 rep.at_ rep.n (.slice b1 m.length d1') (.slice b2 0 d2') (.slice b3 0 d3) (.slice b4 0 d4)));generalize w2.alloc (a5w 0 rep.at_ rep.n (.slice b1 m.length d1') (.slice b2 0 d2') (.slice b3 0 d3) (.slice b4 0 d4))=V2 at HC ⊢;generalize w2.heap.size=yb at HC ⊢
   have SR:=a0b (d2W V2 l m 0 rep.at_ rep.n (.slice a1 l.length c1) (.slice a2 0 c2) (.slice a3 0 c3) (.slice a4 0 c4) (.slice b1 m.length d1') (.slice b2 0 d2') (.slice b3 0 d3) (.slice b4 0 d4) [] [] [] (HC.out.ev (List.mem_cons_of_mem _ (List.mem_cons_self ..))) (HC.out.ev (List.mem_cons_self ..)) (HE1.out.trans HE2.out.symm) (by
     have:=LB.out.1;rw[<- HE1.out,List.length_map] at this
     omega) (fun q hq=>LB.out.2 q.1 (by
     have:=HE1.out;show q.1∈rep.entries;rw[<- this]
     exact List.mem_map.2 ⟨q,hq,rfl⟩))
    (HC.out.row (q:=c9T (.slice a2 0 c2) []) (by simp)) (HC.out.row (q:=c9T (.slice b2 0 d2') []) (by simp)) (HC.out.row (q:=c9T (.slice a3 0 c3) []) (by simp)) (HC.out.row (q:=c9T (.slice b3 0 d3) []) (by simp)) (HC.out.row (q:=c9T (.slice a4 0 c4) []) (by simp)) (HC.out.row (q:=c9T (.slice b4 0 d4) []) (by simp)) (by simp) (by simp) (by simp))
   obtain⟨y0,y1,y2,y3,y4,y5,y6⟩:=a2T (HC.out.kb (List.mem_cons_self ..));obtain⟨x0,x1,x2,x3,x4,x5,x6⟩:=a2T (HC.out.kb (b:=xb) (List.mem_cons_of_mem _ (List.mem_cons_self ..)))
   go_upto_region 8 with (first
    |(go_at_call 36;refine SR.out.mono ?_;rintro e w3 ⟨rfl,hb⟩;replace x0:=a0a hb x0;replace HC:=a0b (HC.out.later hb);clear hb SR y0 y1 y2 y3 y4 y5 y6 x1 x2 x3 x4 x5 x6))
   have HF:Hid (CM X w3 ds ((lb,d3o) :: ks) [] rs):=HC.out.less (fun q hq=>List.mem_cons_of_mem _ (List.mem_cons_of_mem _ hq)) (by simp) (fun q hq=>by simp[hq])
   clear HC GO LO LB HE1 HE2
   go_wp2_with fail
   go_roundw
   case rel=>exact⟨k+1,by omega,by go_num,HF.out⟩
   case measure=>simp[intOf];omega
  ·have hlt':¬ (k:Int)<4:=by omega
   have HF:Hid (CM X wr ds ks [] rs):=HC.out.less (fun q hq=>List.mem_cons_of_mem _ hq) (by simp) (fun q hq=>hq)
   clear HC
   go_wp2_with fail
   go_ret;exact⟨rfl,HF.out⟩
namespace Desk
theorem d9a(p:Ent->Bool):∀ l:List Ent,(l.filter p).length+(l.filter fun e=>!p e).length=l.length
 |[]=>rfl
 |a :: r=>by
  have ih:=d9a p r;simp only[List.filter_cons]
  cases p a <;> simp <;> omega
theorem d8u(ts:List (ByteArray × Int)):∀ (k:Nat)(es:List Ent)(now tq:Int),(a1K ts k es now tq).2.1.length<=es.length
 |0,es,_,_=>by simp[a1K]
 |k+1,es,now,tq=>by
  simp only[a1K]
  split
  ·have h1:=d8u ts k (a0R ts (es.filter fun e=>!a0z (a3D tq es) e)).1 (a3D tq es) tq
   have h2:=a7H ts (es.filter fun e=>!a0z (a3D tq es) e)
   have h3:=d9a (a0z (a3D tq es)) es;simp only[List.length_append,List.length_map];omega
  ·simp
structure f5z(s:St)(r:Rep):Prop where
 en:r.entries.length<=60
 es:∀ e∈r.entries,e∈s.es
 da:r.days.length<=60
 ed:r.ended.length<=60
theorem f5z.plain{s:St}{r:Rep}(h1:r.entries=[])(h2:r.days=[])(h3:r.ended=[]):f5z s r:=⟨by rw[h1];simp,by rw[h1];simp,by rw[h2];simp,by rw[h3];simp⟩
theorem e7j{s:St}(h:Inv s){l:a7U}(hl:a1O l):f5z s (a0g s l).2:=by
 cases l with
 |a0k name u=>simp only[a0g];split <;> first|exact .plain rfl rfl rfl|(split <;> exact .plain rfl rfl rfl)
 |enter k name u fr til long=>simp only[a0g];split <;> exact .plain rfl rfl rfl
 |series name u r=>simp only[a0g];split <;> exact .plain rfl rfl rfl
 |confirm id =>
  simp only[a0g]
  split
  ·exact .plain rfl rfl rfl
  ·split <;> exact .plain rfl rfl rfl
 |cancel id=>simp only[a0g];split <;> exact .plain rfl rfl rfl
 |list name fr til =>
  simp only[a0g]
  split
  ·exact .plain rfl rfl rfl
  ·split
   ·exact .plain rfl rfl rfl
   ·have hm:∀ e∈a2x name fr til s.es,e∈s.es:=fun e he=>(List.mem_filter.1 (a4U.1 he)).1
    have hlen:(a2x name fr til s.es).length<=60:=by
     have:=c6C h;have e:=(a3Y (a:=fr) (b:=til) (s.es.filter (b7U name fr til))).length_eq;have f:=List.length_filter_le (b7U name fr til) s.es;unfold a2x;omega
    exact⟨hlen,hm,by simp[Rep.num],by simp[Rep.num]⟩
 |waiting=>exact⟨Nat.le_trans (List.length_filter_le ..) (c6C h),fun e he=>(List.mem_filter.1 he).1,by simp[a0g,Rep.num],by simp[a0g,Rep.num]⟩
 |peak name fr til=>simp only[a0g];split <;> first|exact .plain rfl rfl rfl|(split <;> exact .plain rfl rfl rfl)
 |find name u long fr til=>simp only[a0g];split <;> first|exact .plain rfl rfl rfl|(split <;> exact .plain rfl rfl rfl)
 |expand r =>
  simp only[a0g]
  split
  ·exact .plain rfl rfl rfl
  ·rename_i c
   have hf:Rd.a6s r:=hl;have:=((Rd.a5K hf).2 (by omega)).2.2.1
   exact⟨by simp[Rep.num],by simp[Rep.num],by show (Rd.a0E r).length<=60;omega,by simp[Rep.num]⟩
 |tick n =>
  simp only[a0g]
  split
  ·exact .plain rfl rfl rfl
  ·have h1:=d8u s.ts (s.es.length+1) s.es s.now (s.now+n);have h2:=c6C h;exact⟨by simp[Rep.num],by simp[Rep.num],by simp[Rep.num],by show (a1K s.ts (s.es.length+1) s.es s.now (s.now+n)).2.1.length<=60;omega⟩
 |clock=>exact .plain rfl rfl rfl
theorem e6u{s:St}(h:Inv s){l:a7U}(hl:a1O l):f5z s (a1q s l).2/\(a1q s l).2.granted.length<=100000:=by
 have h1:=e7j h hl;have h2:=c3u h.mid l;unfold a1q
 split
 ·exact⟨h1,by omega⟩
 ·refine⟨⟨h1.en,h1.es,h1.da,h1.ed⟩,?_⟩;have h3:=b8x (a0g s l).1.ts (a0g s l).1.es;have h4:=a1x (b7f h hl);simp only[List.length_append];omega
end Desk
theorem e2W{s:Desk.St}(h:Desk.Inv s)(t:ByteArray):Desk.f5z s (stepT s t).2/\(stepT s t).2.granted.length<=100000:=by
 have hr:=c2y t;unfold stepT
 cases hq:b9K t with
 |inl q=>exact⟨.plain rfl rfl rfl,by simp⟩
 |inr l =>
  rw[hq] at hr;obtain⟨line,_,_,hl⟩:=hr;exact Desk.e6u h hl
open Desk (St Rep)
def e8N:List ByteArray:=[⟨#[50,32,48,32]⟩,⟨#[50,32,48,32,110,111,110,115,101,110,115,101]⟩,⟨#[50,32,49,32,99,108,111,99,107,32,110,111,119]⟩,⟨#[50,32,50,32,98,111,111,107,32,97,32,48,32,49,32,50]⟩,⟨#[50,32,50,32,98,111,111,107,32,97,32,49,48,32,49,32,50]⟩,⟨#[50,32,51,32,98,111,111,107,32,97,32,49,32,49,48,52,56,51,50,49,32,50]⟩,⟨#[50,32,52,32,98,111,111,107,32,97,32,49,32,49]⟩,⟨#[50,32,49,32,98,111,111,107,32,97,98,99,100,101,102,103,104,105,32,49,32,49,32,50]⟩,⟨#[50,32,49,32,116,105,99,107,32,48]⟩,⟨#[50,32,51,32,98,111,111,107,32,97,32,49,32,50,48,50,52,45,48,50,45,51,48,47,49,48,58,48,48,32,53]⟩,⟨#[50,32,51,32,108,105,115,116,32,97,32,53]⟩,⟨#[50,32,53,32,98,111,111,107,32,97,32,49,32,49,32,50,32,51]⟩,⟨#[50,32,51,32,101,120,112,97,110,100,32,119,101,101,107,108,121,32,49,32,109,111,44,109,111,32,102,114,111,109,32,50,48,50,52,45,48,49,45,48,49,32,97,116,32,48,48,58,48,48,32,102,111,114,32,49,32,116,105,109,101,115,32,49]⟩,⟨#[51,32,48,32,98,111,111,107,32,99,32,49,32,49,32,50]⟩,⟨#[51,32,48,32,108,105,115,116,32,99]⟩,⟨#[51,32,48,32,112,101,97,107,32,99,32,53,32,53]⟩,⟨#[51,32,48,32,102,105,110,100,32,99,32,49,32,49,32,48,32,57]⟩,⟨#[51,32,48,32,115,101,114,105,101,115,32,99,32,49,32,100,97,105,108,121,32,49,32,102,114,111,109,32,50,48,50,52,45,48,49,45,48,49,32,97,116,32,48,48,58,48,48,32,102,111,114,32,49,32,116,105,109,101,115,32,57,57]⟩,⟨#[52,32,48,32,116,104,105,110,103,32,97,32,51]⟩,⟨#[55,32,48,32,98,111,111,107,32,97,32,50,32,53,32,53]⟩,⟨#[55,32,48,32,119,97,105,116,32,97,32,50,32,49,32,50,32,51]⟩,⟨#[54,32,48,32,98,111,111,107,32,97,32,49,32,53,32,53]⟩,⟨#[54,32,48,32,104,111,108,100,32,97,32,49,32,49,32,50,32,49,48,52,56,51,50,48]⟩,⟨#[54,32,48,32,108,105,115,116,32,97,32,53,32,53]⟩,⟨#[54,32,48,32,102,105,110,100,32,97,32,49,32,49,32,57,32,57]⟩,⟨#[54,32,48,32,116,105,99,107,32,49,48,52,56,51,50,48]⟩,⟨#[56,32,48,32,98,111,111,107,32,97,32,49,32,49,57,57,32,50,48,49]⟩,⟨#[56,32,48,32,104,111,108,100,32,97,32,49,32,48,32,49,48,49,32,53]⟩,⟨#[56,32,48,32,115,101,114,105,101,115,32,97,32,49,32,100,97,105,108,121,32,49,32,102,114,111,109,32,50,48,50,52,45,48,49,45,48,49,32,97,116,32,48,48,58,48,48,32,102,111,114,32,49,48,48,48,32,116,105,109,101,115,32,50]⟩,⟨#[57,32,48,32,99,111,110,102,105,114,109,32,48]⟩,⟨#[57,32,48,32,99,97,110,99,101,108,32,54,49]⟩,⟨#[49,48,32,48,32,99,111,110,102,105,114,109,32,49]⟩,⟨#[49,49,32,48,32,101,120,112,97,110,100,32,100,97,105,108,121,32,49,32,102,114,111,109,32,50,48,50,52,45,48,49,45,48,49,32,97,116,32,48,48,58,48,48,32,102,111,114,32,49,32,116,105,109,101,115,32,52,49]⟩,⟨#[49,49,32,48,32,115,101,114,105,101,115,32,98,32,49,32,100,97,105,108,121,32,49,32,102,114,111,109,32,50,48,50,52,45,48,49,45,48,49,32,97,116,32,48,48,58,48,48,32,102,111,114,32,49,32,117,110,116,105,108,32,50,48,50,52,45,48,50,45,49,48]⟩,⟨#[54,32,48,32,101,120,112,97,110,100,32,100,97,105,108,121,32,49,32,102,114,111,109,32,50,48,50,53,45,49,50,45,50,56,32,97,116,32,48,48,58,48,48,32,102,111,114,32,49,52,52,49,32,116,105,109,101,115,32,49]⟩,⟨#[54,32,48,32,101,120,112,97,110,100,32,100,97,105,108,121,32,49,32,102,114,111,109,32,50,48,50,53,45,49,50,45,50,56,32,97,116,32,48,48,58,48,48,32,102,111,114,32,49,32,116,105,109,101,115,32,50]⟩,⟨#[54,32,48,32,101,120,112,97,110,100,32,119,101,101,107,108,121,32,49,32,116,117,32,102,114,111,109,32,50,48,50,52,45,48,49,45,48,51,32,97,116,32,48,48,58,48,48,32,102,111,114,32,49,32,117,110,116,105,108,32,50,48,50,52,45,48,49,45,48,56]⟩]
def ft(i:Nat):ByteArray:=(e8N.getD i ByteArray.empty).extract (if 30<i/\i<34 then 5 else 4) 99
theorem f5t{n:Nat}(h:a7T t (.returned (.tuple #[.nilIface,.int .i64 2,.int .i64 n])))(s:St):stepT s t=(s,⟨2,n,0,[],[],[],[]⟩):=by
 have hr:=c2y t;unfold stepT
 cases hq:b9K t with
 |inl q =>
  obtain⟨er,at_⟩:=q;rw[hq] at hr;have:=hr.2.2 _ h;simp at this;obtain⟨rfl,rfl⟩:=this;rfl
 |inr l =>
  rw[hq] at hr;obtain⟨line,h1,_⟩:=hr;have:=h1 _ h;simp at this
theorem c9U{st:Nat × Bool}(hw:Txt.a1v t=ws)(hs:t.size<=160)(hl:a2H ws v st)(hb:st.2=true\/a1b ws.length st.1 st.2=true)(n:Nat)(hn:st.1=n)(s:St):stepT s t=(s,⟨2,n,0,[],[],[],[]⟩):=by
 subst hw;subst hn;exact f5t (.bad hs v st hl hb) s
theorem f7t(s:St):stepT s (⟨#[]⟩:ByteArray)=(s,⟨2,0,0,[],[],[],[]⟩):=by
 have h:=c9U (t:=(⟨#[]⟩:ByteArray)) (ws:=[]) (by decide +kernel) (by decide +kernel) (a2H.none (by decide +kernel) (by decide +kernel) (by decide +kernel) (by decide +kernel) (by decide +kernel) (by decide +kernel) (by decide +kernel) (by decide +kernel) (by decide +kernel) (by decide +kernel) (by decide +kernel) (by decide +kernel) (by decide +kernel) (by decide +kernel)) (by decide +kernel) 0 (by decide +kernel) s
 exact h
theorem f7s(s:St):stepT s (ft 1)=(s,⟨2,0,0,[],[],[],[]⟩):=by
 have h:=c9U (t:=(ft 1)) (ws:=[(ft 1)]) (by decide +kernel) (by decide +kernel) (a2H.none (by decide +kernel) (by decide +kernel) (by decide +kernel) (by decide +kernel) (by decide +kernel) (by decide +kernel) (by decide +kernel) (by decide +kernel) (by decide +kernel) (by decide +kernel) (by decide +kernel) (by decide +kernel) (by decide +kernel) (by decide +kernel)) (by decide +kernel) 0 (by decide +kernel) s
 exact h
theorem f7r(s:St):stepT s (ft 2)=(s,⟨2,1,0,[],[],[],[]⟩):=by
 have h:=c9U (t:=(ft 2)) (ws:=[b1c,⟨#[110,111,119]⟩]) (by decide +kernel) (by decide +kernel) (a2H.clock (by decide +kernel)) (by decide +kernel) 1 (by decide +kernel) s
 exact h
theorem f7q(s:St):stepT s (ft 3)=(s,⟨2,2,0,[],[],[],[]⟩):=by
 have h:=c9U (t:=(ft 3)) (ws:=[a9P,⟨#[97]⟩,⟨#[48]⟩,⟨#[49]⟩,⟨#[50]⟩]) (by decide +kernel) (by decide +kernel) (a2H.book (by decide +kernel)) (by decide +kernel) 2 (by decide +kernel) s
 exact h
theorem f7p(s:St):stepT s (ft 4)=(s,⟨2,2,0,[],[],[],[]⟩):=by
 have h:=c9U (t:=(ft 4)) (ws:=[a9P,⟨#[97]⟩,⟨#[49,48]⟩,⟨#[49]⟩,⟨#[50]⟩]) (by decide +kernel) (by decide +kernel) (a2H.book (by decide +kernel)) (by decide +kernel) 2 (by decide +kernel) s
 exact h
theorem f7o(s:St):stepT s (ft 5)=(s,⟨2,3,0,[],[],[],[]⟩):=by
 have h:=c9U (t:=(ft 5)) (ws:=[a9P,⟨#[97]⟩,⟨#[49]⟩,⟨#[49,48,52,56,51,50,49]⟩,⟨#[50]⟩]) (by decide +kernel) (by decide +kernel) (a2H.book (by decide +kernel)) (by decide +kernel) 3 (by decide +kernel) s
 exact h
theorem f7n(s:St):stepT s (ft 6)=(s,⟨2,4,0,[],[],[],[]⟩):=by
 have h:=c9U (t:=(ft 6)) (ws:=[a9P,⟨#[97]⟩,⟨#[49]⟩,⟨#[49]⟩]) (by decide +kernel) (by decide +kernel) (a2H.book (by decide +kernel)) (by decide +kernel) 4 (by decide +kernel) s
 exact h
theorem f7m(s:St):stepT s (ft 7)=(s,⟨2,1,0,[],[],[],[]⟩):=by
 have h:=c9U (t:=(ft 7)) (ws:=[a9P,⟨#[97,98,99,100,101,102,103,104,105]⟩,⟨#[49]⟩,⟨#[49]⟩,⟨#[50]⟩]) (by decide +kernel) (by decide +kernel) (a2H.book (by decide +kernel)) (by decide +kernel) 1 (by decide +kernel) s
 exact h
theorem f7l(s:St):stepT s (ft 8)=(s,⟨2,1,0,[],[],[],[]⟩):=by
 have h:=c9U (t:=(ft 8)) (ws:=[b4n,⟨#[48]⟩]) (by decide +kernel) (by decide +kernel) (a2H.tick (by decide +kernel)) (by decide +kernel) 1 (by decide +kernel) s
 exact h
theorem f7k(s:St):stepT s (ft 9)=(s,⟨2,3,0,[],[],[],[]⟩):=by
 have h:=c9U (t:=(ft 9)) (ws:=[a9P,⟨#[97]⟩,⟨#[49]⟩,⟨#[50,48,50,52,45,48,50,45,51,48,47,49,48,58,48,48]⟩,⟨#[53]⟩]) (by decide +kernel) (by decide +kernel) (a2H.book (by decide +kernel)) (by decide +kernel) 3 (by decide +kernel) s
 exact h
theorem f4F(s:St):stepT s (ft 10)=(s,⟨2,3,0,[],[],[],[]⟩):=by
 have h:=c9U (t:=(ft 10)) (ws:=[a5Q,⟨#[97]⟩,⟨#[53]⟩]) (by decide +kernel) (by decide +kernel) (a2H.list1 (by decide +kernel) (by decide +kernel)) (by decide +kernel) 3 (by decide +kernel) s
 exact h
theorem f4E(s:St):stepT s (ft 11)=(s,⟨2,5,0,[],[],[],[]⟩):=by
 have h:=c9U (t:=(ft 11)) (ws:=[a9P,⟨#[97]⟩,⟨#[49]⟩,⟨#[49]⟩,⟨#[50]⟩,⟨#[51]⟩]) (by decide +kernel) (by decide +kernel) (a2H.book (by decide +kernel)) (by decide +kernel) 5 (by decide +kernel) s
 exact h
def e8O:Obj:=.cells (e8N.map Value.string).toArray 9 (0,0)
theorem e2t(w:World):Calls Tryz.prog 39 #[] w fun e w'=>e=.returned (.slice (some ⟨w.heap.size,0,none⟩) 37 37)/\w'=w.alloc e8O:=by
 go_enter Tryz.func39,Tryz.ntmps39
 go_wp2_with fail
 go_ret;exact⟨rfl,rfl⟩
theorem f6N{b:Nat}(h:W.heap[b]?=some e8O)(k:Nat)(hk:k<37):W.cell? ⟨b,k,none⟩=some (.string (e8N[k]'(by show k<37;exact hk))):=by
 unfold e8O at h;simp only[World.cell?,h];simp[show k<e8N.length from hk]
theorem c8t{v':Value}{st:Nat × Bool}(hw:Txt.a1v t=ws)(hs:t.size<=160)(hl:a2H ws v st)(h2:st=(ws.length,false))(hv:v=v'):Reads t v':=by
 subst hv;subst h2;exact a5G hw hs hl rfl
theorem f7L:Reads (ft 13) (.iface 154 (.agg #[.string ⟨#[99]⟩,.int .i64 1,.int .i64 1,.int .i64 2])) :=
 c8t (ws:=[a9P,⟨#[99]⟩,⟨#[49]⟩,⟨#[49]⟩,⟨#[50]⟩]) (by decide +kernel) (by decide +kernel) (a2H.book (by decide +kernel)) (by decide +kernel) (by
  congr 3 <;> first|rfl|(congr 1;decide +kernel)|(simp only[List.cons.injEq,Value.string.injEq,Value.int.injEq,true_and,and_true];decide +kernel))
theorem f7K:Reads (ft 14) (.iface 170 (.agg #[.string ⟨#[99]⟩,.bool false,.int .i64 0,.int .i64 0])) :=
 c8t (ws:=[a5Q,⟨#[99]⟩]) (by decide +kernel) (by decide +kernel) (a2H.list0 (by decide +kernel) (by decide +kernel)) (by decide +kernel) (by
  congr 3 <;> first|rfl|(congr 1;decide +kernel)|(simp only[List.cons.injEq,Value.string.injEq,Value.int.injEq,true_and,and_true];decide +kernel))
theorem f7J:Reads (ft 15) (.iface 176 (.agg #[.string ⟨#[99]⟩,.int .i64 5,.int .i64 5])) :=
 c8t (ws:=[a9a,⟨#[99]⟩,⟨#[53]⟩,⟨#[53]⟩]) (by decide +kernel) (by decide +kernel) (a2H.peak (by decide +kernel)) (by decide +kernel) (by
  congr 3 <;> first|rfl|(congr 1;decide +kernel)|(simp only[List.cons.injEq,Value.string.injEq,Value.int.injEq,true_and,and_true];decide +kernel))
theorem f7I:Reads (ft 16) (.iface 178 (.agg #[.string ⟨#[99]⟩,.int .i64 1,.int .i64 1,.int .i64 0,.int .i64 9])) :=
 c8t (ws:=[b5h,⟨#[99]⟩,⟨#[49]⟩,⟨#[49]⟩,⟨#[48]⟩,⟨#[57]⟩]) (by decide +kernel) (by decide +kernel) (a2H.find (by decide +kernel)) (by decide +kernel) (by
  congr 3 <;> first|rfl|(congr 1;decide +kernel)|(simp only[List.cons.injEq,Value.string.injEq,Value.int.injEq,true_and,and_true];decide +kernel))
theorem f7H:Reads (ft 18) (.iface 149 (.agg #[.string ⟨#[97]⟩,.int .i64 3])) :=
 c8t (ws:=[a3F,⟨#[97]⟩,⟨#[51]⟩]) (by decide +kernel) (by decide +kernel) (a2H.a0k (by decide +kernel)) (by decide +kernel) (by
  congr 3 <;> first|rfl|(congr 1;decide +kernel)|(simp only[List.cons.injEq,Value.string.injEq,Value.int.injEq,true_and,and_true];decide +kernel))
theorem f7G:Reads (ft 19) (.iface 154 (.agg #[.string ⟨#[97]⟩,.int .i64 2,.int .i64 5,.int .i64 5])) :=
 c8t (ws:=[a9P,⟨#[97]⟩,⟨#[50]⟩,⟨#[53]⟩,⟨#[53]⟩]) (by decide +kernel) (by decide +kernel) (a2H.book (by decide +kernel)) (by decide +kernel) (by
  congr 3 <;> first|rfl|(congr 1;decide +kernel)|(simp only[List.cons.injEq,Value.string.injEq,Value.int.injEq,true_and,and_true];decide +kernel))
theorem f7F:Reads (ft 20) (.iface 157 (.agg #[.string ⟨#[97]⟩,.int .i64 2,.int .i64 1,.int .i64 2,.int .i64 3])) :=
 c8t (ws:=[b4k,⟨#[97]⟩,⟨#[50]⟩,⟨#[49]⟩,⟨#[50]⟩,⟨#[51]⟩]) (by decide +kernel) (by decide +kernel) (a2H.wait (by decide +kernel)) (by decide +kernel) (by
  congr 3 <;> first|rfl|(congr 1;decide +kernel)|(simp only[List.cons.injEq,Value.string.injEq,Value.int.injEq,true_and,and_true];decide +kernel))
theorem f7E:Reads (ft 21) (.iface 154 (.agg #[.string ⟨#[97]⟩,.int .i64 1,.int .i64 5,.int .i64 5])) :=
 c8t (ws:=[a9P,⟨#[97]⟩,⟨#[49]⟩,⟨#[53]⟩,⟨#[53]⟩]) (by decide +kernel) (by decide +kernel) (a2H.book (by decide +kernel)) (by decide +kernel) (by
  congr 3 <;> first|rfl|(congr 1;decide +kernel)|(simp only[List.cons.injEq,Value.string.injEq,Value.int.injEq,true_and,and_true];decide +kernel))
theorem f7D:Reads (ft 22) (.iface 156 (.agg #[.string ⟨#[97]⟩,.int .i64 1,.int .i64 1,.int .i64 2,.int .i64 1048320])) :=
 c8t (ws:=[b5f,⟨#[97]⟩,⟨#[49]⟩,⟨#[49]⟩,⟨#[50]⟩,⟨#[49,48,52,56,51,50,48]⟩]) (by decide +kernel) (by decide +kernel) (a2H.hold (by decide +kernel)) (by decide +kernel) (by
  congr 3 <;> first|rfl|(congr 1;decide +kernel)|(simp only[List.cons.injEq,Value.string.injEq,Value.int.injEq,true_and,and_true];decide +kernel))
theorem f7C:Reads (ft 23) (.iface 170 (.agg #[.string ⟨#[97]⟩,.bool true,.int .i64 5,.int .i64 5])) :=
 c8t (ws:=[a5Q,⟨#[97]⟩,⟨#[53]⟩,⟨#[53]⟩]) (by decide +kernel) (by decide +kernel) (a2H.list1 (by decide +kernel) (by decide +kernel)) (by decide +kernel) (by
  congr 3 <;> first|rfl|(congr 1;decide +kernel)|(simp only[List.cons.injEq,Value.string.injEq,Value.int.injEq,true_and,and_true];decide +kernel))
theorem f4M:Reads (ft 24) (.iface 178 (.agg #[.string ⟨#[97]⟩,.int .i64 1,.int .i64 1,.int .i64 9,.int .i64 9])) :=
 c8t (ws:=[b5h,⟨#[97]⟩,⟨#[49]⟩,⟨#[49]⟩,⟨#[57]⟩,⟨#[57]⟩]) (by decide +kernel) (by decide +kernel) (a2H.find (by decide +kernel)) (by decide +kernel) (by
  congr 3 <;> first|rfl|(congr 1;decide +kernel)|(simp only[List.cons.injEq,Value.string.injEq,Value.int.injEq,true_and,and_true];decide +kernel))
theorem f4L:Reads (ft 25) (.iface 182 (.agg #[.int .i64 1048320])) :=
 c8t (ws:=[b4n,⟨#[49,48,52,56,51,50,48]⟩]) (by decide +kernel) (by decide +kernel) (a2H.tick (by decide +kernel)) (by decide +kernel) (by
  congr 3 <;> first|rfl|(congr 1;decide +kernel)|(simp only[List.cons.injEq,Value.string.injEq,Value.int.injEq,true_and,and_true];decide +kernel))
theorem f4K:Reads (ft 26) (.iface 154 (.agg #[.string ⟨#[97]⟩,.int .i64 1,.int .i64 199,.int .i64 201])) :=
 c8t (ws:=[a9P,⟨#[97]⟩,⟨#[49]⟩,⟨#[49,57,57]⟩,⟨#[50,48,49]⟩]) (by decide +kernel) (by decide +kernel) (a2H.book (by decide +kernel)) (by decide +kernel) (by
  congr 3 <;> first|rfl|(congr 1;decide +kernel)|(simp only[List.cons.injEq,Value.string.injEq,Value.int.injEq,true_and,and_true];decide +kernel))
theorem f4J:Reads (ft 27) (.iface 156 (.agg #[.string ⟨#[97]⟩,.int .i64 1,.int .i64 0,.int .i64 101,.int .i64 5])) :=
 c8t (ws:=[b5f,⟨#[97]⟩,⟨#[49]⟩,⟨#[48]⟩,⟨#[49,48,49]⟩,⟨#[53]⟩]) (by decide +kernel) (by decide +kernel) (a2H.hold (by decide +kernel)) (by decide +kernel) (by
  congr 3 <;> first|rfl|(congr 1;decide +kernel)|(simp only[List.cons.injEq,Value.string.injEq,Value.int.injEq,true_and,and_true];decide +kernel))
theorem f4I:Reads (ft 29) (.iface 167 (.agg #[.int .i64 0])) :=
 c8t (ws:=[a4z,⟨#[48]⟩]) (by decide +kernel) (by decide +kernel) (a2H.confirm (by decide +kernel)) (by decide +kernel) (by
  congr 3 <;> first|rfl|(congr 1;decide +kernel)|(simp only[List.cons.injEq,Value.string.injEq,Value.int.injEq,true_and,and_true];decide +kernel))
theorem f4H:Reads (ft 30) (.iface 168 (.agg #[.int .i64 61])) :=
 c8t (ws:=[a6m,⟨#[54,49]⟩]) (by decide +kernel) (by decide +kernel) (a2H.cancel (by decide +kernel)) (by decide +kernel) (by
  congr 3 <;> first|rfl|(congr 1;decide +kernel)|(simp only[List.cons.injEq,Value.string.injEq,Value.int.injEq,true_and,and_true];decide +kernel))
theorem f4G:Reads (ft 31) (.iface 167 (.agg #[.int .i64 1])) :=
 c8t (ws:=[a4z,⟨#[49]⟩]) (by decide +kernel) (by decide +kernel) (a2H.confirm (by decide +kernel)) (by decide +kernel) (by
  congr 3 <;> first|rfl|(congr 1;decide +kernel)|(simp only[List.cons.injEq,Value.string.injEq,Value.int.injEq,true_and,and_true];decide +kernel))
theorem f7B:Reads (ft 17) (.iface 165 (.agg #[.string ⟨#[99]⟩,.int .i64 1,.int .i64 1,.int .i64 1,.bool (isd [] 0),.bool (isd [] 1),.bool (isd [] 2),.bool (isd [] 3),.bool (isd [] 4),.bool (isd [] 5),.bool (isd [] 6),.int .i64 0,.int .i64 0,.int .i64 1,.int .i64 99,.int .i64 0])) :=
 c8t (ws:=[a7l,⟨#[99]⟩,⟨#[49]⟩,b0Y,⟨#[49]⟩,a1t,⟨#[50,48,50,52,45,48,49,45,48,49]⟩,atW,⟨#[48,48,58,48,48]⟩,b3z,⟨#[49]⟩,b2z,⟨#[57,57]⟩]) (by decide +kernel) (by decide +kernel) (a2H.series (by decide +kernel) _ _ _ _ _ _ _ _ _ (b0m.mk _ _ _ _ _ _ _ (b0n.daily (by decide +kernel)) (c3M.times (by decide +kernel)))) (by decide +kernel) (by
  congr 3 <;> first|rfl|(congr 1;decide +kernel)|(simp only[List.cons.injEq,Value.string.injEq,Value.int.injEq,true_and,and_true];decide +kernel))
theorem f7A:Reads (ft 28) (.iface 165 (.agg #[.string ⟨#[97]⟩,.int .i64 1,.int .i64 1,.int .i64 1,.bool (isd [] 0),.bool (isd [] 1),.bool (isd [] 2),.bool (isd [] 3),.bool (isd [] 4),.bool (isd [] 5),.bool (isd [] 6),.int .i64 0,.int .i64 0,.int .i64 1000,.int .i64 2,.int .i64 0])) :=
 c8t (ws:=[a7l,⟨#[97]⟩,⟨#[49]⟩,b0Y,⟨#[49]⟩,a1t,⟨#[50,48,50,52,45,48,49,45,48,49]⟩,atW,⟨#[48,48,58,48,48]⟩,b3z,⟨#[49,48,48,48]⟩,b2z,⟨#[50]⟩]) (by decide +kernel) (by decide +kernel) (a2H.series (by decide +kernel) _ _ _ _ _ _ _ _ _ (b0m.mk _ _ _ _ _ _ _ (b0n.daily (by decide +kernel)) (c3M.times (by decide +kernel)))) (by decide +kernel) (by
  congr 3 <;> first|rfl|(congr 1;decide +kernel)|(simp only[List.cons.injEq,Value.string.injEq,Value.int.injEq,true_and,and_true];decide +kernel))
theorem f7z:Reads (ft 32) (.iface 180 (.agg #[.int .i64 1,.int .i64 1,.bool (isd [] 0),.bool (isd [] 1),.bool (isd [] 2),.bool (isd [] 3),.bool (isd [] 4),.bool (isd [] 5),.bool (isd [] 6),.int .i64 0,.int .i64 0,.int .i64 1,.int .i64 41,.int .i64 0])) :=
 c8t (ws:=[a7M,b0Y,⟨#[49]⟩,a1t,⟨#[50,48,50,52,45,48,49,45,48,49]⟩,atW,⟨#[48,48,58,48,48]⟩,b3z,⟨#[49]⟩,b2z,⟨#[52,49]⟩]) (by decide +kernel) (by decide +kernel) (a2H.expand (by decide +kernel) _ _ _ _ _ _ _ _ _ (b0m.mk _ _ _ _ _ _ _ (b0n.daily (by decide +kernel)) (c3M.times (by decide +kernel)))) (by decide +kernel) (by
  congr 3 <;> first|rfl|(congr 1;decide +kernel)|(simp only[List.cons.injEq,Value.int.injEq,true_and,and_true];decide +kernel))
theorem f7y:Reads (ft 33) (.iface 165 (.agg #[.string ⟨#[98]⟩,.int .i64 1,.int .i64 1,.int .i64 1,.bool (isd [] 0),.bool (isd [] 1),.bool (isd [] 2),.bool (isd [] 3),.bool (isd [] 4),.bool (isd [] 5),.bool (isd [] 6),.int .i64 0,.int .i64 0,.int .i64 1,.int .i64 0,.int .i64 40])) :=
 c8t (ws:=[a7l,⟨#[98]⟩,⟨#[49]⟩,b0Y,⟨#[49]⟩,a1t,⟨#[50,48,50,52,45,48,49,45,48,49]⟩,atW,⟨#[48,48,58,48,48]⟩,b3z,⟨#[49]⟩,b5O,⟨#[50,48,50,52,45,48,50,45,49,48]⟩]) (by decide +kernel) (by decide +kernel) (a2H.series (by decide +kernel) _ _ _ _ _ _ _ _ _ (b0m.mk _ _ _ _ _ _ _ (b0n.daily (by decide +kernel)) (c3M.til (by decide +kernel) (by decide +kernel)))) (by decide +kernel) (by
  congr 3 <;> first|rfl|(congr 1;decide +kernel)|(simp only[List.cons.injEq,Value.string.injEq,Value.int.injEq,true_and,and_true];decide +kernel))
theorem f7x:Reads (ft 34) (.iface 180 (.agg #[.int .i64 1,.int .i64 1,.bool (isd [] 0),.bool (isd [] 1),.bool (isd [] 2),.bool (isd [] 3),.bool (isd [] 4),.bool (isd [] 5),.bool (isd [] 6),.int .i64 727,.int .i64 0,.int .i64 1441,.int .i64 1,.int .i64 0])) :=
 c8t (ws:=[a7M,b0Y,⟨#[49]⟩,a1t,⟨#[50,48,50,53,45,49,50,45,50,56]⟩,atW,⟨#[48,48,58,48,48]⟩,b3z,⟨#[49,52,52,49]⟩,b2z,⟨#[49]⟩]) (by decide +kernel) (by decide +kernel) (a2H.expand (by decide +kernel) _ _ _ _ _ _ _ _ _ (b0m.mk _ _ _ _ _ _ _ (b0n.daily (by decide +kernel)) (c3M.times (by decide +kernel)))) (by decide +kernel) (by
  congr 3 <;> first|rfl|(congr 1;decide +kernel)|(simp only[List.cons.injEq,Value.int.injEq,true_and,and_true];decide +kernel))
theorem f7w:Reads (ft 35) (.iface 180 (.agg #[.int .i64 1,.int .i64 1,.bool (isd [] 0),.bool (isd [] 1),.bool (isd [] 2),.bool (isd [] 3),.bool (isd [] 4),.bool (isd [] 5),.bool (isd [] 6),.int .i64 727,.int .i64 0,.int .i64 1,.int .i64 2,.int .i64 0])) :=
 c8t (ws:=[a7M,b0Y,⟨#[49]⟩,a1t,⟨#[50,48,50,53,45,49,50,45,50,56]⟩,atW,⟨#[48,48,58,48,48]⟩,b3z,⟨#[49]⟩,b2z,⟨#[50]⟩]) (by decide +kernel) (by decide +kernel) (a2H.expand (by decide +kernel) _ _ _ _ _ _ _ _ _ (b0m.mk _ _ _ _ _ _ _ (b0n.daily (by decide +kernel)) (c3M.times (by decide +kernel)))) (by decide +kernel) (by
  congr 3 <;> first|rfl|(congr 1;decide +kernel)|(simp only[List.cons.injEq,Value.int.injEq,true_and,and_true];decide +kernel))
theorem f7u:Reads (ft 36) (.iface 180 (.agg #[.int .i64 2,.int .i64 1,.bool (isd [1] 0),.bool (isd [1] 1),.bool (isd [1] 2),.bool (isd [1] 3),.bool (isd [1] 4),.bool (isd [1] 5),.bool (isd [1] 6),.int .i64 2,.int .i64 0,.int .i64 1,.int .i64 0,.int .i64 7])) :=
 c8t (ws:=[a7M,a8D,⟨#[49]⟩,⟨#[116,117]⟩,a1t,⟨#[50,48,50,52,45,48,49,45,48,51]⟩,atW,⟨#[48,48,58,48,48]⟩,b3z,⟨#[49]⟩,b5O,⟨#[50,48,50,52,45,48,49,45,48,56]⟩]) (by decide +kernel) (by decide +kernel) (a2H.expand (by decide +kernel) _ _ _ _ _ _ _ _ _ (b0m.mk _ _ _ _ _ _ _ (b0n.weekly (by decide +kernel) (by decide +kernel) [1] (fun _=>by decide +kernel)) (c3M.til (by decide +kernel) (by decide +kernel)))) (by decide +kernel) (by
  congr 3 <;> first|rfl|(congr 1;decide +kernel)|(simp only[List.cons.injEq,Value.int.injEq,true_and,and_true];decide +kernel))
theorem f4D(s:St):stepT s (ft 12)=(s,⟨2,3,0,[],[],[],[]⟩):=by
 have h:=c9U (t:=(ft 12)) (ws:=[a7M,a8D,⟨#[49]⟩,⟨#[109,111,44,109,111]⟩,a1t,⟨#[50,48,50,52,45,48,49,45,48,49]⟩,atW,⟨#[48,48,58,48,48]⟩,b3z,⟨#[49]⟩,b2z,⟨#[49]⟩]) (by decide +kernel) (by decide +kernel) (a2H.expand (by decide +kernel) _ _ _ _ _ _ _ _ _ (b0m.mk _ _ _ _ _ _ _ (b0n.weekly (by decide +kernel) (by decide +kernel) [] (fun h=>absurd h (by decide +kernel))) (c3M.none (by decide +kernel) (by decide +kernel)))) (by decide +kernel) 3 (by decide +kernel) s
 exact h
namespace Desk
def aN:ByteArray:=⟨#[97]⟩
def bN:ByteArray:=⟨#[98]⟩
def cN:ByteArray:=⟨#[99]⟩
def c8y(b:Int):St:=⟨[(aN,1),(bN,b)],[⟨1,1,aN,1,[(100,200)],0⟩],1,1⟩
def f4R:List (a7U × Int) :=
 [(.enter 1 cN 1 1 2 0,3),(.list cN 0 1048320,3),(.peak cN 5 5,3),(.find cN 1 1 0 9,3),(.series cN 1 ⟨1,1,[],0,0,1,99,0⟩,3),
 (.a0k aN 3,4),(.enter 1 aN 2 5 5 0,7),(.enter 3 aN 2 1 2 3,7),(.enter 1 aN 1 5 5 0,6),(.enter 2 aN 1 1 2 1048320,6),
 (.list aN 5 5,6),(.find aN 1 1 9 9,6),(.tick 1048320,6),(.enter 1 aN 1 199 201 0,8),(.enter 2 aN 1 0 101 5,8),
 (.series aN 1 ⟨1,1,[],0,0,1000,2,0⟩,8),(.confirm 0,9),(.cancel 61,9),(.confirm 1,10),
 (.expand ⟨1,1,[],0,0,1,41,0⟩,11),(.series bN 1 ⟨1,1,[],0,0,1,0,40⟩,11),
 (.expand ⟨1,1,[],727,0,1441,1,0⟩,6),(.expand ⟨1,1,[],727,0,1,2,0⟩,6),(.expand ⟨2,1,[1],2,0,1,0,7⟩,6)]
theorem f1U:∀ i:Fin 9,∀ x∈f4R,(a0g (c8y (i.val+1)) x.1).2.err=x.2:=by decide +kernel
theorem f4Q(h1:1<=b)(h2:b<=9){x:a7U × Int}(hx:x∈f4R):(a0g (c8y b) x.1).2.err=x.2:=by
 have:=f1U ⟨(b-1).toNat,by omega⟩ x hx
 rwa [show (((b-1).toNat:Nat):Int)+1=b from by omega] at this
theorem f4P:∀ x∈f4R,x.2≠0:=by decide +kernel
theorem c9b(h1:1<=b)(h2:b<=9){x:a7U × Int}(hx:x∈f4R):a1q (c8y b) x.1=(c8y b,Rep.error x.2):=by
 have e:=f4Q h1 h2 hx;have ne:(a0g (c8y b) x.1).2.err≠0:=by rw[e];exact f4P x hx
 unfold a1q;rw[if_pos ne];refine Prod.ext (b7g ne) ?_;rw[b8H ne,e]
end Desk
open Desk (Ent St Rep)
def c8m(s:St)(t:ByteArray)(e a:Int):Prop :=
 ∀ {X W:World}{ds:List Dsk}{ks:List (Nat × Obj)}{es:List (Value × List (Ent × Value))}{rs:List OR},CM X W ds ks es rs->∀ (i p dk:Nat),ds[i]?=some (p,dk,s)->Calls Tryz.prog 21 #[.pointer (some ⟨p,0,none⟩),.string t] W fun en W'=>MDo X W ds i p dk ks es rs (s,⟨e,a,0,[],[],[],[]⟩) en W'
theorem c8S{s:St}(h:stepT s t=(s,⟨2,a,0,[],[],[],[]⟩)):c8m s t 2 a:=fun hc i p dk hd=>by
 have k:=hc.text i hd t;rw[h] at k;exact k
theorem c7W{s:St}{l:Desk.a7U}(hr:Reads t v)(hv:LV v l)(hl:Desk.a1O l)(hq:Desk.a1q s l=(s,Rep.error e)):c8m s t e 0:=fun hc i _ _ hd=>hc.line i hd hr hv hl hq
theorem fl(n:Nat){x:Desk.a7U × Int}(h:Desk.f4R[n]?=some x):x∈Desk.f4R:=List.mem_of_getElem? h
theorem f0Y(b:Int):c8m (Desk.c8y b) (⟨#[]⟩:ByteArray) 2 0:=c8S (f7t _)
theorem f0W(b:Int):c8m (Desk.c8y b) (ft 1) 2 0:=c8S (f7s _)
theorem f0V(b:Int):c8m (Desk.c8y b) (ft 2) 2 1:=c8S (f7r _)
theorem f0U(b:Int):c8m (Desk.c8y b) (ft 3) 2 2:=c8S (f7q _)
theorem f0T(b:Int):c8m (Desk.c8y b) (ft 4) 2 2:=c8S (f7p _)
theorem f0S(b:Int):c8m (Desk.c8y b) (ft 5) 2 3:=c8S (f7o _)
theorem f0R(b:Int):c8m (Desk.c8y b) (ft 6) 2 4:=c8S (f7n _)
theorem f0Q(b:Int):c8m (Desk.c8y b) (ft 7) 2 1:=c8S (f7m _)
theorem f0P(b:Int):c8m (Desk.c8y b) (ft 8) 2 1:=c8S (f7l _)
theorem f0O(b:Int):c8m (Desk.c8y b) (ft 9) 2 3:=c8S (f7k _)
theorem e8M(b:Int):c8m (Desk.c8y b) (ft 10) 2 3:=c8S (f4F _)
theorem e8L(b:Int):c8m (Desk.c8y b) (ft 11) 2 5:=c8S (f4E _)
theorem e8K(b:Int):c8m (Desk.c8y b) (ft 12) 2 3:=c8S (f4D _)
theorem e8J(h1:1<=b)(h2:b<=9):c8m (Desk.c8y b) (ft 13) 3 0:=c7W f7L (LV.book ⟨#[99]⟩ (by decide) 1 1 2) (by simp[Desk.a1O]) (Desk.c9b h1 h2 (fl 0 rfl))
theorem e8I(h1:1<=b)(h2:b<=9):c8m (Desk.c8y b) (ft 14) 3 0:=c7W f7K (LV.list ⟨#[99]⟩ (by decide) false 0 0 0 1048320 rfl rfl) (by simp[Desk.a1O]) (Desk.c9b h1 h2 (fl 1 rfl))
theorem e8H(h1:1<=b)(h2:b<=9):c8m (Desk.c8y b) (ft 15) 3 0:=c7W f7J (LV.peak ⟨#[99]⟩ (by decide) 5 5) (by simp[Desk.a1O]) (Desk.c9b h1 h2 (fl 2 rfl))
theorem e8G(h1:1<=b)(h2:b<=9):c8m (Desk.c8y b) (ft 16) 3 0:=c7W f7I (LV.find ⟨#[99]⟩ (by decide) 1 1 0 9) (by simp[Desk.a1O]) (Desk.c9b h1 h2 (fl 3 rfl))
theorem e8F(h1:1<=b)(h2:b<=9):c8m (Desk.c8y b) (ft 17) 3 0:=c7W f7B (LV.series ⟨#[99]⟩ (by decide) 1 ⟨1,1,[],0,0,1,99,0⟩) (by simp only[Desk.a1O];first|exact⟨by omega,by omega,(by constructor <;> (dsimp only;omega))⟩|exact (by constructor <;> (dsimp only;omega))) (Desk.c9b h1 h2 (fl 4 rfl))
theorem e8E(h1:1<=b)(h2:b<=9):c8m (Desk.c8y b) (ft 18) 4 0:=c7W f7H (LV.a0k ⟨#[97]⟩ (by decide) 3) (by simp[Desk.a1O]) (Desk.c9b h1 h2 (fl 5 rfl))
theorem e8D(h1:1<=b)(h2:b<=9):c8m (Desk.c8y b) (ft 19) 7 0:=c7W f7G (LV.book ⟨#[97]⟩ (by decide) 2 5 5) (by simp[Desk.a1O]) (Desk.c9b h1 h2 (fl 6 rfl))
theorem e8C(h1:1<=b)(h2:b<=9):c8m (Desk.c8y b) (ft 20) 7 0:=c7W f7F (LV.wait ⟨#[97]⟩ (by decide) 2 1 2 3) (by simp[Desk.a1O]) (Desk.c9b h1 h2 (fl 7 rfl))
theorem e8B(h1:1<=b)(h2:b<=9):c8m (Desk.c8y b) (ft 21) 6 0:=c7W f7E (LV.book ⟨#[97]⟩ (by decide) 1 5 5) (by simp[Desk.a1O]) (Desk.c9b h1 h2 (fl 8 rfl))
theorem e8A(h1:1<=b)(h2:b<=9):c8m (Desk.c8y b) (ft 22) 6 0:=c7W f7D (LV.hold ⟨#[97]⟩ (by decide) 1 1 2 1048320) (by simp[Desk.a1O]) (Desk.c9b h1 h2 (fl 9 rfl))
theorem e8z(h1:1<=b)(h2:b<=9):c8m (Desk.c8y b) (ft 23) 6 0:=c7W f7C (LV.list ⟨#[97]⟩ (by decide) true 5 5 5 5 rfl rfl) (by simp[Desk.a1O]) (Desk.c9b h1 h2 (fl 10 rfl))
theorem e8y(h1:1<=b)(h2:b<=9):c8m (Desk.c8y b) (ft 24) 6 0:=c7W f4M (LV.find ⟨#[97]⟩ (by decide) 1 1 9 9) (by simp[Desk.a1O]) (Desk.c9b h1 h2 (fl 11 rfl))
theorem e8x(h1:1<=b)(h2:b<=9):c8m (Desk.c8y b) (ft 25) 6 0:=c7W f4L (LV.tick 1048320) (by simp[Desk.a1O]) (Desk.c9b h1 h2 (fl 12 rfl))
theorem e8w(h1:1<=b)(h2:b<=9):c8m (Desk.c8y b) (ft 26) 8 0:=c7W f4K (LV.book ⟨#[97]⟩ (by decide) 1 199 201) (by simp[Desk.a1O]) (Desk.c9b h1 h2 (fl 13 rfl))
theorem e8v(h1:1<=b)(h2:b<=9):c8m (Desk.c8y b) (ft 27) 8 0:=c7W f4J (LV.hold ⟨#[97]⟩ (by decide) 1 0 101 5) (by simp[Desk.a1O]) (Desk.c9b h1 h2 (fl 14 rfl))
theorem e8s(h1:1<=b)(h2:b<=9):c8m (Desk.c8y b) (ft 28) 8 0:=c7W f7A (LV.series ⟨#[97]⟩ (by decide) 1 ⟨1,1,[],0,0,1000,2,0⟩) (by simp only[Desk.a1O];first|exact⟨by omega,by omega,(by constructor <;> (dsimp only;omega))⟩|exact (by constructor <;> (dsimp only;omega))) (Desk.c9b h1 h2 (fl 15 rfl))
theorem e8r(h1:1<=b)(h2:b<=9):c8m (Desk.c8y b) (ft 29) 9 0:=c7W f4I (LV.confirm 0) (by simp[Desk.a1O]) (Desk.c9b h1 h2 (fl 16 rfl))
theorem e8q(h1:1<=b)(h2:b<=9):c8m (Desk.c8y b) (ft 30) 9 0:=c7W f4H (LV.cancel 61) (by simp[Desk.a1O]) (Desk.c9b h1 h2 (fl 17 rfl))
theorem e8p(h1:1<=b)(h2:b<=9):c8m (Desk.c8y b) (ft 31) 10 0:=c7W f4G (LV.confirm 1) (by simp[Desk.a1O]) (Desk.c9b h1 h2 (fl 18 rfl))
theorem e8o(h1:1<=b)(h2:b<=9):c8m (Desk.c8y b) (ft 32) 11 0:=c7W f7z (LV.expand ⟨1,1,[],0,0,1,41,0⟩) (by simp only[Desk.a1O];first|exact⟨by omega,by omega,(by constructor <;> (dsimp only;omega))⟩|exact (by constructor <;> (dsimp only;omega))) (Desk.c9b h1 h2 (fl 19 rfl))
theorem e8n(h1:1<=b)(h2:b<=9):c8m (Desk.c8y b) (ft 33) 11 0:=c7W f7y (LV.series ⟨#[98]⟩ (by decide) 1 ⟨1,1,[],0,0,1,0,40⟩) (by simp only[Desk.a1O];first|exact⟨by omega,by omega,(by constructor <;> (dsimp only;omega))⟩|exact (by constructor <;> (dsimp only;omega))) (Desk.c9b h1 h2 (fl 20 rfl))
theorem e8m(h1:1<=b)(h2:b<=9):c8m (Desk.c8y b) (ft 34) 6 0:=c7W f7x (LV.expand ⟨1,1,[],727,0,1441,1,0⟩) (by simp only[Desk.a1O];first|exact⟨by omega,by omega,(by constructor <;> (dsimp only;omega))⟩|exact (by constructor <;> (dsimp only;omega))) (Desk.c9b h1 h2 (fl 21 rfl))
theorem e8l(h1:1<=b)(h2:b<=9):c8m (Desk.c8y b) (ft 35) 6 0:=c7W f7w (LV.expand ⟨1,1,[],727,0,1,2,0⟩) (by simp only[Desk.a1O];first|exact⟨by omega,by omega,(by constructor <;> (dsimp only;omega))⟩|exact (by constructor <;> (dsimp only;omega))) (Desk.c9b h1 h2 (fl 22 rfl))
theorem e8k(h1:1<=b)(h2:b<=9):c8m (Desk.c8y b) (ft 36) 6 0:=c7W f7u (LV.expand ⟨2,1,[1],2,0,1,0,7⟩) (by simp only[Desk.a1O];first|exact⟨by omega,by omega,(by constructor <;> (dsimp only;omega))⟩|exact (by constructor <;> (dsimp only;omega))) (Desk.c9b h1 h2 (fl 23 rfl))
def c9w:List (Nat × Int × Int × ByteArray):=[(1,2,0,⟨#[]⟩),(1,2,0,ft 1),(1,2,1,ft 2),(1,2,2,ft 3),(1,2,2,ft 4),(1,2,3,ft 5),(1,2,4,ft 6),(1,2,1,ft 7),(1,2,1,ft 8),(1,2,3,ft 9),(1,2,3,ft 10),(1,2,5,ft 11),(1,2,3,ft 12),(1,3,0,ft 13),(1,3,0,ft 14),(1,3,0,ft 15),(1,3,0,ft 16),(1,3,0,ft 17),(1,4,0,ft 18),(1,7,0,ft 19),(1,7,0,ft 20),(1,6,0,ft 21),(1,6,0,ft 22),(1,6,0,ft 23),(1,6,0,ft 24),(1,6,0,ft 25),(1,8,0,ft 26),(1,8,0,ft 27),(1,8,0,ft 28),(1,9,0,ft 29),(1,9,0,ft 30),(2,10,0,ft 31),(2,11,0,ft 32),(2,11,0,ft 33),(1,6,0,ft 34),(1,6,0,ft 35),(1,6,0,ft 36)]
theorem e4F(h1:1<=b)(h2:b<=9):∀ x∈c9w,c8m (Desk.c8y b) x.2.2.2 x.2.1 x.2.2.1:=by
 intro x hx;unfold c9w at hx;simp only[List.mem_cons,List.not_mem_nil,or_false] at hx;rcases hx with rfl|rfl|rfl|rfl|rfl|rfl|rfl|rfl|rfl|rfl|rfl|rfl|rfl|rfl|rfl|rfl|rfl|rfl|rfl|rfl|rfl|rfl|rfl|rfl|rfl|rfl|rfl|rfl|rfl|rfl|rfl|rfl|rfl|rfl|rfl|rfl|rfl
 ·exact f0Y b
 ·exact f0W b
 ·exact f0V b
 ·exact f0U b
 ·exact f0T b
 ·exact f0S b
 ·exact f0R b
 ·exact f0Q b
 ·exact f0P b
 ·exact f0O b
 ·exact e8M b
 ·exact e8L b
 ·exact e8K b
 ·exact e8J h1 h2
 ·exact e8I h1 h2
 ·exact e8H h1 h2
 ·exact e8G h1 h2
 ·exact e8F h1 h2
 ·exact e8E h1 h2
 ·exact e8D h1 h2
 ·exact e8C h1 h2
 ·exact e8B h1 h2
 ·exact e8A h1 h2
 ·exact e8z h1 h2
 ·exact e8y h1 h2
 ·exact e8x h1 h2
 ·exact e8w h1 h2
 ·exact e8v h1 h2
 ·exact e8s h1 h2
 ·exact e8r h1 h2
 ·exact e8q h1 h2
 ·exact e8p h1 h2
 ·exact e8o h1 h2
 ·exact e8n h1 h2
 ·exact e8m h1 h2
 ·exact e8l h1 h2
 ·exact e8k h1 h2
theorem f0q:c9w.length=37/\e8N.length=37:=by decide +kernel
theorem f3C:∀ i:Fin 37,(e8N.getD i ByteArray.empty).extract ((c9w.getD i (0,0,0,ByteArray.empty)).1+3) (e8N.getD i ByteArray.empty).size=(c9w.getD i (0,0,0,ByteArray.empty)).2.2.2:=by decide +kernel
structure e5J(b:Int)(x:ByteArray)(wn:Nat)(e a:Int)(t:ByteArray):Prop where
 w1:1<=wn
 w2:wn<=2
 sz:wn+3<=x.size
 dg:Txt.a6j (x.data.toList.take wn)=true
 nu:Txt.b4R (x.data.toList.take wn)=e
 bl:x.data.toList[wn]?=some 32
 at_:(x.data.toList[wn+1]?).map (fun c=>(c.toNat:Int))=some (a+48)
 ab:0<=a/\a<=9
 tx:x.extract (wn+3) x.size=t
 go:c8m (Desk.c8y b) t e a
theorem f6w:∀ i:Fin 37,(1<=(c9w.getD i (0,0,0,ByteArray.empty)).1/\(c9w.getD i (0,0,0,ByteArray.empty)).1<=2/\(c9w.getD i (0,0,0,ByteArray.empty)).1+3<=(e8N.getD i ByteArray.empty).size) /\
  Txt.a6j ((e8N.getD i ByteArray.empty).data.toList.take (c9w.getD i (0,0,0,ByteArray.empty)).1)=true/\Txt.b4R ((e8N.getD i ByteArray.empty).data.toList.take (c9w.getD i (0,0,0,ByteArray.empty)).1)=(c9w.getD i (0,0,0,ByteArray.empty)).2.1 /\
  (e8N.getD i ByteArray.empty).data.toList[(c9w.getD i (0,0,0,ByteArray.empty)).1]?=some 32/\((e8N.getD i ByteArray.empty).data.toList[(c9w.getD i (0,0,0,ByteArray.empty)).1+1]?).map (fun c=>(c.toNat:Int))=some ((c9w.getD i (0,0,0,ByteArray.empty)).2.2.1+48) /\
  0<=(c9w.getD i (0,0,0,ByteArray.empty)).2.2.1/\(c9w.getD i (0,0,0,ByteArray.empty)).2.2.1<=9:=by decide +kernel
theorem f8C(h1:1<=b)(h2:b<=9)(i:Nat)(h:i<37):∃ x wn e a t,(∀ (W:World)(rb:Nat),W.heap[rb]?=some e8O->W.cell? ⟨rb,i,none⟩=some (.string x))/\e5J b x wn e a t:=by
 obtain⟨⟨a1,a2,a3⟩,a4,a5,a6,a7,a8,a9⟩:=f6w ⟨i,h⟩;have a10:=f3C ⟨i,h⟩;have l1:i<c9w.length:=by rw[f0q.1];exact h
 have l2:i<e8N.length:=by rw[f0q.2];exact h
 have hm:c9w.getD i (0,0,0,ByteArray.empty)∈c9w:=by
  rw[List.getD_eq_getElem?_getD,List.getElem?_eq_getElem l1];exact List.getElem_mem l1
 refine⟨e8N.getD i ByteArray.empty,_,_,_,_,fun W rb hh=>?_,a1,a2,a3,a4,a5,a6,a7,⟨a8,a9⟩,a10,e4F h1 h2 _ hm⟩
 rw[f6N hh i h]
 congr 2
 rw[List.getD_eq_getElem?_getD,List.getElem?_eq_getElem l2];rfl
theorem e1G(h:k<x.size):x.data.toList[k]?=some x[k]:=by
 rw[List.getElem?_eq_getElem (by rw[Array.length_toList];exact h)]
 rfl
theorem e5J.dig(h:e5J b x wn e a t)(hk:k<wn)(hx:k<x.size):48<=(x[k].toNat:Int)/\(x[k].toNat:Int)<=57:=by
 have hm:x[k]∈x.data.toList.take wn:=by
  refine List.mem_of_getElem? (i:=k) ?_;rw[List.getElem?_take_of_lt hk,e1G hx]
 exact (Txt.a6k _).1 (List.all_eq_true.1 h.dg _ hm)
theorem e5J.blank(h:e5J b x wn e a t)(hx:wn<x.size):(x[wn].toNat:Int)=32:=by
 have:=h.bl;rw[e1G hx] at this;rw[Option.some.inj this];rfl
theorem e5J.word(h:e5J b x wn e a t)(hx:wn+1<x.size):(x[wn+1].toNat:Int)=a+48:=by
 have:=h.at_;rw[e1G hx] at this;exact Option.some.inj this
open Desk (Ent)
theorem d9r(L M:List (Int × Int))(u v:Value)(w:World)(hu:SV w u L)(hv:SV w v M)(hl:L.length<=1000000):
  Calls Tryz.prog 31 #[u,v] w fun e w'=>∃ bb,e=.returned (.bool bb)/\Below w.heap.size w w':=by
 obtain⟨a,ca,rfl⟩:=hu.form;obtain⟨b,cb,rfl⟩:=hv.form;have HU:=a0b hu;have HV:=a0b hv;clear hu hv
 by_cases hlen:L.length=M.length
 ·have hb:((L.length:Int) != (M.length:Int))=false:=by simp[hlen]
  go_enter Tryz.func31,Tryz.ntmps31
  go_wp2_with fail
  go_loopw [5] (fun v wr=>∃ k:Nat,k<=L.length/\v=.int .i64 k/\Below w.heap.size w wr) (fun v _=>L.length-(intOf v).toNat)
  case atStart=>exact⟨0,Nat.zero_le _,rfl,Below.refl _ _⟩
  case round =>
   obtain⟨k,hk,rfl,hbl⟩:=hrel;have HB:=a0b hbl;clear hbl
   by_cases hlt:k<L.length
   ·have hlt':(k:Int)<(L.length:Int):=by omega
    have hmt:k<M.length:=by omega
    have hmt':(k:Int)<(M.length:Int):=by omega
    obtain⟨g,cap,e,a0,a1⟩:=(HU.out.later HB.out).cell k hlt;simp only[Value.slice.injEq,true_and] at e;obtain⟨rfl,rfl⟩:=e;obtain⟨g2,cap2,e,b0,b1⟩:=(HV.out.later HB.out).cell k hmt;simp only[Value.slice.injEq,true_and] at e;obtain⟨rfl,rfl⟩:=e;have HBd:=a0b (HB.out.drew);generalize L[k].1=x at *;generalize L[k].2=y at *;generalize M[k].1=x' at *;generalize M[k].2=y' at *
    by_cases hxy:x=x'/\y=y'
    ·obtain⟨rfl,rfl⟩:=hxy
     go_upto_region 6 with fail
     go_big_region
     clear HB
     go_wp2_with fail
     go_roundw
     case rel=>exact⟨k+1,by omega,by go_num,HBd.out⟩
     case measure=>simp[intOf];omega
    ·have hc:(¬ x=x'/\y=y')\/(¬ x=x'/\¬ y=y')\/(x=x'/\¬ y=y'):=by
      by_cases h1:x=x' <;> by_cases h2:y=y' <;> simp_all
     clear hxy;rcases hc with ⟨n1,rfl⟩|⟨n1,n2⟩|⟨rfl,n2⟩
     ·have m1:(x==x')=false:=by simpa using n1
      go_upto_region 6 with fail
      go_big_region
      clear HB
      go_wp2_with fail
      go_ret
      first|exact HBd.out|exact⟨_,rfl,HBd.out⟩
     ·have m1:(x==x')=false:=by simpa using n1
      have m2:(y==y')=false:=by simpa using n2
      go_upto_region 6 with fail
      go_big_region
      clear HB
      go_wp2_with fail
      go_ret
      first|exact HBd.out|exact⟨_,rfl,HBd.out⟩
     ·have m2:(y==y')=false:=by simpa using n2
      go_upto_region 6 with fail
      go_big_region
      clear HB
      go_wp2_with fail
      go_ret
      first|exact HBd.out|exact⟨_,rfl,HBd.out⟩
   ·have hlt':¬ (k:Int)<(L.length:Int):=by omega
    go_wp2_with fail
    go_ret
    first|exact HB.out|exact⟨.inr rfl,HB.out⟩
 ·have hb:((L.length:Int) != (M.length:Int))=true:=by simp;omega
  go_enter Tryz.func31,Tryz.ntmps31
  go_wp2_with fail
  go_ret
  first|exact Below.refl _ _|exact⟨_,rfl,Below.refl _ _⟩
theorem f0y(b0 b1 b2 b3 b4 b5:Bool):b0=false\/(b0=true/\b1=true)\/(b0=true/\b1=false/\b2=true)\/(b0=true/\b1=false/\b2=false/\b3=true)\/(b0=true/\b1=false/\b2=false/\b3=false/\b4=true)\/(b0=true/\b1=false/\b2=false/\b3=false/\b4=false/\b5=true)\/(b0=true/\b1=false/\b2=false/\b3=false/\b4=false/\b5=false):=by
 cases b0 <;> cases b1 <;> cases b2 <;> cases b3 <;> cases b4 <;> cases b5 <;> simp
theorem d7j(l m:List (Ent × Value))(u v:Value)(w:World)(hu:EV w u l)(hv:EV w v m)(hl:l.length<=1000)(hs:∀ p∈l,p.1.a0e.length<=1000):
  Calls Tryz.prog 29 #[u,v] w fun e w'=>∃ bb,e=.returned (.bool bb)/\Below w.heap.size w w':=by
 obtain⟨a,ca,rfl⟩:=hu.form;obtain⟨b,cb,rfl⟩:=hv.form;have HU:=a0b hu;have HV:=a0b hv;have HS:=a0b hs;clear hu hv hs
 by_cases hlen:l.length=m.length
 case neg =>
  have hb:((l.length:Int) != (m.length:Int))=true:=by simp;omega
  go_enter Tryz.func29,Tryz.ntmps29
  go_wp2_with fail
  go_ret
  first|exact Below.refl _ _|exact⟨_,rfl,Below.refl _ _⟩
 have HLn:=a0b hlen;rw[<- hlen];clear hlen;have hb:((l.length:Int) != (l.length:Int))=false:=by simp
 go_enter Tryz.func29,Tryz.ntmps29
 go_wp2_with fail
 go_loopw [5,6] (fun v _ wr=>∃ k:Nat,k<=l.length/\v=.int .i64 k/\Below w.heap.size w wr) (fun v _ _=>l.length-(intOf v).toNat)
 case atStart=>exact⟨0,Nat.zero_le _,rfl,Below.refl _ _⟩
 case round =>
  obtain⟨k,hk,rfl,hbl⟩:=hrel;have HB:=a0b hbl;clear hbl
  by_cases hlt:k<l.length
  ·have hlt':(k:Int)<(l.length:Int):=by omega
   have hmt:k<m.length:=by have:=HLn.out;omega
   obtain⟨g,cap,e,a0,a1,a2,a3,a4,a5⟩:=(HU.out.later HB.out).cell k hlt;simp only[Value.slice.injEq,true_and] at e;obtain⟨rfl,rfl⟩:=e;obtain⟨g2,cap2,e,b0,b1,b2,b3,b4,b5⟩:=(HV.out.later HB.out).cell k hmt;simp only[Value.slice.injEq,true_and] at e;obtain⟨rfl,rfl⟩:=e;have s1:=(HU.out.later HB.out).sp l[k] (List.getElem_mem hlt);have s2:=(HV.out.later HB.out).sp m[k] (List.getElem_mem hmt);have SP:=a0b (fun W' (q:Below wr.heap.size wr W')=>d9r l[k].1.a0e m[k].1.a0e l[k].2 m[k].2 W' (s1.later q) (s2.later q) (by have:=HS.out l[k] (List.getElem_mem hlt);omega))
   obtain⟨f1,f2,e1⟩:=s1.form;obtain⟨f3,f4,e2⟩:=s2.form;rw[e1] at a4 SP;rw[e2] at b4 SP;clear s1 s2 e1 e2;generalize l[k].1=x at *;generalize m[k].1=y at *;have HBd:=a0b (HB.out.drew);have SS:Hid (∀ W',Below wr.drew.heap.size wr.drew W'->W'.cell? ⟨g,k*6,none⟩=some (.int .i64 x.id)/\W'.cell? ⟨g,k*6+1,none⟩=some (.int .i64 x.kind)/\W'.cell? ⟨g,k*6+2,none⟩=some (.string x.a0k)/\W'.cell? ⟨g,k*6+3,none⟩=some (.int .i64 x.a0c)/\W'.cell? ⟨g,k*6+4,none⟩=some (.slice f1 x.a0e.length f2)/\W'.cell? ⟨g,k*6+5,none⟩=some (.int .i64 x.a0Z)/\W'.cell? ⟨g2,k*6,none⟩=some (.int .i64 y.id)/\W'.cell? ⟨g2,k*6+1,none⟩=some (.int .i64 y.kind)/\W'.cell? ⟨g2,k*6+2,none⟩=some (.string y.a0k)/\W'.cell? ⟨g2,k*6+3,none⟩=some (.int .i64 y.a0c)/\W'.cell? ⟨g2,k*6+4,none⟩=some (.slice f3 y.a0e.length f4)/\W'.cell? ⟨g2,k*6+5,none⟩=some (.int .i64 y.a0Z)):=fun W' q=>⟨a0a q a0,a0a q a1,a0a q a2,a0a q a3,a0a q a4,a0a q a5,a0a q b0,a0a q b1,a0a q b2,a0a q b3,a0a q b4,a0a q b5⟩
   clear HB
   go_upto_region 6 with fail
   go_region_held3 (fun W'=>W'.cell? ⟨g,k*6,none⟩=some (.int .i64 x.id)/\W'.cell? ⟨g,k*6+1,none⟩=some (.int .i64 x.kind)/\W'.cell? ⟨g,k*6+2,none⟩=some (.string x.a0k)/\W'.cell? ⟨g,k*6+3,none⟩=some (.int .i64 x.a0c)/\W'.cell? ⟨g,k*6+4,none⟩=some (.slice f1 x.a0e.length f2)/\W'.cell? ⟨g,k*6+5,none⟩=some (.int .i64 x.a0Z)/\W'.cell? ⟨g2,k*6,none⟩=some (.int .i64 y.id)/\W'.cell? ⟨g2,k*6+1,none⟩=some (.int .i64 y.kind)/\W'.cell? ⟨g2,k*6+2,none⟩=some (.string y.a0k)/\W'.cell? ⟨g2,k*6+3,none⟩=some (.int .i64 y.a0c)/\W'.cell? ⟨g2,k*6+4,none⟩=some (.slice f3 y.a0e.length f4)/\W'.cell? ⟨g2,k*6+5,none⟩=some (.int .i64 y.a0Z))
    (first
     |with_reducible exact SS.out _ HB6.out
     |exact⟨a0,a1,a2,a3,a4,a5,b0,b1,b2,b3,b4,b5⟩)
    (first
     |(go_at_call 31;refine (SP.out _ (a0q _)).mono ?_;rintro e w6 ⟨bs,rfl,hb6⟩;have HB6:=a0b hb6;clear hb6))
   have HF:Hid (Below w.heap.size w w6):=a0j HBd.out HB6.out (Nat.le_refl _);obtain⟨c0,c1,c2,c3,c4,c5,d0,d1,d2,d3,d4,d5⟩:=SS.out _ HB6.out;clear HB6 HBd SS SP a0 a1 a2 a3 a4 a5 b0 b1 b2 b3 b4 b5;rcases f0y bs (x.id != y.id) (x.kind != y.kind) (x.a0k.toList != y.a0k.toList) (x.a0c != y.a0c) (x.a0Z != y.a0Z) with n0|⟨n0,n1⟩|⟨n0,n1,n2⟩|⟨n0,n1,n2,n3⟩|⟨n0,n1,n2,n3,n4⟩|⟨n0,n1,n2,n3,n4,n5⟩|⟨n0,n1,n2,n3,n4,n5⟩
   ·subst n0
    go_upto_region 7 with fail
    refine wp_region_quiet_lit (by kernel_rfl) (by kernel_rfl) ?_
    dsimp only[List.append]
    repeat (go_big_quiet_step (fail))
    refine wpQuiet_nil ?_;intro _ hw';obtain⟨nq,hw''⟩:=hw';subst hw''
    go_wp2_with fail
    go_ret
    first|exact a9Q HF.out _|exact⟨_,rfl,a9Q HF.out _⟩
   ·subst n0
    go_upto_region 7 with fail
    refine wp_region_quiet_lit (by kernel_rfl) (by kernel_rfl) ?_
    dsimp only[List.append]
    repeat (go_big_quiet_step (fail))
    refine wpQuiet_nil ?_;intro _ hw';obtain⟨nq,hw''⟩:=hw';subst hw''
    go_wp2_with fail
    go_ret
    first|exact a9Q HF.out _|exact⟨_,rfl,a9Q HF.out _⟩
   ·subst n0
    go_upto_region 7 with fail
    refine wp_region_quiet_lit (by kernel_rfl) (by kernel_rfl) ?_
    dsimp only[List.append]
    repeat (go_big_quiet_step (fail))
    refine wpQuiet_nil ?_;intro _ hw';obtain⟨nq,hw''⟩:=hw';subst hw''
    go_wp2_with fail
    go_ret
    first|exact a9Q HF.out _|exact⟨_,rfl,a9Q HF.out _⟩
   ·subst n0;have n3':(x.a0k.toList==y.a0k.toList)=false:=by rw[<- Bool.not_inj_iff];exact n3
    go_upto_region 7 with fail
    refine wp_region_quiet_lit (by kernel_rfl) (by kernel_rfl) ?_
    dsimp only[List.append]
    repeat (go_big_quiet_step (fail))
    refine wpQuiet_nil ?_;intro _ hw';obtain⟨nq,hw''⟩:=hw';subst hw''
    go_wp2_with fail
    go_ret
    first|exact a9Q HF.out _|exact⟨_,rfl,a9Q HF.out _⟩
   ·subst n0;have n3':(x.a0k.toList==y.a0k.toList)=true:=by rw[<- Bool.not_inj_iff];exact n3
    go_upto_region 7 with fail
    refine wp_region_quiet_lit (by kernel_rfl) (by kernel_rfl) ?_
    dsimp only[List.append]
    repeat (go_big_quiet_step (fail))
    refine wpQuiet_nil ?_;intro _ hw';obtain⟨nq,hw''⟩:=hw';subst hw''
    go_wp2_with fail
    go_ret
    first|exact a9Q HF.out _|exact⟨_,rfl,a9Q HF.out _⟩
   ·subst n0;have n3':(x.a0k.toList==y.a0k.toList)=true:=by rw[<- Bool.not_inj_iff];exact n3
    go_upto_region 7 with fail
    refine wp_region_quiet_lit (by kernel_rfl) (by kernel_rfl) ?_
    dsimp only[List.append]
    repeat (go_big_quiet_step (fail))
    refine wpQuiet_nil ?_;intro _ hw';obtain⟨nq,hw''⟩:=hw';subst hw''
    go_wp2_with fail
    go_ret
    first|exact a9Q HF.out _|exact⟨_,rfl,a9Q HF.out _⟩
   ·subst n0;have n3':(x.a0k.toList==y.a0k.toList)=true:=by rw[<- Bool.not_inj_iff];exact n3
    go_upto_region 7 with fail
    refine wp_region_quiet_lit (by kernel_rfl) (by kernel_rfl) ?_
    dsimp only[List.append]
    repeat (go_big_quiet_step (fail))
    refine wpQuiet_nil ?_;intro _ hw';obtain⟨nq,hw''⟩:=hw';subst hw''
    go_wp2_with fail
    go_roundw
    case rel=>exact⟨k+1,by omega,by go_num,a9Q HF.out _⟩
    case measure=>simp[intOf];omega
  ·have hlt':¬ (k:Int)<(l.length:Int):=by omega
   go_wp2_with fail
   go_ret
   first|exact HB.out|exact⟨.inr rfl,HB.out⟩
open Desk (Ent St Inv a0h a1e a1q a0g a2t Rep a0o a1K a3D a0z a0R)
def d2N(b:Int):St:=⟨(a3Z 1 b).ts,[⟨1,1,nmA,1,[(100,200)],0⟩],1,0⟩
theorem f1V(hi:Inv (a3Z 1 b)):a1q (a3Z 1 b) (.enter 1 nmA 1 100 200 0)=(d2N b,Rep.num 1):=by
 have ha:a0h nmA (a3Z 1 b).ts=1:=b9b 1 b
 have hf:a1e (a3Z 1 b).ts (a3Z 1 b).es nmA 1 [(100,200)]=true:=by
  rw[Desk.a6S (fun e he=>by cases he) (by omega)]
  intro x _ _;rw[ha];show a0o nmA x []+1<=1;simp[a0o]
 have h:=(Desk.c1u hi (nm:=nmA) (u:=1) (fr:=100) (til:=200) (by omega) (by omega) (by rw[ha];omega) (by omega) (by omega) (by omega) (by show (0:Int)<60;omega)).1 hf
 rw[h];rfl
theorem f1T(b:Int):a1q (d2N b) (.tick 1)=(Desk.c8y b,⟨0,0,1,[],[],[],[]⟩):=by
 have hg:a0R (d2N b).ts (d2N b).es=((d2N b).es,[]):=Desk.d2D fun e he=>by
  have:e=⟨1,1,nmA,1,[(100,200)],0⟩:=List.mem_singleton.1 he;rw[this];show ¬ (1:Int)=3;omega
 have ht:a1K (d2N b).ts 2 (d2N b).es 0 1=((d2N b).es,[],[]):=by
  have e1:a3D 1 (d2N b).es=1:=rfl;have e2:(d2N b).es.filter (a0z 1)=[]:=rfl;have e3:(d2N b).es.filter (fun e=>!a0z 1 e)=(d2N b).es:=rfl
  simp only[a1K];rw[if_pos (by omega),e1,e2,e3,hg]
  simp
 have hd:a0g (d2N b) (.tick 1)=(Desk.c8y b,⟨0,0,1,[],[],[],[]⟩):=by
  simp only[a0g];rw[if_neg (by show ¬ (1048320:Int)<0+1;omega)]
  have e:a1K (d2N b).ts ((d2N b).es.length+1) (d2N b).es (d2N b).now ((d2N b).now+1)=((d2N b).es,[],[]):=ht;rw[e];rfl
 unfold a1q;rw[hd,if_neg (by simp)]
 have hg2:a0R (Desk.c8y b).ts (Desk.c8y b).es=((Desk.c8y b).es,[]):=hg;rw[hg2];simp
theorem e7r{nm:ByteArray}{u fr til k:Int}(hn:Nm nm)(hu:1<=u/\u<=9)(hf:0<=fr/\fr<=1048320)(hl:0<=til/\til<=1048320)(hk:1<=k/\k<=1048320)(ht:t.data.toList=b5f.data.toList++32 :: (nm.data.toList++32 :: ((Txt.a0x u).data.toList++32 :: ((Txt.a0x fr).data.toList++32 :: ((Txt.a0x til).data.toList++32 :: (Txt.a0x k).data.toList))))):
  Reads t (.iface 156 (.agg #[.string nm,.int .i64 u,.int .i64 fr,.int .i64 til,.int .i64 k])):=by
 obtain⟨u1,u2,u3⟩:=c5P hu.1 hu.2;obtain⟨f1,f2,f3⟩:=b1q hf.1 hf.2;obtain⟨l1,l2,l3⟩:=b1q hl.1 hl.2;obtain⟨k1,k2,k3⟩:=f5w hk.1 hk.2
 have hw:Txt.a1v t=[b5f,nm,Txt.a0x u,Txt.a0x fr,Txt.a0x til,Txt.a0x k]:=by
  refine Txt.a5p ?_ ?_
  ·rw[ht];simp only[List.map_cons,List.map_nil,Txt.a6Q,Txt.b3k]
  ·intro x hx;simp only[List.mem_cons,List.not_mem_nil,or_false] at hx;rcases hx with rfl|rfl|rfl|rfl|rfl|rfl
   ·exact a8t.2.2.1
   ·exact hn.w
   ·exact u3
   ·exact f3
   ·exact l3
   ·exact k3
 have hs:t.size<=160:=by
  have c:=Txt.a0I u (by omega) (by omega)
  have a:=Txt.a0I fr (by omega) (by omega)
  have b:=Txt.a0I til (by omega) (by omega)
  have d:=Txt.a0I k (by omega) (by omega)
  rw[<- Txt.a1l] at a b c d ⊢;rw[ht];have:=hn.s;rw[<- Txt.a1l] at this;simp only[List.length_append,List.length_cons];have:b5f.data.toList.length=4:=rfl;omega
 generalize hW:[b5f,nm,Txt.a0x u,Txt.a0x fr,Txt.a0x til,Txt.a0x k]=W at hw;have t1:=takes (ws:=W) (n:=1) (x:=nm) (B:=nmB) (by rw[<- hW];rfl) hn.b
 have t2:=takes (ws:=W) (n:=2) (x:=Txt.a0x u) (B:=unB) (by rw[<- hW];rfl) u1
 have t3:=takes (ws:=W) (n:=3) (x:=Txt.a0x fr) (B:=a0n) (by rw[<- hW];rfl) f1
 have t4:=takes (ws:=W) (n:=4) (x:=Txt.a0x til) (B:=a0n) (by rw[<- hW];rfl) l1
 have t5:=takes (ws:=W) (n:=5) (x:=Txt.a0x k) (B:=miB) (by rw[<- hW];rfl) k1
 have h:=a2H.hold (ws:=W) (b1P (by rw[<- hW];rfl))
 simp only[a4T,a6y,t1.1,t2.1,t2.2,t3.1,t3.2,t4.1,t4.2,t5.1,t5.2,a8A (ws:=W) (n:=1) (by rw[<- hW];rfl) hn.b,u2,f2,l2,k2] at h
 exact a5G hw hs h (by rw[<- hW];rfl)
theorem e6A{n:Int}(hn:1<=n/\n<=1048320)(ht:t.data.toList=b4n.data.toList++32 :: (Txt.a0x n).data.toList):
  Reads t (.iface 182 (.agg #[.int .i64 n])):=by
 obtain⟨n1,n2,n3⟩:=f5w hn.1 hn.2
 have hw:Txt.a1v t=[b4n,Txt.a0x n]:=by
  refine Txt.a5p ?_ ?_
  ·rw[ht];simp only[List.map_cons,List.map_nil,Txt.a6Q,Txt.b3k]
  ·intro x hx;simp only[List.mem_cons,List.not_mem_nil,or_false] at hx;rcases hx with rfl|rfl
   ·exact a8t.2.2.2.2.2.2.2.2.2
   ·exact n3
 have hs:t.size<=160:=by
  have a:=Txt.a0I n (by omega) (by omega)
  rw[<- Txt.a1l] at a ⊢;rw[ht];simp only[List.length_append,List.length_cons];have:b4n.data.toList.length=4:=rfl;omega
 generalize hW:[b4n,Txt.a0x n]=W at hw;have t1:=takes (ws:=W) (n:=1) (x:=Txt.a0x n) (B:=miB) (by rw[<- hW];rfl) n1
 have h:=a2H.tick (ws:=W) (b1P (by rw[<- hW];rfl))
 simp only[a4T,a6y,t1.1,t1.2,n2] at h;exact a5G hw hs h (by rw[<- hW];rfl)
end Go.Proofs.YtfigmlfdnickmaaGreatDoor
