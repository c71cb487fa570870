/-
  Parts of the proof, one behind the other.
-/
import Derived.Test.YtfigmlfdnickmaaGreatDoorL19
import Derived.Test.YtfigmlfdnickmaaGreatDoorRows
import Derived.Test.YtfigmlfdnickmaaGreatDoorCards
import Derived.Test.YtfigmlfdnickmaaGreatDoorTie
import Derived.WalkKit
import Derived.ProofKit
import Derived.Deep.DeepWitnessRowRef
import Derived.LaidLaws
import Derived.OpenShut
import Derived.Deep.Slices
import Derived.Deep.DeepHandedRow
import Derived.Lib.LaidTab
import Derived.Lib.LaidU8
import Derived.Shelf.Vars
set_option maxRecDepth 100000
set_option maxHeartbeats 8000000
namespace Go.Proofs.YtfigmlfdnickmaaGreatDoor
open Go.RowKit
open Desk (Ent St Inv a0h a2x a1q Rep)
theorem d2W(w:World)(l m:List (Ent × Value))(err at_ n:Int)(v1 v2 v3 v4 u1 u2 u3 u4:Value)(da gr ed:List Int)(h1:EV w v1 l)(k1:EV w u1 m)(he:l.map (·.1)=m.map (·.1))(hl:l.length<=1000)(hs:∀ p∈l,p.1.a0e.length<=1000)
  (h2:w.ownsRow 0 3 1 v2 da.length (da.map (Value.int .i64))) (k2:w.ownsRow 0 3 1 u2 da.length (da.map (Value.int .i64))) (h3:w.ownsRow 0 3 1 v3 gr.length (gr.map (Value.int .i64))) (k3:w.ownsRow 0 3 1 u3 gr.length (gr.map (Value.int .i64))) (h4:w.ownsRow 0 3 1 v4 ed.length (ed.map (Value.int .i64))) (k4:w.ownsRow 0 3 1 u4 ed.length (ed.map (Value.int .i64))) (b2:da.length<=1000000) (b3:gr.length<=1000000) (b4:ed.length<=1000000):
  Calls Tryz.prog 36 #[.agg #[.int .i64 err,.int .i64 at_,.int .i64 n,v1,v2,v3,v4],.agg #[.int .i64 err,.int .i64 at_,.int .i64 n,u1,u2,u3,u4]] w fun e w'=>e=.returned (.bool true)/\Below w.heap.size w w':=by
 have kX:Below w.heap.size w ((w.alloc (a5w err at_ n v1 v2 v3 v4)).alloc (a5w err at_ n u1 u2 u3 u4)):=((Below.refl w.heap.size w).alloc (Nat.le_refl _) _).trans (((Below.refl (w.alloc (a5w err at_ n v1 v2 v3 v4)).heap.size (w.alloc (a5w err at_ n v1 v2 v3 v4))).alloc (Nat.le_refl _) _).mono (by simp))
 have HX:=a0b kX
 have RA:Hid (((w.alloc (a5w err at_ n v1 v2 v3 v4)).alloc (a5w err at_ n u1 u2 u3 u4)).heap[w.heap.size]?=some (a5w err at_ n v1 v2 v3 v4)):=((((Below.refl (w.alloc (a5w err at_ n v1 v2 v3 v4)).heap.size (w.alloc (a5w err at_ n v1 v2 v3 v4))).alloc (Nat.le_refl _) (a5w err at_ n u1 u2 u3 u4)).block w.heap.size (by simp)).trans (a0p w _))
 have RB:Hid (((w.alloc (a5w err at_ n v1 v2 v3 v4)).alloc (a5w err at_ n u1 u2 u3 u4)).heap[w.heap.size+1]?=some (a5w err at_ n u1 u2 u3 u4)):=by
  have:=a0p (w.alloc (a5w err at_ n v1 v2 v3 v4)) (a5w err at_ n u1 u2 u3 u4)
  have e:(w.alloc (a5w err at_ n v1 v2 v3 v4)).heap.size=w.heap.size+1:=by simp
  rw[e] at this
  exact this
 have H1:=a0b h1
 have K1:=a0b k1
 have H2:=a0b h2
 have K2:=a0b k2
 have H3:=a0b h3
 have K3:=a0b k3
 have H4:=a0b h4
 have K4:=a0b k4
 have HE:=a0b he
 have HS:=a0b hs
 clear h1 k1 h2 k2 h3 k3 h4 k4 he hs kX
 go_enter Tryz.func36,Tryz.ntmps36
 go_upto_region 1 with fail
 change Code.wp _ _ _ _ ((w.alloc (a5w err at_ n v1 v2 v3 v4)).alloc (a5w err at_ n u1 u2 u3 u4))
 generalize (w.alloc (a5w err at_ n v1 v2 v3 v4)).alloc (a5w err at_ n u1 u2 u3 u4)=V at HX RA RB ⊢
 have KA:Hid (∀ W',Below V.heap.size V W'->(W'.cell? ⟨w.heap.size,0,none⟩=some (.int .i64 err)/\W'.cell? ⟨w.heap.size,1,none⟩=some (.int .i64 at_)/\W'.cell? ⟨w.heap.size,2,none⟩=some (.int .i64 n)/\W'.cell? ⟨w.heap.size,3,none⟩=some v1/\W'.cell? ⟨w.heap.size,4,none⟩=some v2/\W'.cell? ⟨w.heap.size,5,none⟩=some v3/\W'.cell? ⟨w.heap.size,6,none⟩=some v4)/\(W'.cell? ⟨w.heap.size+1,0,none⟩=some (.int .i64 err)/\W'.cell? ⟨w.heap.size+1,1,none⟩=some (.int .i64 at_)/\W'.cell? ⟨w.heap.size+1,2,none⟩=some (.int .i64 n)/\W'.cell? ⟨w.heap.size+1,3,none⟩=some u1/\W'.cell? ⟨w.heap.size+1,4,none⟩=some u2/\W'.cell? ⟨w.heap.size+1,5,none⟩=some u3/\W'.cell? ⟨w.heap.size+1,6,none⟩=some u4)):=fun W' k =>
  ⟨a2T ((k.block _ (Array.getElem?_eq_some_iff.1 RA.out).1).trans RA.out),a2T ((k.block _ (Array.getElem?_eq_some_iff.1 RB.out).1).trans RB.out)⟩
 have S1:=a0b (fun W' (k:Below V.heap.size V W')=>a8V l m v1 u1 W' ((H1.out.later HX.out).later k) ((K1.out.later HX.out).later k) HE.out hl HS.out)
 have S2:=a0b (fun W' (k:Below V.heap.size V W')=>f1K da da v2 u2 0 0 W' (c6T (c6T H2.out HX.out) k) (c6T (c6T K2.out HX.out) k) b2)
 have S3:=a0b (fun W' (k:Below V.heap.size V W')=>f1K gr gr v3 u3 0 0 W' (c6T (c6T H3.out HX.out) k) (c6T (c6T K3.out HX.out) k) b3)
 have S4:=a0b (fun W' (k:Below V.heap.size V W')=>f1K ed ed v4 u4 0 0 W' (c6T (c6T H4.out HX.out) k) (c6T (c6T K4.out HX.out) k) b4)
 rw[show decide (da=da)=true from by simp] at S2
 rw[show decide (gr=gr)=true from by simp] at S3
 rw[show decide (ed=ed)=true from by simp] at S4
 clear RA RB H1 K1 H2 K2 H3 K3 H4 K4 HE HS
 generalize w.heap.size+1=Rb at KA ⊢
 generalize hA:w.heap.size=Ra at KA ⊢
 have HAe:=a0b hA
 clear hA
 obtain⟨⟨_,_,_,x3,x4,x5,x6⟩,⟨_,_,_,y3,y4,y5,y6⟩⟩:=KA.out V (Below.refl _ _)
 go_upto_region 2 with (first
  |(go_at_call 29;refine (S1.out _ (Below.refl _ _)).mono ?_;rintro e w1 ⟨rfl,hb⟩;have HB:=a0b hb;clear hb S1))
 clear x3 x4 x5 x6 y3 y4 y5 y6
 obtain⟨⟨_,_,_,_,x4,_,_⟩,⟨_,_,_,_,y4,_,_⟩⟩:=KA.out _ HB.out
 go_upto_region 3 with (first
  |(go_at_call 34;refine (S2.out _ HB.out).mono ?_;rintro e w2 ⟨rfl,hb⟩;have HB2:=a0b (a0j HB.out hb (Nat.le_refl _));clear hb S2))
 clear x4 y4 HB
 obtain⟨⟨_,_,_,_,_,x5,_⟩,⟨_,_,_,_,_,y5,_⟩⟩:=KA.out _ HB2.out
 go_upto_region 4 with (first
  |(go_at_call 34;refine (S3.out _ HB2.out).mono ?_;rintro e w3 ⟨rfl,hb⟩;have HB3:=a0b (a0j HB2.out hb (Nat.le_refl _));clear hb S3))
 clear x5 y5 HB2
 obtain⟨⟨_,_,_,_,_,_,x6⟩,⟨_,_,_,_,_,_,y6⟩⟩:=KA.out _ HB3.out
 go_upto_region 5 with (first
  |(go_at_call 34;refine (S4.out _ HB3.out).mono ?_;rintro e w4 ⟨rfl,hb⟩;have HB4:=a0b (a0j HB3.out hb (Nat.le_refl _));clear hb S4))
 clear x6 y6 HB3
 obtain⟨⟨x0,x1,x2,_,_,_,_⟩,⟨y0,y1,y2,_,_,_,_⟩⟩:=KA.out _ HB4.out
 have HF:=a0b (HX.out.trans (HB4.out.mono HX.out.size))
 have q0:(err==err)=true:=by simp
 have q1:(at_==at_)=true:=by simp
 have q2:(n==n)=true:=by simp
 clear KA HB4 HX
 go_wp2_with fail
 go_ret
 exact⟨rfl,HF.out⟩
theorem e4J{ds:List Dsk}{i:Nat}{d:Dsk}(h:ds[i]?=some d):ds.set i d=ds:=by
 obtain⟨hl,e⟩:=List.getElem?_eq_some_iff.1 h
 subst e
 exact List.set_getElem_self hl
def d5a:Nat->ByteArray
 |0=>⟨#[108,105,115,116,32,97]⟩
 |1=>⟨#[108,105,115,116,32,98]⟩
 |2=>⟨#[119,97,105,116,105,110,103]⟩
 |_=>⟨#[99,108,111,99,107]⟩
def d3o:Obj:=.cells #[.string (d5a 0),.string (d5a 1),.string (d5a 2),.string (d5a 3)] 9 (0,0)
theorem f0f{W:World}{b:Nat}(h:W.heap[b]?=some d3o)(k:Nat)(hk:k<4):W.cell? ⟨b,k,none⟩=some (.string (d5a k)):=by
 unfold d3o at h
 have:k=0\/k=1\/k=2\/k=3:=by omega
 rcases this with rfl|rfl|rfl|rfl <;> (simp only[World.cell?,h];rfl)
structure f5A(s:St)(k:Nat)(rep:Rep):Prop where
 err:rep.err=0
 da:rep.days=[]
 gr:rep.granted=[]
 ed:rep.ended=[]
 len:rep.entries.length<=60
 sp:∀ e∈rep.entries,e.a0e.length<=1000
 go:∀ {X W:World}{ds:List Dsk}{ks:List (Nat × Obj)}{es:List (Value × List (Ent × Value))}{rs:List OR},CM X W ds ks es rs->∀ (i p dk:Nat),ds[i]?=some (p,dk,s)->Calls Tryz.prog 21 #[.pointer (some ⟨p,0,none⟩),.string (d5a k)] W fun e W'=>MDo X W ds i p dk ks es rs (s,rep) e W'
theorem f4l{s:St}(hi:Inv s)(ha:a0h (⟨#[97]⟩:ByteArray) s.ts≠0)(hb:a0h (⟨#[98]⟩:ByteArray) s.ts≠0)(k:Nat)(hk:k<4):∃ rep,f5A s k rep:=by
 have esp:∀ e∈s.es,e.a0e.length<=1000:=fun e he=>by have:=(hi.en e he).sl;omega
 have:k=0\/k=1\/k=2\/k=3:=by omega
 rcases this with rfl|rfl|rfl|rfl
 ·exact⟨_,rfl,rfl,rfl,rfl,Desk.c2P hi _,fun e he=>esp e (Desk.b6I hi _ he).1,fun h i p dk hd=>h.line i hd (b8g c7k rfl) (LV.list (⟨#[97]⟩:ByteArray) (by decide) false 0 0 0 1048320 rfl rfl) ⟨by omega,by omega,by omega,by omega⟩ (Desk.c0t hi ha)⟩
 ·exact⟨_,rfl,rfl,rfl,rfl,Desk.c2P hi _,fun e he=>esp e (Desk.b6I hi _ he).1,fun h i p dk hd=>h.line i hd (b8g c7j rfl) (LV.list (⟨#[98]⟩:ByteArray) (by decide) false 0 0 0 1048320 rfl rfl) ⟨by omega,by omega,by omega,by omega⟩ (Desk.c0t hi hb)⟩
 ·exact⟨_,rfl,rfl,rfl,rfl,Nat.le_trans (List.length_filter_le ..) (Desk.c6C hi),fun e he=>esp e (List.mem_filter.1 he).1,fun h i p dk hd=>h.line i hd d9f LV.waiting trivial (d5K hi)⟩
 ·exact⟨_,rfl,rfl,rfl,rfl,by simp[Rep.num],fun e he=>by simp[Rep.num] at he,fun h i p dk hd=>h.line i hd e4h LV.clock trivial (e7G hi)⟩
theorem f0e{X W:World}{ds:List Dsk}{ks:List (Nat × Obj)}{rs:List OR}(h:CM X W ds ks [] rs){i j p1 d1 p2 d2:Nat}{s:St}(hi:ds[i]?=some (p1,d1,s))(hj:ds[j]?=some (p2,d2,s))(ha:a0h (⟨#[97]⟩:ByteArray) s.ts≠0)(hb:a0h (⟨#[98]⟩:ByteArray) s.ts≠0):
  Calls Tryz.prog 37 #[.pointer (some ⟨p1,0,none⟩),.pointer (some ⟨p2,0,none⟩)] W fun e W'=>e=.returned (.bool true)/\CM X W' ds ks [] rs:=by
 have AQ:=a0b (f4l (h.inv hi) ha hb)
 have HC:=a0b (h.alloc d3o)
 have HI:=a0b hi
 have HJ:=a0b hj
 clear h ha hb hi hj
 go_enter Tryz.func37,Tryz.ntmps37
 go_upto_region 2 with fail
 change Code.wp _ _ _ _ (W.alloc d3o)
 generalize W.alloc d3o=V at HC ⊢
 generalize W.heap.size=lb at HC ⊢
 go_upto_region 3 with fail
 go_loopw [6,7,8,9] (fun vk _ _ _ wr=>∃ k:Nat,k<=4/\vk=.int .i64 k/\CM X wr ds ((lb,d3o) :: ks) [] rs) (fun vk _ _ _ _=>4-(intOf vk).toNat)
 case atStart=>exact⟨0,by omega,rfl,HC.out⟩
 case round =>
  obtain⟨k,hk,rfl,hcm⟩:=hrel
  replace HC:=a0b hcm
  clear hcm
  by_cases hlt:k<4
  ·have hlt':(k:Int)<4:=by omega
   obtain⟨rep,ra⟩:=AQ.out k hlt
   have LO:Hid (∀ W' kk ee rr,CM X W' ds (kk++(lb,d3o) :: ks) ee rr->W'.cell? ⟨lb,k,none⟩=some (.string (d5a k))):=fun W' kk ee rr hc=>f0f (hc.kb (List.mem_append_right _ (List.mem_cons_self ..))) k hlt
   have GO:Hid (∀ (W':World) (kk:List (Nat × Obj)) (ee:List (Value × List (Ent × Value))) (rr:List OR),CM X W' ds kk ee rr->∀ (i p dk:Nat),ds[i]?=some (p,dk,s)->Calls Tryz.prog 21 #[.pointer (some ⟨p,0,none⟩),.string (d5a k)] W' fun e W''=>MDo X W' ds i p dk kk ee rr (s,rep) e W''):=fun W' kk ee rr hc i p dk hd=>ra.go hc i p dk hd
   have e0:=ra.err
   have e1:=ra.da
   have e2:=ra.gr
   have e3:=ra.ed
   have LB:=a0b (And.intro ra.len ra.sp)
   clear ra
   have c0:=LO.out wr [] [] rs HC.out
   generalize d5a k=t at LO GO c0
   go_upto_region 6 with (first
    |(go_at_call 21;refine (GO.out _ _ _ _ HC.out i p1 d1 HI.out).mono ?_;rintro e w1 ⟨l,a1,a2,a3,a4,c1,c2,c3,c4,rfl,hents,hc1,_⟩;have HE1:=a0b hents;replace HC:=a0b hc1;clear hc1 hents c0))
   replace HC:Hid (CM X w1 ds ((lb,d3o) :: ks) [(.slice a1 l.length c1,l)] (c9T (.slice a2 0 c2) [] :: c9T (.slice a3 0 c3) [] :: c9T (.slice a4 0 c4) [] :: rs)):=by
    have h:CM X w1 (ds.set i (p1,d1,s)) ((lb,d3o) :: ks) [(.slice a1 l.length c1,l)] (c9T (.slice a2 rep.days.length c2) rep.days :: c9T (.slice a3 rep.granted.length c3) rep.granted :: c9T (.slice a4 rep.ended.length c4) rep.ended :: rs):=HC.out
    rw[e4J HI.out,e1,e2,e3] at h
    exact h
   change Code.wp _ _ _ _ (w1.alloc (a5w 0 rep.at_ rep.n (.slice a1 l.length c1) (.slice a2 0 c2) (.slice a3 0 c3) (.slice a4 0 c4)))
   replace HC:=a0b (HC.out.alloc (a5w 0 rep.at_ rep.n (.slice a1 l.length c1) (.slice a2 0 c2) (.slice a3 0 c3) (.slice a4 0 c4)))
   generalize w1.alloc (a5w 0 rep.at_ rep.n (.slice a1 l.length c1) (.slice a2 0 c2) (.slice a3 0 c3) (.slice a4 0 c4))=V1 at HC ⊢
   generalize w1.heap.size=xb at HC ⊢
   have c0:=LO.out V1 [_] _ _ HC.out
   go_upto_region 7 with (first
    |(go_at_call 21;refine (GO.out _ _ _ _ HC.out j p2 d2 HJ.out).mono ?_;rintro e w2 ⟨m,b1,b2,b3,b4,d1',d2',d3,d4,rfl,hents,hc2,_⟩;have HE2:=a0b hents;replace HC:=a0b hc2;clear hc2 hents c0))
   replace HC:Hid (CM X w2 ds ((xb,a5w 0 rep.at_ rep.n (.slice a1 l.length c1) (.slice a2 0 c2) (.slice a3 0 c3) (.slice a4 0 c4)) :: (lb,d3o) :: ks) [(.slice b1 m.length d1',m),(.slice a1 l.length c1,l)] (c9T (.slice b2 0 d2') [] :: c9T (.slice b3 0 d3) [] :: c9T (.slice b4 0 d4) [] :: c9T (.slice a2 0 c2) [] :: c9T (.slice a3 0 c3) [] :: c9T (.slice a4 0 c4) [] :: rs)):=by
    have h:CM X w2 (ds.set j (p2,d2,s)) _ [(.slice b1 m.length d1',m),(.slice a1 l.length c1,l)] (c9T (.slice b2 rep.days.length d2') rep.days :: c9T (.slice b3 rep.granted.length d3) rep.granted :: c9T (.slice b4 rep.ended.length d4) rep.ended :: c9T (.slice a2 0 c2) [] :: c9T (.slice a3 0 c3) [] :: c9T (.slice a4 0 c4) [] :: rs):=HC.out
    rw[e4J HJ.out,e1,e2,e3] at h
    exact h
   change Code.wp _ _ _ _ (w2.alloc (a5w 0 rep.at_ rep.n (.slice b1 m.length d1') (.slice b2 0 d2') (.slice b3 0 d3) (.slice b4 0 d4)))
   replace HC:=a0b (HC.out.alloc (a5w 0 rep.at_ rep.n (.slice b1 m.length d1') (.slice b2 0 d2') (.slice b3 0 d3) (.slice b4 0 d4)))
   generalize w2.alloc (a5w 0 rep.at_ rep.n (.slice b1 m.length d1') (.slice b2 0 d2') (.slice b3 0 d3) (.slice b4 0 d4))=V2 at HC ⊢
   generalize w2.heap.size=yb at HC ⊢
   have SR:=a0b (d2W V2 l m 0 rep.at_ rep.n (.slice a1 l.length c1) (.slice a2 0 c2) (.slice a3 0 c3) (.slice a4 0 c4) (.slice b1 m.length d1') (.slice b2 0 d2') (.slice b3 0 d3) (.slice b4 0 d4) [] [] [] (HC.out.ev (List.mem_cons_of_mem _ (List.mem_cons_self ..))) (HC.out.ev (List.mem_cons_self ..)) (HE1.out.trans HE2.out.symm) (by
     have:=LB.out.1
     rw[<- HE1.out,List.length_map] at this
     omega) (fun q hq=>LB.out.2 q.1 (by
     have:=HE1.out
     show q.1∈rep.entries
     rw[<- this]
     exact List.mem_map.2 ⟨q,hq,rfl⟩))
    (HC.out.row (q:=c9T (.slice a2 0 c2) []) (by simp)) (HC.out.row (q:=c9T (.slice b2 0 d2') []) (by simp)) (HC.out.row (q:=c9T (.slice a3 0 c3) []) (by simp)) (HC.out.row (q:=c9T (.slice b3 0 d3) []) (by simp)) (HC.out.row (q:=c9T (.slice a4 0 c4) []) (by simp)) (HC.out.row (q:=c9T (.slice b4 0 d4) []) (by simp)) (by simp) (by simp) (by simp))
   obtain⟨y0,y1,y2,y3,y4,y5,y6⟩:=a2T (HC.out.kb (List.mem_cons_self ..))
   obtain⟨x0,x1,x2,x3,x4,x5,x6⟩:=a2T (HC.out.kb (b:=xb) (List.mem_cons_of_mem _ (List.mem_cons_self ..)))
   go_upto_region 8 with (first
    |(go_at_call 36;refine SR.out.mono ?_;rintro e w3 ⟨rfl,hb⟩;replace x0:=a0a hb x0;replace HC:=a0b (HC.out.later hb);clear hb SR y0 y1 y2 y3 y4 y5 y6 x1 x2 x3 x4 x5 x6))
   have HF:Hid (CM X w3 ds ((lb,d3o) :: ks) [] rs):=HC.out.less (fun q hq=>List.mem_cons_of_mem _ (List.mem_cons_of_mem _ hq)) (by simp) (fun q hq=>by simp[hq])
   clear HC GO LO LB HE1 HE2
   go_wp2_with fail
   go_roundw
   case rel=>exact⟨k+1,by omega,by go_num,HF.out⟩
   case measure=>simp[intOf];omega
  ·have hlt':¬ (k:Int)<4:=by omega
   have HF:Hid (CM X wr ds ks [] rs):=HC.out.less (fun q hq=>List.mem_cons_of_mem _ hq) (by simp) (fun q hq=>hq)
   clear HC
   go_wp2_with fail
   go_ret
   exact⟨rfl,HF.out⟩
theorem e3m{W:World}{B e z n:Nat}{v:Value}{xs:List Value}(h:W.ownsRow B e z v n xs)(b o:Nat)(x:Value):∃ xs',(W.setCell ⟨b,o,none⟩ x).ownsRow B e z v n xs'/\(∀ i,i≠o->xs'[i]?=xs[i]?)/\(v.ownBlock≠some b->xs'=xs):=by
 have off:=Off.set0 b W o x
 by_cases hv:v.ownBlock=some b
 ·obtain⟨hlen,h2⟩:=h
  rcases h2 with ⟨rfl,rfl⟩|⟨g,cap,cur,rfl,hb,hg,hnc,hcm,hcs,htk⟩
  ·cases hv
  ·have e1:g=b:=by simpa[Value.ownBlock] using hv
   subst e1
   have hle:n*z<=cap*z:=Nat.mul_le_mul_right _ hnc
   refine⟨(cur.setIfInBounds o x).toList.take (n*z),⟨?_,.inr ⟨g,cap,cur.setIfInBounds o x,rfl,hb,a2A hg x,hnc,hcm,by rw[Array.size_setIfInBounds];exact hcs,rfl⟩⟩,fun i hi=>?_,fun c=>absurd hv c⟩
   ·rw[List.length_take,Array.length_toList,Array.size_setIfInBounds,hcs]
    omega
   ·rw[<- htk,List.getElem?_take,List.getElem?_take]
    split
    ·rw[Array.getElem?_toList,Array.getElem?_toList,Array.getElem?_setIfInBounds_ne (fun c=>hi c.symm)]
    ·rfl
 ·exact⟨xs,a1i h off (fun c hc=>by simp;intro e;subst e;exact hv hc),fun _ _=>rfl,fun _=>rfl⟩
structure WL(W:World)(v:Value)(l:List (Ent × Value)):Prop where
 row:∃ xs,W.ownsRow 0 58 6 v l.length xs/\∀ (k:Nat) (h:k<l.length),xs[k*6+4]?=some l[k].2
 sp:∀ q∈l,∃ ys,W.ownsRow 0 60 2 q.2 q.1.a0e.length ys
 no:∀ q∈l,∀ b,q.2.ownBlock=some b->v.ownBlock≠some b
theorem WL.of{W:World}{col:Nat->Option Col}{v:Value}{l:List (Ent × Value)}(h:a3j W 0 col v l):WL W v l:=by
 refine⟨⟨_,h.own,fun k hk=>?_⟩,fun q hq=>⟨_,(h.sp q hq).1.own⟩,fun q hq b hb=>(h.sp q hq).2 b hb⟩
 rw[a3M hk (by omega)]
 rfl
theorem WL.set{W:World}{v:Value}{l:List (Ent × Value)}(h:WL W v l){b o:Nat}(x:Value)(ho:v.ownBlock=some b->∀ k,o≠k*6+4):WL (W.setCell ⟨b,o,none⟩ x) v l:=by
 obtain⟨xs,hx,h4⟩:=h.row
 obtain⟨xs',hx',hs,hn⟩:=e3m hx b o x
 refine⟨⟨xs',hx',fun k hk=>?_⟩,fun q hq=>?_,h.no⟩
 ·by_cases hv:v.ownBlock=some b
  ·rw[hs _ (fun c=>ho hv k c.symm)];exact h4 k hk
  ·rw[hn hv];exact h4 k hk
 ·obtain⟨ys,hy⟩:=h.sp q hq
  obtain⟨ys',hy',_⟩:=e3m hy b o x
  exact⟨ys',hy'⟩
theorem WL.cell{W:World}{v:Value}{l:List (Ent × Value)}(h:WL W v l)(k:Nat)(hk:k<l.length):∃ g cap,v=.slice (some ⟨g,0,none⟩) l.length cap/\W.cell? ⟨g,k*6+4,none⟩=some l[k].2/\(∀ j,j<6->∃ y,W.cell? ⟨g,k*6+j,none⟩=some y)/\∀ o,W.frozen? ⟨g,o,none⟩=false:=by
 obtain⟨xs,hx,h4⟩:=h.row
 obtain⟨hlen,h2⟩:=hx
 rcases h2 with ⟨rfl,h0⟩|⟨g,cap,cur,rfl,hb,hg,hnc,hcm,hcs,htk⟩
 ·omega
 ·have hx:W.ownsRow 0 58 6 (.slice (some ⟨g,0,none⟩) l.length cap) l.length xs:=⟨hlen,.inr ⟨g,cap,cur,rfl,hb,hg,hnc,hcm,hcs,htk⟩⟩
  refine⟨g,cap,rfl,(hx.cellAt (k*6+4) (by omega)).trans (h4 k hk),fun j hj=>?_,fun o=>frozen_of_row _ g o _ _ hg⟩
  have hl:k*6+j<xs.length:=by omega
  exact⟨xs[k*6+j],(hx.cellAt (k*6+j) (by omega)).trans (List.getElem?_eq_getElem hl)⟩
theorem WL.span{W:World}{v:Value}{l:List (Ent × Value)}(h:WL W v l){q:Ent × Value}(hq:q∈l)(j:Nat)(hj:j<q.1.a0e.length):∃ g cap,q.2=.slice (some ⟨g,0,none⟩) q.1.a0e.length cap/\(∃ y,W.cell? ⟨g,j*2,none⟩=some y)/\(∃ y,W.cell? ⟨g,j*2+1,none⟩=some y)/\∀ o,W.frozen? ⟨g,o,none⟩=false:=by
 obtain⟨ys,hy⟩:=h.sp q hq
 have hy0:=hy
 obtain⟨hlen,h2⟩:=hy
 rcases h2 with ⟨_,h0⟩|⟨g,cap,cur,e,hb,hg,hnc,hcm,hcs,htk⟩
 ·omega
 ·rw[e] at hy0
  have a0:=hy0.cellAt (j*2) (by omega)
  have a1:=hy0.cellAt (j*2+1) (by omega)
  exact⟨g,cap,e,⟨_,a0.trans (List.getElem?_eq_getElem (by omega))⟩,⟨_,a1.trans (List.getElem?_eq_getElem (by omega))⟩,fun o=>frozen_of_row _ g o _ _ hg⟩
def CW(X W:World)(N:Nat)(ds:List Dsk)(ks:List (Nat × Obj))(rs:List OR)(v:Value)(l:List (Ent × Value)):Prop :=
 ∃ cc,CMs X W cc ds ks [] rs/\WL W v l/\(∀ b,v.ownBlock=some b->N<=b/\cc b=none)/\∀ q∈l,∀ b,q.2.ownBlock=some b->N<=b/\cc b=none
theorem CW.cm{X W:World}{N:Nat}{ds:List Dsk}{ks:List (Nat × Obj)}{rs:List OR}{v:Value}{l:List (Ent × Value)}(h:CW X W N ds ks rs v l):CM X W ds ks [] rs:=by
 obtain⟨cc,h,_⟩:=h
 exact⟨cc,h⟩
theorem CW.wl{X W:World}{N:Nat}{ds:List Dsk}{ks:List (Nat × Obj)}{rs:List OR}{v:Value}{l:List (Ent × Value)}(h:CW X W N ds ks rs v l):WL W v l:=by
 obtain⟨cc,_,h,_⟩:=h
 exact h
theorem e3W{X W:World}{cc:Nat->Option (Nat × Col)}{ds:List Dsk}{ks:List (Nat × Obj)}{rs:List OR}(h:CMs X W cc ds ks [] rs)(h10:10<=X.heap.size){b:Nat}(hX:X.heap.size<=b)(hp:∀ d∈ds,d.1≠b)(hn:∀ q∈ks,q.1≠b)(hr:∀ q∈rs,∀ c,q.v.ownBlock=some c->c≠b)(hcb:cc b=none)(o:Nat)(x:Value):CMs X (W.setCell ⟨b,o,none⟩ x) cc ds ks [] rs:=by
 have k:=Off.set0 b W o x
 have kb:∀ N,N<=X.heap.size->Below N W (W.setCell ⟨b,o,none⟩ x):=fun N hN=>⟨k.os,k.tape,k.output,k.size,fun y hy=>k.block y (Nat.lt_of_lt_of_le hy (Nat.le_trans hN h.bl.size)) (by simp;omega)⟩
 have he:Env (W.setCell ⟨b,o,none⟩ x):=h.ev.ten (kb 10 h10)
 have hbl:Below X.heap.size X (W.setCell ⟨b,o,none⟩ x):=h.bl.trans (kb _ (Nat.le_refl _))
 refine⟨fun i d hd=>?_,h.pp,fun q hq=>?_,by simp,fun q hq=>⟨a1i (h.rs q hq).own k (fun c hc=>by simp;exact hr q hq c hc),(h.rs q hq).no⟩,fun y hy=>h.lt y (Nat.le_trans k.size hy),he,hbl,h.nb⟩
 ·obtain⟨r,D⟩:=h.dg i d hd
  exact⟨r,⟨⟨(k.block d.1 (Array.getElem?_eq_some_iff.1 D.bd.pc).1 (by simp;exact hp d (List.mem_of_getElem? hd))).trans D.bd.pc,D.bd.pn,⟨D.bd.ds.dk.off k (fun y hy=>by have:y=b:=List.mem_singleton.1 hy;subst this;exact d1U hcb),D.bd.ds.of,D.bd.ds.wl,D.bd.ds.hl,D.bd.ds.inv⟩,he,D.bd.gl⟩,hbl,D.lo⟩⟩
 ·have h2:=h.ks q hq
  exact⟨(k.block q.1 (Array.getElem?_eq_some_iff.1 h2.h).1 (by simp;exact hn q hq)).trans h2.h,h2.c⟩
structure f5X(X:World)(N:Nat)(ds:List Dsk)(ks:List (Nat × Obj))(rs:List OR):Prop where
 h10:10<=X.heap.size
 x:X.heap.size<=N
 d:∀ d∈ds,d.1<N
 k:∀ q∈ks,q.1<N
 r:∀ q∈rs,∀ c,q.v.ownBlock=some c->c<N
theorem CW.setRow{X W:World}{N:Nat}{ds:List Dsk}{ks:List (Nat × Obj)}{rs:List OR}{v:Value}{l:List (Ent × Value)}(h:CW X W N ds ks rs v l)(lo:f5X X N ds ks rs){b:Nat}(hb:v.ownBlock=some b)(o:Nat)(x:Value)(ho:∀ k,o≠k*6+4):CW X (W.setCell ⟨b,o,none⟩ x) N ds ks rs v l:=by
 obtain⟨cc,hc,wl,h1,h2⟩:=h
 obtain⟨n1,c1⟩:=h1 b hb
 exact⟨cc,e3W hc lo.h10 (Nat.le_trans lo.x n1) (fun d hd=>by have:=lo.d d hd;omega) (fun q hq=>by have:=lo.k q hq;omega) (fun q hq c hc=>by have:=lo.r q hq c hc;omega) c1 o x,wl.set x (fun _=>ho),h1,h2⟩
theorem CW.setSpan{X W:World}{N:Nat}{ds:List Dsk}{ks:List (Nat × Obj)}{rs:List OR}{v:Value}{l:List (Ent × Value)}(h:CW X W N ds ks rs v l)(lo:f5X X N ds ks rs){q:Ent × Value}(hq:q∈l){b:Nat}(hb:q.2.ownBlock=some b)(o:Nat)(x:Value):CW X (W.setCell ⟨b,o,none⟩ x) N ds ks rs v l:=by
 obtain⟨cc,hc,wl,h1,h2⟩:=h
 obtain⟨n1,c1⟩:=h2 q hq b hb
 exact⟨cc,e3W hc lo.h10 (Nat.le_trans lo.x n1) (fun d hd=>by have:=lo.d d hd;omega) (fun q hq=>by have:=lo.k q hq;omega) (fun q hq c hc=>by have:=lo.r q hq c hc;omega) c1 o x,wl.set x (fun hv=>absurd hv (wl.no q hq b hb)),h1,h2⟩
theorem CM.entriesW{X W:World}{ds:List Dsk}{ks:List (Nat × Obj)}{rs:List OR}(h:CM X W ds ks [] rs)(i:Nat){p dk:Nat}{s:St}(hi:ds[i]?=some (p,dk,s))(nm:ByteArray)(hn:Nm nm)(hu:a0h nm s.ts≠0):
  Calls Tryz.prog 20 #[.pointer (some ⟨p,0,none⟩),.string nm] W fun e W'=>∃ (l:List (Ent × Value)) (a:Option Addr) (c:Nat),e=.returned (.tuple #[.slice a l.length c,.bool true])/\l.map (·.1)=a2x nm 0 1048320 s.es/\CW X W' W.heap.size ds ks rs (.slice a l.length c) l/\W.heap.size<=W'.heap.size:=by
 obtain⟨cc,h⟩:=h
 obtain⟨r,D⟩:=h.dg i _ hi
 refine (b5i D nm hn hu).mono ?_
 rintro en W' ⟨l,a,c,r',col',rfl,he,row,dg,st⟩
 obtain⟨cc',hfl,hC⟩:=h.step hi dg st
 have es:ds.set i (p,dk,s)=ds:=by
  obtain⟨hl,e⟩:=List.getElem?_eq_some_iff.1 hi
  rw[<- e]
  exact List.set_getElem_self hl
 rw[es] at hC
 have fn:∀ b,W.heap.size<=b->col' b=none->cc' b=none:=fun b hb hc=>by
  have:=hfl b hb hc
  unfold d1J at this
  cases e:cc' b with
  |none=>rfl
  |some q=>rw[e] at this;cases this
 exact⟨l,a,c,rfl,he,⟨cc',hC,WL.of row.low,fun b hb=>⟨(row.own.lt b hb).1,fn b (row.own.lt b hb).1 (row.no b hb)⟩,fun q hq b hb=>⟨((row.sp q hq).1.own.lt b hb).1,fn b ((row.sp q hq).1.own.lt b hb).1 ((row.sp q hq).1.no b hb)⟩⟩,st.size⟩
theorem CM.setNum{X W:World}{ds:List Dsk}{ks:List (Nat × Obj)}{rs:List OR}{q:OR}(h:CM X W ds ks [] (q :: rs))(h10:10<=X.heap.size){b:Nat}(hb:q.v.ownBlock=some b)(hX:X.heap.size<=b)(hp:∀ d∈ds,d.1≠b)(hn:∀ q∈ks,q.1≠b)(hr:∀ q∈rs,∀ c,q.v.ownBlock=some c->c≠b)(o:Nat)(x:Value):∃ xs,CM X (W.setCell ⟨b,o,none⟩ x) ds ks [] (⟨q.v,q.t,q.z,q.n,xs⟩ :: rs):=by
 obtain⟨cc,h⟩:=h
 have row:=h.rs q (List.mem_cons_self ..)
 have hcb:cc b=none:=by
  have:=row.no b hb
  unfold d1J at this
  cases e:cc b with
  |none=>rfl
  |some q=>rw[e] at this;cases this
 obtain⟨xs,hx,_⟩:=e3m row.own b o x
 have h0:CMs X W cc ds ks [] rs:=⟨h.dg,h.pp,h.ks,h.es,fun y hy=>h.rs y (List.mem_cons_of_mem _ hy),h.lt,h.ev,h.bl,h.nb⟩
 have h1:=e3W h0 h10 hX hp hn hr hcb o x
 refine⟨xs,cc,h1.dg,h1.pp,h1.ks,h1.es,fun y hy=>?_,h1.lt,h1.ev,h1.bl,h1.nb⟩
 rcases List.mem_cons.1 hy with rfl|hy
 ·exact⟨hx,row.no⟩
 ·exact h1.rs y hy
namespace Desk
theorem d9a(p:Ent->Bool):∀ l:List Ent,(l.filter p).length+(l.filter fun e=>!p e).length=l.length
 |[]=>rfl
 |a :: r=>by
  have ih:=d9a p r
  simp only[List.filter_cons]
  cases p a <;> simp <;> omega
theorem d8u(ts:List (ByteArray × Int)):∀ (k:Nat)(es:List Ent)(now tq:Int),(a1K ts k es now tq).2.1.length<=es.length
 |0,es,_,_=>by simp[a1K]
 |k+1,es,now,tq=>by
  simp only[a1K]
  split
  ·have h1:=d8u ts k (a0R ts (es.filter fun e=>!a0z (a3D tq es) e)).1 (a3D tq es) tq
   have h2:=a7H ts (es.filter fun e=>!a0z (a3D tq es) e)
   have h3:=d9a (a0z (a3D tq es)) es
   simp only[List.length_append,List.length_map]
   omega
  ·simp
structure f5z(s:St)(r:Rep):Prop where
 en:r.entries.length<=60
 es:∀ e∈r.entries,e∈s.es
 da:r.days.length<=60
 ed:r.ended.length<=60
theorem f5z.plain{s:St}{r:Rep}(h1:r.entries=[])(h2:r.days=[])(h3:r.ended=[]):f5z s r:=⟨by rw[h1];simp,by rw[h1];simp,by rw[h2];simp,by rw[h3];simp⟩
theorem e7j{s:St}(h:Inv s){l:a7U}(hl:a1O l):f5z s (a0g s l).2:=by
 cases l with
 |a0k name u=>simp only[a0g];split <;> first|exact .plain rfl rfl rfl|(split <;> exact .plain rfl rfl rfl)
 |enter k name u fr til long=>simp only[a0g];split <;> exact .plain rfl rfl rfl
 |series name u r=>simp only[a0g];split <;> exact .plain rfl rfl rfl
 |confirm id =>
  simp only[a0g]
  split
  ·exact .plain rfl rfl rfl
  ·split <;> exact .plain rfl rfl rfl
 |cancel id=>simp only[a0g];split <;> exact .plain rfl rfl rfl
 |list name fr til =>
  simp only[a0g]
  split
  ·exact .plain rfl rfl rfl
  ·split
   ·exact .plain rfl rfl rfl
   ·have hm:∀ e∈a2x name fr til s.es,e∈s.es:=fun e he=>(List.mem_filter.1 (a4U.1 he)).1
    have hlen:(a2x name fr til s.es).length<=60:=by
     have:=c6C h
     have e:=(a3Y (a:=fr) (b:=til) (s.es.filter (b7U name fr til))).length_eq
     have f:=List.length_filter_le (b7U name fr til) s.es
     unfold a2x
     omega
    exact⟨hlen,hm,by simp[Rep.num],by simp[Rep.num]⟩
 |waiting=>exact⟨Nat.le_trans (List.length_filter_le ..) (c6C h),fun e he=>(List.mem_filter.1 he).1,by simp[a0g,Rep.num],by simp[a0g,Rep.num]⟩
 |peak name fr til=>simp only[a0g];split <;> first|exact .plain rfl rfl rfl|(split <;> exact .plain rfl rfl rfl)
 |find name u long fr til=>simp only[a0g];split <;> first|exact .plain rfl rfl rfl|(split <;> exact .plain rfl rfl rfl)
 |expand r =>
  simp only[a0g]
  split
  ·exact .plain rfl rfl rfl
  ·rename_i c
   have hf:Rd.a6s r:=hl
   have:=((Rd.a5K hf).2 (by omega)).2.2.1
   exact⟨by simp[Rep.num],by simp[Rep.num],by show (Rd.a0E r).length<=60;omega,by simp[Rep.num]⟩
 |tick n =>
  simp only[a0g]
  split
  ·exact .plain rfl rfl rfl
  ·have h1:=d8u s.ts (s.es.length+1) s.es s.now (s.now+n)
   have h2:=c6C h
   exact⟨by simp[Rep.num],by simp[Rep.num],by simp[Rep.num],by show (a1K s.ts (s.es.length+1) s.es s.now (s.now+n)).2.1.length<=60;omega⟩
 |clock=>exact .plain rfl rfl rfl
theorem e6u{s:St}(h:Inv s){l:a7U}(hl:a1O l):f5z s (a1q s l).2/\(a1q s l).2.granted.length<=100000:=by
 have h1:=e7j h hl
 have h2:=c3u h.mid l
 unfold a1q
 split
 ·exact⟨h1,by omega⟩
 ·refine⟨⟨h1.en,h1.es,h1.da,h1.ed⟩,?_⟩
  have h3:=b8x (a0g s l).1.ts (a0g s l).1.es
  have h4:=a1x (b7f h hl)
  simp only[List.length_append]
  omega
end Desk
theorem e2W{s:Desk.St}(h:Desk.Inv s)(t:ByteArray):Desk.f5z s (stepT s t).2/\(stepT s t).2.granted.length<=100000:=by
 have hr:=c2y t
 unfold stepT
 cases hq:b9K t with
 |inl q=>exact⟨.plain rfl rfl rfl,by simp⟩
 |inr l =>
  rw[hq] at hr
  obtain⟨line,_,_,hl⟩:=hr
  exact Desk.e6u h hl
theorem e4w{s:St}(h:Inv s)(t:ByteArray){nm:ByteArray}(hu:a0h nm s.ts≠0):a0h nm (stepT s t).1.ts≠0:=by
 rw[(b4A h t).ts nm hu];exact hu
def f6v(X W:World)(ds:List Dsk)(i p dk:Nat)(ks:List (Nat × Obj))(es:List (Value × List (Ent × Value)))(rs:List OR)(q:St × Rep)(e:Ending)(W':World):Prop :=
 ∃ (l:List (Ent × Value)) (a1 a2 a3 a4:Option Addr) (c1 c2 c3 c4:Nat),e=.returned (.agg #[.int .i64 q.2.err,.int .i64 q.2.at_,.int .i64 q.2.n,.slice a1 l.length c1,.slice a2 q.2.days.length c2,.slice a3 q.2.granted.length c3,.slice a4 q.2.ended.length c4]) /\
  l.map (·.1)=q.2.entries/\CM X W' (ds.set i (p,dk,q.1)) ks ((.slice a1 l.length c1,l) :: es) (c9T (.slice a2 q.2.days.length c2) q.2.days :: c9T (.slice a3 q.2.granted.length c3) q.2.granted :: c9T (.slice a4 q.2.ended.length c4) q.2.ended :: rs)/\∀ b,(Value.slice a3 q.2.granted.length c3).ownBlock=some b->W.heap.size<=b
theorem CM.textF{X W:World}{ds:List Dsk}{ks:List (Nat × Obj)}{es:List (Value × List (Ent × Value))}{rs:List OR}(h:CM X W ds ks es rs)(i:Nat){p dk:Nat}{s:St}(hi:ds[i]?=some (p,dk,s))(t:ByteArray):
  Calls Tryz.prog 21 #[.pointer (some ⟨p,0,none⟩),.string t] W fun e W'=>f6v X W ds i p dk ks es rs (stepT s t) e W':=by
 obtain⟨cc,h⟩:=h
 obtain⟨r,D⟩:=h.dg i _ hi
 refine (c5A D.bd t).mono ?_
 rintro e W' ⟨v,rfl,k⟩
 obtain⟨r',col',bd,st,en,da,gr,ed,l,rfl,he,k1,k2,k3,k4,_⟩:=k
 obtain⟨a1,c1,rfl⟩:=a0B k1.own
 obtain⟨a2,c2,rfl⟩:=a0B k2.own
 obtain⟨a3,c3,rfl⟩:=a0B k3.own
 obtain⟨a4,c4,rfl⟩:=a0B k4.own
 obtain⟨cc',hfl,hC⟩:=h.step hi (D.step bd st) st
 refine⟨l,a1,a2,a3,a4,c1,c2,c3,c4,rfl,he,⟨cc',hC.dg,hC.pp,hC.ks,fun x hx=>?_,fun x hx=>?_,hC.lt,hC.ev,hC.bl,hC.nb⟩,fun b hb=>(k3.own.lt b hb).1⟩
 ·rcases List.mem_cons.1 hx with rfl|hx
  ·exact k1.flat hfl
  ·exact hC.es x hx
 ·rcases List.mem_cons.1 hx with rfl|hx
  ·exact k2.orow hfl
  ·rcases List.mem_cons.1 hx with rfl|hx
   ·exact k3.orow hfl
   ·rcases List.mem_cons.1 hx with rfl|hx
    ·exact k4.orow hfl
    ·exact hC.rs x hx
theorem CM.plt{X W:World}{ds:List Dsk}{ks:List (Nat × Obj)}{es:List (Value × List (Ent × Value))}{rs:List OR}(h:CM X W ds ks es rs):∀ d∈ds,d.1<W.heap.size:=fun d hd=>by
 obtain⟨cc,h⟩:=h
 obtain⟨j,hj,ej⟩:=List.getElem_of_mem hd
 obtain⟨r,D⟩:=h.dg j d (by rw[List.getElem?_eq_getElem hj,ej])
 exact (Array.getElem?_eq_some_iff.1 D.bd.pc).1
theorem e6N(a b:Int)(raw:Value)(ss:List ByteArray)(oth:Value)(os:List ByteArray)(w:World)(he:Env w)(hraw:TV w raw ss)(hoth:TV w oth os)(ha1:-9223372036854775808<=a)(ha2:a<=9223372036854775807)(hb1:-9223372036854775808<=b)(hb2:b<=9223372036854775807):
  Calls Tryz.prog 13 #[.int .i64 a,.int .i64 b,raw,oth] w fun e w'=>e=.returned (.bool true)/\Below w.heap.size w w':=by
 obtain⟨rav,racap,rfl⟩:=hraw.form
 obtain⟨oav,oacap,rfl⟩:=hoth.form
 have RM:=a0b (c2p a b w ha1 ha2 hb1 hb2)
 obtain⟨x1,x2⟩:=a6G (c:=a) (n:=4) (by omega)
 obtain⟨y1,y2⟩:=a6G (c:=b) (n:=9) (by omega)
 have A1:1<=1+a2s a 4:=by omega
 have A2:1+a2s a 4<=9:=by omega
 have B1:1<=1+a2s b 9:=by omega
 have B2:1+a2s b 9<=9:=by omega
 have HE:=a0b he
 have HR:=a0b hraw
 have HO:=a0b hoth
 generalize 1+a2s a 4=A at *
 generalize 1+a2s b 9=B at *
 clear x1 x2 y1 y2 he hraw hoth ha1 ha2 hb1 hb2
 go_enter Tryz.func13,Tryz.ntmps13
 go_upto_region 2 with (first
  |(go_at_call 17;refine RM.out.mono ?_;rintro e w1 ⟨rfl,hb1⟩))
 change Code.wp _ _ _ _ (w1.alloc (a1T A B))
 have hX:Below w.heap.size w (w1.alloc (a1T A B)):=hb1.trans (((Below.refl w1.heap.size w1).alloc (Nat.le_refl _) _).mono hb1.size)
 have hro:=a0p w1 (a1T A B)
 have hrl:w1.heap.size<(w1.alloc (a1T A B)).heap.size:=by simp
 have HX:=a0b hX
 have h10:=Nat.le_trans HE.out.size hX.size
 have RO:Hid (∀ W',Below (w1.alloc (a1T A B)).heap.size (w1.alloc (a1T A B)) W'->W'.cell? ⟨w1.heap.size,0,none⟩=some (.int .i64 A)/\W'.cell? ⟨w1.heap.size,1,none⟩=some (.int .i64 B)):=fun W' k=>by
  have h:=(k.block w1.heap.size hrl).trans hro
  unfold a1T at h
  obtain⟨x,y,_⟩:=b0q h
  exact⟨x,y⟩
 have HC:Hid (CM (w1.alloc (a1T A B)) (w1.alloc (a1T A B)) [] [] [] []):=CM.start (HE.out.later hX)
 have HT:=a0b (HR.out.below hX)
 have HTo:=a0b (HO.out.below hX)
 clear hX hro hrl RM hb1 HR HE HO
 generalize w1.alloc (a1T A B)=X at *
 generalize w1.heap.size=Rb at *
 obtain⟨ra,rb⟩:=RO.out X (Below.refl _ _)
 go_upto_region 3 with (first
  |(go_at_call 18;refine (HC.out.begin A B ⟨A1,A2⟩ ⟨B1,B2⟩).mono ?_;rintro e w2 ⟨p1,k1,rfl,g1,g2,hc⟩;replace HC:=a0b hc;clear hc ra rb))
 obtain⟨ra,rb⟩:=RO.out w2 HC.out.bl
 go_upto_region 4 with (first
  |(go_at_call 18;refine (HC.out.begin A B ⟨A1,A2⟩ ⟨B1,B2⟩).mono ?_;rintro e w3 ⟨p2,k2,rfl,g3,g4,hc⟩;replace HC:=a0b hc;clear hc ra rb))
 obtain⟨ra,rb⟩:=RO.out w3 HC.out.bl
 go_upto_region 7 with (first
  |(go_at_call 18;refine (HC.out.begin B A ⟨B1,B2⟩ ⟨A1,A2⟩).mono ?_;rintro e w4 ⟨p3,k3,rfl,g5,g6,hc⟩;replace HC:=a0b hc;clear hc ra rb))
 have C0:Hid (∃ s s3:St,a0h (⟨#[97]⟩:ByteArray) s.ts≠0/\a0h (⟨#[98]⟩:ByteArray) s.ts≠0/\CM X w4 [(p1,k1,s),(p2,k2,s),(p3,k3,s3)] [] [] []):=⟨a3Z A B,a3Z B A,b2x A1 B1 0,b2x A1 B1 1,HC.out⟩
 clear HC
 go_upto_region 8 with fail
 go_loopw [16,17,18,19,20,21,22,23,24,25] (fun vi _ _ _ _ _ _ _ _ _ wr=>∃ (i:Nat) (s s3:St),i<=ss.length/\i<=20/\vi=.int .i64 i/\a0h (⟨#[97]⟩:ByteArray) s.ts≠0/\a0h (⟨#[98]⟩:ByteArray) s.ts≠0/\CM X wr [(p1,k1,s),(p2,k2,s),(p3,k3,s3)] [] [] []) (fun vi _ _ _ _ _ _ _ _ _ _=>20-(intOf vi).toNat)
 case atStart =>
  obtain⟨s,s3,u1,u2,c⟩:=C0.out
  exact⟨0,s,s3,Nat.zero_le _,by omega,rfl,u1,u2,c⟩
 case round =>
  obtain⟨i,s,s3,hi,hi20,rfl,hua,hub,hcm⟩:=hrel
  have HC:=a0b hcm
  clear hcm C0
  by_cases hlt:i<ss.length/\i<20
  ·obtain⟨hl1,hl2⟩:=hlt
   have hl1':(i:Int)<(ss.length:Int):=by omega
   have hl2':(i:Int)<20:=by omega
   obtain⟨wo,rfl⟩:∃ wo:World,wo=wr:=⟨_,rfl⟩
   obtain⟨b,off,cap',e,c0⟩:=HT.out.cell i hl1
   simp only[Value.slice.injEq,true_and] at e
   obtain⟨rfl,rfl⟩:=e
   have c1:=(World.cell?_of_block (w:=X) (HC.out.bl.block b (World.block_lt_of_cell? _ _ c0))).trans c0
   have LN:=a0b (c2R HC.out.env ss[i] (HT.out.size _ (List.getElem_mem hl1)))
   clear c0
   go_upto_region 11 with (first
    |(go_at_call 32;refine LN.out.mono ?_;rintro e w5 ⟨t,rfl,_,_,hb5⟩;replace HC:=a0b (HC.out.later hb5);clear hb5 LN c1))
   have HI:=a0b (HC.out.inv (i:=0) rfl)
   have SM:=a0b (e2W HI.out t)
   have UN:=a0b (And.intro (e4w HI.out t hua) (e4w HI.out t hub))
   have SP:=a0b (fun e (he:e∈s.es)=>(HI.out.en e he).sl)
   obtain⟨q,hq⟩:∃ q,stepT s t=q:=⟨_,rfl⟩
   have D1:=a0b (CM.textF HC.out 0 rfl t)
   have X5:=a0b HC.out.bl.size
   have P5:=a0b HC.out.plt
   rw[hq] at SM UN D1
   have QE:=a0b hq
   clear hq
   go_upto_region 12 with (first
    |(go_at_call 21;refine D1.out.mono ?_;rintro e w6 ⟨l1,a1,a2,a3,a4,c1,c2,c3,c4,rfl,hents,hc6,hfr⟩;have HE1:=a0b hents;have HFr:=a0b hfr;clear hents hfr D1))
   have HC6:Hid (CM X w6 [(p1,k1,q.1),(p2,k2,s),(p3,k3,s3)] [] [(.slice a1 l1.length c1,l1)] [c9T (.slice a2 q.2.days.length c2) q.2.days,c9T (.slice a3 q.2.granted.length c3) q.2.granted,c9T (.slice a4 q.2.ended.length c4) q.2.ended]):=hc6
   clear hc6 HC
   change Code.wp _ _ _ _ (w6.alloc (a5w q.2.err q.2.at_ q.2.n (.slice a1 l1.length c1) (.slice a2 q.2.days.length c2) (.slice a3 q.2.granted.length c3) (.slice a4 q.2.ended.length c4)))
   have GB:Hid (∀ b,(Value.slice a3 q.2.granted.length c3).ownBlock=some b->X.heap.size<=b/\p1≠b/\p2≠b/\p3≠b/\w6.heap.size≠b):=fun b hb=>by
    have h1:=HFr.out b hb
    have h2:=X5.out
    have h3:p1<w5.heap.size:=P5.out (p1,k1,s) (by simp)
    have h4:p2<w5.heap.size:=P5.out (p2,k2,s) (by simp)
    have h5:p3<w5.heap.size:=P5.out (p3,k3,s3) (by simp)
    have h6:=((HC6.out.row (q:=c9T (.slice a3 q.2.granted.length c3) q.2.granted) (by simp)).lt b hb).2
    omega
   have HC:=a0b (HC6.out.alloc (a5w q.2.err q.2.at_ q.2.n (.slice a1 l1.length c1) (.slice a2 q.2.days.length c2) (.slice a3 q.2.granted.length c3) (.slice a4 q.2.ended.length c4)))
   generalize w6.alloc (a5w q.2.err q.2.at_ q.2.n (.slice a1 l1.length c1) (.slice a2 q.2.days.length c2) (.slice a3 q.2.granted.length c3) (.slice a4 q.2.ended.length c4))=V6 at HC ⊢
   generalize w6.heap.size=pb at HC GB ⊢
   clear HC6 HFr X5 P5
   go_upto_if 81 with fail
   go_cut [] from 78 to 90 (fun wx=>∃ s3':St,CM X wx [(p1,k1,q.1),(p2,k2,s),(p3,k3,s3')] [(pb,a5w q.2.err q.2.at_ q.2.n (.slice a1 l1.length c1) (.slice a2 q.2.days.length c2) (.slice a3 q.2.granted.length c3) (.slice a4 q.2.ended.length c4))] [(.slice a1 l1.length c1,l1)] [c9T (.slice a2 q.2.days.length c2) q.2.days,c9T (.slice a3 q.2.granted.length c3) q.2.granted,c9T (.slice a4 q.2.ended.length c4) q.2.ended])
   case first =>
    by_cases ho:i<os.length
    ·have ho':(i:Int)<(os.length:Int):=by omega
     obtain⟨b2,off2,cap2,e,c0⟩:=HTo.out.cell i ho
     simp only[Value.slice.injEq,true_and] at e
     obtain⟨rfl,rfl⟩:=e
     have c1x:=(World.cell?_of_block (w:=X) (HC.out.bl.block b2 (World.block_lt_of_cell? _ _ c0))).trans c0
     have LN:=a0b (c2R HC.out.env os[i] (HTo.out.size _ (List.getElem_mem ho)))
     clear c0
     go_wp2_with (first
      |(go_at_call 32;refine LN.out.mono ?_;rintro e w7 ⟨t2,rfl,_,_,hb7⟩;replace HC:=a0b (HC.out.later hb7);clear hb7 LN c1x)
      |(go_at_call 21;refine (CM.text HC.out 2 rfl t2).mono ?_;rintro e w8 ⟨l9,f1,f2,f3,f4,m1,m2,m3,m4,rfl,_,hc8,_⟩;replace HC:=a0b hc8;clear hc8))
     go_meet
     exact⟨_,HC.out.less (ks':=[(pb,a5w q.2.err q.2.at_ q.2.n (.slice a1 l1.length c1) (.slice a2 q.2.days.length c2) (.slice a3 q.2.granted.length c3) (.slice a4 q.2.ended.length c4))]) (fun x hx=>hx) (fun x hx=>List.mem_cons_of_mem _ hx) (fun x hx=>List.mem_cons_of_mem _ (List.mem_cons_of_mem _ (List.mem_cons_of_mem _ hx)))⟩
    ·have ho':¬ (i:Int)<(os.length:Int):=by omega
     go_wp2_with fail
     go_meet
     exact⟨s3,HC.out⟩
   case rest =>
    obtain⟨s3',hcm⟩:=hcut
    replace HC:=a0b hcm
    clear hcm
    have D2:=a0b (fun W' (hc:CM X W' [(p1,k1,q.1),(p2,k2,s),(p3,k3,s3')] [(pb,a5w q.2.err q.2.at_ q.2.n (.slice a1 l1.length c1) (.slice a2 q.2.days.length c2) (.slice a3 q.2.granted.length c3) (.slice a4 q.2.ended.length c4))] [(.slice a1 l1.length c1,l1)] [c9T (.slice a2 q.2.days.length c2) q.2.days,c9T (.slice a3 q.2.granted.length c3) q.2.granted,c9T (.slice a4 q.2.ended.length c4) q.2.ended])=>CM.text hc 1 rfl t)
    rw[QE.out] at D2
    go_upto_region 15 with (first
     |(go_at_call 21;refine (D2.out _ HC.out).mono ?_;rintro e w9 ⟨l2,b1,b2,b3,b4,d1,d2,d3,d4,rfl,hents,hc9,_⟩;have HE2:=a0b hents;clear hents D2))
    have HC9:Hid (CM X w9 [(p1,k1,q.1),(p2,k2,q.1),(p3,k3,s3')] [(pb,a5w q.2.err q.2.at_ q.2.n (.slice a1 l1.length c1) (.slice a2 q.2.days.length c2) (.slice a3 q.2.granted.length c3) (.slice a4 q.2.ended.length c4))] [(.slice b1 l2.length d1,l2),(.slice a1 l1.length c1,l1)] [c9T (.slice b2 q.2.days.length d2) q.2.days,c9T (.slice b3 q.2.granted.length d3) q.2.granted,c9T (.slice b4 q.2.ended.length d4) q.2.ended,c9T (.slice a2 q.2.days.length c2) q.2.days,c9T (.slice a3 q.2.granted.length c3) q.2.granted,c9T (.slice a4 q.2.ended.length c4) q.2.ended]):=hc9
    clear hc9 HC
    change Code.wp _ _ _ _ (w9.alloc (a5w q.2.err q.2.at_ q.2.n (.slice b1 l2.length d1) (.slice b2 q.2.days.length d2) (.slice b3 q.2.granted.length d3) (.slice b4 q.2.ended.length d4)))
    have HC:=a0b (HC9.out.alloc (a5w q.2.err q.2.at_ q.2.n (.slice b1 l2.length d1) (.slice b2 q.2.days.length d2) (.slice b3 q.2.granted.length d3) (.slice b4 q.2.ended.length d4)))
    clear HC9
    generalize w9.alloc (a5w q.2.err q.2.at_ q.2.n (.slice b1 l2.length d1) (.slice b2 q.2.days.length d2) (.slice b3 q.2.granted.length d3) (.slice b4 q.2.ended.length d4))=V9 at HC ⊢
    generalize w9.heap.size=qb at HC ⊢
    have SR:=a0b (d2W V9 l1 l2 q.2.err q.2.at_ q.2.n (.slice a1 l1.length c1) (.slice a2 q.2.days.length c2) (.slice a3 q.2.granted.length c3) (.slice a4 q.2.ended.length c4) (.slice b1 l2.length d1) (.slice b2 q.2.days.length d2) (.slice b3 q.2.granted.length d3) (.slice b4 q.2.ended.length d4) q.2.days q.2.granted q.2.ended (HC.out.ev (by simp)) (HC.out.ev (by simp)) (HE1.out.trans HE2.out.symm) (by
      have:=SM.out.1.en
      rw[<- HE1.out,List.length_map] at this
      omega) (fun x hx=>by
      have hm:x.1∈q.2.entries:=by rw[<- HE1.out];exact List.mem_map.2 ⟨x,hx,rfl⟩
      have:=SP.out x.1 (SM.out.1.es x.1 hm)
      omega)
     (HC.out.row (q:=c9T (.slice a2 q.2.days.length c2) q.2.days) (by simp)) (HC.out.row (q:=c9T (.slice b2 q.2.days.length d2) q.2.days) (by simp)) (HC.out.row (q:=c9T (.slice a3 q.2.granted.length c3) q.2.granted) (by simp)) (HC.out.row (q:=c9T (.slice b3 q.2.granted.length d3) q.2.granted) (by simp)) (HC.out.row (q:=c9T (.slice a4 q.2.ended.length c4) q.2.ended) (by simp)) (HC.out.row (q:=c9T (.slice b4 q.2.ended.length d4) q.2.ended) (by simp)) (by have:=SM.out.1.da;omega) (by have:=SM.out.2;omega) (by have:=SM.out.1.ed;omega))
    have glen:q.2.granted.length<=100000:=SM.out.2
    obtain⟨y0,y1,y2,y3,y4,y5,y6⟩:=a2T (HC.out.kb (List.mem_cons_self ..))
    obtain⟨x0,x1,x2,x3,x4,x5,x6⟩:=a2T (HC.out.kb (b:=pb) (List.mem_cons_of_mem _ (List.mem_cons_self ..)))
    have HCl:Hid (CM X V9 [(p1,k1,q.1),(p2,k2,q.1),(p3,k3,s3')] [(pb,a5w q.2.err q.2.at_ q.2.n (.slice a1 l1.length c1) (.slice a2 q.2.days.length c2) (.slice a3 q.2.granted.length c3) (.slice a4 q.2.ended.length c4))] [] [c9T (.slice a3 q.2.granted.length c3) q.2.granted]):=HC.out.less (by simp) (by simp) (by simp)
    clear HC HE1 HE2 SM SP
    go_upto_region 18 with (first
     |(go_at_call 36;refine SR.out.mono ?_;rintro e w10 ⟨rfl,hb⟩;have HC:=a0b (HCl.out.later hb);clear hb SR HCl y0 y1 y2 y3 y4 y5 y6 x0 x1 x2 x3 x4 x5 x6))
    have LW:Hid (f5X X w10.heap.size [(p1,k1,q.1),(p2,k2,q.1),(p3,k3,s3')] [(pb,a5w q.2.err q.2.at_ q.2.n (.slice a1 l1.length c1) (.slice a2 q.2.days.length c2) (.slice a3 q.2.granted.length c3) (.slice a4 q.2.ended.length c4))] [c9T (.slice a3 q.2.granted.length c3) q.2.granted]):=⟨h10,HC.out.bl.size,HC.out.plt,fun x hx=>by
     rw[List.mem_singleton.1 hx]
     exact (Array.getElem?_eq_some_iff.1 (HC.out.kb (List.mem_cons_self ..))).1,fun x hx c hc=>by
     rw[List.mem_singleton.1 hx] at hc
     exact ((HC.out.row (q:=c9T (.slice a3 q.2.granted.length c3) q.2.granted) (List.mem_cons_self ..)).lt c hc).2⟩
    have HI2:=a0b (HC.out.inv (i:=0) rfl)
    go_upto_region 20 with (first
     |(go_at_call 20;refine (CM.entriesW HC.out 0 rfl (⟨#[97]⟩:ByteArray) c7k UN.out.1).mono ?_;rintro e w11 ⟨l,av,ac,rfl,hents,hcw,_⟩;have HL:=a0b hents;have HW:=a0b hcw;clear hcw hents HC))
    generalize w10.heap.size=N at LW HW
    have ln:l.length<=60:=by
     have:=Desk.c2P HI2.out (⟨#[97]⟩:ByteArray)
     rw[<- HL.out,List.length_map] at this
     exact this
    have SPL:Hid (∀ x∈l,x.1.a0e.length<=40):=fun x hx=>by
     have hm:x.1∈a2x (⟨#[97]⟩:ByteArray) 0 1048320 q.1.es:=by rw[<- HL.out];exact List.mem_map.2 ⟨x,hx,rfl⟩
     exact (HI2.out.en x.1 (Desk.b6I HI2.out _ hm).1).sl
    clear HL HI2
    go_loopw [23,24] (fun vk _ wr=>∃ k:Nat,k<=l.length/\vk=.int .i64 k/\CW X wr N [(p1,k1,q.1),(p2,k2,q.1),(p3,k3,s3')] [(pb,a5w q.2.err q.2.at_ q.2.n (.slice a1 l1.length c1) (.slice a2 q.2.days.length c2) (.slice a3 q.2.granted.length c3) (.slice a4 q.2.ended.length c4))] [c9T (.slice a3 q.2.granted.length c3) q.2.granted] (.slice av l.length ac) l) (fun vk _ _=>l.length-(intOf vk).toNat)
    case atStart=>exact⟨0,Nat.zero_le _,rfl,HW.out⟩
    case round =>
     obtain⟨k,hk,rfl,hcw⟩:=hrel
     replace HW:=a0b hcw
     clear hcw
     by_cases hkl:k<l.length
     ·have hkl':(k:Int)<(l.length:Int):=by omega
      have hk4:=SPL.out l[k] (List.getElem_mem hkl)
      obtain⟨g,cap,e,_,_⟩:=HW.out.wl.cell k hkl
      simp only[Value.slice.injEq,true_and] at e
      obtain⟨rfl,rfl⟩:=e
      have RC:Hid (∀ W',CW X W' N [(p1,k1,q.1),(p2,k2,q.1),(p3,k3,s3')] [(pb,a5w q.2.err q.2.at_ q.2.n (.slice a1 l1.length c1) (.slice a2 q.2.days.length c2) (.slice a3 q.2.granted.length c3) (.slice a4 q.2.ended.length c4))] [c9T (.slice a3 q.2.granted.length c3) q.2.granted] (.slice (some ⟨g,0,none⟩) l.length ac) l->W'.cell? ⟨g,k*6+4,none⟩=some l[k].2/\(∃ y,W'.cell? ⟨g,k*6+3,none⟩=some y)/\∀ o,W'.frozen? ⟨g,o,none⟩=false):=fun W' hc=>by
       obtain⟨g',cap',e,z4,zj,zf⟩:=hc.wl.cell k hkl
       simp only[Value.slice.injEq,Option.some.injEq,Addr.mk.injEq,and_true,true_and] at e
       obtain⟨rfl,_⟩:=e
       exact⟨z4,zj 3 (by omega),zf⟩
      have SPK:Hid (∀ W',CW X W' N [(p1,k1,q.1),(p2,k2,q.1),(p3,k3,s3')] [(pb,a5w q.2.err q.2.at_ q.2.n (.slice a1 l1.length c1) (.slice a2 q.2.days.length c2) (.slice a3 q.2.granted.length c3) (.slice a4 q.2.ended.length c4))] [c9T (.slice a3 q.2.granted.length c3) q.2.granted] (.slice (some ⟨g,0,none⟩) l.length ac) l->∀ (j:Nat) (h:j<l[k].1.a0e.length),∃ g' cap',l[k].2=.slice (some ⟨g',0,none⟩) l[k].1.a0e.length cap'/\(∃ y,W'.cell? ⟨g',j*2,none⟩=some y)/\(∃ y,W'.cell? ⟨g',j*2+1,none⟩=some y)/\∀ o,W'.frozen? ⟨g',o,none⟩=false):=fun W' hc j h=>hc.wl.span (List.getElem_mem hkl) j h
      have SF:Hid (∃ sa sc,l[k].2=.slice sa l[k].1.a0e.length sc):=by
       obtain⟨ys,hy⟩:=HW.out.wl.sp l[k] (List.getElem_mem hkl)
       exact a0B hy
      obtain⟨sa,sc,hsl⟩:=SF.out
      have KM:=a0b (List.getElem_mem hkl:l[k]∈l)
      have SetS:Hid (∀ W',CW X W' N [(p1,k1,q.1),(p2,k2,q.1),(p3,k3,s3')] [(pb,a5w q.2.err q.2.at_ q.2.n (.slice a1 l1.length c1) (.slice a2 q.2.days.length c2) (.slice a3 q.2.granted.length c3) (.slice a4 q.2.ended.length c4))] [c9T (.slice a3 q.2.granted.length c3) q.2.granted] (.slice (some ⟨g,0,none⟩) l.length ac) l->∀ g',sa=some ⟨g',0,none⟩->∀ o x,CW X (W'.setCell ⟨g',o,none⟩ x) N [(p1,k1,q.1),(p2,k2,q.1),(p3,k3,s3')] [(pb,a5w q.2.err q.2.at_ q.2.n (.slice a1 l1.length c1) (.slice a2 q.2.days.length c2) (.slice a3 q.2.granted.length c3) (.slice a4 q.2.ended.length c4))] [c9T (.slice a3 q.2.granted.length c3) q.2.granted] (.slice (some ⟨g,0,none⟩) l.length ac) l):=fun W' hc g' hg o x=>hc.setSpan LW.out KM.out (b:=g') (by rw[hsl,hg];rfl) o x
      rw[hsl] at RC SPK
      generalize l[k].1.a0e.length=sn at RC SPK hk4 hsl
      clear SF hsl KM
      obtain⟨wo2,rfl⟩:∃ wo2:World,wo2=wr:=⟨_,rfl⟩
      go_upto_region 23 with fail
      go_loopw [24] (fun vj wr=>∃ j:Nat,j<=sn/\vj=.int .i64 j/\CW X wr N [(p1,k1,q.1),(p2,k2,q.1),(p3,k3,s3')] [(pb,a5w q.2.err q.2.at_ q.2.n (.slice a1 l1.length c1) (.slice a2 q.2.days.length c2) (.slice a3 q.2.granted.length c3) (.slice a4 q.2.ended.length c4))] [c9T (.slice a3 q.2.granted.length c3) q.2.granted] (.slice (some ⟨g,0,none⟩) l.length ac) l) (fun vj _=>sn-(intOf vj).toNat)
      case atStart=>exact⟨0,Nat.zero_le _,rfl,HW.out⟩
      case round =>
       obtain⟨j,hj,rfl,hcw⟩:=hrel
       replace HW:=a0b hcw
       clear hcw
       obtain⟨cc4,⟨y3,c3x⟩,cf⟩:=RC.out wr HW.out
       by_cases hjl:j<sn
       ·have hjl':(j:Int)<(sn:Int):=by omega
        obtain⟨g',cap',e,⟨u0,z0⟩,⟨u1,z1⟩,zf⟩:=SPK.out wr HW.out j hjl
        simp only[Value.slice.injEq,true_and] at e
        obtain⟨rfl,rfl⟩:=e
        go_upto_region 24 with fail
        have HWn:Hid (CW X ((wr.setCell ⟨g',j*2,none⟩ (.int .i64 7)).setCell ⟨g',j*2+1,none⟩ (.int .i64 8)) N [(p1,k1,q.1),(p2,k2,q.1),(p3,k3,s3')] [(pb,a5w q.2.err q.2.at_ q.2.n (.slice a1 l1.length c1) (.slice a2 q.2.days.length c2) (.slice a3 q.2.granted.length c3) (.slice a4 q.2.ended.length c4))] [c9T (.slice a3 q.2.granted.length c3) q.2.granted] (.slice (some ⟨g,0,none⟩) l.length ac) l):=SetS.out _ (SetS.out wr HW.out g' rfl _ _) g' rfl _ _
        clear HW cc4 y3 c3x cf z0 z1 zf
        generalize (wr.setCell ⟨g',j*2,none⟩ (.int .i64 7)).setCell ⟨g',j*2+1,none⟩ (.int .i64 8)=Z at HWn ⊢
        go_wp2_with fail
        go_roundw
        case rel=>exact⟨j+1,by omega,by go_num,HWn.out⟩
        case measure=>simp[intOf];omega
       ·have hjl':¬ (j:Int)<(sn:Int):=by omega
        go_upto_region 21 with fail
        have HWn:Hid (CW X (wr.setCell ⟨g,k*6+3,none⟩ (.int .i64 9)) N [(p1,k1,q.1),(p2,k2,q.1),(p3,k3,s3')] [(pb,a5w q.2.err q.2.at_ q.2.n (.slice a1 l1.length c1) (.slice a2 q.2.days.length c2) (.slice a3 q.2.granted.length c3) (.slice a4 q.2.ended.length c4))] [c9T (.slice a3 q.2.granted.length c3) q.2.granted] (.slice (some ⟨g,0,none⟩) l.length ac) l):=HW.out.setRow LW.out (b:=g) rfl (k*6+3) (.int .i64 9) (fun m=>by omega)
        clear HW cc4 y3 c3x cf
        generalize wr.setCell ⟨g,k*6+3,none⟩ (.int .i64 9)=Z at HWn ⊢
        go_wp2_with fail
        go_roundw
        case rel=>exact⟨k+1,by omega,by go_num,HWn.out⟩
        case measure=>simp[intOf];omega
     ·have hkl':¬ (k:Int)<(l.length:Int):=by omega
      have H0:Hid (∃ xs,CM X wr [(p1,k1,q.1),(p2,k2,q.1),(p3,k3,s3')] [(pb,a5w q.2.err q.2.at_ q.2.n (.slice a1 l1.length c1) (.slice a2 q.2.days.length c2) (.slice a3 q.2.granted.length c3) (.slice a4 q.2.ended.length c4))] [] [⟨.slice a3 q.2.granted.length c3,3,1,q.2.granted.length,xs⟩]):=⟨_,HW.out.cm⟩
      clear HW
      go_upto_region 28 with fail
      go_loopw [25] (fun vm wr=>∃ m:Nat,m<=q.2.granted.length/\vm=.int .i64 m/\∃ xs,CM X wr [(p1,k1,q.1),(p2,k2,q.1),(p3,k3,s3')] [(pb,a5w q.2.err q.2.at_ q.2.n (.slice a1 l1.length c1) (.slice a2 q.2.days.length c2) (.slice a3 q.2.granted.length c3) (.slice a4 q.2.ended.length c4))] [] [⟨.slice a3 q.2.granted.length c3,3,1,q.2.granted.length,xs⟩]) (fun vm _=>q.2.granted.length-(intOf vm).toNat)
      case atStart=>exact⟨0,Nat.zero_le _,rfl,H0.out⟩
      case round =>
       obtain⟨m,hm,rfl,xs,hcm⟩:=hrel
       have HC:=a0b hcm
       clear hcm H0
       have x5:=(a2T (HC.out.kb (List.mem_cons_self ..))).2.2.2.2.2.1
       by_cases hml:m<q.2.granted.length
       ·have hml':(m:Int)<(q.2.granted.length:Int):=by omega
        have ho:=HC.out.row (q:=⟨.slice a3 q.2.granted.length c3,3,1,q.2.granted.length,xs⟩) (List.mem_cons_self ..)
        obtain⟨hxl,h2⟩:=ho
        rcases h2 with ⟨_,h0⟩|⟨gg,gc,cur,e,hbb,hgg,hnc,hcm2,hcs,htk⟩
        ·exact absurd h0 (by show ¬ q.2.granted.length=0;omega)
        ·have e':Value.slice a3 q.2.granted.length c3=.slice (some ⟨gg,0,none⟩) q.2.granted.length gc:=e
         simp only[Value.slice.injEq,true_and] at e'
         obtain⟨rfl,rfl⟩:=e'
         have hlm:m<cur.size:=by
          have:q.2.granted.length<=c3:=hnc
          have:cur.size=c3*1:=hcs
          omega
         have z0:wr.cell? ⟨gg,m,none⟩=some cur[m]:=by
          simp only[World.cell?,hgg]
          simp[hlm]
         have zf:∀ o,wr.frozen? ⟨gg,o,none⟩=false:=fun o=>frozen_of_row _ gg o _ _ hgg
         obtain⟨b1',b2',b3',b4',b5'⟩:=GB.out gg rfl
         have HN:Hid (∃ xs',CM X (wr.setCell ⟨gg,m,none⟩ (.int .i64 (-1))) [(p1,k1,q.1),(p2,k2,q.1),(p3,k3,s3')] [(pb,a5w q.2.err q.2.at_ q.2.n (.slice a1 l1.length c1) (.slice a2 q.2.days.length c2) (.slice (some ⟨gg,0,none⟩) q.2.granted.length c3) (.slice a4 q.2.ended.length c4))] [] [⟨.slice (some ⟨gg,0,none⟩) q.2.granted.length c3,3,1,q.2.granted.length,xs'⟩]):=CM.setNum HC.out h10 (b:=gg) rfl b1' (fun d hd=>by
          simp only[List.mem_cons,List.not_mem_nil,or_false] at hd
          rcases hd with rfl|rfl|rfl
          ·exact b2'
          ·exact b3'
          ·exact b4') (fun x hx=>by rw[List.mem_singleton.1 hx];exact b5') (by simp) m (.int .i64 (-1))
         clear hgg htk hcs hnc hbb e
         go_upto_region 29 with fail
         generalize wr.setCell ⟨gg,m,none⟩ (.int .i64 (-1))=Z at HN ⊢
         clear z0 zf x5 HC
         go_wp2_with fail
         go_roundw
         case rel=>exact⟨m+1,by omega,by go_num,HN.out⟩
         case measure=>simp[intOf];omega
       ·have hml':¬ (m:Int)<(q.2.granted.length:Int):=by omega
        have HF:Hid (CM X wr [(p1,k1,q.1),(p2,k2,q.1),(p3,k3,s3')] [] [] []):=HC.out.less (by simp) (by simp) (by simp)
        clear HC
        go_wp2_with fail
        go_roundw
        case rel=>exact⟨i+1,q.1,s3',by omega,by omega,by go_num,UN.out.1,UN.out.2,HF.out⟩
        case measure=>simp[intOf];omega
  ·have HF:Hid (CM X wr [(p1,k1,s),(p2,k2,s),(p3,k3,s3)] [] [] []):=HC.out
   have AL:=a0b (f0e HF.out (i:=0) (j:=1) rfl rfl hua hub)
   have BW:Hid (∀ W',CM X W' [(p1,k1,s),(p2,k2,s),(p3,k3,s3)] [] [] []->Below w.heap.size w W'):=fun W' hc=>HX.out.trans (hc.bl.mono HX.out.size)
   clear HC
   by_cases h1:i<ss.length
   ·have h1':(i:Int)<(ss.length:Int):=by omega
    have h2':¬ (i:Int)<20:=by omega
    clear hlt
    go_wp2_with (first
     |(go_at_call 37;refine AL.out.mono ?_;rintro e w9 ⟨rfl,hc⟩;have HF2:=a0b (BW.out _ hc);clear hc))
    go_ret
    exact⟨rfl,HF2.out⟩
   ·have h1':¬ (i:Int)<(ss.length:Int):=by omega
    clear hlt
    go_wp2_with (first
     |(go_at_call 37;refine AL.out.mono ?_;rintro e w9 ⟨rfl,hc⟩;have HF2:=a0b (BW.out _ hc);clear hc))
    go_ret
    exact⟨rfl,HF2.out⟩
end Go.Proofs.YtfigmlfdnickmaaGreatDoor
namespace Go.Proofs.YtfigmlfdnickmaaGreatDoor.Laid
def val:DataW Unit->Value
 |.lit (.int k n)=>.int k n
 |.lit (.string b)=>.string ⟨b.toArray⟩
 |_=>.bool false
def row:DataW Unit->List Value
 |.agg l=>l.map val
 |_=>[]
def rows:DataW Unit->List Value
 |.agg l=>l.flatMap row
 |_=>[]
def text:DataW Unit->Value
 |.iface _ (.ptr (.agg [d]))=>val d
 |_=>.bool false
def put(l:List Value):Obj->Obj
 |.cells _ t frozen=>.cells l.toArray t frozen
 |o=>o
def c6N(w:World):World :=
 { w with heap:=(((((((((w.heap.modify 1 (put (row Rows.laid_bookings_calendar_monthDays))).modify 0 (put (row Rows.laid_internal_strconv_uint64pow10))).modify 6 (put [.iface 369 (.pointer (some ⟨w.heap.size,0,none⟩))])).modify 7 (put [.iface 369 (.pointer (some ⟨w.heap.size+1,0,none⟩))])).modify 3 (put (row Rows.laid_bookings_lines_weekdays))).modify 4 (put (row Rows.laid_math_bits_deBruijn32tab))).modify 5 (put (row Rows.laid_math_bits_deBruijn64tab))).modify 8 (put (row Rows.laid_unicode_utf8_first))).modify 9 (put (rows Rows.laid_unicode_utf8_acceptRanges))).push (.cells #[text Rows.laid_strconv_ErrSyntax] 371) |>.push (.cells #[text Rows.laid_strconv_ErrRange] 371) }
theorem met(os:Os):laidMet Tryz.prog Rows.datesRow.laid ((c6N (World.holding Tryz.prog os ⟨#[],#[],[]⟩)).forCall (fun _ _=>0) ⟨#[],#[.slice none 0 0],[]⟩).memory :=
 laidMet_of_run' 8 (by kernel_rfl) (by kernel_rfl)
end Go.Proofs.YtfigmlfdnickmaaGreatDoor.Laid
namespace Go.Proofs.YtfigmlfdnickmaaGreatDoor.datesLaw
open Go.ChangeShapes Go.WideShapes Go.ChangeAt Go.RowKit
theorem own:ownKnob Tryz.prog.godebug=none:=by kernel_rfl
theorem c5b:laidOutB Tryz.prog=true:=by kernel_rfl
def b9r:String:=Rows.datesRow.named.getD 0 Rows.datesRow.func
theorem b8y:Tryz.prog.globalNamed b9r=some 1:=by kernel_rfl
theorem c3e:(Tryz.prog.globals[1]?).map (·.type)=some 314:=by kernel_rfl
theorem c3A:Tryz.prog.cellsOf 314=12:=by kernel_rfl
theorem c3D:Tryz.prog.cellsOf 3=1:=by kernel_rfl
theorem b7n:Tryz.prog.cellsOf 9=1:=by kernel_rfl
theorem table{W:World}(h:laidMetH Tryz.prog Rows.datesRow.laid W):Lib.TabIs Tryz.prog W b9r .i64 [31,28,31,30,31,30,31,31,30,31,30,31] :=
 Lib.tabIs_of_head b8y c3e Tryz.underlying314 Tryz.underlying3 c3D c3A h
theorem tab{W:World}(h:laidMetH Tryz.prog Rows.datesRow.laid W):Tab W :=
 ⟨(table h).cell b8y 0 (by decide),(table h).cell b8y 1 (by decide),(table h).cell b8y 2 (by decide),(table h).cell b8y 3 (by decide),(table h).cell b8y 4 (by decide),(table h).cell b8y 5 (by decide),(table h).cell b8y 6 (by decide),(table h).cell b8y 7 (by decide),(table h).cell b8y 8 (by decide),(table h).cell b8y 9 (by decide),(table h).cell b8y 10 (by decide),(table h).cell b8y 11 (by decide)⟩
end Go.Proofs.YtfigmlfdnickmaaGreatDoor.datesLaw
namespace Go.Proofs.YtfigmlfdnickmaaGreatDoor.EnvLaid
open Go.ChangeShapes Go.WideShapes Go.ChangeAt Go.RowKit
theorem b2G{P:Program}{W:World}{name:String}{k:IntKind}{zs:List Int}{g:Nat}{t e:TypeId}{n:Nat}
  (hg:P.globalNamed name=some g) (hty:(P.globals[g]?).map (·.type)=some t) (ht:P.underlying t=some (.array n e)) (he:P.underlying e=some (.int k)) (hce:P.cellsOf e=1) (hct:P.cellsOf t=n)
  (h:Lib.VarReads P W name (Lib.tabData k zs)):Lib.TabIs P W name k zs:=by
 obtain⟨g',t',cs,fuel,p,hg',ht',hvar,hd⟩:=h
 obtain rfl:=Option.some.inj (hg.symm.trans hg')
 obtain rfl:=Option.some.inj (hty.symm.trans ht')
 unfold Lib.TabIs
 rw[hvar,<- Lib.cells_of_tab ht he hce hct hd]
theorem b9t{P:Program}{W:World}{name:String}{zs:List (List UInt8)}{g:Nat}{t e:TypeId}{n:Nat}
  (hg:P.globalNamed name=some g) (hty:(P.globals[g]?).map (·.type)=some t) (ht:P.underlying t=some (.array n e)) (he:P.underlying e=some .string) (hce:P.cellsOf e=1)
  (h:Lib.VarReads P W name (.agg (zs.map fun z=>.lit (.string z)))) (i:Nat) (z:List UInt8) (hz:zs[i]?=some z):W.cell? ⟨g,i,none⟩=some (.string ⟨z.toArray⟩):=by
 obtain⟨g',t',cs,fuel,p,hg',ht',hvar,hd⟩:=h
 obtain rfl:=Option.some.inj (hg.symm.trans hg')
 obtain rfl:=Option.some.inj (hty.symm.trans ht')
 obtain⟨xs,m,_,hx,_,hxl,hall⟩:=DataW.trod_array ht hd
 have hx1:zs.map (fun z=>(DataW.lit (.string z):DataW Unit))=xs.map (·.1):=by
  have:=congrArg Prod.fst hx
  simpa using this
 have hlen:zs.length=xs.length:=by
  have:=congrArg List.length hx1
  simpa using this
 have hi:i<zs.length:=(List.getElem?_eq_some_iff.1 hz).1
 have hxi:xs[i]?=some xs[i]:=List.getElem?_eq_getElem (by omega)
 have hti:=hall i (by omega)
 rw[hxi,hce] at hti
 obtain⟨s,hs1,hs2,_⟩:=DataW.trod_string he hti
 have h1:(xs.map (·.1))[i]?=some (DataW.lit (.string z):DataW Unit):=by rw[<- hx1];simp[hz]
 have h2:(xs.map (·.1))[i]?=some (DataW.lit (.string s.data.toList):DataW Unit):=by simp[hxi,hs2]
 have h3:z=s.data.toList:=by
  have:=h1.symm.trans h2
  simpa using this
 have h4:cs[i]?=some (.string s):=by
  have:=congrArg (·[0]?) hs1
  simpa[List.getElem?_take,List.getElem?_drop] using this
 rw[World.var?_cell hg hvar i,h4,h3]
theorem c3f:(Tryz.prog.globals[0]?).map (·.type)=some 306:=by kernel_rfl
theorem c3B:Tryz.prog.cellsOf 306=20:=by kernel_rfl
theorem c3z:Tryz.prog.cellsOf 265=1:=by kernel_rfl
theorem c6X : Tryz.prog.globalNamed "bookings/lines.weekdays" = some 3 := by kernel_rfl
theorem c0J:(Tryz.prog.globals[3]?).map (·.type)=some 352:=by kernel_rfl
theorem b8z : Tryz.prog.globalNamed "bookings/calendar.monthDays" = some 1 := by kernel_rfl
theorem c3g:(Tryz.prog.globals[1]?).map (·.type)=some 314:=by kernel_rfl
theorem c3C:Tryz.prog.cellsOf 314=12:=by kernel_rfl
theorem c6I:Tryz.prog.cellsOf 3=1:=by kernel_rfl
theorem b7n:Tryz.prog.cellsOf 9=1:=by kernel_rfl
theorem c6Y {W : World} {l : List (String × DataW Unit)} (hM : laidMet Tryz.prog l W) (hS : W.ShapedOpen Tryz.prog) (m1 : ("bookings/calendar.monthDays", Rows.laid_bookings_calendar_monthDays) ∈ l) (m2 : ("internal/strconv.uint64pow10", Rows.laid_internal_strconv_uint64pow10) ∈ l) (m3 : ("bookings/lines.weekdays", Rows.laid_bookings_lines_weekdays) ∈ l) : Env W := by
 have ht : Lib.VarReads Tryz.prog W "bookings/calendar.monthDays" (Lib.tabData .i64 [31, 28, 31, 30, 31, 30, 31, 31, 30, 31, 30, 31]) := Lib.laidMet.reads hM (d := Rows.laid_bookings_calendar_monthDays) m1
 have hp : Lib.VarReads Tryz.prog W "internal/strconv.uint64pow10" (Lib.tabData .u64 Lib.pow10Tab) := Lib.laidMet.reads hM (d := Rows.laid_internal_strconv_uint64pow10) m2
 have hd : Lib.VarReads Tryz.prog W "bookings/lines.weekdays" (.agg ([[109, 111], [116, 117], [119, 101], [116, 104], [102, 114], [115, 97], [115, 117]].map fun z => .lit (.string z))) := Lib.laidMet.reads hM (d := Rows.laid_bookings_lines_weekdays) m3
 have day:=fun i z hz=>b9t c6X c0J Tryz.underlying352 Tryz.underlying9 b7n hd i z hz
 have tb:=b2G b8z c3g Tryz.underlying314 Tryz.underlying3 c6I c3C ht
 have hsz:10<=W.heap.size:=by
  have h0:(((begin Tryz.prog (fun _ _=>0) default).world.heap[9]?).bind Obj.row?).isSome=true:=by kernel_rfl
  obtain⟨⟨zero,t⟩,h1⟩:=Option.isSome_iff_exists.1 h0
  obtain⟨cs,hh,_⟩:=hS.1 9 zero t (of_decide_eq_true (by kernel_rfl)) h1
  exact (Array.getElem?_eq_some_iff.1 hh).1
 exact⟨⟨tb.cell b8z 0 (by decide),tb.cell b8z 1 (by decide),tb.cell b8z 2 (by decide),tb.cell b8z 3 (by decide),tb.cell b8z 4 (by decide),tb.cell b8z 5 (by decide),tb.cell b8z 6 (by decide),tb.cell b8z 7 (by decide),tb.cell b8z 8 (by decide),tb.cell b8z 9 (by decide),tb.cell b8z 10 (by decide),tb.cell b8z 11 (by decide)⟩,cell_of_shapedOpen_int (zero:=#[.int .i64 0]) (t:=3) hS (of_decide_eq_true (by kernel_rfl)) (by kernel_rfl) rfl (by kernel_rfl) (by kernel_rfl) Tryz.underlying3,
  b2G c6q c3f Tryz.underlying306 Tryz.underlying265 c3z c3B hp,hsz,
  day 0 _ rfl,day 1 _ rfl,day 2 _ rfl,day 3 _ rfl,day 4 _ rfl,day 5 _ rfl,day 6 _ rfl⟩
end Go.Proofs.YtfigmlfdnickmaaGreatDoor.EnvLaid
