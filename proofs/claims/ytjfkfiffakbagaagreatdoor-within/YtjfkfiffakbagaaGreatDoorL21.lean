/-
  Parts of the proof, one behind the other.
-/
import Derived.Test.YtjfkfiffakbagaaGreatDoorL20
import Derived.Test.YtjfkfiffakbagaaGreatDoorRows
import Derived.Test.YtjfkfiffakbagaaGreatDoorCards
import Derived.Test.YtjfkfiffakbagaaGreatDoorTie
import Derived.WalkKit
import Derived.ProofKit
import Derived.Deep.DeepWitnessRowRef
import Derived.LaidLaws
import Derived.OpenShut
import Derived.Deep.Slices
import Derived.Deep.DeepHandedRow
import Derived.Lib.LaidTab
import Derived.Lib.LaidU8
import Derived.Shelf.Vars
set_option maxRecDepth 100000
set_option maxHeartbeats 8000000
namespace Go.Proofs.YtjfkfiffakbagaaGreatDoor
open Go.RowKit
open Desk (Ent St Ids kept a0C a0Q a1C a2e ofB a0y a2c Mid a1H a0z Inv a0h a2x a1q Rep b0g a1Q)
theorem b3D{W:World}{b:Nat}{x:Ent}{v:Value}(h:W.heap[b]?=some (a4J x v)):W.cell? ⟨b,0,none⟩=some (.int .i64 x.id)/\W.cell? ⟨b,1,none⟩=some (.int .i64 x.kind)/\W.cell? ⟨b,2,none⟩=some (.string x.a0k)/\W.cell? ⟨b,3,none⟩=some (.int .i64 x.a0c)/\W.cell? ⟨b,4,none⟩=some v/\W.cell? ⟨b,5,none⟩=some (.int .i64 x.a0Z):=by
 unfold a4J at h
 refine⟨?_,?_,?_,?_,?_,?_⟩ <;> (simp only[World.cell?,h];rfl)
theorem b8S{s:St}(hs:Inv s){nm:ByteArray}{u fr til:Int}(hi:Inv (Desk.a2t s ⟨0,1,nm,u,[(fr,til)],0⟩).1){l1 l2:List (Ent × Value)}(h1:l1.map (·.1)=a2x nm 0 1048320 s.es)(h2:l2.map (·.1)=a2x nm 0 1048320 (Desk.a2t s ⟨0,1,nm,u,[(fr,til)],0⟩).1.es):
  l2.length=l1.length+1/\(∃ k,∃ h:k<l2.length,l2[k].1.id=s.given+1)/\∀ (k:Nat) (h:k<l2.length),l2[k].1.id=s.given+1->l2[k].1=⟨s.given+1,1,nm,u,[(fr,til)],0⟩:=by
 have pm:=Desk.c0u (s:=s) (e:=⟨0,1,nm,u,[(fr,til)],0⟩) hi (by show (1:Int)≠3;decide)
 rw[<- h2,<- h1] at pm
 have hl:=pm.length_eq
 simp only[List.length_map,List.length_cons] at hl
 have hin:(⟨s.given+1,1,nm,u,[(fr,til)],0⟩:Ent)∈l2.map (·.1):=pm.mem_iff.2 (List.mem_cons_self ..)
 refine⟨hl,?_,fun k h e=>?_⟩
 ·obtain⟨q,hq,eq⟩:=List.mem_map.1 hin
  obtain⟨k,hk,ek⟩:=List.getElem_of_mem hq
  exact⟨k,hk,by rw[ek,eq]⟩
 ·have hm:l2[k].1∈l2.map (·.1):=List.mem_map.2 ⟨_,List.getElem_mem h,rfl⟩
  rcases List.mem_cons.1 (pm.mem_iff.1 hm) with c|c
  ·exact c
  ·exfalso
   rw[h1] at c
   have hi0:=hs.idb _ (Desk.b6I hs nm c).1
   omega
theorem b5a(a b:Int)(raw:Value)(ss:List ByteArray)(more:ByteArray)(w:World)(he:Env w)(hraw:TV w raw ss)(hm:more.size<=9223372036854775807)(ha1:-9223372036854775808<=a)(ha2:a<=9223372036854775807)(hb1:-9223372036854775808<=b)(hb2:b<=9223372036854775807):
  Calls Tryz.prog 6 #[.int .i64 a,.int .i64 b,raw,.string more] w fun e w'=>e=.returned (.bool true)/\Below w.heap.size w w':=by
 obtain⟨rav,racap,rfl⟩:=hraw.form
 have RM:=a0b (c2p a b w ha1 ha2 hb1 hb2)
 obtain⟨x1,x2⟩:=a6G (c:=a) (n:=4) (by omega)
 obtain⟨y1,y2⟩:=a6G (c:=b) (n:=9) (by omega)
 have A1:1<=1+a2s a 4:=by omega
 have A2:1+a2s a 4<=9:=by omega
 have B1:1<=1+a2s b 9:=by omega
 have B2:1+a2s b 9<=9:=by omega
 have HE:=a0b he
 have HR:=a0b hraw
 generalize 1+a2s a 4=A at *
 generalize 1+a2s b 9=B at *
 clear x1 x2 y1 y2 he hraw ha1 ha2 hb1 hb2
 go_enter Tryz.func6,Tryz.ntmps6
 go_upto_region 2 with (first
  |(go_at_call 16;refine RM.out.mono ?_;rintro e w1 ⟨rfl,hb1⟩))
 change Code.wp _ _ _ _ (w1.alloc (a1T A B))
 have hX:Below w.heap.size w (w1.alloc (a1T A B)):=hb1.trans (((Below.refl w1.heap.size w1).alloc (Nat.le_refl _) _).mono hb1.size)
 have hro:=a0p w1 (a1T A B)
 have hrl:w1.heap.size<(w1.alloc (a1T A B)).heap.size:=by simp
 have HX:=a0b hX
 have hX10:=Nat.le_trans HE.out.size hX.size
 have RO:Hid (∀ W',Below (w1.alloc (a1T A B)).heap.size (w1.alloc (a1T A B)) W'->W'.cell? ⟨w1.heap.size,0,none⟩=some (.int .i64 A)/\W'.cell? ⟨w1.heap.size,1,none⟩=some (.int .i64 B)):=fun W' k=>by
  have h:=(k.block w1.heap.size hrl).trans hro
  unfold a1T at h
  obtain⟨x,y,_⟩:=b0q h
  exact⟨x,y⟩
 have BG:=a0b (c1y _ (HE.out.later hX) A B ⟨A1,A2⟩ ⟨B1,B2⟩)
 have HT:=a0b (HR.out.below hX)
 clear hX hro hrl RM hb1 HR HE
 generalize w1.alloc (a1T A B)=X at *
 generalize w1.heap.size=Rb at *
 obtain⟨ra,rb⟩:=RO.out X (Below.refl _ _)
 go_upto_region 5 with (first
  |(go_at_call 17;refine BG.out.mono ?_;rintro e w2 ⟨p,dk,r,col,rfl,D2⟩;have HD:=a0b (CX.of D2);clear D2 BG ra rb))
 go_upto_region 8 with (first
  |(go_at_call 18;refine (CX.played HD.out HT.out).mono ?_;rintro e w3 ⟨s,rfl,hAf,hD3⟩;have HAf:=a0b hAf;replace HD:=a0b hD3;clear hAf hD3))
 go_upto_region 10 with fail
 change Code.wp _ _ _ _ (w3.alloc a1B)
 replace HD:=a0b (HD.out.alloc a1B)
 generalize w3.alloc a1B=W3 at HD ⊢
 generalize w3.heap.size=Nb at HD ⊢
 clear HT
 have UA:Hid (∀ i,a0h (a1A i) s.ts=a0h (a1A i) (a3Z A B).ts/\a0h (a1A i) s.ts≠0):=fun i=>by
  have h:=HAf.out.ts (a1A i) (b2x A1 B1 i)
  exact⟨h,by rw[h];exact b2x A1 B1 i⟩
 have hgv:s.given<=30:=by have:=HAf.out.gv;have e:(a3Z A B).given=0:=rfl;omega
 clear HAf
 have PU:Hid (∀ i,a1Q (a1A i) s.es 0 1048320<=a0h (a1A i) (a3Z A B).ts):=fun i=>by
  rw[<- (UA.out i).1]
  exact b0A HD.out.inv (a1A i) (by omega)
 have RDS:Hid (∀ i,Reads ((((⟨#[112,101,97,107,32]⟩:ByteArray)++a1A i)++(⟨#[32,48,32]⟩:ByteArray))++Txt.a0x 1048320) (.iface 170 (.agg #[.string (a1A i),.int .i64 0,.int .i64 1048320]))):=fun i=>b7Z (a3x i) ⟨by omega,by omega⟩ ⟨by omega,by omega⟩ (by
  have z0:(Txt.a0x 0).data.toList=[48]:=by decide +kernel
  rw[z0]
  rcases a7y i with e|e <;> (rw[e];simp only[Txt.a1X,List.append_assoc];rfl))
 have h10:10<=X.heap.size:=hX10
 go_loopw [14,15,16,17,18] (fun vi _ _ _ _ wr=>∃ i:Nat,i<=2/\vi=.int .i64 i/\CX X wr p dk s [(Nb,a1B)] []) (fun vi _ _ _ _ _=>2-(intOf vi).toNat)
 case atStart=>exact⟨0,by omega,rfl,HD.out⟩
 case round =>
  obtain⟨i,hi,rfl,hcx⟩:=hrel
  have HC:=a0b hcx
  clear hcx HD
  by_cases hlt:i<2
  ·have hlt':(i:Int)<2:=by omega
   have cn:=a6P (HC.out.kb (List.mem_cons_self ..)) i hlt
   go_upto_region 13 with (first
    |(go_at_call 19;refine (CX.entries HC.out (a1A i) (a3x i) (UA.out i).2).mono ?_;rintro e w4 ⟨l,la,lc,rfl,hents,hc4⟩;have HE:=a0b hents;replace HC:=a0b hc4;clear hc4 hents cn))
   refine c1T hlt h10 (RDS.out i) (UA.out i).2 HC.out ?_
   intro u59 u60 u61 u62 u63 u64 u65 u66 u67 u68 b v1 v2 v3 v4 W4 hc5
   replace HC:=a0b hc5
   clear hc5
   have PK:=a0b (b3i W4 (.slice la l.length lc) l (HC.out.ev (List.mem_cons_self ..)) (a6T HC.out.inv HE.out) 0 1048320)
   have EP:Hid (b0g (a1m l) 0 1048320=a1Q (a1A i) s.es 0 1048320):=by
    show _=_
    unfold a1m
    rw[HE.out]
    exact Desk.a5y HC.out.inv (a1A i) (by omega)
   rw[EP.out] at PK
   go_upto_region 15 with (first
    |(go_at_call 22;refine PK.out.mono ?_;rintro e w5 ⟨rfl,hb5⟩;replace HC:=a0b (HC.out.later hb5);clear hb5 PK))
   obtain⟨e0,_,e2,_⟩:=a2T (HC.out.kb (List.mem_cons_self ..))
   have cn:=a6P (HC.out.kb (List.mem_cons_of_mem _ (List.mem_cons_self ..))) i hlt
   obtain⟨ra,rb⟩:=RO.out w5 HC.out.bl
   have hle:¬ (a0h (a1A i) (a3Z A B).ts<a1Q (a1A i) s.es 0 1048320):=by have:=PU.out i;omega
   have UN:=a0b (fun W'=>a7B A B (a1A i) (a7y i) W')
   generalize a0h (a1A i) (a3Z A B).ts=un at hle UN
   generalize a1Q (a1A i) s.es 0 1048320=pn at *
   have HBd:=a0b HC.out.drew
   have SS:Hid (∀ W',Below w5.drew.heap.size w5.drew W'->W'.cell? ⟨b,0,none⟩=some (.int .i64 0)/\W'.cell? ⟨b,2,none⟩=some (.int .i64 pn)/\W'.cell? ⟨Rb,0,none⟩=some (.int .i64 A)/\W'.cell? ⟨Rb,1,none⟩=some (.int .i64 B)/\W'.cell? ⟨Nb,i,none⟩=some (.string (a1A i))):=fun W' k=>⟨a0a k e0,a0a k e2,a0a k ra,a0a k rb,a0a k cn⟩
   have hpn:(pn != pn)=false:=by simp
   have hd:decide (un<pn)=false:=decide_eq_false hle
   clear hle
   go_region_held3 (fun w'=>w'.cell? ⟨b,0,none⟩=some (.int .i64 0)/\w'.cell? ⟨b,2,none⟩=some (.int .i64 pn)/\w'.cell? ⟨Rb,0,none⟩=some (.int .i64 A)/\w'.cell? ⟨Rb,1,none⟩=some (.int .i64 B)/\w'.cell? ⟨Nb,i,none⟩=some (.string (a1A i)))
    (first
     |with_reducible exact SS.out _ HB6.out
     |exact⟨e0,e2,ra,rb,cn⟩)
    (first
     |(go_at_call 23;refine (UN.out _).mono ?_;rintro e w6 ⟨rfl,hb6⟩;have HB6:=a0b hb6;clear hb6))
   have HF:Hid (CX X w6 p dk s [(Nb,a1B)] []):=(HBd.out.later HB6.out).less (fun q hq=>List.mem_cons_of_mem _ hq) (by simp)
   clear HBd HB6 SS HC UN EP HE hd hpn e0 e2 ra rb cn
   go_wp2_with fail
   go_roundw
   case rel=>exact⟨i+1,by omega,by go_num,HF.out⟩
   case measure=>simp[intOf];omega
  ·have hlt':¬ (i:Int)<2:=by omega
   clear RDS PU
   go_upto_region 18 with fail
   change Code.wp _ _ _ _ (wr.alloc (a8o more 0))
   have AK:=a0b (b0I (b6W HC.out.env more hm))
   have HL:=a0b (And.intro HC.out.pl HC.out.bl.size)
   have hNb:=(Array.getElem?_eq_some_iff.1 (HC.out.kb (List.mem_cons_self ..))).1
   go_upto_region 19 with (first
    |(go_at_call 24;refine AK.out.mono ?_;rintro e w7 ⟨nm,u,fr,til,rfl,hak,hfw⟩))
   change Code.wp _ _ _ _ (w7.alloc (a1P nm u fr til))
   obtain⟨fa,hfd⟩:=hfw.fd
   have hlt7:wr.heap.size<w7.heap.size:=(Array.getElem?_eq_some_iff.1 hfd.b).1
   have HX7:Hid (CX X (w7.alloc (a1P nm u fr til)) p dk s [(w7.heap.size,a1P nm u fr til),(wr.heap.size,a8o more fa),(Nb,a1B)] []):=by
    have hz:=HC.out.alloc (a8o more 0)
    have h2:=hz.put' ⟨h10,HL.out.2,by have:=HL.out.1;omega,fun q hq=>by have:q=(Nb,a1B):=List.mem_singleton.1 hq;subst this;show Nb≠_;omega,fun q hq=>by cases hq⟩ hfw.off hfd.b
    exact h2.alloc _
   have OF:Hid (∀ o o',Own X wr.heap.size p [(w7.heap.size,o),(Nb,o')] []):=fun o o'=>⟨h10,HL.out.2,by have:=HL.out.1;omega,fun q hq=>by
    rcases List.mem_cons.1 hq with rfl|hq
    ·show w7.heap.size≠_;omega
    ·have:q=(Nb,o'):=List.mem_singleton.1 hq
     subst this
     show Nb≠_;omega,fun q hq=>by cases hq⟩
   have hfa:=hfd.le
   have OX:Hid (∀ o o',Own X w7.heap.size p [(wr.heap.size,o),(Nb,o')] []):=fun o o'=>⟨h10,Nat.le_trans HL.out.2 (by omega),by have:=HL.out.1;omega,fun q hq=>by
    rcases List.mem_cons.1 hq with rfl|hq
    ·show wr.heap.size≠_;omega
    ·have:q=(Nb,o'):=List.mem_singleton.1 hq
     subst this
     show Nb≠_;omega,fun q hq=>by cases hq⟩
   have HK:=a0b hak
   clear AK HC hfd hfw hak hlt7 hNb HL
   generalize w7.alloc (a1P nm u fr til)=V at HX7 ⊢
   generalize w7.heap.size=xb at *
   generalize wr.heap.size=F at *
   replace HX7:=a0b HX7.out.swap
   go_upto_region 20 with (first
    |(go_at_call 25;refine (CX.next HX7.out (OF.out _ _) hfa hm 2 (by omega) (by omega)).mono ?_;rintro e w8 ⟨v8,fb,rfl,p0,p1,hfb,hc8⟩;obtain⟨n8,rfl⟩:=Int.eq_ofNat_of_zero_le p0;have cn:=a6P (hc8.kb (b:=Nb) (List.mem_cons_of_mem _ (List.mem_cons_of_mem _ (List.mem_cons_self ..)))) n8 (by omega);obtain⟨c0,_,_,_,cf⟩:=a1y (hc8.kb (b:=xb) (List.mem_cons_of_mem _ (List.mem_cons_self ..)));have HX8:=a0b hc8;clear hc8))
   have HX9:=a0b ((HX8.out.swap.put' (OX.out _ _) (Off.set0 xb w8 0 (.string (a1A n8))) (a2A (HX8.out.kb (b:=xb) (List.mem_cons_of_mem _ (List.mem_cons_self ..))) _)).swap)
   have hn8:n8<2:=by omega
   clear HX7 HX8 cn c0 cf p0 p1 hfa
   generalize w8.setCell ⟨xb,0,none⟩ (.string (a1A n8))=V9 at HX9 ⊢
   change Hid (CX X V9 p dk s [(F,a8o more fb),(xb,a1P (a1A n8) u fr til),(Nb,a1B)] []) at HX9
   have u1:=HK.out.u1
   have u3:=HK.out.u3
   have f0:=HK.out.f0
   have f1:=HK.out.f1
   clear HK
   have HXd:=a0b HX9.out.drew
   have c2:=(a1y (HXd.out.kb (b:=xb) (List.mem_cons_of_mem _ (List.mem_cons_self ..)))).2.2.1
   have kf:IntKind.i64.wrap (fr+1)=fr+1:=a0G (by omega) (by omega)
   go_region_held3 (fun w'=>w'.cell? ⟨xb,2,none⟩=some (.int .i64 fr))
    (first
     |exact c2b
     |exact AS _
     |exact c2)
    (first
     |(go_at_call 25;refine (CX.next HXd.out (OF.out _ _) hfb hm 50 (by omega) (by omega)).mono ?_;rintro e w10 ⟨v10,fc,rfl,p0,p1,hfc,hc10⟩;obtain⟨_,_,c2b,c3b,cfb⟩:=a1y (hc10.kb (b:=xb) (List.mem_cons_of_mem _ (List.mem_cons_self ..)));have kg:IntKind.i64.wrap (fr+1+v10)=fr+1+v10:=a0G (by omega) (by omega);have HX10:=a0b hc10;clear hc10;have AS:=fun x=>(a1y (a2A (i:=3) (HX10.out.kb (b:=xb) (List.mem_cons_of_mem _ (List.mem_cons_self ..))) (.int .i64 x))).2.2.1))
   have HX11:=a0b (HX10.out.swap.put' (OX.out _ _) (Off.set0 xb w10 3 (.int .i64 (fr+1+v10))) (a2A (HX10.out.kb (b:=xb) (List.mem_cons_of_mem _ (List.mem_cons_self ..))) _))
   have t0:fr<fr+1+v10:=by omega
   clear HX9 HXd HX10 c2 c2b c3b cfb kf kg AS p0 p1 hfb OF OX
   generalize w10.setCell ⟨xb,3,none⟩ (.int .i64 (fr+1+v10))=V11 at HX11 ⊢
   change Hid (CX X V11 p dk s [(xb,a1P (a1A n8) u fr (fr+1+v10)),(F,a8o more fc),(Nb,a1B)] []) at HX11
   generalize fr+1+v10=ti at t0 HX11 ⊢
   go_upto_region 21 with fail
   obtain⟨c0,c1,c2,c3,_⟩:=a1y (HX11.out.kb (List.mem_cons_self ..))
   obtain⟨ra,rb⟩:=RO.out V11 HX11.out.bl
   have UN:=a0b (fun W'=>a7B A B (a1A n8) (a7y n8) W')
   generalize hun:a0h (a1A n8) (a3Z A B).ts=un at UN
   have HUN:=a0b hun
   clear hun
   have HXd:=a0b HX11.out.drew
   have SS:Hid (∀ W',Below V11.drew.heap.size V11.drew W'->W'.cell? ⟨xb,0,none⟩=some (.string (a1A n8))/\W'.cell? ⟨xb,1,none⟩=some (.int .i64 u)/\W'.cell? ⟨xb,3,none⟩=some (.int .i64 ti)/\W'.cell? ⟨Rb,0,none⟩=some (.int .i64 A)/\W'.cell? ⟨Rb,1,none⟩=some (.int .i64 B)):=fun W' k=>⟨a0a k c0,a0a k c1,a0a k c3,a0a k ra,a0a k rb⟩
   have DN:Hid (∀ W',CX X W' p dk s [] []->Below w.heap.size w W'):=fun W' k=>HX.out.trans (k.bl.mono HX.out.size)
   by_cases hti:1048320<ti
   ·have hd:decide (1048320<ti)=true:=decide_eq_true hti
    clear hti
    have HF:Hid (∀ n,Below w.heap.size w (V11.drewN n)):=fun n=>DN.out _ ((HX11.out.later (a9Q (Below.refl _ _) n)).less (by simp) (by simp))
    clear SS HXd HX11 UN DN
    go_quiet (fail)
    go_wp2_with fail
    go_ret
    exact⟨rfl,HF.out _⟩
   ·have hd:decide (1048320<ti)=false:=decide_eq_false hti
    by_cases huu:un<u
    ·have hd2:decide (un<u)=true:=decide_eq_true huu
     clear huu
     go_region_held3 (fun W'=>W'.cell? ⟨xb,0,none⟩=some (.string (a1A n8))/\W'.cell? ⟨xb,1,none⟩=some (.int .i64 u)/\W'.cell? ⟨xb,3,none⟩=some (.int .i64 ti)/\W'.cell? ⟨Rb,0,none⟩=some (.int .i64 A)/\W'.cell? ⟨Rb,1,none⟩=some (.int .i64 B))
      (first
       |with_reducible exact SS.out _ HB12.out
       |exact⟨c0,c1,c3,ra,rb⟩)
      (first
       |(go_at_call 23;refine (UN.out _).mono ?_;rintro e w12 ⟨rfl,hb12⟩;have HB12:=a0b hb12;clear hb12))
     have HF:=a0b (DN.out _ ((HXd.out.later HB12.out).less (by simp) (by simp)))
     clear SS HB12 HXd HX11 UN DN
     go_wp2_with fail
     go_ret
     exact⟨rfl,HF.out⟩
    ·have hd2:decide (un<u)=false:=decide_eq_false huu
     go_region_held3 (fun W'=>W'.cell? ⟨xb,0,none⟩=some (.string (a1A n8))/\W'.cell? ⟨xb,1,none⟩=some (.int .i64 u)/\W'.cell? ⟨xb,3,none⟩=some (.int .i64 ti)/\W'.cell? ⟨Rb,0,none⟩=some (.int .i64 A)/\W'.cell? ⟨Rb,1,none⟩=some (.int .i64 B))
      (first
       |with_reducible exact SS.out _ HB12.out
       |exact⟨c0,c1,c3,ra,rb⟩)
      (first
       |(go_at_call 23;refine (UN.out _).mono ?_;rintro e w12 ⟨rfl,hb12⟩;have HB12:=a0b hb12;clear hb12))
     have HC:=a0b ((HXd.out.later HB12.out).less (ks':=[(xb,a1P (a1A n8) u fr ti)]) (es':=[]) (by simp) (by simp))
     clear SS HB12 HXd HX11 UN c0 c1 c2 c3 ra rb hd hd2
     rename_i hHeld
     clear hHeld
     obtain⟨c0,c1,c2,c3,_⟩:=a1y (HC.out.kb (List.mem_cons_self ..))
     obtain⟨ra,rb⟩:=RO.out w12 HC.out.bl
     have hus:a0h (a1A n8) (a3Z A B).ts=a0h (a1A n8) s.ts:=(UA.out n8).1.symm
     have u2:u<=a0h (a1A n8) s.ts:=by rw[<- hus,HUN.out];omega
     have FI:=a0b (b1Y HC.out A B (a1A n8) (a7y n8) (a3x n8) (UA.out n8).2 hus u fr ti (by omega) (by omega) t0)
     have BS:=a0b (Desk.c1u HC.out.inv (nm:=a1A n8) (u:=u) (fr:=fr) (til:=ti) (by omega) (by omega) u2 f0 t0 (by omega) (by omega))
     clear hus u2 HUN huu
     go_upto_region 24 with (first
      |(go_at_call 26;refine FI.out.mono ?_;rintro e w13 ⟨rfl,hc13⟩;replace HC:=a0b hc13;clear hc13 FI c0 c1 c2 c3 ra rb))
     have c0:=(a1y (HC.out.kb (List.mem_cons_self ..))).1
     go_upto_region 25 with (first
      |(go_at_call 19;refine (CX.entries HC.out (a1A n8) (a3x n8) (UA.out n8).2).mono ?_;rintro e w14 ⟨l1,la,lc,rfl,hents,hc14⟩;have HE1:=a0b hents;replace HC:=a0b hc14;clear hc14 hents c0))
     obtain⟨c0,c1,c2,c3,_⟩:=a1y (HC.out.kb (List.mem_cons_self ..))
     have zk:=b3U (nm:=a1A n8) (u:=u) (fr:=fr) (til:=ti) (by rw[(a3x n8).s];omega) ⟨by omega,by omega⟩ ⟨by omega,by omega⟩ ⟨by omega,by omega⟩
     have TX:=a0b (b5S w14 HC.out.env (a1A n8) u fr ti (by rw[(a3x n8).s];omega) ⟨by omega,by omega⟩ ⟨by omega,by omega⟩ ⟨by omega,by omega⟩)
     have RB:Hid (Reads ((⟨#[98,111,111,107,32]⟩:ByteArray)++c5B (a1A n8) u fr ti) (.iface 148 (.agg #[.string (a1A n8),.int .i64 u,.int .i64 fr,.int .i64 ti]))):=b8N (a3x n8) ⟨by omega,by omega⟩ ⟨by omega,by omega⟩ ⟨by omega,by omega⟩ (by rw[c3J];rfl)
     have LB:Hid (Desk.a1O (.enter 1 (a1A n8) u fr ti 0)):=⟨.inl ⟨rfl,rfl⟩,by omega,by omega,by omega,by omega,by omega,by omega⟩
     have LVB:Hid (LV (.iface 148 (.agg #[.string (a1A n8),.int .i64 u,.int .i64 fr,.int .i64 ti])) (.enter 1 (a1A n8) u fr ti 0)):=.book (a1A n8) (by rw[(a3x n8).s];omega) u fr ti
     generalize hk:c5B (a1A n8) u fr ti=kS at TX RB zk
     clear hk
     have HIS:=a0b HC.out.inv
     cases hfit:Desk.a1e s.ts s.es (a1A n8) u [(fr,ti)]
     ·have ST:=a0b (BS.out.2 hfit)
      clear BS
      go_upto_region 26 with (first
       |(go_at_call 27;refine TX.out.mono ?_;rintro e w15 ⟨rfl,hb15⟩;replace HC:=a0b (HC.out.later hb15);clear hb15 TX)
       |(go_at_call 20;refine (CX.line HC.out RB.out LVB.out LB.out ST.out).mono ?_;rintro e w16 ⟨l9,a1,a2,a3,a4,m2,d1,d2,d3,d4,rfl,_,hc16,_⟩;dsimp only[Desk.Rep.error,List.length_nil];replace HC:=a0b hc16;clear hc16))
      change Code.wp _ _ _ _ (w16.alloc (a5w 8 0 0 (.slice a1 l9.length d1) (.slice a2 m2 d2) (.slice a3 0 d3) (.slice a4 0 d4)))
      replace HC:=a0b ((HC.out.alloc (a5w 8 0 0 (.slice a1 l9.length d1) (.slice a2 m2 d2) (.slice a3 0 d3) (.slice a4 0 d4))).less (es':=[(.slice la l1.length lc,l1)]) (fun q hq=>hq) (fun q hq=>List.mem_cons_of_mem _ hq))
      clear ST RB LB LVB c0 c1 c2 c3
      generalize w16.alloc (a5w 8 0 0 (.slice a1 l9.length d1) (.slice a2 m2 d2) (.slice a3 0 d3) (.slice a4 0 d4))=V17 at HC ⊢
      generalize w16.heap.size=yb at HC ⊢
      have c0:=(a1y (HC.out.kb (b:=xb) (List.mem_cons_of_mem _ (List.mem_cons_self ..)))).1
      go_upto_region 29 with (first
       |(go_at_call 19;refine (CX.entries HC.out (a1A n8) (a3x n8) (UA.out n8).2).mono ?_;rintro e w18 ⟨l2,lb,ld,rfl,hents,hc18⟩;have HE2:=a0b hents;replace HC:=a0b hc18;clear hc18 hents c0))
      have SE:=a0b (a8V l1 l2 _ _ w18 (HC.out.ev (List.mem_cons_of_mem _ (List.mem_cons_self ..))) (HC.out.ev (List.mem_cons_self ..)) (HE1.out.trans HE2.out.symm) (by have:=(a6T HC.out.inv HE1.out).1;omega) (fun q hq=>((a6T HC.out.inv HE1.out).2 q hq).2.2))
      go_upto_region 31 with (first
       |(go_at_call 28;refine SE.out.mono ?_;rintro e w19 ⟨rfl,hb19⟩;replace HC:=a0b (HC.out.later hb19);clear hb19 SE))
      obtain⟨e0,_,e2,_⟩:=a2T (HC.out.kb (List.mem_cons_self ..))
      have HF:=a0b (DN.out _ (HC.out.less (by simp) (by simp)))
      clear HC DN
      go_wp2_with fail
      go_ret
      exact⟨rfl,HF.out⟩
     ·have ST:=a0b (BS.out.1 hfit)
      clear BS
      go_upto_region 26 with (first
       |(go_at_call 27;refine TX.out.mono ?_;rintro e w15 ⟨rfl,hb15⟩;replace HC:=a0b (HC.out.later hb15);clear hb15 TX)
       |(go_at_call 20;refine (CX.line HC.out RB.out LVB.out LB.out ST.out).mono ?_;rintro e w16 ⟨l9,a1,a2,a3,a4,m2,d1,d2,d3,d4,rfl,_,hc16,_⟩;dsimp only[Desk.a2t,Desk.Rep.num,List.length_nil];replace HC:=a0b hc16;clear hc16))
      change Code.wp _ _ _ _ (w16.alloc (a5w 0 0 (s.given+1) (.slice a1 l9.length d1) (.slice a2 m2 d2) (.slice a3 0 d3) (.slice a4 0 d4)))
      replace HC:=a0b ((HC.out.alloc (a5w 0 0 (s.given+1) (.slice a1 l9.length d1) (.slice a2 m2 d2) (.slice a3 0 d3) (.slice a4 0 d4))).less (es':=[(.slice la l1.length lc,l1)]) (fun q hq=>hq) (fun q hq=>List.mem_cons_of_mem _ hq))
      change Hid (CX X (w16.alloc (a5w 0 0 (s.given+1) (.slice a1 l9.length d1) (.slice a2 m2 d2) (.slice a3 0 d3) (.slice a4 0 d4))) p dk (Desk.a2t s ⟨0,1,a1A n8,u,[(fr,ti)],0⟩).1 [(w16.heap.size,a5w 0 0 (s.given+1) (.slice a1 l9.length d1) (.slice a2 m2 d2) (.slice a3 0 d3) (.slice a4 0 d4)),(xb,a1P (a1A n8) u fr ti)] [(.slice la l1.length lc,l1)]) at HC
      clear ST RB LB LVB c0 c1 c2 c3
      generalize w16.alloc (a5w 0 0 (s.given+1) (.slice a1 l9.length d1) (.slice a2 m2 d2) (.slice a3 0 d3) (.slice a4 0 d4))=V17 at HC ⊢
      generalize w16.heap.size=yb at HC ⊢
      have c0:=(a1y (HC.out.kb (b:=xb) (List.mem_cons_of_mem _ (List.mem_cons_self ..)))).1
      have UJ:Hid (a0h (a1A n8) (Desk.a2t s ⟨0,1,a1A n8,u,[(fr,ti)],0⟩).1.ts≠0):=(UA.out n8).2
      go_upto_region 29 with (first
       |(go_at_call 19;refine (CX.entries HC.out (a1A n8) (a3x n8) UJ.out).mono ?_;rintro e w18 ⟨l2,lb,ld,rfl,hents,hc18⟩;have HE2:=a0b hents;replace HC:=a0b hc18;clear hc18 hents c0))
      have PM:=a0b (b8S HIS.out HC.out.inv HE1.out HE2.out)
      have hlen:=PM.out.1
      have hl60:=(a6T HC.out.inv HE2.out).1
      go_upto_region 33 with fail
      have HCs:=a0b (HC.out.less (ks':=[(yb,a5w 0 0 (s.given+1) (.slice a1 l9.length d1) (.slice a2 m2 d2) (.slice a3 0 d3) (.slice a4 0 d4)),(xb,a1P (a1A n8) u fr ti)]) (es':=[(.slice lb l2.length ld,l2)]) (fun q hq=>hq) (fun q hq=>by rw[List.mem_singleton.1 hq];exact List.mem_cons_self ..))
      clear HC HE1 HE2 UJ
      generalize (Desk.a2t s ⟨0,1,a1A n8,u,[(fr,ti)],0⟩).1=s1 at HCs
      have e1s:((l2.length:Int)==(l1.length:Int)+1)=true:=by rw[beq_iff_eq];omega
      have kl:IntKind.i64.wrap ((l1.length:Int)+1)=(l1.length:Int)+1:=a0G (by omega) (by omega)
      have e3s:((a1A n8).toList==(a1A n8).toList)=true:=by simp
      have e4s:(u==u)=true:=by simp
      have e5s:(fr==fr)=true:=by simp
      have e6s:(ti==ti)=true:=by simp
      go_loopw [28,29] (fun vi _ wr'=>∃ j:Nat,j<=l2.length/\vi=.int .i64 j/\(∀ (k:Nat) (h:k<l2.length),k<j->l2[k].1.id≠s.given+1)/\CX X wr' p dk s1 [(yb,a5w 0 0 (s.given+1) (.slice a1 l9.length d1) (.slice a2 m2 d2) (.slice a3 0 d3) (.slice a4 0 d4)),(xb,a1P (a1A n8) u fr ti)] [(.slice lb l2.length ld,l2)]) (fun vi _ _=>l2.length-(intOf vi).toNat)
      case atStart=>exact⟨0,Nat.zero_le _,rfl,fun k h h0=>absurd h0 (by omega),HCs.out⟩
      case round =>
       obtain⟨j,hj,rfl,hno,hcx⟩:=hrel
       have HC:=a0b hcx
       have HNO:=a0b hno
       clear hcx hno HCs
       by_cases hjl:j<l2.length
       ·have hjl':(j:Int)<(l2.length:Int):=by omega
        have hev:=HC.out.ev (List.mem_cons_self ..)
        obtain⟨g,cap,e,x0,x1,x2,x3,x4,x5⟩:=hev.cell j hjl
        simp only[Value.slice.injEq,true_and] at e
        obtain⟨rfl,rfl⟩:=e
        have hsp:=hev.sp l2[j] (List.getElem_mem hjl)
        obtain⟨q1,q2,eq⟩:=hsp.form
        rw[eq] at x4
        have HSP:=a0b hsp
        clear hev hsp
        by_cases hid:l2[j].1.id=s.given+1
        ·have hx:=PM.out.2.2 j hjl hid
         have hsp:=HSP.out
         rw[hx] at hsp x0 x1 x2 x3 x4 x5
         obtain⟨g3,cap3,e,y0,y1⟩:=hsp.cell 0 (by simp)
         rw[eq,hx] at e
         clear hid hx eq HSP hsp HNO
         simp only[List.length_cons,List.length_nil] at x4 e
         simp only[Value.slice.injEq,true_and] at e
         obtain⟨rfl,rfl⟩:=e
         have y0':wr.cell? ⟨g3,0,none⟩=some (.int .i64 fr):=y0
         have y1':wr.cell? ⟨g3,1,none⟩=some (.int .i64 ti):=y1
         clear y0 y1
         go_upto_region 36 with fail
         change Code.wp _ _ _ _ (wr.alloc (a4J ⟨s.given+1,1,a1A n8,u,[(fr,ti)],0⟩ (.slice (some ⟨g3,0,none⟩) 1 q2)))
         have kbn:Below wr.heap.size wr (wr.alloc (a4J ⟨s.given+1,1,a1A n8,u,[(fr,ti)],0⟩ (.slice (some ⟨g3,0,none⟩) 1 q2))):=(Below.refl _ _).alloc (Nat.le_refl _) _
         replace HC:=a0b (HC.out.alloc (a4J ⟨s.given+1,1,a1A n8,u,[(fr,ti)],0⟩ (.slice (some ⟨g3,0,none⟩) 1 q2)))
         have z0:=a0a kbn y0'
         have z1:=a0a kbn y1'
         clear kbn y0' y1' x0 x1 x2 x3 x4 x5
         generalize wr.alloc (a4J ⟨s.given+1,1,a1A n8,u,[(fr,ti)],0⟩ (.slice (some ⟨g3,0,none⟩) 1 q2))=V19 at HC z0 z1 ⊢
         generalize wr.heap.size=eb at HC ⊢
         obtain⟨o0,o1,o2,o3,o4,o5⟩:=b3D (HC.out.kb (List.mem_cons_self ..))
         obtain⟨e0,_,e2,_⟩:=a2T (HC.out.kb (b:=yb) (List.mem_cons_of_mem _ (List.mem_cons_self ..)))
         obtain⟨c0,c1,c2,c3,_⟩:=a1y (HC.out.kb (b:=xb) (List.mem_cons_of_mem _ (List.mem_cons_of_mem _ (List.mem_cons_self ..))))
         have HF:Hid (∀ n,Below w.heap.size w (V19.drewN n)):=fun n=>HX.out.trans (((HC.out.later (a9Q (Below.refl _ _) n)).bl).mono HX.out.size)
         have e7s:(s.given+1==s.given+1)=true:=by simp
         clear HC PM
         go_upto_region 37 with fail
         go_quiet (fail)
         go_wp2_with fail
         go_ret
         exact⟨rfl,HF.out _⟩
        ·have hidb:(l2[j].1.id==s.given+1)=false:=by simpa using hid
         have HN:Hid (∀ (k:Nat) (h:k<l2.length),k<j+1->l2[k].1.id≠s.given+1):=fun k h hk=>by
          by_cases ek:k=j
          ·subst ek;exact hid
          ·exact HNO.out k h (by omega)
         go_upto_region 36 with fail
         change Code.wp _ _ _ _ (wr.alloc (a4J l2[j].1 (.slice q1 l2[j].1.a0e.length q2)))
         have hob:=a0p wr (a4J l2[j].1 (.slice q1 l2[j].1.a0e.length q2))
         replace HC:=a0b (HC.out.alloc (a4J l2[j].1 (.slice q1 l2[j].1.a0e.length q2)))
         obtain⟨o0,_⟩:=b3D hob
         have e2:=(a2T (HC.out.kb (b:=yb) (List.mem_cons_of_mem _ (List.mem_cons_self ..)))).2.2.1
         have HF:=a0b (HC.out.less (ks':=[(yb,a5w 0 0 (s.given+1) (.slice a1 l9.length d1) (.slice a2 m2 d2) (.slice a3 0 d3) (.slice a4 0 d4)),(xb,a1P (a1A n8) u fr ti)]) (fun q hq=>List.mem_cons_of_mem _ hq) (fun q hq=>hq))
         clear HC hob x0 x1 x2 x3 x4 x5 hid HNO HSP eq
         generalize wr.alloc (a4J l2[j].1 (.slice q1 l2[j].1.a0e.length q2))=V19 at HF o0 e2 ⊢
         generalize wr.heap.size=eb at o0 ⊢
         generalize l2[j].1.id=idj at o0 hidb
         go_wp2_with fail
         go_roundw
         case rel=>exact⟨j+1,by omega,by go_num,HN.out,HF.out⟩
         case measure=>simp[intOf];omega
       ·exfalso
        obtain⟨k,h,e⟩:=PM.out.2.1
        exact HNO.out k h (by omega) e
end Go.Proofs.YtjfkfiffakbagaaGreatDoor
namespace Go.Proofs.YtjfkfiffakbagaaGreatDoor.Laid
def val:DataW Unit->Value
 |.lit (.int k n)=>.int k n
 |.lit (.string b)=>.string ⟨b.toArray⟩
 |_=>.bool false
def row:DataW Unit->List Value
 |.agg l=>l.map val
 |_=>[]
def rows:DataW Unit->List Value
 |.agg l=>l.flatMap row
 |_=>[]
def text:DataW Unit->Value
 |.iface _ (.ptr (.agg [d]))=>val d
 |_=>.bool false
def put(l:List Value):Obj->Obj
 |.cells _ t frozen=>.cells l.toArray t frozen
 |o=>o
def c6N(w:World):World :=
 { w with heap:=(((((((((w.heap.modify 0 (put (row Rows.laid_bookings_calendar_monthDays))).modify 1 (put (row Rows.laid_internal_strconv_uint64pow10))).modify 5 (put [.iface 365 (.pointer (some ⟨w.heap.size,0,none⟩))])).modify 6 (put [.iface 365 (.pointer (some ⟨w.heap.size+1,0,none⟩))])).modify 2 (put (row Rows.laid_bookings_lines_weekdays))).modify 3 (put (row Rows.laid_math_bits_deBruijn32tab))).modify 4 (put (row Rows.laid_math_bits_deBruijn64tab))).modify 8 (put (row Rows.laid_unicode_utf8_first))).modify 9 (put (rows Rows.laid_unicode_utf8_acceptRanges))).push (.cells #[text Rows.laid_strconv_ErrSyntax] 367) |>.push (.cells #[text Rows.laid_strconv_ErrRange] 367) }
theorem met(os:Os):laidMet Tryz.prog Rows.datesRow.laid ((c6N (World.holding Tryz.prog os ⟨#[],#[],[]⟩)).forCall (fun _ _=>0) ⟨#[],#[.slice none 0 0],[]⟩).memory :=
 laidMet_of_run' 8 (by kernel_rfl) (by kernel_rfl)
end Go.Proofs.YtjfkfiffakbagaaGreatDoor.Laid
namespace Go.Proofs.YtjfkfiffakbagaaGreatDoor.datesLaw
open Go.ChangeShapes Go.WideShapes Go.ChangeAt Go.RowKit
theorem own:ownKnob Tryz.prog.godebug=none:=by kernel_rfl
theorem c5b:laidOutB Tryz.prog=true:=by kernel_rfl
def b9r:String:=Rows.datesRow.named.getD 0 Rows.datesRow.func
theorem b8y:Tryz.prog.globalNamed b9r=some 0:=by kernel_rfl
theorem c3e:(Tryz.prog.globals[0]?).map (·.type)=some 199:=by kernel_rfl
theorem c3A:Tryz.prog.cellsOf 199=12:=by kernel_rfl
theorem c3D:Tryz.prog.cellsOf 3=1:=by kernel_rfl
theorem b7n:Tryz.prog.cellsOf 9=1:=by kernel_rfl
theorem table{W:World}(h:laidMetH Tryz.prog Rows.datesRow.laid W):Lib.TabIs Tryz.prog W b9r .i64 [31,28,31,30,31,30,31,31,30,31,30,31] :=
 Lib.tabIs_of_head b8y c3e Tryz.underlying199 Tryz.underlying3 c3D c3A h
theorem tab{W:World}(h:laidMetH Tryz.prog Rows.datesRow.laid W):Tab W :=
 ⟨(table h).cell b8y 0 (by decide),(table h).cell b8y 1 (by decide),(table h).cell b8y 2 (by decide),(table h).cell b8y 3 (by decide),(table h).cell b8y 4 (by decide),(table h).cell b8y 5 (by decide),(table h).cell b8y 6 (by decide),(table h).cell b8y 7 (by decide),(table h).cell b8y 8 (by decide),(table h).cell b8y 9 (by decide),(table h).cell b8y 10 (by decide),(table h).cell b8y 11 (by decide)⟩
end Go.Proofs.YtjfkfiffakbagaaGreatDoor.datesLaw
namespace Go.Proofs.YtjfkfiffakbagaaGreatDoor.EnvLaid
open Go.ChangeShapes Go.WideShapes Go.ChangeAt Go.RowKit
theorem b2G{P:Program}{W:World}{name:String}{k:IntKind}{zs:List Int}{g:Nat}{t e:TypeId}{n:Nat}
  (hg:P.globalNamed name=some g) (hty:(P.globals[g]?).map (·.type)=some t) (ht:P.underlying t=some (.array n e)) (he:P.underlying e=some (.int k)) (hce:P.cellsOf e=1) (hct:P.cellsOf t=n)
  (h:Lib.VarReads P W name (Lib.tabData k zs)):Lib.TabIs P W name k zs:=by
 obtain⟨g',t',cs,fuel,p,hg',ht',hvar,hd⟩:=h
 obtain rfl:=Option.some.inj (hg.symm.trans hg')
 obtain rfl:=Option.some.inj (hty.symm.trans ht')
 unfold Lib.TabIs
 rw[hvar,<- Lib.cells_of_tab ht he hce hct hd]
theorem b9t{P:Program}{W:World}{name:String}{zs:List (List UInt8)}{g:Nat}{t e:TypeId}{n:Nat}
  (hg:P.globalNamed name=some g) (hty:(P.globals[g]?).map (·.type)=some t) (ht:P.underlying t=some (.array n e)) (he:P.underlying e=some .string) (hce:P.cellsOf e=1)
  (h:Lib.VarReads P W name (.agg (zs.map fun z=>.lit (.string z)))) (i:Nat) (z:List UInt8) (hz:zs[i]?=some z):W.cell? ⟨g,i,none⟩=some (.string ⟨z.toArray⟩):=by
 obtain⟨g',t',cs,fuel,p,hg',ht',hvar,hd⟩:=h
 obtain rfl:=Option.some.inj (hg.symm.trans hg')
 obtain rfl:=Option.some.inj (hty.symm.trans ht')
 obtain⟨xs,m,_,hx,_,hxl,hall⟩:=DataW.trod_array ht hd
 have hx1:zs.map (fun z=>(DataW.lit (.string z):DataW Unit))=xs.map (·.1):=by
  have:=congrArg Prod.fst hx
  simpa using this
 have hlen:zs.length=xs.length:=by
  have:=congrArg List.length hx1
  simpa using this
 have hi:i<zs.length:=(List.getElem?_eq_some_iff.1 hz).1
 have hxi:xs[i]?=some xs[i]:=List.getElem?_eq_getElem (by omega)
 have hti:=hall i (by omega)
 rw[hxi,hce] at hti
 obtain⟨s,hs1,hs2,_⟩:=DataW.trod_string he hti
 have h1:(xs.map (·.1))[i]?=some (DataW.lit (.string z):DataW Unit):=by rw[<- hx1];simp[hz]
 have h2:(xs.map (·.1))[i]?=some (DataW.lit (.string s.data.toList):DataW Unit):=by simp[hxi,hs2]
 have h3:z=s.data.toList:=by
  have:=h1.symm.trans h2
  simpa using this
 have h4:cs[i]?=some (.string s):=by
  have:=congrArg (·[0]?) hs1
  simpa[List.getElem?_take,List.getElem?_drop] using this
 rw[World.var?_cell hg hvar i,h4,h3]
theorem c3f:(Tryz.prog.globals[1]?).map (·.type)=some 299:=by kernel_rfl
theorem c3B:Tryz.prog.cellsOf 299=20:=by kernel_rfl
theorem c3z:Tryz.prog.cellsOf 252=1:=by kernel_rfl
theorem c6X : Tryz.prog.globalNamed "bookings/lines.weekdays" = some 2 := by kernel_rfl
theorem c0J:(Tryz.prog.globals[2]?).map (·.type)=some 345:=by kernel_rfl
theorem b8z : Tryz.prog.globalNamed "bookings/calendar.monthDays" = some 0 := by kernel_rfl
theorem c3g:(Tryz.prog.globals[0]?).map (·.type)=some 199:=by kernel_rfl
theorem c3C:Tryz.prog.cellsOf 199=12:=by kernel_rfl
theorem c6I:Tryz.prog.cellsOf 3=1:=by kernel_rfl
theorem b7n:Tryz.prog.cellsOf 9=1:=by kernel_rfl
theorem c6Y {W : World} {l : List (String × DataW Unit)} (hM : laidMet Tryz.prog l W) (hS : W.ShapedOpen Tryz.prog) (m1 : ("bookings/calendar.monthDays", Rows.laid_bookings_calendar_monthDays) ∈ l) (m2 : ("internal/strconv.uint64pow10", Rows.laid_internal_strconv_uint64pow10) ∈ l) (m3 : ("bookings/lines.weekdays", Rows.laid_bookings_lines_weekdays) ∈ l) : Env W := by
 have ht : Lib.VarReads Tryz.prog W "bookings/calendar.monthDays" (Lib.tabData .i64 [31, 28, 31, 30, 31, 30, 31, 31, 30, 31, 30, 31]) := Lib.laidMet.reads hM (d := Rows.laid_bookings_calendar_monthDays) m1
 have hp : Lib.VarReads Tryz.prog W "internal/strconv.uint64pow10" (Lib.tabData .u64 Lib.pow10Tab) := Lib.laidMet.reads hM (d := Rows.laid_internal_strconv_uint64pow10) m2
 have hd : Lib.VarReads Tryz.prog W "bookings/lines.weekdays" (.agg ([[109, 111], [116, 117], [119, 101], [116, 104], [102, 114], [115, 97], [115, 117]].map fun z => .lit (.string z))) := Lib.laidMet.reads hM (d := Rows.laid_bookings_lines_weekdays) m3
 have day:=fun i z hz=>b9t c6X c0J Tryz.underlying345 Tryz.underlying9 b7n hd i z hz
 have tb:=b2G b8z c3g Tryz.underlying199 Tryz.underlying3 c6I c3C ht
 have hsz:10<=W.heap.size:=by
  have h0:(((begin Tryz.prog (fun _ _=>0) default).world.heap[9]?).bind Obj.row?).isSome=true:=by kernel_rfl
  obtain⟨⟨zero,t⟩,h1⟩:=Option.isSome_iff_exists.1 h0
  obtain⟨cs,hh,_⟩:=hS.1 9 zero t (of_decide_eq_true (by kernel_rfl)) h1
  exact (Array.getElem?_eq_some_iff.1 hh).1
 exact⟨⟨tb.cell b8z 0 (by decide),tb.cell b8z 1 (by decide),tb.cell b8z 2 (by decide),tb.cell b8z 3 (by decide),tb.cell b8z 4 (by decide),tb.cell b8z 5 (by decide),tb.cell b8z 6 (by decide),tb.cell b8z 7 (by decide),tb.cell b8z 8 (by decide),tb.cell b8z 9 (by decide),tb.cell b8z 10 (by decide),tb.cell b8z 11 (by decide)⟩,cell_of_shapedOpen_int (zero:=#[.int .i64 0]) (t:=3) hS (of_decide_eq_true (by kernel_rfl)) (by kernel_rfl) rfl (by kernel_rfl) (by kernel_rfl) Tryz.underlying3,
  b2G c6q c3f Tryz.underlying299 Tryz.underlying252 c3z c3B hp,hsz,
  day 0 _ rfl,day 1 _ rfl,day 2 _ rfl,day 3 _ rfl,day 4 _ rfl,day 5 _ rfl,day 6 _ rfl⟩
end Go.Proofs.YtjfkfiffakbagaaGreatDoor.EnvLaid
