/-
  Parts of the proof, one behind the other.
-/
import Derived.Test.YtjfkfiffakbagaaGreatDoorL20
import Derived.Test.YtjfkfiffakbagaaGreatDoorRows
import Derived.Test.YtjfkfiffakbagaaGreatDoorCards
import Derived.Test.YtjfkfiffakbagaaGreatDoorTie
import Derived.WalkKit
import Derived.ProofKit
import Derived.Deep.DeepWitnessRowRef
import Derived.LaidLaws
import Derived.OpenShut
import Derived.Deep.Slices
import Derived.Deep.DeepHandedRow
import Derived.Lib.LaidTab
import Derived.Lib.LaidU8
import Derived.Shelf.Vars
set_option maxRecDepth 100000
set_option maxHeartbeats 8000000
namespace Go.Proofs.YtjfkfiffakbagaaGreatDoor
open Go.RowKit
open Desk (Ent St Ids kept a0C a0Q a1C a2e ofB a0y a2c Mid a1H a0z Inv a0h a2x a1q Rep b0g a1Q a9A a1e)
theorem e2V(T:List Int)(t:Int):c9S T t 0=[]:=by
 unfold c9S d3c
 simp[c9m]
theorem e9F(i k:Int):((⟨#[104,111,108,100,32,98,32,49,32]⟩:ByteArray)++Txt.a0x (10*i)++(⟨#[32]⟩:ByteArray)++Txt.a0x (10*i+5)++(⟨#[32]⟩:ByteArray)++Txt.a0x k).data.toList=b5f.data.toList++32 :: (nmC.data.toList++32 :: ((Txt.a0x 1).data.toList++32 :: ((Txt.a0x (10*i)).data.toList++32 :: ((Txt.a0x (10*i+5)).data.toList++32 :: (Txt.a0x k).data.toList)))):=by
 have e1:(Txt.a0x 1).data.toList=[49]:=by decide +kernel
 rw[e1]
 simp only[Txt.a1X,List.append_assoc]
 rfl
theorem e2w(i:Int):((⟨#[99,111,110,102,105,114,109,32]⟩:ByteArray)++Txt.a0x i).data.toList=a4z.data.toList++32 :: (Txt.a0x i).data.toList:=by
 simp only[Txt.a1X]
 rfl
theorem e8f(i:Int):((⟨#[116,105,99,107,32]⟩:ByteArray)++Txt.a0x i).data.toList=b4n.data.toList++32 :: (Txt.a0x i).data.toList:=by
 simp only[Txt.a1X]
 rfl
theorem e7d(raw:ByteArray)(st:Value)(ss:List Int)(w:World)(he:Env w)(hst:IV w st ss)(hm:raw.size<=9223372036854775807):
  Calls Tryz.prog 12 #[.string raw,st] w fun e w'=>e=.returned (.bool true)/\Below w.heap.size w w':=by
 obtain⟨sav,sacap,rfl⟩:=hst.form
 have HT:=a0b hst
 have h10:=he.size
 have BG:=a0b (c1y w he 1 9 ⟨by omega,by omega⟩ ⟨by omega,by omega⟩)
 clear he hst
 go_enter Tryz.func12,Tryz.ntmps12
 go_upto_region 4 with (first
  |(go_at_call 17;refine BG.out.mono ?_;rintro e w2 ⟨p,dk,r,col,rfl,D2⟩;have HC:=a0b (CN.of (CX.of D2));clear D2 BG))
 go_upto_region 5 with fail
 change Code.wp _ _ _ _ (w2.alloc (a8o raw 0))
 have pF:=HC.out.cx.pl
 have xF:=HC.out.cx.bl.size
 replace HC:=a0b (HC.out.alloc (a8o raw 0))
 generalize w2.alloc (a8o raw 0)=V at HC ⊢
 generalize w2.heap.size=F at *
 have pne:p≠F:=by omega
 go_upto_region 7 with (first
  |(go_at_call 25;refine (CN.next HC.out h10 xF pne (by simp) (Nat.zero_le _) hm 8 (by omega) (by omega)).mono ?_;rintro e w3 ⟨v7,fb,rfl,p0,p1,hfb,hc⟩;replace HC:=a0b hc;clear hc;have kl:IntKind.i64.wrap (1+v7)=1+v7:=a0G (by omega) (by omega)))
 have n1:1<=1+v7:=by omega
 have n8:1+v7<=8:=by omega
 generalize 1+v7=n at n1 n8 ⊢
 clear kl p0 p1
 have C0:Hid (CN w w3 p dk (c8w [] 0) [(F,a8o raw fb)] [] [(.slice none 0 0,[])]):=by
  obtain⟨r,col,d,k,e,_⟩:=HC.out
  exact⟨r,col,d,k,e,fun q hq=>by rw[List.mem_singleton.1 hq];exact a2I.nil _ _ _⟩
 clear HC
 go_upto_region 8 with fail
 obtain⟨i0,hi0,hz0,hz1,hz2⟩:=info_parts b1S
 go_loopw [8,10,11,12,13,14] (fun vt vi _ _ _ _ wr=>∃ (T:List Int) (fa:Nat),(T.length:Int)<=n/\vi=.int .i64 (T.length:Int)/\(∀ k∈T,0<=k/\k<=100)/\fa<=raw.size/\(∀ b,vt.ownBlock=some b->F<b)/\CN w wr p dk (c8w T 0) [(F,a8o raw fa)] [] [(vt,T)]) (fun _ vi _ _ _ _ _=>(n-intOf vi).toNat)
 case atStart=>exact⟨[],fb,by simp;omega,rfl,by simp,hfb,fun b hb=>(by cases hb),C0.out⟩
 case round =>
  obtain⟨T,fa,hTn,rfl,hT,hfa,hvt,hcn⟩:=hrel
  have HC:=a0b hcn
  have HTT:=a0b hT
  have HVT:=a0b hvt
  clear hcn hT hvt C0
  have nF:Hid (∀ q∈[(u8,T)],∀ c,q.1.ownBlock=some c->c≠F):=fun q hq c hc=>by
   rw[List.mem_singleton.1 hq] at hc
   have:=HVT.out c hc
   omega
  by_cases hlt:(T.length:Int)<n
  ·have T7:(T.length:Int)<=7:=by omega
   go_upto_region 11 with (first
    |(go_at_call 25;refine (CN.next HC.out h10 xF pne nF.out hfa hm 100 (by omega) (by omega)).mono ?_;rintro e w4 ⟨v8,fc,rfl,p0,p1,hfc,hc⟩;replace HC:=a0b hc;clear hc hfa;have kl:IntKind.i64.wrap (1+v8)=1+v8:=a0G (by omega) (by omega)))
   have kk1:1<=1+v8:=by omega
   have kk2:1+v8<=100:=by omega
   generalize 1+v8=kk at kk1 kk2 ⊢
   clear kl p0 p1
   have HS:=a0b (e9G HC.out.cx.inv (fun k hk=>(HTT.out k hk).1) (by omega) kk1 (by omega:kk<=1000))
   have HR:Hid (Reads ((⟨#[104,111,108,100,32,98,32,49,32]⟩:ByteArray)++Txt.a0x (10*(T.length:Int))++(⟨#[32]⟩:ByteArray)++Txt.a0x (10*(T.length:Int)+5)++(⟨#[32]⟩:ByteArray)++Txt.a0x kk) (.iface 150 (.agg #[.string nmC,.int .i64 1,.int .i64 (10*(T.length:Int)),.int .i64 (10*(T.length:Int)+5),.int .i64 kk]))):=e7r c7j ⟨by omega,by omega⟩ ⟨by omega,by omega⟩ ⟨by omega,by omega⟩ ⟨kk1,by omega⟩ (e9F (T.length:Int) kk)
   have LO:Hid (Desk.a1O (.enter 2 nmC 1 (10*(T.length:Int)) (10*(T.length:Int)+5) kk)):=⟨.inr ⟨.inl rfl,kk1,by omega⟩,by omega,by omega,by omega,by omega,by omega,by omega⟩
   have m1:IntKind.i64.wrap (10*(T.length:Int))=10*(T.length:Int):=a0G (by omega) (by omega)
   have m2':IntKind.i64.wrap (10*(T.length:Int)+5)=10*(T.length:Int)+5:=a0G (by omega) (by omega)
   have m3':IntKind.i64.wrap ((T.length:Int)+1)=(T.length:Int)+1:=a0G (by omega) (by omega)
   have z1:=Txt.a0I (10*(T.length:Int)) (by omega) (by omega)
   have z2:=Txt.a0I (10*(T.length:Int)+5) (by omega) (by omega)
   have z3:=Txt.a0I kk (by omega) (by omega)
   have z4:=Txt.a0I ((T.length:Int)+1) (by omega) (by omega)
   go_upto_region 12 with (first
    |(go_at_call 21;refine (a6O _ _ HC.out.cx.env (by omega) (by omega)).mono ?_;rintro e wn ⟨rfl,hb⟩;replace HC:=a0b (HC.out.later hb);clear hb)
    |(go_at_call 20;refine (CN.line HC.out HR.out (LV.hold nmC (by decide) 1 (10*(T.length:Int)) (10*(T.length:Int)+5) kk) LO.out HS.out).mono ?_;rintro e w5 ⟨l9,a1,a2,a3,a4,m2,c1,c2,c3,c4,rfl,_,hc5,_⟩;dsimp only[Rep.num,List.length_nil];replace HC:=a0b hc5;clear hc5))
   change Code.wp _ _ _ _ (w5.alloc (a5w 0 0 ((T.length:Int)+1) (.slice a1 l9.length c1) (.slice a2 m2 c2) (.slice a3 0 c3) (.slice a4 0 c4)))
   replace HC:=a0b (HC.out.alloc (a5w 0 0 ((T.length:Int)+1) (.slice a1 l9.length c1) (.slice a2 m2 c2) (.slice a3 0 c3) (.slice a4 0 c4)))
   generalize w5.alloc (a5w 0 0 ((T.length:Int)+1) (.slice a1 l9.length c1) (.slice a2 m2 c2) (.slice a3 0 c3) (.slice a4 0 c4))=V5 at HC ⊢
   generalize w5.heap.size=yb at HC ⊢
   obtain⟨e0,_,e2,_⟩:=a2T (HC.out.cx.kb (List.mem_cons_self ..))
   have en:((T.length:Int)+1 != (T.length:Int)+1)=false:=by simp
   clear HS HR LO z1 z2 z3 m1 m2'
   go_upto_region 14 with fail
   replace HC:=a0b (HC.out.less (ks':=[(F,a8o raw fc)]) (es':=[]) (ns':=[(u8,T)]) (by simp) (by simp) (by simp))
   clear e0 e2
   go_upto_if 77 with (first
    |(go_at_call 25;refine (CN.next HC.out h10 xF pne nF.out hfc hm 4 (by omega) (by omega)).mono ?_;rintro e w6 ⟨v9,fd,rfl,p0,p1,hfd,hc⟩;replace HC:=a0b hc;clear hc hfc))
   go_cut [11,13,14] from 75 to 97 (fun v11 _ _ wx=>∃ kq:Int,v11=.int .i64 kq/\0<=kq/\kq<=100/\CN w wx p dk (c8w (T++[kq]) 0) [(F,a8o raw fd)] [] [(u8,T)])
   case first =>
    by_cases hv:v9=1
    ·subst hv
     have CS:=a0b (e2x (T:=T) (fun k hk=>(HTT.out k hk).1) kk1)
     have AS:=a0b (e7P (T:=T) (fun k hk=>(HTT.out k hk).1))
     have CR:Hid (Reads ((⟨#[99,111,110,102,105,114,109,32]⟩:ByteArray)++Txt.a0x ((T.length:Int)+1)) (.iface 161 (.agg #[.int .i64 ((T.length:Int)+1)]))):=e0N ⟨by omega,by omega⟩ (e2w ((T.length:Int)+1))
     have LO:Hid (Desk.a1O (.confirm ((T.length:Int)+1))):=⟨by omega,by omega⟩
     go_upto_region 16 with (first
      |(go_at_call 21;refine (a6O _ _ HC.out.cx.env (by omega) (by omega)).mono ?_;rintro e wn ⟨rfl,hb⟩;replace HC:=a0b (HC.out.later hb);clear hb)
      |(go_at_call 20;refine (CN.line HC.out CR.out (LV.confirm ((T.length:Int)+1)) LO.out CS.out).mono ?_;rintro e w7 ⟨l8,b1,b2,b3,b4,m3,d1,d2,d3,d4,rfl,_,hc7,_⟩;dsimp only[Rep.num,List.length_nil];replace HC:=a0b hc7;clear hc7))
     change Code.wp _ _ _ _ (w7.alloc (a5w 0 0 0 (.slice b1 l8.length d1) (.slice b2 m3 d2) (.slice b3 0 d3) (.slice b4 0 d4)))
     replace HC:=a0b (HC.out.alloc (a5w 0 0 0 (.slice b1 l8.length d1) (.slice b2 m3 d2) (.slice b3 0 d3) (.slice b4 0 d4)))
     generalize w7.alloc (a5w 0 0 0 (.slice b1 l8.length d1) (.slice b2 m3 d2) (.slice b3 0 d3) (.slice b4 0 d4))=V7 at HC ⊢
     generalize w7.heap.size=zb at HC ⊢
     go_upto_region 17 with (first
      |(go_at_call 21;refine (a6O _ _ HC.out.cx.env (by omega) (by omega)).mono ?_;rintro e wn ⟨rfl,hb⟩;replace HC:=a0b (HC.out.later hb);clear hb)
      |(go_at_call 20;refine (CN.line HC.out CR.out (LV.confirm ((T.length:Int)+1)) LO.out AS.out).mono ?_;rintro e w8 ⟨l7,f1,f2,f3,f4,m4,g1,g2,g3,g4,rfl,_,hc8,_⟩;dsimp only[Rep.error,List.length_nil];replace HC:=a0b hc8;clear hc8))
     change Code.wp _ _ _ _ (w8.alloc (a5w 10 0 0 (.slice f1 l7.length g1) (.slice f2 m4 g2) (.slice f3 0 g3) (.slice f4 0 g4)))
     replace HC:=a0b (HC.out.alloc (a5w 10 0 0 (.slice f1 l7.length g1) (.slice f2 m4 g2) (.slice f3 0 g3) (.slice f4 0 g4)))
     generalize w8.alloc (a5w 10 0 0 (.slice f1 l7.length g1) (.slice f2 m4 g2) (.slice f3 0 g3) (.slice f4 0 g4))=V8 at HC ⊢
     generalize w8.heap.size=ab at HC ⊢
     obtain⟨e0,_⟩:=a2T (HC.out.cx.kb (List.mem_cons_self ..))
     obtain⟨e1,_⟩:=a2T (HC.out.cx.kb (b:=zb) (List.mem_cons_of_mem _ (List.mem_cons_self ..)))
     have HF:=a0b (HC.out.less (ks':=[(F,a8o raw fd)]) (es':=[]) (ns':=[(u8,T)]) (by simp) (by simp) (by simp))
     clear HC CS AS CR LO
     go_wp2_with fail
     go_meet
     exact⟨0,rfl,by omega,by omega,HF.out⟩
    ·have hv':(v9==1)=false:=by simpa using hv
     go_wp2_with fail
     go_meet
     exact⟨kk,rfl,by omega,by omega,HC.out⟩
   case rest =>
    obtain⟨kq,rfl,q0,q1,hcx⟩:=hcut
    replace HC:=a0b hcx
    clear hcx p0 p1 kk1 kk2 z4
    have ER:=a0b (HC.out.nrow (List.mem_cons_self ..))
    have FW:=(Array.getElem?_eq_some_iff.1 (HC.out.cx.kb (List.mem_cons_self ..))).1
    go_upto_region 9 with (first
     |(at_builtin;go_loud (refine d4R _ rfl _ _ 38 rfl 0 3 i0 _ 1 8 Tryz.underlying38 hi0 hz0 hz1 hz2 rfl (by decide) _ _ _ rfl (ER.out.alloc _) ⟨wc.heap.size,0,none⟩ 1 [.int .i64 kq] rfl rfl (World.news_of_block (cs:=#[.int .i64 kq]) (a0p wc _)) (by simp[Value.oneCell']) (by unfold maxLen;omega) (by omega) (Nat.zero_le _) ?_);intro g2 cap2 w9 hown hgrow hat))
    have ko:Off u8.ownBlock.toList wc w9:=Off.grown ((Off.refl _ wc).alloc _) hgrow (fun k hk=>.inl (Option.mem_toList.2 hk))
    have hat':u8.ownBlock=some g2\/(wc.heap.size<=g2/\Below wc.heap.size wc w9):=by
     rcases hat with e|⟨e,hg⟩
     ·exact .inl e
     ·exact .inr ⟨by rw[e];simp,(((Below.refl wc.heap.size wc).alloc (Nat.le_refl _) _).grown hg (by simp) (fun k e=>by cases e))⟩
    have HG:=a0b (CN.grown HC.out h10 (N:=F+1) (by omega) (by omega) (by simp) (fun b hb=>HVT.out b hb) (Below.refl _ _) ko hown hat')
    have hg2:F<g2:=by
     rcases hat' with e|⟨e,_⟩
     ·exact HVT.out g2 e
     ·omega
    have HB2:Hid (∀ b,(Value.slice (some ⟨g2,0,none⟩) (T.length+1) cap2).ownBlock=some b->F<b):=fun b hb=>by
     have:g2=b:=by simpa[Value.ownBlock] using hb
     omega
    have HT2:Hid (∀ k∈T++[kq],0<=k/\k<=100):=fun k hk=>by
     rcases List.mem_append.1 hk with hk|hk
     ·exact HTT.out k hk
     ·rw[List.mem_singleton.1 hk];exact⟨q0,q1⟩
    clear hown hgrow hat hat' ko ER HC
    go_wp2_with fail
    go_roundw
    case rel=>exact⟨T++[kq],fd,by rw[List.length_append];simp;omega,by rw[List.length_append];go_num,HT2.out,hfd,HB2.out,HG.out⟩
    case measure=>simp[intOf];omega
  ·have hlt':¬ (T.length:Int)<n:=hlt
   have T8:T.length<=8:=by omega
   replace HC:=a0b (HC.out.less (ks':=[]) (es':=[]) (ns':=[(u8,T)]) (by simp) (by simp) (by simp))
   clear nF HVT
   obtain⟨gt,ct,rfl,_⟩:=HC.out.cellN (List.mem_cons_self ..) 0 (by omega)
   have TC:Hid (∀ (W':World) (s':St) (ks:List (Nat × Obj)) (es:List (Value × List (Ent × Value))) (ns:List (Value × List Int)),CN w W' p dk s' ks es ns->(Value.slice (some ⟨gt,0,none⟩) T.length ct,T)∈ns->∀ (j:Nat) (h:j<T.length),W'.cell? ⟨gt,j,none⟩=some (.int .i64 T[j])):=fun W' s' ks es ns hc hin j h=>by
    obtain⟨g',c',e',z⟩:=hc.cellN hin j h
    simp only[Value.slice.injEq,Option.some.injEq,Addr.mk.injEq,and_true] at e'
    obtain⟨rfl,_⟩:=e'
    exact z
   have HT0:Hid (∀ x∈T,0<=x):=fun x hx=>(HTT.out x hx).1
   obtain⟨wo,rfl⟩:∃ wo:World,wo=wr:=⟨_,rfl⟩
   go_upto_region 23 with fail
   go_loopw [15,16,17,18,19,20,21,22,23,24,25,26,27] (fun vn vi _ _ _ _ _ _ _ _ _ _ _ wr=>∃ (i:Nat) (now:Int),i<=ss.length/\i<=10/\vi=.int .i64 i/\vn=.int .i64 now/\0<=now/\now<=30*(i:Int)/\CN w wr p dk (c8w T now) [] [] [(.slice (some ⟨gt,0,none⟩) T.length ct,T)]) (fun _ vi _ _ _ _ _ _ _ _ _ _ _ _=>10-(intOf vi).toNat)
   case atStart=>exact⟨0,0,Nat.zero_le _,by omega,rfl,rfl,by omega,by omega,HC.out⟩
   case round =>
    obtain⟨i,now,hi,hi10,rfl,rfl,n0,nh,hcn⟩:=hrel
    replace HC:=a0b hcn
    clear hcn
    by_cases hil:i<ss.length/\i<10
    ·obtain⟨hl1,hl2⟩:=hil
     have hl1':(i:Int)<(ss.length:Int):=by omega
     have hl2':(i:Int)<10:=by omega
     obtain⟨wo2,rfl⟩:∃ wo2:World,wo2=wr:=⟨_,rfl⟩
     obtain⟨b,off,cap',e,c0⟩:=HT.out.cell i hl1
     simp only[Value.slice.injEq,true_and] at e
     obtain⟨rfl,rfl⟩:=e
     have c1:=(World.cell?_of_block (w:=w) (HC.out.cx.bl.block b (World.block_lt_of_cell? _ _ c0))).trans c0
     obtain⟨v1,v2⟩:=HT.out.bd ss[i] (List.getElem_mem hl1)
     obtain⟨y1,y2⟩:=a6G (c:=ss[i]) (n:=30) (by omega)
     have PI:=a0b (fun W'=>b9M ss[i] 30 W' v1 v2 (by omega) (by omega))
     clear c0
     generalize ss[i]=sv at c1 y1 y2 PI
     generalize a2s sv 30=pv at y1 y2 PI
     have kl:IntKind.i64.wrap (1+pv)=1+pv:=a0G (by omega) (by omega)
     go_upto_region 26 with (first
      |(go_at_call 29;refine (PI.out _).mono ?_;rintro e w3' ⟨rfl,rfl⟩))
     have kk1:1<=1+pv:=by omega
     have kk2:1+pv<=30:=by omega
     generalize 1+pv=kk at kk1 kk2 ⊢
     clear kl y1 y2 PI c1
     have TS:=a0b (e8h HC.out.cx.inv HT0.out n0 kk1 (by omega))
     have TR:Hid (Reads ((⟨#[116,105,99,107,32]⟩:ByteArray)++Txt.a0x kk) (.iface 176 (.agg #[.int .i64 kk]))):=e6A ⟨kk1,by omega⟩ (e8f kk)
     have LO:Hid (Desk.a1O (.tick kk)):=⟨kk1,by omega⟩
     have z1:=Txt.a0I kk (by omega) (by omega)
     have k1:IntKind.i64.wrap (now+1)=now+1:=a0G (by omega) (by omega)
     have k2:IntKind.i64.wrap (now+kk)=now+kk:=a0G (by omega) (by omega)
     go_upto_region 27 with (first
      |(go_at_call 21;refine (a6O _ _ HC.out.cx.env (by omega) (by omega)).mono ?_;rintro e wn ⟨rfl,hb⟩;replace HC:=a0b (HC.out.later hb);clear hb)
      |(go_at_call 20;refine (CN.line HC.out TR.out (LV.tick kk) LO.out TS.out).mono ?_;rintro e w5 ⟨l9,a1,a2,a3,a4,m2,c1,c2,c3,c4,rfl,_,hc5,_⟩;dsimp only[List.length_nil];replace HC:=a0b hc5;clear hc5))
     change Code.wp _ _ _ _ (w5.alloc (a5w 0 0 (now+kk) (.slice a1 l9.length c1) (.slice a2 m2 c2) (.slice a3 0 c3) (.slice a4 (c9t T kk.toNat now).length c4)))
     replace HC:=a0b (HC.out.alloc (a5w 0 0 (now+kk) (.slice a1 l9.length c1) (.slice a2 m2 c2) (.slice a3 0 c3) (.slice a4 (c9t T kk.toNat now).length c4)))
     generalize w5.alloc (a5w 0 0 (now+kk) (.slice a1 l9.length c1) (.slice a2 m2 c2) (.slice a3 0 c3) (.slice a4 (c9t T kk.toNat now).length c4))=V5 at HC ⊢
     generalize w5.heap.size=yb at HC ⊢
     clear TS TR LO z1
     go_upto_region 29 with fail
     go_loopw [19,20,21] (fun vw vt _ wr=>∃ m:Nat,(m:Int)<=kk/\vt=.int .i64 (now+1+(m:Int))/\wr.ownsRow V5.heap.size 3 1 vw (c9t T m now).length ((c9t T m now).map (Value.int .i64))/\Below V5.heap.size V5 wr) (fun _ vt _ _=>(now+kk+1-intOf vt).toNat)
     case atStart=>exact⟨0,by omega,by simp,by simpa[c9t] using World.ownsRow_nil _ _ _ _,Below.refl _ _⟩
     case round =>
      obtain⟨m,hm',rfl,hown,hbl⟩:=hrel
      by_cases hmk:(m:Int)<kk
      ·have hle:now+1+(m:Int)<=now+kk:=by omega
       have k3:IntKind.i64.wrap (now+1+(m:Int)+1)=now+1+((m+1:Nat):Int):=by rw[a0G (by omega) (by omega)];omega
       have hml:(c9t T m now).length<=240:=by
        have h1:=d7d T m now
        have h2:m*T.length<=30*8:=Nat.mul_le_mul (by omega) T8
        omega
       have OW0:=a0b hown
       have HB0:=a0b hbl
       clear hown hbl
       obtain⟨wo3,rfl⟩:∃ wo3:World,wo3=wr:=⟨_,rfl⟩
       go_upto_region 32 with fail
       go_loopw [19,21] (fun vw vj wq=>∃ j:Nat,j<=T.length/\vj=.int .i64 j/\wq.ownsRow V5.heap.size 3 1 vw (c9t T m now++c9S T (now+1+(m:Int)) j).length ((c9t T m now++c9S T (now+1+(m:Int)) j).map (Value.int .i64))/\Below V5.heap.size V5 wq) (fun _ vj _=>T.length-(intOf vj).toNat)
       case atStart=>exact⟨0,Nat.zero_le _,rfl,by rw[e2V,List.append_nil];exact OW0.out,HB0.out⟩
       case round =>
        clear OW0 HB0
        obtain⟨j,hj,rfl,hown,hbl⟩:=hrel
        by_cases hjl:j<T.length
        ·have hjl':(j:Int)<(T.length:Int):=by omega
         have k4:IntKind.i64.wrap ((j:Int)+1)=(j:Int)+1:=a0G (by omega) (by omega)
         have xt:=TC.out wr _ _ _ _ (HC.out.later hbl) (List.mem_cons_of_mem _ (List.mem_cons_of_mem _ (List.mem_cons_self ..))) j hjl
         have WT:=a0b (e7V (T:=T) (t:=now+1+(m:Int)) (by omega) hjl)
         have htl:(c9S T (now+1+(m:Int)) j).length<=8:=by
          have h1:=d8V (T.take j) (now+1+(m:Int))
          rw[List.length_take] at h1
          show (d3c (T.take j) _).length<=8
          omega
         have hll:(c9t T m now++c9S T (now+1+(m:Int)) j).length<=300:=by rw[List.length_append];omega
         have hsz:V5.heap.size<=wr.heap.size:=hbl.size
         have OW:=a0b hown
         have HB:=a0b hbl
         clear hown hbl htl
         by_cases hjt:T[j]=now+1+(m:Int)
         ·have hjb:(T[j]==now+1+(m:Int))=true:=by simpa using hjt
          have WT2:Hid (c9S T (now+1+(m:Int)) (j+1)=c9S T (now+1+(m:Int)) j++[(j:Int)+1]):=by
           show _=_
           rw[WT.out,if_pos hjt]
          have LN:Hid (c9t T m now++c9S T (now+1+(m:Int)) (j+1)=(c9t T m now++c9S T (now+1+(m:Int)) j)++[(j:Int)+1]):=by
           show _=_
           rw[WT2.out,List.append_assoc]
          clear WT hjt WT2
          generalize c9t T m now++c9S T (now+1+(m:Int)) j=Lq at OW hll LN
          generalize T[j]=tj at xt hjb
          go_upto_region 33 with (first
           |(at_builtin;refine wpList_append_lies _ rfl _ _ 38 rfl V5.heap.size 3 i0 _ 1 8 Tryz.underlying38 hi0 hz0 hz1 hz2 rfl (by decide) _ _ _ rfl (OW.out.alloc _) ⟨wr.heap.size,0,none⟩ 1 1 [.int .i64 ((j:Int)+1)] rfl rfl (World.news_of_block (cs:=#[.int .i64 ((j:Int)+1)]) (a0p wr _)) (by simp[Value.oneCell']) (by omega) (by unfold maxLen;omega) (by omega) (by simp;omega) (wr.heap.size+1) (by simp) ?_;intro g2 cap2 w9 hown hgrow hat hlt2))
          have ko:Off u19.ownBlock.toList wr w9:=Off.grown ((Off.refl _ wr).alloc _) hgrow (fun k hk=>.inl (Option.mem_toList.2 hk))
          have HNx:Hid (w9.ownsRow V5.heap.size 3 1 (.slice (some ⟨g2,0,none⟩) (Lq.length+1) cap2) (c9t T m now++c9S T (now+1+(m:Int)) (j+1)).length ((c9t T m now++c9S T (now+1+(m:Int)) (j+1)).map (Value.int .i64))/\Below V5.heap.size V5 w9):=by
           have h2:=HB.out
           refine⟨?_,⟨ko.os.trans h2.os,ko.tape.trans h2.tape,ko.output.trans h2.output,Nat.le_trans h2.size ko.size,fun b hb=>(ko.block b (Nat.lt_of_lt_of_le hb h2.size) (fun hx=>by have:=(OW.out.lt b (Option.mem_toList.1 hx)).1;omega)).trans (h2.block b hb)⟩⟩
           rw[LN.out,List.map_append]
           have el:(Lq++[(j:Int)+1]).length=Lq.length+1:=by rw[List.length_append];rfl
           rw[el]
           exact hown
          clear hown hgrow hat ko OW HB
          go_wp2_with fail
          go_roundw
          case rel=>exact⟨j+1,by omega,by go_num,HNx.out⟩
          case measure=>simp[intOf];omega
         ·have hjb:(T[j]==now+1+(m:Int))=false:=by simpa using hjt
          have WT2:Hid (c9S T (now+1+(m:Int)) (j+1)=c9S T (now+1+(m:Int)) j):=by
           show _=_
           rw[WT.out,if_neg hjt]
          clear WT hjt
          generalize T[j]=tj at xt hjb
          go_wp2_with fail
          go_roundw
          case rel=>exact⟨j+1,by omega,by go_num,by rw[WT2.out];exact OW.out,HB.out⟩
          case measure=>simp[intOf];omega
        ·have hjl':¬ (j:Int)<(T.length:Int):=by omega
         have hje:j=T.length:=by omega
         have HNx:Hid (wr.ownsRow V5.heap.size 3 1 u19 (c9t T (m+1) now).length ((c9t T (m+1) now).map (Value.int .i64))/\Below V5.heap.size V5 wr):=by
          refine⟨?_,hbl⟩
          rw[hje] at hown
          have e:c9S T (now+1+(m:Int)) T.length=d3c T (now+((m:Int)+1)):=by
           unfold c9S
           rw[List.take_length,show now+1+(m:Int)=now+((m:Int)+1) from by omega]
          rw[e,<- e1e] at hown
          exact hown
         clear hown hbl hje
         go_wp2_with fail
         go_roundw
         case rel=>exact⟨m+1,by omega,by go_num,HNx.out⟩
         case measure=>simp[intOf];omega
      ·have hle:¬ now+1+(m:Int)<=now+kk:=by omega
       have hme:m=kk.toNat:=by omega
       subst hme
       replace HC:=a0b (CN.addRow HC.out hbl hown)
       clear hown hbl
       have nwp:1<=now+kk:=by omega
       have nwh:now+kk<=30*((i:Int)+1):=by omega
       have hml:(c9t T kk.toNat now).length<=240:=by
        have h1:=d7d T kk.toNat now
        have h2:kk.toNat*T.length<=30*8:=Nat.mul_le_mul (by omega) T8
        omega
       go_upto_region 37 with fail
       clear k1 k2 hle hm' kk1 kk2 nh n0
       generalize now+kk=nw at nwp nwh HC ⊢
       have CS:=a0b (e7G HC.out.cx.inv)
       have CR:=a0b e4h
       go_upto_region 38 with (first
        |(go_at_call 20;refine (CN.line HC.out CR.out LV.clock trivial CS.out).mono ?_;rintro e w6 ⟨l8,b1,b2,b3,b4,m3,d1,d2,d3,d4,rfl,_,hc6,_⟩;dsimp only[Rep.num,List.length_nil];replace HC:=a0b hc6;clear hc6))
       change Code.wp _ _ _ _ (w6.alloc (a5w 0 0 nw (.slice b1 l8.length d1) (.slice b2 m3 d2) (.slice b3 0 d3) (.slice b4 0 d4)))
       replace HC:=a0b (HC.out.alloc (a5w 0 0 nw (.slice b1 l8.length d1) (.slice b2 m3 d2) (.slice b3 0 d3) (.slice b4 0 d4)))
       generalize w6.alloc (a5w 0 0 nw (.slice b1 l8.length d1) (.slice b2 m3 d2) (.slice b3 0 d3) (.slice b4 0 d4))=V6 at HC ⊢
       generalize w6.heap.size=cb at HC ⊢
       clear CS CR
       obtain⟨_,_,e2,_⟩:=a2T (HC.out.cx.kb (List.mem_cons_self ..))
       obtain⟨y0,_,y2,_,_,_,y6⟩:=a2T (HC.out.cx.kb (b:=yb) (List.mem_cons_of_mem _ (List.mem_cons_self ..)))
       have SI:=a0b (f1K (c9t T kk.toNat now) (c9t T kk.toNat now) (.slice a4 (c9t T kk.toNat now).length c4) u19 0 0 V6 (HC.out.nrow (by simp)) (HC.out.nrow (by simp)) (by omega))
       rw[show decide (c9t T kk.toNat now=c9t T kk.toNat now)=true from by simp] at SI
       have KC:Hid (∀ W',Below V6.heap.size V6 W'->W'.cell? ⟨cb,2,none⟩=some (.int .i64 nw)/\W'.cell? ⟨yb,0,none⟩=some (.int .i64 0)/\W'.cell? ⟨yb,2,none⟩=some (.int .i64 nw)):=fun W' k=>⟨a0a k e2,a0a k y0,a0a k y2⟩
       clear e2 y0 y2
       go_upto_region 39 with (first
        |(go_at_call 34;refine SI.out.mono ?_;rintro e w7 ⟨rfl,hb7⟩;obtain⟨e2,y0,y2⟩:=KC.out _ hb7;replace HC:=a0b (HC.out.later hb7);clear hb7 SI KC y6))
       have en:(nw != nw)=false:=by simp
       go_upto_region 41 with fail
       clear e2 y0 y2
       have UB:Hid (a0h (⟨#[98]⟩:ByteArray) (c8w T nw).ts≠0):=by
        have e:a0h (⟨#[98]⟩:ByteArray) (c8w T nw).ts=9:=e4o
        show _≠_
        rw[e];omega
       go_upto_region 45 with (first
        |(go_at_call 19;refine (CN.entries HC.out (⟨#[98]⟩:ByteArray) c7j UB.out).mono ?_;rintro e w8 ⟨ll,ya,ca,rfl,hea,hc8⟩;have HE:=a0b hea;replace HC:=a0b hc8;clear hc8 hea))
       have HI:=a0b HC.out.cx.inv
       have KN:Hid (∀ (j:Nat) (h:j<T.length),d3M (ll.map (·.1)) ((j:Int)+1)=if T[j]=0 then 1 else if nw<T[j] then 2 else 0):=fun j h=>by
        rw[HE.out];exact e9E HI.out HT0.out (by omega) h
       have ln:ll.length<=60:=by
        have:=Desk.c2P HI.out (⟨#[98]⟩:ByteArray)
        rw[<- HE.out,List.length_map] at this
        exact this
       obtain⟨ES,NS,ke,kn,hcn⟩:∃ (ES:List (Value × List (Ent × Value))) (NS:List (Value × List Int)),(Value.slice ya ll.length ca,ll)∈ES/\(Value.slice (some ⟨gt,0,none⟩) T.length ct,T)∈NS/\CN w w8 p dk (c8w T nw) [] ES NS:=⟨_,_,List.mem_cons_self ..,by simp,HC.out.less (by simp) (fun q hq=>hq) (fun q hq=>hq)⟩
       replace HC:=a0b hcn
       have KE:=a0b ke
       have KT:=a0b kn
       clear hcn ke kn UB HE HI
       go_loopw [26,27] (fun vj _ wr=>∃ j:Nat,j<=T.length/\vj=.int .i64 j/\CN w wr p dk (c8w T nw) [] ES NS) (fun vj _ _=>T.length-(intOf vj).toNat)
       case atStart=>exact⟨0,Nat.zero_le _,rfl,HC.out⟩
       case round =>
        obtain⟨j,hj,rfl,hcn⟩:=hrel
        replace HC:=a0b hcn
        clear hcn
        by_cases hjl:j<T.length
        ·have hjl':(j:Int)<(T.length:Int):=by omega
         have k4:IntKind.i64.wrap ((j:Int)+1)=(j:Int)+1:=a0G (by omega) (by omega)
         have KK:=a0b (e1b wr (.slice ya ll.length ca) ll (HC.out.cx.ev KE.out) (by omega) ((j:Int)+1))
         rw[KN.out j hjl] at KK
         have XT:Hid (∀ W',Below wr.heap.size wr W'->W'.cell? ⟨gt,j,none⟩=some (.int .i64 T[j])):=fun W' k=>TC.out W' _ _ _ _ (HC.out.later k) KT.out j hjl
         have h0:=HT0.out T[j] (List.getElem_mem hjl)
         generalize T[j]=x at KK XT h0
         go_upto_region 48 with (first
          |(go_at_call 36;refine KK.out.mono ?_;rintro e w9 ⟨rfl,hb9⟩;have xt:=XT.out _ hb9;replace HC:=a0b (HC.out.later hb9);clear hb9 KK XT))
         by_cases hx:x=0
         ·subst hx
          rw[if_pos rfl]
          have d1:decide (nw<0)=false:=by simp;omega
          go_wp2_with fail
          go_roundw
          case rel=>exact⟨j+1,by omega,by go_num,HC.out⟩
          case measure=>simp[intOf];omega
         ·have hx':(x==0)=false:=by simpa using hx
          have d2:decide (0<x)=true:=by simp;omega
          rw[if_neg hx]
          by_cases hn:nw<x
          ·rw[if_pos hn]
           have d1:decide (nw<x)=true:=by simpa using hn
           have d3:decide (x<=nw)=false:=by simp;omega
           clear hn hx
           go_wp2_with fail
           go_roundw
           case rel=>exact⟨j+1,by omega,by go_num,HC.out⟩
           case measure=>simp[intOf];omega
          ·rw[if_neg hn]
           have d1:decide (nw<x)=false:=by simpa using hn
           have d3:decide (x<=nw)=true:=by simp;omega
           clear hn hx
           go_wp2_with fail
           go_roundw
           case rel=>exact⟨j+1,by omega,by go_num,HC.out⟩
           case measure=>simp[intOf];omega
        ·have hjl':¬ (j:Int)<(T.length:Int):=by omega
         have HF:=a0b (HC.out.less (ks':=[]) (es':=[]) (ns':=[(.slice (some ⟨gt,0,none⟩) T.length ct,T)]) (by simp) (by simp) (fun q hq=>by rw[List.mem_singleton.1 hq];exact KT.out))
         clear HC
         go_wp2_with fail
         go_roundw
         case rel=>exact⟨i+1,nw,by omega,by omega,by go_num,rfl,by omega,by omega,HF.out⟩
         case measure=>simp[intOf];omega
    ·have HF:Hid (Below w.heap.size w wr):=HC.out.cx.bl
     clear HC
     by_cases h1:i<ss.length
     ·have h1':(i:Int)<(ss.length:Int):=by omega
      have h2':¬ (i:Int)<10:=by omega
      clear hil
      go_wp2_with fail
      go_ret
      exact⟨rfl,HF.out⟩
     ·have h1':¬ (i:Int)<(ss.length:Int):=by omega
      clear hil
      go_wp2_with fail
      go_ret
      exact⟨rfl,HF.out⟩
end Go.Proofs.YtjfkfiffakbagaaGreatDoor
namespace Go.Proofs.YtjfkfiffakbagaaGreatDoor.Laid
def val:DataW Unit->Value
 |.lit (.int k n)=>.int k n
 |.lit (.string b)=>.string ⟨b.toArray⟩
 |_=>.bool false
def row:DataW Unit->List Value
 |.agg l=>l.map val
 |_=>[]
def rows:DataW Unit->List Value
 |.agg l=>l.flatMap row
 |_=>[]
def text:DataW Unit->Value
 |.iface _ (.ptr (.agg [d]))=>val d
 |_=>.bool false
def put(l:List Value):Obj->Obj
 |.cells _ t frozen=>.cells l.toArray t frozen
 |o=>o
def c6N(w:World):World :=
 { w with heap:=(((((((((w.heap.modify 0 (put (row Rows.laid_bookings_calendar_monthDays))).modify 1 (put (row Rows.laid_internal_strconv_uint64pow10))).modify 5 (put [.iface 365 (.pointer (some ⟨w.heap.size,0,none⟩))])).modify 6 (put [.iface 365 (.pointer (some ⟨w.heap.size+1,0,none⟩))])).modify 2 (put (row Rows.laid_bookings_lines_weekdays))).modify 3 (put (row Rows.laid_math_bits_deBruijn32tab))).modify 4 (put (row Rows.laid_math_bits_deBruijn64tab))).modify 8 (put (row Rows.laid_unicode_utf8_first))).modify 9 (put (rows Rows.laid_unicode_utf8_acceptRanges))).push (.cells #[text Rows.laid_strconv_ErrSyntax] 367) |>.push (.cells #[text Rows.laid_strconv_ErrRange] 367) }
theorem met(os:Os):laidMet Tryz.prog Rows.datesRow.laid ((c6N (World.holding Tryz.prog os ⟨#[],#[],[]⟩)).forCall (fun _ _=>0) ⟨#[],#[.slice none 0 0],[]⟩).memory :=
 laidMet_of_run' 8 (by kernel_rfl) (by kernel_rfl)
end Go.Proofs.YtjfkfiffakbagaaGreatDoor.Laid
namespace Go.Proofs.YtjfkfiffakbagaaGreatDoor.datesLaw
open Go.ChangeShapes Go.WideShapes Go.ChangeAt Go.RowKit
theorem own:ownKnob Tryz.prog.godebug=none:=by kernel_rfl
theorem c5b:laidOutB Tryz.prog=true:=by kernel_rfl
def b9r:String:=Rows.datesRow.named.getD 0 Rows.datesRow.func
theorem b8y:Tryz.prog.globalNamed b9r=some 0:=by kernel_rfl
theorem c3e:(Tryz.prog.globals[0]?).map (·.type)=some 199:=by kernel_rfl
theorem c3A:Tryz.prog.cellsOf 199=12:=by kernel_rfl
theorem c3D:Tryz.prog.cellsOf 3=1:=by kernel_rfl
theorem b7n:Tryz.prog.cellsOf 9=1:=by kernel_rfl
theorem table{W:World}(h:laidMetH Tryz.prog Rows.datesRow.laid W):Lib.TabIs Tryz.prog W b9r .i64 [31,28,31,30,31,30,31,31,30,31,30,31] :=
 Lib.tabIs_of_head b8y c3e Tryz.underlying199 Tryz.underlying3 c3D c3A h
theorem tab{W:World}(h:laidMetH Tryz.prog Rows.datesRow.laid W):Tab W :=
 ⟨(table h).cell b8y 0 (by decide),(table h).cell b8y 1 (by decide),(table h).cell b8y 2 (by decide),(table h).cell b8y 3 (by decide),(table h).cell b8y 4 (by decide),(table h).cell b8y 5 (by decide),(table h).cell b8y 6 (by decide),(table h).cell b8y 7 (by decide),(table h).cell b8y 8 (by decide),(table h).cell b8y 9 (by decide),(table h).cell b8y 10 (by decide),(table h).cell b8y 11 (by decide)⟩
end Go.Proofs.YtjfkfiffakbagaaGreatDoor.datesLaw
namespace Go.Proofs.YtjfkfiffakbagaaGreatDoor.EnvLaid
open Go.ChangeShapes Go.WideShapes Go.ChangeAt Go.RowKit
theorem b2G{P:Program}{W:World}{name:String}{k:IntKind}{zs:List Int}{g:Nat}{t e:TypeId}{n:Nat}
  (hg:P.globalNamed name=some g) (hty:(P.globals[g]?).map (·.type)=some t) (ht:P.underlying t=some (.array n e)) (he:P.underlying e=some (.int k)) (hce:P.cellsOf e=1) (hct:P.cellsOf t=n)
  (h:Lib.VarReads P W name (Lib.tabData k zs)):Lib.TabIs P W name k zs:=by
 obtain⟨g',t',cs,fuel,p,hg',ht',hvar,hd⟩:=h
 obtain rfl:=Option.some.inj (hg.symm.trans hg')
 obtain rfl:=Option.some.inj (hty.symm.trans ht')
 unfold Lib.TabIs
 rw[hvar,<- Lib.cells_of_tab ht he hce hct hd]
theorem b9t{P:Program}{W:World}{name:String}{zs:List (List UInt8)}{g:Nat}{t e:TypeId}{n:Nat}
  (hg:P.globalNamed name=some g) (hty:(P.globals[g]?).map (·.type)=some t) (ht:P.underlying t=some (.array n e)) (he:P.underlying e=some .string) (hce:P.cellsOf e=1)
  (h:Lib.VarReads P W name (.agg (zs.map fun z=>.lit (.string z)))) (i:Nat) (z:List UInt8) (hz:zs[i]?=some z):W.cell? ⟨g,i,none⟩=some (.string ⟨z.toArray⟩):=by
 obtain⟨g',t',cs,fuel,p,hg',ht',hvar,hd⟩:=h
 obtain rfl:=Option.some.inj (hg.symm.trans hg')
 obtain rfl:=Option.some.inj (hty.symm.trans ht')
 obtain⟨xs,m,_,hx,_,hxl,hall⟩:=DataW.trod_array ht hd
 have hx1:zs.map (fun z=>(DataW.lit (.string z):DataW Unit))=xs.map (·.1):=by
  have:=congrArg Prod.fst hx
  simpa using this
 have hlen:zs.length=xs.length:=by
  have:=congrArg List.length hx1
  simpa using this
 have hi:i<zs.length:=(List.getElem?_eq_some_iff.1 hz).1
 have hxi:xs[i]?=some xs[i]:=List.getElem?_eq_getElem (by omega)
 have hti:=hall i (by omega)
 rw[hxi,hce] at hti
 obtain⟨s,hs1,hs2,_⟩:=DataW.trod_string he hti
 have h1:(xs.map (·.1))[i]?=some (DataW.lit (.string z):DataW Unit):=by rw[<- hx1];simp[hz]
 have h2:(xs.map (·.1))[i]?=some (DataW.lit (.string s.data.toList):DataW Unit):=by simp[hxi,hs2]
 have h3:z=s.data.toList:=by
  have:=h1.symm.trans h2
  simpa using this
 have h4:cs[i]?=some (.string s):=by
  have:=congrArg (·[0]?) hs1
  simpa[List.getElem?_take,List.getElem?_drop] using this
 rw[World.var?_cell hg hvar i,h4,h3]
theorem c3f:(Tryz.prog.globals[1]?).map (·.type)=some 299:=by kernel_rfl
theorem c3B:Tryz.prog.cellsOf 299=20:=by kernel_rfl
theorem c3z:Tryz.prog.cellsOf 252=1:=by kernel_rfl
theorem c6X : Tryz.prog.globalNamed "bookings/lines.weekdays" = some 2 := by kernel_rfl
theorem c0J:(Tryz.prog.globals[2]?).map (·.type)=some 345:=by kernel_rfl
theorem b8z : Tryz.prog.globalNamed "bookings/calendar.monthDays" = some 0 := by kernel_rfl
theorem c3g:(Tryz.prog.globals[0]?).map (·.type)=some 199:=by kernel_rfl
theorem c3C:Tryz.prog.cellsOf 199=12:=by kernel_rfl
theorem c6I:Tryz.prog.cellsOf 3=1:=by kernel_rfl
theorem b7n:Tryz.prog.cellsOf 9=1:=by kernel_rfl
theorem c6Y {W : World} {l : List (String × DataW Unit)} (hM : laidMet Tryz.prog l W) (hS : W.ShapedOpen Tryz.prog) (m1 : ("bookings/calendar.monthDays", Rows.laid_bookings_calendar_monthDays) ∈ l) (m2 : ("internal/strconv.uint64pow10", Rows.laid_internal_strconv_uint64pow10) ∈ l) (m3 : ("bookings/lines.weekdays", Rows.laid_bookings_lines_weekdays) ∈ l) : Env W := by
 have ht : Lib.VarReads Tryz.prog W "bookings/calendar.monthDays" (Lib.tabData .i64 [31, 28, 31, 30, 31, 30, 31, 31, 30, 31, 30, 31]) := Lib.laidMet.reads hM (d := Rows.laid_bookings_calendar_monthDays) m1
 have hp : Lib.VarReads Tryz.prog W "internal/strconv.uint64pow10" (Lib.tabData .u64 Lib.pow10Tab) := Lib.laidMet.reads hM (d := Rows.laid_internal_strconv_uint64pow10) m2
 have hd : Lib.VarReads Tryz.prog W "bookings/lines.weekdays" (.agg ([[109, 111], [116, 117], [119, 101], [116, 104], [102, 114], [115, 97], [115, 117]].map fun z => .lit (.string z))) := Lib.laidMet.reads hM (d := Rows.laid_bookings_lines_weekdays) m3
 have day:=fun i z hz=>b9t c6X c0J Tryz.underlying345 Tryz.underlying9 b7n hd i z hz
 have tb:=b2G b8z c3g Tryz.underlying199 Tryz.underlying3 c6I c3C ht
 have hsz:10<=W.heap.size:=by
  have h0:(((begin Tryz.prog (fun _ _=>0) default).world.heap[9]?).bind Obj.row?).isSome=true:=by kernel_rfl
  obtain⟨⟨zero,t⟩,h1⟩:=Option.isSome_iff_exists.1 h0
  obtain⟨cs,hh,_⟩:=hS.1 9 zero t (of_decide_eq_true (by kernel_rfl)) h1
  exact (Array.getElem?_eq_some_iff.1 hh).1
 exact⟨⟨tb.cell b8z 0 (by decide),tb.cell b8z 1 (by decide),tb.cell b8z 2 (by decide),tb.cell b8z 3 (by decide),tb.cell b8z 4 (by decide),tb.cell b8z 5 (by decide),tb.cell b8z 6 (by decide),tb.cell b8z 7 (by decide),tb.cell b8z 8 (by decide),tb.cell b8z 9 (by decide),tb.cell b8z 10 (by decide),tb.cell b8z 11 (by decide)⟩,cell_of_shapedOpen_int (zero:=#[.int .i64 0]) (t:=3) hS (of_decide_eq_true (by kernel_rfl)) (by kernel_rfl) rfl (by kernel_rfl) (by kernel_rfl) Tryz.underlying3,
  b2G c6q c3f Tryz.underlying299 Tryz.underlying252 c3z c3B hp,hsz,
  day 0 _ rfl,day 1 _ rfl,day 2 _ rfl,day 3 _ rfl,day 4 _ rfl,day 5 _ rfl,day 6 _ rfl⟩
end Go.Proofs.YtjfkfiffakbagaaGreatDoor.EnvLaid
