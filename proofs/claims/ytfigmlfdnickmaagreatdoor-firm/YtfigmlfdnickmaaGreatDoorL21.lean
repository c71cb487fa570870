/-
  Parts of the proof, one behind the other.
-/
import Derived.Test.YtfigmlfdnickmaaGreatDoorL20
import Derived.Test.YtfigmlfdnickmaaGreatDoorRows
import Derived.Test.YtfigmlfdnickmaaGreatDoorCards
import Derived.Test.YtfigmlfdnickmaaGreatDoorTie
import Derived.WalkKit
import Derived.ProofKit
import Derived.Deep.DeepWitnessRowRef
import Derived.LaidLaws
import Derived.OpenShut
import Derived.Deep.Slices
import Derived.Deep.DeepHandedRow
import Derived.Lib.LaidTab
import Derived.Lib.LaidU8
import Derived.Shelf.Vars
set_option maxRecDepth 100000
set_option maxHeartbeats 8000000
variable{g n:Nat}{W:Go.World}
namespace Go.Proofs.YtfigmlfdnickmaaGreatDoor
open Go.RowKit
open Desk (Ent St Inv a0h a2x a1q Rep)
theorem e7R:(⟨#[116,105,99,107,32,49]⟩:ByteArray).data.toList=b4n.data.toList++32 :: (Txt.a0x 1).data.toList:=by decide +kernel
theorem e9I:(⟨#[98,111,111,107,32,97,32,49,32,49,48,48,32,50,48,48]⟩:ByteArray).data.toList=a9P.data.toList++32 :: ((⟨#[97]⟩:ByteArray).data.toList++32 :: ((Txt.a0x 1).data.toList++32 :: ((Txt.a0x 100).data.toList++32 :: (Txt.a0x 200).data.toList))):=by decide +kernel
theorem e1Y{s:St}(h:Inv s)(t:ByteArray){nm:ByteArray}(hu:a0h nm s.ts≠0):a0h nm (stepT s t).1.ts≠0:=by
 rw[(b4A h t).ts nm hu];exact hu
theorem e8g{s:St}{t:ByteArray}(h:(stepT s t).2.err≠0):(stepT s t).1=s:=by
 unfold stepT at h ⊢
 cases e:b9K t with
 |inl q=>rfl
 |inr l =>
  rw[e] at h;exact (Desk.b7R (s:=s) (l:=l) h).1
theorem f1H(b:Int)(raw:Value)(ss:List ByteArray)(w:World)(he:Env w)(hraw:TV w raw ss)(hb1:-9223372036854775808<=b)(hb2:b<=9223372036854775807):
  Calls Tryz.prog 12 #[.int .i64 b,raw] w fun e w'=>e=.returned (.bool true)/\Below w.heap.size w w':=by
 obtain⟨rav,racap,rfl⟩:=hraw.form;have PK:=a0b (b9M b 9 w hb1 hb2 (by omega) (by omega))
 obtain⟨y1,y2⟩:=a6G (c:=b) (n:=9) (by omega)
 have kl:IntKind.i64.wrap (1+a2s b 9)=1+a2s b 9:=a0G (by omega) (by omega)
 have B1:1<=1+a2s b 9:=by omega
 have B2:1+a2s b 9<=9:=by omega
 have HE:=a0b he;have HR:=a0b hraw;generalize a2s b 9=pv at *;clear y1 y2 he hraw hb1 hb2
 go_enter Tryz.func12,Tryz.ntmps12
 go_upto_region 2 with (first
  |(go_at_call 38;refine PK.out.mono ?_;rintro e w1 ⟨rfl,rfl⟩))
 generalize 1+pv=B at *;clear kl PK;change Code.wp _ _ _ _ (w1.alloc (a1T 1 B));have hX:Below w1.heap.size w1 (w1.alloc (a1T 1 B)):=(Below.refl w1.heap.size w1).alloc (Nat.le_refl _) _;have hro:=a0p w1 (a1T 1 B);have hrl:w1.heap.size<(w1.alloc (a1T 1 B)).heap.size:=by simp
 have HX:=a0b hX;have h10:=Nat.le_trans HE.out.size hX.size
 have RO:Hid (∀ W',Below (w1.alloc (a1T 1 B)).heap.size (w1.alloc (a1T 1 B)) W'->W'.cell? ⟨w1.heap.size,0,none⟩=some (.int .i64 1)/\W'.cell? ⟨w1.heap.size,1,none⟩=some (.int .i64 B)):=fun W' k=>by
  have h:=(k.block w1.heap.size hrl).trans hro;unfold a1T at h;obtain⟨x,y,_⟩:=b0q h;exact⟨x,y⟩
 have HC:Hid (CM (w1.alloc (a1T 1 B)) (w1.alloc (a1T 1 B)) [] [] [] []):=CM.start (HE.out.later hX);have HT:=a0b (HR.out.below hX);clear hX hro hrl HR HE;generalize w1.alloc (a1T 1 B)=X at *;generalize hRb:w1.heap.size=Rb at RO ⊢;have HRb:=a0b hRb;clear hRb;obtain⟨ra,rb⟩:=RO.out X (Below.refl _ _)
 go_upto_region 3 with (first
  |(go_at_call 18;refine (HC.out.begin 1 B ⟨by omega,by omega⟩ ⟨B1,B2⟩).mono ?_;rintro e w2 ⟨p1,k1,rfl,g1,g2,hc⟩;replace HC:=a0b hc;clear hc ra rb))
 obtain⟨ra,rb⟩:=RO.out w2 HC.out.bl
 go_upto_region 6 with (first
  |(go_at_call 18;refine (HC.out.begin 1 B ⟨by omega,by omega⟩ ⟨B1,B2⟩).mono ?_;rintro e w3 ⟨p2,k2,rfl,g3,g4,hc⟩;replace HC:=a0b hc;clear hc ra rb))
 replace HC:Hid (CM X w3 [(p1,k1,a3Z 1 B),(p2,k2,a3Z 1 B)] [] [] []):=HC.out;have FB:=a0b (f1V (HC.out.inv (i:=0) rfl));have BR:Hid (Reads (⟨#[98,111,111,107,32,97,32,49,32,49,48,48,32,50,48,48]⟩:ByteArray) (.iface 154 (.agg #[.string ⟨#[97]⟩,.int .i64 1,.int .i64 100,.int .i64 200]))):=b8N c7k ⟨by omega,by omega⟩ ⟨by omega,by omega⟩ ⟨by omega,by omega⟩ e9I
 have TR:Hid (Reads (⟨#[116,105,99,107,32,49]⟩:ByteArray) (.iface 182 (.agg #[.int .i64 1]))):=e6A ⟨by omega,by omega⟩ e7R
 have FT:=a0b (f1T B);have LO:Hid (Desk.a1O (.enter 1 nmA 1 100 200 0)):=⟨.inl ⟨rfl,rfl⟩,by omega,by omega,by omega,by omega,by omega,by omega⟩
 go_upto_region 7 with (first
  |(go_at_call 21;refine (CM.line HC.out 0 rfl BR.out (LV.book nmA (by decide) 1 100 200) LO.out FB.out).mono ?_;rintro e w4 ⟨l1,a1,a2,a3,a4,c1,c2,c3,c4,rfl,_,hc,_⟩;dsimp only[Rep.num,List.length_nil];replace HC:=a0b hc;clear hc))
 change Code.wp _ _ _ _ (w4.alloc (a5w 0 0 1 (.slice a1 l1.length c1) (.slice a2 0 c2) (.slice a3 0 c3) (.slice a4 0 c4)));replace HC:=a0b (HC.out.alloc (a5w 0 0 1 (.slice a1 l1.length c1) (.slice a2 0 c2) (.slice a3 0 c3) (.slice a4 0 c4)));generalize w4.alloc (a5w 0 0 1 (.slice a1 l1.length c1) (.slice a2 0 c2) (.slice a3 0 c3) (.slice a4 0 c4))=V4 at HC ⊢;generalize w4.heap.size=q1 at HC ⊢
 go_upto_region 8 with (first
  |(go_at_call 21;refine (CM.line HC.out 1 rfl BR.out (LV.book nmA (by decide) 1 100 200) LO.out FB.out).mono ?_;rintro e w5 ⟨l2,b1,b2,b3,b4,d1,d2,d3,d4,rfl,_,hc,_⟩;dsimp only[Rep.num,List.length_nil];replace HC:=a0b hc;clear hc))
 change Code.wp _ _ _ _ (w5.alloc (a5w 0 0 1 (.slice b1 l2.length d1) (.slice b2 0 d2) (.slice b3 0 d3) (.slice b4 0 d4)));replace HC:=a0b (HC.out.alloc (a5w 0 0 1 (.slice b1 l2.length d1) (.slice b2 0 d2) (.slice b3 0 d3) (.slice b4 0 d4)));generalize w5.alloc (a5w 0 0 1 (.slice b1 l2.length d1) (.slice b2 0 d2) (.slice b3 0 d3) (.slice b4 0 d4))=V5 at HC ⊢;generalize w5.heap.size=q2 at HC ⊢
 go_upto_region 9 with (first
  |(go_at_call 21;refine (CM.line HC.out 0 rfl TR.out (LV.tick 1) ⟨by omega,by omega⟩ FT.out).mono ?_;rintro e w6 ⟨l3,f1,f2,f3,f4,g_1,g_2,g_3,g_4,rfl,_,hc,_⟩;dsimp only[List.length_nil];replace HC:=a0b hc;clear hc))
 change Code.wp _ _ _ _ (w6.alloc (a5w 0 0 1 (.slice f1 l3.length g_1) (.slice f2 0 g_2) (.slice f3 0 g_3) (.slice f4 0 g_4)));replace HC:=a0b (HC.out.alloc (a5w 0 0 1 (.slice f1 l3.length g_1) (.slice f2 0 g_2) (.slice f3 0 g_3) (.slice f4 0 g_4)));generalize w6.alloc (a5w 0 0 1 (.slice f1 l3.length g_1) (.slice f2 0 g_2) (.slice f3 0 g_3) (.slice f4 0 g_4))=V6 at HC ⊢;generalize w6.heap.size=q3 at HC ⊢
 go_upto_region 10 with (first
  |(go_at_call 21;refine (CM.line HC.out 1 rfl TR.out (LV.tick 1) ⟨by omega,by omega⟩ FT.out).mono ?_;rintro e w7 ⟨l4,h1,h2,h3,h4,m1,m2,m3,m4,rfl,_,hc,_⟩;dsimp only[List.length_nil];replace HC:=a0b hc;clear hc))
 change Code.wp _ _ _ _ (w7.alloc (a5w 0 0 1 (.slice h1 l4.length m1) (.slice h2 0 m2) (.slice h3 0 m3) (.slice h4 0 m4)));replace HC:=a0b (HC.out.alloc (a5w 0 0 1 (.slice h1 l4.length m1) (.slice h2 0 m2) (.slice h3 0 m3) (.slice h4 0 m4)));generalize w7.alloc (a5w 0 0 1 (.slice h1 l4.length m1) (.slice h2 0 m2) (.slice h3 0 m3) (.slice h4 0 m4))=V7 at HC ⊢;generalize w7.heap.size=q4 at HC ⊢;have e4:=(a2T (HC.out.kb (List.mem_cons_self ..))).2.2.1;have e3:=(a2T (HC.out.kb (b:=q3) (List.mem_cons_of_mem _ (List.mem_cons_self ..)))).2.2.1;have e2:=(a2T (HC.out.kb (b:=q2) (List.mem_cons_of_mem _ (List.mem_cons_of_mem _ (List.mem_cons_self ..))))).2.2.1;have e1:=(a2T (HC.out.kb (b:=q1) (List.mem_cons_of_mem _ (List.mem_cons_of_mem _ (List.mem_cons_of_mem _ (List.mem_cons_self ..)))))).2.2.1;replace HC:Hid (CM X V7 [(p1,k1,Desk.c8y B),(p2,k2,Desk.c8y B)] [] [] []):=HC.out.less (by simp) (by simp) (by simp)
 go_upto_region 12 with fail
 clear e1 e2 e3 e4 FB BR TR FT LO
 go_upto_region 13 with (first
  |(go_at_call 39;refine (e2t V7).mono ?_;rintro e w8 ⟨rfl,rfl⟩))
 replace HC:=a0b (HC.out.alloc e8O);generalize V7.alloc e8O=V8 at HC ⊢;generalize V7.heap.size=rb at HC ⊢;have RA:=a0b (fun i h=>f8C B1 B2 i h)
 go_upto_region 14 with fail
 go_loopw [15,16,17,18,19] (fun vi _ _ _ _ wr=>∃ i:Nat,i<=37/\vi=.int .i64 i/\CM X wr [(p1,k1,Desk.c8y B),(p2,k2,Desk.c8y B)] [(rb,e8O)] [] []) (fun vi _ _ _ _ _=>37-(intOf vi).toNat)
 case atStart=>exact⟨0,Nat.zero_le _,rfl,HC.out⟩
 case round =>
  obtain⟨i,hi,rfl,hcm⟩:=hrel;replace HC:=a0b hcm;clear hcm
  by_cases hlt:i<37
  ·have hlt':(i:Int)<37:=by omega
   obtain⟨x,wn,er,an,t,hcell,hra⟩:=RA.out i hlt;have w1:=hra.w1;have w2:=hra.w2;have sz:=hra.sz;have a1:=hra.ab.1;have a2:=hra.ab.2;have R:=a0b hra;have CL:Hid (∀ (W':World) ks es rs,CM X W' [(p1,k1,Desk.c8y B),(p2,k2,Desk.c8y B)] (ks++[(rb,e8O)]) es rs->W'.cell? ⟨rb,i,none⟩=some (.string x)):=fun W' ks es rs hc=>hcell W' rb (hc.kb (by simp))
   clear hcell hra;obtain⟨wo,rfl⟩:∃ wo:World,wo=wr:=⟨_,rfl⟩
   go_upto_region 17 with fail
   go_loopw [16] (fun vk wr=>∃ k:Nat,k<=wn/\vk=.int .i64 k/\CM X wr [(p1,k1,Desk.c8y B),(p2,k2,Desk.c8y B)] [(rb,e8O)] [] []) (fun vk _=>wn-(intOf vk).toNat)
   case atStart=>exact⟨0,Nat.zero_le _,rfl,HC.out⟩
   case round =>
    obtain⟨k,hk,rfl,hcm⟩:=hrel;replace HC:=a0b hcm;clear hcm;have c0:=CL.out wr [] [] [] HC.out;have hks:k<x.size:=by omega
    have hks':(k:Int)<(x.size:Int):=by omega
    by_cases hkw:k<wn
    ·have dg:=R.out.dig hkw hks
     have d1:((x[k].toNat:Int) != 32)=true:=by
      rw[bne_iff_ne];omega
     have d2:((x[k].toNat:Int)==32)=false:=beq_eq_false_iff_ne.2 (by omega)
     clear dg
     go_wp2_with fail
     go_roundw
     case rel=>exact⟨k+1,by omega,by go_num,HC.out⟩
     case measure=>simp[intOf];omega
    ·obtain rfl:k=wn:=by omega
     have d0:=R.out.blank hks;have d1:((x[k].toNat:Int) != 32)=false:=by rw[d0];rfl
     have d2:((x[k].toNat:Int)==32)=true:=by rw[d0];rfl
     clear d0;obtain⟨wo2,rfl⟩:∃ wo2:World,wo2=wr:=⟨_,rfl⟩
     go_upto_region 21 with fail
     clear c0 d1 d2
     go_loopw [17,18] (fun ve vj wr=>∃ j:Nat,j<=k/\vj=.int .i64 j/\ve=.int .i64 (Txt.b4R (x.data.toList.take j))/\CM X wr [(p1,k1,Desk.c8y B),(p2,k2,Desk.c8y B)] [(rb,e8O)] [] []) (fun _ vj _=>k-(intOf vj).toNat)
     case atStart=>exact⟨0,Nat.zero_le _,rfl,rfl,HC.out⟩
     case round =>
      obtain⟨j,hj,rfl,rfl,hcm⟩:=hrel;replace HC:=a0b hcm;clear hcm;have c0:=CL.out wr [] [] [] HC.out
      by_cases hjw:j<k
      ·have hjs:j<x.size:=by omega
       have hjs':(j:Int)<(x.size:Int):=by omega
       have hjw':(j:Int)<(k:Int):=by omega
       obtain⟨g1,g2⟩:=R.out.dig hjw hjs;have HT:Hid (x.data.toList.take (j+1)=x.data.toList.take j++[x[j]]):=Txt.a8N x j hjs
       have nb:=Txt.c0i (x.data.toList.take j) (by
        have h:=R.out.dg;unfold Txt.a6j at h ⊢;rw[List.all_eq_true] at h ⊢
        exact fun c hc=>h c ((List.take_subset_take_left _ (Nat.le_of_lt hjw)) hc)) (by rw[List.length_take];omega)
       generalize hN:Txt.b4R (x.data.toList.take j)=nn at nb ⊢;have hNh:=a0b hN;clear hN
       go_wp2_with fail
       go_roundw
       case rel=>exact⟨j+1,by omega,by go_num,by
        rw[HT.out,Txt.b2Y,hNh.out]
        go_num,HC.out⟩
       case measure=>simp[intOf];omega
      ·obtain rfl:j=k:=by omega
       have hjw':¬ (j:Int)<(j:Int):=by omega
       have hnu:=R.out.nu;rw[hnu];clear hnu
       have RG:Hid (Calls Tryz.prog 21 #[.pointer (some ⟨p1,0,none⟩),.string (x.extract (j+3) x.size)] wr fun en W'=>MDo X wr [(p1,k1,Desk.c8y B),(p2,k2,Desk.c8y B)] 0 p1 k1 [(rb,e8O)] [] [] (Desk.c8y B,⟨er,an,0,[],[],[],[]⟩) en W'):=by
        show Calls _ _ _ _ _;rw[R.out.tx];exact R.out.go HC.out 0 p1 k1 rfl
       have c5:IntKind.i64.wrap ((j:Int)+3)=((j+3:Nat):Int):=by
        rw[a0G (by omega) (by omega)]
        omega
       have hj3:j+3<=x.size:=by omega
       have hj3':((j+3:Nat):Int)<=(x.size:Int):=by omega
       go_upto_region 24 with fail
       go_upto_region 25 with (first
        |(go_at_call 21;refine RG.out.mono ?_;rintro e w10 ⟨l9,z1,z2,z3,z4,u1,u2,u3,u4,rfl,hents,hc,_⟩;dsimp only[List.length_nil];replace HC:=a0b hc;clear hc RG))
       obtain rfl:l9=[]:=by
        have h1:l9.map (·.1)=[]:=hents
        simpa using h1
       clear hents;replace HC:Hid (CM X w10 [(p1,k1,Desk.c8y B),(p2,k2,Desk.c8y B)] [(rb,e8O)] [] []):=HC.out.less (fun q hq=>hq) (by simp) (by simp)
       change Code.wp _ _ _ _ (w10.alloc (a5w er an 0 (.slice z1 0 u1) (.slice z2 0 u2) (.slice z3 0 u3) (.slice z4 0 u4)));replace HC:=a0b (HC.out.alloc (a5w er an 0 (.slice z1 0 u1) (.slice z2 0 u2) (.slice z3 0 u3) (.slice z4 0 u4)));generalize w10.alloc (a5w er an 0 (.slice z1 0 u1) (.slice z2 0 u2) (.slice z3 0 u3) (.slice z4 0 u4))=V10 at HC ⊢;generalize w10.heap.size=zb at HC ⊢;clear c0 c5 hj3 hj3';have c0:=CL.out V10 [_] [] [] HC.out;obtain⟨y0,y1,y2,y3,y4,y5,y6⟩:=a2T (HC.out.kb (List.mem_cons_self ..));have HF:Hid (∀ n,CM X (V10.drewN n) [(p1,k1,Desk.c8y B),(p2,k2,Desk.c8y B)] [(rb,e8O)] [] []):=fun n=>(HC.out.later (a9Q (Below.refl _ _) n)).less (fun q hq=>List.mem_cons_of_mem _ hq) (by simp) (by simp)
       have hj1:j+1<x.size:=by omega
       have hj1':((j+1:Nat):Int)<(x.size:Int):=by omega
       have c6:IntKind.i64.wrap ((j:Int)+1)=((j+1:Nat):Int):=by
        rw[a0G (by omega) (by omega)]
        omega
       have wd:=R.out.word hj1;have n1:(er != er)=false:=by simp
       have n2:(an != an)=false:=by simp
       clear HC RA CL R
       go_quiet (fail)
       go_wp2_with fail
       go_roundw
       case rel=>exact⟨i+1,by omega,by go_num,HF.out _⟩
       case measure=>simp[intOf];omega
  ·obtain rfl:i=37:=by omega
   have ua:a0h (⟨#[97]⟩:ByteArray) (Desk.c8y B).ts≠0:=b2x (a:=1) (by omega) B1 0
   have ub:a0h (⟨#[98]⟩:ByteArray) (Desk.c8y B).ts≠0:=b2x (a:=1) (by omega) B1 1
   have HF:Hid (CM X wr [(p1,k1,Desk.c8y B),(p2,k2,Desk.c8y B)] [] [] []):=HC.out.less (by simp) (by simp) (by simp)
   have AL:=a0b (f0e HF.out (i:=0) (j:=1) rfl rfl ua ub);clear HC RA hlt hi HF
   go_upto_region 28 with (first
    |(go_at_call 37;refine AL.out.mono ?_;rintro e w9 ⟨rfl,hc⟩;have HC:=a0b hc;clear hc AL))
   have C0:Hid (∃ s:St,a0h (⟨#[97]⟩:ByteArray) s.ts≠0/\a0h (⟨#[98]⟩:ByteArray) s.ts≠0/\CM X w9 [(p1,k1,s),(p2,k2,s)] [] [] []):=⟨Desk.c8y B,ua,ub,HC.out⟩;clear HC ua ub
   go_upto_region 31 with fail
   go_loopw [21,22,23,24,25,26,27,28] (fun vi _ _ _ _ _ _ _ wr=>∃ (i:Nat) (s:St),i<=ss.length/\i<=20/\vi=.int .i64 i/\a0h (⟨#[97]⟩:ByteArray) s.ts≠0/\a0h (⟨#[98]⟩:ByteArray) s.ts≠0/\CM X wr [(p1,k1,s),(p2,k2,s)] [] [] []) (fun vi _ _ _ _ _ _ _ _=>20-(intOf vi).toNat)
   case atStart =>
    obtain⟨s,u1,u2,c⟩:=C0.out;exact⟨0,s,Nat.zero_le _,by omega,rfl,u1,u2,c⟩
   case round =>
    obtain⟨i,s,hi,hi20,rfl,hua,hub,hcm⟩:=hrel;have HC:=a0b hcm;clear hcm C0
    by_cases hlt:i<ss.length/\i<20
    ·obtain⟨hl1,hl2⟩:=hlt;have hl1':(i:Int)<(ss.length:Int):=by omega
     have hl2':(i:Int)<20:=by omega
     obtain⟨wo,rfl⟩:∃ wo:World,wo=wr:=⟨_,rfl⟩;obtain⟨b,off,cap',e,c0⟩:=HT.out.cell i hl1;simp only[Value.slice.injEq,true_and] at e;obtain⟨rfl,rfl⟩:=e;have cf:=(World.cell?_of_block (w:=X) (HC.out.bl.block b (World.block_lt_of_cell? _ _ c0))).trans c0;have LN:=a0b (c2R HC.out.env ss[i] (HT.out.size _ (List.getElem_mem hl1)));clear c0
     go_upto_region 34 with (first
      |(go_at_call 32;refine LN.out.mono ?_;rintro e w5 ⟨t,rfl,_,_,hb5⟩;replace HC:=a0b (HC.out.later hb5);clear hb5 LN cf))
     have HI:=a0b (HC.out.inv (i:=0) rfl);have SM:=a0b (e2W HI.out t);have UN:=a0b (And.intro (e1Y HI.out t hua) (e1Y HI.out t hub));have SP:=a0b (fun e (he:e∈s.es)=>(HI.out.en e he).sl)
     have KP:=a0b (fun h=>e8g (s:=s) (t:=t) h)
     have D0:=a0b (CM.line HC.out 0 rfl d9f LV.waiting trivial (d5K HI.out));obtain⟨q,hq⟩:∃ q,stepT s t=q:=⟨_,rfl⟩;rw[hq] at SM UN KP;have QE:=a0b hq;clear hq
     go_upto_region 35 with (first
      |(go_at_call 21;refine D0.out.mono ?_;rintro e w6 ⟨l0,a1,a2,a3,a4,c1,c2,c3,c4,rfl,hents,hc6,_⟩;dsimp only[List.length_nil];have HE0:=a0b hents;replace HC:=a0b hc6;clear hents hc6 D0))
     replace HC:Hid (CM X w6 [(p1,k1,s),(p2,k2,s)] [] [(.slice a1 l0.length c1,l0)] []):=HC.out.less (by simp) (fun x hx=>hx) (by simp)
     change Code.wp _ _ _ _ (w6.alloc (a5w 0 0 0 (.slice a1 l0.length c1) (.slice a2 0 c2) (.slice a3 0 c3) (.slice a4 0 c4)));replace HC:=a0b (HC.out.alloc (a5w 0 0 0 (.slice a1 l0.length c1) (.slice a2 0 c2) (.slice a3 0 c3) (.slice a4 0 c4)));generalize w6.alloc (a5w 0 0 0 (.slice a1 l0.length c1) (.slice a2 0 c2) (.slice a3 0 c3) (.slice a4 0 c4))=V6 at HC ⊢;generalize w6.heap.size=xb at HC ⊢;have D1:=a0b (CM.text HC.out 0 rfl t);rw[QE.out] at D1
     go_upto_region 36 with (first
      |(go_at_call 21;refine D1.out.mono ?_;rintro e w7 ⟨l1,b1,b2,b3,b4,d1,d2,d3,d4,rfl,hents,hc7,_⟩;have HE1:=a0b hents;replace HC:=a0b hc7;clear hents hc7 D1))
     replace HC:Hid (CM X w7 [(p1,k1,q.1),(p2,k2,s)] [(xb,a5w 0 0 0 (.slice a1 l0.length c1) (.slice a2 0 c2) (.slice a3 0 c3) (.slice a4 0 c4))] [(.slice b1 l1.length d1,l1),(.slice a1 l0.length c1,l0)] [c9T (.slice b2 q.2.days.length d2) q.2.days,c9T (.slice b3 q.2.granted.length d3) q.2.granted,c9T (.slice b4 q.2.ended.length d4) q.2.ended]):=HC.out;change Code.wp _ _ _ _ (w7.alloc (a5w q.2.err q.2.at_ q.2.n (.slice b1 l1.length d1) (.slice b2 q.2.days.length d2) (.slice b3 q.2.granted.length d3) (.slice b4 q.2.ended.length d4)));replace HC:=a0b (HC.out.alloc (a5w q.2.err q.2.at_ q.2.n (.slice b1 l1.length d1) (.slice b2 q.2.days.length d2) (.slice b3 q.2.granted.length d3) (.slice b4 q.2.ended.length d4)));generalize w7.alloc (a5w q.2.err q.2.at_ q.2.n (.slice b1 l1.length d1) (.slice b2 q.2.days.length d2) (.slice b3 q.2.granted.length d3) (.slice b4 q.2.ended.length d4))=V7 at HC ⊢;generalize w7.heap.size=pb at HC ⊢;have D2:=a0b (CM.text HC.out 1 rfl t);rw[QE.out] at D2
     go_upto_region 37 with (first
      |(go_at_call 21;refine D2.out.mono ?_;rintro e w8 ⟨l2,f1,f2,f3,f4,g1,g2,g3,g4,rfl,hents,hc8,_⟩;have HE2:=a0b hents;replace HC:=a0b hc8;clear hents hc8 D2))
     replace HC:Hid (CM X w8 [(p1,k1,q.1),(p2,k2,q.1)] [(pb,a5w q.2.err q.2.at_ q.2.n (.slice b1 l1.length d1) (.slice b2 q.2.days.length d2) (.slice b3 q.2.granted.length d3) (.slice b4 q.2.ended.length d4)),(xb,a5w 0 0 0 (.slice a1 l0.length c1) (.slice a2 0 c2) (.slice a3 0 c3) (.slice a4 0 c4))] [(.slice f1 l2.length g1,l2),(.slice b1 l1.length d1,l1),(.slice a1 l0.length c1,l0)] [c9T (.slice f2 q.2.days.length g2) q.2.days,c9T (.slice f3 q.2.granted.length g3) q.2.granted,c9T (.slice f4 q.2.ended.length g4) q.2.ended,c9T (.slice b2 q.2.days.length d2) q.2.days,c9T (.slice b3 q.2.granted.length d3) q.2.granted,c9T (.slice b4 q.2.ended.length d4) q.2.ended]):=HC.out;change Code.wp _ _ _ _ (w8.alloc (a5w q.2.err q.2.at_ q.2.n (.slice f1 l2.length g1) (.slice f2 q.2.days.length g2) (.slice f3 q.2.granted.length g3) (.slice f4 q.2.ended.length g4)));replace HC:=a0b (HC.out.alloc (a5w q.2.err q.2.at_ q.2.n (.slice f1 l2.length g1) (.slice f2 q.2.days.length g2) (.slice f3 q.2.granted.length g3) (.slice f4 q.2.ended.length g4)));generalize w8.alloc (a5w q.2.err q.2.at_ q.2.n (.slice f1 l2.length g1) (.slice f2 q.2.days.length g2) (.slice f3 q.2.granted.length g3) (.slice f4 q.2.ended.length g4))=V8 at HC ⊢;generalize w8.heap.size=qb at HC ⊢;have D3:=a0b (CM.line HC.out 0 rfl d9f LV.waiting trivial (d5K (HC.out.inv (i:=0) rfl)))
     go_upto_region 38 with (first
      |(go_at_call 21;refine D3.out.mono ?_;rintro e w9 ⟨l3,h1,h2,h3,h4,m1,m2,m3,m4,rfl,hents,hc9,_⟩;dsimp only[List.length_nil];have HE3:=a0b hents;replace HC:=a0b hc9;clear hents hc9 D3))
     replace HC:Hid (CM X w9 [(p1,k1,q.1),(p2,k2,q.1)] [(qb,a5w q.2.err q.2.at_ q.2.n (.slice f1 l2.length g1) (.slice f2 q.2.days.length g2) (.slice f3 q.2.granted.length g3) (.slice f4 q.2.ended.length g4)),(pb,a5w q.2.err q.2.at_ q.2.n (.slice b1 l1.length d1) (.slice b2 q.2.days.length d2) (.slice b3 q.2.granted.length d3) (.slice b4 q.2.ended.length d4)),(xb,a5w 0 0 0 (.slice a1 l0.length c1) (.slice a2 0 c2) (.slice a3 0 c3) (.slice a4 0 c4))] [(.slice h1 l3.length m1,l3),(.slice f1 l2.length g1,l2),(.slice b1 l1.length d1,l1),(.slice a1 l0.length c1,l0)] [c9T (.slice f2 q.2.days.length g2) q.2.days,c9T (.slice f3 q.2.granted.length g3) q.2.granted,c9T (.slice f4 q.2.ended.length g4) q.2.ended,c9T (.slice b2 q.2.days.length d2) q.2.days,c9T (.slice b3 q.2.granted.length d3) q.2.granted,c9T (.slice b4 q.2.ended.length d4) q.2.ended]):=HC.out.less (fun x hx=>hx) (fun x hx=>hx) (fun x hx=>List.mem_cons_of_mem _ (List.mem_cons_of_mem _ (List.mem_cons_of_mem _ hx)))
     change Code.wp _ _ _ _ (w9.alloc (a5w 0 0 0 (.slice h1 l3.length m1) (.slice h2 0 m2) (.slice h3 0 m3) (.slice h4 0 m4)));replace HC:=a0b (HC.out.alloc (a5w 0 0 0 (.slice h1 l3.length m1) (.slice h2 0 m2) (.slice h3 0 m3) (.slice h4 0 m4)));generalize w9.alloc (a5w 0 0 0 (.slice h1 l3.length m1) (.slice h2 0 m2) (.slice h3 0 m3) (.slice h4 0 m4))=V9 at HC ⊢;generalize w9.heap.size=yb at HC ⊢
     have SR:=a0b (d2W V9 l1 l2 q.2.err q.2.at_ q.2.n (.slice b1 l1.length d1) (.slice b2 q.2.days.length d2) (.slice b3 q.2.granted.length d3) (.slice b4 q.2.ended.length d4) (.slice f1 l2.length g1) (.slice f2 q.2.days.length g2) (.slice f3 q.2.granted.length g3) (.slice f4 q.2.ended.length g4) q.2.days q.2.granted q.2.ended (HC.out.ev (by simp)) (HC.out.ev (by simp)) (HE1.out.trans HE2.out.symm) (by
       have:=SM.out.1.en;rw[<- HE1.out,List.length_map] at this
       omega) (fun x hx=>by
       have hm:x.1∈q.2.entries:=by rw[<- HE1.out];exact List.mem_map.2 ⟨x,hx,rfl⟩
       have:=SP.out x.1 (SM.out.1.es x.1 hm)
       omega)
      (HC.out.row (q:=c9T (.slice b2 q.2.days.length d2) q.2.days) (by simp)) (HC.out.row (q:=c9T (.slice f2 q.2.days.length g2) q.2.days) (by simp)) (HC.out.row (q:=c9T (.slice b3 q.2.granted.length d3) q.2.granted) (by simp)) (HC.out.row (q:=c9T (.slice f3 q.2.granted.length g3) q.2.granted) (by simp)) (HC.out.row (q:=c9T (.slice b4 q.2.ended.length d4) q.2.ended) (by simp)) (HC.out.row (q:=c9T (.slice f4 q.2.ended.length g4) q.2.ended) (by simp)) (by have:=SM.out.1.da;omega) (by have:=SM.out.2;omega) (by have:=SM.out.1.ed;omega))
     obtain⟨z0,z1,z2,z3,z4,z5,z6⟩:=a2T (HC.out.kb (b:=qb) (List.mem_cons_of_mem _ (List.mem_cons_self ..)));obtain⟨x0,x1,x2,x3,x4,x5,x6⟩:=a2T (HC.out.kb (b:=pb) (List.mem_cons_of_mem _ (List.mem_cons_of_mem _ (List.mem_cons_self ..))))
     go_upto_region 39 with (first
      |(go_at_call 36;refine SR.out.mono ?_;rintro e w10 ⟨rfl,hb⟩;replace HC:=a0b (HC.out.later hb);clear hb SR z0 z1 z2 z3 z4 z5 z6 x0 x1 x2 x3 x4 x5 x6))
     have x0:=(a2T (HC.out.kb (b:=pb) (List.mem_cons_of_mem _ (List.mem_cons_of_mem _ (List.mem_cons_self ..))))).1;have y3:=(a2T (HC.out.kb (b:=yb) (List.mem_cons_self ..))).2.2.2.1;have v3:=(a2T (HC.out.kb (b:=xb) (List.mem_cons_of_mem _ (List.mem_cons_of_mem _ (List.mem_cons_of_mem _ (List.mem_cons_self ..)))))).2.2.2.1
     have n0:l0.length<=1000:=by
      have h1:=congrArg List.length HE0.out;rw[List.length_map] at h1;have h2:=Nat.le_trans (List.length_filter_le (fun e:Ent=>e.kind==3) s.es) (Desk.c6C HI.out)
      have h3:l0.length=(s.es.filter (fun e:Ent=>e.kind==3)).length:=h1
      omega
     have s0:∀ p∈l0,p.1.a0e.length<=1000:=fun p hp=>by
      have hm:p.1∈s.es.filter (fun e:Ent=>e.kind==3):=by
       have h1:l0.map (·.1)=s.es.filter (fun e:Ent=>e.kind==3):=HE0.out
       rw[<- h1];exact List.mem_map.2 ⟨p,hp,rfl⟩
      have:=SP.out p.1 (List.mem_filter.1 hm).1;omega
     have HF:Hid (∀ W',Below w10.heap.size w10 W'->CM X W' [(p1,k1,q.1),(p2,k2,q.1)] [] [] []):=fun W' k=>(HC.out.later k).less (by simp) (by simp) (by simp)
     by_cases herr:q.2.err=0
     ·have hb1:(q.2.err != 0)=false:=by simp[herr]
      have hb2:(q.2.err==0)=true:=by simp[herr]
      have SE:=a0b (d7j l0 l3 (.slice a1 l0.length c1) (.slice h1 l3.length m1) w10 (HC.out.ev (by simp)) (HC.out.ev (by simp)) n0 s0)
      have X0:=a0b x0;have HC2:=HC;clear n0 s0 HC HE0 HE1 HE2 HE3 SM SP KP HI x0 herr
      go_upto_region 40 with (first
       |(go_at_call 29;refine SE.out.mono ?_;rintro e w11 ⟨bs,rfl,hb⟩;have x0:=a0a hb X0.out;have HD:=a0b (HF.out _ hb);clear hb SE X0 y3 v3))
      clear HC2 HF
      go_wp2_with fail
      go_roundw
      case rel=>exact⟨i+1,q.1,by omega,by omega,by go_num,UN.out.1,UN.out.2,HD.out⟩
      case measure=>simp[intOf];omega
     ·have hb1:(q.2.err != 0)=true:=by simp[herr]
      have hb2:(q.2.err==0)=false:=by simp[herr]
      have heq:l0.map (·.1)=l3.map (·.1):=by
       have e1:l0.map (·.1)=s.es.filter (fun e:Ent=>e.kind==3):=HE0.out
       have e3:l3.map (·.1)=q.1.es.filter (fun e:Ent=>e.kind==3):=HE3.out
       rw[e1,e3,KP.out herr]
      have SE:=a0b (a8V l0 l3 (.slice a1 l0.length c1) (.slice h1 l3.length m1) w10 (HC.out.ev (by simp)) (HC.out.ev (by simp)) heq n0 s0)
      have X0:=a0b x0;have HC2:=HC;clear n0 s0 heq HC HE0 HE1 HE2 HE3 SM SP KP HI x0 herr
      go_upto_region 40 with (first
       |(go_at_call 29;refine SE.out.mono ?_;rintro e w11 ⟨rfl,hb⟩;have x0:=a0a hb X0.out;have HD:=a0b (HF.out _ hb);clear hb SE X0 y3 v3))
      clear HC2 HF
      go_wp2_with fail
      go_roundw
      case rel=>exact⟨i+1,q.1,by omega,by omega,by go_num,UN.out.1,UN.out.2,HD.out⟩
      case measure=>simp[intOf];omega
    ·have AL:=a0b (f0e HC.out (i:=0) (j:=1) rfl rfl hua hub);have BW:=a0b (fun W' (hc:CM X W' [(p1,k1,s),(p2,k2,s)] [] [] [])=>HX.out.trans (hc.bl.mono HX.out.size))
     clear HC
     by_cases h1:i<ss.length
     ·have h1':(i:Int)<(ss.length:Int):=by omega
      have h2':¬ (i:Int)<20:=by omega
      clear hlt
      go_wp2_with (first
       |(go_at_call 37;refine AL.out.mono ?_;rintro e w9 ⟨rfl,hc⟩;have HF2:=a0b (BW.out _ hc);clear hc))
      go_ret;exact⟨rfl,HF2.out⟩
     ·have h1':¬ (i:Int)<(ss.length:Int):=by omega
      clear hlt
      go_wp2_with (first
       |(go_at_call 37;refine AL.out.mono ?_;rintro e w9 ⟨rfl,hc⟩;have HF2:=a0b (BW.out _ hc);clear hc))
      go_ret;exact⟨rfl,HF2.out⟩
end Go.Proofs.YtfigmlfdnickmaaGreatDoor
namespace Go.Proofs.YtfigmlfdnickmaaGreatDoor.Laid
def val:DataW Unit->Value
 |.lit (.int k n)=>.int k n
 |.lit (.string b)=>.string ⟨b.toArray⟩
 |_=>.bool false
def row:DataW Unit->List Value
 |.agg l=>l.map val
 |_=>[]
def rows:DataW Unit->List Value
 |.agg l=>l.flatMap row
 |_=>[]
def text:DataW Unit->Value
 |.iface _ (.ptr (.agg [d]))=>val d
 |_=>.bool false
def put(l:List Value):Obj->Obj
 |.cells _ t frozen=>.cells l.toArray t frozen
 |o=>o
def c6N(w:World):World :=
 { w with heap:=(((((((((w.heap.modify 1 (put (row Rows.laid_bookings_calendar_monthDays))).modify 0 (put (row Rows.laid_internal_strconv_uint64pow10))).modify 6 (put [.iface 369 (.pointer (some ⟨w.heap.size,0,none⟩))])).modify 7 (put [.iface 369 (.pointer (some ⟨w.heap.size+1,0,none⟩))])).modify 3 (put (row Rows.laid_bookings_lines_weekdays))).modify 4 (put (row Rows.laid_math_bits_deBruijn32tab))).modify 5 (put (row Rows.laid_math_bits_deBruijn64tab))).modify 8 (put (row Rows.laid_unicode_utf8_first))).modify 9 (put (rows Rows.laid_unicode_utf8_acceptRanges))).push (.cells #[text Rows.laid_strconv_ErrSyntax] 371) |>.push (.cells #[text Rows.laid_strconv_ErrRange] 371) }
theorem met(os:Os):laidMet Tryz.prog Rows.datesRow.laid ((c6N (World.holding Tryz.prog os ⟨#[],#[],[]⟩)).forCall (fun _ _=>0) ⟨#[],#[.slice none 0 0],[]⟩).memory :=
 laidMet_of_run' 8 (by kernel_rfl) (by kernel_rfl)
end Go.Proofs.YtfigmlfdnickmaaGreatDoor.Laid
namespace Go.Proofs.YtfigmlfdnickmaaGreatDoor.datesLaw
open Go.ChangeShapes Go.WideShapes Go.ChangeAt Go.RowKit
theorem own:ownKnob Tryz.prog.godebug=none:=by kernel_rfl
theorem c5b:laidOutB Tryz.prog=true:=by kernel_rfl
def b9r:String:=Rows.datesRow.named.getD 0 Rows.datesRow.func
theorem b8y:Tryz.prog.globalNamed b9r=some 1:=by kernel_rfl
theorem c3e:(Tryz.prog.globals[1]?).map (·.type)=some 314:=by kernel_rfl
theorem c3A:Tryz.prog.cellsOf 314=12:=by kernel_rfl
theorem c3D:Tryz.prog.cellsOf 3=1:=by kernel_rfl
theorem b7n:Tryz.prog.cellsOf 9=1:=by kernel_rfl
theorem table(h:laidMetH Tryz.prog Rows.datesRow.laid W):Lib.TabIs Tryz.prog W b9r .i64 [31,28,31,30,31,30,31,31,30,31,30,31] :=
 Lib.tabIs_of_head b8y c3e Tryz.underlying314 Tryz.underlying3 c3D c3A h
theorem tab(h:laidMetH Tryz.prog Rows.datesRow.laid W):Tab W :=
 ⟨(table h).cell b8y 0 (by decide),(table h).cell b8y 1 (by decide),(table h).cell b8y 2 (by decide),(table h).cell b8y 3 (by decide),(table h).cell b8y 4 (by decide),(table h).cell b8y 5 (by decide),(table h).cell b8y 6 (by decide),(table h).cell b8y 7 (by decide),(table h).cell b8y 8 (by decide),(table h).cell b8y 9 (by decide),(table h).cell b8y 10 (by decide),(table h).cell b8y 11 (by decide)⟩
end Go.Proofs.YtfigmlfdnickmaaGreatDoor.datesLaw
namespace Go.Proofs.YtfigmlfdnickmaaGreatDoor.EnvLaid
open Go.ChangeShapes Go.WideShapes Go.ChangeAt Go.RowKit
theorem b2G{P:Program}{name:String}{k:IntKind}{zs:List Int}{t e:TypeId}
  (hg:P.globalNamed name=some g) (hty:(P.globals[g]?).map (·.type)=some t) (ht:P.underlying t=some (.array n e)) (he:P.underlying e=some (.int k)) (hce:P.cellsOf e=1) (hct:P.cellsOf t=n)
  (h:Lib.VarReads P W name (Lib.tabData k zs)):Lib.TabIs P W name k zs:=by
 obtain⟨g',t',cs,fuel,p,hg',ht',hvar,hd⟩:=h;obtain rfl:=Option.some.inj (hg.symm.trans hg');obtain rfl:=Option.some.inj (hty.symm.trans ht');unfold Lib.TabIs;rw[hvar,<- Lib.cells_of_tab ht he hce hct hd]
theorem b9t{P:Program}{name:String}{zs:List (List UInt8)}{t e:TypeId}
  (hg:P.globalNamed name=some g) (hty:(P.globals[g]?).map (·.type)=some t) (ht:P.underlying t=some (.array n e)) (he:P.underlying e=some .string) (hce:P.cellsOf e=1)
  (h:Lib.VarReads P W name (.agg (zs.map fun z=>.lit (.string z)))) (i:Nat) (z:List UInt8) (hz:zs[i]?=some z):W.cell? ⟨g,i,none⟩=some (.string ⟨z.toArray⟩):=by
 obtain⟨g',t',cs,fuel,p,hg',ht',hvar,hd⟩:=h;obtain rfl:=Option.some.inj (hg.symm.trans hg');obtain rfl:=Option.some.inj (hty.symm.trans ht');obtain⟨xs,m,_,hx,_,hxl,hall⟩:=DataW.trod_array ht hd
 have hx1:zs.map (fun z=>(DataW.lit (.string z):DataW Unit))=xs.map (·.1):=by
  have:=congrArg Prod.fst hx
  simpa using this
 have hlen:zs.length=xs.length:=by
  have:=congrArg List.length hx1
  simpa using this
 have hi:i<zs.length:=(List.getElem?_eq_some_iff.1 hz).1;have hxi:xs[i]?=some xs[i]:=List.getElem?_eq_getElem (by omega)
 have hti:=hall i (by omega)
 rw[hxi,hce] at hti;obtain⟨s,hs1,hs2,_⟩:=DataW.trod_string he hti
 have h1:(xs.map (·.1))[i]?=some (DataW.lit (.string z):DataW Unit):=by rw[<- hx1];simp[hz]
 have h2:(xs.map (·.1))[i]?=some (DataW.lit (.string s.data.toList):DataW Unit):=by simp[hxi,hs2]
 have h3:z=s.data.toList:=by
  have:=h1.symm.trans h2
  simpa using this
 have h4:cs[i]?=some (.string s):=by
  have:=congrArg (·[0]?) hs1
  simpa[List.getElem?_take,List.getElem?_drop] using this
 rw[World.var?_cell hg hvar i,h4,h3]
theorem c3f:(Tryz.prog.globals[0]?).map (·.type)=some 306:=by kernel_rfl
theorem c3B:Tryz.prog.cellsOf 306=20:=by kernel_rfl
theorem c3z:Tryz.prog.cellsOf 265=1:=by kernel_rfl
theorem c6X : Tryz.prog.globalNamed "bookings/lines.weekdays" = some 3 := by kernel_rfl
theorem c0J:(Tryz.prog.globals[3]?).map (·.type)=some 352:=by kernel_rfl
theorem b8z : Tryz.prog.globalNamed "bookings/calendar.monthDays" = some 1 := by kernel_rfl
theorem c3g:(Tryz.prog.globals[1]?).map (·.type)=some 314:=by kernel_rfl
theorem c3C:Tryz.prog.cellsOf 314=12:=by kernel_rfl
theorem c6I:Tryz.prog.cellsOf 3=1:=by kernel_rfl
theorem b7n:Tryz.prog.cellsOf 9=1:=by kernel_rfl
theorem c6Y {W: World} {l: List (String × DataW Unit)} (hM : laidMet Tryz.prog l W) (hS : W.ShapedOpen Tryz.prog) (m1 : ("bookings/calendar.monthDays", Rows.laid_bookings_calendar_monthDays) ∈ l) (m2 : ("internal/strconv.uint64pow10", Rows.laid_internal_strconv_uint64pow10) ∈ l) (m3 : ("bookings/lines.weekdays", Rows.laid_bookings_lines_weekdays) ∈ l) : Env W := by
 have ht : Lib.VarReads Tryz.prog W "bookings/calendar.monthDays" (Lib.tabData .i64 [31, 28, 31, 30, 31, 30, 31, 31, 30, 31, 30, 31]) := Lib.laidMet.reads hM (d := Rows.laid_bookings_calendar_monthDays) m1;have hp : Lib.VarReads Tryz.prog W "internal/strconv.uint64pow10" (Lib.tabData .u64 Lib.pow10Tab) := Lib.laidMet.reads hM (d := Rows.laid_internal_strconv_uint64pow10) m2;have hd : Lib.VarReads Tryz.prog W "bookings/lines.weekdays" (.agg ([[109, 111], [116, 117], [119, 101], [116, 104], [102, 114], [115, 97], [115, 117]].map fun z => .lit (.string z))) := Lib.laidMet.reads hM (d := Rows.laid_bookings_lines_weekdays) m3
 have day:=fun i z hz=>b9t c6X c0J Tryz.underlying352 Tryz.underlying9 b7n hd i z hz
 have tb:=b2G b8z c3g Tryz.underlying314 Tryz.underlying3 c6I c3C ht
 have hsz:10<=W.heap.size:=by
  have h0:(((begin Tryz.prog (fun _ _=>0) default).world.heap[9]?).bind Obj.row?).isSome=true:=by kernel_rfl
  obtain⟨⟨zero,t⟩,h1⟩:=Option.isSome_iff_exists.1 h0;obtain⟨cs,hh,_⟩:=hS.1 9 zero t (of_decide_eq_true (by kernel_rfl)) h1
  exact (Array.getElem?_eq_some_iff.1 hh).1
 exact⟨⟨tb.cell b8z 0 (by decide),tb.cell b8z 1 (by decide),tb.cell b8z 2 (by decide),tb.cell b8z 3 (by decide),tb.cell b8z 4 (by decide),tb.cell b8z 5 (by decide),tb.cell b8z 6 (by decide),tb.cell b8z 7 (by decide),tb.cell b8z 8 (by decide),tb.cell b8z 9 (by decide),tb.cell b8z 10 (by decide),tb.cell b8z 11 (by decide)⟩,cell_of_shapedOpen_int (zero:=#[.int .i64 0]) (t:=3) hS (of_decide_eq_true (by kernel_rfl)) (by kernel_rfl) rfl (by kernel_rfl) (by kernel_rfl) Tryz.underlying3,
  b2G c6q c3f Tryz.underlying306 Tryz.underlying265 c3z c3B hp,hsz,
  day 0 _ rfl,day 1 _ rfl,day 2 _ rfl,day 3 _ rfl,day 4 _ rfl,day 5 _ rfl,day 6 _ rfl⟩
end Go.Proofs.YtfigmlfdnickmaaGreatDoor.EnvLaid
