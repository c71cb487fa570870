import Derived.Test.YtfigmlfdnickmaaGreatDoorL24
import Derived.Deep.CutBlock
set_option maxRecDepth 100000
set_option maxHeartbeats 8000000
variable{tm:Bool}{kw:ByteArray}{pc:Int}{xs:List (Go.Proofs.YtfigmlfdnickmaaGreatDoor.Desk.Ent × Nat × Nat)}{L:List (Nat × Go.Obj)}{acc:List Int}{F:List Nat}{b c d g k n:Nat}{ws:Nat->ByteArray}{s:Go.Proofs.YtfigmlfdnickmaaGreatDoor.Desk.St}{W w wx:Go.World}
namespace Go.Proofs.YtfigmlfdnickmaaGreatDoor
open Go.RowKit
def ruX(kw:ByteArray)(ev:Int)(m:Int->Bool)(fr mn mi ti un:Int):Obj:=.cells #[.string kw,.int .i64 ev,.bool (m 0),.bool (m 1),.bool (m 2),.bool (m 3),.bool (m 4),.bool (m 5),.bool (m 6),.int .i64 fr,.int .i64 mn,.int .i64 mi,.int .i64 ti,.int .i64 un] 273
abbrev ruZ(kw:ByteArray)(ev:Int):Obj:=ruX kw ev (fun _=>false) 0 0 0 0 0
theorem g7z{ev fr mn mi ti un:Int}{m:Int->Bool}(h:W.heap[b]?=some (ruX kw ev m fr mn mi ti un)):(W.cell? ⟨b,0,none⟩=some (.string kw)/\W.cell? ⟨b,1,none⟩=some (.int .i64 ev)/\W.cell? ⟨b,2,none⟩=some (.bool (m 0))/\W.cell? ⟨b,3,none⟩=some (.bool (m 1))/\W.cell? ⟨b,4,none⟩=some (.bool (m 2))/\W.cell? ⟨b,5,none⟩=some (.bool (m 3))/\W.cell? ⟨b,6,none⟩=some (.bool (m 4))/\W.cell? ⟨b,7,none⟩=some (.bool (m 5))/\W.cell? ⟨b,8,none⟩=some (.bool (m 6))/\W.cell? ⟨b,9,none⟩=some (.int .i64 fr)/\W.cell? ⟨b,10,none⟩=some (.int .i64 mn)/\W.cell? ⟨b,11,none⟩=some (.int .i64 mi)/\W.cell? ⟨b,12,none⟩=some (.int .i64 ti)/\W.cell? ⟨b,13,none⟩=some (.int .i64 un))/\∀ o,W.frozen? ⟨b,o,none⟩=false :=
 ⟨⟨d0h h 0 rfl,d0h h 1 rfl,d0h h 2 rfl,d0h h 3 rfl,d0h h 4 rfl,d0h h 5 rfl,d0h h 6 rfl,d0h h 7 rfl,d0h h 8 rfl,d0h h 9 rfl,d0h h 10 rfl,d0h h 11 rfl,d0h h 12 rfl,d0h h 13 rfl⟩,fun o=>by simp[World.frozen?,h,ruX]⟩
theorem KP.at0{o:Obj}(h:KP w W ((b,o) :: L)):W.heap[b]?=some o:=h.kb _ (List.mem_cons_self ..)
theorem KP.put14{t:TypeId}{m:Nat × Nat}{a0 a1 a2 a3 a4 a5 a6 a7 a8 a9 a10 a11 a12 a13:Value}(h:KP w wx ((b,.cells #[a0,a1,a2,a3,a4,a5,a6,a7,a8,a9,a10,a11,a12,a13] t m) :: L))(v0 v1 v2 v3 v4 v5 v6 v7 v8 v9 v10 v11 v12 v13:Value):KP w ((((((((((((((wx.setCell ⟨b,0,none⟩ v0).setCell ⟨b,1,none⟩ v1).setCell ⟨b,2,none⟩ v2).setCell ⟨b,3,none⟩ v3).setCell ⟨b,4,none⟩ v4).setCell ⟨b,5,none⟩ v5).setCell ⟨b,6,none⟩ v6).setCell ⟨b,7,none⟩ v7).setCell ⟨b,8,none⟩ v8).setCell ⟨b,9,none⟩ v9).setCell ⟨b,10,none⟩ v10).setCell ⟨b,11,none⟩ v11).setCell ⟨b,12,none⟩ v12).setCell ⟨b,13,none⟩ v13) ((b,.cells #[v0,v1,v2,v3,v4,v5,v6,v7,v8,v9,v10,v11,v12,v13] t m) :: L):=by
 have:=(((((((((((((h.put 0 v0).put 1 v1).put 2 v2).put 3 v3).put 4 v4).put 5 v5).put 6 v6).put 7 v7).put 8 v8).put 9 v9).put 10 v10).put 11 v11).put 12 v12).put 13 v13;simp only[List.setIfInBounds_toArray,List.set_cons_zero,List.set_cons_succ] at this;exact this
section
variable {w W:World}{L:List (Nat × Obj)}{b:Nat}{kw:ByteArray}{ev fr mn mi ti un:Int}{m:Int->Bool}
theorem KP.ru9(h:KP w W ((b,ruX kw ev m fr mn mi ti un) :: L))(x:Int):KP w (W.setCell ⟨b,9,none⟩ (.int .i64 x)) ((b,ruX kw ev m x mn mi ti un) :: L):=KP.put h 9 _
theorem KP.ru10(h:KP w W ((b,ruX kw ev m fr mn mi ti un) :: L))(x:Int):KP w (W.setCell ⟨b,10,none⟩ (.int .i64 x)) ((b,ruX kw ev m fr x mi ti un) :: L):=KP.put h 10 _
theorem KP.ru11(h:KP w W ((b,ruX kw ev m fr mn mi ti un) :: L))(x:Int):KP w (W.setCell ⟨b,11,none⟩ (.int .i64 x)) ((b,ruX kw ev m fr mn x ti un) :: L):=KP.put h 11 _
theorem KP.ru12(h:KP w W ((b,ruX kw ev m fr mn mi ti un) :: L))(x:Int):KP w (W.setCell ⟨b,12,none⟩ (.int .i64 x)) ((b,ruX kw ev m fr mn mi x un) :: L):=KP.put h 12 _
theorem KP.ru13(h:KP w W ((b,ruX kw ev m fr mn mi ti un) :: L))(x:Int):KP w (W.setCell ⟨b,13,none⟩ (.int .i64 x)) ((b,ruX kw ev m fr mn mi ti x) :: L):=KP.put h 13 _
theorem KP.ruM(h:KP w W ((b,ruX kw ev m fr mn mi ti un) :: L))(q:Int->Bool):KP w (((((((W.setCell ⟨b,2,none⟩ (.bool (q 0))).setCell ⟨b,3,none⟩ (.bool (q 1))).setCell ⟨b,4,none⟩ (.bool (q 2))).setCell ⟨b,5,none⟩ (.bool (q 3))).setCell ⟨b,6,none⟩ (.bool (q 4))).setCell ⟨b,7,none⟩ (.bool (q 5))).setCell ⟨b,8,none⟩ (.bool (q 6))) ((b,ruX kw ev q fr mn mi ti un) :: L):=by
 have:=((((((KP.put h 2 (.bool (q 0))).put 3 (.bool (q 1))).put 4 (.bool (q 2))).put 5 (.bool (q 3))).put 6 (.bool (q 4))).put 7 (.bool (q 5))).put 8 (.bool (q 6));simp only[List.setIfInBounds_toArray,List.set_cons_zero,List.set_cons_succ] at this;exact this
end
theorem e7f{i:Nat}(hc:∀ j,j<n->w.cell? ⟨g,j,none⟩=some (.string (ws j)))(hz:∀ j,(ws j).size<=160)(hi:i<=10)(hr:h4y ws i k pc acc tm)(hn:k+7<n):
  Calls Tryz.prog 180 #[.slice (some ⟨g,0,none⟩) n c,.int .i64 i] w fun e w'=>e=.returned (ruR (ruW ws i k pc acc tm))/\Below w.heap.size w w':=by
 have NM:=a0b (fun j wx=>b0E (ws j) 1 7 wx (hz j) (by omega) (by omega));have DT:=a0b (fun j wx=>d4B (ws j) wx (hz j));have CK:=a0b (fun j wx=>c5y (ws j) wx (hz j));have ON:=a0b (fun j wx=>g0u (ws j) wx (hz j));have P0:=a0b ((KP.nil w).alloc (ruZ ⟨#[]⟩ 0));obtain⟨hp,h3,hk,ht⟩:=hr;have HR:Hid (∀ W,Below w.heap.size w W->∀ j,j<n->W.cell? ⟨g,j,none⟩=some (.string (ws j))):=fun W kW j hj=>a0a kW (hc j hj)
 have WR:Hid (∀ j:Nat,j<30->IntKind.i64.wrap ((j:Int))=(j:Int)):=fun j hj=>a0i (by omega) (by omega)
 have n0:(i:Int)<(n:Int):=by omega
 have n1:(i:Int)+1<(n:Int):=by omega
 have q1:(0:Int)<=(i:Int)+1:=by omega
 have v1:IntKind.i64.wrap ((i:Int)+1)=(i:Int)+1:=a0i (by omega) (by omega);have v2:IntKind.i64.wrap ((i:Int)+2)=(i:Int)+2:=a0i (by omega) (by omega);have HH:=a0b (zA hp (zA h3 (zA hk ht)));have hki:i+2<=k/\k<=i+3:=by omega
 clear hc hp h3 hk ht
 go_enter Tryz.func180,Tryz.ntmps180
 go_upto_region 1 with fail
 change Code.wp _ _ _ _ (w.alloc (ruZ ⟨#[]⟩ 0));generalize w.alloc (ruZ ⟨#[]⟩ 0)=X at *;have y0:=HR.out _ P0.out.bl i (by omega);have y1:=HR.out _ P0.out.bl (i+1) (by omega);have N1:=a0b (fun wx=>NM.out (i+1) wx)
 have HE:Hid (ruR (ruW ws i k pc acc tm)=.agg #[.string (ws i),.int .i64 (b4g (ws (i+1)) 1 7),.bool (isd acc 0),.bool (isd acc 1),.bool (isd acc 2),.bool (isd acc 3),.bool (isd acc 4),.bool (isd acc 5),.bool (isd acc 6),.int .i64 (g2R (ws (k+1))),.int .i64 (c5N (ws (k+3))),.int .i64 (b4g (ws (k+5)) 1 7),.int .i64 (if tm then b4g (ws (k+7)) 1 7 else 0),.int .i64 (if tm then 0 else g2R (ws (k+7)))]):=by
  rw[HH.out.1];rfl
 generalize ws i=kw at *;generalize b4g (ws (i+1)) 1 7=ev at *;generalize ws (i+1)=ew at *
 go_cut [5] from 8 to 18 (fun v5 wx=>∃ b,v5=.pointer (some ⟨b,0,none⟩)/\KP w wx [(b,ruZ kw ev),(w.heap.size,ruZ ⟨#[]⟩ 0)])
 case first =>
  have yA:∀ o,(X.alloc o).cell? ⟨g,i,none⟩=some (.string kw):=fun o=>a0a ((zr _ _).alloc (zq _) _) y0
  have yB:∀ o,(X.alloc o).cell? ⟨g,i+1,none⟩=some (.string ew):=fun o=>a0a ((zr _ _).alloc (zq _) _) y1
  go_region_with (first
   |(go_at_call 126;refine (N1.out _).mono ?_;rintro e w4 ⟨rfl,hbf⟩;have PB:=a0b (((P0.out.alloc _).later (a0q _)).later hbf);obtain⟨⟨b0,b1,b2,b3,b4,b5,b6,b7,b8,b9,b10,b11,b12,b13⟩,bf⟩:=g7z (kw:=⟨#[]⟩) (ev:=0) (m:=fun _=>false) (fr:=0) (mn:=0) (mi:=0) (ti:=0) (un:=0) (f9I hbf);have kX:Below X.heap.size X w4:=a0j ((zr _ _).alloc (zq _) _).drew hbf (by simp);have y0':=a0a kX y0)
   |(go_at_call 126;refine (N1.out _).mono ?_;rintro e w4 ⟨rfl,hbf⟩;have kX:Below X.heap.size X w4:=a0j (a0q X) hbf (zq _);have y0':=a0a kX y0;have yC:∀ o,(w4.alloc o).cell? ⟨g,i,none⟩=some (.string kw):=fun o=>a0a ((zr _ _).alloc (zq _) _) y0'))
  all_goals
   go_wp2_with fail
   go_meet
   first
    |(
     have PB:=PB.out.put14 (.string kw) (.int .i64 ev) (.bool false) (.bool false) (.bool false) (.bool false) (.bool false) (.bool false) (.bool false) (.int .i64 0) (.int .i64 0) (.int .i64 0) (.int .i64 0) (.int .i64 0)
     exact⟨_,rfl,PB⟩)
    |exact⟨_,rfl,(P0.out.later kX).alloc _⟩
 case rest =>
  obtain⟨b,rfl,hP⟩:=hcut;have HP:=a0b hP;clear hP y0 y1 P0 n0 n1 q1 v1;obtain⟨⟨c0,_⟩,_⟩:=g7z HP.out.at0
  go_upto_if 23 with fail
  go_cut [1] (fun v wx=>v=.int .i64 k/\KP w wx [(b,ruX kw ev (isd acc) 0 0 0 0 0),(w.heap.size,ruZ ⟨#[]⟩ 0)])
  case first =>
   rcases HH.out.2.2.1 with ⟨hp2,hkk,on1,on2⟩|⟨hp2,hkk,hacc⟩
   ·have HO:=a0b (zA on1 on2);have hw:(kw.toList==[119,101,101,107,108,121])=true:=by rw[HH.out.1,hp2];decide +kernel
    clear on1 on2;subst hkk;rw[hw];have y2:=HR.out _ HP.out.bl (i+2) (by omega);have n2:(i:Int)+2<(n:Int):=by omega
    have p2:(0:Int)<=(i:Int)+2:=by omega
    have v3:IntKind.i64.wrap ((i:Int)+3)=(i:Int)+3:=a0i (by omega) (by omega)
    go_upto_region 5 with (first|(go_at_call 129;refine (ON.out (i+2) _).mono ?_;rintro e w2 ⟨⟨acc',rfl,ha⟩,hb⟩;obtain rfl:acc'=acc:=Option.some.inj ((ha HO.out.1).symm.trans HO.out.2);replace HP:=a0b (HP.out.later hb);clear hb ha y2;simp only[a3E]))
    have BX:=a0p w2 (.cells #[.bool (isd acc' 0),.bool (isd acc' 1),.bool (isd acc' 2),.bool (isd acc' 3),.bool (isd acc' 4),.bool (isd acc' 5),.bool (isd acc' 6)] 159);have a0:=d0h BX 0 rfl;have a1:=d0h BX 1 rfl;have a2:=d0h BX 2 rfl;have a3:=d0h BX 3 rfl;have a4:=d0h BX 4 rfl;have a5:=d0h BX 5 rfl;have a6:=d0h BX 6 rfl;replace HP:=a0b (HP.out.later ((zr _ w2).alloc (zq _) (.cells #[.bool (isd acc' 0),.bool (isd acc' 1),.bool (isd acc' 2),.bool (isd acc' 3),.bool (isd acc' 4),.bool (isd acc' 5),.bool (isd acc' 6)] 159)));obtain⟨⟨_,_,c2,c3,c4,c5,c6,c7,c8,_⟩,bf⟩:=g7z HP.out.at0;clear BX c0
    go_wp2_with fail
    go_meet
    exact⟨by simp,HP.out.ruM (isd acc')⟩
   ·have hw:(kw.toList==[119,101,101,107,108,121])=false:=by
     rw[HH.out.1];rcases HH.out.2.1 with e|e|e
     ·rw[e];decide +kernel
     ·exact (hp2 e).elim
     ·rw[e];decide +kernel
    subst hkk hacc;rw[hw]
    go_wp2_with fail
    go_meet
    exact⟨by simp,HP.out⟩
  case rest =>
   obtain⟨rfl,hP⟩:=hcut;replace HP:=a0b hP;clear hP c0;have w1:IntKind.i64.wrap ((k:Int)+1)=(k:Int)+1:=a0i (by omega) (by omega);have m1:(k:Int)+1<(n:Int):=by omega
   have p1:(0:Int)<=(k:Int)+1:=by omega
   have w3:IntKind.i64.wrap ((k:Int)+3)=(k:Int)+3:=a0i (by omega) (by omega);have m3:(k:Int)+3<(n:Int):=by omega
   have p3:(0:Int)<=(k:Int)+3:=by omega
   have w5:IntKind.i64.wrap ((k:Int)+5)=(k:Int)+5:=a0i (by omega) (by omega);have m5:(k:Int)+5<(n:Int):=by omega
   have p5:(0:Int)<=(k:Int)+5:=by omega
   have w6:IntKind.i64.wrap ((k:Int)+6)=(k:Int)+6:=a0i (by omega) (by omega);have m6:(k:Int)+6<(n:Int):=by omega
   have p6:(0:Int)<=(k:Int)+6:=by omega
   have w7:IntKind.i64.wrap ((k:Int)+7)=(k:Int)+7:=a0i (by omega) (by omega);have m7:(k:Int)+7<(n:Int):=by omega
   have p7:(0:Int)<=(k:Int)+7:=by omega
   have y1:=HR.out _ HP.out.bl (k+1) (by omega)
   go_upto_region 8 with (first|(go_at_call 187;refine (DT.out (k+1) _).mono ?_;rintro e w2 ⟨rfl,hb⟩;replace HP:=a0b (HP.out.later hb);obtain⟨⟨_,_,_,_,_,_,_,_,_,cz,_⟩,bf⟩:=g7z HP.out.at0;have fz:=bf 9;clear hb bf y1))
   replace HP:=a0b (HP.out.ru9 (g2R (ws (k+1))));generalize w2.setCell ⟨b,9,none⟩ (.int .i64 (g2R (ws (k+1))))=Z9 at HP ⊢;clear cz fz;have y3:=HR.out _ HP.out.bl (k+3) (by omega)
   go_upto_region 9 with (first|(go_at_call 188;refine (CK.out (k+3) _).mono ?_;rintro e w2 ⟨rfl,hb⟩;replace HP:=a0b (HP.out.later hb);obtain⟨⟨_,_,_,_,_,_,_,_,_,_,cz,_⟩,bf⟩:=g7z HP.out.at0;have fz:=bf 10;clear hb bf y3))
   replace HP:=a0b (HP.out.ru10 (c5N (ws (k+3))));generalize w2.setCell ⟨b,10,none⟩ (.int .i64 (c5N (ws (k+3))))=Z10 at HP ⊢;clear cz fz;have y5:=HR.out _ HP.out.bl (k+5) (by omega)
   go_upto_region 10 with (first|(go_at_call 126;refine (NM.out (k+5) _).mono ?_;rintro e w2 ⟨rfl,hb⟩;replace HP:=a0b (HP.out.later hb);obtain⟨⟨_,_,_,_,_,_,_,_,_,_,_,cz,_⟩,bf⟩:=g7z HP.out.at0;have fz:=bf 11;clear hb bf y5))
   replace HP:=a0b (HP.out.ru11 (b4g (ws (k+5)) 1 7));generalize w2.setCell ⟨b,11,none⟩ (.int .i64 (b4g (ws (k+5)) 1 7))=Z11 at HP ⊢;clear cz fz;have y6:=HR.out _ HP.out.bl (k+6) (by omega);have y7:=HR.out _ HP.out.bl (k+7) (by omega);have ht:=HH.out.2.2.2
   go_upto_if 62 with fail
   go_cut [] (fun wx=>KP w wx [(b,ruX kw ev (isd acc) (g2R (ws (k+1))) (c5N (ws (k+3))) (b4g (ws (k+5)) 1 7) (if tm then b4g (ws (k+7)) 1 7 else 0) (if tm then 0 else g2R (ws (k+7)))),(w.heap.size,ruZ ⟨#[]⟩ 0)])
   case first =>
    cases tm
    ·go_wp2_with (first|(go_at_call 187;refine (DT.out (k+7) _).mono ?_;rintro e w2 ⟨rfl,hb⟩;replace HP:=a0b (HP.out.later hb);obtain⟨⟨_,_,_,_,_,_,_,_,_,_,_,_,_,cz⟩,bf⟩:=g7z HP.out.at0;have fz:=bf 13;clear hb bf y6 y7))
     go_meet
     exact HP.out.ru13 (g2R (ws (k+7)))
    ·go_wp2_with (first|(go_at_call 126;refine (NM.out (k+7) _).mono ?_;rintro e w2 ⟨rfl,hb⟩;replace HP:=a0b (HP.out.later hb);obtain⟨⟨_,_,_,_,_,_,_,_,_,_,_,_,cz,_⟩,bf⟩:=g7z HP.out.at0;have fz:=bf 12;clear hb bf y6 y7))
     go_meet
     exact HP.out.ru12 (b4g (ws (k+7)) 1 7)
   case rest =>
    have HP:=a0b hcut;clear hcut y6 y7 ht;generalize g2R (ws (k+1))=fr at *;generalize c5N (ws (k+3))=mn at *;generalize b4g (ws (k+5)) 1 7=mi at *;generalize (if tm then b4g (ws (k+7)) 1 7 else 0)=ti at *;generalize (if tm then 0 else g2R (ws (k+7)))=un at *;obtain⟨⟨c0,c1,c2,c3,c4,c5,c6,c7,c8,c9,c10,c11,c12,c13⟩,_⟩:=g7z HP.out.at0;obtain⟨⟨d0,d1,d2,d3,d4,d5,d6,d7,d8,d9,d10,d11,d12,d13⟩,df⟩:=g7z HP.out.swap.at0
    go_wp2_with fail
    have HF:=a0b (HP.out.swap.put14 (.string kw) (.int .i64 ev) (.bool (isd acc 0)) (.bool (isd acc 1)) (.bool (isd acc 2)) (.bool (isd acc 3)) (.bool (isd acc 4)) (.bool (isd acc 5)) (.bool (isd acc 6)) (.int .i64 fr) (.int .i64 mn) (.int .i64 mi) (.int .i64 ti) (.int .i64 un));clear d0 d1 d2 d3 d4 d5 d6 d7 d8 d9 d10 d11 d12 d13 c0 c1 c2 c3 c4 c5 c6 c7 c8 c9 c10 c11 c12 c13 df;generalize ((((((((((((((wc.setCell ⟨w.heap.size,0,none⟩ (.string kw)).setCell ⟨w.heap.size,1,none⟩ (.int .i64 ev)).setCell ⟨w.heap.size,2,none⟩ (.bool (isd acc 0))).setCell ⟨w.heap.size,3,none⟩ (.bool (isd acc 1))).setCell ⟨w.heap.size,4,none⟩ (.bool (isd acc 2))).setCell ⟨w.heap.size,5,none⟩ (.bool (isd acc 3))).setCell ⟨w.heap.size,6,none⟩ (.bool (isd acc 4))).setCell ⟨w.heap.size,7,none⟩ (.bool (isd acc 5))).setCell ⟨w.heap.size,8,none⟩ (.bool (isd acc 6))).setCell ⟨w.heap.size,9,none⟩ (.int .i64 fr)).setCell ⟨w.heap.size,10,none⟩ (.int .i64 mn)).setCell ⟨w.heap.size,11,none⟩ (.int .i64 mi)).setCell ⟨w.heap.size,12,none⟩ (.int .i64 ti)).setCell ⟨w.heap.size,13,none⟩ (.int .i64 un))=Y at HF ⊢;obtain⟨⟨d0,d1,d2,d3,d4,d5,d6,d7,d8,d9,d10,d11,d12,d13⟩,_⟩:=g7z (kw:=kw) (ev:=ev) (m:=isd acc) (fr:=fr) (mn:=mn) (mi:=mi) (ti:=ti) (un:=un) HF.out.at0;exact bodyPost_ret (v:=.agg #[.string kw,.int .i64 ev,.bool (isd acc 0),.bool (isd acc 1),.bool (isd acc 2),.bool (isd acc 3),.bool (isd acc 4),.bool (isd acc 5),.bool (isd acc 6),.int .i64 fr,.int .i64 mn,.int .i64 mi,.int .i64 ti,.int .i64 un]) (by simp[results,Tryz.results180,go_sem,d0,d1,d2,d3,d4,d5,d6,d7,d8,d9,d10,d11,d12,d13]) rfl ⟨by rw[HE.out],HF.out.bl⟩
open Desk (Ent St Rep a0g)
def g3x(k:Int)(name:ByteArray)(u:Int)(v:Value)(t:Int):Obj:=.cells #[.int .i64 0,.int .i64 k,.string name,.int .i64 u,v,.int .i64 t] 58 (0,0)
structure g3N(w:World)(g n:Nat)(kw:ByteArray)(k long:Int):Prop where
 ho:(kw.toList==[104,111,108,100])=decide (k=2)
 wa:(kw.toList==[119,97,105,116])=decide (k=3)
 lo:(k=1/\long=0)\/((k=2\/k=3)/\5<n/\∃ t:ByteArray,t.size<=160/\w.cell? ⟨g,5,none⟩=some (.string t)/\b4g t 1 7=long)
 l0:0<=long/\long<=1048320
theorem f2m(h:DD w d s xs F)(hg:0<=s.given/\s.given<=60)(hle:(s.es.length:Int)<=s.given)(hn:0<=s.now/\s.now<=1048320){name ut ft tt:ByteArray}{k long:Int}(hk:g3N w g n kw k long)(hl:4<n)(z2:ut.size<=160)(z3:ft.size<=160)(z4:tt.size<=160)(hu:1<=b4g ut 1 7/\b4g ut 1 7<=9)(htl:0<=g2T tt/\g2T tt<=1048320)(h0:w.cell? ⟨g,0,none⟩=some (.string kw))(h1:w.cell? ⟨g,1,none⟩=some (.string name))(h2:w.cell? ⟨g,2,none⟩=some (.string ut))(h3:w.cell? ⟨g,3,none⟩=some (.string ft))(h4:w.cell? ⟨g,4,none⟩=some (.string tt)):
  Calls Tryz.prog 173 #[.pointer (some ⟨d,0,none⟩),.slice (some ⟨g,0,none⟩) n c] w (d1S w d F xs (a0g s (.enter k name (b4g ut 1 7) (g2T ft) (g2T tt) long))):=by
 have P0:=a0b ((KP.nil w).alloc a0f);have H:=a0b h;have HK:=a0b hk;have i0:(0:Int)<(n:Int):=by omega
 have i1:(1:Int)<(n:Int):=by omega
 have i2:(2:Int)<(n:Int):=by omega
 have i3:(3:Int)<(n:Int):=by omega
 have i4:(4:Int)<(n:Int):=by omega
 have y0:=a0a P0.out.bl h0;have y1:=a0a P0.out.bl h1;have y2:=a0a P0.out.bl h2;have y3:=a0a P0.out.bl h3;have y4:=a0a P0.out.bl h4;clear h hk
 go_enter Tryz.func173,Tryz.ntmps173
 go_upto_region 1 with fail
 change Code.wp _ _ _ _ (w.alloc a0f);generalize w.alloc a0f=X at *;have NM:=a0b (fun wx=>b0E ut 1 7 wx z2 (by omega) (by omega));generalize b4g ut 1 7=u at *
 go_cut [5] from 12 to 19 (fun v5 wx=>∃ b,v5=.pointer (some ⟨b,0,none⟩)/\KP w wx [(b,g3x 1 name u c7N 0),(w.heap.size,a0f)])
 case first =>
  have yA1:∀ o,(X.alloc o).cell? ⟨g,1,none⟩=some (.string name):=fun o=>a0a ((zr _ _).alloc (zq _) _) y1
  have yA2:∀ o,(X.alloc o).cell? ⟨g,2,none⟩=some (.string ut):=fun o=>a0a ((zr _ _).alloc (zq _) _) y2
  go_region_with (first
   |(go_at_call 126;refine (NM.out _).mono ?_;rintro e w4 ⟨rfl,hbf⟩;have PB:=a0b (((P0.out.alloc _).later (a0q _)).later hbf);have bz:=f9I hbf;have b0:=e0T bz;have b1:=e5p bz;have b2:=e0S bz;have b3:=e0R bz;have b4:=e0P bz;have b5:=e5o bz;have bf:=f0l bz;have kX:Below X.heap.size X w4:=a0j ((zr _ _).alloc (zq _) _).drew hbf (zq _);have y1':=a0a kX y1;clear hbf)
   |(go_at_call 126;refine (NM.out _).mono ?_;rintro e w4 ⟨rfl,hbf⟩;have kX:Below X.heap.size X w4:=a0j (a0q X) hbf (zq _);have y1':=a0a kX y1;have yB:∀ o,(w4.alloc o).cell? ⟨g,1,none⟩=some (.string name):=fun o=>a0a ((zr _ _).alloc (zq _) _) y1'))
  all_goals
   go_wp2_with fail
   go_meet
   first
    |(
     have PB:=PB.out.g0s (.int .i64 0) (.int .i64 1) (.string name) (.int .i64 u) c7N (.int .i64 0)
     exact⟨_,rfl,PB⟩)
    |exact⟨_,rfl,(P0.out.later kX).alloc _⟩
 case rest =>
  obtain⟨b,rfl,hP⟩:=hcut;have HP:=a0b hP;have y3:=a0a hP.bl h3;clear hP y0 y1 y2 y4 P0 NM
  go_wp2_with fail
  refine (d0T ft _ z3).mono ?_;rintro e w2 ⟨rfl,hb⟩;replace HP:=a0b (HP.out.later hb);have y4:=a0a HP.out.bl h4;clear hb y3
  go_wp2_with fail
  refine (d0T tt _ z4).mono ?_;rintro e w3 ⟨rfl,hb⟩;replace HP:=a0b (HP.out.later hb);clear hb y4;generalize g2T ft=fr at *;generalize g2T tt=til at *;obtain⟨T,hT⟩:∃ T,T=if k=1 then 0 else s.now+long:=⟨_,rfl⟩
  have HT:=a0b hT;clear hT;have hD:=H.out.later HP.out.bl;have n3:=hD.rd.c3;have HD:=a0b hD;clear hD;have y0:=a0a HP.out.bl h0;have b1:=HP.out.hc 1 rfl;have b5:=HP.out.hc 5 rfl;have bf:=HP.out.hf;have hl0:=HK.out.l0;have k2:=HK.out.ho;have k3:=HK.out.wa;have c0:Hid (0<=til/\til<=1048320):=htl;have HE:Hid (∃ er,er=Desk.a1M s k name u fr til long):=⟨_,rfl⟩;obtain⟨er,her⟩:=HE.out;have HER:=a0b her;clear her HE;obtain⟨NL,hNL⟩:∃ NL,NL=s.now+long:=⟨_,rfl⟩;have HNL:=a0b hNL;have ENT:Hid (er=if Desk.a0S s.ts name u≠0 then Desk.a0S s.ts name u else if til<=fr\/1048320<NL then 6 else if s.given=60 then 5 else if k=3 then (if Desk.a1Y s.es=6 then 5 else 0) else if Desk.a1e s.ts s.es name u [(fr,til)] then 0 else 8):=by rw[hNL];exact HER.out
  have HDO:Hid ((er≠0->a0g s (.enter k name u fr til long)=(s,⟨er,0,0,[],[],[],[]⟩))/\(er=0->a0g s (.enter k name u fr til long)=Desk.a2t s ⟨0,k,name,u,[(fr,til)],T⟩)):=by
   have e2:=HER.out;have e3:=HT.out;refine⟨fun h=>?_,fun h=>?_⟩
   ·simp only[a0g,<- e2,h,ne_eq,not_false_eq_true,if_true];rfl
   ·simp only[a0g,<- e2,h,ne_eq,not_true_eq_false,if_false];rw[e3];rfl
  have ENTG:Hid (er=0->s.given≠60):=by
   intro e1 e2;have:=ENT.out;rw[e1,e2] at this
   split at this
   ·omega
   ·split at this <;> simp at this
  clear hNL HER;rcases HK.out.lo with ⟨hkk,rfl⟩|⟨hkk,h5,t,ht,c5,hlo⟩
  case' inl =>
   have PK:Hid (KP w w3 [(b,g3x k name u c7N T),(w.heap.size,a0f)]):=by rw[HT.out,if_pos hkk,hkk];exact HP.out
   rw[hkk] at k2 k3;simp only[show ((1:Int)=2)=False from by simp,show ((1:Int)=3)=False from by simp,decide_false] at k2 k3;clear HP b5 n3 HD
   go_upto_region 13 with fail
   generalize w3=Z at *;clear b1 bf
  case' inr =>
   have hkn:k≠1:=by omega
   have i5:(5:Int)<(n:Int):=by omega
   have hTn:Hid (T=s.now+long):=by show _=_;rw[HT.out,if_neg hkn]
   have NM:=a0b (fun wx=>b0E t 1 7 wx ht (by omega) (by omega));rw[hlo] at NM;have PK:=a0b (HP.out.put 1 (.int .i64 k));have c5':=a0a PK.out.bl c5;clear c5 HP HD n3 b5 hlo;rcases hkk with hkk|hkk
   all_goals
    rw[hkk] at k2 k3 PK c5';simp only[show ((3:Int)=2)=False from by simp,show ((2:Int)=3)=False from by simp,decide_false,decide_true] at k2 k3
    go_upto_region 11 with fail
    generalize w3.setCell _ _=Z0 at *
    go_wp2_with fail
    refine (NM.out _).mono ?_;rintro e w5 ⟨rfl,hb⟩;replace PK:=a0b (PK.out.later hb);have n3:=(H.out.later PK.out.bl).rd.c3;have b5:=PK.out.hc 5 rfl;have bf:=PK.out.hf;clear hb
    go_upto_region 13 with fail
    replace PK:Hid (KP w (w5.setCell ⟨b,5,none⟩ (.int .i64 (s.now+long))) [(b,g3x k name u c7N T),(w.heap.size,a0f)]):=by rw[hkk,hTn.out];exact PK.out.put 5 _
    clear b5 bf n3 b1;generalize w5.setCell _ _=Z at *
  all_goals
   clear hkk;obtain⟨vN,hvN⟩:∃ v,v=c7N:=⟨_,rfl⟩;have ON:Hid (Z.ownsRow Z.heap.size 60 2 vN ([]:List (Int × Int)).length (([]:List (Int × Int)).flatMap d0k)/\vN.ownBlock=none):=by rw[hvN];exact⟨World.ownsRow_nil Z Z.heap.size _ _,rfl⟩
   rw[<- hvN] at PK;clear hvN;have b4:=PK.out.hc 4 rfl;have bf:=PK.out.hf 4;have hZ:=PK.out.bl.size;have hbZ:b<Z.heap.size:=PK.out.lt (List.mem_cons_self ..);have hQZ:w.heap.size<Z.heap.size:=PK.out.lt (q:=(w.heap.size,a0f)) (by simp)
   go_wp2_with (first|(at_builtin;refine g2l rfl _ _ rfl ON.out.1 fr til rfl rfl (by simp) (zq _) ?_;intro gs cs w6 ho6 ko6;have kb6:Below Z.heap.size Z w6:=(by rw[ON.out.2] at ko6;exact Off.blw ko6);have b4:=a0a kb6 b4;have bf:=(a0b ((PK.out.later kb6).hf 4)).out;have b2:=(PK.out.later kb6).hc 2 rfl;have b3:=(PK.out.later kb6).hc 3 rfl))
   replace PK:Hid (KP w (w6.setCell ⟨b,4,none⟩ (.slice (some ⟨gs,0,none⟩) 1 cs)) [(b,g3x k name u (.slice (some ⟨gs,0,none⟩) 1 cs) T),(w.heap.size,a0f)]):=(PK.out.later kb6).put 4 _;have hgs:Z.heap.size<=gs:=d0G ho6 rfl;have hgs2:gs<w6.heap.size:=c7O ho6 rfl;have RS:Hid (RSL (w6.setCell ⟨b,4,none⟩ (.slice (some ⟨gs,0,none⟩) 1 cs)) gs [(fr,til)]):=(e9c ho6).2.off (Off.set0 ..) (by simp;omega);have hz6:(w6.setCell ⟨b,4,none⟩ (.slice (some ⟨gs,0,none⟩) 1 cs)).heap.size=w6.heap.size:=by simp
   clear b4 bf ho6 ko6 kb6 b2 b3;rw[<- hz6] at hgs2;clear hz6;generalize w6.setCell ⟨b,4,none⟩ _=Y at *;have DY:=a0b (H.out.later PK.out.bl);obtain⟨_,b1,b2,b3,b4,_⟩:=PK.out.six;have n2:=DY.out.rd.c2;have n3:=DY.out.rd.c3;have AK:=a0b (DY.out.asked name u);have WA:=a0b DY.out.waiting;have FT:=a0b (DY.out.fits (u:=u) (cb:=cs) name RS.out (by simp) (by omega) hu.2);refine AK.out.mono ?_;rintro e w7 ⟨rfl,rfl⟩;clear AK;generalize Desk.a0S s.ts name u=an at *;generalize Desk.a1Y s.es=wn at *;generalize Desk.a1e s.ts s.es name u [(fr,til)]=fb at *
   go_upto_block 1 with fail
   go_cut [9,10,11] from 65 to 104 (fun v9 _ _ wx=>v9=.int .i64 er/\KP w wx [(b,g3x k name u (.slice (some ⟨gs,0,none⟩) 1 cs) T),(w.heap.size,a0f)]/\RSL wx gs [(fr,til)]/\gs<wx.heap.size)
   case first =>
    by_cases q1:an=0
    ·subst q1
     by_cases q2:til<=fr
     ·have e1:er=6:=by rw[ENT.out];simp[q2]
      go_wp2_with fail
      go_meet
      exact⟨by rw[e1],PK.out,RS.out,hgs2⟩
     ·by_cases q3:1048320<NL
      ·have e1:er=6:=by rw[ENT.out];simp[q3]
       rw[HNL.out] at q3
       try simp only[Int.add_zero] at q3
       try (exfalso;omega)
       all_goals
        go_wp2_with fail
        go_meet
        exact⟨by rw[e1],PK.out,RS.out,hgs2⟩
      ·rw[if_neg (by simp),if_neg (by simp only[not_or];exact⟨q2,q3⟩)] at ENT;rw[HNL.out] at q3
       try simp only[Int.add_zero] at q3
       by_cases q4:s.given=60
       ·have e1:er=5:=by rw[ENT.out,if_pos q4]
        have q4':(s.given==60)=true:=by simpa using q4
        go_wp2_with fail
        go_meet
        exact⟨by rw[e1],PK.out,RS.out,hgs2⟩
       ·rw[if_neg q4] at ENT;have q4':(s.given==60)=false:=by simpa using q4
        by_cases q5:k=3
        ·skip
         all_goals
          rw[if_pos q5] at ENT;have q5':(k==3)=true:=by simpa using q5
          by_cases q6:wn=6
          ·have e1:er=5:=by rw[ENT.out,if_pos q6]
           have q6':(wn==6)=true:=by simpa using q6
           go_wp2_with fail
           refine WA.out.mono ?_;rintro e w8 ⟨rfl,rfl⟩
           go_wp2_with fail
           go_meet
           exact⟨by rw[e1],PK.out,RS.out,hgs2⟩
          ·have e1:er=0:=by rw[ENT.out,if_neg q6]
           have q6':(wn==6)=false:=by simpa using q6
           go_wp2_with fail
           refine WA.out.mono ?_;rintro e w8 ⟨rfl,rfl⟩
           go_wp2_with fail
           go_meet
           exact⟨by rw[e1],PK.out,RS.out,hgs2⟩
        ·skip
         all_goals
          rw[if_neg q5] at ENT;have q5':(k==3)=false:=by simpa using q5
          go_wp2_with fail
          refine FT.out.mono ?_;rintro e w8 ⟨rfl,hb8⟩;have L8:=a0b (zA (PK.out.later hb8) (zA (RS.out.later hb8) (zL hgs2 hb8.size)));clear hb8
          cases fb
          ·have e1:er=8:=by rw[ENT.out];rfl
           go_wp2_with fail
           go_meet
           exact⟨by rw[e1],L8.out⟩
          ·have e1:er=0:=by rw[ENT.out];rfl
           go_wp2_with fail
           go_meet
           exact⟨by rw[e1],L8.out⟩
    ·have e1:er=an:=by rw[ENT.out,if_pos q1]
     have q1':(an != 0)=true:=by simpa using q1
     go_wp2_with fail
     go_meet
     exact⟨by rw[e1],PK.out,RS.out,hgs2⟩
   case rest =>
    obtain⟨rfl,hP,hR,hg3⟩:=hcut;have DC:=a0b (H.out.later hP.bl);have Q1:=a0b (Q7.of (hP.kb (w.heap.size,a0f) (by simp)));have HP:=a0b (zA hP (zA hR hg3));obtain⟨x0,x1,x2,x3,x4,x5⟩:=hP.six;clear hP hR hg3 b1 b2 b3 b4 n2 n3 WA FT ENT
    by_cases he:er=0
    ·subst he;have E9:=a0b (HDO.out.2 rfl)
     have hg59:Hid (s.es.length<60):=by
      show _<_;have:=ENTG.out rfl;omega
     have JN:Hid (Calls Tryz.prog 232 #[.pointer (some ⟨d,0,none⟩),.agg #[.int .i64 0,.int .i64 k,.string name,.int .i64 u,.slice (some ⟨gs,0,none⟩) 1 cs,.int .i64 T]] wc fun e w'=>e=.returned (e3T 0 (s.given+1))/\g3V wc d s.ts (xs++[(⟨s.given+1,k,name,u,[(fr,til)],T⟩,gs,cs)]) (s.given+1) s.now F w'):=(f5s d s.ts xs s.given s.now F (⟨0,k,name,u,[(fr,til)],T⟩,gs,cs) wc DC.out.rd HP.out.2.1 (fun e=>by have:=H.out.lt gs e;omega) HP.out.2.2 DC.out.lt (by have:=H.out.len;have:=H.out.el;omega) hg.1 (by omega))
     go_wp2_with fail
     refine JN.out.mono ?_;rintro e w8 ⟨rfl,hj⟩;obtain⟨F',hJ,hF',hO⟩:=DC.out.a5d (x:=(⟨0,k,name,u,[(fr,til)],T⟩,gs,cs)) ⟨hu.1,hu.2,by simp,by simp,by simp;omega⟩ hg59.out hj;have hQF:w.heap.size ∉ F:=fun e=>by have:=H.out.lt _ e;omega
     have hQ8:=hO.block w.heap.size (World.block_lt_of_cell? _ _ Q1.out.q0) hQF;have hwc:=HP.out.1.bl.size;have hQc:w.heap.size<wc.heap.size:=World.block_lt_of_cell? _ _ Q1.out.q0
     have HF:Hid (d1S w d F xs (Desk.a2t s ⟨0,k,name,u,[(fr,til)],T⟩) (.returned (a0s 0 0 (s.given+1) c7N c7N c7N c7N)) (a2w w8 w.heap.size (.int .i64 0) (.int .i64 0) (.int .i64 (s.given+1)) c7N c7N c7N c7N)):=by
      refine hJ.put7 (fun x hx=>(hF' x hx).imp id (fun e=>by omega)) ((Off.of_below HP.out.1.bl).trans hO) (zq _) (fun e=>?_) (fun x hx e=>?_) (fun x hx=>?_) 0 (s.given+1) _ _ _ _ _ _ _
      ·rcases hF' _ e with e|e
       ·exact hQF e
       ·omega
      ·rcases List.mem_append.1 hx with hx|hx
       ·have:=(H.out.rd.sp x hx).2.2;omega
       ·simp only[List.mem_singleton] at hx;subst hx;simp only at e;omega
      ·rcases List.mem_append.1 hx with hx|hx
       ·exact .inl ⟨x,hx,rfl⟩
       ·simp only[List.mem_singleton] at hx;subst hx;exact .inr (by simp only;omega)
     obtain⟨q0,q1,q2,q3,q4,q5,q6,fq⟩:=Q1.out.later hQ8;simp only[e3T];clear hJ hF' hO hj JN
     go_wp2_with fail
     exact bodyPost_ret (v:=a0s 0 0 (s.given+1) c7N c7N c7N c7N) (by simp[results,Tryz.results173,go_sem,a0s,c7N,q0,q1,q2,q3,q4,q5,q6]) rfl (by rw[E9.out];exact HF.out)
    ·have he':(er != 0)=true:=by simpa using he
     have HF:Hid (d1S w d F xs (s,⟨er,0,0,[],[],[],[]⟩) (.returned (a0s er 0 0 c7N c7N c7N c7N)) (a2w wc w.heap.size (.int .i64 er) (.int .i64 0) (.int .i64 0) c7N c7N c7N c7N)):=H.out.said HP.out.1.bl (zq _) er 0 (.int .i64 er) (.int .i64 0) (.int .i64 0) c7N c7N c7N c7N;have E9:=a0b (HDO.out.1 he);obtain⟨q0,q1,q2,q3,q4,q5,q6,fq⟩:=Q1.out;clear he
     go_wp2_with fail
     exact bodyPost_ret (v:=a0s er 0 0 c7N c7N c7N c7N) (by simp[results,Tryz.results173,go_sem,a0s,c7N,q0,q1,q2,q3,q4,q5,q6]) rfl (by rw[E9.out];exact HF.out)
theorem KP.off{wy:World}{G:List Nat}(h:KP w wx L)(k:Off G wx wy)(h1:∀ x∈G,w.heap.size<=x)(h2:∀ q∈L,q.1 ∉ G):KP w wy L :=
 ⟨h.bl.trans (g9F k h.bl.size h1),fun q hq=>(k.block _ (h.lt hq) (h2 q hq)).trans (h.kb q hq),h.lo,h.nd⟩
theorem KP.tail{q:Nat × Obj}(h:KP w wx (q :: L)):KP w wx L:=h.less (List.sublist_cons_self ..)
theorem DD.joinAns{wc w8:World}(H:DD w d s xs F){e:Ent}{gs cs:Nat}(hb:Below w.heap.size w wc)(hgs:w.heap.size<gs)(hQ:w.heap.size<wc.heap.size)(hx:EB e)(hl:s.es.length<60)(hj:g3V wc d s.ts (xs++[({ e with id:=s.given+1 },gs,cs)]) (s.given+1) s.now F w8)(a b c f g i j:Value):
  d1S w d F xs (Desk.a2t s e) (.returned (a0s 0 0 (s.given+1) c7N c7N c7N c7N)) (a2w w8 w.heap.size a b c f g i j)/\w8.heap[w.heap.size]?=wc.heap[w.heap.size]?:=by
 obtain⟨F',hJ,hF',hO⟩:=(H.later hb).a5d (x:=(e,gs,cs)) hx hl hj;have hQF:w.heap.size ∉ F:=fun e=>by have:=H.lt _ e;omega
 refine⟨hJ.put7 (fun x hx=>(hF' x hx).imp id (fun e=>by omega)) ((Off.of_below hb).trans hO) (zq _) (fun e=>?_) (fun x hx e=>?_) (fun x hx=>?_) 0 (s.given+1) _ _ _ _ _ _ _,hO.block _ hQ hQF⟩
 ·rcases hF' _ e with e|e
  ·exact hQF e
  ·omega
 ·rcases List.mem_append.1 hx with hx|hx
  ·have:=(H.rd.sp x hx).2.2;omega
  ·rw[List.mem_singleton.1 hx] at e;simp only at e;omega
 ·rcases List.mem_append.1 hx with hx|hx
  ·exact .inl ⟨x,hx,rfl⟩
  ·rw[List.mem_singleton.1 hx];exact .inr (by simp only;omega)
theorem f9b(h:DD w d s xs F)(hg:0<=s.given/\s.given<=60)(hle:(s.es.length:Int)<=s.given)(hc:∀ j,j<n->w.cell? ⟨g,j,none⟩=some (.string (ws j)))(hz:∀ j,(ws j).size<=160)(hr:h4y ws 3 k pc acc tm)(hn:k+7<n)(hu:1<=b4g (ws 2) 1 7/\b4g (ws 2) 1 7<=9)(hf:Rd.a6s (ruW ws 3 k pc acc tm)):
  Calls Tryz.prog 174 #[.pointer (some ⟨d,0,none⟩),.slice (some ⟨g,0,none⟩) n c] w (d1S w d F xs (a0g s (.series (ws 1) (b4g (ws 2) 1 7) (ruW ws 3 k pc acc tm)))):=by
 have P0:=a0b ((KP.nil w).alloc a0f);have H:=a0b h;have RL:Hid (∀ W,Below w.heap.size w W->Calls Tryz.prog 180 #[.slice (some ⟨g,0,none⟩) n c,.int .i64 3] W fun e w'=>e=.returned (ruR (ruW ws 3 k pc acc tm))/\Below W.heap.size W w'):=fun W kW=>e7f (i:=3) (fun j hj=>a0a kW (hc j hj)) hz (by omega) hr hn
 have DY:=a0b (fun W=>f6Q _ hf W);have hk:3+2<=k:=by rcases hr.hk with e|e <;> omega
 have i1:(1:Int)<(n:Int):=by omega
 have i2:(2:Int)<(n:Int):=by omega
 have y1:=a0a P0.out.bl (hc 1 (by omega));have y2:=a0a P0.out.bl (hc 2 (by omega));have NM:=a0b (fun wx=>b0E (ws 2) 1 7 wx (hz 2) (by omega) (by omega));generalize b4g (ws 2) 1 7=u at *;generalize ws 1=name at *;generalize ws 2=ut at *;generalize ruW ws 3 k pc acc tm=q at *;simp only[ruR,ruL] at RL DY;have ES:=a0b (zA hf (Rd.a5K hf).2);clear h hc hz hr hf hk hn
 go_enter Tryz.func174,Tryz.ntmps174
 go_upto_region 1 with fail
 change Code.wp _ _ _ _ (w.alloc a0f);generalize w.alloc a0f=X at *
 go_cut [5] from 12 to 19 (fun v5 wx=>∃ b,v5=.pointer (some ⟨b,0,none⟩)/\KP w wx [(b,g3x 1 name u c7N 0),(w.heap.size,a0f)])
 case first =>
  have yA1:∀ o,(X.alloc o).cell? ⟨g,1,none⟩=some (.string name):=fun o=>a0a ((zr _ _).alloc (zq _) _) y1
  have yA2:∀ o,(X.alloc o).cell? ⟨g,2,none⟩=some (.string ut):=fun o=>a0a ((zr _ _).alloc (zq _) _) y2
  go_region_with (first
   |(go_at_call 126;refine (NM.out _).mono ?_;rintro e w4 ⟨rfl,hbf⟩;have PB:=a0b (((P0.out.alloc _).later (a0q _)).later hbf);have bz:=f9I hbf;have b0:=e0T bz;have b1:=e5p bz;have b2:=e0S bz;have b3:=e0R bz;have b4:=e0P bz;have b5:=e5o bz;have bf:=f0l bz;have kX:Below X.heap.size X w4:=a0j ((zr _ _).alloc (zq _) _).drew hbf (zq _);have y1':=a0a kX y1;clear hbf)
   |(go_at_call 126;refine (NM.out _).mono ?_;rintro e w4 ⟨rfl,hbf⟩;have kX:Below X.heap.size X w4:=a0j (a0q X) hbf (zq _);have y1':=a0a kX y1;have yB:∀ o,(w4.alloc o).cell? ⟨g,1,none⟩=some (.string name):=fun o=>a0a ((zr _ _).alloc (zq _) _) y1'))
  all_goals
   go_wp2_with fail
   go_meet
   first
    |(
     have PB:=PB.out.g0s (.int .i64 0) (.int .i64 1) (.string name) (.int .i64 u) c7N (.int .i64 0)
     exact⟨_,rfl,PB⟩)
    |exact⟨_,rfl,(P0.out.later kX).alloc _⟩
 case rest =>
  obtain⟨b,rfl,hP⟩:=hcut;have HP:=a0b hP;clear hP y1 y2 P0 NM;obtain⟨_,_,b2,b3,_,_⟩:=HP.out.six;have AK:=a0b ((H.out.later HP.out.bl).asked name u);have SD:Hid (∀ er Z,KP w Z [(w.heap.size,a0f)]->a0g s (.series name u q)=(s,Rep.error er)->d1S w d F xs (a0g s (.series name u q)) (.returned (a0s er 0 0 c7N c7N c7N c7N)) (a2w Z w.heap.size (.int .i64 er) (.int .i64 0) (.int .i64 0) c7N c7N c7N c7N)/\Q7 Z w.heap.size):=fun er Z k e=>⟨by rw[e];exact H.out.said k.bl (zq _) er 0 _ _ _ _ _ _ _,Q7.of k.at0⟩
  have D1:Hid (Desk.a0S s.ts name u≠0->a0g s (.series name u q)=(s,Rep.error (Desk.a0S s.ts name u))):=fun e=>by simp only[a0g,Desk.a2l,if_pos e]
  have D2:Hid (Desk.a0S s.ts name u=0->Rd.a6W q≠0->a0g s (.series name u q)=(s,Rep.error (Rd.a6W q))):=fun e e2=>by simp only[a0g,Desk.a2l,e,ne_eq,not_true_eq_false,if_false,e2,not_false_eq_true,if_true]
  have D3:Hid (Desk.a0S s.ts name u=0->Rd.a6W q=0->s.given=60->a0g s (.series name u q)=(s,Rep.error 5)):=fun e e2 e3=>by simp[a0g,Desk.a2l,e,e2,e3]
  have D4:Hid (Desk.a0S s.ts name u=0->Rd.a6W q=0->s.given≠60->a0g s (.series name u q)=if Desk.a1e s.ts s.es name u (Rd.a2M q (Rd.a0E q)) then Desk.a2t s ⟨0,1,name,u,Rd.a2M q (Rd.a0E q),0⟩ else (s,Rep.error 8)):=fun e e2 e3=>by
   simp only[a0g,Desk.a2l,e,e2,e3,ne_eq,not_true_eq_false,if_false]
   cases Desk.a1e s.ts s.es name u (Rd.a2M q (Rd.a0E q)) <;> simp
  go_wp2_with fail
  refine AK.out.mono ?_;rintro e w7 ⟨rfl,rfl⟩;clear AK;generalize Desk.a0S s.ts name u=an at *
  by_cases q1:an=0
  case neg =>
   have q1':(an != 0)=true:=by simpa using q1
   have E:=a0b (SD.out an _ HP.out.tail (D1.out q1));clear q1;obtain⟨q0,q1,q2,q3,q4,q5,q6,fq⟩:=E.out.2
   go_wp2_with fail
   exact bodyPost_ret (v:=a0s an 0 0 c7N c7N c7N c7N) (by simp[results,Tryz.results174,go_sem,a0s,c7N,q0,q1,q2,q3,q4,q5,q6]) rfl E.out.1
  subst q1;clear D1 b2 b3
  go_wp2_with fail
  refine (RL.out _ HP.out.bl).mono ?_;rintro e w2 ⟨rfl,hb⟩;replace HP:=a0b ((HP.out.later hb).alloc (ruB q));clear hb RL
  go_upto_region 6 with fail
  change Code.wp _ _ _ _ (w2.alloc (ruB q));obtain⟨rb,hrb⟩:∃ rb,rb=w2.heap.size:=⟨_,rfl⟩;rw[<- hrb] at HP ⊢;generalize w2.alloc (ruB q)=W at *;obtain⟨⟨c0,c1,c9,c10,c11,c12,c13⟩,cJ⟩:=ruC HP.out.at0;have j0:=cJ 0 (by omega);have j1:=cJ 1 (by omega);have j2:=cJ 2 (by omega);have j3:=cJ 3 (by omega);have j4:=cJ 4 (by omega);have j5:=cJ 5 (by omega);have j6:=cJ 6 (by omega);have hbW:b<W.heap.size:=HP.out.lt (q:=(b,g3x 1 name u c7N 0)) (by simp);clear cJ hrb
  go_wp2_with fail
  refine (DY.out _).mono ?_;rintro e w3 ⟨hb3,hd⟩;replace HP:=a0b (HP.out.later hb3);clear c0 c1 c9 c10 c11 c12 c13 j0 j1 j2 j3 j4 j5 j6 DY;rcases hd with ⟨he,v,rfl,ho⟩|⟨he,rfl⟩
  case inr =>
   have E:=a0b (SD.out (Rd.a6W q) _ HP.out.tail.tail (D2.out (by simp) he));generalize Rd.a6W q=er at *;have he':(er != 0)=true:=by simpa using he
   obtain⟨q0,q1,q2,q3,q4,q5,q6,fq⟩:=E.out.2;clear he
   go_wp2_with fail
   exact bodyPost_ret (v:=a0s er 0 0 c7N c7N c7N c7N) (by simp[results,Tryz.results174,go_sem,a0s,c7N,q0,q1,q2,q3,q4,q5,q6]) rfl E.out.1
  obtain⟨_,hne,hl40,hlate⟩:=ES.out.2 he;have HO:=a0b ho;have LT:=a0b hlate;have HD:=a0b he;have MM:=a0b (fun i (hi:i<(Rd.a0E q).length)=>zA (Rd.a4x ES.out.1 (zg hi)) (zA ES.out.1.m0 (zA ES.out.1.m1 (zA ES.out.1.i1 ES.out.1.i2))));obtain⟨va,vc,rfl⟩:=c9y ho;have LB:=a0b (zA (HP.out.lo (b,g3x 1 name u c7N 0) (by simp)) (zA (HP.out.lt (q:=(b,g3x 1 name u c7N 0)) (by simp)) (zA (HP.out.lt (q:=(rb,ruB q)) (by simp)) (zA (HP.out.lt (q:=(w.heap.size,a0f)) (by simp)) HP.out.bl.size))))
  have SPO:Hid (∀ x∈Rd.a2M q (Rd.a0E q),0<=x.2/\x.2<=2000000):=fun x hx=>by
   obtain⟨y,hy,rfl⟩:=List.mem_map.1 hx;have:=Rd.a4x ES.out.1 hy;have:=hlate y hy;have:=ES.out.1.f0;have:=ES.out.1.m0;have:=ES.out.1.i1;simp only;omega
  clear ho hlate he hb3;have hlen0:0<(Rd.a0E q).length:=List.length_pos_iff.2 hne
  go_wp2_with fail
  generalize w3=V at *;obtain⟨V0,hV0⟩:∃ V0,V0=V:=⟨_,rfl⟩;subst hV0
  go_loopw [9,10] (fun vi _ wr=>∃ (i:Nat) (vs:Value),i<=(Rd.a0E q).length/\vi=.int .i64 i/\KP w wr [(b,g3x 1 name u vs 0),(rb,ruB q),(w.heap.size,a0f)]/\wr.ownsRow V0.heap.size 60 2 vs (Rd.a2M q ((Rd.a0E q).take i)).length ((Rd.a2M q ((Rd.a0E q).take i)).flatMap d0k)/\Off [b] V0 wr) (fun vi _ _=>(Rd.a0E q).length-(intOf vi).toNat)
  case atStart=>exact⟨0,c7N,Nat.zero_le _,rfl,HP.out.swap,World.ownsRow_nil _ _ _ _,Off.refl _ _⟩
  case round =>
   obtain⟨i,vs,hi,rfl,hP,hown,hoff⟩:=hrel;have HR:=a0b (zA hP (zA hown hoff));clear hP hown hoff
   by_cases hlt:i<(Rd.a0E q).length
   ·have hlt':(i:Int)<((Rd.a0E q).length:Int):=by omega
    obtain⟨g2,cap,e,y⟩:=e4k HO.out (k:=i) (u:=.int .i64 (Rd.a0E q)[i]) (by rw[List.getElem?_map,List.getElem?_eq_getElem hlt];rfl);simp only[Value.slice.injEq,true_and] at e;obtain⟨rfl,rfl⟩:=e;have hg2:g2 ∉ [b]:=by have:=d0G HO.out (k:=g2) rfl;simp;omega
    have y':=HR.out.2.2.cell hg2 y;obtain⟨_,_,_,_,b4,_⟩:=HR.out.1.six;obtain⟨⟨_,_,_,c10,c11,_⟩,_⟩:=ruC (HR.out.1.kb (rb,ruB q) (by simp));obtain⟨⟨m1,m2⟩,m3,m4,m5,m6⟩:=MM.out i hlt;have hf0:=ES.out.1.f0
    have HT:Hid (Rd.a2M q ((Rd.a0E q).take (i+1))=Rd.a2M q ((Rd.a0E q).take i)++[(1440*(Rd.a0E q)[i]+q.mn,1440*(Rd.a0E q)[i]+q.mn+q.mi)]):=by
     show _=_;simp only[Rd.a2M];rw[List.take_succ_eq_append_getElem hlt,List.map_append];simp only[List.map_cons,List.map_nil,Int.mul_comm 1440]
    have hil:(Rd.a2M q ((Rd.a0E q).take i)).length<=1000000:=by simp[Rd.a2M];omega
    clear y;generalize (Rd.a0E q)[i]=x at *;have w1:IntKind.i64.wrap (1440*x)=1440*x:=a0i (by omega) (by omega);have w2:IntKind.i64.wrap (1440*x+q.mn)=1440*x+q.mn:=a0i (by omega) (by omega);have w3:IntKind.i64.wrap (1440*x+q.mn+q.mi)=1440*x+q.mn+q.mi:=a0i (by omega) (by omega)
    go_upto_region 12 with fail
    go_quiet (fail)
    go_upto_region 13 with fail
    generalize hWd:World.drewN wr _=Wd at *
    have kd:Hid (Below wr.heap.size wr Wd):=by
     rw[<- hWd];exact d7M (zr _ _) _
    clear hWd;have b4':=a0a kd.out b4;have c11':=a0a kd.out c11;have NB:Hid (∀ z∈vs.ownBlock.toList,V0.heap.size<=z):=fun z hz=>d0G HR.out.2.1 (Option.mem_toList.1 hz)
    have hbN:b ∉ vs.ownBlock.toList:=fun e=>by have:=NB.out b e;have:=LB.out.2.1;omega
    have PD:=a0b (HR.out.1.later kd.out);have OD:=a0b (a1g HR.out.2.1 kd.out);have hVd:V0.heap.size<=Wd.heap.size:=Nat.le_trans HR.out.2.2.size kd.out.size;clear b4 c10 c11
    go_wp2_with (first|(at_builtin;refine g2l rfl _ _ rfl OD.out (1440*x+q.mn) (1440*x+q.mn+q.mi) rfl rfl hil hVd ?_;intro gs cs w6 ho6 ko6;have b4:=ko6.cell hbN b4';have bf:=(ko6.frozen (o:=4) hbN (PD.out.lt (q:=(b,g3x 1 name u vs 0)) (by simp))).trans (PD.out.hf 4)))
    have P6:=a0b (PD.out.off ko6 (fun z hz=>Nat.le_trans LB.out.2.2.2.2 (NB.out z hz)) (fun z hz e=>by
     have:=NB.out _ e;have:=LB.out;simp only[List.mem_cons,List.not_mem_nil,or_false] at hz
     rcases hz with rfl|rfl|rfl <;> simp only at this <;> omega))
    have hgs:V0.heap.size<=gs:=d0G ho6 rfl;refine⟨⟨i+1,_,by omega,by go_num,P6.out.put 4 _,?_,?_⟩,by simp[intOf];omega⟩
    ·rw[HT.out,List.length_append]
     exact a1i ho6 (Off.set0 ..) (fun z hz e=>by
      simp only[Value.ownBlock,Option.some.injEq] at hz;simp only[List.mem_singleton] at e;have:=LB.out.2.1
      omega)
    ·exact ((HR.out.2.2.trans' (Off.of_below kd.out) (fun z hz=>.inl hz)).trans' ko6 (fun z hz=>.inr (NB.out z hz))).setCell (.inl (by simp)) _ _
   ·have hie:i=(Rd.a0E q).length:=by omega
    subst hie;have hlt':¬ (((Rd.a0E q).length:Nat):Int)<((Rd.a0E q).length:Int):=by omega
    have hL:(Rd.a2M q (Rd.a0E q)).length=(Rd.a0E q).length:=by simp[Rd.a2M]
    rw[List.take_length] at HR;have D4':=a0b (D4.out (by simp) HD.out);have HSL:Hid ((Rd.a2M q (Rd.a0E q)).length<=40/\Rd.a2M q (Rd.a0E q)≠[]):=⟨by omega,fun e=>by rw[e] at hL;simp at hL;omega⟩;generalize Rd.a2M q (Rd.a0E q)=L at *;rcases HR.out.2.1.2 with ⟨_,h0⟩|⟨gs,cs,_,rfl,_⟩
    ·omega
    clear hL;obtain⟨b0,b1,b2,b3,b4,b5⟩:=HR.out.1.six;have DW:=a0b (H.out.later HR.out.1.bl);have n2:=DW.out.rd.c2;have RS:=a0b (e9c HR.out.2.1).2;have hgs:V0.heap.size<=gs:=d0G HR.out.2.1 rfl;have hgs2:gs<wr.heap.size:=c7O HR.out.2.1 rfl
    by_cases q4:s.given=60
    ·have q4':(s.given==60)=true:=by simpa using q4
     have E:=a0b (SD.out 5 _ HR.out.1.tail.tail (D3.out (by simp) HD.out q4));obtain⟨q0,q1,q2,q3,q4,q5,q6,fq⟩:=E.out.2
     go_wp2_with fail
     exact bodyPost_ret (v:=a0s 5 0 0 c7N c7N c7N c7N) (by simp[results,Tryz.results174,go_sem,a0s,c7N,q0,q1,q2,q3,q4,q5,q6]) rfl E.out.1
    ·have q4':(s.given==60)=false:=by simpa using q4
     have FT:=a0b (DW.out.fits (u:=u) (cb:=cs) name RS.out (by have:=HSL.out.1;omega) (by omega) hu.2);have DF:=a0b (D4'.out q4);generalize Desk.a1e s.ts s.es name u L=fb at *
     go_wp2_with fail
     refine FT.out.mono ?_;rintro e w8 ⟨rfl,hb8⟩;have K8:=a0b (HR.out.1.later hb8);have R8:=a0b (zA (RS.out.later hb8) (zA (zL hgs2 hb8.size) hgs));clear hb8
     cases fb
     ·have E:=a0b (SD.out 8 _ K8.out.tail.tail (DF.out.trans (by simp)));obtain⟨q0,q1,q2,q3,q4,q5,q6,fq⟩:=E.out.2
      go_wp2_with fail
      exact bodyPost_ret (v:=a0s 8 0 0 c7N c7N c7N c7N) (by simp[results,Tryz.results174,go_sem,a0s,c7N,q0,q1,q2,q3,q4,q5,q6]) rfl E.out.1
     ·have hg59:Hid (s.es.length<60):=by
       show _<_;omega
      have DC:=a0b (H.out.later K8.out.bl);have JN:Hid (Calls Tryz.prog 232 #[.pointer (some ⟨d,0,none⟩),.agg #[.int .i64 0,.int .i64 1,.string name,.int .i64 u,.slice (some ⟨gs,0,none⟩) L.length cs,.int .i64 0]] w8 fun e w'=>e=.returned (e3T 0 (s.given+1))/\g3V w8 d s.ts (xs++[(⟨s.given+1,1,name,u,L,0⟩,gs,cs)]) (s.given+1) s.now F w'):=(f5s d s.ts xs s.given s.now F (⟨0,1,name,u,L,0⟩,gs,cs) w8 DC.out.rd R8.out.1 (fun e=>by have:=H.out.lt gs e;have:=LB.out.2.2.2.2;omega) R8.out.2.1 DC.out.lt (by have:=H.out.len;have:=H.out.el;omega) hg.1 (by omega));obtain⟨x0,x1,x2,x3,x4,x5⟩:=K8.out.six;have Q1:=a0b (Q7.of (K8.out.kb (w.heap.size,a0f) (by simp)));clear b0 b1 b2 b3 b4 b5 n2
      go_wp2_with fail
      refine JN.out.mono ?_;rintro e w9 ⟨rfl,hj⟩;have JA:=a0b (H.out.joinAns (e:=⟨0,1,name,u,L,0⟩) K8.out.bl (by have:=LB.out.2.2.2.1;omega) (K8.out.lt (q:=(w.heap.size,a0f)) (by simp)) ⟨hu.1,hu.2,HSL.out.1,HSL.out.2,SPO.out⟩ hg59.out hj (.int .i64 0) (.int .i64 0) (.int .i64 (s.given+1)) c7N c7N c7N c7N);obtain⟨q0,q1,q2,q3,q4,q5,q6,fq⟩:=Q1.out.later JA.out.2;simp only[e3T];clear hj JN x0 x1 x2 x3 x4 x5
      go_wp2_with fail
      exact bodyPost_ret (v:=a0s 0 0 (s.given+1) c7N c7N c7N c7N) (by simp[results,Tryz.results174,go_sem,a0s,c7N,q0,q1,q2,q3,q4,q5,q6]) rfl (by rw[DF.out];exact JA.out.1)
theorem DD.days{Z:World}(h:DD w d s xs F)(kZ:Below w.heap.size w Z){B:Nat}{v:Value}{l:List Int}(ho:Z.ownsRow B 3 1 v l.length (l.map (Value.int .i64))){Q:Nat}(hQ:w.heap.size<=Q)(hB:Q<B)(n:Int)(a b c e f g i:Value):
  d1S w d F xs (s,{ Rep.num n with days:=l }) (.returned (a0s 0 0 n c7N v c7N c7N)) (a2w Z Q a b c e f g i):=by
 have k7:=a2R Z Q a b c e f g i;have hF:∀ x,x<w.heap.size->x ∉ [Q]:=fun x hx e=>by simp at e;omega
 have hG:∀ x∈v.ownBlock.toList,B<=x/\x<Z.heap.size:=fun x hx=>⟨d0G ho (Option.mem_toList.1 hx),c7O ho (Option.mem_toList.1 hx)⟩
 refine⟨c7N,v,c7N,c7N,xs,F,v.ownBlock.toList,rfl,fun w2 h2=>⟨⟨[],EV.nil _,rfl⟩,⟨(NV.own ho).form,fun k hk=>?_⟩,NV.nil _⟩,World.ownsRow_nil _ _ _ _,(h.later kZ).off k7 (fun x hx=>hF x (h.lt x hx)) (fun x hx=>hF _ (h.rd.sp x hx).2.2),fun _ hx=>.inl hx,(Off.of_below kZ).trans' k7 (fun x hx=>.inr (by simp at hx;omega)),fun x hx=>?_,fun x hx=>by simp[Value.ownBlock] at hx,fun x hx=>.inl ⟨x,hx,rfl⟩⟩
 ·obtain⟨y,cap,e1,e2⟩:=(NV.own ho).cell k hk;have hy:y∈v.ownBlock.toList:=by rw[e1];simp[Value.ownBlock]
  have:=hG y hy;exact⟨y,cap,e1,(zo ((h2 y hy).trans (k7.block y this.2 (by simp;omega)))).trans e2⟩
 ·have:=hG x hx;exact⟨by omega,Nat.lt_of_lt_of_le this.2 k7.size,fun e=>by have:=h.lt x e;omega,by simp[Value.ownBlock]⟩
theorem f6z(h:DD w d s xs F)(hc:∀ j,j<n->w.cell? ⟨g,j,none⟩=some (.string (ws j)))(hz:∀ j,(ws j).size<=160)(hr:h4y ws 1 k pc acc tm)(hn:k+7<n)(h0:ws 0=⟨#[101,120,112,97,110,100]⟩)(hf:Rd.a6s (ruW ws 1 k pc acc tm)):
  Calls Tryz.prog 117 #[.pointer (some ⟨d,0,none⟩),.slice (some ⟨g,0,none⟩) n c] w (d1S w d F xs (a0g s (.expand (ruW ws 1 k pc acc tm)))):=by
 have P0:=a0b ((KP.nil w).alloc a0f);have H:=a0b h;have RL:Hid (∀ W,Below w.heap.size w W->Calls Tryz.prog 180 #[.slice (some ⟨g,0,none⟩) n c,.int .i64 1] W fun e w'=>e=.returned (ruR (ruW ws 1 k pc acc tm))/\Below W.heap.size W w'):=fun W kW=>e7f (i:=1) (fun j hj=>a0a kW (hc j hj)) hz (by omega) hr hn
 have DY:=a0b (fun W=>f6Q _ hf W);have i0:(0:Int)<(n:Int):=by omega
 have y0:=a0a P0.out.bl (hc 0 (by omega));rw[h0] at y0;generalize ruW ws 1 k pc acc tm=q at *;simp only[ruR,ruL] at RL DY;have ES:=a0b (Rd.a5K hf).2;clear h hc hz hr hf hn h0
 go_enter Tryz.func117,Tryz.ntmps117
 go_upto_region 1 with fail
 change Code.wp _ _ _ _ (w.alloc a0f);generalize w.alloc a0f=X at *
 go_wp2_with fail
 refine (RL.out _ P0.out.bl).mono ?_;rintro e w2 ⟨rfl,hb⟩;have HP:=a0b ((P0.out.later hb).alloc (ruB q));clear hb RL P0 y0
 go_upto_region 24 with fail
 change Code.wp _ _ _ _ (w2.alloc (ruB q));obtain⟨rb,hrb⟩:∃ rb,rb=w2.heap.size:=⟨_,rfl⟩;rw[<- hrb] at HP ⊢;generalize w2.alloc (ruB q)=W at *;obtain⟨⟨c0,c1,c9,c10,c11,c12,c13⟩,cJ⟩:=ruC HP.out.at0;have j0:=cJ 0 (by omega);have j1:=cJ 1 (by omega);have j2:=cJ 2 (by omega);have j3:=cJ 3 (by omega);have j4:=cJ 4 (by omega);have j5:=cJ 5 (by omega);have j6:=cJ 6 (by omega);have hQ:w.heap.size<W.heap.size:=HP.out.lt (q:=(w.heap.size,a0f)) (by simp);clear cJ hrb
 go_wp2_with fail
 refine (DY.out _).mono ?_;rintro e w3 ⟨hb3,hd⟩;replace HP:=a0b (HP.out.later hb3);clear c0 c1 c9 c10 c11 c12 c13 j0 j1 j2 j3 j4 j5 j6 DY;obtain⟨q0,q1,q2,q3,q4,q5,q6,fq⟩:=Q7.of (HP.out.kb (w.heap.size,a0f) (by simp));rcases hd with ⟨he,v,rfl,ho⟩|⟨he,rfl⟩
 ·have hlen:(Rd.a0E q).length<=40:=(ES.out he).2.2.1
  have HF:Hid (d1S w d F xs (a0g s (.expand q)) (.returned (a0s 0 0 (Rd.a0E q).length c7N v c7N c7N)) (a2w w3 w.heap.size (.int .i64 0) (.int .i64 0) (.int .i64 (Rd.a0E q).length) c7N v c7N c7N)):=by
   have e:a0g s (.expand q)=(s,{ Rep.num (Rd.a0E q).length with days:=Rd.a0E q }):=by simp[a0g,he]
   rw[e];exact H.out.days HP.out.bl ho (zq _) hQ _ _ _ _ _ _ _ _
  obtain⟨va,vc,rfl⟩:=c9y ho;clear ho he hb3;generalize (Rd.a0E q).length=m at *
  go_wp2_with fail
  exact bodyPost_ret (v:=a0s 0 0 m c7N (.slice va m vc) c7N c7N) (by simp[results,Tryz.results117,go_sem,a0s,c7N,q0,q1,q2,q3,q4,q5,q6]) rfl HF.out
 ·have HF:Hid (d1S w d F xs (a0g s (.expand q)) (.returned (a0s (Rd.a6W q) 0 0 c7N c7N c7N c7N)) (a2w w3 w.heap.size (.int .i64 (Rd.a6W q)) (.int .i64 0) (.int .i64 0) c7N c7N c7N c7N)):=by
   have e:a0g s (.expand q)=(s,Rep.error (Rd.a6W q)):=by simp[a0g,he]
   rw[e];exact H.out.said HP.out.bl (zq _) _ 0 _ _ _ _ _ _ _
  clear he hb3;generalize Rd.a6W q=er at *
  go_wp2_with fail
  exact bodyPost_ret (v:=a0s er 0 0 c7N c7N c7N c7N) (by simp[results,Tryz.results117,go_sem,a0s,c7N,q0,q1,q2,q3,q4,q5,q6]) rfl HF.out
theorem e0h:∀ (es:List Ent)(id i:Int),0<=i->(Desk.d0u id es i=-1/\Desk.a5S id es=none)\/∃ k:Nat,∃ h:k<es.length,Desk.d0u id es i=i+k/\Desk.a5S id es=some es[k]/\es[k].id=id
 |[],id,i,_=>.inl ⟨rfl,rfl⟩
 |e :: r,id,i,h0=>by
  unfold Desk.d0u Desk.a5S
  by_cases h:e.id=id
  ·refine .inr ⟨0,by simp,?_⟩;simp[h]
  ·rcases e0h r id (i+1) (by omega) with ⟨h1,h2⟩|⟨k,hk,h1,h2,h3⟩
   ·refine .inl ?_;rw[if_neg h];simp only[List.find?_cons,h,decide_false];exact⟨h1,h2⟩
   ·refine .inr ⟨k+1,by simpa using hk,?_⟩;rw[if_neg h];simp only[List.find?_cons,h,decide_false];exact⟨by rw[h1];push_cast;omega,h2,h3⟩
theorem f2B{es:List Ent}(h:Desk.Ids es)(hk:k<es.length):es.set k (Desk.a0Q es[k])=Desk.a0C es[k].id es:=by
 unfold Desk.a0C;apply List.ext_getElem (by simp);intro i h1 h2;rw[List.getElem_set,List.getElem_map];simp only[List.length_set] at h1
 split
 ·rename_i e;subst e;simp
 ·rename_i e
  rw[if_neg];intro e2;have:=(List.pairwise_iff_getElem.1 h);rcases Nat.lt_or_gt_of_ne e with e3|e3
  ·have:=this k i (by simpa using hk) (by simpa using h1) e3;simp only[List.getElem_map] at this;omega
  ·have:=this i k (by simpa using h1) (by simpa using hk) e3;simp only[List.getElem_map] at this;omega
theorem g1O{id:Int}:(d2z id xs).map (·.1)=Desk.kept id (xs.map (·.1)):=by
 unfold d2z Desk.kept;rw[List.filter_map]
 congr 1
def f4s(b:Bool)(id:Int):Desk.a7U:=if b then .cancel id else .confirm id
theorem f8E(h:DD w d s xs F)(hid:Desk.Ids s.es)(b:Bool){t:ByteArray}(hk:(kw.toList==[99,97,110,99,101,108])=b)(ht:t.size<=160)(hn:1<n)(c0:w.cell? ⟨g,0,none⟩=some (.string kw))(c1:w.cell? ⟨g,1,none⟩=some (.string t)):
  Calls Tryz.prog 175 #[.pointer (some ⟨d,0,none⟩),.slice (some ⟨g,0,none⟩) n c] w (d1S w d F xs (a0g s (f4s b (b4g t 1 7)))):=by
 have hX:Below w.heap.size w (w.alloc a0f):=(zr _ _).alloc (zq _) _;have hQ:=a0p w a0f;have H:=a0b h;have HX:=a0b (zA hX hQ);have x0:=a0a hX c0;have x1:=a0a hX c1;have hn':(1:Int)<(n:Int):=by omega
 have hn0:(0:Int)<(n:Int):=by omega
 clear hX hQ c0 c1 h
 go_enter Tryz.func175,Tryz.ntmps175
 go_upto_region 1 with fail
 change Code.wp _ _ _ _ (w.alloc a0f);generalize w.alloc a0f=X at *
 go_wp2_with fail
 refine (b0E t 1 7 X ht (by omega) (by omega)).mono ?_;rintro e w1 ⟨rfl,hb1⟩;have B1:=a0b (a0j HX.out.1 hb1 (zq _));have D1:=a0b (H.out.later B1.out);have PL:=a0b (D1.out.place (b4g t 1 7));have PF:=a0b (e0h s.es (b4g t 1 7) 0 (Int.le_refl _));have x0:=a0a hb1 x0;have Q1:=a0b ((Q7.of HX.out.2).later (hb1.block _ (Array.getElem?_eq_some_iff.1 HX.out.2).1));clear hb1 HX x1;generalize b4g t 1 7=id at *
 go_wp2_with fail
 refine PL.out.mono ?_;rintro e w2 ⟨rfl,rfl⟩;clear PL;obtain⟨q0,q1,q2,q3,q4,q5,q6,fq⟩:=Q1.out;rcases PF.out with ⟨e1,e2⟩|⟨k,hkl,e1,e2,e3⟩
 ·have hp:Desk.d0u id s.es 0<0:=by omega
  have HF:Hid (d1S w d F xs (a0g s (f4s b id)) (.returned (a0s 9 0 0 c7N c7N c7N c7N)) (a2w w2 w.heap.size (.int .i64 9) (.int .i64 0) (.int .i64 0) c7N c7N c7N c7N)):=by
   have:=H.out.said B1.out (zq _) 9 0 (.int .i64 9) (.int .i64 0) (.int .i64 0) c7N c7N c7N c7N;show d1S w d F xs _ _ _
   cases b <;> (simp only[f4s,a0g,e2,Bool.false_eq_true,if_true,if_false];exact this)
  clear e1 e2 PF;generalize Desk.d0u id s.es 0=pl at *
  go_wp2_with fail
  exact bodyPost_ret (v:=a0s 9 0 0 c7N c7N c7N c7N) (by simp[results,Tryz.results175,go_sem,a0s,c7N,q0,q1,q2,q3,q4,q5,q6]) rfl HF.out
 ·rw[Int.zero_add] at e1;rw[e1];have hp:¬ ((k:Int)<0):=by omega
  have hkx:k<xs.length:=by have:=H.out.len;omega
  have hil:(k:Int)<(s.es.length:Int):=by omega
  have hpk:(0:Int)<=(k:Int):=by omega
  clear e1 PF;obtain⟨a,cap,E,hr⟩:=D1.out.er;obtain rfl:=hr.a k hkx;have cc:=hr.c;rw[H.out.len] at cc;have r1:=(hr.r k hkx).c1;have r5:=(hr.r k hkx).c5
  have hx:xs[k].1=s.es[k]:=by
   have e:(xs.map (·.1))[k]?=some s.es[k]:=by rw[H.out.es];simp[hkl]
   rw[List.getElem?_eq_getElem (by simpa using hkx),Option.some.injEq,List.getElem_map] at e;exact e
  have fE:=fun o=>hr.f o (by omega)
  have HR:=a0b hr;have HKX:=a0b (zA e2 (zA e3 hx));clear e2 e3 hr
  cases b
  ·rw[hx] at r1 r5
   by_cases hk2:s.es[k].kind=2
   ·have hq:(s.es[k].kind != 2)=false:=by simp[hk2]
    have bk:=D1.out.a0C HR.out hkx (es':=Desk.a0C id s.es) (by rw[hx,f2B hid hkl,HKX.out.2.1]);have hEF:=bk.2.1;have hEd:=bk.2.2;have kE:Off F w2 ((w2.setCell ⟨E,k*6+1,none⟩ (.int .i64 1)).setCell ⟨E,k*6+5,none⟩ (.int .i64 0)):=((Off.refl F w2).setCell (.inl hEF) _ _).setCell (.inl hEF) _ _;have hEQ:E≠w.heap.size:=by have:=H.out.lt E hEF;omega
    have hw:Off F w ((w2.setCell ⟨E,k*6+1,none⟩ (.int .i64 1)).setCell ⟨E,k*6+5,none⟩ (.int .i64 0)):=(Off.of_below B1.out).trans kE
    have HD:Hid (a0g s (f4s false id)=({ s with es:=Desk.a0C id s.es },⟨0,0,0,[],[],[],[]⟩)):=by
     show _=_;simp[f4s,a0g,HKX.out.1,hk2,Rep.num]
    have hQF:w.heap.size ∉ F:=fun e=>by have:=H.out.lt _ e;omega
    have Q2:=a0b (Q1.out.later (kE.block _ (World.block_lt_of_cell? _ _ q0) hQF));have HB:=a0b (zA bk.1 hw);clear bk kE hw hk2 q0 q1 q2 q3 q4 q5 q6 fq
    go_upto_region 12 with fail
    generalize (World.setCell (World.setCell w2 _ _) _ _)=Z at *
    have HF:Hid (d1S w d F xs (a0g s (f4s false id)) (.returned (a0s 0 0 0 c7N c7N c7N c7N)) (a2w Z w.heap.size (.int .i64 0) (.int .i64 0) (.int .i64 0) c7N c7N c7N c7N)):=by
     show d1S w d F xs _ _ _;rw[HD.out];refine HB.out.1.put7 (fun _ hx=>.inl hx) HB.out.2 (zq _) hQF (fun x hx e=>?_) (fun x hx=>.inl ?_) 0 0 _ _ _ _ _ _ _
     rotate_left
     ·rcases List.mem_or_eq_of_mem_set hx with hx|rfl
      ·exact⟨x,hx,rfl⟩
      ·exact⟨xs[k],List.getElem_mem hkx,rfl⟩
     have:x.2.1<w.heap.size:=by
      rcases List.mem_or_eq_of_mem_set hx with hx|rfl
      ·exact (H.out.rd.sp x hx).2.2
      ·exact (H.out.rd.sp xs[k] (zg hkx)).2.2
     omega
    obtain⟨q0,q1,q2,q3,q4,q5,q6,fq⟩:=Q2.out;clear HB Q2
    go_wp2_with fail
    exact bodyPost_ret (v:=a0s 0 0 0 c7N c7N c7N c7N) (by simp[results,Tryz.results175,go_sem,a0s,c7N,q0,q1,q2,q3,q4,q5,q6]) rfl HF.out
   ·have hq:(s.es[k].kind != 2)=true:=by simp[hk2]
    have HF:Hid (d1S w d F xs (a0g s (f4s false id)) (.returned (a0s 10 0 0 c7N c7N c7N c7N)) (a2w w2 w.heap.size (.int .i64 10) (.int .i64 0) (.int .i64 0) c7N c7N c7N c7N)):=by
     have:=H.out.said B1.out (zq _) 10 0 (.int .i64 10) (.int .i64 0) (.int .i64 0) c7N c7N c7N c7N;show d1S w d F xs _ _ _;simp only[f4s,a0g,HKX.out.1,Bool.false_eq_true,if_false,hk2,ne_eq,not_false_eq_true,if_true];exact this
    clear hk2
    go_wp2_with fail
    exact bodyPost_ret (v:=a0s 10 0 0 c7N c7N c7N c7N) (by simp[results,Tryz.results175,go_sem,a0s,c7N,q0,q1,q2,q3,q4,q5,q6]) rfl HF.out
  ·have WO:=a0b (D1.out.without id)
   have HD:Hid (a0g s (f4s true id)=({ s with es:=Desk.kept id s.es },⟨0,0,0,[],[],[],[]⟩)):=by
    show _=_;simp[f4s,a0g,HKX.out.1,Rep.num]
   clear r1 r5 cc fE
   go_wp2_with fail
   refine WO.out.mono ?_;rintro e w3 ⟨vr,rfl,ho,hb3⟩;obtain⟨av,cv,hvr⟩:=c9y ho;have FR:=a0b (D1.out.fresh ho (zq _) hb3 (fun y hy=>(List.mem_filter.1 hy).1) (List.length_filter_le ..) (g1O.trans (by rw[H.out.es])));have D3:=D1.out.later hb3;obtain⟨v2,y1,_⟩:=D3.rd.ev;have fy:=D3.rd.fz 1;have hdQ:d≠w.heap.size:=by have:=H.out.lt d H.out.rd.dF;omega
   have kd:Off [d] w3 (w3.setCell ⟨d,1,none⟩ vr):=Off.set0 ..;have Q3:=a0b ((Q1.out.later (hb3.block _ (World.block_lt_of_cell? _ _ q0))).later (kd.block _ (zL (World.block_lt_of_cell? _ _ q0) hb3.size) (by simp;exact fun e=>hdQ e.symm)));have HO:=a0b (zA (((Off.of_below (F:=F) B1.out).trans (Off.of_below hb3)).setCell (.inl H.out.rd.dF) 1 vr) ho);have hz:=B1.out.size;have hq0:=World.block_lt_of_cell? _ _ q0;have hq0:w.heap.size<w2.heap.size:=hq0;clear ho hb3 D3 kd;rw[hvr] at FR Q3 HO ⊢;clear hvr q0 q1 q2 q3 q4 q5 q6 fq
   go_upto_region 12 with fail
   generalize (World.setCell w3 ⟨d,1,none⟩ _)=Z at *
   have HF:Hid (d1S w d F xs (a0g s (f4s true id)) (.returned (a0s 0 0 0 c7N c7N c7N c7N)) (a2w Z w.heap.size (.int .i64 0) (.int .i64 0) (.int .i64 0) c7N c7N c7N c7N)):=by
    show d1S w d F xs _ _ _;rw[HD.out];have hv:∀ b,(Value.slice av (d2z id xs).length cv).ownBlock=some b->w2.heap.size<=b:=fun b hb=>d0G HO.out.2 hb
    refine FR.out.put7 (fun x hx=>?_) HO.out.1 (zq _) (fun hx=>?_) (fun x hx e=>?_) (fun x hx=>.inl ⟨x,(List.mem_filter.1 hx).1,rfl⟩) 0 0 _ _ _ _ _ _ _
    ·rcases List.mem_append.1 hx with e|e
     ·have:=hv x (by simpa using e);exact .inr (by omega)
     ·exact .inl e
    ·rcases List.mem_append.1 hx with e|e
     ·have:=hv _ (by simpa using e);omega
     ·have:=H.out.lt _ e;omega
    ·have:=(H.out.rd.sp x ((List.mem_filter.1 hx).1)).2.2;omega
   obtain⟨q0,q1,q2,q3,q4,q5,q6,fq⟩:=Q3.out;clear FR Q3 HO
   go_wp2_with fail
   exact bodyPost_ret (v:=a0s 0 0 0 c7N c7N c7N c7N) (by simp[results,Tryz.results175,go_sem,a0s,c7N,q0,q1,q2,q3,q4,q5,q6]) rfl HF.out
end Go.Proofs.YtfigmlfdnickmaaGreatDoor
