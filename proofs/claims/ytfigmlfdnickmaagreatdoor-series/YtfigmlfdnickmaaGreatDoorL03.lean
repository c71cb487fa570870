import Derived.Test.YtfigmlfdnickmaaGreatDoorL02
import Derived.Test.YtfigmlfdnickmaaGreatDoorProg
import Derived.Deep.CutRange
import Derived.Deep.RegionLaw
import Derived.Maps.OwnSet
import Derived.Maps.OwnOps
import Derived.Maps.Views
import Derived.Lib.IndexMore
import Derived.Lib.IndexLaws
import Derived.Lib.FieldsP
import Derived.Lib.Split
import Derived.Lib.SplitLaws
set_option maxRecDepth 100000
set_option maxHeartbeats 8000000
open Go.Proofs.Tryz
open _root_ renaming ByteArray->UU,List->UV,Option->UW,Bool->UX,Nat->UY,Int->UZ,if_neg->U0,if_pos->U1,absurd->U2
open Option renaming none->U3,some->U4,mem_toList->WI,getD_some->Xa,getD_none->Xf
open Bool renaming false->U5,true->U6,and_eq_true->WN,eq_iff_iff->WU,false_eq_true->Vn
open Go renaming World->U7,Value->U8,Calls->Va,Addr->Vb,TypeId->Vc
open Go.RowKit renaming Below->U9
open Nat renaming zero_le->V6,add_sub_cancel_left->WB,lt_of_lt_of_le->WE,le_trans->Vg,add_zero->Xc,le_refl->Vd
open List renaming drop_eq_getElem_cons->Ws,drop_eq_nil_of_le->Wt,length_append->VU,length_map->Wu,take_succ_eq_append_getElem->V5,map_append->We,append_assoc->VP,length_take_le->Wc,take_of_length_le->V7,all_eq_false->Ww,length_filter_le->Wx,filter_append->VF,flatMap_cons->Wi,length_cons->VV,length_eq_zero_iff->VY,getElem_cons_drop->Wy,take_append_drop->V1,flatMap_append->Wj,length_take_of_le->Wk,getElem?_append_right->Wz,getElem?_append_left->Wg,getElem?_take_of_lt->Wh,set_append_right->Wm,mem_cons->Vq,mem_cons_of_mem->WH,mem_append->Vr,mem_of_mem_take->Wb,getD_eq_getElem?_getD->WQ,getElem?_eq_getElem->WS,drop_take->WW,mem_iff_getElem?->WX,getElem?_drop->WY,getElem?_take->W4,isPrefixOf->W6,pairwise_cons->VE,pairwise_append->Xn,mem_filter->Xq,getLastD->Xr,foldl_append->Xs,cons_append->VD
open Go.Value renaming int->VT,oneCell'->WD,ownBlock->Wr
open Go.World renaming news_of_block->Wv,cell?->VA,block_lt_of_cell?->Vh,frozen?_of_block->WG,cell?_setCell_same->Vu
open Array renaming getElem?_toList->WC,getElem?_eq_none->Wn
open Option.some renaming inj->WJ
open Go.Maps renaming size->WK,has->WL
open Go.WideAt renaming IsKeyLit->WM
open Go.Lib renaming cut->WV,occAt->W5,index->W7,closeSpans->W9,spansFromP->Xe,goFieldsP->Xg,splitK->Xj
open Int renaming eq_ofNat_of_zero_le->W8,le_refl->Xk,sub_emod_right->Xl,emod_eq_of_lt->Xm
open Go.Utf8 renaming decode->Xb,runeError->Xd
open ByteArray renaming size_extract->Xh
open List.cons renaming injEq->Xi
open Classical renaming byContradiction->Xo
open List.Pairwise renaming sublist->Xp,filter->VH
namespace Go.Proofs.YtfigmlfdnickmaaGreatDoor
variable{s:UU}{fr given m now x y:UZ}{ts:UV (UU × UZ)}{acc:UV UZ}{F:UV UY}{l:UV UInt8}{E G H b cap d i n o p sz:UY}{a:UW Vb}{key v:U8}{w w' w1 w2:U7}
open Go.RowKit
namespace aA
def bJ(name:UU):UV (UU × UZ)->UZ
 |[]=>0
 |t :: r=>if bW t.1 name then t.2 else bJ name r
def pq(c:UZ)(name:UU)(aH:UZ)(L:UV (UZ × UZ))(es:UV aM)(x:UZ):UX:=decide (0<cP L x) && decide (c<bP name x es+cP L x*aH)
def oq(c:UZ)(name:UU)(aH:UZ)(L:UV (UZ × UZ))(es:UV aM)(l:UV UZ):UX:=l.all fun x=>!pq c name aH L es x
def dG(ts:UV (UU × UZ))(es:UV aM)(name:UU)(aH:UZ)(L:UV (UZ × UZ)):UX:=oq (bJ name ts) name aH L es (eD name es++L.map (·.1))
end aA
structure oK(w:U7)(d:UY)(a:UW Vb)(cap G:UY)(ts:UV (UU × UZ)):Prop where
 c:w.cell? ⟨d,0,U3⟩=U4 (.slice a ts.length cap)
 a:ts≠[]->a=U4 ⟨G,0,U3⟩
 r:∀ (i:UY) (h:i<ts.length),w.cell? ⟨G,i*2,U3⟩=U4 (.string ts[i].1)/\w.cell? ⟨G,i*2+1,U3⟩=U4 (.int .i64 ts[i].2)
theorem oK.later(h:oK w d a cap G ts)(k:U9 w.heap.size w w'):oK w' d a cap G ts :=
 ⟨aN k h.c,h.a,fun i f=>⟨aN k (h.r i f).1,aN k (h.r i f).2⟩⟩
theorem oK.at(h:oK w d a cap G ts)(c:i<ts.length):a=U4 ⟨G,0,U3⟩:=h.a (by intro e;simp[e] at c)
theorem Al(d:UY)(a:UW Vb)(cap G:UY)(ts:UV (UU × UZ))(name:UU)(w:U7)(h:oK w d a cap G ts)(C:ts.length<=1000):
  Va prog 229 #[.pointer (U4 ⟨d,0,U3⟩),.string name] w fun e w'=>e=.returned (.int .i64 (aA.bJ name ts))/\w'=w:=by
 have H:=aC h;have I:=h.c;clear h
 go_in
 go_wp2_with fail
 go_loop [5] (fun i=>∃ k:UY,k<=ts.length/\i=.int .i64 k/\aA.bJ name ts=aA.bJ name (ts.drop k)) (fun i=>ts.length-(intOf i).toNat)
 case atStart=>exact⟨0,V6 _,rfl,rfl⟩
 case round =>
  obtain⟨k,D,rfl,u⟩:=hrel;have t:=aC u;clear u
  by_cases f:k<ts.length
  ·obtain rfl:=H.y.at f;obtain⟨K,J⟩:=H.y.r k f;have B:(k:UZ)<(ts.length:UZ):=UI
   have z:aA.bJ name (ts.drop k)=if aA.bW ts[k].1 name then ts[k].2 else aA.bJ name (ts.drop (k+1)):=by rw[Ws f];rfl
   have A:=aC z;clear z
   cases g:aA.bW ts[k].1 name
   ·have q:(ts[k].1.toList==name.toList)=U5:=g;have j:Hid (aA.bJ name ts=aA.bJ name (ts.drop (k+1))):=by show aA.bJ name ts=_;rw[t.y,A.y,g];rfl
    clear g
    go_wp2
    go_round
    case rel=>exact⟨k+1,by omega,by go_num,j.y⟩
    case measure=>simp[intOf];omega
   ·have q:(ts[k].1.toList==name.toList)=U6:=g;have j:Hid (aA.bJ name ts=ts[k].2):=by show aA.bJ name ts=_;rw[t.y,A.y,g];rfl
    clear g
    go_wp2
    go_ret;exact⟨gL j.y.symm,rfl⟩
  ·have e:ts.drop k=[]:=Wt UI;have j:Hid (aA.bJ name ts=0):=by show aA.bJ name ts=0;rw[t.y,e];rfl
   have B:¬ (k:UZ)<(ts.length:UZ):=UI
   clear e
   go_wp2
   go_ret;exact⟨gL j.y.symm,rfl⟩
theorem DI(d:UY)(a:UW Vb)(cap E:UY)(es:UV aA.aM)(at_:UW Vb)(ct G:UY)(ts:UV (UU × UZ))(name:UU)(aH:UZ)(B cb:UY)(L:UV (UZ × UZ))(w:U7)(h:ma w d a cap E es)(ht:oK w d at_ ct G ts)(hL:fY w B L)(hl:es.length<=1000)(ak:ts.length<=1000)(T:∀ e∈es,aA.Small e)(aw:L.length<=100)(R:0<=aH)(aj:aH<=9):
  Va prog 182 #[.pointer (U4 ⟨d,0,U3⟩),.string name,.int .i64 aH,.slice (U4 ⟨B,0,U3⟩) L.length cb] w fun e w'=>e=.returned (.bool (aA.dG ts es name aH L))/\U9 w.heap.size w w':=by
 obtain⟨i0,an,ai,ag,af⟩:=info_parts pB;have ST:=aC (EJ d a cap E es name w h hl T);have UN:=aC (fun w' (k:U9 w.heap.size w w')=>Al d at_ ct G ts name w' (ht.later k) ak);have TM:=aC (fun t w' (k:U9 w.heap.size w w')=>Er B cb L t w' (hL.later k) UI);have TK:=aC (fun t w' (k:U9 w.heap.size w w')=>Ep d a cap E es name t w' (h.later k) hl T);have sz:=Aq name es T;have HL:=aC hL;have ar:=aC (fun t=>aA.Eo name t es T);have K:aA.dG ts es name aH L=aA.oq (aA.bJ name ts) name aH L es (aA.eD name es++L.map (·.1)):=rfl;rw[K];obtain⟨l,D⟩:∃ l,aA.eD name es++L.map (·.1)=l:=⟨_,rfl⟩
 have av:l.length<=100100:=by
  rw[<- D];simp only[VU,Wu];omega
 rw[D];have ae:=aC D;generalize aA.bJ name ts=most at *;clear h ht T hL K D
 go_in
 go_wp2_with fail
 refine ST.y.mono ?_;rintro e w1 ⟨v1,rfl,V,Y⟩;have O1:=aC (zA V Y);clear ST V Y
 go_wp2_with fail
 go_loopw [9,10] (fun v i wx=>∃ k:UY,k<=L.length/\i=.int .i64 k/\wx.ownsRow w.heap.size 3 1 v (aA.eD name es++(L.take k).map (·.1)).length ((aA.eD name es++(L.take k).map (·.1)).map (VT .i64))/\U9 w.heap.size w wx) (fun _ i _=>L.length-(intOf i).toNat)
 case atStart=>exact⟨0,V6 _,rfl,by simpa using O1.y.1,O1.y.2⟩
 case round =>
  obtain⟨k,hk,rfl,c,q⟩:=hrel;have J:=aC (zA c q);have ao:=q.size
  by_cases W:k<L.length
  ·have r1:=(HL.y.later q k W).1;have M:(k:UZ)<(L.length:UZ):=UI
   have ac:aA.eD name es++(L.take (k+1)).map (·.1)=(aA.eD name es++(L.take k).map (·.1))++[L[k].1]:=by
    rw[V5 W,We,VP];rfl
   have ES:=aC ac
   have ax:(aA.eD name es++(L.take k).map (·.1)).length<=100100:=by
    have:=Wc k L;simp only[VU,Wu];omega
   clear ac q
   go_wp2_with (first
    |(at_builtin;refine wpList_append_own _ rfl _ _ 38 rfl w.heap.size 3 i0 (.int .i64 0) 1 8 underlying38 an ai ag af rfl UK _ _ _ rfl (c.alloc _) ⟨wr.heap.size,0,U3⟩ 1 1 [.int .i64 L[k].1] rfl rfl (Wv (cs:=#[.int .i64 L[k].1]) (cC wr _)) US UR UI UQ ?_;intro v' w' r z _))
   have Z:U9 w.heap.size w w':=(J.y.2.alloc ao _).grown z UQ (fun k hk=>jE J.y.1 hk)
   have HK:Hid (w'.ownsRow w.heap.size 3 1 v' (aA.eD name es++(L.take (k+1)).map (·.1)).length ((aA.eD name es++(L.take (k+1)).map (·.1)).map (VT .i64))):=by
    show w'.ownsRow _ _ _ _ _ _;rw[ES.y,We,VU];exact r
   have au:=aC Z;clear r z Z c J r1
   go_wp2
   go_roundw
   case rel=>exact⟨k+1,by omega,by go_num,HK.y,au.y⟩
   case measure=>simp[intOf];omega
  ·have e:L.take k=L:=V7 UI;have M:¬ (k:UZ)<(L.length:UZ):=UI
   rw[e,ae.y] at c;obtain⟨a2,c2,g2,rfl,al,ab,U⟩:=wN c;have R2:=aC (zA ab (zA U q));clear c q e J ab U al O1 ae
   go_wp2_with fail
   refine (UN.y _ R2.y.2.2).mono ?_;rintro e w2 ⟨rfl,rfl⟩;clear UN
   go_wp2_with fail
   go_loopw [12,13] (fun i _ wx=>∃ j:UY,j<=l.length/\i=.int .i64 j/\aA.oq most name aH L es (l.take j)=U6/\U9 w2.heap.size w2 wx) (fun i _ _=>l.length-(intOf i).toNat)
   case atStart=>exact⟨0,V6 _,rfl,by simp[aA.oq],Below.refl _ _⟩
   case round =>
    obtain⟨j,hj,rfl,hf,q⟩:=hrel;have HF:=aC hf;have X:=aZ R2.y.2.2 q (zq _);have f:=aC X;have HB:=aC q;clear hf X
    by_cases I:j<l.length
    ·obtain rfl:=R2.y.1 (by intro e;simp[e] at I);have c0:=aN q (R2.y.2.1 j I);have M:(j:UZ)<(l.length:UZ):=UI
     have S:aA.oq most name aH L es (l.take (j+1))=(aA.oq most name aH L es (l.take j) && !aA.pq most name aH L es l[j]):=by
      unfold aA.oq;rw[V5 I,List.all_append];simp
     have ad:=aC S;have g:=aC (TM.y l[j]);have C:=aC (TK.y l[j]);have aq:=aA.pO L l[j];have ay:=ar.y l[j]
     have aa:Hid (aA.pq most name aH L es l[j]=U6->aA.oq most name aH L es l=U5):=by
      intro ho;unfold aA.oq;rw[Ww];exact⟨l[j],List.getElem_mem I,by simp[ho]⟩
     have u:aA.pq most name aH L es l[j]=(decide (0<aA.cP L l[j]) && decide (most<aA.bP name l[j] es+aA.cP L l[j]*aH)):=rfl;have m0:0<=aA.cP L l[j]*aH:=Int.mul_nonneg aq.1 R;have m1:aA.cP L l[j]*aH<=900:=by have:aA.cP L l[j]*aH<=100*9:=Int.mul_le_mul UI aj R UI;omega
     generalize aA.cP L l[j]=n at *;generalize aA.bP name l[j] es=tk at *;have N:=aC u;clear S u q
     by_cases hn:0<n
     ·by_cases hm:most<tk+n*aH
      ·have HO:Hid (aA.pq most name aH L es l[j]=U6):=by show _=U6;rw[N.y];simp[hn,hm]
       go_wp2_with fail
       refine (g.y _ f.y).mono ?_;rintro e w3 ⟨rfl,rfl⟩
       go_wp2_with fail
       refine (C.y _ f.y).mono ?_;rintro e w4 ⟨rfl,A⟩;have O:=aC (aZ f.y A (zq _));clear A g C TM TK
       go_wp2
       go_ret;exact⟨nY (aa.y HO.y).symm,O.y⟩
      ·have HO:Hid (aA.pq most name aH L es l[j]=U5):=by show _=U5;rw[N.y];simp[hm]
       go_wp2_with fail
       refine (g.y _ f.y).mono ?_;rintro e w3 ⟨rfl,rfl⟩
       go_wp2_with fail
       refine (C.y _ f.y).mono ?_;rintro e w4 ⟨rfl,A⟩;have O:=aC (aZ HB.y A (zq _));clear A g C TM TK
       go_wp2
       go_roundw
       case rel=>exact⟨j+1,by omega,by go_num,by rw[ad.y,HF.y,HO.y];rfl,O.y⟩
       case measure=>simp[intOf];omega
     ·have HO:Hid (aA.pq most name aH L es l[j]=U5):=by show _=U5;rw[N.y];simp[hn]
      go_wp2_with fail
      refine (g.y _ f.y).mono ?_;rintro e w3 ⟨rfl,rfl⟩;clear g C TM TK
      go_wp2
      go_roundw
      case rel=>exact⟨j+1,by omega,by go_num,by rw[ad.y,HF.y,HO.y];rfl,HB.y⟩
      case measure=>simp[intOf];omega
    ·have e:l.take j=l:=V7 UI;have M:¬ (j:UZ)<(l.length:UZ):=UI
     rw[e] at HF;clear e q
     go_wp2
     go_ret;exact⟨nY HF.y.symm,f.y⟩
namespace aA
def jo(id:UZ):UV aM->UZ->UZ
 |[],_=>-1
 |e :: r,i=>if e.id=id then i else jo id r (i+1)
def eh(es:UV aM):UZ:=((es.filter fun e=>e.kind==3).length:UZ)
def dH(ts:UV (UU × UZ))(name:UU)(aH:UZ):UZ:=if bJ name ts=0 then 3 else if bJ name ts<aH then 7 else 0
end aA
def dN(x:aA.aM × UY × UY):UV U8:=[.int .i64 x.1.id,.int .i64 x.1.kind,.string x.1.aT,.int .i64 x.1.aH,.slice (U4 ⟨x.2.1,0,U3⟩) x.1.aL.length x.2.2,.int .i64 x.1.bY]
structure pS(w:U7)(d:UY)(a:UW Vb)(cap E:UY)(xs:UV (aA.aM × UY × UY)):Prop where
 c:w.cell? ⟨d,1,U3⟩=U4 (.slice a xs.length cap)
 a:xs≠[]->a=U4 ⟨E,0,U3⟩
 r:∀ (i:UY) (h:i<xs.length),RE w E i xs[i].1 xs[i].2.1 xs[i].2.2
theorem pS.de{f:UV (aA.aM × UY × UY)}(h:pS w d a cap E f):ma w d a cap E (f.map (·.1)) :=
 ⟨by rw[Wu];exact h.c,fun j=>h.a (by intro e;simp[e] at j),fun i k=>by
  have g:i<f.length:=by simpa using k
  exact⟨f[i].2.1,f[i].2.2,by simpa using h.r i g⟩⟩
theorem pS.later{xs:UV (aA.aM × UY × UY)}(h:pS w d a cap E xs)(k:U9 w.heap.size w w'):pS w' d a cap E xs:=⟨aN k h.c,h.a,fun i f=>(h.r i f).later k⟩
theorem pS.at{c:UV (aA.aM × UY × UY)}(h:pS w d a cap E c)(f:i<c.length):a=U4 ⟨E,0,U3⟩:=h.a (by intro e;simp[e] at f)
theorem Md(d:UY)(a:UW Vb)(cap E:UY)(es:UV aA.aM)(id:UZ)(w:U7)(h:ma w d a cap E es)(I:es.length<=1000):
  Va prog 233 #[.pointer (U4 ⟨d,0,U3⟩),.int .i64 id] w fun e w'=>e=.returned (.int .i64 (aA.jo id es 0))/\w'=w:=by
 have H:=aC h;have L:=h.c;clear h
 go_in
 go_wp2_with fail
 go_loop [5] (fun i=>∃ k:UY,k<=es.length/\i=.int .i64 k/\aA.jo id es 0=aA.jo id (es.drop k) k) (fun i=>es.length-(intOf i).toNat)
 case atStart=>exact⟨0,V6 _,rfl,rfl⟩
 case round =>
  obtain⟨k,J,rfl,u⟩:=hrel;have t:=aC u;clear u
  by_cases f:k<es.length
  ·obtain rfl:=H.y.at f;obtain⟨B,K,z⟩:=H.y.r k f;have M:=z.c0;have D:(k:UZ)<(es.length:UZ):=UI
   have A:aA.jo id (es.drop k) k=if es[k].id=id then (k:UZ) else aA.jo id (es.drop (k+1)) (k+1):=by rw[Ws f];rfl
   have C:=aC A;clear A z
   by_cases g:es[k].id=id
   ·have q:(es[k].id==id)=U6:=by simp[g]
    have j:Hid (aA.jo id es 0=k):=by show aA.jo id es 0=k;rw[t.y,C.y,U1 g]
    clear g
    go_wp2
    go_ret;exact⟨gL j.y.symm,rfl⟩
   ·have q:(es[k].id==id)=U5:=by simp[g]
    have j:Hid (aA.jo id es 0=aA.jo id (es.drop (k+1)) ((k+1:UY):UZ)):=by show aA.jo id es 0=_;rw[t.y,C.y,U0 g];rfl
    clear g
    go_wp2
    go_round
    case rel=>exact⟨k+1,by omega,by go_num,j.y⟩
    case measure=>simp[intOf];omega
  ·have e:es.drop k=[]:=Wt UI;have j:Hid (aA.jo id es 0=-1):=by show aA.jo id es 0=-1;rw[t.y,e];rfl
   have D:¬ (k:UZ)<(es.length:UZ):=UI
   clear e
   go_wp2
   go_ret;exact⟨gL j.y.symm,rfl⟩
theorem M6(d:UY)(a:UW Vb)(cap E:UY)(es:UV aA.aM)(w:U7)(h:ma w d a cap E es)(A:es.length<=1000):
  Va prog 231 #[.pointer (U4 ⟨d,0,U3⟩)] w fun e w'=>e=.returned (.int .i64 (aA.eh es))/\w'=w:=by
 have H:=aC h;have I:=h.c;clear h
 go_in
 go_wp2_with fail
 go_loop [3,4] (fun n i=>∃ k:UY,k<=es.length/\i=.int .i64 k/\n=.int .i64 (aA.eh (es.take k))) (fun _ i=>es.length-(intOf i).toNat)
 case atStart=>exact⟨0,V6 _,rfl,rfl⟩
 case round =>
  obtain⟨k,C,rfl,rfl⟩:=hrel
  have K:0<=aA.eh (es.take k)/\aA.eh (es.take k)<=k:=by
   unfold aA.eh;have:=Wx (fun e:aA.aM=>e.kind==3) (es.take k);have:=Wc k es;omega
  by_cases f:k<es.length
  ·obtain rfl:=H.y.at f;obtain⟨B,D,q⟩:=H.y.r k f;have J:=q.c1;have z:(k:UZ)<(es.length:UZ):=UI
   have t:aA.eh (es.take (k+1))=aA.eh (es.take k)+if es[k].kind==3 then 1 else 0:=by
    unfold aA.eh;rw[V5 f,VF,VU]
    cases g:(es[k].kind==3) <;> simp[g]
   have u:=aC t;clear t q;generalize aA.eh (es.take k)=n at *
   cases g:(es[k].kind==3)
   ·have j:Hid (aA.eh (es.take (k+1))=n):=by show _=n;rw[u.y,g];simp
    go_wp2
    go_round
    case rel=>exact⟨k+1,by omega,by go_num,by rw[j.y]⟩
    case measure=>simp[intOf];omega
   ·have j:Hid (aA.eh (es.take (k+1))=n+1):=by show _=n+1;rw[u.y,g];simp
    go_wp2
    go_round
    case rel=>exact⟨k+1,by omega,by go_num,by rw[j.y]⟩
    case measure=>simp[intOf];omega
  ·have e:es.take k=es:=V7 UI;have z:¬ (k:UZ)<(es.length:UZ):=UI
   go_wp2
   go_ret;exact⟨gL (by first|rfl|rw[e]),rfl⟩
theorem MH(d:UY)(a:UW Vb)(cap G:UY)(ts:UV (UU × UZ))(name:UU)(aH:UZ)(w:U7)(h:oK w d a cap G ts)(t:ts.length<=1000):
  Va prog 230 #[.pointer (U4 ⟨d,0,U3⟩),.string name,.int .i64 aH] w fun e w'=>e=.returned (.int .i64 (aA.dH ts name aH))/\w'=w:=by
 have k:=aC (Al d a cap G ts name w h t);have f:Hid (aA.dH ts name aH=if aA.bJ name ts=0 then 3 else if aA.bJ name ts<aH then 7 else 0):=rfl;generalize aA.bJ name ts=n at *;generalize aA.dH ts name aH=r at *;clear h
 by_cases c:n=0
 ·have g:Hid (r=3):=by show r=3;rw[f.y,U1 c]
  have j:(n==0)=U6:=by simp[c]
  clear c f
  go_in
  go_wp2_with fail
  refine k.y.mono ?_;rintro e w1 ⟨rfl,rfl⟩
  go_wp2
  go_ret;exact⟨gL g.y.symm,rfl⟩
 ·have j:(n==0)=U5:=by simp[c]
  by_cases q:n<aH
  ·have g:Hid (r=7):=by show r=7;rw[f.y,U0 c,U1 q]
   clear c f
   go_in
   go_wp2_with fail
   refine k.y.mono ?_;rintro e w1 ⟨rfl,rfl⟩
   go_wp2
   go_ret;exact⟨gL g.y.symm,rfl⟩
  ·have g:Hid (r=0):=by show r=0;rw[f.y,U0 c,U0 q]
   clear c f
   go_in
   go_wp2_with fail
   refine k.y.mono ?_;rintro e w1 ⟨rfl,rfl⟩
   go_wp2
   go_ret;exact⟨gL g.y.symm,rfl⟩
theorem wJ:(prog.info? 58).map (fun i=>(i.zero,i.size,i.bytes))=U4 (U4 (.agg #[.int .i64 0,.int .i64 0,.string ⟨#[]⟩,.int .i64 0,.slice U3 0 0,.int .i64 0]),6,72):=UO
def iS(id:UZ)(c:UV (aA.aM × UY × UY)):UV (aA.aM × UY × UY):=c.filter fun x=>x.1.id != id
theorem wQ(x:aA.aM × UY × UY):(dN x).length=6:=rfl
theorem D6(c:UV (aA.aM × UY × UY)):(c.flatMap dN).length=c.length*6:=by
 induction c with
 |nil=>rfl
 |cons x c ih=>simp only[Wi,VU,VV,ih,wQ];omega
theorem wM{q:UY}{c:UV (aA.aM × UY × UY)}(h:w.ownsRow q 58 6 v n (c.flatMap dN))(t:∀ x∈c,fY w x.2.1 x.1.aL):∃ a cap g,v=.slice a n cap/\n=c.length/\(c≠[]->a=U4 ⟨g,0,U3⟩)/\∀ (i:UY)(r:i<c.length),RE w g i c[i].1 c[i].2.1 c[i].2.2:=by
 have D:=h.1;rw[D6] at D;have B:n=c.length:=UI
 rcases h.2 with ⟨rfl,K⟩|⟨g,cap,A,rfl,N,I,S,R,O,J⟩
 ·subst K;have:c=[]:=VY.1 B.symm;subst this;exact⟨U3,0,0,rfl,rfl,fun h=>U2 rfl h,fun i r=>by simp at r⟩
 ·refine⟨U4 ⟨g,0,U3⟩,cap,g,rfl,B,fun _=>rfl,fun i r=>?_⟩
  have key:∀ (j:UY) (u:U8),j<6->(dN c[i])[j]?=U4 u->w.cell? ⟨g,i*6+j,U3⟩=U4 u:=by
   intro j u M C
   have L:(c.flatMap dN)[i*6+j]?=U4 u:=by
    have f:c=c.take i++c[i] :: c.drop (i+1):=by rw[Wy,V1]
    rw[f,Wj,Wi];have k:((c.take i).flatMap dN).length=i*6:=by rw[D6,Wk UI]
    rw[Wz UI,k,WB,Wg (by rw[wQ];omega)];exact C
   have z:(A.toList.take (n*6))[i*6+j]?=U4 u:=by rw[J];exact L
   rw[Wh UI] at z;simp only[WC] at z;simp[VA,I,z]
  exact⟨key 0 _ UI rfl,key 1 _ UI rfl,key 2 _ UI rfl,key 3 _ UI rfl,key 4 _ UI rfl,key 5 _ UI rfl,t _ (zg r)⟩
theorem M8(d:UY)(a:UW Vb)(cap E:UY)(xs:UV (aA.aM × UY × UY))(id:UZ)(w:U7)(h:pS w d a cap E xs)(hl:xs.length<=1000):
  Va prog 234 #[.pointer (U4 ⟨d,0,U3⟩),.int .i64 id] w fun e w'=>∃ v,e=.returned v/\w'.ownsRow w.heap.size 58 6 v (iS id xs).length ((iS id xs).flatMap dN)/\U9 w.heap.size w w':=by
 obtain⟨T,K,J,I,D⟩:=info_parts wJ;have H:=aC h;clear h
 go_in
 go_wp2_with fail
 go_loopw [5,6] (fun v i wx=>∃ k:UY,k<=xs.length/\i=.int .i64 k/\wx.ownsRow w.heap.size 58 6 v (iS id (xs.take k)).length ((iS id (xs.take k)).flatMap dN)/\U9 w.heap.size w wx) (fun _ i _=>xs.length-(intOf i).toNat)
 case atStart=>exact⟨0,V6 _,rfl,World.ownsRow_nil _ _ _ _,Below.refl _ _⟩
 case round =>
  obtain⟨k,O,rfl,f,z⟩:=hrel;have B:=H.y.later z;have V:=B.c;have g:=aC (zA f z);have L:=z.size
  have bl:(iS id (xs.take k)).length<=k:=by
   have:=Wx (fun x:aA.aM × UY × UY=>x.1.id != id) (xs.take k);have:=Wc k xs;unfold iS;omega
  by_cases u:k<xs.length
  ·obtain rfl:=H.y.at u;have t:=B.r k u;have c0:=t.c0;have c1:=t.c1;have Z:=t.c2;have Y:=t.c3;have X:=t.c4;have W:=t.c5;have U:(k:UZ)<(xs.length:UZ):=UI
   have R:iS id (xs.take (k+1))=iS id (xs.take k)++if xs[k].1.id != id then [xs[k]] else []:=by
    unfold iS;rw[V5 u,VF]
    cases C:(xs[k].1.id != id) <;> simp[C]
   have S:=aC R;clear R t B
   cases C:(xs[k].1.id != id)
   ·have M:Hid (iS id (xs.take (k+1))=iS id (xs.take k)):=by show _=_;rw[S.y,C];simp
    clear f z
    go_wp2
    go_roundw
    case rel=>exact⟨k+1,by omega,by go_num,by rw[M.y];exact g.y.1,g.y.2⟩
    case measure=>simp[intOf];omega
   ·have M:Hid (iS id (xs.take (k+1))=iS id (xs.take k)++[xs[k]]):=by show _=_;rw[S.y,C];simp
    clear z
    go_wp2_with (first
     |(at_builtin;refine wpList_append_own _ rfl _ _ 34 rfl w.heap.size 58 T _ 6 72 underlying34 K J I D rfl UK _ _ _ rfl (f.alloc _) ⟨wr.heap.size,0,U3⟩ 1 1 (dN xs[k]) rfl rfl (Wv (cs:=(dN xs[k]).toArray) (cC wr _)) (by simp[dN,WD]) UR UI UQ ?_;intro v' w' j q _))
    have A:U9 w.heap.size w w':=(g.y.2.alloc L _).grown q UQ (fun k O=>jE g.y.1 O)
    have HK:Hid (w'.ownsRow w.heap.size 58 6 v' (iS id (xs.take (k+1))).length ((iS id (xs.take (k+1))).flatMap dN)):=by
     show w'.ownsRow _ _ _ _ _ _;rw[M.y,Wj,VU]
     simpa using j
    have N:=aC A;clear j q A f g c0 c1 Z Y X W V
    go_wp2
    go_roundw
    case rel=>exact⟨k+1,by omega,by go_num,HK.y,N.y⟩
    case measure=>simp[intOf];omega
  ·have e:xs.take k=xs:=V7 UI;have U:¬ (k:UZ)<(xs.length:UZ):=UI
   rw[e] at g;clear f z B e
   go_wp2
   go_ret;exact⟨_,rfl,g.y.1,g.y.2⟩
def jq(t:UU × UZ):UV U8:=[.string t.1,.int .i64 t.2]
structure RD(w:U7)(d:UY)(ts:UV (UU × UZ))(xs:UV (aA.aM × UY × UY))(given now:UZ)(F:UV UY):Prop where
 tv:∃ v,w.cell? ⟨d,0,U3⟩=U4 v/\w.ownsRow 0 315 2 v ts.length (ts.flatMap jq)/\∀ k,v.ownBlock=U4 k->k∈F/\k≠d
 ev:∃ v,w.cell? ⟨d,1,U3⟩=U4 v/\w.ownsRow 0 58 6 v xs.length (xs.flatMap dN)/\∀ k,v.ownBlock=U4 k->k∈F/\k≠d
 c2:w.cell? ⟨d,2,U3⟩=U4 (.int .i64 given)
 c3:w.cell? ⟨d,3,U3⟩=U4 (.int .i64 now)
 fz:∀ o,w.frozen? ⟨d,o,U3⟩=U5
 dF:d∈F
 sp:∀ x∈xs,fY w x.2.1 x.1.aL/\x.2.1 ∉ F/\x.2.1<w.heap.size
theorem RD.dx{xs:UV (aA.aM × UY × UY)}(h:RD w d ts xs given now F):∃ a cap E,pS w d a cap E xs:=by
 obtain⟨v,c,k,_⟩:=h.ev;obtain⟨a,cap,g,rfl,r,q,j⟩:=wM k (fun x f=>(h.sp x f).1);exact⟨a,cap,g,c,q,j⟩
theorem L5(ts:UV (UU × UZ)):(ts.flatMap jq).length=ts.length*2:=by
 induction ts with
 |nil=>rfl
 |cons x xs ih=>simp only[Wi,VU,VV,ih,jq,List.length_nil];omega
theorem RD.dt{A:UV (aA.aM × UY × UY)}(h:RD w d ts A given now F):∃ a cap G,oK w d a cap G ts:=by
 obtain⟨v,c,t,_⟩:=h.tv;have K:=t.1;rcases t.2 with ⟨rfl,I⟩|⟨g,cap,r,rfl,M,C,R,O,N,D⟩
 ·have:ts=[]:=VY.1 I;subst this;exact⟨U3,0,0,c,fun h=>U2 rfl h,fun i z=>by simp at z⟩
 ·refine⟨U4 ⟨g,0,U3⟩,cap,g,c,fun _=>rfl,fun i z=>?_⟩
  have key:∀ (j:UY) (u:U8),j<2->(jq ts[i])[j]?=U4 u->w.cell? ⟨g,i*2+j,U3⟩=U4 u:=by
   intro j u L B
   have J:(ts.flatMap jq)[i*2+j]?=U4 u:=by
    have f:ts=ts.take i++ts[i] :: ts.drop (i+1):=by rw[Wy,V1]
    rw[f,Wj,Wi];have k:((ts.take i).flatMap jq).length=i*2:=by rw[L5,Wk UI]
    rw[Wz UI,k,WB,Wg (by simp[jq];omega)];exact B
   have q:(r.toList.take (ts.length*2))[i*2+j]?=U4 u:=by rw[D];exact J
   rw[Wh UI] at q;simp only[WC] at q;simp[VA,C,q]
  exact⟨key 0 _ UI rfl,key 1 _ UI rfl⟩
theorem dO{c e size:UY}{xs:UV U8}{G:UV UY}(h:w.ownsRow c e size v n xs)(k:aF G w w')(u:∀ b,v.ownBlock=U4 b->b ∉ G):w'.ownsRow c e size v n xs:=by
 refine⟨h.1,?_⟩;rcases h.2 with A|⟨g,cap,q,r,z,j,rest⟩
 ·exact .inl A
 ·refine .inr ⟨g,cap,q,r,z,?_,rest⟩
  have f:g<w.heap.size:=by
   by_cases t:g<w.heap.size
   ·exact t
   ·rw[Wn UI] at j;cases j
  rw[k.block g f (u g (by rw[r];rfl))];exact j
theorem RD.off{g:UV (aA.aM × UY × UY)}{G:UV UY}(h:RD w d ts g given now F)(k:aF G w w')(q:∀ x∈F,x ∉ G)(z:∀ x∈g,x.2.1 ∉ G):RD w' d ts g given now F:=by
 have c:d ∉ G:=q d h.dF;obtain⟨u,D,C,t⟩:=h.tv;obtain⟨v2,B,A,r⟩:=h.ev
 exact⟨⟨u,k.cell c D,dO C k (fun b j=>q b (t b j).1),t⟩,⟨v2,k.cell c B,dO A k (fun b j=>q b (r b j).1),r⟩,k.cell c h.c2,k.cell c h.c3,
  fun o=>(k.frozen c (Vh _ _ h.c2)).trans (h.fz o),h.dF,fun x f=>⟨(h.sp x f).1.off k (z x f),(h.sp x f).2.1,WE (h.sp x f).2.2 k.size⟩⟩
def rM(c n:UZ):U8:=.agg #[.int .i64 c,.int .i64 0,.int .i64 n,.slice U3 0 0,.slice U3 0 0,.slice U3 0 0,.slice U3 0 0]
def lA(w:U7)(d o:UY)(v:U8)(f:UV Hp.Hi)(w':U7):Prop :=
 ∃ v',HP w' d o v' f/\(∀ b,v'.ownBlock=U4 b->v.ownBlock=U4 b\/w.heap.size<=b)/\aF (d :: v.ownBlock.toList) w w'/\(∀ c,c≠o->w'.cell? ⟨d,c,U3⟩=w.cell? ⟨d,c,U3⟩)/\∀ c,w'.frozen? ⟨d,c,U3⟩=w.frozen? ⟨d,c,U3⟩
theorem Sg{m:UV Hp.Hi}(h:m.length=n+1)(a b c:U8):(((m.flatMap iv).set (n*3) a).set (n*3+1) b).set (n*3+2) c=(m.take n).flatMap iv++[a,b,c]:=by
 have g:n<m.length:=UI
 have f:((m.take n).flatMap iv).length=n*3:=by rw[xV,Wk UI]
 conv=>lhs;rw[Cl g,Wj,Wi]
 rw[Wm _ _ UI,Wm _ _ UI,Wm _ _ UI,f];rw[show n*3-n*3=0 from by omega,show n*3+1-n*3=1 from by omega,show n*3+2-n*3=2 from by omega];have e:m.drop (n+1)=[]:=Wt UI;simp[iv,e]
def vw(w:U7)(H p n:UY)(x:Hp.Hi):U7 :=
 (((((w.setCell ⟨H,p*3,U3⟩ (.int .i64 x.t)).setCell ⟨H,p*3+1,U3⟩ (.int .i64 x.n)).setCell ⟨H,p*3+2,U3⟩ (.pointer (U4 ⟨x.v,0,U3⟩))).setCell ⟨H,n*3,U3⟩ (.int .i64 0)).setCell ⟨H,n*3+1,U3⟩ (.int .i64 0)).setCell ⟨H,n*3+2,U3⟩ (.pointer U3)
theorem SN(w:U7)(H p n:UY)(x:Hp.Hi):aF [H] w (vw w H p n x):=(tX _ _ _ _ _ _ _ _).trans (tX _ _ _ _ _ _ _ _)
theorem HP.vw{l:UV Hp.Hi}(h:HP w d o (.slice (U4 ⟨H,0,U3⟩) l.length cap) l)(g:l.length=n+1)(t:p<l.length):
  HP ((vw w H p n (Hp.at_ l n)).setCell ⟨d,o,U3⟩ (.slice (U4 ⟨H,0,U3⟩) n cap)) d o (.slice (U4 ⟨H,0,U3⟩) (Hp.cut l p).length cap) (Hp.cut l p):=by
 have f:d≠H:=fun e=>h.ne (by rw[e];rfl)
 have k:=SN w H p n (Hp.at_ l n);have u:=k.cell (by simpa using f) h.c;have a:=h.put t (Hp.at_ l n);have e:Hp.cut l p=(l.set p (Hp.at_ l n)).take n:=by unfold Hp.cut;rw[g];rfl
 have j:(Hp.cut l p).length=n:=by rw[Hp.pK,g];rfl
 have q:(l.set p (Hp.at_ l n)).length=n+1:=by simpa using g
 have b:=(((a.own.stored (n*3) (.int .i64 0)).1.stored (n*3+1) (.int .i64 0)).1.stored (n*3+2) (.pointer U3)).1;rw[Sg q,q,<- e] at b;have z:=ownsRow_pop (by rw[xV,j]) b;refine⟨?_,?_,h.ne,?_⟩
 ·rw[j];exact zm _ _ _ u
 ·rw[j];exact dO z (aF.aX d _ o _) (fun x r=>by simp;rintro rfl;exact f (by simpa[Wr] using r.symm))
 ·exact (zF ..).trans ((k.frozen (by simpa using f) (Vh _ _ h.c)).trans h.fz)
theorem lA.of{l1 j:UV Hp.Hi}(q:v.ownBlock=U4 H)(z:d<w.heap.size)(g:d≠H)(r:aF [d,H] w w1)(A:∀ c,c≠o->w1.cell? ⟨d,c,U3⟩=w.cell? ⟨d,c,U3⟩)(u:∀ c,w1.frozen? ⟨d,c,U3⟩=w.frozen? ⟨d,c,U3⟩)(h:kR w1 w2 d o H l1.length cap l1 j):lA w d o v j w2:=by
 have f:w2.heap[d]?=w1.heap[d]?:=h.off.block d (zL z r.size) (by simpa using g);refine⟨_,h.hp,fun b f=>.inl (by rw[q];exact f),?_,fun c t=>(zo f).trans (A c t),fun c=>?_⟩
 ·rw[q];exact r.trans' h.off (fun x k=>.inl (by simp at k;simp[k]))
 ·exact (WG f).trans (u c)
theorem Uf(d o:UY)(v:U8)(l:UV Hp.Hi)(p:UY)(w:U7)(h:HP w d o v l)(hh:Hp.gH l)(J:p<l.length)(hl:l.length<=1000):
  Va prog 204 #[.pointer (U4 ⟨d,o,U3⟩),.int .i64 p] w fun e w'=>e=.returned (.tuple #[])/\∃ j,lA w d o v j w'/\Hp.gH j/\l.Perm (Hp.at_ l p :: j):=by
 obtain⟨H,cap,rfl⟩:=h.form UI;obtain⟨n,S⟩:∃ n,l.length=n+1:=⟨l.length-1,by omega⟩;have c:=h.c;have f:d≠H:=fun e=>h.ne (by rw[e];rfl)
 obtain⟨a0,a1,a2⟩:=h.at J;obtain⟨b0,b1,b2⟩:=h.at (i:=n) UI;have fz:∀ k,w.frozen? ⟨H,k,U3⟩=U5:=fun k=>h.own.frozenAt k
 have fd:=h.fz;have U:=aC (h.vw S J);have e0:=(h.put J (Hp.at_ l n)).at (i:=n) UQ;have ee:Hp.at_ (l.set p (Hp.at_ l n)) n=Hp.at_ l n:=by rw[Hp.xq];split <;> rfl
 rw[ee] at e0;obtain⟨y0,y1,y2⟩:=e0;clear ee;have i1:(p:UZ)<(l.length:UZ):=UI
 have HH:=aC h;clear h;rw[S] at c i1;generalize hx:Hp.at_ l n=x at *
 go_in
 go_upto_region 1 with fail
 go_big_region
 have D:aF [H] w (((w.setCell ⟨H,p*3,U3⟩ (.int .i64 x.t)).setCell ⟨H,p*3+1,U3⟩ (.int .i64 x.n)).setCell ⟨H,p*3+2,U3⟩ (.pointer (U4 ⟨x.v,0,U3⟩))):=tX _ _ _ _ _ _ _ _;have c1:=D.cell (by simpa using f) c;have O:=(D.frozen (o:=o) (by simpa using f) (Vh _ _ c)).trans fd;have V:∀ k,(((w.setCell ⟨H,p*3,U3⟩ (.int .i64 x.t)).setCell ⟨H,p*3+1,U3⟩ (.int .i64 x.n)).setCell ⟨H,p*3+2,U3⟩ (.pointer (U4 ⟨x.v,0,U3⟩))).frozen? ⟨H,k,U3⟩=U5:=fun k=>by simp[World.frozen?_setCell,fz]
 unfold vw at U;generalize hX:(((w.setCell ⟨H,p*3,U3⟩ (.int .i64 x.t)).setCell ⟨H,p*3+1,U3⟩ (.int .i64 x.n)).setCell ⟨H,p*3+2,U3⟩ (.pointer (U4 ⟨x.v,0,U3⟩)))=X at *;clear hX;have C:=tX X H (n*3) (n*3+1) (n*3+2) (.int .i64 0) (.int .i64 0) (.pointer U3);have c2:=C.cell (by simpa using f) c1;have W:=(C.frozen (o:=o) (by simpa using f) (Vh _ _ c1)).trans O
 go_upto_region 3 with fail
 generalize hY:((X.setCell ⟨H,n*3,U3⟩ (.int .i64 0)).setCell ⟨H,n*3+1,U3⟩ (.int .i64 0)).setCell ⟨H,n*3+2,U3⟩ (.pointer U3)=Y at *;clear hY
 have N:n+1<=cap:=by
  have h:=HH.y.own.2;rcases h with ⟨h0,_⟩|⟨g,aa,ac,hv,_,_,h1,_⟩
  ·cases h0
  ·cases hv;omega
 have z:(n:UZ)<=(cap:UZ):=UI
 have oo:aF [d,H] w (Y.setCell ⟨d,o,U3⟩ (.slice (U4 ⟨H,0,U3⟩) n cap)):=((D.trans C).mono UJ).setCell (.inl UJ) _ _;have q:d<w.heap.size:=Vh _ _ c
 have M:∀ r,r≠o->(Y.setCell ⟨d,o,U3⟩ (.slice (U4 ⟨H,0,U3⟩) n cap)).cell? ⟨d,r,U3⟩=w.cell? ⟨d,r,U3⟩:=fun r ho =>
  (zS _ _ _ _ (by have:=ho;simp)).trans (zo ((D.trans C).block d q (by simpa using f)))
 have L:∀ r,(Y.setCell ⟨d,o,U3⟩ (.slice (U4 ⟨H,0,U3⟩) n cap)).frozen? ⟨d,r,U3⟩=w.frozen? ⟨d,r,U3⟩:=fun r =>
  (zF ..).trans (WG ((D.trans C).block d q (by simpa using f)))
 have A:=aC (zA oo (zA M L));have el:(Hp.cut l p).length=n:=by rw[Hp.pK,S];rfl
 clear oo M L D C c c1 a0 a1 a2 b0 b1 b2 y0 y1 y2 fz V fd O
 by_cases ab:p<n
 ·have K:(p:UZ)<(n:UZ):=UI
  go_upto_region 5 with fail
  generalize hZ:Y.setCell ⟨d,o,U3⟩ (.slice (U4 ⟨H,0,U3⟩) n cap)=Z at *;have SK:=aC (PM d o H cap (Hp.cut l p) p Z.drew (U.y.off (G:=[]) (aF.refl _ _).drew UJ UJ) UI (Hp.Pa hh UI) UI);clear hZ N z c2 W
  go_wp2_with fail
  refine SK.y.mono ?_;rintro e w4 ⟨rfl,l2,R,r2⟩;have T:=aC R;have u:=R.len;have RS:=aC (Gq d o H cap l2 p w4 (by rw[u];exact R.hp) UI r2 UI);clear R r2 SK
  go_wp2_with fail
  refine RS.y.mono ?_;rintro e w5 ⟨rfl,l3,B,r3⟩
  have HF:Hid (∃ j,lA w d o (.slice (U4 ⟨H,0,U3⟩) l.length cap) j w5/\Hp.gH j/\l.Perm (Hp.at_ l p :: j)):=by
   refine⟨l3,lA.of (l1:=Hp.cut l p) rfl q f A.y.1 A.y.2.1 A.y.2.2 ⟨by rw[el,<- el,<- u];exact B.hp,by rw[B.len,u],B.perm.trans T.y.perm,((aF.refl [H] Z).drew).trans (T.y.off.trans B.off)⟩,r3,?_⟩;exact (Hp.Gi J).trans ((B.perm.trans T.y.perm).symm.cons _)
  clear B r3 T RS
  go_wp2
  go_end0
  exact⟨rfl,HF.y⟩
 ·have K:¬ ((p:UZ)<(n:UZ)):=UI
  have I:p=n:=UI
  have HF:Hid (∃ j,lA w d o (.slice (U4 ⟨H,0,U3⟩) l.length cap) j (Y.setCell ⟨d,o,U3⟩ (.slice (U4 ⟨H,0,U3⟩) n cap)).drew/\Hp.gH j/\l.Perm (Hp.at_ l p :: j)):=by
   refine⟨Hp.cut l p,lA.of (l1:=Hp.cut l p) rfl q f A.y.1 A.y.2.1 A.y.2.2 ⟨U.y.off (G:=[]) (aF.refl _ _).drew UJ UJ,rfl,.refl _,(aF.refl _ _).drew⟩,?_,Hp.Gi J⟩;rw[I,show n=l.length-1 by omega];exact Hp.O9 hh
  clear U A S hx I el
  go_wp2
  go_end0
  exact⟨rfl,HF.y⟩
def sW(w:U7)(d:UY)(ts:UV (UU × UZ))(f:UV (aA.aM × UY × UY))(given now:UZ)(F:UV UY)(w':U7):Prop :=
 ∃ c,RD w' d ts f given now c/\(∀ k∈c,k∈F\/w.heap.size<=k)/\aF F w w'
theorem RD.nj{j:UV (aA.aM × UY × UY)}(h:RD w d ts j given now F)(g:UZ):RD (w.setCell ⟨d,2,U3⟩ (.int .i64 g)) d ts j g now F:=by
 obtain⟨t,B,A,r⟩:=h.tv;obtain⟨v2,z,u,q⟩:=h.ev;have k:aF [d] w (w.setCell ⟨d,2,U3⟩ (.int .i64 g)):=aF.aX ..
 exact⟨⟨t,(zS _ _ _ _ UJ).trans B,dO A k (fun b f=>by simpa using (r b f).2),r⟩,⟨v2,(zS _ _ _ _ UJ).trans z,dO u k (fun b f=>by simpa using (q b f).2),q⟩,Vu _ _ _ h.c2,(zS _ _ _ _ UJ).trans h.c3,
  fun o=>(zF ..).trans (h.fz o),h.dF,fun x c=>⟨(h.sp x c).1.off k (by simp;intro e;exact (h.sp x c).2.1 (e ▸ h.dF)),(h.sp x c).2.1,WE (h.sp x c).2.2 k.size⟩⟩
theorem eW{c e size:UY}{k:UV U8}(h:w.ownsRow c e size v n k)(f:v.ownBlock=U4 b):b<w.heap.size:=by
 rcases h.2 with ⟨rfl,_⟩|⟨g,cap,r,rfl,_,j,_⟩
 ·simp[Wr] at f
 ·simp[Wr] at f;subst f
  by_cases q:g<w.heap.size
  ·exact q
  ·rw[Wn UI] at j;cases j
theorem aF.grown{w'':U7}{row:UW UY}(h:aF F w w')(g:w'.grownBy w'' row)(q:∀ k,row=U4 k->k∈F\/w.heap.size<=k):aF F w w'' :=
 ⟨g.os.trans h.os,g.tape.trans h.tape,g.output.trans h.output,Vg h.size g.size,fun k c f=>(g.block k (zL c h.size) (fun e=>by rcases q k e.symm with j|j;exact f j;omega)).trans (h.block k c f)⟩
theorem RD.kP{Y z:U7}{c:UV (aA.aM × UY × UY)}{g:UY}{x:aA.aM × UY × UY}(h:RD Y d ts c given now F)(cv:Y.cell? ⟨d,1,U3⟩=U4 v)(ho:Y.ownsRow 0 58 6 v c.length (c.flatMap dN))(q:∀ k,v.ownBlock=U4 k->k∈F/\k≠d)(k:aF (v.ownBlock.toList) Y z)(L:z.ownsRow 0 58 6 (.slice (U4 ⟨g,0,U3⟩) (c.length+1) cap) (c.length+1) (c.flatMap dN++dN x))(S:v.ownBlock=U4 g\/Y.heap.size<=g)(Z:fY Y x.2.1 x.1.aL)(J:x.2.1 ∉ F)(I:x.2.1<Y.heap.size):
  RD (z.setCell ⟨d,1,U3⟩ (.slice (U4 ⟨g,0,U3⟩) (c.length+1) cap)) d ts (c++[x]) given now (g :: F)/\aF (d :: v.ownBlock.toList) Y (z.setCell ⟨d,1,U3⟩ (.slice (U4 ⟨g,0,U3⟩) (c.length+1) cap)):=by
 obtain⟨R,a1,V,O⟩:=h.tv;have t:=Vh _ _ h.c2;have t:d<Y.heap.size:=t
 have A:g≠d:=by
  rcases S with e|e
  ·exact (q g e).2
  ·omega
 have r:d ∉ v.ownBlock.toList:=by
  intro e;have:v.ownBlock=U4 d:=by simpa using e
  exact (q d this).2 rfl
 have K:∀ b,R.ownBlock=U4 b->b ∉ d :: v.ownBlock.toList:=by
  intro b j e;rcases Vq.1 e with e|e
  ·exact (O b j).2 e
  ·have e:v.ownBlock=U4 b:=by simpa using e
   rcases ho.2 with ⟨rfl,_⟩|⟨g',U,ab,rfl,_,hh,_⟩
   ·simp[Wr] at e
   ·simp[Wr] at e;subst e;exact iu V hh UK j
 have M:∀ y,y ∉ F->y ∉ d :: v.ownBlock.toList:=by
  intro y f e;rcases Vq.1 e with rfl|e
  ·exact f h.dF
  ·exact f (q y (by simpa using e)).1
 have B:aF (d :: v.ownBlock.toList) Y (z.setCell ⟨d,1,U3⟩ (.slice (U4 ⟨g,0,U3⟩) (c.length+1) cap)):=(k.mono (by intro y f;exact WH _ f)).setCell (.inl UJ) _ _
 have D:∀ y∈c++[x],fY Y y.2.1 y.1.aL/\y.2.1 ∉ F/\y.2.1<Y.heap.size:=by
  intro y f;rcases Vr.1 f with f|f
  ·exact h.sp y f
  ·have:y=x:=by simpa using f
   subst this;exact⟨Z,J,I⟩
 have N:∀ o u,Y.cell? ⟨d,o,U3⟩=U4 u->o≠1->(z.setCell ⟨d,1,U3⟩ (.slice (U4 ⟨g,0,U3⟩) (c.length+1) cap)).cell? ⟨d,o,U3⟩=U4 u:=by
  intro o u hu aa;exact (zS _ _ _ _ UJ).trans (k.cell r hu)
 refine⟨⟨⟨R,N 0 _ a1 UI,dO V B K,fun b j=>⟨WH _ (O b j).1,(O b j).2⟩⟩,⟨_,Vu _ _ _ (k.cell r cv),?_,?_⟩,N 2 _ h.c2 UI,N 3 _ h.c3 UI,fun o=>(zF ..).trans ((k.frozen r t).trans (h.fz o)),WH _ h.dF,?_⟩,B⟩
 ·rw[Wj,VU];have e1:([x].flatMap dN)=dN x:=UJ
  rw[e1];exact dO L (aF.aX ..) (fun b j=>by simp[Wr] at j;subst j;simpa using A)
 ·intro b j;simp[Wr] at j;subst j;exact⟨by simp,A⟩
 ·intro y f;obtain⟨X,C,W⟩:=D y f;refine⟨X.off B (M _ C),fun e=>?_,WE W B.size⟩;rcases Vq.1 e with e|e
  ·rcases S with T|T
   ·exact C (e ▸ (q g T).1)
   ·omega
  ·exact C e
theorem Po:(prog.info? 286).map (fun i=>(i.zero,i.size,i.bytes))=U4 (U4 (.agg #[.int .i64 0,.int .i64 0,.pointer U3]),3,24):=UO
theorem Pn(d o:UY)(v:U8)(l:UV Hp.Hi)(x:Hp.Hi)(w:U7)(h:HP w d o v l)(hh:Hp.gH l)(hl:l.length<=900):
  Va prog 198 #[.pointer (U4 ⟨d,o,U3⟩),.int .i64 x.t,.int .i64 x.n,.pointer (U4 ⟨x.v,0,U3⟩)] w fun e w'=>e=.returned (.tuple #[])/\∃ j,lA w d o v j w'/\Hp.gH j/\j.Perm (l++[x]):=by
 obtain⟨Z,M,K,J,I⟩:=info_parts Po;have c:=h.c;have V:=h.fz;have H:=aC h;clear h
 go_in
 have A:d<w.heap.size:=Vh _ _ c;have r:d ∉ v.ownBlock.toList:=by intro e;exact H.y.ne (by simpa using e)
 go_wp2_with (first
  |(at_builtin;refine wpList_append_lies _ rfl _ _ 140 rfl 0 286 Z _ 3 24 underlying140 M K J I rfl UK _ _ _ rfl (H.y.own.alloc _) ⟨w.heap.size,0,U3⟩ 1 1 (iv x) rfl rfl (Wv (cs:=(iv x).toArray) (cC w _)) (by simp[iv,WD]) UI UR UI UJ (w.heap.size+1) UJ ?_;intro g cap w1 u f B aa;have D:aF (v.ownBlock.toList) w w1:=aF.grown ((aF.refl _ w).alloc _) f (fun k L=>.inl (WI.2 L));have S:=D.cell r c;have R:=(D.frozen (o:=o) r A).trans V;clear f))
 have q:d≠g:=by
  rcases B with e|e
  ·rintro rfl;exact H.y.ne e
  ·omega
 have U:HP (w1.setCell ⟨d,o,U3⟩ (.slice (U4 ⟨g,0,U3⟩) (l.length+1) cap)) d o (.slice (U4 ⟨g,0,U3⟩) (l++[x]).length cap) (l++[x]):=by
  have W:(l++[x]).length=l.length+1:=UJ
  rw[W];refine⟨zm _ _ _ S,?_,fun e=>q (by simpa[Wr] using e.symm),(zF ..).trans R⟩;rw[W,Wj];have e2:[x].flatMap iv=iv x:=UJ
  rw[e2];exact dO u (aF.aX d _ o _) (fun b N=>by simp;rintro rfl;exact q (by simpa[Wr] using N.symm))
 have RS:=aC (Gq d o g cap (l++[x]) l.length _ U UJ (Hp.Pz hh) UQ);have z:=aC (zA D B);clear U u D B S R V c;refine RS.y.mono ?_;rintro e X ⟨rfl,j,C,T⟩
 have HF:Hid (∃ j,lA w d o v j X/\Hp.gH j/\j.Perm (l++[x])):=by
  refine⟨j,⟨_,C.hp,fun b N=>?_,?_,fun Y ho=>?_,fun Y=>?_⟩,T,C.perm⟩
  ·have:g=b:=by simpa[Wr] using N
   subst this;rcases z.y.2 with e|e
   ·exact .inl e
   ·exact .inr UI
  ·refine ((z.y.1.mono (by simp +contextual)).setCell (.inl UJ) o _).trans' C.off (fun k L=>?_);have:k=g:=by simpa using L
   subst this;rcases z.y.2 with e|e
   ·exact .inl (WH _ (WI.2 e))
   ·exact .inr UI
  ·have O:=C.off.block d (by have:=z.y.1.size;simp;omega) (by simpa using q);exact (zo O).trans ((zS _ _ _ _ (by have:=ho;simp)).trans (zo (z.y.1.block d A r)))
  ·have O:=C.off.block d (by have:=z.y.1.size;simp;omega) (by simpa using q);exact (WG O).trans ((zF ..).trans (WG (z.y.1.block d A r)))
 clear RS z C T
 go_wp2
 go_end0
 exact⟨rfl,HF.y⟩
def eP{α:Type}(p:α->UX):UV α->UZ->UZ
 |[],_=>-1
 |x :: r,i=>if p x then i else eP p r (i+1)
theorem vA{α:Type}(p:α->UX):∀ (l:UV α)(i:UZ),(eP p l i=-1/\∀ x∈l,p x=U5)\/∃ (k:UY)(h:k<l.length),eP p l i=i+k/\p l[k]=U6/\∀ (j:UY)(t:j<k),p (l[j]'UI)=U5
 |[],i=>.inl ⟨rfl,fun x u=>by simp at u⟩
 |x :: r,i=>by
  cases c:p x
  ·rcases vA p r (i+1) with ⟨q,g⟩|⟨k,h,q,g,z⟩
   ·exact .inl ⟨by simp[eP,c,q],fun y f=>by rcases Vq.1 f with rfl|f;exact c;exact g y f⟩
   ·refine .inr ⟨k+1,by simp;omega,by simp[eP,c,q];omega,by simpa using g,fun j t=>?_⟩
    cases j with
    |zero=>simpa using c
    |succ j=>simpa using z j UI
  ·exact .inr ⟨0,by simp,by simp[eP,c],by simpa using c,fun j t=>by omega⟩
theorem Oz{α:Type}(p:α->UX)(l:UV α):-1<=eP p l 0/\eP p l 0<l.length:=by
 rcases vA p l 0 with ⟨h,_⟩|⟨k,h,e,_⟩
 ·omega
 ·omega
theorem lA.from{f:UV Hp.Hi}(h:lA w1 d o v f w2)(k:U9 w.heap.size w w1)(g:d<w.heap.size):lA w d o v f w2:=by
 obtain⟨v',A,z,u,t,r⟩:=h;refine⟨v',A,fun b q=>(z b q).imp id (fun e=>Vg k.size e),(aF.aD k).trans u,fun c j=>(t c j).trans (zo (k.block d g)),fun c=>(r c).trans (WG (k.block d g))⟩
theorem QK(x:Hp.Hi)(t n:UZ)(A B:UY)(w:U7)(j:w.cell? ⟨A,0,U3⟩=U4 (.int .i64 t))(cb:w.cell? ⟨B,0,U3⟩=U4 (.int .i64 n)):
  Va prog 202 #[.agg #[.int .i64 x.t,.int .i64 x.n,.pointer (U4 ⟨x.v,0,U3⟩)],.pointer (U4 ⟨A,0,U3⟩),.pointer (U4 ⟨B,0,U3⟩)] w fun e w'=>e=.returned (.bool (gU x t n==0))/\U9 w.heap.size w w':=by
 have r:=aC (fun w'=>I5 x t n w');have c:U9 w.heap.size w (w.alloc (.cells #[.int .i64 x.t,.int .i64 x.n,.pointer (U4 ⟨x.v,0,U3⟩)] 286)):=(zr _ _).alloc (zq _) _;have h:=aN c j;have g:=aN c cb;have k:=aC c;clear c
 go_in
 go_wp2_with fail
 refine (r.y _).mono ?_;rintro e w1 ⟨rfl,f⟩;have q:=aC (aZ k.y f (zq _));clear f h g
 go_wp2
 go_ret;exact⟨rfl,q.y⟩
theorem Ub(l:UV Hp.Hi)(t n:UZ)(v:U8)(A B:UY)(w:U7)(own:w.ownsRow 0 286 3 v l.length (l.flatMap iv))(V:w.cell? ⟨A,0,U3⟩=U4 (.int .i64 t))(cb:w.cell? ⟨B,0,U3⟩=U4 (.int .i64 n))(Z:l.length<=1000):
  Va prog 201 #[v,.func (.func 202) #[] #[.pointer (U4 ⟨A,0,U3⟩),.pointer (U4 ⟨B,0,U3⟩)]] w fun e w'=>e=.returned (.int .i64 (eP (fun x=>gU x t n==0) l 0))/\U9 w.heap.size w w':=by
 have X:∃ a cap,v=.slice a l.length cap:=by
  rcases own.2 with ⟨rfl,h⟩|⟨g,cap,_,rfl,_⟩
  ·rw[h];exact⟨_,_,rfl⟩
  ·exact⟨_,_,rfl⟩
 obtain⟨a,cap,rfl⟩:=X;have I:=aC (zA V cb);have C:=aC own;clear V cb own
 go_in
 go_wp2_with fail
 go_loopw [8] (fun i wx=>∃ k:UY,k<=l.length/\i=.int .i64 k/\eP (fun x=>gU x t n==0) l 0=eP (fun x=>gU x t n==0) (l.drop k) k/\U9 w.heap.size w wx) (fun i _=>l.length-(intOf i).toNat)
 case atStart=>exact⟨0,V6 _,rfl,rfl,Below.refl _ _⟩
 case round =>
  obtain⟨k,hk,rfl,J,r⟩:=hrel;have N:=aC J;have R:=aC r
  by_cases f:k<l.length
  ·have Y:(k:UZ)<(l.length:UZ):=UI
   obtain⟨H,U,T⟩:=Joins.ownsRow_form C.y UI;simp only[Value.slice.injEq,true_and] at T;obtain⟨rfl,rfl⟩:=T;have c:=ey C.y r;have M:=(c.cellAt (k*3) UI).trans (ua f (j:=0) UI);have L:=(c.cellAt (k*3+1) UI).trans (ua f (j:=1) UI);have K:=(c.cellAt (k*3+2) UI).trans (ua f (j:=2) UI);simp only[iv,List.getElem?_cons_zero,List.getElem?_cons_succ] at M L K;have u:=aC (QK l[k] t n A B wr (aN r I.y.1) (aN r I.y.2));have S:eP (fun x=>gU x t n==0) (l.drop k) k=if gU l[k] t n==0 then (k:UZ) else eP (fun x=>gU x t n==0) (l.drop (k+1)) ((k+1:UY):UZ):=by rw[Ws f];rfl
   have W:=aC S;clear S c r J
   cases q:(gU l[k] t n==0)
   ·have D:Hid (eP (fun x=>gU x t n==0) l 0=eP (fun x=>gU x t n==0) (l.drop (k+1)) ((k+1:UY):UZ)):=by show _=_;rw[N.y,W.y,q];rfl
    rw[q] at u;clear q
    go_wp2_with fail
    refine u.y.mono ?_;rintro e w1 ⟨rfl,z⟩;have O:=aC (aZ R.y z (zq _));clear z M L K u
    go_wp2
    go_roundw
    case rel=>exact⟨k+1,by omega,by go_num,D.y,O.y⟩
    case measure=>simp[intOf];omega
   ·have D:Hid (eP (fun x=>gU x t n==0) l 0=k):=by show _=_;rw[N.y,W.y,q];rfl
    rw[q] at u;clear q
    go_wp2_with fail
    refine u.y.mono ?_;rintro e w1 ⟨rfl,z⟩;have O:=aC (aZ R.y z (zq _));clear z M L K u
    go_wp2
    go_ret;exact⟨gL D.y.symm,O.y⟩
  ·have Y:¬ (k:UZ)<(l.length:UZ):=UI
   have e:l.drop k=[]:=Wt UI;have D:Hid (eP (fun x=>gU x t n==0) l 0=-1):=by show _=_;rw[N.y,e];rfl
   clear J r e
   go_wp2
   go_ret;exact⟨gL D.y.symm,R.y⟩
theorem QT(d o:UY)(v:U8)(l:UV Hp.Hi)(t n:UZ)(w:U7)(h:HP w d o v l)(W:Hp.gH l)(R:l.length<=1000):
  Va prog 149 #[.pointer (U4 ⟨d,o,U3⟩),.int .i64 t,.int .i64 n] w fun e w'=>e=.returned (.tuple #[]) /\
   (((∀ x∈l,¬ (x.t=t/\x.n=n))/\U9 w.heap.size w w')\/∃ (x:Hp.Hi) (f:UV Hp.Hi),x.t=t/\x.n=n/\lA w d o v f w'/\Hp.gH f/\l.Perm (x :: f)):=by
 have B:U9 w.heap.size w ((w.alloc (.cells #[.int .i64 t] 3)).alloc (.cells #[.int .i64 n] 3)):=((zr _ _).alloc (zq _) _).alloc UJ _;have g:=h.later B;have c:=g.c;have K:((w.alloc (.cells #[.int .i64 t] 3)).alloc (.cells #[.int .i64 n] 3)).cell? ⟨w.heap.size,0,U3⟩=U4 (.int .i64 t):=UJ
 have J:((w.alloc (.cells #[.int .i64 t] 3)).alloc (.cells #[.int .i64 n] 3)).cell? ⟨w.heap.size+1,0,U3⟩=U4 (.int .i64 n):=by
  have:=cC (w.alloc (.cells #[.int .i64 t] 3)) (.cells #[.int .i64 n] 3);rw[World.size_alloc] at this;simp only[VA,this];rfl
 have T:=aC (Ub l t n v w.heap.size (w.heap.size+1) _ g.own K J R);have C:=aC (zA B g);have A:d<w.heap.size:=Vh _ _ h.c;have bd:=Oz (fun x=>gU x t n==0) l;have O:=vA (fun x=>gU x t n==0) l 0;clear B g K J h;generalize eP (fun x=>gU x t n==0) l 0=q at *;have r:=aC O;clear O
 go_in
 go_wp2_with fail
 generalize ((w.alloc (.cells #[.int .i64 t] 3)).alloc (.cells #[.int .i64 n] 3))=X at *;refine T.y.mono ?_;rintro e w1 ⟨rfl,u⟩;have I:=aC (zA (aZ C.y.1 u (zq _)) (C.y.2.later u));clear u T c C
 by_cases h0:0<=q
 ·obtain⟨k,z,Z,j,Y⟩:∃ (k:UY) (h:k<l.length),q=k/\(gU l[k] t n==0)=U6/\True:=by
   rcases r.y with ⟨h,_⟩|⟨k,h,e,j,_⟩
   ·omega
   ·exact⟨k,h,by omega,j,trivial⟩
  subst Z;have S:=aC (Uf d o v l k w1 I.y.2 W z R);have HE:=aC j;clear j Y r
  go_wp2_with fail
  refine S.y.mono ?_;rintro e w2 ⟨rfl,f,N,M,L⟩
  have D:Hid (∃ (x:Hp.Hi) (f:UV Hp.Hi),x.t=t/\x.n=n/\lA w d o v f w2/\Hp.gH f/\l.Perm (x :: f)):=by
   have j:gU l[k] t n=0:=by simpa using HE.y
   obtain⟨V,U⟩:=(G5 _ _ _).1 j;refine⟨Hp.at_ l k,f,by rw[Hp.sM z];exact V,by rw[Hp.sM z];exact U,N.from I.y.1 A,M,L⟩
  clear N M L S
  go_wp2
  go_end0
  exact⟨rfl,.inr D.y⟩
 ·have D:Hid (∀ x∈l,¬ (x.t=t/\x.n=n)):=by
   rcases r.y with ⟨_,h⟩|⟨k,h,e,_⟩
   ·intro x g e;have:=h x g;have e0:=(G5 x t n).2 e;simp[e0] at this
   ·omega
  clear r
  go_wp2
  go_end0
  exact⟨rfl,.inl ⟨D.y,I.y.1⟩⟩
open Go Go.Maps
def xf(o:UW UY):U8:=.pointer (o.map fun b=>⟨b,0,U3⟩)
def jv(o:UW UY):DataW Unit:=.lit (.int .i64 (match o with|none=>-1|some b=>(b:UZ)))
def pv:U8->UW (DataW Unit × UV MemPlace)
 |.pointer U3=>U4 (jv U3,[])
 |.pointer (U4 ⟨b,0,U3⟩)=>U4 (jv (U4 b),[])
 |_=>U3
theorem OY(o:UW UY):pv (xf o)=U4 (jv o,[]):=by cases o <;> rfl
theorem Gp{a b:UW UY}(h:jv a=jv b):a=b:=by
 unfold jv at h
 cases a <;> cases b <;> simp at h ⊢ <;> omega
theorem Qj{o:UW UY}{c:UV MemPlace}(h:pv v=U4 (jv o,c)):v=xf o:=by
 unfold pv at h
 split at h
 ·have e:jv U3=jv o:=congrArg Prod.fst (WJ h);have:=Gp e;subst this;rfl
 ·rename_i b
  have e:jv (U4 b)=jv o:=congrArg Prod.fst (WJ h);have:=Gp e;subst this;rfl
 ·cases h
noncomputable def kY(f:Lit->UW UY)(c:Lit)(o:UW UY)(x:Lit):UW UY:=@ite _ (x=c) (Classical.propDecidable _) o (f x)
theorem sL(f:Lit->UW UY)(c:Lit)(o:UW UY):kY f c o c=o:=U1 rfl
theorem sP(f:Lit->UW UY){c x:Lit}(o:UW UY)(h:x≠c):kY f c o x=f x:=U0 h
def e9(P:Program)(k:Vc)(w:U7)(b n:UY)(f:Lit->UW UY)(sz:UY):Prop :=
 ∃ D,w.ownsMap P k pv b n D/\WK D=sz/\(∀ c,D.atKey c (jv U3)=jv (f c))/\∀ c,WL D c=(f c).isSome
theorem e9.block{P:Program}{k:Vc}{f:Lit->UW UY}(h:e9 P k w b n f sz)(g:w'.heap[b]?=w.heap[b]?):e9 P k w' b n f sz:=by
 obtain⟨D,⟨es,c,r,q⟩,j⟩:=h;exact⟨D,⟨es,c,g.trans r,q⟩,j⟩
theorem e9.tight{P:Program}{k:Vc}{f:Lit->UW UY}(h:e9 P k w b n f sz):e9 P k w b sz f sz:=by
 obtain⟨D,⟨es,c,t,r,u,j⟩,g,q⟩:=h;refine⟨D,⟨es,c,t,r,?_,j⟩,g,q⟩;rw[<- g,j,Maps.size_eq,length_sorted];simp
theorem e9.made(P:Program)(k:Vc)(w:U7):e9 P k (w.alloc (.map #[] 0)) w.heap.size 0 (fun _=>U3) 0 :=
 ⟨.map [],World.ownsMap_made w P k pv,rfl,fun _=>rfl,fun _=>rfl⟩
theorem e9.look{P:Program}{k e t:Vc}{f:Lit->UW UY}(h:e9 P k w b n f sz)(K:Keyed P k)(ht:P.underlying t=U4 (.map k e))(r:(zeroValue e).run P w=.ok (.pointer U3) w){j:Lit}(g:keyOf P k key=U4 j):
  (Instr.lookup t (.map (U4 b)) key U5).run P w=.ok (xf (f j)) w:=by
 obtain⟨D,z,_,u,_⟩:=h;obtain⟨v,A,c,q⟩:=z.lookup K ht r (zd:=jv U3) (zp:=[]) rfl g;rw[u] at q;rw[c,Qj q]
theorem e9.len{P:Program}{k e t:Vc}{f:Lit->UW UY}(h:e9 P k w b n f sz)(ht:P.underlying t=U4 (.map k e))(c:Vc):(Builtin.len_ #[t] c #[.map (U4 b)]).run P w=.ok (.int .i64 sz) w:=by
 obtain⟨D,j,g,_⟩:=h;rw[j.len ht c,g]
theorem e9.put{P:Program}{k:Vc}{f:Lit->UW UY}{D:DataW Unit}{g:Lit}(K:Keyed P k)(w:U7)(j:w.ownsMap P k pv b n D)(h:w'.ownsMap P k pv b (n+1) (D.put g (jv (U4 p))))(q:WM g)(t:∀ g,D.atKey g (jv U3)=jv (f g))(r:∀ g,WL D g=(f g).isSome):
  e9 P k w' b (n+1) (kY f g (U4 p)) (if (f g).isSome then WK D else WK D+1):=by
 refine⟨_,h,?_,fun x=>?_,fun x=>?_⟩
 ·rw[Maps.size_put (j.tidy K),r]
 ·by_cases c:x=g
  ·rw[c,sL,Maps.atKey_put_same j.isMap q]
  ·rw[sP f _ c,Maps.atKey_put_other c,t]
 ·by_cases c:x=g
  ·rw[c,sL,Maps.has_put_same j.isMap q];rfl
  ·rw[sP f _ c,Maps.has_put_other c,r]
theorem e9.del{P:Program}{k:Vc}{f:Lit->UW UY}{D:DataW Unit}{g:Lit}(K:Keyed P k)(w:U7)(q:w.ownsMap P k pv b n D)(h:w'.ownsMap P k pv b n (D.del g))(r:∀ g,D.atKey g (jv U3)=jv (f g))(j:∀ g,WL D g=(f g).isSome):
  e9 P k w' b n (kY f g U3) (WK D-if (f g).isSome then 1 else 0):=by
 refine⟨_,h,?_,fun x=>?_,fun x=>?_⟩
 ·have:=Maps.size_del (k:=g) (q.tidy K);rw[j] at this;omega
 ·by_cases c:x=g
  ·rw[c,sL,Maps.atKey_del_same]
  ·rw[sP f _ c,Maps.atKey_del_other c,r]
 ·by_cases c:x=g
  ·rw[c,sL,Maps.has_del_same];rfl
  ·rw[sP f _ c,Maps.has_del_other c,j]
theorem e9.lN{P:Program}{k e t:Vc}{f:Lit->UW UY}(h:e9 P k w b n f sz)(K:Keyed P k)(ht:P.underlying t=U4 (.map k e)){j:Lit}(g:keyOf P k key=U4 j)(q:Vc):
  ∃ w',(Builtin.delete_ #[t,k] q #[.map (U4 b),key]).run P w=.ok (.tuple #[]) w'/\e9 P k w' b n (kY f j U3) (sz-if (f j).isSome then 1 else 0)/\w.grownBy w' (U4 b):=by
 obtain⟨D,r,C,B,A⟩:=h;obtain⟨w',c,z,u⟩:=r.drop K ht g q;refine⟨w',c,?_,u.grown⟩;rw[<- C];exact e9.del K w r z B A
theorem e9.jT{P:Program}{k e t:Vc}{f:Lit->UW UY}(h:e9 P k w b n f sz)(K:Keyed P k)(ht:P.underlying t=U4 (.map k e))(A:n<maxLen){q:Lit}(j:keyOf P k key=U4 q)(g:WM q)(p:UY):
  ∃ w',(Instr.mapUpdate t (.map (U4 b)) key (xf (U4 p))).run P w=.ok () w'/\e9 P k w' b (n+1) (kY f q (U4 p)) (if (f q).isSome then sz else sz+1)/\w.grownBy w' (U4 b):=by
 obtain⟨D,r,I,C,B⟩:=h;obtain⟨w',c,z,u⟩:=r.update K ht A j (OY (U4 p));refine⟨w',c,?_,u⟩;rw[<- I];exact e9.put K w r z g C B
section
variable {P:Program}(w:U7) {ops:Array Oper}{rest:UV Oper}{o:Oper}{a:Act}{Q:Exit->Act->U7->Prop}
end
end Go.Proofs.YtfigmlfdnickmaaGreatDoor
namespace Go.Proofs.YtfigmlfdnickmaaGreatDoor.Cal
def ah(y:UZ):UZ:=(y-1)*365+(y-1) / 4-(y-1) / 100+(y-1) / 400
def lP(y:UZ):UX:=y % 4==0 && (y % 100 != 0 || y % 400==0)
def lp(y:UZ):UZ:=if lP y then 1 else 0
def iL(m:UZ):UZ:=if m=2 then 28 else if m=4\/m=6\/m=9\/m=11 then 30 else 31
def fP(y m:UZ):UZ:=if m=2 then 28+lp y else iL m
def cI(y m:UZ):UZ :=
 if m<=1 then 0 else if m=2 then 31 else lp y+(if m=3 then 59 else if m=4 then 90 else if m=5 then 120 else if m=6 then 151 else if m=7 then 181 else if m=8 then 212 else if m=9 then 243 else if m=10 then 273 else if m=11 then 304 else if m=12 then 334 else 365)
def first:UZ:=-738885
def last:UZ:=2913173
def num(y m d:UZ):UZ:=first+ah y+cI y m+d-1
def ok(y m d:UZ):UX:=decide (1<=y/\y<=9999/\1<=m/\m<=12/\1<=d/\d<=fP y m)
theorem qy(y:UZ):0<=lp y/\lp y<=1:=by unfold lp;split <;> omega
theorem Ob(y:UZ):lp y=1/\y % 4=0/\(y % 100≠0\/y % 400=0)\/lp y=0/\¬ (y % 4=0/\(y % 100≠0\/y % 400=0)):=by
 unfold lp
 cases h:lP y
 ·right;refine⟨by simp,?_⟩;simp only[lP,Bool.and_eq_false_iff,Bool.or_eq_false_iff,beq_eq_false_iff_ne,bne_eq_false_iff_eq] at h;omega
 ·left;refine⟨by simp,?_⟩;simp only[lP,WN,Bool.or_eq_true,beq_iff_eq,bne_iff_ne] at h;exact h
theorem sj(y:UZ)(_h:1<=y):ah (y+1)=ah y+365+lp y:=by
 rcases Ob y with ⟨e,c⟩|⟨e,c⟩ <;> rw[e] <;> unfold ah <;> omega
theorem sq(a b:UZ)(_h0:1<=a)(_h:a<=b):ah a<=ah b:=by unfold ah;omega
theorem KM:ah 1=0:=UK
theorem xp:ah 10000=3652059:=UK
theorem Gg(g:UZ)(_h:0<=g):ah (g*400 / 146097+1)<=g:=by unfold ah;omega
theorem qv(y:UZ)(_h1:1<=y)(_h2:y<=10000):0<=ah y/\ah y<=3652059:=by unfold ah;omega
theorem OB(m:UZ):28<=iL m/\iL m<=31:=by unfold iL;(repeat' split) <;> omega
theorem nQ(y m:UZ):28<=fP y m/\fP y m<=31:=by
 have:=qy y;have:=OB m;unfold fP;split <;> omega
theorem AD(m:UZ)(f:1<=m)(c:m<=12):m=1\/m=2\/m=3\/m=4\/m=5\/m=6\/m=7\/m=8\/m=9\/m=10\/m=11\/m=12:=UI
theorem oA(y:UZ):cI y 1=0:=by simp[cI]
theorem pI(y m:UZ)(f:1<=m)(c:m<=12):cI y (m+1)=cI y m+fP y m:=by
 rcases AD m f c with h|h|h|h|h|h|h|h|h|h|h|h <;> subst h <;> simp[cI,fP,iL] <;> omega
theorem vb(y:UZ):cI y 13=365+lp y:=by simp[cI];omega
theorem AM(y a:UZ)(k:UY)(g:1<=a)(f:a+k<=13):cI y a<=cI y (a+k):=by
 induction k with
 |zero=>simp
 |succ k ih =>
  have c:=pI y (a+k) UI UI;have d:=nQ y (a+k);have i:=ih UI;rw[show a+((k+1:UY):UZ)=a+k+1 from by omega,c];omega
theorem qz(y m:UZ)(c:1<=m)(f:m<=13):0<=cI y m/\cI y m<=365+lp y:=by
 have a:=AM y 1 (m-1).toNat UI UI;have b:=AM y m (13-m).toNat c UI;rw[show (1:UZ)+((m-1).toNat:UZ)=m from by omega,oA] at a;rw[show m+((13-m).toNat:UZ)=13 from by omega,vb] at b;exact⟨a,b⟩
theorem Bm(y a b:UZ)(f:1<=a)(h:a<b)(g:b<=13):cI y a+fP y a<=cI y b:=by
 rw[<- pI y a f UI];have c:=AM y (a+1) (b-(a+1)).toNat UI UI
 rwa [show (a+1)+((b-(a+1)).toNat:UZ)=b from by omega] at c
theorem gO(y m d:UZ):ok y m d=U6↔1<=y/\y<=9999/\1<=m/\m<=12/\1<=d/\d<=fP y m:=by simp[ok]
theorem vp(y m d:UZ)(h:ok y m d=U6):ah y<=num y m d-first/\num y m d-first<ah (y+1):=by
 obtain⟨j,r,f,g,q,k⟩:=(gO y m d).1 h;have a:=sj y j;have b:=qz y m f UI;have c:=pI y m f g;have e:=qz y (m+1) UI UI;unfold num;omega
theorem Qy(a b n:UZ)(f:1<=a)(c:1<=b)(q:ah a<=n)(k:n<ah (a+1))(j:ah b<=n)(g:n<ah (b+1)):a=b:=by
 by_cases h:a<b
 ·have:=sq (a+1) b UI UI;omega
 ·by_cases r:b<a
  ·have:=sq (b+1) a UI UI;omega
  ·omega
theorem QF(y a b n:UZ)(j:1<=a)(g:a<=12)(f:1<=b)(c:b<=12)(u:cI y a<=n)(t:n<cI y a+fP y a)(r:cI y b<=n)(q:n<cI y b+fP y b):a=b:=by
 by_cases h:a<b
 ·have:=Bm y a b j h UI;omega
 ·by_cases k:b<a
  ·have:=Bm y b a f k UI;omega
  ·omega
theorem one(y m d y' m' d':UZ)(h:ok y m d=U6)(f:ok y' m' d'=U6)(e:num y m d=num y' m' d'):y=y'/\m=m'/\d=d':=by
 have i:=vp y m d h;have c:=vp y' m' d' f;obtain⟨r,C,q,k,B,A⟩:=(gO y m d).1 h;obtain⟨z,J,u,t,I,D⟩:=(gO y' m' d').1 f;have g:y=y':=Qy y y' (num y m d-first) r z i.1 i.2 (by rw[e];exact c.1) (by rw[e];exact c.2);subst g;unfold num at e;have j:m=m':=QF y m m' (cI y m+d-1) q k u t UI UI UI UI;subst j;exact⟨rfl,rfl,by omega⟩
theorem AE(y m d:UZ)(h:ok y m d=U6):first<=num y m d/\num y m d<=last:=by
 obtain⟨f,r,q,k,j,g⟩:=(gO y m d).1 h;have i:=vp y m d h;have a:=sq (y+1) 10000 UI UI;have b:=qv y f UI;have c:=xp;unfold first at i;unfold first last;omega
end Go.Proofs.YtfigmlfdnickmaaGreatDoor.Cal
namespace Go.Proofs.YtfigmlfdnickmaaGreatDoor.Cal
def yF(g:UZ):UZ:=if ah (g*400 / 146097+2)<=g then g*400 / 146097+2 else g*400 / 146097+1
def mF(y r:UZ):UZ:=if r<cI y 2 then 1 else if r<cI y 3 then 2 else if r<cI y 4 then 3 else if r<cI y 5 then 4 else if r<cI y 6 then 5 else if r<cI y 7 then 6 else if r<cI y 8 then 7 else if r<cI y 9 then 8 else if r<cI y 10 then 9 else if r<cI y 11 then 10 else if r<cI y 12 then 11 else 12
theorem OL(g:UZ)(_h:0<=g):g<ah (g*400 / 146097+3):=by unfold ah;omega
theorem Og(g:UZ)(h:0<=g):1<=yF g/\ah (yF g)<=g/\g<ah (yF g+1):=by
 have a:=Gg g h;have b:=OL g h;unfold yF
 split
 ·refine⟨by omega,by assumption,?_⟩;rw[show g*400 / 146097+2+1=g*400 / 146097+3 from by omega];exact b
 ·refine⟨by omega,a,?_⟩;rw[show g*400 / 146097+1+1=g*400 / 146097+2 from by omega];omega
theorem Oc(y r:UZ)(C:0<=r)(B:r<cI y 13):1<=mF y r/\mF y r<=12/\cI y (mF y r)<=r/\r<cI y (mF y r+1):=by
 have D:=oA y;unfold mF
 by_cases A:r<cI y 2
 ·rw[U1 A];exact⟨by omega,by omega,by omega,A⟩
 rw[U0 A]
 by_cases z:r<cI y 3
 ·rw[U1 z];exact⟨by omega,by omega,by omega,z⟩
 rw[U0 z]
 by_cases u:r<cI y 4
 ·rw[U1 u];exact⟨by omega,by omega,by omega,u⟩
 rw[U0 u]
 by_cases t:r<cI y 5
 ·rw[U1 t];exact⟨by omega,by omega,by omega,t⟩
 rw[U0 t]
 by_cases q:r<cI y 6
 ·rw[U1 q];exact⟨by omega,by omega,by omega,q⟩
 rw[U0 q]
 by_cases k:r<cI y 7
 ·rw[U1 k];exact⟨by omega,by omega,by omega,k⟩
 rw[U0 k]
 by_cases j:r<cI y 8
 ·rw[U1 j];exact⟨by omega,by omega,by omega,j⟩
 rw[U0 j]
 by_cases h:r<cI y 9
 ·rw[U1 h];exact⟨by omega,by omega,by omega,h⟩
 rw[U0 h]
 by_cases g:r<cI y 10
 ·rw[U1 g];exact⟨by omega,by omega,by omega,g⟩
 rw[U0 g]
 by_cases f:r<cI y 11
 ·rw[U1 f];exact⟨by omega,by omega,by omega,f⟩
 rw[U0 f]
 by_cases c:r<cI y 12
 ·rw[U1 c];exact⟨by omega,by omega,by omega,c⟩
 rw[U0 c];exact⟨by omega,by omega,by omega,B⟩
def yT(n:UZ):UZ:=yF (n+738885)
def mT(n:UZ):UZ:=mF (yT n) (n+738885-ah (yT n))
def dT(n:UZ):UZ:=n+738885-ah (yT n)-cI (yT n) (mT n)+1
theorem tt(n:UZ)(g:-738885<=n)(f:n<=2913173):ok (yT n) (mT n) (dT n)=U6/\num (yT n) (mT n) (dT n)=n:=by
 have ⟨a1,a2,a3⟩:=Og (n+738885) UI;have s:=sj (yF (n+738885)) a1
 have c:yF (n+738885)<=9999:=by
  by_cases h:yF (n+738885)<=9999
  ·exact h
  ·have:=sq 10000 (yF (n+738885)) UI UI;have:=xp;omega
 have j:=vb (yF (n+738885));have ⟨b1,b2,b3,b4⟩:=Oc (yF (n+738885)) (n+738885-ah (yF (n+738885))) UI UI;have cs:=pI (yF (n+738885)) (mF (yF (n+738885)) (n+738885-ah (yF (n+738885)))) b1 b2;refine⟨(gO _ _ _).2 ?_,?_⟩
 ·unfold dT mT yT;refine⟨a1,c,b1,b2,by omega,by omega⟩
 ·unfold num dT mT yT first;omega
theorem AA(y m d n:UZ)(h:ok y m d=U6)(e:num y m d=n):y=yT n/\m=mT n/\d=dT n:=by
 have b:=AE y m d h;rw[e] at b;unfold first last at b;have ⟨h1,h2⟩:=tt n b.1 b.2;exact one y m d _ _ _ h h1 (by rw[e,h2])
end Go.Proofs.YtfigmlfdnickmaaGreatDoor.Cal
namespace Go.Proofs.YtfigmlfdnickmaaGreatDoor.aB
def rR(c:UInt8):UX:=decide (48<=(c.toNat:UZ)/\(c.toNat:UZ)<=57)
def gu(l:UV UInt8):UX:=l.all rR
def mD(l:UV UInt8):UZ:=l.foldl (fun n c=>n*10+((c.toNat:UZ)-48)) 0
def low(c:UInt8):UX:=decide (97<=(c.toNat:UZ)/\(c.toNat:UZ)<=122)
def nM(l:UV UInt8):UX:=l.all low
def isNum(l:UV UInt8):UX:=decide (1<=l.length/\l.length<=7) && gu l
def fc(l:UV UInt8):UX:=decide (1<=l.length/\l.length<=8) && nM l
theorem sD(c:UInt8):rR c=U6↔48<=(c.toNat:UZ)/\(c.toNat:UZ)<=57:=by simp[rR]
theorem xn(c:UInt8):low c=U6↔97<=(c.toNat:UZ)/\(c.toNat:UZ)<=122:=by simp[low]
theorem xU(l:UV UInt8)(c:UInt8):gu (l++[c])=(gu l && rR c):=by simp[gu]
theorem xD(l:UV UInt8)(c:UInt8):nM (l++[c])=(nM l && low c):=by simp[nM]
theorem TS(l:UV UInt8)(c:UInt8):mD (l++[c])=mD l*10+((c.toNat:UZ)-48):=by simp[mD]
theorem xO(s:UU)(k:UY)(h:k<s.size):s.data.toList.take (k+1)=s.data.toList.take k++[s[k]]:=by
 rw[V5 (by simpa using h)];rfl
theorem sE(s:UU)(k:UY)(h:s.size<=k):s.data.toList.take k=s.data.toList:=V7 (by simpa using h)
theorem fM(s:UU):s.data.toList.length=s.size:=UJ
theorem I3(l:UV UInt8)(k:UY)(h:gu (l.take k)=U5):gu l=U5:=by
 unfold gu at *;rw[Ww] at *;obtain⟨x,c,h⟩:=h;exact⟨x,Wb c,h⟩
theorem Hf(l:UV UInt8)(k:UY)(h:nM (l.take k)=U5):nM l=U5:=by
 unfold nM at *;rw[Ww] at *;obtain⟨x,c,h⟩:=h;exact⟨x,Wb c,h⟩
theorem Ou(l:UV UInt8):∀ (k:UY)(n:UZ),0<=n->n<10 ^ k->gu l=U6->0<=l.foldl (fun n c=>n*10+((c.toNat:UZ)-48)) n/\l.foldl (fun n c=>n*10+((c.toNat:UZ)-48)) n<10 ^ (k+l.length):=by
 induction l with
 |nil=>intro k n h g _;exact⟨h,g⟩
 |cons c l ih =>
  intro k n h g f;simp only[gu,List.all_cons,WN] at f;have j:=(sD c).1 f.1;have:=ih (k+1) (n*10+((c.toNat:UZ)-48)) UI (by rw[Int.pow_succ];omega) f.2;simp only[List.foldl_cons,VV];rw[show k+(l.length+1)=k+1+l.length from by omega];exact this
theorem FM(l:UV UInt8)(h:gu l=U6)(c:l.length<=7):0<=mD l/\mD l<=9999999:=by
 have b:=Ou l 0 0 UI UK h;have q:∀ k:UY,k<8->(10:UZ) ^ k<=10000000:=UK
 have p:=q (0+l.length) UI;unfold mD;omega
theorem BC(g:1<=l.length)(f:l.length<=7)(c:gu l=U6):isNum l=U6:=by
 simp[isNum,g,f,c]
theorem xA(h:¬ (1<=l.length/\l.length<=7)):isNum l=U5:=by
 unfold isNum;rw[decide_eq_false h];rfl
theorem Bi(h:gu l=U5):isNum l=U5:=by simp[isNum,h]
theorem G9(l:UV UInt8):isNum l=U6↔(1<=l.length/\l.length<=7)/\gu l=U6:=by simp[isNum]
theorem GM(g:1<=l.length)(f:l.length<=8)(c:nM l=U6):fc l=U6:=by
 simp[fc,g,f,c]
theorem xL(h:¬ (1<=l.length/\l.length<=8)):fc l=U5:=by
 unfold fc;rw[decide_eq_false h];rfl
theorem Gb(h:nM l=U5):fc l=U5:=by simp[fc,h]
def cF(l:UV UInt8):UZ:=if isNum l then mD l else 0
theorem kV(l:UV UInt8):0<=cF l/\cF l<=9999999:=by
 unfold cF
 split
 ·rename_i h
  have:=(G9 l).1 h;exact FM l this.2 this.1.2
 ·omega
end Go.Proofs.YtfigmlfdnickmaaGreatDoor.aB
namespace Go.Proofs.YtfigmlfdnickmaaGreatDoor.aB
def dP(s:UU)(i:UY):UZ:=((s.data.toList.getD i 0).toNat:UZ)
theorem jc(s:UU)(i:UY)(h:i<s.size):dP s i=(s[i].toNat:UZ):=by
 unfold dP;rw[WQ,WS (by simpa using h)];rfl
def part(s:UU)(a b:UY):UV UInt8:=(s.extract a b).data.toList
def dA(s:UU):UX:=decide (s.size=5/\dP s 2=58/\isNum (part s 0 2)=U6/\isNum (part s 3 5)=U6/\cF (part s 0 2)<=23/\cF (part s 3 5)<=59)
def fo(s:UU):UZ:=if dA s then cF (part s 0 2)*60+cF (part s 3 5) else 0
def iI(s:UU):UX:=decide (s.size=10/\dP s 4=45/\dP s 7=45/\isNum (part s 0 4)=U6/\isNum (part s 5 7)=U6/\isNum (part s 8 10)=U6/\Cal.ok (cF (part s 0 4)) (cF (part s 5 7)) (cF (part s 8 10))=U6)
def eI(s:UU):UZ:=if iI s then Cal.num (cF (part s 0 4)) (cF (part s 5 7)) (cF (part s 8 10)) else 0
def cM(s:UU):UX:=decide (iI s=U6/\0<=eI s/\eI s<728)
theorem yg(h:¬ (s.size=5/\dP s 2=58/\isNum (part s 0 2)=U6/\isNum (part s 3 5)=U6/\cF (part s 0 2)<=23/\cF (part s 3 5)<=59)):dA s=U5:=decide_eq_false h
theorem tV(h:¬ (s.size=10/\dP s 4=45/\dP s 7=45/\isNum (part s 0 4)=U6/\isNum (part s 5 7)=U6/\isNum (part s 8 10)=U6/\Cal.ok (cF (part s 0 4)) (cF (part s 5 7)) (cF (part s 8 10))=U6)):iI s=U5:=decide_eq_false h
theorem GG(c:s.size=5)(f:dP s 2=58):dA s=(isNum (part s 0 2) && isNum (part s 3 5) && decide (cF (part s 0 2)<=23) && decide (cF (part s 3 5)<=59)):=by
 rw[WU];simp[dA,c,f,and_assoc]
theorem FE(c:s.size=10)(g:dP s 4=45)(f:dP s 7=45):iI s=(isNum (part s 0 4) && isNum (part s 5 7) && isNum (part s 8 10) && Cal.ok (cF (part s 0 4)) (cF (part s 5 7)) (cF (part s 8 10))):=by
 rw[WU];simp[iI,c,g,f,and_assoc]
theorem xg(s:UU):0<=fo s/\fo s<=1439:=by
 unfold fo
 split
 ·rename_i h
  have h:=of_decide_eq_true h;have:=kV (part s 0 2);have:=kV (part s 3 5);omega
 ·omega
theorem Fv(s:UU):-738885<=eI s/\eI s<=2913173:=by
 unfold eI
 split
 ·rename_i h
  have h:=of_decide_eq_true h;have b:=Cal.AE _ _ _ h.2.2.2.2.2.2;unfold Cal.first Cal.last at b;exact b
 ·omega
end Go.Proofs.YtfigmlfdnickmaaGreatDoor.aB
namespace Go.Proofs.YtfigmlfdnickmaaGreatDoor.aB
open Go
def iQ(s:UU):UX:=decide (s.size=16/\dP s 10=47/\iI (s.extract 0 10)=U6/\dA (s.extract 11 16)=U6)
def kg(s:UU):UZ:=if iQ s then eI (s.extract 0 10)*1440+fo (s.extract 11 16) else 0
def iU(s:UU):UU:={ data:=(WV s.data.toList [47]).fst.toArray }
def iV(s:UU):UU:={ data:=(WV s.data.toList [47]).snd.fst.toArray }
def ou(s:UU):UX:=(WV s.data.toList [47]).snd.snd
theorem oF(s:UU)(a b:UY):(s.extract a b).data.toList=(s.data.toList.take b).drop a:=by
 rw[ByteArray.data_extract,Array.toList_extract];simp[WW]
theorem pE{t:UU}(h:s.data.toList=t.data.toList):s=t:=by
 cases s;cases t;simp only at h;congr;exact Array.toList_inj.1 h
theorem Om(c:UInt8)(h:rR c=U6):c≠47:=by
 intro e;subst e;revert h;decide
theorem Bo(h:gu l=U6){c:UInt8}(f:c∈l):c≠47:=Om c (by
 unfold gu at h;rw[List.all_eq_true] at h;exact h c f)
theorem Ck(h:isNum l=U6):gu l=U6:=((G9 l).1 h).2
theorem Tz(t:UU)(h:iI t=U6):∀ j,j<10->t.data.toList[j]?≠U4 47:=by
 have h:=of_decide_eq_true h;obtain⟨K,Z,Y,C,B,A,_⟩:=h;have u:=Ck C;have r:=Ck B;have q:=Ck A;unfold part at u r q;rw[oF] at u r q;have V:t.data.toList.length=10:=by rw[fM];exact K
 intro j M z;have f:j<t.data.toList.length:=UI
 have e:t.data.toList[j]=47:=by
  rw[WS f] at z;exact WJ z
 have J:j<4->False:=fun O=>Bo u (c:=t.data.toList[j]) (by
  rw[WX];exact⟨j,by rw[WY,W4];simp[O]⟩) e
 have I:5<=j->j<7->False:=fun X N=>Bo r (c:=t.data.toList[j]) (by
  rw[WX];exact⟨j-5,by rw[WY,W4];simp[show 5+(j-5)=j from by omega,N]⟩) e
 have D:8<=j->False:=fun W=>Bo q (c:=t.data.toList[j]) (by
  rw[WX];exact⟨j-8,by rw[WY,W4];simp[show 8+(j-8)=j from by omega,M]⟩) e
 have g:∀ k:UY,j=k->dP t k=47:=fun k L=>by
  subst L;unfold dP;rw[WQ,WS f,e];rfl
 by_cases S:j=4
 ·have:=g 4 S;omega
 ·by_cases R:j=7
  ·have:=g 7 R;omega
  ·by_cases U:j<4
   ·exact J U
   ·by_cases T:j<7
    ·exact I UI T
    ·exact D UI
theorem Ba(l:UV UInt8)(i:UY):W5 l [47] i=U6↔l[i]?=U4 47:=by
 unfold W5;rw[<- List.head?_drop]
 cases l.drop i with
 |nil=>simp[W6]
 |cons b r=>simp[W6];exact eq_comm
theorem FC(k:s.size=16)(f:dP s 10=47)(t:iI (s.extract 0 10)=U6):iU s=s.extract 0 10/\iV s=s.extract 11 16/\ou s=U6:=by
 have u:s.data.toList.length=16:=by rw[fM];exact k
 have g:s.data.toList[10]?=U4 47:=by
  unfold dP at f;rw[WQ,WS UI] at f;rw[WS UI];have:(s.data.toList[10]'UI).toNat=47:=by simpa using (by exact_mod_cast f:_)
  rw[show s.data.toList[10]'UI=47 from UInt8.toNat_inj.1 (by simpa using this)]
 have r:W7 s.data.toList [47]=10:=Lib.index_first (i:=10) UI ((Ba _ _).2 g) (fun j h=>by
  cases q:W5 s.data.toList [47] j with
  |false=>rfl
  |true =>
   have:=Tz _ t j h;rw[oF,List.drop_zero,W4,U1 h] at this
   exact U2 ((Ba _ _).1 q) this)
 have c:WV s.data.toList [47]=(s.data.toList.take 10,s.data.toList.drop 11,U6):=by
  unfold WV;rw[r];rfl
 refine⟨pE ?_,pE ?_,?_⟩
 ·simp only[iU,c,oF];simp
 ·simp only[iV,c,oF];rw[V7 UI]
 ·simp[ou,c]
theorem Ol(s:UU):(ou s && iI (iU s) && dA (iV s))=iQ s/\(iQ s=U6->eI (iU s)*1440+fo (iV s)=kg s):=by
 have key:(ou s && iI (iU s) && dA (iV s))=iQ s:=by
  rw[WU];constructor
  ·intro h;simp only[WN] at h;obtain⟨⟨K,c⟩,r⟩:=h;have s1:(iU s).size=10:=(of_decide_eq_true c).1;have B:(iV s).size=5:=(of_decide_eq_true r).1
   have g:0<=W7 s.data.toList [47]:=by
    by_cases g:0<=W7 s.data.toList [47]
    ·exact g
    ·simp[ou,WV,g] at K
   obtain⟨i,f⟩:=W8 g;have D:=Lib.index_room s.data.toList [47] g
   have A:WV s.data.toList [47]=(s.data.toList.take i,s.data.toList.drop (i+1),U6):=by
    unfold WV;rw[U1 g,f];simp
   have q:s.data.toList[i]?=U4 47:=by
    rcases Lib.index_spec s.data.toList [47] with ⟨h,_⟩|⟨j,J,_,I,_⟩
    ·omega
    ·rw[f] at J;have:i=j:=UI
     subst this;exact (Ba _ _).1 I
   rw[f] at D;simp only[List.length_singleton,fM] at D
   have N:min i s.size=10:=by
    rw[<- fM] at s1;simp only[iU,A] at s1;simpa using s1
   have M:s.size-(i+1)=5:=by
    rw[<- fM] at B;simp only[iV,A] at B;simpa using B
   have C:i=10:=UI
   have k:s.size=16:=UI
   subst C;have z:iU s=s.extract 0 10:=pE (by simp only[iU,A,oF];simp);have u:iV s=s.extract 11 16:=pE (by simp only[iV,A,oF];rw[V7 (by rw[fM];omega)]);rw[z] at c;rw[u] at r
   have t:dP s 10=47:=by
    unfold dP;rw[WQ,q];rfl
   exact decide_eq_true ⟨k,t,c,r⟩
  ·intro h;obtain⟨k,t,c,r⟩:=of_decide_eq_true h;obtain⟨z,u,L⟩:=FC k t c;rw[z,u,L,c,r];rfl
 refine⟨key,fun h=>?_⟩;obtain⟨k,t,c,_⟩:=of_decide_eq_true h;obtain⟨z,u,_⟩:=FC k t c;rw[z,u];simp[kg,h]
end Go.Proofs.YtfigmlfdnickmaaGreatDoor.aB
namespace Go.Proofs.YtfigmlfdnickmaaGreatDoor.aB
open Go
def lV(b:UX)(pos:UY)(x:UV (UY × UY) × UW UY):UV (UY × UY) × UW UY :=
 if b then (match x.2 with|some a=>(x.1++[(a,pos)],U3)|none=>(x.1,U3)) else (x.1,U4 (x.2.getD pos))
def eN(s:UU):UY->UV (UY × UY) × UW UY
 |0=>([],U3)
 |k+1=>lV (decide (dP s k=32)) k (eN s k)
def aP(s:UU):UV UU:=(W9 s (eN s s.size)).map fun x=>s.extract x.1 x.2
theorem IA(s:UU)(i:UY)(h:i<s.size):(s.get! i).toNat=(dP s i).toNat:=by
 unfold dP;rw[WQ,WS (by simpa using h)];simp only[Xa,Int.toNat_natCast]
 congr 1
 cases s with
 |mk a=>simp only[ByteArray.get!];rw[getElem!_pos a i h];simp
theorem TB(s:UU)(i:UY)(h:i<s.size):
  ((s.get! i).toNat<128/\Xb s i=((s.get! i).toNat,1)) \/
  (128<=(Xb s i).1/\1<=(Xb s i).2/\∀ j,j<(Xb s i).2->128<=(s.get! (i+j)).toNat/\i+j<s.size):=by
 unfold Xb;simp only[Xc]
 by_cases f:(s.get! i).toNat<128
 ·left;exact⟨f,by rw[U1 UI]⟩
 ·right;rw[U0 UI]
  have one:∀ j,j<1->128<=(s.get! (i+j)).toNat/\i+j<s.size:=fun j c=>by
   obtain rfl:j=0:=UI
   exact⟨by simpa using f,by omega⟩
  split
  ·rename_i hc
   simp only[WN,decide_eq_true_eq,beq_iff_eq] at hc
   split
   ·refine⟨by simp only;omega,by simp,fun j c=>?_⟩;simp only at c;rcases (show j=0\/j=1 by omega) with rfl|rfl
    ·exact one 0 UI
    ·exact⟨by omega,by omega⟩
   ·exact⟨by simp[Xd],by simp,one⟩
  ·split
   ·rename_i hc
    simp only[WN,decide_eq_true_eq,beq_iff_eq] at hc
    split
    ·rename_i hv
     simp only[WN,decide_eq_true_eq] at hv;refine⟨by simp only;omega,by simp,fun j c=>?_⟩;simp only at c;rcases (show j=0\/j=1\/j=2 by omega) with rfl|rfl|rfl
     ·exact one 0 UI
     ·exact⟨by omega,by omega⟩
     ·exact⟨by omega,by omega⟩
    ·exact⟨by simp[Xd],by simp,one⟩
   ·split
    ·rename_i hc
     simp only[WN,decide_eq_true_eq,beq_iff_eq] at hc
     split
     ·rename_i hv
      simp only[WN,decide_eq_true_eq] at hv;refine⟨by simp only;omega,by simp,fun j c=>?_⟩;simp only at c;rcases (show j=0\/j=1\/j=2\/j=3 by omega) with rfl|rfl|rfl|rfl
      ·exact one 0 UI
      ·exact⟨by omega,by omega⟩
      ·exact⟨by omega,by omega⟩
      ·exact⟨by omega,by omega⟩
     ·exact⟨by simp[Xd],by simp,one⟩
    ·exact⟨by simp[Xd],by simp,one⟩
theorem O7(s:UU)(pos:UY):∀ n:UY,(∀ j,j<n+1->dP s (pos+j)≠32)->eN s (pos+(n+1))=((eN s pos).1,U4 ((eN s pos).2.getD pos)):=by
 intro n
 induction n with
 |zero =>
  intro h;have:=h 0 UI;simp only[Xc] at this;show lV _ pos (eN s pos)=_;rw[decide_eq_false this];rfl
 |succ n ih =>
  intro h;have i:=ih (fun j c=>h j UI);have:=h (n+1) UI;show lV (decide (dP s (pos+(n+1))=32)) (pos+(n+1)) (eN s (pos+(n+1)))=_;rw[decide_eq_false this,i];rfl
theorem PN(s:UU):∀ (f pos:UY),pos<=s.size->s.size-pos<=f->Xe (fun r=>r==32) s f pos (eN s pos).2 (eN s pos).1=eN s s.size:=by
 intro f
 induction f with
 |zero =>
  intro pos D C;obtain rfl:pos=s.size:=UI
  rfl
 |succ f ih =>
  intro pos D C
  by_cases c:pos<s.size
  ·unfold Xe;rw[U1 c];rcases TB s pos c with ⟨L,B⟩|⟨K,J,t⟩
   ·rw[B];simp only;have I:=IA s pos c;have u:0<=dP s pos:=by unfold dP;omega
    have i:=ih (pos+1) UI UI;have st:eN s (pos+1)=lV (decide (dP s pos=32)) pos (eN s pos):=rfl
    by_cases h:dP s pos=32
    ·have e:((s.get! pos).toNat==32)=U6:=by rw[beq_iff_eq];omega
     rw[e,U1 rfl];rw[decide_eq_true h] at st
     cases g:(eN s pos).2 with
     |none=>simp only;rw[st] at i;simp only[lV,g,if_true] at i;exact i
     |some a=>simp only;rw[st] at i;simp only[lV,g,if_true] at i;exact i
    ·have e:((s.get! pos).toNat==32)=U5:=by rw[beq_eq_false_iff_ne];omega
     rw[e,U0 UK];rw[decide_eq_false h] at st
     cases g:(eN s pos).2 with
     |none=>simp only;rw[st] at i;simp only[lV,g,Vn,if_false,Xf] at i;exact i
     |some a=>simp only;rw[st] at i;simp only[lV,g,Vn,if_false,Xa] at i;exact i
   ·have e:((Xb s pos).1==32)=U5:=by rw[beq_eq_false_iff_ne];omega
    rw[e,U0 UK];obtain⟨n,z⟩:∃ n,(Xb s pos).2=n+1:=⟨(Xb s pos).2-1,by omega⟩;have k:=t ((Xb s pos).2-1) UI
    have st:=O7 s pos n (fun j A=>by
     have q:=t j UI;have I:=IA s (pos+j) q.2;have u:0<=dP s (pos+j):=by unfold dP;omega
     omega)
    have i:=ih (pos+(n+1)) UI UI;rw[st] at i;rw[z]
    cases g:(eN s pos).2 with
    |none=>simp only;simp only[g,Xf] at i;exact i
    |some a=>simp only;simp only[g,Xa] at i;exact i
  ·obtain rfl:pos=s.size:=UI
   unfold Xe;rw[U0 c]
theorem TF(s:UU):Xg (fun r=>r==32) s=aP s:=by
 unfold Xg Lib.spansOfP aP;have:=PN s s.size 0 (zN _) UI;rw[show (eN s 0).2=U3 from rfl,show (eN s 0).1=[] from rfl] at this;rw[this]
end Go.Proofs.YtfigmlfdnickmaaGreatDoor.aB
namespace Go.Proofs.YtfigmlfdnickmaaGreatDoor.aB
open Go
def eH(s:UU)(k:UY):UU:=match (eN s k).2 with|none=>⟨#[]⟩|some a=>s.extract a k
def jF(s:UU)(k:UY):UV UU:=(eN s k).1.map fun x=>s.extract x.1 x.2
theorem xy(s:UU):∀ (k a:UY),(eN s k).2=U4 a->a<k
 |0,a,h=>by simp[eN] at h
 |k+1,a,h=>by
  simp only[eN,lV] at h
  split at h
  ·split at h <;> simp at h
  ·simp only[Option.some.injEq] at h
   cases c:(eN s k).2 with
   |none=>rw[c] at h;simp at h;omega
   |some b=>rw[c] at h;simp at h;have:=xy s k b c;omega
theorem qZ(a b:UU):(a++b).data.toList=a.data.toList++b.data.toList:=by
 rw[ByteArray.data_append,Array.toList_append]
theorem Ot(s:UU)(a k:UY)(h:a<=k):s.extract a k++s.extract k (k+1)=s.extract a (k+1):=by
 apply pE;rw[qZ,oF,oF,oF]
 have f:(s.data.toList.take k).drop a=((s.data.toList.take (k+1)).drop a).take (k-a):=by
  rw[WW,WW,List.take_take,show min (k-a) (k+1-a)=k-a from by omega]
 have c:(s.data.toList.take (k+1)).drop k=((s.data.toList.take (k+1)).drop a).drop (k-a):=by
  rw[List.drop_drop,show a+(k-a)=k from by omega]
 rw[f,c,V1]
theorem xt(s:UU)(k:UY):(eH s k).size<=k:=by
 unfold eH
 split
 ·exact zN _
 ·have:∀ a b,(s.extract a b).size=min b s.size-a:=fun a b=>Xh ..
  rw[this];omega
theorem QN(b:UU):(⟨#[]⟩:UU)++b=b:=by
 apply pE;rw[qZ];rfl
theorem xr(s:UU)(k:UY)(h:dP s k≠32):eH s k++s.extract k (k+1)=eH s (k+1)/\jF s (k+1)=jF s k:=by
 have e:eN s (k+1)=((eN s k).1,U4 ((eN s k).2.getD k)):=by simp only[eN,lV,decide_eq_false h];rfl
 refine⟨?_,by unfold jF;rw[e]⟩;unfold eH;rw[e]
 cases c:(eN s k).2 with
 |none=>simp only[Xf];exact QN _
 |some a=>simp only[Xa];exact Ot s a k (Nat.le_of_lt (xy s k a c))
theorem xE(s:UU)(k:UY)(j:k<=s.size)(h:dP s k=32):eH s (k+1)=⟨#[]⟩/\jF s (k+1)=jF s k++(if (eH s k).size=0 then [] else [eH s k]):=by
 have e:eN s (k+1)=lV U6 k (eN s k):=by simp only[eN,decide_eq_true h]
 cases f:(eN s k).2 with
 |none =>
  have g:eN s (k+1)=((eN s k).1,U3):=by rw[e];simp[lV,f]
  have c:eH s k=⟨#[]⟩:=by unfold eH;rw[f]
  refine⟨by unfold eH;rw[g],?_⟩;rw[c];unfold jF;rw[g];simp;rfl
 |some a =>
  have g:eN s (k+1)=((eN s k).1++[(a,k)],U3):=by rw[e];simp[lV,f]
  have c:eH s k=s.extract a k:=by unfold eH;rw[f]
  have lt:=xy s k a f;have sz:(s.extract a k).size=min k s.size-a:=Xh ..;refine⟨by unfold eH;rw[g],?_⟩;rw[c,U0 UI];unfold jF;rw[g];simp
theorem vk(s:UU):aP s=jF s s.size++(if (eH s s.size).size=0 then [] else [eH s s.size]):=by
 unfold aP jF eH W9
 cases c:(eN s s.size).2 with
 |none=>simp;rfl
 |some a =>
  have lt:=xy s _ a c;have sz:(s.extract a s.size).size=min s.size s.size-a:=Xh ..;simp only;rw[U0 UI];simp
theorem qB(s:UU):∀ k:UY,(jF s k).length<=k
 |0=>zq _
 |k+1=>by
  have ih:=qB s k;unfold jF at *;rw[Wu] at *;simp only[eN,lV]
  split
  ·split <;> simp <;> omega
  ·simp;omega
end Go.Proofs.YtfigmlfdnickmaaGreatDoor.aB
namespace Go.Proofs.YtfigmlfdnickmaaGreatDoor.aB
open Go
def dC(l:UV UInt8):UZ :=
 if l==[109,111] then 0 else if l==[116,117] then 1 else if l==[119,101] then 2 else if l==[116,104] then 3 else if l==[102,114] then 4 else if l==[115,97] then 5 else if l==[115,117] then 6 else -1
theorem xj(l:UV UInt8):-1<=dC l/\dC l<=6:=by
 unfold dC;(repeat' split) <;> omega
theorem RQ(h:0<=dC l):l=[109,111]\/l=[116,117]\/l=[119,101]\/l=[116,104]\/l=[102,114]\/l=[115,97]\/l=[115,117]:=by
 unfold dC at h
 by_cases r:(l==[109,111])=U6
 ·exact .inl (beq_iff_eq.1 r)
 ·rw[U0 r] at h
  by_cases q:(l==[116,117])=U6
  ·exact .inr (.inl (beq_iff_eq.1 q))
  ·rw[U0 q] at h
   by_cases k:(l==[119,101])=U6
   ·exact .inr (.inr (.inl (beq_iff_eq.1 k)))
   ·rw[U0 k] at h
    by_cases j:(l==[116,104])=U6
    ·exact .inr (.inr (.inr (.inl (beq_iff_eq.1 j))))
    ·rw[U0 j] at h
     by_cases g:(l==[102,114])=U6
     ·exact .inr (.inr (.inr (.inr (.inl (beq_iff_eq.1 g)))))
     ·rw[U0 g] at h
      by_cases f:(l==[115,97])=U6
      ·exact .inr (.inr (.inr (.inr (.inr (.inl (beq_iff_eq.1 f))))))
      ·rw[U0 f] at h
       by_cases c:(l==[115,117])=U6
       ·exact .inr (.inr (.inr (.inr (.inr (.inr (beq_iff_eq.1 c))))))
       ·rw[U0 c] at h;omega
theorem OR(h:0<=dC l):l.length=2/\44 ∉ l:=by
 rcases RQ h with rfl|rfl|rfl|rfl|rfl|rfl|rfl <;> decide
theorem vy(h:¬ (l.length=2/\44 ∉ l)):dC l=-1:=by
 have b:=xj l
 by_cases g:0<=dC l
 ·exact U2 (OR g) h
 ·omega
def jM(acc:UV UZ)(d:UZ):UW (UV UZ):=if 0<=d/\acc.contains d=U5 then U4 (d :: acc) else U3
def np:UV (UV UInt8)->UV UZ->UW (UV UZ)
 |[],acc=>U4 acc
 |p :: ps,acc=>(jM acc (dC p)).bind (np ps)
def iz:UV UInt8->UV UZ->UW (UV UZ)
 |[a,b],acc=>jM acc (dC [a,b])
 |a :: b :: c :: r,acc=>if c=44 then (jM acc (dC [a,b])).bind (iz r) else U3
 |_,_=>U3
def sp:UV UInt8->UV (UV UInt8)
 |[]=>[[]]
 |c :: l=>if c=44 then [] :: sp l else (match sp l with| []=>[[c]]|p :: ps=>(c :: p) :: ps)
theorem vB(acc:UV UZ):jM acc (-1)=U3:=by simp[jM]
theorem Oe(l:UV UInt8):sp l≠[]:=by
 cases l with
 |nil=>simp[sp]
 |cons c l=>unfold sp;split;simp;split <;> simp
theorem qX{p:UV UInt8}(c:UV (UV UInt8))(acc:UV UZ)(h:¬ (p.length=2/\44 ∉ p)):np (p :: c) acc=U3:=by
 simp[np,vy h,vB]
theorem Du:∀ (l:UV UInt8)(acc r:UV UZ),iz l acc=U4 r->l.length % 3=2
 |[],_,_,h=>by simp[iz] at h
 |[_],_,_,h=>by simp[iz] at h
 |[_,_],_,_,_=>rfl
 |a :: b :: c :: l,acc,r,h=>by
  unfold iz at h
  split at h
  ·simp only[Option.bind_eq_some_iff] at h;obtain⟨x,_,h⟩:=h;have:=Du l x r h;simp only[VV];omega
  ·cases h
theorem tP(c:UInt8)(l:UV UInt8)(h:c≠44):∃ p ps,sp l=p :: ps/\sp (c :: l)=(c :: p) :: ps:=by
 cases f:sp l with
 |nil=>exact U2 f (Oe l)
 |cons p ps=>exact⟨p,ps,rfl,by simp[sp,h,f]⟩
theorem sK(l:UV UInt8):sp (44 :: l)=[] :: sp l:=by simp[sp]
theorem FY:∀ (l:UV UInt8)(acc:UV UZ),np (sp l) acc=iz l acc
 |[],acc=>by rw[show sp []=[[]] from rfl,qX _ _ UJ];rfl
 |[a],acc=>by
  by_cases h:a=44
  ·subst h;rw[sK,qX _ _ UJ];rfl
  ·obtain⟨p,A,g,r⟩:=tP a [] h;simp only[sp,Xi] at g;obtain⟨rfl,rfl⟩:=g;rw[r,qX _ _ UJ];rfl
 |[a,b],acc=>by
  by_cases h:a=44
  ·subst h;rw[sK,qX _ _ UJ,iz,vy UJ,vB]
  ·obtain⟨p,A,g,r⟩:=tP a [b] h;rw[r]
   by_cases k:b=44
   ·subst k;rw[sK] at g;simp only[Xi] at g;obtain⟨rfl,rfl⟩:=g;rw[qX _ _ UJ,iz,vy UJ,vB]
   ·obtain⟨C,t,f,j⟩:=tP b [] k;simp only[sp,Xi] at f;obtain⟨rfl,rfl⟩:=f;rw[j] at g;simp only[Xi] at g;obtain⟨rfl,rfl⟩:=g;simp only[np,iz]
    cases jM acc (dC [a,b]) <;> rfl
 |a :: b :: c :: l,acc=>by
  have ih:=FY l
  by_cases h:a=44
  ·subst h;rw[sK,qX _ _ UJ,iz,vy UJ,vB]
   split <;> rfl
  ·obtain⟨p,A,g,r⟩:=tP a (b :: c :: l) h;rw[r]
   by_cases k:b=44
   ·subst k;rw[sK] at g;simp only[Xi] at g;obtain⟨rfl,rfl⟩:=g;rw[qX _ _ UJ,iz,vy UJ,vB]
    split <;> rfl
   ·obtain⟨C,t,f,j⟩:=tP b (c :: l) k;rw[j] at g;simp only[Xi] at g;obtain⟨rfl,rfl⟩:=g
    by_cases u:c=44
    ·subst u;rw[sK] at f;simp only[Xi] at f;obtain⟨rfl,rfl⟩:=f;simp only[np,iz,if_true]
     cases jM acc (dC [a,b]) with
     |none=>rfl
     |some x=>exact ih x
    ·obtain⟨B,z,_,q⟩:=tP c l u;rw[q] at f;simp only[Xi] at f;obtain⟨rfl,rfl⟩:=f;rw[qX _ _ UJ,iz,U0 u]
theorem Rs(c:UInt8)(l:UV UInt8)(h:c≠44):W7 (c :: l) [44]=if W7 l [44]==-1 then -1 else W7 l [44]+1:=by
 rw[W7];have:([44]:UV UInt8).isPrefixOf (c :: l)=U5:=by simp[W6];exact fun e=>h e.symm
 rw[this];rfl
theorem S3(l:UV UInt8):W7 (44 :: l) [44]=0:=by
 rw[W7];simp[W6]
theorem Ts(c:UInt8)(l:UV UInt8)(h:c≠44)(k:UY):∃ p ps,Xj [44] 0 k l=p :: ps/\Xj [44] 0 k (c :: l)=(c :: p) :: ps:=by
 cases k with
 |zero=>exact⟨l,[],rfl,rfl⟩
 |succ k =>
  unfold Xj;rw[Rs c l h]
  by_cases f:(W7 l [44]==-1)=U6
  ·rw[U1 f,U1 f];exact⟨l,[],rfl,rfl⟩
  ·rw[U0 f,U0 f];have g:=Lib.index_ge l [44];have q:W7 l [44]≠-1:=fun e=>f (beq_iff_eq.2 e)
   rw[U0 (by rw[beq_iff_eq];omega)];refine⟨_,_,rfl,?_⟩;obtain⟨i,j⟩:=W8 (show 0<=W7 l [44] by omega);rw[j,show ((i:UZ)+1).toNat=i+1 from by omega,show ((i:UZ)).toNat=i from by omega];simp
theorem GU:∀ l:UV UInt8,Xj [44] 0 (l.count 44) l=sp l
 |[]=>rfl
 |c :: l=>by
  have ih:=GU l
  by_cases h:c=44
  ·subst h;rw[List.count_cons_self,sK,<- ih];rw[Xj,S3];simp
  ·rw[List.count_cons_of_ne (by simpa using h)];obtain⟨p,j,f,g⟩:=Ts c l h (l.count 44);rw[g];rw[ih] at f;simp[sp,h,f]
def iq(s:UU):UW (UV UZ):=iz s.data.toList []
def dU(s:UU):UX:=(iq s).isSome
theorem Rl(s:UU):np ((Lib.splitB ⟨#[44]⟩ 0 (Lib.countB s ⟨#[44]⟩) s).map (·.data.toList)) []=iq s:=by
 rw[Lib.splitB_data];have c:Lib.countB s ⟨#[44]⟩=s.data.toList.count 44:=Lib.count_one 44 s.data.toList;rw[c,show (ByteArray.mk #[44]).data.toList=[44] from rfl,GU,FY];rfl
end Go.Proofs.YtfigmlfdnickmaaGreatDoor.aB
namespace Go.Proofs.YtfigmlfdnickmaaGreatDoor
def aI(acc:UV UZ)(j:UZ):UX:=acc.contains j
end Go.Proofs.YtfigmlfdnickmaaGreatDoor
namespace Go.Proofs.YtfigmlfdnickmaaGreatDoor
theorem Cx{α:Type}{lt:α->α->Prop}(f:∀ x,¬ lt x x)(ht:∀ x y z,lt x y->lt y z->lt x z):∀ {l m:UV α},l.Pairwise lt->m.Pairwise lt->(∀ x,x∈l↔x∈m)->l=m
 |[],[],_,_,_=>rfl
 |[],y :: m,_,_,h=>by have:=(h y).2 UJ;simp at this
 |x :: l,[],_,_,h=>by have:=(h x).1 UJ;simp at this
 |x :: l,y :: m,hl,hm,h=>by
  rw[VE] at hl hm
  have e:x=y:=by
   rcases Vq.1 ((h x).1 UJ) with e|e
   ·exact e
   ·rcases Vq.1 ((h y).2 UJ) with k|k
    ·exact k.symm
    ·exact U2 (ht _ _ _ (hl.1 y k) (hm.1 x e)) (f x)
  subst e
  congr 1
  refine Cx f ht hl.2 hm.2 (fun z=>?_);constructor
  ·intro c;rcases Vq.1 ((h z).1 (by simp[c])) with e|e
   ·subst e;exact U2 (hl.1 z c) (f z)
   ·exact e
  ·intro c;rcases Vq.1 ((h z).2 (by simp[c])) with e|e
   ·subst e;exact U2 (hm.1 z c) (f z)
   ·exact e
namespace Rd
def fV(p:UZ->UX):UY->UZ->UV UZ
 |0,_=>[]
 |k+1,d=>if p d then d :: fV p k (d+1) else fV p k (d+1)
theorem xZ(p:UZ->UX):∀ (k:UY)(d x:UZ),x∈fV p k d↔d<=x/\x<d+k/\p x=U6
 |0,d,x=>by simp[fV];omega
 |k+1,d,x=>by
  have ih:=xZ p k (d+1) x;simp only[fV]
  by_cases c:p d=U6
  ·rw[U1 c,Vq,ih];constructor
   ·rintro (rfl|⟨h,g,f⟩)
    ·exact⟨Xk _,by omega,c⟩
    ·exact⟨by omega,by omega,f⟩
   ·rintro ⟨h,g,f⟩
    by_cases e:x=d
    ·exact .inl e
    ·exact .inr ⟨by omega,by omega,f⟩
  ·rw[U0 c,ih];constructor
   ·rintro ⟨h,g,f⟩;exact⟨by omega,by omega,f⟩
   ·rintro ⟨h,g,f⟩;have:x≠d:=fun e=>c (e ▸ f)
    exact⟨by omega,by omega,f⟩
theorem ue(p:UZ->UX):∀ (k:UY)(d:UZ),(fV p k d).Pairwise (· < ·)
 |0,d=>by simp[fV]
 |k+1,d=>by
  simp only[fV]
  split
  ·rw[VE];exact⟨fun x c=>by have:=(xZ p k (d+1) x).1 c;omega,ue p k (d+1)⟩
  ·exact ue p k (d+1)
theorem RP{l m:UV UZ}(f:l.Pairwise (· < ·))(c:m.Pairwise (· < ·))(h:∀ x,x∈l↔x∈m):l=m :=
 Cx (lt:=fun a b:UZ=>a<b) (fun x=>by omega) (fun x y z h k=>by omega) f c h
def iG(ev:UZ):UY->UZ->UV UZ
 |0,_=>[]
 |k+1,d=>if d<728 then d :: iG ev k (d+ev) else []
theorem Gt{ev:UZ}(j:1<=ev):∀ (k:UY)(d x:UZ),728<=d+k->(x∈iG ev k d↔d<=x/\x<728/\(x-d) % ev=0)
 |0,d,x,h=>by simp[iG];omega
 |k+1,d,x,h=>by
  simp only[iG]
  by_cases c:d<728
  ·rw[U1 c,Vq,Gt j k (d+ev) x UI];have r:(x-(d+ev)) % ev=(x-d) % ev:=by rw[show x-(d+ev)=x-d-ev from by omega,Xl]
   rw[r];constructor
   ·rintro (rfl|⟨q,g,f⟩)
    ·exact⟨Xk _,c,by simp⟩
    ·exact⟨by omega,g,f⟩
   ·rintro ⟨q,g,f⟩
    by_cases e:d+ev<=x
    ·exact .inr ⟨e,g,f⟩
    ·rw[Xm UI UI] at f;exact .inl UI
  ·rw[U0 c];simp;omega
theorem Bf{ev:UZ}(h:1<=ev):∀ (k:UY)(d:UZ),(iG ev k d).Pairwise (· < ·)/\∀ x∈iG ev k d,d<=x
 |0,d=>by simp[iG]
 |k+1,d=>by
  simp only[iG];obtain⟨g,f⟩:=Bf h k (d+ev)
  split
  ·refine⟨VE.2 ⟨fun x c=>by have:=f x c;omega,g⟩,fun x c=>?_⟩;rcases Vq.1 c with rfl|c
   ·exact Xk _
   ·have:=f x c;omega
  ·simp
def ow(acc:UV UZ)(fr c:UZ):UV UZ:=fV (fun d=>aI acc (d-c)) (c+7-max c fr).toNat (max c fr)
def iw(acc:UV UZ)(fr ev:UZ):UY->UZ->UV UZ
 |0,_=>[]
 |k+1,mon=>if mon<728 then ow acc fr mon++iw acc fr ev k (mon+ev*7) else []
theorem Bq{c:UZ}:x∈ow acc fr c↔c<=x/\fr<=x/\x<c+7/\aI acc (x-c)=U6:=by
 unfold ow;rw[xZ];constructor
 ·rintro ⟨j,h,f⟩;exact⟨by omega,by omega,by omega,f⟩
 ·rintro ⟨j,h,f,g⟩;exact⟨by omega,by omega,g⟩
theorem Gv{acc:UV UZ}{fr ev:UZ}(A:1<=ev):∀ (k:UY)(f x:UZ),0<=f->f % 7=0->728<=f+k->(x∈iw acc fr ev k f↔f<=x/\fr<=x/\x<728/\aI acc (x % 7)=U6/\(x / 7-f / 7) % ev=0)
 |0,f,x,h0,h7,h=>by simp[iw];omega
 |k+1,f,x,h0,h7,h=>by
  simp only[iw]
  by_cases c:f<728
  ·have z:(ev*7) % 7=0:=UI
   rw[U1 c,Vr,Bq,Gv A k (f+ev*7) x UI UI UI];have D:(f+ev*7) / 7=f / 7+ev:=UI
   have C:(x / 7-(f+ev*7) / 7) % ev=(x / 7-f / 7) % ev:=by rw[D,show x / 7-(f / 7+ev)=x / 7-f / 7-ev from by omega,Xl]
   rw[C];constructor
   ·rintro (⟨t,j,r,g⟩|⟨t,j,r,g,q⟩)
    ·have u:x-f=x % 7:=UI
     have B:x / 7-f / 7=0:=UI
     rw[u] at g;rw[B];exact⟨t,j,by omega,g,by simp⟩
    ·exact⟨by omega,j,r,g,q⟩
   ·rintro ⟨t,j,r,g,q⟩
    by_cases e:x<f+7
    ·have u:x-f=x % 7:=UI
     exact .inl ⟨t,j,e,by rw[u];exact g⟩
    ·by_cases I:f+ev*7<=x
     ·exact .inr ⟨I,j,r,g,q⟩
     ·rw[Xm UI UI] at q;omega
  ·rw[U0 c];simp;omega
theorem Bh{acc:UV UZ}{fr ev:UZ}(q:1<=ev):∀ (k:UY)(c:UZ),(iw acc fr ev k c).Pairwise (· < ·)/\∀ x∈iw acc fr ev k c,c<=x
 |0,c=>by simp[iw]
 |k+1,c=>by
  simp only[iw];obtain⟨h,g⟩:=Bh (acc:=acc) (fr:=fr) q k (c+ev*7)
  split
  ·refine⟨Xn.2 ⟨ue _ _ _,h,fun x f y j=>?_⟩,fun x f=>?_⟩
   ·have:=Bq.1 f;have:=g y j;omega
   ·rcases Vr.1 f with f|f
    ·exact (Bq.1 f).1
    ·have:=g x f;omega
  ·simp
def reached(y m:UZ):UX:=Cal.ok y m 1 && decide (Cal.num y m 1<728)
def nc(y m ev:UZ):UZ:=y+(m-1+ev) / 12
def lU(m ev:UZ):UZ:=(m-1+ev) % 12+1
def pL(y m dt:UZ):UV UZ:=if Cal.ok y m dt then [Cal.num y m dt] else []
def iH(dt ev:UZ):UY->UZ->UZ->UV UZ
 |0,_,_=>[]
 |k+1,y,m=>if reached y m then pL y m dt++iH dt ev k (nc y m ev) (lU m ev) else []
theorem qL{d c f d':UZ}(h:Cal.ok y m d=U6)(g:Cal.ok c f d'=U6)(k:12*y+m<12*c+f):Cal.num y m d<Cal.num c f d':=by
 have i:=Cal.vp y m d h;have q:=Cal.vp c f d' g;obtain⟨A,z,j,u,t,r⟩:=(Cal.gO y m d).1 h;obtain⟨K,J,I,D,C,B⟩:=(Cal.gO c f d').1 g
 by_cases e:y=c
 ·subst e;have:=Cal.Bm y m f j UI UI;unfold Cal.num;omega
 ·have:=Cal.sq (y+1) c UI UI;omega
theorem vE(h:1<=y)(g:y<=9999)(f:1<=m)(c:m<=12):Cal.ok y m 1=U6:=by
 have:=Cal.nQ y m;exact (Cal.gO _ _ _).2 ⟨h,g,f,c,by omega,by omega⟩
theorem I9(k:2024<=y)(j:y<=9999)(g:1<=m)(f:m<=12):reached y m=U6↔12*y+m<=24312:=by
 have o:=vE (m:=m) (by omega:1<=y) j g f;unfold reached;rw[o,Bool.true_and,decide_eq_true_eq];have r:Cal.num 2025 12 1=700:=UK
 have q:Cal.num 2026 1 1=731:=UK
 constructor
 ·intro h;apply Xo;intro c
  by_cases e:12*y+m=24313
  ·have:y=2026:=UI
   have:m=1:=UI
   subst_vars;omega
  ·have:=qL (vE (y:=2026) (m:=1) UI UI UI UI) o UI;omega
 ·intro h
  by_cases e:12*y+m=24312
  ·have:y=2025:=UI
   have:m=12:=UI
   subst_vars;omega
  ·have:=qL o (vE (y:=2025) (m:=12) UI UI UI UI) UI;omega
theorem Bu{ev:UZ}:12*nc y m ev+lU m ev=12*y+m+ev/\1<=lU m ev/\lU m ev<=12:=by
 unfold nc lU;omega
theorem pF(z:0<=x)(u:x<728):Cal.ok (Cal.yT x) (Cal.mT x) (Cal.dT x)=U6/\Cal.num (Cal.yT x) (Cal.mT x) (Cal.dT x)=x/\2024<=Cal.yT x/\12*Cal.yT x+Cal.mT x<=24312:=by
 obtain⟨o,n⟩:=Cal.tt x UI UI;refine⟨o,n,?_,?_⟩
 ·apply Xo;intro c;obtain⟨r,q,k,j,h,g⟩:=(Cal.gO _ _ _).1 o;have:=qL o (vE (y:=2024) (m:=1) UI UI UI UI) UI;have e:Cal.num 2024 1 1=0:=UK
  omega
 ·apply Xo;intro c;obtain⟨r,q,k,j,h,g⟩:=(Cal.gO _ _ _).1 o;have B:Cal.num 2026 1 1=731:=UK
  have f:=vE (y:=2026) (m:=1) UI UI UI UI
  by_cases e:12*Cal.yT x+Cal.mT x=24313
  ·have:Cal.yT x=2026:=UI
   have t:Cal.mT x=1:=UI
   rw[this,t] at n
   have A:Cal.num 2026 1 (Cal.dT x)=731+Cal.dT x-1:=by
    have:Cal.num 2026 1 (Cal.dT x)=Cal.num 2026 1 1+Cal.dT x-1:=by unfold Cal.num;omega
    omega
   omega
  ·have:=qL f o UI;omega
theorem Gu{dt ev:UZ}(B:1<=ev)(r:ev<=99):∀ (k:UY)(y m x:UZ),2024<=y->y<=2034->1<=m->m<=12->24312<12*y+m+k->0<=x->x<728 ->
  (x∈iH dt ev k y m↔Cal.dT x=dt/\12*y+m<=12*Cal.yT x+Cal.mT x/\(12*Cal.yT x+Cal.mT x-12*y-m) % ev=0)
 |0,y,m,x,hy,hy2,hm,hm2,hk,h0,h1=>by
  have:=(pF h0 h1).2.2.2;simp[iH];omega
 |k+1,y,m,x,hy,hy2,hm,hm2,hk,h0,h1=>by
  obtain⟨o,n,J,K⟩:=pF h0 h1;obtain⟨S,R,O,N,M,L⟩:=(Cal.gO _ _ _).1 o;simp only[iH];have t:=I9 (y:=y) (m:=m) hy UI hm hm2
  by_cases c:12*y+m<=24312
  ·rw[U1 (t.2 c),Vr];obtain⟨l1,z,u⟩:=Bu (y:=y) (m:=m) (ev:=ev);rw[Gu B r k (nc y m ev) (lU m ev) x UI UI z u UI h0 h1]
   have I:(12*Cal.yT x+Cal.mT x-12*nc y m ev-lU m ev) % ev=(12*Cal.yT x+Cal.mT x-12*y-m) % ev:=by
    rw[show 12*Cal.yT x+Cal.mT x-12*nc y m ev-lU m ev=12*Cal.yT x+Cal.mT x-12*y-m-ev from by omega,Xl]
   rw[I,l1]
   have q:x∈pL y m dt↔Cal.dT x=dt/\12*y+m=12*Cal.yT x+Cal.mT x:=by
    unfold pL;constructor
    ·intro h
     by_cases ok:Cal.ok y m dt=U6
     ·rw[U1 ok] at h;have:x=Cal.num y m dt:=by simpa using h
      obtain⟨f,j,g⟩:=Cal.AA y m dt x ok this.symm;exact⟨g.symm,by omega⟩
     ·rw[U0 ok] at h;simp at h
    ·rintro ⟨f,j⟩;have D:y=Cal.yT x:=UI
     have C:m=Cal.mT x:=UI
     subst f;rw[D,C,U1 o,n];simp
   rw[q];constructor
   ·rintro (⟨f,j⟩|⟨f,j,g⟩)
    ·refine⟨f,by omega,?_⟩;rw[show 12*Cal.yT x+Cal.mT x-12*y-m=0 from by omega];simp
    ·exact⟨f,by omega,g⟩
   ·rintro ⟨f,j,g⟩
    by_cases e:12*y+m+ev<=12*Cal.yT x+Cal.mT x
    ·exact .inr ⟨f,e,g⟩
    ·rw[Xm UI UI] at g;exact .inl ⟨f,by omega⟩
  ·have A:¬ reached y m=U6:=fun h=>c (t.1 h)
   rw[U0 A];simp;omega
theorem Bg{dt ev:UZ}(u:1<=ev):∀ (k:UY)(y m:UZ),1<=m->m<=12->(iH dt ev k y m).Pairwise (· < ·)/\∀ x∈iH dt ev k y m,∃ f g,Cal.ok f g dt=U6/\x=Cal.num f g dt/\12*y+m<=12*f+g
 |0,y,m,_,_=>by simp[iH]
 |k+1,y,m,h1,h2=>by
  simp only[iH];obtain⟨l1,r,q⟩:=Bu (y:=y) (m:=m) (ev:=ev);obtain⟨j,h⟩:=Bg (dt:=dt) u k (nc y m ev) (lU m ev) r q
  split
  ·unfold pL
   by_cases ok:Cal.ok y m dt=U6
   ·rw[U1 ok];refine⟨Xn.2 ⟨by simp,j,fun x c z t=>?_⟩,fun x c=>?_⟩
    ·have:x=Cal.num y m dt:=by simpa using c
     obtain⟨f,g,o,rfl,k⟩:=h z t;rw[this];exact qL ok o UI
    ·rcases Vr.1 c with c|c
     ·have:x=Cal.num y m dt:=by simpa using c
      exact⟨y,m,ok,this,Xk _⟩
     ·obtain⟨f,g,o,e,k⟩:=h x c;exact⟨f,g,o,e,by omega⟩
   ·rw[U0 ok];refine⟨by simpa using j,fun x c=>?_⟩;obtain⟨f,g,o,e,k⟩:=h x (by simpa using c);exact⟨f,g,o,e,by omega⟩
  ·simp
structure bL where
 pc:UZ
 ev:UZ
 acc:UV UZ
 fr:UZ
 mn:UZ
 mi:UZ
 ti:UZ
 un:UZ
structure fw(r:bL):Prop where
 CS:1<=r.pc
 CR:r.pc<=3
 e1:1<=r.ev
 e2:r.ev<=99
 f0:0<=r.fr
 f1:r.fr<728
 m0:0<=r.mn
 m1:r.mn<1440
 i1:1<=r.mi
 i2:r.mi<=1048320
 t0:0<=r.ti
 t1:r.ti<=99
 u0:0<=r.un
 u1:r.un<728
def has(r:bL)(d:UZ):UX :=
 if r.pc=1 then decide ((d-r.fr) % r.ev=0)
 else if r.pc=2 then aI r.acc (d % 7) && decide ((d / 7-r.fr / 7) % r.ev=0)
 else decide (Cal.dT d=Cal.dT r.fr) && decide ((12*Cal.yT d+Cal.mT d-12*Cal.yT r.fr-Cal.mT r.fr) % r.ev=0)
def all(r:bL):UV UZ:=fV (has r) (728-r.fr).toNat r.fr
theorem A6{r:bL}(h:fw r)(x:UZ):x∈all r↔r.fr<=x/\x<728/\has r x=U6:=by
 have:=h.f1;unfold all;rw[xZ];constructor
 ·rintro ⟨f,g,c⟩;exact⟨f,by omega,c⟩
 ·rintro ⟨f,g,c⟩;exact⟨f,by omega,c⟩
def seq(r:bL):UV UZ :=
 if r.pc=2 then iw r.acc r.fr r.ev 800 (r.fr-r.fr % 7)
 else if r.pc=3 then iH (Cal.dT r.fr) r.ev 100 (Cal.yT r.fr) (Cal.mT r.fr)
 else iG r.ev 800 r.fr
theorem Fy{r:bL}(h:fw r):(seq r).Pairwise (· < ·):=by
 unfold seq
 split
 ·exact (Bh h.e1 _ _).1
 ·split
  ·have o:=(pF h.f0 h.f1).1;obtain⟨q,k,f,c,j,g⟩:=(Cal.gO _ _ _).1 o;exact (Bg h.e1 _ _ _ f c).1
  ·exact (Bf h.e1 _ _).1
theorem Ga{r:bL}(h:fw r)(A:0<=x)(k:x<728):x∈seq r↔r.fr<=x/\has r x=U6:=by
 have Y:=h.f0;have X:=h.f1;have O:=h.CS;have N:=h.CR;unfold seq has
 by_cases q:r.pc=2
 ·rw[U1 q,U0 UI,U1 q,Gv h.e1 800 _ x UI UI UI];have e:(r.fr-r.fr % 7) / 7=r.fr / 7:=UI
  rw[e,WN,decide_eq_true_eq];constructor
  ·rintro ⟨g,j,f,z,u⟩;exact⟨j,z,u⟩
  ·rintro ⟨j,z,u⟩;exact⟨by omega,j,k,z,u⟩
 ·rw[U0 q]
  by_cases B:r.pc=3
  ·rw[U1 B,U0 UI,U0 q];obtain⟨o,n,C,S⟩:=pF h.f0 h.f1;obtain⟨W,V,J,I,U,T⟩:=(Cal.gO _ _ _).1 o;rw[Gu h.e1 h.e2 100 _ _ x C UI J I UI A k,WN,decide_eq_true_eq,decide_eq_true_eq];obtain⟨t,R,M,D⟩:=pF A k;constructor
   ·rintro ⟨g,j,f⟩;refine⟨?_,g,f⟩
    by_cases e:12*Cal.yT r.fr+Cal.mT r.fr=12*Cal.yT x+Cal.mT x
    ·obtain⟨j1,j2,j3,j4,j5,j6⟩:=(Cal.gO _ _ _).1 t;have L:Cal.yT r.fr=Cal.yT x:=UI
     have K:Cal.mT r.fr=Cal.mT x:=UI
     rw[L,K,<- g] at n;omega
    ·have:=qL o t UI;omega
   ·rintro ⟨g,j,f⟩;refine⟨j,?_,f⟩;apply Xo;intro c;have:=qL t o UI;omega
  ·rw[U0 B,U1 UI,Gt h.e1 800 _ x UI,decide_eq_true_eq];constructor
   ·rintro ⟨g,j,f⟩;exact⟨g,f⟩
   ·rintro ⟨g,f⟩;exact⟨g,k,f⟩
theorem T6{l:UV UZ}(h:l.Pairwise (· < ·))(b x:UZ):x∈l.takeWhile (fun d=>decide (d<=b))↔x∈l/\x<=b:=by
 induction l with
 |nil=>simp
 |cons d l ih =>
  rw[VE] at h;rw[List.takeWhile_cons]
  by_cases c:d<=b
  ·simp only[c,decide_true,if_true,Vq,ih h.2];constructor
   ·rintro (rfl|⟨g,f⟩)
    ·exact⟨.inl rfl,c⟩
    ·exact⟨.inr g,f⟩
   ·rintro ⟨rfl|g,f⟩
    ·exact .inl rfl
    ·exact .inr ⟨g,f⟩
  ·simp only[c,decide_false,Vn,if_false,List.not_mem_nil,false_iff,Vq];rintro ⟨rfl|g,f⟩
   ·exact c f
   ·have:=h.1 x g;omega
theorem Fx{r:bL}(h:fw r){b:UZ}(D:b<728):(seq r).takeWhile (fun d=>decide (d<=b))=(all r).filter (fun d=>decide (d<=b)):=by
 refine RP ?_ ?_ (fun x=>?_)
 ·exact Xp (List.takeWhile_sublist _) (Fy h)
 ·exact VH _ (ue _ _ _)
 ·rw[T6 (Fy h),Xq,A6 h,decide_eq_true_eq];have M:=h.f0
  have low:x∈seq r->0<=x:=by
   intro c;unfold seq at c
   split at c
   ·have:=(Bh h.e1 _ _).2 x c;omega
   ·split at c
    ·have o:=(pF h.f0 h.f1);obtain⟨L,K,A,z,J,I⟩:=(Cal.gO _ _ _).1 o.1;obtain⟨y',m',t,rfl,k⟩:=(Bg h.e1 _ _ _ A z).2 x c
     by_cases e:12*Cal.yT r.fr+Cal.mT r.fr=12*y'+m'
     ·obtain⟨j1,j2,j3,j4,j5,j6⟩:=(Cal.gO _ _ _).1 t;have C:Cal.yT r.fr=y':=UI
      have B:Cal.mT r.fr=m':=UI
      rw[<- C,<- B,o.2.1];omega
     ·have:=qL o.1 t UI;have:=o.2.1;omega
    ·have:=(Bf h.e1 _ _).2 x c;omega
  constructor
  ·rintro ⟨f,q⟩;have u:=low f;obtain⟨j,g⟩:=(Ga h u UI).1 f;exact⟨⟨j,by omega,g⟩,q⟩
  ·rintro ⟨⟨f,q,j⟩,g⟩;exact⟨(Ga h UI q).2 ⟨f,j⟩,g⟩
theorem O5{r:bL}(h:fw r):(seq r).takeWhile (fun d=>decide (d<=727))=all r:=by
 rw[Fx h UI];exact List.filter_eq_self.2 (fun x c=>by have:=(A6 h x).1 c;simp;omega)
def fG(r:bL):UV UZ:=if 0<r.ti then ((seq r).takeWhile (fun d=>decide (d<=727))).take r.ti.toNat else ((seq r).takeWhile (fun d=>decide (d<=r.un))).take 41
def ve(r:bL)(l:UV UZ)(d:UZ):UV UZ:=if has r d/\((r.ti=0/\d<=r.un)\/(0<r.ti/\(l.length:UZ)<r.ti)) then l++[d] else l
def oE(r:bL):UY->UZ->UV UZ->UV UZ
 |0,_,l=>l
 |k+1,d,l=>oE r k (d+1) (ve r l d)
theorem Jf{r:bL}(h:r.ti=0):∀ (k:UY)(d:UZ)(l:UV UZ),oE r k d l=l++(fV (has r) k d).filter (fun d=>decide (d<=r.un))
 |0,d,l=>by simp[oE,fV]
 |k+1,d,l=>by
  simp only[oE,fV];rw[Jf h k (d+1)];unfold ve
  by_cases c:has r d=U6
  ·rw[U1 c,List.filter_cons]
   by_cases f:d<=r.un
   ·rw[U1 ⟨c,.inl ⟨h,f⟩⟩,U1 (by simp[f])];simp
   ·rw[U0 UI,U0 (by simp[f])]
  ·rw[U0 c,U0 (fun e=>c e.1)]
theorem yu{r:bL}(h:0<r.ti):∀ (k:UY)(d:UZ)(l:UV UZ),(l.length:UZ)<=r.ti->oE r k d l=l++(fV (has r) k d).take (r.ti.toNat-l.length)
 |0,d,l,_=>by simp[oE,fV]
 |k+1,d,l,hl=>by
  simp only[oE,fV];unfold ve
  by_cases c:has r d=U6
  ·rw[U1 c]
   by_cases f:(l.length:UZ)<r.ti
   ·rw[U1 ⟨c,.inr ⟨h,f⟩⟩,yu h k (d+1) _ UQ];have e:r.ti.toNat-l.length=(r.ti.toNat-(l++[d]).length)+1:=by simp;omega
    rw[e,List.take_succ_cons];simp
   ·rw[U0 UI,yu h k (d+1) _ hl];have e:r.ti.toNat-l.length=0:=UI
    rw[e];simp
  ·rw[U0 c,U0 (fun e=>c e.1),yu h k (d+1) _ hl]
def bH(r:bL):UV UZ:=oE r (728-r.fr).toNat r.fr []
theorem Cg{r:bL}(h:fw r):bH r=if 0<r.ti then (all r).take r.ti.toNat else (all r).filter (fun d=>decide (d<=r.un)):=by
 have c:=h.t0;unfold bH
 split
 ·rw[yu UL _ _ _ UQ];simp[all]
 ·rw[Jf UI];simp[all]
theorem Hr{r:bL}(h:fw r):fG r=if 0<r.ti then bH r else (bH r).take 41:=by
 rw[Cg h];unfold fG
 split
 ·rw[O5 h]
 ·rw[Fx h h.u1]
def lS(r:bL)(d:UZ):UX:=decide (1048320<d*1440+r.mn+r.mi)
def gd(r:bL):UZ :=
 if 40<(bH r).length\/40<r.ti then 11 else if bH r=[]\/((bH r).length:UZ)<r.ti then 6 else if (bH r).any (lS r) then 6 else 0
def fg(r:bL):UZ :=
 if 40<r.ti then 11 else if 40<(fG r).length then 11 else if fG r=[]\/((fG r).length:UZ)<r.ti then 6 else if lS r ((fG r).getLastD 0) then 6 else 0
theorem Iw{r:bL}(h:fw r):(bH r).Pairwise (· < ·):=by
 rw[Cg h]
 split
 ·exact Xp (List.take_sublist _ _) (ue _ _ _)
 ·exact VH _ (ue _ _ _)
theorem sF{r:bL}(h:fw r)(c:x∈bH r):r.fr<=x/\x<728:=by
 rw[Cg h] at c
 have:x∈all r:=by
  split at c
  ·exact Wb c
  ·exact (Xq.1 c).1
 have:=(A6 h x).1 this;exact⟨this.1,this.2.1⟩
theorem vK{r:bL}:∀ {l:UV UZ},l.Pairwise (· < ·)->l≠[]->l.any (lS r)=lS r (l.getLastD 0)
 |[],_,h=>U2 rfl h
 |[d],_,_=>by simp
 |d :: e :: l,h,_=>by
  rw[VE] at h;have ih:=vK (r:=r) (l:=e :: l) h.2 UJ;rw[List.any_cons,ih];have g:(d :: e :: l).getLastD 0=(e :: l).getLastD 0:=by simp[Xr]
  rw[g]
  cases f:lS r d
  ·simp
  ·have c:(e :: l).getLastD 0∈e :: l:=by
    have:(e :: l).getLastD 0=(e :: l).getLast UJ:=by simp[Xr]
    rw[this];exact List.getLast_mem _
   have:=h.1 _ c;simp only[lS,decide_eq_true_eq] at f;simp only[lS,Bool.true_or];exact (decide_eq_true UI).symm
theorem pJ{r:bL}(h:fw r):fg r=gd r/\(gd r=0->fG r=bH r/\bH r≠[]/\(bH r).length<=40/\∀ d∈bH r,d*1440+r.mn+r.mi<=1048320):=by
 have q:=Hr h;have k:=Iw h;have I:=h.t0
 have fin:∀ {l:UV UZ},l≠[]->¬ l.any (lS r)=U6->∀ d∈l,d*1440+r.mn+r.mi<=1048320:=by
  intro l _ B d C;apply Xo;intro c;exact B (List.any_eq_true.2 ⟨d,C,by simp only[lS,decide_eq_true_eq];omega⟩)
 unfold fg gd
 by_cases c:0<r.ti
 ·rw[U1 c] at q;rw[q]
  by_cases A:40<r.ti
  ·rw[U1 A,U1 (.inr A)];exact⟨rfl,fun e=>by omega⟩
  ·rw[U0 A]
   by_cases j:40<(bH r).length
   ·rw[U1 j,U1 (.inl j)];exact⟨rfl,fun e=>by omega⟩
   ·have z:¬ (40<(bH r).length\/40<r.ti):=UI
    rw[U0 j,U0 z]
    by_cases g:bH r=[]\/((bH r).length:UZ)<r.ti
    ·rw[U1 g,U1 g];exact⟨rfl,fun e=>by omega⟩
    ·have f:bH r≠[]:=fun e=>g (.inl e)
     rw[U0 g,U0 g,vK k f];refine⟨rfl,fun e=>⟨rfl,f,by omega,fin f ?_⟩⟩;rw[vK k f];intro t;rw[U1 t] at e;omega
 ·rw[U0 c] at q;have D:¬ 40<r.ti:=UI
  rw[q,U0 D]
  by_cases j:40<(bH r).length
  ·have:40<((bH r).take 41).length:=by rw[List.length_take];omega
   rw[U1 this,U1 (.inl j)];exact⟨rfl,fun e=>by omega⟩
  ·have u:(bH r).take 41=bH r:=V7 UI;have z:¬ (40<(bH r).length\/40<r.ti):=UI
   rw[u,U0 j,U0 z]
   by_cases g:bH r=[]\/((bH r).length:UZ)<r.ti
   ·rw[U1 g,U1 g];exact⟨rfl,fun e=>by omega⟩
   ·have f:bH r≠[]:=fun e=>g (.inl e)
    rw[U0 g,U0 g,vK k f];refine⟨rfl,fun e=>⟨rfl,f,by omega,fin f ?_⟩⟩;rw[vK k f];intro t;rw[U1 t] at e;omega
def gg(r:bL)(l:UV UZ):UV (UZ × UZ):=l.map fun d=>(d*1440+r.mn,d*1440+r.mn+r.mi)
end Rd
open Go.RowKit
namespace aA
def ie(name:UU)(es:UV aM)(a b:UZ)(m x:UZ):UZ:=if a<x/\x<b/\m<bP name x es then bP name x es else m
def lE(name:UU)(es:UV aM)(a b:UZ):UZ:=(eD name es).foldl (ie name es a b) (bP name a es)
end aA
theorem Lp(d:UY)(a:UW Vb)(cap E:UY)(es:UV aA.aM)(name:UU)(fr til:UZ)(w:U7)(h:ma w d a cap E es)(W:es.length<=1000)(R:∀ e∈es,aA.Small e):
  Va prog 236 #[.pointer (U4 ⟨d,0,U3⟩),.string name,.int .i64 fr,.int .i64 til] w fun e w'=>e=.returned (.int .i64 (aA.lE name es fr til))/\U9 w.heap.size w w':=by
 have ST:=aC (fun w' (k:U9 w.heap.size w w')=>EJ d a cap E es name w' (h.later k) W R);have TK:=aC (fun t w' (k:U9 w.heap.size w w')=>Ep d a cap E es name t w' (h.later k) W R);have sz:=Aq name es R;have I:aA.lE name es fr til=(aA.eD name es).foldl (aA.ie name es fr til) (aA.bP name fr es):=rfl;rw[I];generalize aA.eD name es=l at *;have aa:l.length<=100000:=UI
 clear h R I sz
 go_in
 go_wp2_with fail
 refine (TK.y _ _ (zr _ _)).mono ?_;rintro e w1 ⟨rfl,M⟩;have B:=aC M;clear M
 go_wp2_with fail
 refine (ST.y _ B.y).mono ?_;rintro e w2 ⟨v2,rfl,J,L⟩;obtain⟨a2,c2,g2,rfl,T,O,D⟩:=wN J;have V:=aC (zA O (zA D (aZ B.y L (zq _))));clear ST J L O D B T
 go_wp2_with fail
 go_loopw [9,11,12] (fun m i _ wx=>∃ j:UY,j<=l.length/\i=.int .i64 j/\m=.int .i64 ((l.take j).foldl (aA.ie name es fr til) (aA.bP name fr es))/\U9 w2.heap.size w2 wx) (fun _ i _ _=>l.length-(intOf i).toNat)
 case atStart=>exact⟨0,V6 _,rfl,rfl,Below.refl _ _⟩
 case round =>
  obtain⟨j,hj,rfl,rfl,N⟩:=hrel;have K:=aZ V.y.2.2 N (zq _);have z:=aC K;have S:=aC N;clear K
  by_cases r:j<l.length
  ·obtain rfl:=V.y.1 (by intro e;simp[e] at r);have c0:=aN N (V.y.2.1 j r);have U:(j:UZ)<(l.length:UZ):=UI
   have C:(l.take (j+1)).foldl (aA.ie name es fr til) (aA.bP name fr es)=aA.ie name es fr til ((l.take j).foldl (aA.ie name es fr til) (aA.bP name fr es)) l[j]:=by
    rw[V5 r,Xs];rfl
   have g:=aC C;have f:=aC (TK.y l[j]);generalize (l.take j).foldl (aA.ie name es fr til) (aA.bP name fr es)=m at *;have q:Hid (aA.ie name es fr til m l[j]=if fr<l[j]/\l[j]<til/\m<aA.bP name l[j] es then aA.bP name l[j] es else m):=rfl;generalize aA.bP name l[j] es=tk at *;clear C N
   by_cases Z:fr<l[j]
   ·by_cases Y:l[j]<til
    ·by_cases X:m<tk
     ·have u:Hid ((l.take (j+1)).foldl (aA.ie name es fr til) (aA.bP name fr es)=tk):=by show _=tk;rw[g.y,q.y,U1 ⟨Z,Y,X⟩]
      go_wp2_with fail
      refine (f.y _ z.y).mono ?_;rintro e w4 ⟨rfl,c⟩;have A:=aC (aZ S.y c (zq _));clear c f
      go_wp2
      go_roundw
      case rel=>exact⟨j+1,by omega,by go_num,by rw[u.y],A.y⟩
      case measure=>simp[intOf];omega
     ·have u:Hid ((l.take (j+1)).foldl (aA.ie name es fr til) (aA.bP name fr es)=m):=by show _=m;rw[g.y,q.y,U0 (fun x=>X x.2.2)]
      go_wp2_with fail
      refine (f.y _ z.y).mono ?_;rintro e w4 ⟨rfl,c⟩;have A:=aC (aZ S.y c (zq _));clear c f
      go_wp2
      go_roundw
      case rel=>exact⟨j+1,by omega,by go_num,by rw[u.y],A.y⟩
      case measure=>simp[intOf];omega
    ·have u:Hid ((l.take (j+1)).foldl (aA.ie name es fr til) (aA.bP name fr es)=m):=by show _=m;rw[g.y,q.y,U0 (fun x=>Y x.2.1)]
     go_wp2
     go_roundw
     case rel=>exact⟨j+1,by omega,by go_num,by rw[u.y],S.y⟩
     case measure=>simp[intOf];omega
   ·have u:Hid ((l.take (j+1)).foldl (aA.ie name es fr til) (aA.bP name fr es)=m):=by show _=m;rw[g.y,q.y,U0 (fun x=>Z x.1)]
    go_wp2
    go_roundw
    case rel=>exact⟨j+1,by omega,by go_num,by rw[u.y],S.y⟩
    case measure=>simp[intOf];omega
  ·have e:l.take j=l:=V7 UI;have U:¬ (j:UZ)<(l.length:UZ):=UI
   clear N
   go_wp2
   go_ret;exact⟨gL (by first|rfl|rw[e]),z.y⟩
namespace aA
def gb:UV aM->UV UZ
 |[]=>[]
 |e :: r=>e.aL.map (·.2)++gb r
theorem Nc(l r:UV aM):gb (l++r)=gb l++gb r:=by
 induction l with
 |nil=>rfl
 |cons e l ih=>simp only[VD,gb,ih,VP]
def jN(ts:UV (UU × UZ))(es:UV aM)(name:UU)(aH long fr til c s:UZ):UZ :=
 if s<fr\/til<s+long\/(0<=c/\c<=s) then c else if dG ts es name aH [(s,s+long)] then s else c
def iY(ts:UV (UU × UZ))(es:UV aM)(name:UU)(aH long fr til:UZ):UZ:=(fr :: gb es).foldl (jN ts es name aH long fr til) (-1)
def Dp(es:UV aM):Prop:=∀ e∈es,∀ s∈e.aL,0<=s.2/\s.2<=2000000
theorem Em(l:UV aM)(h:∀ e∈l,Small e):(gb l).length<=100*l.length:=by
 induction l with
 |nil=>simp[gb]
 |cons e l ih =>
  have i:=ih (fun x c=>h x (by simp[c]));have s:=(h e UJ).sl;simp only[gb,VU,VV,Wu];omega
theorem LO(l:UV aM)(h:Dp l):∀ x∈gb l,0<=x/\x<=2000000:=by
 induction l with
 |nil=>simp[gb]
 |cons e l ih =>
  intro x c;simp only[gb,Vr,List.mem_map] at c;rcases c with ⟨s,f,rfl⟩|c
  ·exact h e UJ s f
  ·exact ih (fun e g=>h e (by simp[g])) x c
end aA
def mQ(fr:UZ)(l:UV aA.aM)(e:aA.aM)(j:UY):UV UZ:=fr :: (aA.gb l++(e.aL.take j).map (·.2))
theorem Lo(d:UY)(a:UW Vb)(cap E:UY)(es:UV aA.aM)(at_:UW Vb)(ct G:UY)(ts:UV (UU × UZ))(name:UU)(aH long fr til:UZ)(w:U7)(h:ma w d a cap E es)(ht:oK w d at_ ct G ts)(hl:es.length<=1000)(aw:ts.length<=1000)(hs:∀ e∈es,aA.Small e)(he:aA.Dp es)(av:0<=aH)(au:aH<=9)(a9:0<=long)(a8:long<=2000000)(a4:0<=fr)(a3:fr<=2000000):
  Va prog 237 #[.pointer (U4 ⟨d,0,U3⟩),.string name,.int .i64 aH,.int .i64 long,.int .i64 fr,.int .i64 til] w fun e w'=>e=.returned (.int .i64 (aA.iY ts es name aH long fr til))/\U9 w.heap.size w w':=by
 obtain⟨i0,az,ar,aq,ao⟩:=info_parts pB;have FT:=aC (fun w' (k:U9 w.heap.size w w') B cb L hL ay=>DI d a cap E es at_ ct G ts name aH B cb L w' (h.later k) (ht.later k) hL hl aw hs ay av au);have H:=aC h;have HS:=aC hs;have sz:=aA.Em es hs
 have S:Hid (∀ x∈fr :: aA.gb es,0<=x/\x<=2000000):=by
  intro x U;rcases Vq.1 U with rfl|U
  ·exact⟨a4,a3⟩
  ·exact aA.LO es he x U
 have ae:aA.iY ts es name aH long fr til=(fr :: aA.gb es).foldl (aA.jN ts es name aH long fr til) (-1):=rfl;rw[ae];obtain⟨l,O⟩:∃ l,fr :: aA.gb es=l:=⟨_,rfl⟩;have ba:l.length<=100100:=by rw[<- O,VV];omega
 rw[O] at S ⊢;have ak:=aC O;clear h ht hs he ae O
 go_in
 go_wp2_with fail
 have o0:(w.alloc (.cells #[.int .i64 fr] 3)).ownsRow w.heap.size 3 1 (.slice (U4 ⟨w.heap.size,0,U3⟩) 1 1) 1 ([fr].map (VT .i64)) :=
  ⟨rfl,.inr ⟨w.heap.size,1,#[.int .i64 fr],rfl,Vd _,cC _ _,Vd _,by unfold maxLen;omega,rfl,rfl⟩⟩
 have O0:=aC (zA o0 ((zr _ w).alloc (zq _) (.cells #[.int .i64 fr] 3)));clear o0
 go_loopw [13,14,15] (fun v i _ wx=>∃ k:UY,k<=es.length/\i=.int .i64 k/\wx.ownsRow w.heap.size 3 1 v (fr :: aA.gb (es.take k)).length ((fr :: aA.gb (es.take k)).map (VT .i64))/\U9 w.heap.size w wx) (fun _ i _ _=>es.length-(intOf i).toNat)
 case atStart=>exact⟨0,V6 _,rfl,O0.y.1,O0.y.2⟩
 case round =>
  obtain⟨k,hk,rfl,f,t⟩:=hrel;have bl:=Wc k es;have U:=H.y.later t;have cc:=U.c;have a7:=aA.Em (es.take k) (fun e he=>HS.y e (Wb he))
  by_cases N:k<es.length
  ·obtain rfl:=H.y.at N;obtain⟨B,cp,V⟩:=H.y.r k N;have c4:=(V.later t).c4;have ac:=HS.y es[k] (zg N);have D:(k:UZ)<(es.length:UZ):=UI
   have e:fr :: aA.gb (es.take (k+1))=fr :: (aA.gb (es.take k)++es[k].aL.map (·.2)):=by
    rw[V5 N,aA.Nc];simp[aA.gb]
   have EE:=aC e;have sl:=ac.sl;have R0:=aC V;have HO:=aC (zA f t);clear e V U ac f t
   go_wp2_with fail
   go_loopw [13,15] (fun v i wx=>∃ j:UY,j<=es[k].aL.length/\i=.int .i64 j/\wx.ownsRow w.heap.size 3 1 v (mQ fr (es.take k) es[k] j).length ((mQ fr (es.take k) es[k] j).map (VT .i64))/\U9 w.heap.size w wx) (fun _ i _=>es[k].aL.length-(intOf i).toNat)
   case atStart=>exact⟨0,V6 _,rfl,by rw[mQ];simpa using HO.y.1,HO.y.2⟩
   case round =>
    obtain⟨j,hj,rfl,f,t⟩:=hrel;clear cc c4;have cc:=(H.y.later t).c;have c4:=(R0.y.later t).c4;have R:=aC (zA f t);have af:=t.size
    by_cases u:j<es[k].aL.length
    ·have r1:=(R0.y.sl.later t j u).2;have W:(j:UZ)<(es[k].aL.length:UZ):=UI
     have aj:mQ fr (es.take k) es[k] (j+1)=mQ fr (es.take k) es[k] j++[es[k].aL[j].2]:=by
      unfold mQ;rw[V5 u,We,VD,VP];rfl
     have ES:=aC aj
     have a6:(mQ fr (es.take k) es[k] j).length<=100*k+101:=by
      unfold mQ;have:=Wc j es[k].aL;simp only[VV,VU,Wu];omega
     clear aj t
     go_wp2_with (first
      |(at_builtin;refine wpList_append_own _ rfl _ _ 38 rfl w.heap.size 3 i0 (.int .i64 0) 1 8 underlying38 az ar aq ao rfl UK _ _ _ rfl (f.alloc _) ⟨wr.heap.size,0,U3⟩ 1 1 [.int .i64 es[k].aL[j].2] rfl rfl (Wv (cs:=#[.int .i64 es[k].aL[j].2]) (cC wr _)) US UR UI UQ ?_;intro v' w' C I _))
     have ag:U9 w.heap.size w w':=(R.y.2.alloc af _).grown I UQ (fun k hk=>jE R.y.1 hk)
     have HK:Hid (w'.ownsRow w.heap.size 3 1 v' (mQ fr (es.take k) es[k] (j+1)).length ((mQ fr (es.take k) es[k] (j+1)).map (VT .i64))):=by
      show w'.ownsRow _ _ _ _ _ _;rw[ES.y,We,VU];exact C
     have a5:=aC ag;clear C I ag f R r1 cc c4
     go_wp2
     go_roundw
     case rel=>exact⟨j+1,by omega,by go_num,HK.y,a5.y⟩
     case measure=>simp[intOf];omega
    ·have W:¬ (j:UZ)<(es[k].aL.length:UZ):=UI
     have T:mQ fr (es.take k) es[k] j=fr :: aA.gb (es.take (k+1)):=by
      have et:es[k].aL.take j=es[k].aL:=V7 UI;rw[EE.y,mQ,et]
     have HK:Hid (wr.ownsRow w.heap.size 3 1 u13 (fr :: aA.gb (es.take (k+1))).length ((fr :: aA.gb (es.take (k+1))).map (VT .i64))):=by
      show wr.ownsRow _ _ _ _ _ _;rw[<- T];exact f
     clear f t T
     go_wp2
     go_roundw
     case rel=>exact⟨k+1,by omega,by go_num,HK.y,R.y.2⟩
     case measure=>simp[intOf];omega
  ·have e:es.take k=es:=V7 UI;have D:¬ (k:UZ)<(es.length:UZ):=UI
   rw[e,ak.y] at f;obtain⟨a2,c2,g2,rfl,ax,ai,ad⟩:=wN f;have R2:=aC (zA ai (zA ad t));clear f t e ai ad ax ak U O0
   go_wp2_with fail
   go_loopw [16,17,18,19] (fun b i _ _ wx=>∃ j:UY,j<=l.length/\i=.int .i64 j/\b=.int .i64 ((l.take j).foldl (aA.jN ts es name aH long fr til) (-1))/\U9 w.heap.size w wx/\∀ (i:UY) (D:i<l.length),wx.cell? ⟨g2,i,U3⟩=U4 (.int .i64 l[i])) (fun _ i _ _ _=>l.length-(intOf i).toNat)
   case atStart=>exact⟨0,V6 _,rfl,rfl,R2.y.2.2,R2.y.2.1⟩
   case round =>
    obtain⟨j,hj,rfl,rfl,t,K⟩:=hrel;have aa:=aC t;have HC:=aC K;clear K
    by_cases u:j<l.length
    ·obtain rfl:=R2.y.1 (by intro e;simp[e] at u);have c0:=HC.y j u;have W:(j:UZ)<(l.length:UZ):=UI
     have ab:(l.take (j+1)).foldl (aA.jN ts es name aH long fr til) (-1)=aA.jN ts es name aH long fr til ((l.take j).foldl (aA.jN ts es name aH long fr til) (-1)) l[j]:=by
      rw[V5 u,Xs];rfl
     have Y:=aC ab;have hm:=S.y l[j] (zg u);generalize (l.take j).foldl (aA.jN ts es name aH long fr til) (-1)=b at *;generalize l[j]=sx at *;have Z:Hid (aA.jN ts es name aH long fr til b sx=if sx<fr\/til<sx+long\/(0<=b/\b<=sx) then b else if aA.dG ts es name aH [(sx,sx+long)] then sx else b):=rfl;clear ab t
     by_cases g:sx<fr\/til<sx+long\/(0<=b/\b<=sx)
     ·have HE:Hid ((l.take (j+1)).foldl (aA.jN ts es name aH long fr til) (-1)=b):=by show _=b;rw[Y.y,Z.y,U1 g]
      have J:sx<fr\/(¬ sx<fr/\til<sx+long)\/(¬ sx<fr/\¬ til<sx+long/\0<=b/\b<=sx):=UI
      clear g;rcases J with q1|⟨q1,q2⟩|⟨q1,q2,q3,q4⟩
      all_goals
       go_wp2
       go_roundw
       case rel=>exact⟨j+1,by omega,by go_num,by rw[HE.y],aa.y,HC.y⟩
       case measure=>simp[intOf];omega
     ·have hB:fY (wr.alloc (.cells #[.int .i64 sx,.int .i64 (sx+long)] 60)) wr.heap.size [(sx,sx+long)]:=by
       intro i D;have:i=0:=by simpa using D
       subst this;exact⟨by simp,by simp⟩
      have X:U9 w.heap.size w (wr.alloc (.cells #[.int .i64 sx,.int .i64 (sx+long)] 60)):=aZ aa.y ((zr _ _).alloc (zq _) _) (zq _);have A:=aC (FT.y _ X wr.heap.size 1 [(sx,sx+long)] hB UJ);have an:=aC X;have al:Hid (∀ (i:UY) (D:i<l.length),(wr.alloc (.cells #[.int .i64 sx,.int .i64 (sx+long)] 60)).cell? ⟨g2,i,U3⟩=U4 (.int .i64 l[i])):=fun i D=>aN ((zr _ _).alloc (zq _) _) (HC.y i D)
      have q1:¬ sx<fr:=UI
      have q2:¬ til<sx+long:=UI
      have hz:(wr.alloc (.cells #[.int .i64 sx,.int .i64 (sx+long)] 60)).heap.size=wr.heap.size+1:=UJ
      clear hB X hz
      cases q:aA.dG ts es name aH [(sx,sx+long)]
      ·have HE:Hid ((l.take (j+1)).foldl (aA.jN ts es name aH long fr til) (-1)=b):=by show _=b;rw[Y.y,Z.y,U0 g,q];rfl
       rw[q] at A;have J:b<0\/(0<=b/\sx<b):=UI
       clear g q;rcases J with q3|⟨q3,q4⟩
       all_goals
        go_wp2_with fail
        refine A.y.mono ?_;rintro e w4 ⟨rfl,z⟩;have M:=aC (zA (aZ an.y z (zq _)) (fun i D=>aN z (al.y i D)));clear z A
        go_wp2
        go_roundw
        case rel=>exact⟨j+1,by omega,by go_num,by rw[HE.y],M.y.1,M.y.2⟩
        case measure=>simp[intOf];omega
      ·have HE:Hid ((l.take (j+1)).foldl (aA.jN ts es name aH long fr til) (-1)=sx):=by show _=sx;rw[Y.y,Z.y,U0 g,q];rfl
       rw[q] at A;have J:b<0\/(0<=b/\sx<b):=UI
       clear g q;rcases J with q3|⟨q3,q4⟩
       all_goals
        go_wp2_with fail
        refine A.y.mono ?_;rintro e w4 ⟨rfl,z⟩;have M:=aC (zA (aZ an.y z (zq _)) (fun i D=>aN z (al.y i D)));clear z A
        go_wp2
        go_roundw
        case rel=>exact⟨j+1,by omega,by go_num,by rw[HE.y],M.y.1,M.y.2⟩
        case measure=>simp[intOf];omega
    ·have e:l.take j=l:=V7 UI;have W:¬ (j:UZ)<(l.length:UZ):=UI
     clear t
     go_wp2
     go_ret;exact⟨gL (by first|rfl|rw[e]),aa.y⟩
end Go.Proofs.YtfigmlfdnickmaaGreatDoor
