import Derived.Test.YtfigmlfdnickmaaGreatDoorL04
import Derived.Test.YtfigmlfdnickmaaGreatDoorProg
import Derived.Laws.Rows
import Derived.WalkKit
import Derived.WalkSpells
import Derived.WalkLawsBesides
import Derived.Deep.QuietTactic
import Derived.BigQuiet
set_option maxRecDepth 100000
set_option maxHeartbeats 8000000
open Go.Proofs.Tryz
open _root_ renaming ByteArray->UU,List->UV,Option->UW,Bool->UX,Nat->UY,Int->UZ,if_neg->U0,if_pos->U1,absurd->U2
open Option renaming none->U3,some->U4,mem_toList->WI
open Bool renaming false->U5,true->U6,and_eq_true->WN
open Go renaming World->U7,Value->U8,Calls->Va,TypeId->Vc
open Go.RowKit renaming Below->U9
open List renaming map_map->XF,map_congr_left->XG,filter_map->Yg,mem_map->V9,mem_filter->Xq,mem_append->Vr,map_append->We,map_cons->XD,nodup_cons->Vt,mem_cons->Vq,map_id->Yh,filter_cons->VG,filter_filter->Yi,filter_congr->Yj,length_map->Wu,length_filter_le->Wx,filter_append->VF,append_nil->XT,pairwise_cons->VE,foldl_cons->Xz,length_cons->VV,length_append->VU,mem_append_left->Ym,mem_append_right->Yn,mem_singleton->Yo,mem_cons_self->Yp,take_succ_eq_append_getElem->V5,getElem_of_mem->XN,length_take->Yb,getElem?_map->Yd,getElem?_eq_getElem->WS,any_eq_true->XQ,length_nil->VZ,mem_of_find?_eq_some->X7,find?_some->X8,find?_eq_none->X6
open Function renaming comp->X4
open List.Perm renaming cons_inv->Yk
open Go.Value renaming int->VT
open Go.World renaming ownsRow_nil->Yl,block_lt_of_cell?->Vh,cell?->VA,cell?_setCell_same->Vu
open List.Pairwise renaming imp->XU,nil->XP
open Option.some renaming inj->WJ
open Nat renaming zero_le->V6,le_trans->Vg,le_refl->Vd
open Go.Joins renaming ownsRow_le->Yq
open Go.Builtin renaming append_->Yr
open Go.Oper renaming wp->Ys
open Go.Region renaming wanted->Yt
open Go.Instr renaming lookup->Yu
open Go.Ending renaming returned->Ve
open Int renaming add_zero->Yv,sub_zero->Yw
open Go.Exit renaming inBlock->Wq
open Go.Calls renaming quiet_of->Yx,quiet_of_same->Yz
open ByteArray renaming empty->Yy
namespace Go.Proofs.YtfigmlfdnickmaaGreatDoor
variable{wr:UX}{name:UU}{e:aA.aM}{a b id m y:UZ}{ws:UV UU}{Gr l:UV UZ}{G:UV UY}{xs:UV U8}{A B B' B0 Q R d i k n nx:UY}{c1 ck aJ col' col1:UY->UW bB}{r rk:Raw}{s:aA.St}{c f v v4:U8}{X Z w w' w1 w2 w4 wx:U7}
open Go.RowKit
open aA (aM St dB kept dZ cS cN gC cA bW gJ Inv)
theorem S4(id:UZ)(h:UV EG):(fW id 1 0 h).map (·.e)=dZ id (h.map (·.e)):=by
 unfold fW dZ;rw[XF,XF];apply XG;intro g _;simp only[X4]
 split <;> rfl
theorem GD(id:UZ)(g:UV EG):(eS id g).map (·.e)=kept id (g.map (·.e)):=by
 unfold eS kept;rw[Yg];rfl
theorem TW{g j:UZ}{o:UV EG}{x:EG}(h:x∈fW id g j o):∃ y∈o,x.eb=y.eb/\x.tb=y.tb/\x.e.aT=y.e.aT/\x.e.id=y.e.id:=by
 obtain⟨y,p,rfl⟩:=V9.1 h;refine⟨y,p,?_⟩
 split <;> exact⟨rfl,rfl,rfl,rfl⟩
theorem IW(id g h:UZ)(eg:UV EG):iX (fW id g h eg)=iX eg:=by funext x;unfold iX;rw[GO]
theorem Of.book(h:Of s r)(hp:s.ts.Pairwise fun t u=>bW t.1 u.1=U5)(E:dB s.es)(S:(r.eg.map (·.e.id)).Nodup){g:EG}(O:g∈r.eg)(U:g.e.kind=3)(hr:gJ g.e.aL)(V:i<r.tg.length)(o:r.tg[i].name=g.e.aT):
  Of { s with es:=dZ g.e.id s.es } ({ r with eg:=fW g.e.id 1 0 r.eg }.cW i (r.tg[i].with (bZ r.tg[i].A g.e.aL g.e.aH) (gn g.e.id g.eb r.tg[i].T g.e.aL)))/\(∀ z∈aE.bS r.tg[i].T,z.n=g.e.id->∀ s∈g.e.aL,z.f≠s.1):=by
 obtain⟨t1,Y⟩:=h.th i V;have I:=h.mem O
 have D:∀ (name:UU) (e:aM),e∈s.es->cA name e=U6->e.id≠g.e.id:=by
  intro name e p C N;have:e=g.e:=E.one p I N;subst this;simp[cA,U] at C
 have P:cA r.tg[i].name (cS g.e)=U6:=by rw[aA.vW,o];exact aA.qV _
 have W:=Hb (id:=g.e.id) (eb:=g.eb) (L:=g.e.aL) (es':=dZ g.e.id s.es) (at':=iX (fW g.e.id 1 0 r.eg)) Y hr (fun e p C=>D _ e p C) (fun z=>by
  rw[IW];constructor
  ·rintro ⟨e,p,C,q,H,rfl⟩;rcases aA.vY.1 p with ⟨p,_⟩|⟨y,J,F,rfl⟩
   ·exact .inl ⟨e,p,C,q,H,rfl⟩
   ·have:y=g.e:=E.one J I F;subst this;exact .inr ⟨q,H,by unfold jG;rw[show (cS g.e).id=g.e.id from rfl,Bl S O]⟩
  ·rintro (⟨e,p,C,q,H,rfl⟩|⟨q,H,rfl⟩)
   ·exact⟨e,aA.vY.2 (.inl ⟨p,D _ e p C⟩),C,q,H,rfl⟩
   ·exact⟨cS g.e,aA.vY.2 (.inr ⟨g.e,I,rfl,rfl⟩),P,q,H,by unfold jG;rw[show (cS g.e).id=g.e.id from rfl,Bl S O]⟩)
 refine⟨h.turn hp V (by rw[S4,h.es]) ?_ W.1 (fun name T K=>⟨?_,fun hT=>?_⟩) (fun x hx=>?_),W.2⟩
 ·rw[t1];exact aA.Jc (by rw[o];exact aA.qV _) U E I
 ·refine aA.Jv (fun e p N C=>?_);have:e=g.e:=E.one p I N;subst this;exact U2 (sI.1 C) (fun M=>K (by rw[o,M]))
 ·refine vO hT (fun e C=>?_) (fun e _ _=>by rw[IW]);constructor
  ·intro p;rcases aA.vY.1 p with ⟨p,_⟩|⟨y,J,F,rfl⟩
   ·exact p
   ·have:y=g.e:=E.one J I F;subst this;rw[aA.vW] at C;exact U2 (sI.1 C) (fun M=>K (by rw[o,M]))
  ·intro p;exact aA.vY.2 (.inl ⟨p,D name e p C⟩)
 ·obtain⟨y,J,N,M,e3,_⟩:=TW hx;obtain⟨j,hj,q1,q2⟩:=h.tb y J;exact⟨j,hj,by rw[e3];exact q1,by rw[M];exact q2⟩
theorem Bk{g:UV EG}(j:(g.map (·.e.id)).Nodup)(id x:UZ)(h:x≠id):iX (eS id g) x=iX g x:=by unfold iX;rw[GC j,U0 h]
theorem Of.goes(h:Of s r)(N:s.ts.Pairwise fun t u=>bW t.1 u.1=U5)(q:dB s.es)(I:(r.eg.map (·.e.id)).Nodup){g:EG}(P:g∈r.eg)(O:g.e.kind≠3)(J:i<r.tg.length)(j:r.tg[i].name=g.e.aT):
  Of { s with es:=kept g.e.id s.es } ({ r with eg:=eS g.e.id r.eg }.cW i (r.tg[i].with (bZ r.tg[i].A g.e.aL (-g.e.aH)) (jx g.e.id r.tg[i].T g.e.aL))):=by
 obtain⟨L,K⟩:=h.th i J;have D:=h.mem P;have E:cA r.tg[i].name g.e=U6:=by simp[cA,j,aA.qV,O]
 refine h.turn N J (by rw[GD,h.es]) ?_ (Rw K q D (fun e _ p=>Bk I _ _ p)) (fun name T p=>⟨?_,fun S=>?_⟩) (fun x M=>h.tb x (Xq.1 M).1)
 ·rw[L];exact aA.B6 E q D
 ·refine aA.Cz (fun e o H=>?_);have:e=g.e:=q.one o D H;subst this;have:bW g.e.aT name=U5:=pQ.2 (fun F=>p (by rw[j,F]));simp[cA,this]
 ·have z:∀ e∈s.es,cA name e=U6->e.id≠g.e.id:=fun e o C H=>by
   have:e=g.e:=q.one o D H;subst this;have:bW g.e.aT name=U5:=pQ.2 (fun F=>p (by rw[j,F]));simp[cA,this] at C
  exact vO S (fun e C=>⟨fun o=>(aA.sH.1 o).1,fun o=>aA.sH.2 ⟨o,z e o C⟩⟩) (fun e o C=>Bk I _ _ (z e o C))
theorem Of.uv(h:Of s r)(q:dB s.es)(H:(r.eg.map (·.e.id)).Nodup){g:EG}(J:g∈r.eg)(C:g.e.kind=3):
  Of { s with es:=kept g.e.id s.es } { r with eg:=eS g.e.id r.eg }:=by
 have z:=h.mem J
 have p:∀ (name:UU),∀ e∈s.es,cA name e=U6->e.id≠g.e.id:=fun name e o t u=>by
  have:e=g.e:=q.one o z u;subst this;simp[cA,C] at t
 refine⟨h.now,h.given,h.ts,by rw[<- h.es];exact GD _ _,fun j I=>?_,fun x F=>h.tb x (Xq.1 F).1⟩;obtain⟨E,D⟩:=h.th j I;refine⟨E.trans (aA.Cz (fun e o u=>?_)).symm,vO D (fun e t=>⟨fun o=>(aA.sH.1 o).1,fun o=>aA.sH.2 ⟨o,p _ e o t⟩⟩) (fun e o t=>Bk H _ _ (p _ e o t))⟩;have:e=g.e:=q.one o z u;subst this;simp[cA,C]
theorem tZ{j:UV EG}{g:EG}(h:∀ x∈j,x.e.id≠g.e.id)(x:UZ):iX (j++[g]) x=if x=g.e.id then g.eb else iX j x:=by
 unfold iX;rw[GQ h];split <;> rfl
theorem Of.comes(h:Of s r)(V:s.ts.Pairwise fun t u=>bW t.1 u.1=U5){g:EG}(C:∀ x∈r.eg,x.e.id≠g.e.id)(W:g.e.kind≠3)(U:gJ g.e.aL)(N:i<r.tg.length)(o:r.tg[i].name=g.e.aT)(K:g.tb=r.tg[i].tb)(n:UZ):
  Of { s with es:=s.es++[g.e],given:=n } ({ r with eg:=r.eg++[g],given:=n }.cW i (r.tg[i].with (bZ r.tg[i].A g.e.aL g.e.aH) (gn g.e.id g.eb r.tg[i].T g.e.aL)))/\(∀ z∈aE.bS r.tg[i].T,z.n=g.e.id->∀ s∈g.e.aL,z.f≠s.1):=by
 obtain⟨S,P⟩:=h.th i N;have I:cA r.tg[i].name g.e=U6:=by simp[cA,o,aA.qV,W]
 have p:∀ e∈s.es,e.id≠g.e.id:=fun e j=>by obtain⟨x,D,rfl⟩:=h.get j;exact C x D
 have O:=Hb (id:=g.e.id) (eb:=g.eb) (L:=g.e.aL) (es':=s.es++[g.e]) (at':=iX (r.eg++[g])) P U (fun e j _=>p e j) (fun z=>by
  constructor
  ·rintro ⟨e,j,F,q,E,rfl⟩;rcases Vr.1 j with j|j
   ·exact .inl ⟨e,j,F,q,E,by rw[tZ C,U0 (p e j)]⟩
   ·have:e=g.e:=by simpa using j
    subst this;exact .inr ⟨q,E,by unfold jG;rw[tZ C,U1 rfl]⟩
  ·rintro (⟨e,j,F,q,E,rfl⟩|⟨q,E,rfl⟩)
   ·exact⟨e,by simp[j],F,q,E,by rw[tZ C,U0 (p e j)]⟩
   ·exact⟨g.e,by simp,I,q,E,by unfold jG;rw[tZ C,U1 rfl]⟩)
 have J:Of { s with es:=s.es++[g.e] } ({ r with eg:=r.eg++[g] }.cW i (r.tg[i].with (bZ r.tg[i].A g.e.aL g.e.aH) (gn g.e.id g.eb r.tg[i].T g.e.aL))):=by
  refine h.turn V N (by rw[We,h.es];rfl) ?_ O.1 (fun name T M=>?_) (fun x D=>?_)
  ·rw[S];exact aA.Q8 I
  ·have Y:bW g.e.aT name=U5:=pQ.2 (fun e2=>M (by rw[o,e2]));have H:cA name g.e=U5:=by simp[cA,Y]
   refine⟨aA.Jg H,fun hT=>vO hT (fun e F=>?_) (fun e j _=>by rw[tZ C,U0 (p e j)])⟩;rw[Vr];constructor
   ·rintro (j|j)
    ·exact j
    ·have:e=g.e:=by simpa using j
     subst this;rw[H] at F;cases F
   ·exact .inl
  ·rcases Vr.1 D with D|D
   ·exact h.tb x D
   ·have:x=g:=by simpa using D
    subst this;exact⟨i,N,o,K⟩
 exact⟨⟨J.now,rfl,J.ts,J.es,J.th,J.tb⟩,O.2⟩
theorem Of.ln(h:Of s r){g:EG}(z:∀ x∈r.eg,x.e.id≠g.e.id)(H:g.e.kind=3)(J:i<r.tg.length)(p:r.tg[i].name=g.e.aT)(C:g.tb=r.tg[i].tb)(n:UZ):
  Of { s with es:=s.es++[g.e],given:=n } { r with eg:=r.eg++[g],given:=n }:=by
 have u:∀ e∈s.es,e.id≠g.e.id:=fun e q=>by obtain⟨x,o,rfl⟩:=h.get q;exact z x o
 refine⟨h.now,rfl,h.ts,by show (r.eg++[g]).map _=_;rw[We,h.es];rfl,fun j I=>?_,fun x o=>?_⟩
 ·obtain⟨F,E⟩:=h.th j I;have t:∀ name,cA name g.e=U5:=fun name=>by simp[cA,H]
  refine⟨F.trans (aA.Jg (t _)).symm,vO E (fun e D=>?_) (fun e q _=>by show iX (r.eg++[g]) e.id=_;rw[tZ z,U0 (u e q)])⟩;show e∈s.es++[g.e]↔_;rw[Vr];constructor
  ·rintro (q|q)
   ·exact q
   ·have:e=g.e:=by simpa using q
    subst this;rw[t] at D;cases D
  ·exact .inl
 ·rcases Vr.1 o with o|o
  ·exact h.tb x o
  ·have:x=g:=by simpa using o
   subst this;exact⟨i,J,p,C⟩
theorem QP{eg:UV EG}(j:(eg.map (·.e.id)).Nodup){g:EG}(t:g∈eg)(z:g.e.kind≠1):(eg.filter fun x=>x.e.kind != 1).Perm (g :: (fW g.e.id 1 0 eg).filter fun x=>x.e.kind != 1):=by
 induction eg with
 |nil=>simp at t
 |cons y eg ih =>
  rw[XD,Vt] at j;rcases Vq.1 t with rfl|h
  ·have C:fW g.e.id 1 0 eg=eg:=by
    unfold fW
    have:eg.map (fun x=>if x.e.id=g.e.id then { x with e:={ x.e with kind:=1,bY:=0 } } else x)=eg.map id:=by
     apply XG;intro x u;rw[U0 (fun e=>j.1 (V9.2 ⟨x,u,e⟩))];rfl
    rw[this,Yh]
   have q:fW g.e.id 1 0 (g :: eg)={ g with e:={ g.e with kind:=1,bY:=0 } } :: eg:=by
    conv=>lhs;unfold fW;rw[XD,U1 rfl]
    conv=>rhs;rw[<- C]
    rfl
   rw[q,VG,U1 (by simpa using z),VG,U0 UJ]
  ·have p:y.e.id≠g.e.id:=fun e=>j.1 (V9.2 ⟨g,h,e.symm⟩)
   have q:fW g.e.id 1 0 (y :: eg)=y :: fW g.e.id 1 0 eg:=by
    conv=>lhs;unfold fW;rw[XD,U0 p]
    rfl
   rw[q];have ih:=ih j.2 h
   by_cases o:(y.e.kind != 1)=U6
   ·rw[VG,U1 o,VG,U1 o];exact (ih.cons y).trans (.swap ..)
   ·rw[VG,U0 o,VG,U0 o];exact ih
theorem QQ{eg:UV EG}(j:(eg.map (·.e.id)).Nodup){g:EG}(u:g∈eg)(p:EG->UX)(C:p g=U6):(eg.filter p).Perm (g :: (eS g.e.id eg).filter p):=by
 induction eg with
 |nil=>simp at u
 |cons y eg ih =>
  rw[XD,Vt] at j;rcases Vq.1 u with rfl|h
  ·have t:eS g.e.id (g :: eg)=eg:=by
    unfold eS;rw[VG,U0 UJ];exact List.filter_eq_self.2 (fun x z=>by simpa using fun e=>j.1 (V9.2 ⟨x,z,e⟩))
   rw[t,VG,U1 C]
  ·have q:y.e.id≠g.e.id:=fun e=>j.1 (V9.2 ⟨g,h,e.symm⟩)
   have t:eS g.e.id (y :: eg)=y :: eS g.e.id eg:=by unfold eS;rw[VG,U1 (by simpa using q)]
   rw[t];have ih:=ih j.2 h
   by_cases o:p y=U6
   ·rw[VG,U1 o,VG,U1 o];exact (ih.cons y).trans (.swap ..)
   ·rw[VG,U0 o,VG,U0 o];exact ih
theorem I4{h:UV EG}(q:(h.map (·.e.id)).Nodup){g:EG}(t:g∈h)(p:EG->UX)(o:p g=U5):(eS g.e.id h).filter p=h.filter p:=by
 unfold eS;rw[Yi];apply Yj;intro x j
 by_cases e:x.e.id=g.e.id
 ·have:x=g:=oJ _ q j t e;subst this;simp[o]
 ·have:(x.e.id != g.e.id)=U6:=by simpa using e
  simp[this]
theorem Hl.at(h:Hl r){x:Hp.Hi}(o:x∈r.hl):∃ g∈r.eg,g.e.kind≠1/\x=kM g:=by
 have:=h.2.mem_iff.1 o;obtain⟨g,j,rfl⟩:=V9.1 this;exact⟨g,(Xq.1 j).1,by simpa using (Xq.1 j).2,rfl⟩
theorem Hl.has(h:Hl r){g:EG}(o:g∈r.eg)(j:g.e.kind≠1):kM g∈r.hl:=h.2.mem_iff.2 (V9.2 ⟨g,Xq.2 ⟨o,by simpa using j⟩,rfl⟩)
theorem Hl.len(h:Hl r):r.hl.length<=r.eg.length:=by
 rw[h.2.length_eq,Wu];exact Wx _ _
theorem Hl.one(h:Hl r)(t:(r.eg.map (·.e.id)).Nodup){g:EG}(u:g∈r.eg){x:Hp.Hi}{j:UV Hp.Hi}(p:x.n=g.e.id)(q:r.hl.Perm (x :: j)):x=kM g:=by
 obtain⟨y,o,_,e⟩:=h.at (x:=x) (q.mem_iff.2 UJ);subst e;have:y=g:=oJ _ t o u p;rw[this]
theorem Hl.book(h:Hl r)(p:(r.eg.map (·.e.id)).Nodup){g:EG}(q:g∈r.eg)(u:g.e.kind≠1){x:Hp.Hi}{j:UV Hp.Hi}(t:x.n=g.e.id)(z:Hp.gH j)(o:r.hl.Perm (x :: j)):Hl { r with eg:=fW g.e.id 1 0 r.eg,hl:=j }:=by
 have e:=h.one p q t o;subst e;refine⟨z,Yk (a:=kM g) ?_⟩;exact o.symm.trans (h.2.trans ((QP p q u).map kM))
theorem Hl.goes(h:Hl r)(p:(r.eg.map (·.e.id)).Nodup){g:EG}(q:g∈r.eg)(u:g.e.kind≠1){x:Hp.Hi}{j:UV Hp.Hi}(t:x.n=g.e.id)(z:Hp.gH j)(o:r.hl.Perm (x :: j)):Hl { r with eg:=eS g.e.id r.eg,hl:=j }:=by
 have e:=h.one p q t o;subst e;refine⟨z,Yk (a:=kM g) ?_⟩;exact o.symm.trans (h.2.trans ((QQ p q (fun g=>g.e.kind != 1) (by simpa using u)).map kM))
theorem Hl.nt(h:Hl r)(j:(r.eg.map (·.e.id)).Nodup){g:EG}(p:g∈r.eg)(o:g.e.kind=1):Hl { r with eg:=eS g.e.id r.eg }:=by
 refine⟨h.1,?_⟩;show r.hl.Perm (((eS g.e.id r.eg).filter fun g=>g.e.kind != 1).map kM);rw[I4 j p _ (by simp[o])];exact h.2
theorem Hl.comes(h:Hl r){g:EG}(p:g.e.kind≠1){j:UV Hp.Hi}(q:Hp.gH j)(o:j.Perm (r.hl++[kM g])):Hl { r with eg:=r.eg++[g],hl:=j }:=by
 refine⟨q,o.trans ?_⟩;show (r.hl++[kM g]).Perm (((r.eg++[g]).filter fun g=>g.e.kind != 1).map kM);rw[VF,We];have:[g].filter (fun g=>g.e.kind != 1)=[g]:=by simp[p]
 rw[this];exact h.2.append_right _
theorem Hl.rZ(h:Hl r){g:EG}(j:g.e.kind=1):Hl { r with eg:=r.eg++[g] }:=by
 refine⟨h.1,?_⟩;show r.hl.Perm (((r.eg++[g]).filter fun g=>g.e.kind != 1).map kM);rw[VF];have:[g].filter (fun g=>g.e.kind != 1)=[]:=by simp[j]
 rw[this,XT];exact h.2
theorem Wl.goes(h:Wl r)(q:(r.eg.map (·.e.id)).Nodup)(t:(r.eg.map (·.eb)).Nodup){g:EG}(p:g∈r.eg):(r.wl.filter fun b=>!(b==g.eb))=((eS g.e.id r.eg).filter fun g=>g.e.kind==3).map (·.eb):=by
 rw[h,Yg];unfold eS;rw[Yi,Yi]
 congr 1
 apply Yj;intro x o
 have:(x.eb==g.eb)=(x.e.id==g.e.id):=by
  by_cases e:x=g
  ·subst e;simp
  ·have z:x.eb≠g.eb:=fun j=>e (oJ _ t o p j)
   have u:x.e.id≠g.e.id:=fun j=>e (oJ _ q o p j)
   rw[beq_eq_false_iff_ne.2 z,beq_eq_false_iff_ne.2 u]
 simp only[X4,this];rw[Bool.and_comm];rfl
theorem Wl.nt(h:Wl r)(j:(r.eg.map (·.e.id)).Nodup){g:EG}(p:g∈r.eg)(o:g.e.kind≠3):Wl { r with eg:=eS g.e.id r.eg }:=by
 unfold Wl at *;show r.wl=((eS g.e.id r.eg).filter fun g=>g.e.kind==3).map (·.eb);rw[I4 j p _ (by simpa using o)];exact h
theorem Wl.comes(h:Wl r){g:EG}(j:g.e.kind≠3):Wl { r with eg:=r.eg++[g] }:=by
 unfold Wl at *;show r.wl=((r.eg++[g]).filter fun g=>g.e.kind==3).map (·.eb);rw[VF];have:[g].filter (fun g=>g.e.kind==3)=[]:=by simp[j]
 rw[this,XT];exact h
theorem Wl.ln(h:Wl r){g:EG}(j:g.e.kind=3):Wl { r with eg:=r.eg++[g],wl:=r.wl++[g.eb] }:=by
 unfold Wl at *;show r.wl++[g.eb]=((r.eg++[g]).filter fun g=>g.e.kind==3).map (·.eb);rw[VF,We];have:[g].filter (fun g=>g.e.kind==3)=[g]:=by simp[j]
 rw[this,h];rfl
namespace aA
def lr(ts:UV (UU × UZ))(p:UV aM × UV UZ)(e:aM):UV aM × UV UZ :=
 if dG ts p.1 e.aT e.aH e.aL=U6 then (dZ e.id p.1,p.2++[e.id]) else p
def fe(e:aM):UX:=e.kind==3
theorem SI{d r:UV aM}(h:dB (d++e :: r)):dZ e.id (d++e :: r)=d++cS e :: r:=by
 unfold dB at h;rw[We,XD,List.pairwise_append,VE] at h;obtain⟨_,⟨o,_⟩,j⟩:=h;unfold dZ;rw[We,XD,U1 rfl]
 have q:d.map (fun x=>if x.id=e.id then cS x else x)=d:=by
  rw[show d=d.map id from (Yh d).symm,XF];apply XG;intro x g;have:=j x.id (V9.2 ⟨x,g,rfl⟩) e.id UJ;simp only[X4,id];rw[U0 UI]
 have p:r.map (fun x=>if x.id=e.id then cS x else x)=r:=by
  rw[show r=r.map id from (Yh r).symm,XF];apply XG;intro x g;have:=o x.id (V9.2 ⟨x,g,rfl⟩);simp only[X4,id];rw[U0 UI]
 rw[q,p]
theorem yx(ts:UV (UU × UZ)):∀ (r d:UV aM)(acc:UV UZ),dB (d++r)->(r.filter fe).foldl (lr ts) (d++r,acc)=((dQ ts d r).1,acc++(dQ ts d r).2)
 |[],d,acc,_=>by simp[dQ]
 |e :: r,d,acc,h=>by
  have u:dB ((d++[e])++r):=by simpa using h
  by_cases j:e.kind=3
  ·have p:fe e=U6:=by simp[fe,j]
   rw[VG,U1 p,Xz]
   by_cases o:dG ts (d++e :: r) e.aT e.aH e.aL=U6
   ·have t:=SI h
    have x:dB ((d++[cS e])++r):=by
     have:=T9 (id:=e.id) h;rw[t] at this
     simpa using this
    have q:lr ts (d++e :: r,acc) e=((d++[cS e])++r,acc++[e.id]):=by
     unfold lr;simp only;rw[U1 o,t];simp
    rw[q,yx ts r _ _ x]
    have g:dQ ts d (e :: r)=((dQ ts (d++[cS e]) r).1,e.id :: (dQ ts (d++[cS e]) r).2):=by
     rw[dQ,U1 ⟨j,o⟩]
    rw[g];simp
   ·have q:lr ts (d++e :: r,acc) e=((d++[e])++r,acc):=by
     unfold lr;simp only;rw[U0 o];simp
    rw[q,yx ts r _ _ u]
    have g:dQ ts d (e :: r)=dQ ts (d++[e]) r:=by
     rw[dQ,U0 (fun h=>o h.2)]
    rw[g]
  ·have p:¬ (fe e=U6):=by simp[fe,j]
   rw[VG,U0 p]
   have g:dQ ts d (e :: r)=dQ ts (d++[e]) r:=by
    rw[dQ,U0 (fun h=>j h.1)]
   rw[g,<- yx ts r _ _ u];simp
theorem Jp(ts:UV (UU × UZ))(es:UV aM)(h:dB es):eA ts es=(es.filter fe).foldl (lr ts) (es,[]):=by
 have:=yx ts es [] [] (by simpa using h);simp only[List.nil_append] at this;rw[this];rfl
end aA
theorem Step.cU{S:bB->Prop}(h:Step S B aJ col' w w'){b:UY}(j:aJ b=U3)(o:b<B):col' b=U3:=by
 cases e:col' b with
 |none=>rfl
 |some c =>
  rcases h.new b c e with g|g
  ·rw[j] at g;cases g
  ·omega
theorem Step.own{S:bB->Prop}{g e size:UY}(h:Step S B aJ col' w w')(o:w.ownsRow g e size v n xs)(j:∀ b,v.ownBlock=U4 b->aJ b=U3/\b<B):w'.ownsRow g e size v n xs:=by
 obtain⟨G,t,q⟩:=h.left;exact dO o t (fun b p=>q b (.inr (j b p)))
theorem DK.none(h:DK w d r aJ){b:UY}(g:w.heap.size<=b):aJ b=U3:=by
 cases e:aJ b with
 |none=>rfl
 |some c=>have:=h.lt _ _ e;omega
structure eE(w:U7)(B:UY)(aJ:UY->UW bB)(v:U8)(l:UV UZ):Prop where
 own:w.ownsRow B 3 1 v l.length (l.map (VT .i64))
 no:∀ b,v.ownBlock=U4 b->aJ b=U3
theorem eE.nil(w:U7)(B:UY)(aJ:UY->UW bB):eE w B aJ (.slice U3 0 0) []:=⟨Yl _ _ _ _,fun b g=>by cases g⟩
theorem eE.step{S:bB->Prop}(h:eE w B0 aJ v l)(st:Step S B aJ col' w w')(o:w.heap.size<=B):eE w' B0 col' v l:=by
 have j:∀ b,v.ownBlock=U4 b->aJ b=U3/\b<B:=fun b g=>⟨h.no b g,Nat.lt_of_lt_of_le (h.own.lt b g).2 o⟩
 exact⟨st.own h.own j,fun b g=>st.cU (j b g).1 (j b g).2⟩
theorem eE.later(h:eE w B0 aJ v l)(k:U9 w.heap.size w w'):eE w' B0 aJ v l:=⟨ey h.own k,h.no⟩
theorem eE.slice(h:eE w B aJ v l):∃ a cap,v=.slice a l.length cap:=by
 rcases h.own.2 with ⟨rfl,j⟩|⟨g,cap,_,rfl,_⟩
 ·rw[j];exact⟨_,_,rfl⟩
 ·exact⟨_,_,rfl⟩
def anyS(_:bB):Prop:=True
theorem Step.any{S:bB->Prop}(h:Step S B aJ col' w w')(g:B'<=B):Step anyS B' aJ col' w w':=h.mono (fun _ _=>trivial) g
open aA (aM St dB kept dZ cS cN gC cA bW gJ ec gD)
theorem BB:∀ (l:UV UZ)(a b:UZ),l.Pairwise (· < ·)->(∀ x∈l,a<=x/\x<=b)->(l.length:UZ)<=max 0 (b-a+1)
 |[],a,b,_,_=>by simp;omega
 |x :: l,a,b,h,hb=>by
  rw[VE] at h;have j:=hb x UJ;have ih:=BB l (x+1) b h.2 (fun y g=>⟨by have:=h.1 y g;omega,(hb y (by simp[g])).2⟩);simp only[VV];omega
theorem lY(h:ec s):s.es.length<=60:=by
 have j:(s.es.map fun e:aM=>e.id).Pairwise (· < ·):=h.ids
 have:=BB _ 1 60 j (fun x g=>by
  obtain⟨e,o,rfl⟩:=V9.1 g;have q:=h.mM e o;have p:=h.g1
  omega)
 rw[Wu] at this;omega
theorem H6{α:Type}:∀ (l m:UV α),l.Nodup->(∀ x∈l,x∈m)->l.length<=m.length
 |[],m,_,_=>by simp
 |a :: l,m,h,hs=>by
  rw[Vt] at h;obtain⟨p,o,rfl⟩:=List.append_of_mem (hs a UJ)
  have:=H6 l (p++o) h.2 (fun x g=>by
   have j:=hs x (by simp[g]);simp only[Vr,Vq] at j ⊢;rcases j with e|e|e
   ·exact .inl e
   ·subst e;exact U2 g h.1
   ·exact .inr e)
  simp only[VU,VV] at this ⊢;omega
theorem Ib(at_:UZ->UY):∀ (es:UV aM),(∀ e∈es,e.aL.length<=40)->(es.flatMap fun e=>e.aL.map fun s=>(⟨s.1,s.2,e.id,at_ e.id⟩:aE.It)).length<=40*es.length
 |[],_=>by simp
 |e :: es,h=>by
  have ih:=Ib at_ es (fun x g=>h x (by simp[g]));have:=h e UJ;simp only[List.flatMap_cons,VU,Wu,VV];omega
theorem Ri{l:UV aE.It}(h:aE.Ord l):l.Nodup:=by
 rw[List.nodup_iff_pairwise_ne];refine XU ?_ h;intro a b g e;subst e;unfold aE.lt at g;omega
theorem Rx{es:UV aM}{at_:UZ->UY}{T:aE.S}(h:gC name es at_ T)(q:es.length<=60)(g:∀ e∈es,e.aL.length<=40):aE.size T<=9000:=by
 have p:=H6 _ (es.flatMap fun e=>e.aL.map fun s=>(⟨s.1,s.2,e.id,at_ e.id⟩:aE.It)) (Ri h.1) (fun z j=>by
  obtain⟨e,o,_,s,g,rfl⟩:=(h.2 z).1 j
  exact List.mem_flatMap.2 ⟨e,o,V9.2 ⟨s,g,rfl⟩⟩)
 have t:=Ib at_ es g;rw[aE.mJ] at p;omega
theorem A9(h:ec s)(q:Of s r){j:UZ}(g:gD j e)(t:i<r.tg.length):Fit r.tg[i] e:=by
 obtain⟨o,u⟩:=q.th i t;refine⟨g.sp,fun p=>?_,g.u1,g.u9,by have:=g.sl;omega⟩;have:=aA.tQ r.tg[i].name p s.es h.small;have:=lY h;rw[o];omega
theorem Cp(h:ec s):aA.vv s.es:=fun e j q g=>((h.en e j).sp q g).2.1
theorem Hj(h:ec s)(j:Of s r)(g:ot e.aL)(t:1<=e.aH)(o:i<r.tg.length)(q:r.tg[i].name=e.aT):
  ky (bZ r.tg[i].A e.aL e.aH) r.tg[i].aH e.aL=aA.dG s.ts s.es e.aT e.aH e.aL:=by
 have p:=B7 h.tn (i:=i) (by rw[<- j.len];exact o);rw[j.jS o] at p;rw[(j.th i o).1,q] at *;exact aA.Rr h.small (Cp h) g UI p
theorem Bv(h:ec s)(j:Of s r)(o:i<r.tg.length):aE.Ord (aE.bS r.tg[i].T)/\aE.size r.tg[i].T<=9000:=by
 obtain⟨_,g⟩:=j.th i o;exact⟨g.1,Rx g (lY h) (fun e p=>(h.en e p).sl)⟩
theorem Qb(h:ec s)(j:Of s r){g:EG}(u:g∈r.eg)(q:g.e.kind≠3)(t:i<r.tg.length)(o:r.tg[i].name=g.e.aT):∀ p,0<=bZ r.tg[i].A g.e.aL (-g.e.aH) p:=by
 intro p;have z:cA r.tg[i].name g.e=U6:=by simp[cA,o,aA.qV,q]
 rw[(j.th i t).1,aA.B6 z h.ids (j.mem u)];exact (aA.tQ _ p _ (fun e x=>h.small e (aA.sH.1 x).1)).1
open aA (aM St dB kept dZ cS cN gC cA bW gJ ec gD lr)
noncomputable def mV(Gr:UV UZ)(g:EG):EG:=@ite _ (g.e.id∈Gr) (Classical.propDecidable _) { g with e:=cS g.e } g
theorem ss{g:EG}(h:g.e.id∈Gr):mV Gr g={ g with e:=cS g.e }:=U1 h
theorem qP{g:EG}(h:g.e.id ∉ Gr):mV Gr g=g:=U0 h
noncomputable def mW(Gr:UV UZ)(g:UV EG):UV EG:=g.map (mV Gr)
theorem Qo(eg:UV EG):mW [] eg=eg:=by
 unfold mW
 conv=>rhs;rw[<- Yh eg]
 apply XG;intro g _;rw[qP UJ];rfl
theorem RY(Gr:UV UZ)(id:UZ)(eg:UV EG):fW id 1 0 (mW Gr eg)=mW (Gr++[id]) eg:=by
 unfold fW mW;rw[XF];apply XG;intro g _;simp only[X4]
 by_cases j:g.e.id∈Gr
 ·rw[ss j,ss (Ym _ j)]
  split <;> rfl
 ·rw[qP j]
  by_cases h:g.e.id=id
  ·rw[U1 h,ss (Yn _ (by rw[h];exact Yo.2 rfl))];rfl
  ·rw[U0 h,qP (fun o=>by rcases Vr.1 o with e|e;exact j e;exact h (Yo.1 e))]
theorem Qn{eg:UV EG}{g:EG}(j:g∈eg)(h:g.e.id ∉ Gr):g∈mW Gr eg:=by
 unfold mW;exact V9.2 ⟨g,j,qP h⟩
theorem Ps(Gr:UV UZ)(eg:UV EG)(p:UY->UX)(t:∀ g∈eg,g.e.kind=3->(p g.eb=U6↔g.e.id∈Gr)):(((eg.filter fun g=>g.e.kind==3).map (·.eb)).filter fun b=>!p b)=((mW Gr eg).filter fun g=>g.e.kind==3).map (·.eb):=by
 induction eg with
 |nil=>rfl
 |cons g eg ih =>
  have ih:=ih (fun x z=>t x (List.mem_cons_of_mem _ z));have C:mW Gr (g :: eg)=mV Gr g :: mW Gr eg:=rfl;rw[C]
  by_cases q:g.e.kind=3
  ·have j:(g.e.kind==3)=U6:=by rw[q];rfl
   rw[VG,U1 j,XD,VG]
   by_cases o:g.e.id∈Gr
   ·have u:p g.eb=U6:=(t g Yp q).2 o;rw[U0 (by rw[u];simp),ss o,VG,U0 (by simp[cS])];exact ih
   ·have u:p g.eb=U5:=by
     cases h:p g.eb
     ·rfl
     ·exact U2 ((t g Yp q).1 h) o
    rw[U1 (by rw[u];rfl),qP o,VG,U1 j,XD,ih]
  ·have j:¬ ((g.e.kind==3)=U6):=by simpa using q
   rw[VG,U0 j,VG]
   by_cases o:g.e.id∈Gr
   ·rw[ss o,U0 (by simp[cS])];exact ih
   ·rw[qP o,U0 j];exact ih
def fk(s:St)(k:UY):UV aM × UV UZ:=((s.es.filter aA.fe).take k).foldl (lr s.ts) (s.es,[])
theorem Gz(s:St):fk s 0=(s.es,[]):=rfl
theorem Gy(s:St)(g:k<(s.es.filter aA.fe).length):fk s (k+1)=lr s.ts (fk s k) (s.es.filter aA.fe)[k]:=by
 unfold fk;rw[V5 g,List.foldl_append];rfl
theorem Ov(s:St)(h:dB s.es)(g:(s.es.filter aA.fe).length<=k):fk s k=aA.eA s.ts s.es:=by
 unfold fk;rw[List.take_of_length_le g,aA.Jp s.ts s.es h]
structure GX(w wx:U7)(d:UY)(s:St)(r:Raw)(aJ:UY->UW bB)(v4:U8)(k:UY)(v:U8)(rk:Raw)(ck:UY->UW bB):Prop where
 dk:DK wx d rk ck
 of:Of { s with es:=(fk s k).1 } rk
 hl:Hl rk
 wl:rk.wl=r.wl
 eg:rk.eg=mW (fk s k).2 r.eg
 st:Step anyS w.heap.size aJ ck w wx
 nr:eE wx w.heap.size ck v (fk s k).2
 aS:ec { s with es:=(fk s k).1 }
 gm:∀ x∈(fk s k).2,∃ e∈(s.es.filter aA.fe).take k,e.id=x
 row:wx.ownsRow 0 197 1 v4 r.wl.length (r.wl.map jw)
 rc:∀ b,v4.ownBlock=U4 b->ck b=U4 .wa
def GI(w wx:U7)(d:UY)(s:St)(r:Raw)(aJ:UY->UW bB)(v4:U8)(k:UY)(v:U8):Prop:=∃ rk ck,GX w wx d s r aJ v4 k v rk ck
def Ct(w:U7)(d:UY)(s:St)(aJ:UY->UW bB)(v:U8)(w':U7):Prop :=
 ∃ (g:Raw) (col':UY->UW bB),DK w' d g col'/\Of { s with es:=(aA.eA s.ts s.es).1 } g/\Wl g/\Hl g/\Step anyS w.heap.size aJ col' w w'/\eE w' w.heap.size col' v (aA.eA s.ts s.es).2
theorem GX.next(h:GX w wx d s r aJ v4 k v rk ck)(I:Of s r)(z:Wl r)(x:dB s.es)(C:k<r.wl.length):
  ∃ (g:EG) (o:k<(s.es.filter aA.fe).length),g∈r.eg/\g∈rk.eg/\g.eb=r.wl[k]/\g.e=(s.es.filter aA.fe)[k]/\g.e.kind=3/\g.e.id ∉ (fk s k).2:=by
 have E:s.es.filter aA.fe=(r.eg.filter fun g=>g.e.kind==3).map (·.e):=by
  rw[<- I.es,Yg];rfl
 have u:k<(r.eg.filter fun g=>g.e.kind==3).length:=by
  have:=C;rw[z,Wu] at this;exact this
 have o:k<(s.es.filter aA.fe).length:=by rw[E,Wu];exact u
 have q:((r.eg.filter fun g=>g.e.kind==3)[k]).e=(s.es.filter aA.fe)[k]:=by simp only[E,List.getElem_map]
 have t:=Xq.1 (zg u)
 have p:((r.eg.filter fun g=>g.e.kind==3)[k]).e.id ∉ (fk s k).2:=by
  intro F;obtain⟨e,K,L⟩:=h.gm _ F;obtain⟨j,J,rfl⟩:=XN K;rw[Yb] at J;rw[List.getElem_take,q] at L
  have H:(s.es.filter aA.fe).Pairwise fun a b=>a.id<b.id:=by
   have:=aA.ye aA.fe x;unfold dB at this;rw[List.pairwise_map] at this;exact this
  have:=List.pairwise_iff_getElem.1 H j k UI o UI;omega
 refine⟨_,o,t.1,?_,?_,q,by simpa using t.2,p⟩
 ·rw[h.eg];exact Qn t.1 p
 ·have D:r.wl[k]?=U4 ((r.eg.filter fun g=>g.e.kind==3)[k]).eb:=by rw[z,Yd,WS u];rfl
  rw[WS C] at D;exact (WJ D).symm
theorem GX.no(h:GX w wx d s r aJ v4 k v rk ck)(g:k<(s.es.filter aA.fe).length)(q:DK w1 d rk c1)(j:Step (·=.aT i) wx.heap.size ck c1 wx w1)(u:aA.dG s.ts (fk s k).1 (s.es.filter aA.fe)[k].aT (s.es.filter aA.fe)[k].aH (s.es.filter aA.fe)[k].aL=U5):
  GX w w1 d s r aJ v4 (k+1) v rk c1:=by
 have e:fk s (k+1)=fk s k:=by
  rw[Gy s g];unfold lr;rw[U0 (by rw[u];simp)]
 obtain⟨G,D,C⟩:=j.left;refine⟨q,by rw[e];exact h.of,h.hl,h.wl,by rw[e];exact h.eg,h.st.trans (j.any h.st.size),by rw[e];exact h.nr.step j (zq _),by rw[e];exact h.aS,fun x p=>?_,dO h.row D (fun b o=>C b (.inl ⟨_,h.rc b o,by simp⟩)),fun b o=>j.gk _ _ (h.rc b o)⟩;rw[e] at p;obtain⟨y,t,z⟩:=h.gm x p;rw[V5 g];exact⟨y,Ym _ t,z⟩
theorem Qc(h:ec s)(p:e∈s.es)(j:e.kind=3)(o:aA.dG s.ts s.es e.aT e.aH e.aL=U6):ec { s with es:=dZ e.id s.es }:=by
 obtain⟨l,r,g,t,_⟩:=aA.Ur h.ids p rfl;have q:ec ⟨s.ts,l++e :: r,s.given,s.now⟩:=by rw[<- g];exact h
 have:=q.pZ j (by rw[<- g];exact o);rw[t];exact this
theorem GX.yes{w3:U7}{v':U8}(h:GX w wx d s r aJ v4 k v rk ck)(I:k<(s.es.filter aA.fe).length){g:EG}(L:g∈rk.eg)(E:g.e=(s.es.filter aA.fe)[k])(H:g.e.kind=3)(hi:i<rk.tg.length)(D:rk.tg[i].name=g.e.aT)
  (J:Step (·=.aT i) wx.heap.size ck c1 wx w1) (sp:Cc w1 d (rk.cW i (rk.tg[i].with (bZ rk.tg[i].A g.e.aL g.e.aH) (gn g.e.id g.eb rk.tg[i].T g.e.aL))) c1 g w2) (W:aA.dG s.ts (fk s k).1 g.e.aT g.e.aH g.e.aL=U6)
  (O:aF v.ownBlock.toList w2 w3) (N:∀ c2,(∀ b,v.ownBlock=U4 b->c2 b=U3)->(∀ b,w2.heap.size<=b->c2 b=U3)->eE w3 w.heap.size c2 v' ((fk s k).2++[g.e.id])):
  GI w w3 d s r aJ v4 (k+1) v':=by
 obtain⟨x,l',c2,e1,e2,p1,p2,U,K⟩:=sp;have P:aA.dG s.ts (fk s k).1 (s.es.filter aA.fe)[k].aT (s.es.filter aA.fe)[k].aH (s.es.filter aA.fe)[k].aL=U6:=by rw[<- E];exact W
 have e:fk s (k+1)=(dZ g.e.id (fk s k).1,(fk s k).2++[g.e.id]):=by
  rw[Gy s I];unfold lr;rw[U1 P,E]
 have V:=h.dk.ni;have F:=(h.of.book h.aS.tn h.aS.ids V L H ((h.aS.en _ (h.of.mem L)).ri) hi D).1;have u:=(h.nr.step J (zq _)).step K (zq _);have p:∀ b,v.ownBlock=U4 b->c2 b=U3:=u.no;have hD:DK w3 d _ c2:=U.off O (fun y j=>p y (WI.1 j));have M:Step anyS w.heap.size c2 c2 w2 w3:=⟨⟨_,O,fun y j=>.inr ⟨p y (WI.1 j),(u.own.lt y (WI.1 j)).1⟩⟩,fun _ _ h=>h,fun _ _ h=>.inl h⟩;have S:=h.st.trans (J.any h.st.size);have Y:=S.trans (K.any S.size);obtain⟨G1,a1,a2⟩:=J.left;obtain⟨G2,b1,b2⟩:=K.left;have t:∀ b,v4.ownBlock=U4 b->c1 b=U4 .wa:=fun b o=>J.gk _ _ (h.rc b o)
 have q:∀ b,v4.ownBlock=U4 b->c2 b=U4 .wa:=fun b o=>K.gk _ _ (t b o)
 have C:=dO (dO h.row a1 (fun b o=>a2 b (.inl ⟨_,h.rc b o,by simp⟩))) b1 (fun b o=>b2 b (.inl ⟨_,t b o,by unfold xI;simp⟩));refine⟨_,c2,hD,⟨F.now,F.given,F.ts,by rw[e];exact F.es,by rw[e];exact F.th,F.tb⟩,h.hl.book (r:=rk) V L UI e2 p1 p2,h.wl,?_,Y.trans M,by rw[e];exact N c2 p (fun b o=>U.none o),?_,fun y j=>?_,dO C O (fun b o hx=>?_),q⟩
 ·rw[e];show fW g.e.id 1 0 rk.eg=mW ((fk s k).2++[g.e.id]) r.eg;rw[h.eg,RY]
 ·rw[e];exact Qc h.aS (h.of.mem L) H W
 ·rw[e] at j;rw[V5 I];rcases Vr.1 j with j|j
  ·obtain⟨z,hz,e3⟩:=h.gm y j;exact⟨z,Ym _ hz,e3⟩
  ·have:y=g.e.id:=Yo.1 j;exact⟨_,Yn _ (Yo.2 rfl),by rw[<- E,this]⟩
 ·have:=p b (WI.1 hx);rw[q b o] at this;cases this
theorem Gh{g:EG}(j:g.e.kind=3):((mV Gr g).e.kind==1)=U6↔g.e.id∈Gr:=by
 by_cases h:g.e.id∈Gr
 ·rw[ss h];simp[h,cS]
 ·rw[qP h];simp[h,j]
theorem Oi(Gr:UV UZ)(g:EG):(mV Gr g).eb=g.eb:=by
 by_cases h:g.e.id∈Gr
 ·rw[ss h]
 ·rw[qP h]
def vh(h:UV EG)(Gr:UV UZ)(b:UY):UX:=h.any fun g=>decide (g.eb=b) && Gr.any fun x=>decide (x=g.e.id)
theorem NP(j:UV EG)(Gr:UV UZ)(E:(j.map (·.eb)).Nodup):∀ g∈j,g.e.kind=3->(mV Gr g).eb=g.eb/\((mV Gr g).e.kind==1)=vh j Gr g.eb:=by
 intro g p F;refine⟨Oi Gr g,?_⟩;have z:=Gh (Gr:=Gr) F
 have u:vh j Gr g.eb=U6↔g.e.id∈Gr:=by
  unfold vh;rw[XQ];constructor
  ·rintro ⟨x,D,o⟩;rw[WN,decide_eq_true_iff,XQ] at o;obtain⟨o,y,C,I⟩:=o;have:x=g:=oJ _ E D p o;have H:y=x.e.id:=of_decide_eq_true I;rw[<- this,<- H];exact C
  ·intro h;refine⟨g,p,?_⟩;rw[WN,decide_eq_true_iff,XQ];exact⟨rfl,g.e.id,h,decide_eq_true rfl⟩
 cases t:((mV Gr g).e.kind==1) <;> cases q:vh j Gr g.eb
 ·rfl
 ·exact U2 (z.2 (u.1 q)) (by rw[t];simp)
 ·exact U2 (u.2 (z.1 t)) (by rw[q];simp)
 ·rfl
theorem Cu(ts:UV (UU × UZ)):∀ (l:UV aM)(p:UV aM × UV UZ),(l.foldl (lr ts) p).2.length<=p.2.length+l.length
 |[],p=>by simp
 |e :: l,p=>by
  have ih:=Cu ts l (lr ts p e);have:(lr ts p e).2.length<=p.2.length+1:=by unfold lr;split <;> simp
  simp only[Xz,VV];omega
theorem Ow(s:St)(k:UY):(fk s k).2.length<=k:=by
 have:=Cu s.ts ((s.es.filter aA.fe).take k) (s.es,[]);have g:=List.length_take_le k (s.es.filter aA.fe);unfold fk;simp only[VZ] at this;omega
theorem Tt(h:DK w d r aJ)(ho:Of s r)(hw:Wl r)(hh:Hl r)(hm:ec s):
  Va prog 65 #[.pointer (U4 ⟨d,0,U3⟩)] w fun e w'=>∃ v,e=.returned v/\Ct w d s aJ v w':=by
 obtain⟨i0,az,ax,aw,av⟩:=info_parts pB;obtain⟨v4,c4,C,ak⟩:=h.wa
 have a9:r.wl.length<=60:=by
  rw[hw,Wu];have h1:=Wx (fun g:EG=>g.e.kind==3) r.eg;have h2:=lY hm;have h3:r.eg.length=s.es.length:=by rw[<- ho.es];simp
  omega
 have G0:Hid (GI w w d s r aJ v4 0 (.slice U3 0 0)):=⟨r,aJ,h,ho,hh,rfl,by rw[Gz,Qo],Step.refl _ _ _ _,eE.nil _ _ _,hm,fun x hx=>by rw[Gz] at hx;simp at hx,C,ak⟩;have I:=aC (zA h (zA ho (zA hw (zA hh hm))))
 have hv:∃ a cap,v4=.slice a r.wl.length cap:=by
  rcases C.2 with ⟨rfl,h⟩|⟨g,cap,_,rfl,_⟩
  ·rw[h];exact⟨_,_,rfl⟩
  ·exact⟨_,_,rfl⟩
 obtain⟨a,cap,rfl⟩:=hv;clear h ho hw hh hm C ak
 go_in
 go_wp2_with fail
 go_loopw [3,5,11] (fun vg _ vi wx=>∃ k:UY,k<=r.wl.length/\vi=.int .i64 k/\GI w wx d s r aJ (.slice a r.wl.length cap) k vg) (fun _ _ vi _=>r.wl.length-(intOf vi).toNat)
 case atStart=>exact⟨0,V6 _,rfl,G0.y⟩
 case round =>
  obtain⟨k,hk,rfl,rk,ck,X⟩:=hrel
  by_cases aa:k<r.wl.length
  ·have a6:(k:UZ)<(r.wl.length:UZ):=UI
   obtain⟨g,af,ag,q,E,M,L,ad⟩:=X.next I.y.2.1 I.y.2.2.1 I.y.2.2.2.2.ids aa;obtain⟨Hh,a7,e1⟩:=Joins.ownsRow_form X.row UI;simp only[Value.slice.injEq,true_and] at e1;obtain⟨rfl,rfl⟩:=e1;have a0:=X.row.cellAt k UI;rw[Yd,WS aa,Option.map_some,<- E] at a0;unfold jw at a0;obtain⟨J,F,q3⟩:=X.dk.en g q;have co:=J.en.c1;obtain⟨i,hi,j,K⟩:=X.of.tb g q;have t:=X.aS.en _ (X.of.mem q);have z:=A9 X.aS X.of t hi;have P:=Hj X.aS X.of t.sp t.u1 hi j;have O:=Bv X.aS X.of hi;have H:=aC X;have HG:=aC (zA q (zA M (zA L (zA j F))))
   cases hf:aA.dG s.ts (fk s k).1 g.e.aT g.e.aH g.e.aL
   ·have TK:=aC (Gk X.dk i hi J K (by rw[F];simp) (by rw[q3];simp) z (P.trans hf))
    have FN:Hid (aA.dG s.ts (fk s k).1 (s.es.filter aA.fe)[k].aT (s.es.filter aA.fe)[k].aH (s.es.filter aA.fe)[k].aL=U5):=by
     show _=_;rw[<- M];exact hf
    have HK:=aC af;clear hf P z O t J F q3 X q M L j ad ag E K
    go_wp2_with fail
    refine TK.y.mono ?_;rintro e w1 ⟨rfl,c1,p1,p2⟩;have HN:Hid (GI w w1 d s r aJ (.slice (U4 ⟨Hh,0,U3⟩) r.wl.length cap) (k+1) u3):=⟨rk,c1,H.y.no HK.y p1 p2 FN.y⟩;clear p1 p2 TK H HG a0 co FN
    go_wp2
    go_roundw
    case rel=>exact⟨k+1,by omega,by go_num,HN.y⟩
    case measure=>simp[intOf];omega
   ·have ao:xl rk.tg[i].T g.e.id g.e.aL:=⟨O.1,O.2,(X.of.book X.aS.tn X.aS.ids X.dk.ni q L t.ri hi j).2,Cq t.ri⟩;have TK:=aC (Hu X.dk i hi J K (by rw[F];simp) (by rw[q3];simp) z ao (P.trans hf));have HF:=aC hf;have ba:(fk s k).2.length<=60:=by have:=Ow s k;omega
    have W:rk.hl.length<=1000:=by
     have h1:=X.hl.len
     have h2:rk.eg.length=(fk s k).1.length:=by have:=X.of.es;rw[<- Wu (f:=(·.e)),this]
     have h3:=lY X.aS;simp only at h3;omega
    have S:=aC (zA X.hl.1 (zA W (X.hl.has q UI)));have HK:=aC af;clear hf P z O t J F q3 X q M L ad ag E K ao W;have au:=aC j;clear j
    go_wp2_with fail
    refine TK.y.mono ?_;rintro e w1 ⟨rfl,c1,p1,p2⟩;have ST:=aC (Ug p1 S.y.1 S.y.2.1 (g:=g) HG.y.1 ⟨kM g,S.y.2.2,rfl,rfl⟩);have P2:=aC p2;clear p1 p2 TK a0 co
    go_wp2_with fail
    refine ST.y.mono ?_;rintro e w2 ⟨rfl,sp⟩;have SP:=aC sp;obtain⟨x,l',c2,e1,e2,s1,s2,s3,s4⟩:=sp;have u:({ g with e:={ g.e with kind:=1,bY:=0 } }:EG)∈fW g.e.id 1 0 rk.eg:=V9.2 ⟨g,HG.y.1,U1 rfl⟩;have bh:w2.cell? ⟨g.eb,0,U3⟩=U4 (.int .i64 g.e.id):=(s3.en _ u).1.en.c0;have NR:=aC ((H.y.nr.step P2.y (zq _)).step s4 (zq _));have a8:w.heap.size<=w2.heap.size:=Vg (Vg H.y.st.size P2.y.size) s4.size;clear s1 s2 s3 s4 e1 e2 u ST
    go_wp2_with (first
     |(at_builtin;refine wpList_append_lies _ rfl _ _ 38 rfl w.heap.size 3 i0 _ 1 8 underlying38 az ax aw av rfl UK _ _ _ rfl (NR.y.own.alloc _) ⟨w2.heap.size,0,U3⟩ 1 1 [.int .i64 g.e.id] rfl rfl (World.news_of_block (cs:=#[.int .i64 g.e.id]) (cC w2 _)) US UI UR UI UQ (w2.heap.size+1) UJ ?_;intro g2 ar w3 V D an a5))
    have ko:aF u3.ownBlock.toList w2 w3:=aF.grown ((aF.refl _ w2).alloc _) D (fun k hk=>.inl (WI.2 hk));have Y:u3.ownBlock=U4 g2\/g2=w2.heap.size+1:=an
    have HN:Hid (GI w w3 d s r aJ (.slice (U4 ⟨Hh,0,U3⟩) r.wl.length cap) (k+1) (.slice (U4 ⟨g2,0,U3⟩) ((fk s k).2.length+1) ar)) :=
     H.y.yes HK.y HG.y.1 HG.y.2.1 HG.y.2.2.1 hi au.y P2.y SP.y HF.y ko (fun c2 n1 n2=>⟨by rw[VU,We];exact V,fun b hb=>by
      have:g2=b:=by simpa[Value.ownBlock] using hb
      subst this;rcases Y with e|e
      ·exact n1 g2 e
      ·exact n2 g2 UI⟩)
    clear V D an ko Y H HG HK SP NR P2 au HF S;go_roundw
    case rel=>exact⟨k+1,by omega,by go_num,HN.y⟩
    case measure=>simp[intOf];omega
  ·have bc:¬ ((k:UZ)<(r.wl.length:UZ)):=UI
   obtain⟨v,ab,U,N⟩:=X.dk.wa;have f4:=X.dk.fz 4;have hd:=X.dk.dc;have ac:d ∉ v.ownBlock.toList:=fun e=>by have:=N _ (WI.1 e);rw[hd] at this;cases this
   have ay:(s.es.filter aA.fe).length<=k:=by
    have h1:=I.y.2.2.1
    have h2:s.es.filter aA.fe=(r.eg.filter fun g=>g.e.kind==3).map (·.e):=by rw[<- I.y.2.1.es,Yg];rfl
    rw[h2,Wu];rw[h1,Wu] at aa;omega
   have ai:=Ov s I.y.2.2.2.2.ids ay;have PB:=aC (NP r.eg (fk s k).2 I.y.1.nd);generalize vh r.eg (fk s k).2=p at PB
   have DL:=aC (C6 (.inl ⟨rfl,rfl⟩) rk.wl p v wr (fun wx ko b hb=>by
    have al:b∈r.wl:=by rw[<- X.wl];exact hb
    rw[I.y.2.2.1] at al;obtain⟨g,hg,rfl⟩:=V9.1 al;obtain⟨aj,a4⟩:=Xq.1 hg;have a3:g.e.kind=3:=by simpa using a4
    have u:mV (fk s k).2 g∈rk.eg:=by rw[X.eg];exact V9.2 ⟨g,aj,rfl⟩
    obtain⟨J,F,q3⟩:=X.dk.en _ u;have ae:wx.cell? ⟨(mV (fk s k).2 g).eb,1,U3⟩=U4 (.int .i64 (mV (fk s k).2 g).e.kind):=ko.cell (fun e=>by have:=N _ (WI.1 e);rw[F] at this;cases this) J.k;obtain⟨e1,e2⟩:=PB.y g aj a3;rw[e1] at ae;rw[<- e2]
    exact Tv g.eb _ wx ae) U (by rw[X.wl];omega))
   have VC:=aC (zA N ac);have H:=aC X;clear X U N ac hd
   go_wp2_with fail
   refine DL.y.mono ?_;rintro e w2 ⟨v',rfl,k1,k2,k3⟩
   obtain⟨va,vn,vc,rfl⟩:∃ a n cap,v'=.slice a n cap:=by
    rcases k2.2 with ⟨e,_⟩|⟨_,_,_,e,_⟩
    ·exact⟨_,_,_,e⟩
    ·exact⟨_,_,_,e⟩
   have bg:=k1.cell VC.y.2 ab;have bf:=(k1.frozen (o:=4) VC.y.2 (Vh _ _ ab)).trans f4;have SW:=aC (H.y.dk.jg VC.y.1 k1 k2 (fun b hb=>.inl (by rw[<- k3];exact hb)))
   have HF:Hid (Ct w d s aJ u3 (w2.setCell ⟨d,4,U3⟩ (.slice va vn vc))):=by
    obtain⟨aq,J,F⟩:=SW.y;have X:=H.y;refine⟨_,aq,J,?_,?_,X.hl,X.st.trans (F.any X.st.size),?_⟩
    ·have o:=X.of;rw[ai] at o;exact⟨o.now,o.given,o.ts,o.es,o.th,o.tb⟩
    ·show (rk.wl.filter fun b=>!p b)=(rk.eg.filter fun g=>g.e.kind==3).map (·.eb);rw[X.wl,I.y.2.2.1,X.eg];exact Ps _ _ p (fun g hg hk=>by rw[<- (PB.y g hg hk).2];exact Gh hk)
    ·rw[<- ai];exact X.nr.step F (zq _)
   clear k1 k2 k3 DL ab f4 SW H VC PB I
   go_wp2
   go_ret;exact⟨_,rfl,HF.y⟩
open aA (aM St dB kept dZ cS cN gC cA bW gJ ec gD n8)
def Si(w:U7)(d:UY)(s:St)(aJ:UY->UW bB)(g:EG)(w':U7):Prop :=
 ∃ (h:Raw) (col':UY->UW bB),DK w' d h col'/\Of { s with es:=kept g.e.id s.es } h/\Wl h/\Hl h/\Step qQ w.heap.size aJ col' w w'
theorem IU(h:DK w d r aJ)(t:Of s r)(D:Wl r)(p:ec s){g:EG}(q:g∈r.eg)(I:Hl { r with eg:=eS g.e.id r.eg }):
  Va prog 150 #[.pointer (U4 ⟨d,0,U3⟩),.pointer (U4 ⟨g.eb,0,U3⟩)] w fun e w'=>e=.returned (.tuple #[])/\Si w d s aJ g w':=by
 have L:=p.mM _ (t.mem q);have M:=p.g1
 by_cases u:g.e.kind=3
 ·refine (RH h q u UI (fun b J=>?_) ?_).mono ?_
  ·rw[D] at J;obtain⟨x,K,rfl⟩:=V9.1 J;exact⟨x,(Xq.1 K).1,rfl⟩
  ·rw[D,Wu];have P:=Wx (fun g:EG=>g.e.kind==3) r.eg;have O:=lY p;have N:r.eg.length=s.es.length:=by rw[<- t.es];simp
   omega
  ·rintro e w' ⟨rfl,col',F,E⟩;refine⟨rfl,_,col',F,?_,D.goes h.ni h.nd q,I,E⟩;have o:=t.uv p.ids h.ni q u;exact⟨o.now,o.given,o.ts,o.es,o.th,o.tb⟩
 ·obtain⟨i,z,j,H⟩:=t.tb g q;have C:=Bv p t z;refine (RG h q u i z H (A9 p t (p.en _ (t.mem q)) z) C.1 C.2 (Qb p t q u z j) UI).mono ?_;rintro e w' ⟨rfl,col',F,E⟩;exact⟨rfl,_,col',F,t.goes p.tn p.ids h.ni q u z j,D.nt h.ni q u,I,E⟩
namespace aA
end aA
def bC(g at_ n:UZ)(j p h o:U8):U8:=.agg #[.int .i64 g,.int .i64 at_,.int .i64 n,j,p,h,o]
structure Q7(Z:U7)(Q:UY):Prop where
 q0:Z.cell? ⟨Q,0,U3⟩=U4 (.int .i64 0)
 q1:Z.cell? ⟨Q,1,U3⟩=U4 (.int .i64 0)
 q2:Z.cell? ⟨Q,2,U3⟩=U4 (.int .i64 0)
 q3:Z.cell? ⟨Q,3,U3⟩=U4 (.slice U3 0 0)
 q4:Z.cell? ⟨Q,4,U3⟩=U4 (.slice U3 0 0)
 q5:Z.cell? ⟨Q,5,U3⟩=U4 (.slice U3 0 0)
 q6:Z.cell? ⟨Q,6,U3⟩=U4 (.slice U3 0 0)
 fq:∀ o,Z.frozen? ⟨Q,o,U3⟩=U5
def aW:Obj:=.cells #[.int .i64 0,.int .i64 0,.int .i64 0,.slice U3 0 0,.slice U3 0 0,.slice U3 0 0,.slice U3 0 0] 40 (0,0)
theorem Q7.of(h:w.heap[Q]?=U4 aW):Q7 w Q:=by
 unfold aW at h;refine⟨?_,?_,?_,?_,?_,?_,?_,fun o=>frozen_of_row _ Q o _ _ h⟩
 all_goals (simp only[VA,h];rfl)
theorem Q7.later(h:Q7 w Q)(g:w'.heap[Q]?=w.heap[Q]?):Q7 w' Q :=
 ⟨(zo g).trans h.q0,(zo g).trans h.q1,(zo g).trans h.q2,(zo g).trans h.q3,(zo g).trans h.q4,(zo g).trans h.q5,(zo g).trans h.q6,fun o=>(World.frozen?_of_block g).trans (h.fq o)⟩
def cK(Z:U7)(Q:UY)(a b c d e f g:U8):U7:=((((((Z.setCell ⟨Q,0,U3⟩ a).setCell ⟨Q,1,U3⟩ b).setCell ⟨Q,2,U3⟩ c).setCell ⟨Q,3,U3⟩ d).setCell ⟨Q,4,U3⟩ e).setCell ⟨Q,5,U3⟩ f).setCell ⟨Q,6,U3⟩ g
theorem lC(Z:U7)(Q:UY)(a b c d e f g:U8):aF [Q] Z (cK Z Q a b c d e f g) :=
 (((((((aF.refl [Q] Z).setCell (.inl UJ) _ _).setCell (.inl UJ) _ _).setCell (.inl UJ) _ _).setCell (.inl UJ) _ _).setCell (.inl UJ) _ _).setCell (.inl UJ) _ _).setCell (.inl UJ) _ _
theorem yz(a:Obj):U9 w.heap.size w ((w.alloc a).alloc aW)/\((w.alloc a).alloc aW).heap[w.heap.size+1]?=U4 aW:=by
 refine⟨((zr _ _).alloc (zq _) _).alloc UJ _,?_⟩;have:=cC (w.alloc a) aW
 rwa [World.size_alloc] at this
theorem aY{cs:Array U8}{t:Vc}(h:Z.heap[Q]?=U4 (.cells cs t))(i:UY)(g:cs[i]?=U4 v):Z.cell? ⟨Q,i,U3⟩=U4 v:=by simp[VA,h,g]
theorem uL(w:U7)(o:Obj):U9 w.heap.size w ((w.alloc o).alloc aW)/\((w.alloc o).alloc aW).heap[w.heap.size+1]?=U4 aW/\((w.alloc o).alloc aW).heap[w.heap.size]?=U4 o/\w.heap.size+1<((w.alloc o).alloc aW).heap.size :=
 ⟨(yz o).1,(yz o).2,(Below.heap_alloc _ _ _ UJ).trans (cC w o),by simp⟩
theorem cO{h:Func}{R:Ending->U7->Prop}{tm:Array U8}{a b e g i:U8}(D:h.results=#[.cell k 40])(z:Q7 Z Q)(C:R (.returned (.agg #[a,b,c,e,f,g,i])) (cK Z Q a b c e f g i))(ht:tm[k]?=U4 (.pointer (U4 ⟨Q,0,U3⟩)):=by rfl):bodyPost prog h R .ret ⟨tm,[]⟩ (cK Z Q a b c e f g i):=by
 obtain⟨x,u,t,q,p,o,j,_⟩:=z;refine bodyPost_ret ?_ rfl C;simp only[results,D];simp[ht,go_sem,cK,x,u,t,q,p,o,j]
theorem eE.base(h:eE w B aJ v l)(g:B'<=B):eE w B' aJ v l:=⟨Yq h.own g,h.no⟩
theorem eE.append{u:U8}{m:UV UZ}(h:eE w B aJ v l)(k:eE w B aJ u m)(O:B<=w.heap.size)(N:∀ b,w.heap.size<=b->aJ b=U3)(V:l.length+m.length<=100000):
  ∃ (v':U8) (w':U7),(∀ o,(Yr #[38,38] o #[v,u]).run prog w=.ok v' w')/\eE w' B aJ v' (l++m)/\w.grownBy w' v.ownBlock/\(v'.ownBlock=v.ownBlock\/v'.ownBlock=U4 w.heap.size):=by
 obtain⟨I,p,E,D,C⟩:=info_parts pB;rcases k.own.2 with ⟨rfl,S⟩|⟨g,cap,T,rfl,F,Y,h1,h2,h3,h4⟩
 ·have M:m=[]:=List.length_eq_zero_iff.1 S;subst M;refine⟨v,w,fun o=>run_append_owned_none (P:=prog) w B 38 o 3 I 1 underlying38 p v l.length _ h.own,by rw[XT];exact h,⟨rfl,rfl,rfl,Vd _,fun _ _ _=>rfl⟩,.inl rfl⟩
 ·have z:=fun o=>run_append_own_at (P:=prog) w B 38 o 3 I _ 1 8 underlying38 p E D C rfl UK v l.length _ h.own ⟨g,0,U3⟩ m.length cap (m.map (VT .i64)) UJ (fun j x t=>by
   have W:j<m.length:=by
    have:=List.getElem?_eq_some_iff.1 t;obtain⟨h,_⟩:=this
    simpa using h
   have e:=k.own.cellAt j UI;have q:(⟨g,0,U3⟩:Addr).add j=⟨g,j,U3⟩:=by unfold Addr.add;split <;> simp_all
   rw[q,e];exact t) (by
   intro x t;obtain⟨y,_,rfl⟩:=V9.1 t
   rfl) UR UI O
  obtain⟨v',w',L,K,J,U,H⟩:=z 0;refine⟨v',w',fun o=>?_,⟨by rw[VU,We];exact K,fun b F=>?_⟩,J,H⟩
  ·exact L
  ·rcases H with e|e
   ·exact h.no b (by rw[<- e];exact F)
   ·rw[F] at e
    cases e
    exact N _ (zq _)
theorem Ij{P:Program}{o:Oper}{a:Act}{K:Act->U7->Prop}{Q:Exit->Act->U7->Prop}(s x:Operand)(t:Vc)(v':U8)
  (j:o.op=.call { callee:=.builtin .append,args:=#[s,x],argTypes:=#[t,t] }) (g:(Yr #[t,t] o.type #[a.eval s,a.eval x]).run P w=.ok v' w') (h:K (a.put o.dst v') w'):o.wp P a w K Q:=by
 unfold Ys execOp;simp only[j,resolve,invoke,builtin,Sem.run_bind,Sem.run_pure,Result.andThen_ok,List.map_toArray,XD,List.map_nil,g];exact h
theorem UC{P:Program}{g:Array Oper}{o:Oper}{a:Act}{K:Act->U7->Prop}{Q:Exit->Act->U7->Prop}{E:Prop}(p:o.guard=U3)(s x:Operand)(t:Vc)(v':U8)
  (u:o.op=.call { callee:=.builtin .append,args:=#[s,x],argTypes:=#[t,t] }) (j:(Yr #[t,t] o.type #[a.eval s,a.eval x]).run P w=.ok v' w') (h:K (a.put o.dst v') w'):
  if Yt o (yielded g a.tmps)=U6 then Ys P o a w K Q else E:=by
 have q:Yt o (yielded g a.tmps)=U6:=by simp[Yt,p]
 rw[U1 q];exact Ij s x t v' u j h
theorem Nt{P:Program}{g:Array Oper}{rest:UV Oper}{o:Oper}{a:Act}{Q:Exit->Act->U7->Prop}(p:o.guard=U3)(s x:Operand)(t:Vc)(v':U8)
  (q:o.op=.call { callee:=.builtin .append,args:=#[s,x],argTypes:=#[t,t] }) (j:(Yr #[t,t] o.type #[a.eval s,a.eval x]).run P w=.ok v' w') (h:wpList P g Q rest (a.put o.dst v') w'):wpList P g Q (o :: rest) a w :=
 wpList_plain p fun _ u=>Ij s x t v' q j (u _ _ h)
theorem qW{P:Program}{g:Array Oper}{o:Oper}{a:Act}{K:Act->U7->Prop}{Q:Exit->Act->U7->Prop}{E:Prop}(j:o.guard=U3)(f:FuncId)(xs:Array Operand)(p:Array Vc)
  (t:o.op=.call { callee:=.value (.func f),args:=xs,argTypes:=p }) (args:Array U8) (z:xs.map a.eval=args) (u:(callFunc f args).run P w=.ok (.enter f args) w) {R:Ending->U7->Prop}(x:Va P f args w R) (h:∀ e w',R e w'->∃ v,e=.returned v/\K (a.put o.dst v) w'):
  if Yt o (yielded g a.tmps)=U6 then Ys P o a w K Q else E:=by
 have q:Yt o (yielded g a.tmps)=U6:=by simp[Yt,j]
 rw[U1 q];unfold Ys
 have F:(execOp a.eval o).run P w=.ok (.enter f args) w:=by
  simp[execOp,t,resolve,invoke,Act.eval,Deferred.ofValue,z,u]
 rw[F,Oper.upon_enter];refine x.mono ?_;intro e w' C;obtain⟨v,rfl,D⟩:=h e w' C;exact D
open aA (aM St dB kept dZ cS cN gC cA bW gJ ec gD n8 Inv)
theorem lF(g:UZ)(w:U7):
  Va prog 141 #[.int .i64 g] w fun e w'=>e=.returned (bC g 0 0 (.slice U3 0 0) (.slice U3 0 0) (.slice U3 0 0) (.slice U3 0 0))/\U9 w.heap.size w w':=by
 go_in
 have h:Hid (U9 w.heap.size w (w.alloc (.cells #[.int .i64 g,.int .i64 0,.int .i64 0,.slice U3 0 0,.slice U3 0 0,.slice U3 0 0,.slice U3 0 0] 40))):=(zr _ _).alloc (zq _) _
 go_wp2_with fail
 exact bodyPost_ret (v:=bC g 0 0 (.slice U3 0 0) (.slice U3 0 0) (.slice U3 0 0) (.slice U3 0 0)) (by simp[results,results141,go_sem,bC]) rfl ⟨rfl,h.y⟩
theorem SF(g:Array U8)(w:U7):(callFunc 65 g).run prog w=.ok (.enter 65 g) w:=UO
theorem Ii(j:Of s r)(q:s.ts.Pairwise fun t u=>bW t.1 u.1=U5){b:UY}(h:jH r.tg name=U4 b):∃ (i:UY)(g:i<r.tg.length),r.tg[i].name=name/\r.tg[i].tb=b/\aA.bJ name s.ts=r.tg[i].aH:=by
 rw[sO] at h
 cases e:r.tg.find? fun t=>bW t.name name with
 |none=>rw[e] at h;cases h
 |some t =>
  rw[e] at h;obtain⟨i,g,rfl⟩:=XN (X7 e);have o:r.tg[i].name=name:=sI.1 (by simpa using X8 e);refine⟨i,g,o,by simpa using h,?_⟩;have p:=B7 q (i:=i) (by rw[<- j.len];exact g);rw[j.jS g] at p;rw[<- o];exact p
theorem Ih(o:Of s r)(h:jH r.tg name=U3):aA.bJ name s.ts=0:=by
 refine vU (fun t ht e=>?_);rw[<- o.ts] at ht;obtain⟨x,j,rfl⟩:=V9.1 ht;rw[sO] at h
 cases g:r.tg.find? fun t=>bW t.name name with
 |none =>
  have:=X6.1 g x j;exact this (sI.2 e)
 |some y=>rw[g] at h;cases h
def qN(s:St)(r:Raw)(name:UU)(g:UZ)(e:Ending):Prop :=
 (g≠0/\e=.returned (.tuple #[.pointer U3,.int .i64 g]))\/(g=0/\∃ (i:UY) (h:i<r.tg.length),r.tg[i].name=name/\aA.bJ name s.ts=r.tg[i].aH/\e=.returned (.tuple #[.pointer (U4 ⟨r.tg[i].tb,0,U3⟩),.int .i64 0]))
theorem OC(w:U7):(zeroValue 198).run prog w=.ok (.pointer U3) w:=by simp[go_sem]
theorem IB(h:DK w d r aJ)(q:Of s r)(x:ec s)(name:UU)(N:name.size<=1000)(u:UZ):
  Va prog 146 #[.pointer (U4 ⟨d,0,U3⟩),.string name,.int .i64 u] w fun e w'=>qN s r name (aA.dH s.ts name u) e/\w'=w:=by
 obtain⟨m,f,V,U,F,E⟩:=h.mt;have M:=A7 N;have g:=F.look AU underlying137 (OC w) M;rw[E name] at g
 cases ht:jH r.tg name with
 |none =>
  rw[ht] at g;have L:=Ih q ht;have p:aA.dH s.ts name u=3:=by unfold aA.dH;rw[U1 L]
  have o:(Yu 137 (.map (U4 m)) (.string name) U5).run prog w=.ok (.pointer U3) w:=g;have z:Hid (qN s r name (aA.dH s.ts name u) (.returned (.tuple #[.pointer U3,.int .i64 3]))):=.inl ⟨by rw[p];omega,by rw[p]⟩;clear g p L ht F E h q x
  go_in
  go_wp2
  go_ret2;exact⟨z.y,rfl⟩
 |some b =>
  rw[ht] at g;obtain⟨i,J,p,D,C⟩:=Ii q x.tn ht;obtain⟨S,P,Y,W,H,K⟩:=h.th i J;have O:=H.c1;rw[D] at O
  have j:aA.bJ name s.ts≠0:=by
   rw[C];have I:(r.tg[i].name,r.tg[i].aH)∈s.ts:=by rw[<- q.jS J];exact zg _
   have:=(x.tu _ I).1;simp only at this;omega
  have o:(Yu 137 (.map (U4 m)) (.string name) U5).run prog w=.ok (.pointer (U4 ⟨b,0,U3⟩)) w:=g
  by_cases T:r.tg[i].aH<u
  ·have t:aA.dH s.ts name u=7:=by unfold aA.dH;rw[U0 j,U1 UI]
   have z:Hid (qN s r name (aA.dH s.ts name u) (.returned (.tuple #[.pointer U3,.int .i64 7]))):=.inl ⟨by rw[t];omega,by rw[t]⟩;clear g ht F E h q x p D C H K j t;generalize r.tg[i].aH=un at *
   go_in
   go_wp2
   go_ret2;exact⟨z.y,rfl⟩
  ·have t:aA.dH s.ts name u=0:=by unfold aA.dH;rw[U0 j,U0 UI]
   have z:Hid (qN s r name (aA.dH s.ts name u) (.returned (.tuple #[.pointer (U4 ⟨b,0,U3⟩),.int .i64 0]))):=.inr ⟨t,i,J,p,C,by rw[D]⟩;clear g ht F E h q x p D C H K j t;generalize r.tg[i].aH=un at *
   go_in
   go_wp2
   go_ret2;exact⟨z.y,rfl⟩
def fA(s:St)(name:UU)(u fr til:UZ):UZ:=if aA.dH s.ts name u≠0 then aA.dH s.ts name u else if til<=fr then 6 else 0
theorem vM(h:DK w d r aJ)(z:Of s r)(C:ec s)(name:UU)(I:name.size<=1000)(u fr til:UZ):
  Va prog 143 #[.pointer (U4 ⟨d,0,U3⟩),.string name,.int .i64 u,.agg #[.int .i64 fr,.int .i64 til]] w fun e w'=>qN s r name (fA s name u fr til) e/\U9 w.heap.size w w':=by
 have p:U9 w.heap.size w (w.alloc (.cells #[.int .i64 fr,.int .i64 til] 60)):=(zr _ _).alloc (zq _) _;have F:=aC (IB (h.later p) z C name I u);have E:=aC p;clear h z C p
 go_in
 go_wp2_with fail
 refine F.y.mono ?_;rintro e w1 ⟨H,g⟩;have x:=aC (show U9 w.heap.size w w1 by rw[g];exact E.y);have L:w1.cell? ⟨w.heap.size,0,U3⟩=U4 (.int .i64 fr):=by rw[g];simp
 have K:w1.cell? ⟨w.heap.size,1,U3⟩=U4 (.int .i64 til):=by rw[g];simp
 clear g F E;rcases H with ⟨j,rfl⟩|⟨j,i,J,t,q,rfl⟩
 ·have o:Hid (qN s r name (fA s name u fr til) (.returned (.tuple #[.pointer U3,.int .i64 (aA.dH s.ts name u)]))):=by
   have:fA s name u fr til=aA.dH s.ts name u:=by unfold fA;rw[U1 j]
   rw[this];exact .inl ⟨j,rfl⟩
  generalize aA.dH s.ts name u=e0 at *;have M:(e0 != 0)=U6:=by simpa using j
  go_wp2
  go_ret2;exact⟨o.y,x.y⟩
 ·by_cases D:til<=fr
  ·have o:Hid (qN s r name (fA s name u fr til) (.returned (.tuple #[.pointer U3,.int .i64 6]))):=by
    have:fA s name u fr til=6:=by unfold fA;rw[U0 UI,U1 D]
    rw[this];exact .inl ⟨by omega,rfl⟩
   clear j t q
   go_wp2
   go_ret2;exact⟨o.y,x.y⟩
  ·have o:Hid (qN s r name (fA s name u fr til) (.returned (.tuple #[.pointer (U4 ⟨r.tg[i].tb,0,U3⟩),.int .i64 0]))):=by
    have:fA s name u fr til=0:=by unfold fA;rw[U0 UI,U0 D]
    rw[this];exact .inr ⟨rfl,i,J,t,q,rfl⟩
   clear j t q
   go_wp2
   go_ret2;exact⟨o.y,x.y⟩
def fC(p:UZ × UZ):UV U8:=[.int .i64 p.1,.int .i64 p.2]
def ef(p:aM × U8):UV U8:=[.int .i64 p.1.id,.int .i64 p.1.kind,.string p.1.aT,.int .i64 p.1.aH,p.2,.int .i64 p.1.bY]
structure qJ(w:U7)(B:UY)(aJ:UY->UW bB)(v:U8)(L:UV (UZ × UZ)):Prop where
 own:w.ownsRow B 60 2 v L.length (L.flatMap fC)
 no:∀ b,v.ownBlock=U4 b->aJ b=U3
structure gI(w:U7)(B:UY)(aJ:UY->UW bB)(v:U8)(l:UV (aM × U8)):Prop where
 own:w.ownsRow B 58 6 v l.length (l.flatMap ef)
 no:∀ b,v.ownBlock=U4 b->aJ b=U3
 sp:∀ p∈l,qJ w B aJ p.2 p.1.aL/\∀ b,p.2.ownBlock=U4 b->v.ownBlock≠U4 b
 pw:l.Pairwise fun p q=>∀ b,p.2.ownBlock=U4 b->q.2.ownBlock≠U4 b
theorem gI.nil(w:U7)(B:UY)(aJ:UY->UW bB):gI w B aJ (.slice U3 0 0) []:=⟨Yl _ _ _ _,(fun b g=>by cases g),UJ,XP⟩
def ku(w:U7)(B:UY)(aJ:UY->UW bB)(v:U8)(p:aA.bO):Prop :=
 ∃ (o h j g:U8) (l:UV (aM × U8)),v=bC p.err p.at_ p.n o h j g/\l.map (·.1)=p.entries/\gI w B aJ o l/\eE w B aJ h p.days/\eE w B aJ j p.granted/\eE w B aJ g p.ended/\(∀ b,j.ownBlock=U4 b->o.ownBlock≠U4 b/\h.ownBlock≠U4 b/\g.ownBlock≠U4 b/\∀ q∈l,q.2.ownBlock≠U4 b)/\∀ b,h.ownBlock=U4 b->g.ownBlock≠U4 b
theorem ku.plain(w:U7)(B:UY)(aJ:UY->UW bB)(e n:UZ):ku w B aJ (bC e 0 n (.slice U3 0 0) (.slice U3 0 0) (.slice U3 0 0) (.slice U3 0 0)) ⟨e,0,n,[],[],[],[]⟩ :=
 ⟨_,_,_,_,[],rfl,rfl,gI.nil _ _ _,eE.nil _ _ _,eE.nil _ _ _,eE.nil _ _ _,(fun b g=>by cases g),fun b g=>by cases g⟩
def dX(w:U7)(d:UY)(aJ:UY->UW bB)(q:St × aA.bO)(v:U8)(w':U7):Prop :=
 ∃ (g:Raw) (col':UY->UW bB),DK w' d g col'/\Of q.1 g/\Wl g/\Hl g/\Step anyS w.heap.size aJ col' w w'/\ku w' w.heap.size col' v q.2
structure dS(w:U7)(d:UY)(s:St)(r:Raw)(aJ:UY->UW bB):Prop where
 dk:DK w d r aJ
 of:Of s r
 wl:Wl r
 hl:Hl r
 inv:Inv s
theorem dS.aS(h:dS w d s r aJ):ec s:=h.inv.aS
theorem UA(j:Of s r){g:EG}(q:(r.eg.map (·.e.id)).Nodup)(o:g∈r.eg):aA.mZ g.e.id s.es=U4 g.e:=by
 unfold aA.mZ
 cases h:s.es.find? fun e=>decide (e.id=g.e.id) with
 |none =>
  have:=X6.1 h g.e (j.mem o);simp at this
 |some e =>
  have u:=X7 h;have t:=X8 h;obtain⟨x,p,rfl⟩:=j.get u;have:x=g:=oJ _ q p o (by simpa using t);rw[this]
theorem Uv(j:Of s r)(h:gv r.eg id=U3):aA.mZ id s.es=U3:=by
 unfold aA.mZ;refine X6.2 (fun e o=>?_);obtain⟨x,g,rfl⟩:=j.get o
 simpa using Gl h x g
theorem vL{p:St}{j:Raw}(F:DK Z d j col')(E:Of p j)(D:Wl j)(C:Hl j)(z:Step anyS w.heap.size aJ col' w Z)(u:w.heap.size<=Q)(q:col' Q=U3)(t n:UZ)(a b c e f g i:U8):
  dX w d aJ (p,⟨t,0,n,[],[],[],[]⟩) (bC t 0 n (.slice U3 0 0) (.slice U3 0 0) (.slice U3 0 0) (.slice U3 0 0)) (cK Z Q a b c e f g i):=by
 have k:=lC Z Q a b c e f g i;have st:Step anyS w.heap.size col' col' Z (cK Z Q a b c e f g i):=⟨⟨_,k,fun x o=>.inr (by have:x=Q:=Yo.1 o;subst this;exact⟨q,u⟩)⟩,fun _ _ h=>h,fun _ _ h=>.inl h⟩;exact⟨j,col',F.off k (fun x o=>by have:x=Q:=Yo.1 o;subst this;exact q),E,D,C,z.trans st,ku.plain _ _ _ _ _⟩
theorem dS.said(h:dS w d s r aJ)(k:U9 w.heap.size w Z)(o:w.heap.size<=Q)(j n:UZ)(a b c e f g i:U8):
  dX w d aJ (s,⟨j,0,n,[],[],[],[]⟩) (bC j 0 n (.slice U3 0 0) (.slice U3 0 0) (.slice U3 0 0) (.slice U3 0 0)) (cK Z Q a b c e f g i) :=
 vL (h.dk.later k) h.of h.wl h.hl (Step.below k) o (h.dk.none o) j n a b c e f g i
theorem dS.refuse(h:dS w d s r aJ)(p:U9 w.heap.size w w1)(o:Q7 w1 (w.heap.size+1))(j:U9 w1.heap.size w1 w2){g:UZ}{l:aA.fJ}(q:aA.aU s l=(s,aA.bO.error g)):
  Q7 w2 (w.heap.size+1)/\dX w d aJ (aA.aU s l) (bC g 0 0 (.slice U3 0 0) (.slice U3 0 0) (.slice U3 0 0) (.slice U3 0 0)) (cK w2 (w.heap.size+1) (.int .i64 g) (.int .i64 0) (.int .i64 0) (.slice U3 0 0) (.slice U3 0 0) (.slice U3 0 0) (.slice U3 0 0)) :=
 ⟨o.later (j.block _ (Vh _ _ o.q0)),by rw[q];exact h.said (p.trans (j.mono p.size)) UI g 0 _ _ _ _ _ _ _⟩
theorem iy{e size:UY}(h:w.ownsRow B e size v n xs):∃ a cap,v=.slice a n cap:=by
 rcases h.2 with ⟨rfl,j⟩|⟨g,cap,_,rfl,_⟩
 ·rw[j];exact⟨_,_,rfl⟩
 ·exact⟨_,_,rfl⟩
theorem qJ.off{l:UV (UZ × UZ)}(h:qJ w B aJ v l)(k:aF G w w')(o:∀ x∈G,x<B):qJ w' B aJ v l :=
 ⟨dO h.own k (fun b j g=>by have:=(h.own.lt b j).1;have:=o b g;omega),h.no⟩
theorem eE.off(h:eE w B aJ v l)(k:aF G w w')(o:∀ x∈G,x<B):eE w' B aJ v l :=
 ⟨dO h.own k (fun b j g=>by have:=(h.own.lt b j).1;have:=o b g;omega),h.no⟩
theorem gI.off{l:UV (aM × U8)}(h:gI w B aJ v l)(k:aF G w w')(j:∀ x∈G,x<B):gI w' B aJ v l :=
 ⟨dO h.own k (fun b q o=>by have:=(h.own.lt b q).1;have:=j b o;omega),h.no,fun p g=>⟨(h.sp p g).1.off k j,(h.sp p g).2⟩,h.pw⟩
theorem gI.base{l:UV (aM × U8)}(h:gI w B aJ v l)(j:B'<=B):gI w B' aJ v l :=
 ⟨Yq h.own j,h.no,fun p g=>⟨⟨Yq (h.sp p g).1.own j,(h.sp p g).1.no⟩,(h.sp p g).2⟩,h.pw⟩
theorem ku.off{p:aA.bO}(h:ku w B aJ v p)(k:aF G w w')(g:∀ x∈G,x<B):ku w' B aJ v p:=by
 obtain⟨o,H,j,q,l,F,E,D,C,z,u,t⟩:=h;exact⟨o,H,j,q,l,F,E,D.off k g,C.off k g,z.off k g,u.off k g,t⟩
theorem ku.base{p:aA.bO}(h:ku w B aJ v p)(g:B'<=B):ku w B' aJ v p:=by
 obtain⟨o,F,j,q,l,E,D,C,z,x,u,t⟩:=h;exact⟨o,F,j,q,l,E,D,C.base g,z.base g,x.base g,u.base g,t⟩
theorem dX.up{q:St × aA.bO}(h:dX X d aJ q v w2)(D:U9 w.heap.size w X)(hQ:w.heap.size<=Q)(j:Q<X.heap.size)(C:aJ Q=U3)(h7:Q7 X Q):
  ∃ (er at_ n:UZ) (a1 a2 a3 a4:UW Addr) (S P O N c1 H F E:UY),v=bC er at_ n (.slice a1 S c1) (.slice a2 P H) (.slice a3 O F) (.slice a4 N E)/\Q7 w2 Q/\∀ a b c e f g i,dX w d aJ q v (cK w2 Q a b c e f g i):=by
 obtain⟨M,col',W,V,U,T,p,t⟩:=h;have Y:=t;obtain⟨en,da,gr,ed,l,rfl,_,L,K,J,I,_⟩:=t;obtain⟨b1,c1,rfl⟩:=iy L.own;obtain⟨b2,H,rfl⟩:=K.slice;obtain⟨b3,F,rfl⟩:=J.slice;obtain⟨b4,E,rfl⟩:=I.slice;refine⟨_,_,_,_,_,_,_,_,_,_,_,_,_,_,_,rfl,h7.later (p.bV j C j),fun a b c e f g i=>?_⟩;have k:=lC w2 Q a b c e f g i;have z:=p.cU C j;have u:=D.size;have st:Step anyS w.heap.size col' col' w2 (cK w2 Q a b c e f g i):=⟨⟨_,k,fun x o=>.inr (by have:x=Q:=Yo.1 o;subst this;exact⟨z,hQ⟩)⟩,fun _ _ h=>h,fun _ _ h=>.inl h⟩;exact⟨M,col',W.off k (fun x o=>by have:x=Q:=Yo.1 o;subst this;exact z),V,U,T,((Step.below D).trans (p.any u)).trans st,(Y.off k (fun x o=>by have:x=Q:=Yo.1 o;omega)).base u⟩
theorem qJ.later{l:UV (UZ × UZ)}(h:qJ w B aJ v l)(k:U9 w.heap.size w w'):qJ w' B aJ v l:=⟨ey h.own k,h.no⟩
theorem gI.later{l:UV (aM × U8)}(h:gI w B aJ v l)(k:U9 w.heap.size w w'):gI w' B aJ v l:=⟨ey h.own k,h.no,fun p g=>⟨(h.sp p g).1.later k,(h.sp p g).2⟩,h.pw⟩
def gM:St:=⟨[],[],0,0⟩
def mS:Raw:=⟨0,0,[],[],[],[]⟩
def py(N:UY)(k:UY):UW bB:=if k=N then U4 .mt else if k=N+1 then U4 .me else if k=N+2 then U4 .desk else U3
theorem Ny:Inv gM:=by
 refine⟨by simp[gM],by simp[gM],by simp[gM],by simp[gM,dB],by simp[gM],by simp[gM],by simp[gM],by simp[gM],by simp[gM],by simp[gM],by simp[gM],by simp[gM,aA.eh],by simp[gM],fun name x=>?_⟩;simp[gM,aA.bP,aA.bJ]
def FK(w:U7)(v:U8)(w':U7):Prop:=v=.pointer (U4 ⟨w.heap.size+2,0,U3⟩)/\dS w' (w.heap.size+2) gM mS (py w.heap.size)/\U9 w.heap.size w w'
theorem SU(w:U7):Va prog 60 #[] w fun e w'=>∃ v,e=.returned v/\FK w v w':=by
 have I:=@run_makeMap prog
 have S:Hid (FK w (.pointer (U4 ⟨w.heap.size+2,0,U3⟩)) (((w.alloc (.map #[] 0)).alloc (.map #[] 0)).alloc (.cells #[.int .i64 0,.int .i64 0,.map (U4 w.heap.size),.map (U4 (w.heap.size+1)),.slice U3 0 0,.slice U3 0 0] 144))):=by
  have s1:(w.alloc (.map #[] 0)).heap.size=w.heap.size+1:=UJ
  have F:((w.alloc (.map #[] 0)).alloc (.map #[] 0)).heap.size=w.heap.size+2:=UJ
  have H:=e9.made prog 9 w;have D:=e9.made prog 3 (w.alloc (.map #[] 0));have h:=cC ((w.alloc (.map #[] 0)).alloc (.map #[] 0)) (.cells #[.int .i64 0,.int .i64 0,.map (U4 w.heap.size),.map (U4 (w.heap.size+1)),.slice U3 0 0,.slice U3 0 0] 144);have P:(((w.alloc (.map #[] 0)).alloc (.map #[] 0)).alloc (.cells #[.int .i64 0,.int .i64 0,.map (U4 w.heap.size),.map (U4 (w.heap.size+1)),.slice U3 0 0,.slice U3 0 0] 144)).heap[w.heap.size]?=(w.alloc (.map #[] 0)).heap[w.heap.size]?:=(Below.heap_alloc _ _ _ UI).trans (Below.heap_alloc _ _ _ UI);have O:(((w.alloc (.map #[] 0)).alloc (.map #[] 0)).alloc (.cells #[.int .i64 0,.int .i64 0,.map (U4 w.heap.size),.map (U4 (w.heap.size+1)),.slice U3 0 0,.slice U3 0 0] 144)).heap[w.heap.size+1]?=((w.alloc (.map #[] 0)).alloc (.map #[] 0)).heap[w.heap.size+1]?:=Below.heap_alloc _ _ _ UI;have j:U9 w.heap.size w (((w.alloc (.map #[] 0)).alloc (.map #[] 0)).alloc (.cells #[.int .i64 0,.int .i64 0,.map (U4 w.heap.size),.map (U4 (w.heap.size+1)),.slice U3 0 0,.slice U3 0 0] 144)):=(((zr _ _).alloc (zq _) _).alloc UI _).alloc UI _;have T:(((w.alloc (.map #[] 0)).alloc (.map #[] 0)).alloc (.cells #[.int .i64 0,.int .i64 0,.map (U4 w.heap.size),.map (U4 (w.heap.size+1)),.slice U3 0 0,.slice U3 0 0] 144)).heap.size=w.heap.size+3:=UJ
  rw[F] at h;rw[s1] at D;have q:=H.block P;have p:=D.block O;generalize ((w.alloc (.map #[] 0)).alloc (.map #[] 0)).alloc (.cells #[.int .i64 0,.int .i64 0,.map (U4 w.heap.size),.map (U4 (w.heap.size+1)),.slice U3 0 0,.slice U3 0 0] 144)=Z at *;have N:Z.cell? ⟨w.heap.size+2,4,U3⟩=U4 (.slice U3 0 0):=by simp only[VA,h];rfl
  have M:Z.cell? ⟨w.heap.size+2,5,U3⟩=U4 (.slice U3 0 0):=by simp only[VA,h];rfl
  refine⟨rfl,⟨⟨?_,?_,⟨w.heap.size,_,?_,by simp[py],q,fun n=>rfl⟩,⟨w.heap.size+1,_,?_,by simp[py],p,fun n=>rfl⟩,⟨_,N,Yl _ _ _ _,fun b j=>by cases j⟩,⟨_,⟨M,Yl _ _ _ _,UT,frozen_of_row _ _ _ _ _ h⟩,fun b j=>by cases j⟩,fun i z=>by simp[mS] at z,fun g C=>by simp[mS] at C,by simp[mS],by simp[mS],fun o=>frozen_of_row _ _ _ _ _ h,by simp[py],fun k c E=>?_⟩,⟨rfl,rfl,rfl,rfl,fun i z=>by simp[mS] at z,fun g C=>by simp[mS] at C⟩,rfl,⟨?_,List.Perm.nil⟩,Ny⟩,j⟩
  ·simp only[VA,h];rfl
  ·simp only[VA,h];rfl
  ·simp only[VA,h];rfl
  ·simp only[VA,h];rfl
  ·unfold py at E
   by_cases L:k=w.heap.size
   ·omega
   ·by_cases K:k=w.heap.size+1
    ·omega
    ·by_cases J:k=w.heap.size+2
     ·omega
     ·simp[L,K,J] at E
  ·intro i x u;have t:i<([]:UV Hp.Hi).length:=by first|exact x|exact u
   simp at t
 go_in
 go_wp2
 go_ret;exact⟨_,rfl,S.y⟩
theorem xk{S:bB->Prop}{W q:U7}{C:UY->UW bB}{j e size:UY}{z:U8}(h:w1.ownsRow j e size v n xs)(x:∀ b,v.ownBlock=U4 b->col1 b=U3)(u:U9 w1.heap.size w1 W)(t:Step S W.heap.size col1 C W w4)(E:aF z.ownBlock.toList w4 q)(D:aF [R] q Z)(I:w1.heap.size<=R)(F:∀ b,v.ownBlock=U4 b->z.ownBlock≠U4 b):
  Z.ownsRow j e size v n xs/\∀ b,v.ownBlock=U4 b->C b=U3:=by
 have p:∀ b,v.ownBlock=U4 b->b<w1.heap.size:=fun b g=>(h.lt b g).2
 have H:=u.size;refine⟨dO (dO (t.own (ey h u) (fun b g=>⟨x b g,by have:=p b g;omega⟩)) E (fun b g o=>F b g (WI.1 o))) D (fun b g o=>?_),fun b g=>t.cU (x b g) (by have:=p b g;omega)⟩;have:=p b g;have:b=R:=Yo.1 o;omega
theorem Sb{s1:St}{r1:Raw}{p:aA.bO}{F at_ n:UZ}{D C t z v2:U8}{l:UV (aM × U8)}(hX:U9 w.heap.size w X)(U:w.heap.size<X.heap.size)(h7:Q7 X w.heap.size)(ae:aJ w.heap.size=U3)
  (k1:DK w1 d r1 col1) (k5:Step anyS X.heap.size aJ col1 X w1) (hl:l.map (·.1)=p.entries) (P:gI w1 X.heap.size col1 D l) (e4:eE w1 X.heap.size col1 C p.days) (e5:eE w1 X.heap.size col1 t p.granted) (e6:eE w1 X.heap.size col1 z p.ended) (e7:∀ b,t.ownBlock=U4 b->D.ownBlock≠U4 b/\C.ownBlock≠U4 b/\z.ownBlock≠U4 b/\∀ q∈l,q.2.ownBlock≠U4 b) (e8:∀ b,C.ownBlock=U4 b->z.ownBlock≠U4 b) (e1:F=p.err/\at_=p.at_/\n=p.n)
  (g:Ct (w1.alloc (.cells #[.int .i64 F,.int .i64 at_,.int .i64 n,D,C,t,z] 40)).drew d s1 col1 v2 w4) (o:p.granted.length+(aA.eA s1.ts s1.es).2.length<=100000):
  ∃ a m cap w5,(∀ ty,(Yr #[38,38] ty #[t,v2]).run prog w4=.ok (.slice a m cap) w5)/\w4.cell? ⟨w1.heap.size,5,U3⟩=U4 t/\w5.heap[w1.heap.size]?=U4 (.cells #[.int .i64 F,.int .i64 at_,.int .i64 n,D,C,t,z] 40 (0,0))/\Q7 (w5.setCell ⟨w1.heap.size,5,U3⟩ (.slice a m cap)) w.heap.size /\
   ∀ x1 x2 x3 x4 x5 x6 x7,dX w d aJ ({ s1 with es:=(aA.eA s1.ts s1.es).1 },{ p with granted:=p.granted++(aA.eA s1.ts s1.es).2 }) (bC F at_ n D C (.slice a m cap) z) (cK (w5.setCell ⟨w1.heap.size,5,U3⟩ (.slice a m cap)) w.heap.size x1 x2 x3 x4 x5 x6 x7):=by
 have S:U9 w1.heap.size w1 (w1.alloc (.cells #[.int .i64 F,.int .i64 at_,.int .i64 n,D,C,t,z] 40)).drew:=((zr _ _).alloc (zq _) _).drew;have ak:(w1.alloc (.cells #[.int .i64 F,.int .i64 at_,.int .i64 n,D,C,t,z] 40)).drew.heap[w1.heap.size]?=U4 (.cells #[.int .i64 F,.int .i64 at_,.int .i64 n,D,C,t,z] 40 (0,0)):=cC w1 _;have T:w1.heap.size<(w1.alloc (.cells #[.int .i64 F,.int .i64 at_,.int .i64 n,D,C,t,z] 40)).drew.heap.size:=by show _<(w1.alloc _).heap.size;simp
 generalize (w1.alloc (.cells #[.int .i64 F,.int .i64 at_,.int .i64 n,D,C,t,z] 40)).drew=W at *;obtain⟨r4,E,q1,q2,q3,q4,u,q6⟩:=g;have af:=hX.size;have ar:=k5.size;have ag:col1 w1.heap.size=U3:=k1.none (zq _);have g4:=(e5.later S).step u (zq _);obtain⟨v3,w5,a1,a2,a3,a4⟩:=g4.append (q6.base (B':=X.heap.size) UI) (by have:=u.size;omega) (fun b o=>q1.none o) o;obtain⟨I,H,rfl⟩:=a2.slice;have J:aF t.ownBlock.toList w4 w5:=aF.grown (aF.refl _ w4) a3 (fun k hk=>.inl (WI.2 hk));have ad:∀ b,t.ownBlock=U4 b->b<w1.heap.size:=fun b o=>(e5.own.lt b o).2
 have ai:w4.heap[w1.heap.size]?=U4 _:=(u.bV T ag T).trans ak;have al:w5.heap[w1.heap.size]?=U4 _:=(J.block _ (by have:=u.size;omega) (fun j=>by have:=ad _ (WI.1 j);omega)).trans ai;have K:=aF.aX w1.heap.size w5 5 (.slice I (p.granted++(aA.eA s1.ts s1.es).2).length H);have M:E w1.heap.size=U3:=u.cU ag T;have O:col1 w.heap.size=U3:=k5.cU ae U;have N:E w.heap.size=U3:=u.cU O UI
 have ab:∀ b,(Value.slice I (p.granted++(aA.eA s1.ts s1.es).2).length H).ownBlock=U4 b->t.ownBlock=U4 b\/b=w4.heap.size:=fun b o=>by
  rcases a4 with e|e
  ·exact .inl (by rw[<- e];exact o)
  ·rw[o] at e;exact .inr (WJ e)
 have aq:=u.size
 have ao:Q7 (w5.setCell ⟨w1.heap.size,5,U3⟩ (.slice I (p.granted++(aA.eA s1.ts s1.es).2).length H)) w.heap.size:=by
  refine h7.later ?_;have b1:=k5.bV U ae U;have b2:=S.block w.heap.size UI;have b3:=u.bV (b:=w.heap.size) UI O UI;have b4:=J.block w.heap.size UI (fun j=>by have:=(e5.own.lt _ (WI.1 j)).1;omega);have b5:=K.block w.heap.size (by have:=J.size;omega) UQ;rw[b5,b4,b3,b2,b1]
 have V:=xk P.own P.no S u J K (zq _) (fun b o j=>(e7 b j).1 o);have aa:=xk e4.own e4.no S u J K (zq _) (fun b o j=>(e7 b j).2.1 o);have Y:=xk e6.own e6.no S u J K (zq _) (fun b o j=>(e7 b j).2.2.1 o)
 have aj:∀ q∈l,qJ (w5.setCell ⟨w1.heap.size,5,U3⟩ (.slice I (p.granted++(aA.eA s1.ts s1.es).2).length H)) X.heap.size E q.2 q.1.aL:=fun q L=>by
  have x:=xk (P.sp q L).1.own (P.sp q L).1.no S u J K (zq _) (fun b o j=>(e7 b j).2.2.2 q L o);exact⟨x.1,x.2⟩
 refine⟨I,_,H,w5,a1,?_,al,ao,fun x1 x2 x3 x4 x5 x6 x7=>?_⟩
 ·simp only[VA,ai];rfl
 ·have kq:=lC (w5.setCell ⟨w1.heap.size,5,U3⟩ (.slice I (p.granted++(aA.eA s1.ts s1.es).2).length H)) w.heap.size x1 x2 x3 x4 x5 x6 x7;have an:∀ x∈[w.heap.size],x<X.heap.size:=fun x j=>by have:x=w.heap.size:=Yo.1 j;omega
  have ac:ku (w5.setCell ⟨w1.heap.size,5,U3⟩ (.slice I (p.granted++(aA.eA s1.ts s1.es).2).length H)) X.heap.size E (bC F at_ n D C (.slice I (p.granted++(aA.eA s1.ts s1.es).2).length H) z) { p with granted:=p.granted++(aA.eA s1.ts s1.es).2 }:=by
   refine⟨D,C,_,z,l,by rw[e1.1,e1.2.1,e1.2.2],hl,⟨V.1,V.2,fun q L=>⟨aj q L,(P.sp q L).2⟩,P.pw⟩,⟨aa.1,aa.2⟩,⟨dO a2.own K (fun b o j=>?_),a2.no⟩,⟨Y.1,Y.2⟩,fun b o=>?_,e8⟩
   ·have e:b=w1.heap.size:=Yo.1 j;rcases ab b o with e2|e2
    ·have:=ad b e2;omega
    ·omega
   ·rcases ab b o with e2|e2
    ·exact e7 b e2
    ·refine⟨fun e=>?_,fun e=>?_,fun e=>?_,fun q L e=>?_⟩
     ·have:=(P.own.lt b e).2;omega
     ·have:=(e4.own.lt b e).2;omega
     ·have:=(e6.own.lt b e).2;omega
     ·have:=((P.sp q L).1.own.lt b e).2;omega
  refine⟨r4,E,((q1.off J (fun x j=>g4.no x (WI.1 j))).off K (fun x j=>by have:x=w1.heap.size:=Yo.1 j;subst this;exact M)).off kq (fun x j=>by have:x=w.heap.size:=Yo.1 j;subst this;exact N),q2,q3,q4,?_,(ac.off kq an).base af⟩;have t1:Step anyS w.heap.size aJ col1 w w1:=(Step.below hX).trans (k5.any af);have t2:Step anyS w.heap.size aJ E w w4:=(t1.trans (Step.below S)).trans (u.any UI);have t3:Step anyS w.heap.size E E w4 w5:=⟨⟨_,J,fun x j=>.inr ⟨g4.no x (WI.1 j),by have:=(e5.own.lt x (WI.1 j)).1;omega⟩⟩,fun _ _ h=>h,fun _ _ h=>.inl h⟩;have t4:Step anyS w.heap.size E E w5 (w5.setCell ⟨w1.heap.size,5,U3⟩ (.slice I (p.granted++(aA.eA s1.ts s1.es).2).length H)):=⟨⟨_,K,fun x j=>.inr (by have:x=w1.heap.size:=Yo.1 j;subst this;exact⟨M,by omega⟩)⟩,fun _ _ h=>h,fun _ _ h=>.inl h⟩;have t5:Step anyS w.heap.size E E _ _:=⟨⟨_,kq,fun x j=>.inr (by have:x=w.heap.size:=Yo.1 j;subst this;exact⟨N,Vd _⟩)⟩,fun _ _ h=>h,fun _ _ h=>.inl h⟩;exact ((t2.trans t3).trans t4).trans t5
theorem ku.later{p:aA.bO}(h:ku w B aJ v p)(k:U9 w.heap.size w w'):ku w' B aJ v p:=by
 obtain⟨j,E,g,o,l,D,C,z,x,u,t,q⟩:=h;exact⟨j,E,g,o,l,D,C,z.later k,x.later k,u.later k,t.later k,q⟩
theorem dX.later{q:St × aA.bO}(h:dX X d aJ q v w1)(k:U9 w1.heap.size w1 w2):dX X d aJ q v w2:=by
 obtain⟨g,col',x,u,t,p,o,j⟩:=h;exact⟨g,col',x.later k,u,t,p,o.trans (Step.below k),j.later k⟩
theorem Q4{l:aA.fJ}(h:(aA.aU s l).2.err≠0):aA.ig s l=aA.aU s l:=by unfold aA.ig;rw[U1 h]
theorem PO{l:aA.fJ}(h:(aA.aU s l).2.err=0):aA.ig s l=({ (aA.aU s l).1 with es:=(aA.eA (aA.aU s l).1.ts (aA.aU s l).1.es).1 },{ (aA.aU s l).2 with granted:=(aA.aU s l).2.granted++(aA.eA (aA.aU s l).1.ts (aA.aU s l).1.es).2 }):=by unfold aA.ig;rw[U0 UI]
theorem NI{a b d e g:U8}(h:w.heap[R]?=U4 (.cells #[a,b,c,d,e,f,g] 40 (0,0))):w.cell? ⟨R,0,U3⟩=U4 a/\w.cell? ⟨R,1,U3⟩=U4 b/\w.cell? ⟨R,2,U3⟩=U4 c/\w.cell? ⟨R,3,U3⟩=U4 d/\w.cell? ⟨R,4,U3⟩=U4 e/\w.cell? ⟨R,5,U3⟩=U4 f/\w.cell? ⟨R,6,U3⟩=U4 g/\∀ o,w.frozen? ⟨R,o,U3⟩=U5:=by
 refine⟨?_,?_,?_,?_,?_,?_,?_,fun o=>frozen_of_row _ R o _ _ h⟩
 all_goals (simp only[VA,h];rfl)
theorem On(h:dS w d s r aJ)(j:U8)(l:aA.fJ)(aa:aA.ec (aA.aU s l).1)(z:(aA.aU s l).2.granted.length<=50000)
  (q:∀ X,U9 w.heap.size w X->dS X d s r aJ->Va prog 64 #[.pointer (U4 ⟨d,0,U3⟩),j] X fun e w'=>∃ v,e=.returned v/\dX X d aJ (aA.aU s l) v w'):
  Va prog 46 #[.pointer (U4 ⟨d,0,U3⟩),j] w fun e w'=>∃ v,e=.returned v/\dX w d aJ (aA.ig s l) v w':=by
 have S:U9 w.heap.size w (w.alloc aW):=(zr _ _).alloc (zq _) _;have hq:=cC w aW;have hs:w.heap.size<(w.alloc aW).heap.size:=UJ
 have AN:=aC (q (w.alloc aW) S ⟨h.dk.later S,h.of,h.wl,h.hl,h.inv⟩);have u:=aC (zA S (zA (Q7.of hq) (h.dk.none (zq _))));have HM:=aC (zA aa z);have HE:=aC (Q4 (s:=s) (l:=l));have HO:=aC (PO (s:=s) (l:=l));clear h q S hq z;generalize aA.ig s l=SD at *;generalize aA.aU s l=D at *
 go_in
 go_upto_region 1 with fail
 change Code.wp _ _ _ _ (w.alloc aW);generalize w.alloc aW=X at *
 go_wp2_with fail
 refine AN.y.mono ?_;rintro e w1 ⟨v,rfl,ap⟩;have AP:=aC ap;obtain⟨r1,col1,O,k2,k3,k4,N,en,da,gr,ed,x,rfl,t,Y,W,V,U,T⟩:=ap;obtain⟨L,c1,rfl⟩:=iy Y.own;obtain⟨K,H,rfl⟩:=W.slice;obtain⟨J,F,rfl⟩:=V.slice;obtain⟨I,E,rfl⟩:=U.slice;have ab:=N.size
 by_cases P:D.2.err=0
 ·have M:=aC (HO.y P);have GR:=aC (Tt (w:=(w1.alloc (.cells #[.int .i64 D.2.err,.int .i64 D.2.at_,.int .i64 D.2.n,.slice L x.length c1,.slice K D.2.days.length H,.slice J D.2.granted.length F,.slice I D.2.ended.length E] 40)).drew) (O.later ((zr _ _).alloc (zq _) _).drew) k2 k3 k4 HM.y.1)
  have AG:=aC (fun v2 w4 g=>Sb (w:=w) (w4:=w4) (v2:=v2) (s1:=D.1) u.y.1 hs u.y.2.1 u.y.2.2 O N t Y W V U T.1 T.2 ⟨rfl,rfl,rfl⟩ g (by
   have h1:=Cu D.1.ts (D.1.es.filter aA.fe) (D.1.es,[]);have h2:=Wx aA.fe D.1.es;have h3:=lY HM.y.1;have e1:=aA.Jp D.1.ts D.1.es HM.y.1.ids;have h4:=HM.y.2;simp only[VZ] at h1;rw[<- e1] at h1
   omega))
  have yR:(w1.alloc (.cells #[.int .i64 D.2.err,.int .i64 D.2.at_,.int .i64 D.2.n,.slice L x.length c1,.slice K D.2.days.length H,.slice J D.2.granted.length F,.slice I D.2.ended.length E] 40)).cell? ⟨w1.heap.size,5,U3⟩=U4 (.slice J D.2.granted.length F):=UJ
  clear O k2 k3 k4 N t Y W V U T AP AN;simp only[bC];rw[P] at GR AG yR M ⊢
  go_upto_region 3 with fail
  go_region_law (first
   |(refine qW (by rfl) 65 _ _ (by rfl) _ (by simp[Act.eval,Act.put]) (SF _ _) GR.y ?_;rintro e w4 ⟨v2,rfl,p⟩;refine⟨_,rfl,?_⟩;obtain⟨a,m,cap,w5,o,g5,h5,q7,C⟩:=AG.y v2 w4 p;have HR:=aC o;have HF:=aC C;clear o C;obtain⟨y0,y1,y2,y3,y4,y5,y6,fR⟩:=NI h5;obtain⟨q0,q1,q2,q3,q4,q5,q6,fq⟩:=q7)
   |(refine UC (by rfl) _ _ _ _ (by rfl) (HR.y _) ?_))
  all_goals
   have HG:=aC (HF.y (.int .i64 0) (.int .i64 D.2.at_) (.int .i64 D.2.n) (.slice L x.length c1) (.slice K D.2.days.length H) (.slice a m cap) (.slice I D.2.ended.length E));clear HF p GR AG HR yR g5 h5
   go_wp2_with fail
   exact cO results46 ⟨q0,q1,q2,q3,q4,q5,q6,fq⟩ ⟨_,rfl,by rw[M.y];exact HG.y⟩
 ·have ac:(D.2.err==0)=U5:=by simpa using P
  have HD:=aC (HE.y P);have kW:U9 w1.heap.size w1 (w1.alloc (.cells #[.int .i64 D.2.err,.int .i64 D.2.at_,.int .i64 D.2.n,.slice L x.length c1,.slice K D.2.days.length H,.slice J D.2.granted.length F,.slice I D.2.ended.length E] 40)):=(zr _ _).alloc (zq _) _;obtain⟨_,_,_,_,_,_,_,_,_,_,_,_,_,_,_,_,q7,C⟩:=(AP.y.later kW).up u.y.1 (zq _) hs u.y.2.2 u.y.2.1;have HF:=aC (C (.int .i64 D.2.err) (.int .i64 D.2.at_) (.int .i64 D.2.n) (.slice L x.length c1) (.slice K D.2.days.length H) (.slice J D.2.granted.length F) (.slice I D.2.ended.length E));obtain⟨q0,q1,q2,q3,q4,q5,q6,fq⟩:=q7;clear O k2 k3 k4 N t Y W V U T AP AN C kW;simp only[bC];generalize D.2.err=er at *
  go_wp2_with fail
  exact cO results46 ⟨q0,q1,q2,q3,q4,q5,q6,fq⟩ ⟨_,rfl,by rw[HD.y];exact HF.y⟩
theorem eC{a b:UX}(h:a=b):Ve (.bool a)=.returned (.bool b):=by rw[h]
theorem fL{k:IntKind}(h:a=b):Ve (.int k a)=.returned (.int k b):=by rw[h]
def gy(w:U7):Prop:=w.cell? ⟨1,0,U3⟩=U4 (.int .i64 31)/\w.cell? ⟨1,1,U3⟩=U4 (.int .i64 28)/\w.cell? ⟨1,2,U3⟩=U4 (.int .i64 31)/\w.cell? ⟨1,3,U3⟩=U4 (.int .i64 30)/\w.cell? ⟨1,4,U3⟩=U4 (.int .i64 31)/\w.cell? ⟨1,5,U3⟩=U4 (.int .i64 30)/\w.cell? ⟨1,6,U3⟩=U4 (.int .i64 31)/\w.cell? ⟨1,7,U3⟩=U4 (.int .i64 31)/\w.cell? ⟨1,8,U3⟩=U4 (.int .i64 30)/\w.cell? ⟨1,9,U3⟩=U4 (.int .i64 31)/\w.cell? ⟨1,10,U3⟩=U4 (.int .i64 30)/\w.cell? ⟨1,11,U3⟩=U4 (.int .i64 31)
theorem Ru(y:UZ)(w:U7)(p:0<=y)(o:y<=10000):
  Va prog 228 #[.int .i64 y] w fun e w'=>e=.returned (.bool (Cal.lP y))/\w'=w:=by
 cases j:(y % 4==0)
 ·go_in
  go_wp2;go_ret;exact⟨eC (by simp[Cal.lP,j]),rfl⟩
 ·cases g:(y % 100 != 0)
  ·cases h:(y % 400==0)
   all_goals
    go_in
    go_wp2;go_ret;exact⟨eC (by simp only[Cal.lP,j,g,h];rfl),rfl⟩
  ·go_in
   go_wp2;go_ret;exact⟨eC (by simp only[Cal.lP,j,g];rfl),rfl⟩
theorem yt(y:UZ)(w:U7)(h:1<=y)(g:y<=10000):
  Va prog 168 #[.int .i64 y] w fun e w'=>e=.returned (.int .i64 (Cal.ah y))/\w'=w:=by
 go_in
 go_wp2;go_ret;exact⟨fL (by unfold Cal.ah;omega),rfl⟩
theorem yb(y m:UZ)(w:U7)(ht:gy w)(u:0<=y)(t:y<=10000)(o:1<=m)(j:m<=12):
  Va prog 169 #[.int .i64 y,.int .i64 m] w fun e w'=>e=.returned (.int .i64 (Cal.fP y m))/\w'=w:=by
 obtain⟨J,c1,I,H,F,E,D,C,z,x,q,p⟩:=ht;rcases Cal.AD m o j with h|h|h|h|h|h|h|h|h|h|h|h
 ·subst h
  go_in
  go_wp2;go_ret;exact⟨fL (by simp[Cal.fP,Cal.iL]),rfl⟩
 ·subst h
  cases g:Cal.lP y
  all_goals
   go_in
   go_wp2_with (go_at_call 228;refine (Ru _ _ UI UI).mono ?_;rintro e w' ⟨rfl,rfl⟩)
   go_ret;exact⟨fL (by simp[Cal.fP,Cal.lp,g]),rfl⟩
 all_goals
  subst h
  go_in
  go_wp2;go_ret;exact⟨fL (by simp[Cal.fP,Cal.iL]),rfl⟩
theorem SA(g:UZ)(w:U7)(x:0<=g)(C:g<3652059):
  Va prog 171 #[.int .i64 g] w fun e w'=>∃ y:UZ,e=.returned (.int .i64 y)/\1<=y/\y<=9999/\Cal.ah y<=g/\g<Cal.ah (y+1)/\w'=w:=by
 have u:=Cal.Gg g x
 go_in
 go_wp2
 go_loop [3] (fun t=>∃ y:UZ,1<=y/\y<=9999/\Cal.ah y<=g/\t=.int .i64 y) (fun t=>(9999-intOf t).toNat)
 case atStart=>exact⟨_,by omega,by omega,u,rfl⟩
 case round =>
  obtain⟨y,o,j,h,rfl⟩:=hrel;clear u
  by_cases q:Cal.ah (y+1)<=g
  ·have z:y<9999:=by
    by_cases e:y=9999
    ·subst e;have:=Cal.xp;rw[show (9999:UZ)+1=10000 from rfl] at q;omega
    ·omega
   go_wp2_with (go_at_call 168;refine (yt _ _ UI UI).mono ?_;rintro e w' ⟨rfl,rfl⟩)
   go_round
   case rel=>exact⟨y+1,by omega,by omega,q,rfl⟩
   case measure=>simp[intOf];omega
  ·have p:g<Cal.ah (y+1):=UI
   go_wp2_with (go_at_call 168;refine (yt _ _ UI UI).mono ?_;rintro e w' ⟨rfl,rfl⟩)
   go_ret;exact⟨y,rfl,o,j,h,p,rfl⟩
theorem lu{d:UZ}(h:¬ (1<=y/\y<=9999/\1<=m/\m<=12/\1<=d/\d<=Cal.fP y m)):Cal.ok y m d=U5:=by
 unfold Cal.ok;exact decide_eq_false h
theorem uY{d:UZ}(h:1<=y/\y<=9999/\1<=m/\m<=12/\1<=d/\d<=Cal.fP y m):Cal.ok y m d=U6:=by
 unfold Cal.ok;exact decide_eq_true h
theorem Iy(y m d:UZ)(w:U7)(ht:gy w):
  Va prog 167 #[.int .i64 y,.int .i64 m,.int .i64 d] w fun e w'=>e=.returned (.bool (Cal.ok y m d))/\w'=w:=by
 by_cases a:1<=y
 ·by_cases b:y<=9999
  ·by_cases c:1<=m
   ·by_cases f:m<=12
    ·by_cases g:1<=d
     ·by_cases k:d<=Cal.fP y m
      all_goals
       go_in
       go_wp2_with (go_at_call 169;refine (yb _ _ _ ht UI UI UI UI).mono ?_;rintro e w' ⟨rfl,rfl⟩)
       go_ret
      ·exact⟨eC (by rw[uY ⟨a,b,c,f,g,k⟩]),rfl⟩
      ·exact⟨eC (by rw[lu UI];exact decide_eq_false UI),rfl⟩
     ·go_in
      go_wp2;go_ret;exact⟨eC (by rw[lu UI]),rfl⟩
    ·go_in
     go_wp2;go_ret;exact⟨eC (by rw[lu UI]),rfl⟩
   ·go_in
    go_wp2;go_ret;exact⟨eC (by rw[lu UI]),rfl⟩
  ·go_in
   go_wp2;go_ret;exact⟨eC (by rw[lu UI]),rfl⟩
 ·go_in
  go_wp2;go_ret;exact⟨eC (by rw[lu UI]),rfl⟩
theorem BS(y m d:UZ)(w:U7)(ht:gy w)(h:Cal.ok y m d=U5):
  Va prog 112 #[.int .i64 y,.int .i64 m,.int .i64 d] w fun e w'=>e=.returned (.tuple #[.int .i64 0,.int .i64 6])/\w'=w:=by
 go_in
 go_wp2_with (go_at_call 167;refine (Iy _ _ _ _ ht).mono ?_;rintro e w' ⟨rfl,rfl⟩)
 go_ret2;exact⟨rfl,rfl⟩
theorem Fz{k l:IntKind}{c:UZ}(h:a=b):Ve (.tuple #[.int k a,.int l c])=.returned (.tuple #[.int k b,.int l c]):=by rw[h]
theorem Ce(y m d:UZ)(w:U7)(ht:gy w)(h:Cal.ok y m d=U6):
  Va prog 112 #[.int .i64 y,.int .i64 m,.int .i64 d] w fun e w'=>e=.returned (.tuple #[.int .i64 (Cal.num y m d),.int .i64 0])/\w'=w:=by
 obtain⟨q,H,F,E,D,C⟩:=(Cal.gO y m d).1 h;have z:=Cal.qv y q UI;have p:=Cal.nQ y m;have u:=Cal.qy y
 go_in
 go_wp2_with (first|(go_at_call 167;refine (Iy _ _ _ _ ht).mono ?_;rintro e w' ⟨rfl,rfl⟩)|(go_at_call 168;refine (yt _ _ UI UI).mono ?_;rintro e w' ⟨rfl,rfl⟩))
 go_loop [8,9] (fun n k=>∃ j:UZ,1<=j/\j<=m/\k=.int .i64 j/\n=.int .i64 (-738885+Cal.ah y+d-1+Cal.cI y j)) (fun _ k=>(m-intOf k).toNat)
 case atStart=>exact⟨1,by omega,by omega,rfl,by rw[Cal.oA,Yv]⟩
 case round =>
  obtain⟨j,g,o,rfl,rfl⟩:=hrel;have cb:=Cal.qz y j g UI;have I:=Cal.nQ y j;have cs:=Cal.pI y j g UI;have t:Hid (Cal.cI y (j+1)=Cal.cI y j+Cal.fP y j):=cs;clear cs
  by_cases x:j<m
  ·go_wp2_with (go_at_call 169;refine (yb _ _ _ ht UI UI UI UI).mono ?_;rintro e w' ⟨rfl,rfl⟩)
   go_round
   case rel=>exact⟨j+1,by omega,by omega,rfl,by rw[t.y];go_num⟩
   case measure=>simp[intOf];omega
  ·obtain rfl:j=m:=UI
   go_wp2;go_ret2;exact⟨Fz (by unfold Cal.num Cal.first;omega),rfl⟩
theorem pA{j:Func}{t u v x:Tmp}(h:j.results=#[.tmp t,.tmp u,.tmp v,.tmp x])(g:Array U8)(P:Program)(w:U7):
  (results j g).run P w=.ok (.tuple #[g.getD t undef,g.getD u undef,g.getD v undef,g.getD x undef]) w:=by
 simp[results,h]
theorem N7(n y k:UZ):Cal.num y k (n+738885-Cal.ah y-Cal.cI y k+1)=n:=by unfold Cal.num Cal.first;omega
theorem SJ(n:UZ)(w:U7)(ht:gy w)(J:-738885<=n)(I:n<=2913173):
  Va prog 116 #[.int .i64 n] w fun e w'=>∃ y m d:UZ,e=.returned (.tuple #[.int .i64 y,.int .i64 m,.int .i64 d,.int .i64 0])/\Cal.ok y m d=U6/\Cal.num y m d=n/\w'=w:=by
 go_in
 go_wp2_with (first|(go_at_call 171;refine (SA _ _ UI UI).mono ?_;rintro e w' ⟨y,rfl,g,z,x,u,rfl⟩;have H:=Cal.qv y g UI)|(go_at_call 168;refine (yt _ _ UI UI).mono ?_;rintro e w' ⟨rfl,rfl⟩))
 have p:=Cal.sj y g;have E:=Cal.qy y
 go_loop [8,9] (fun r k=>∃ m:UZ,1<=m/\m<=12/\k=.int .i64 m/\0<=n+738885-Cal.ah y-Cal.cI y m/\r=.int .i64 (n+738885-Cal.ah y-Cal.cI y m)) (fun _ k=>(12-intOf k).toNat)
 case atStart=>exact⟨1,by omega,by omega,rfl,by rw[Cal.oA];omega,by rw[Cal.oA,Yw]⟩
 case round =>
  obtain⟨m,h,o,rfl,C,rfl⟩:=hrel;have cb:=Cal.qz y m h UI;have K:=Cal.nQ y m;have cs:=Cal.pI y m h o;have q:=Cal.vb y
  by_cases F:Cal.fP y m<=n+738885-Cal.ah y-Cal.cI y m
  ·have D:m<12:=by
    by_cases e:m=12
    ·subst e;rw[show (12:UZ)+1=13 from rfl] at cs;omega
    ·omega
   have t:Hid (Cal.cI y (m+1)=Cal.cI y m+Cal.fP y m):=cs;clear cs q p
   go_wp2_with (go_at_call 169;refine (yb _ _ _ ht UI UI UI UI).mono ?_;rintro e w' ⟨rfl,rfl⟩)
   go_round
   case rel=>exact⟨m+1,by omega,by omega,rfl,by rw[t.y];omega,by rw[t.y];go_num⟩
   case measure=>simp[intOf];omega
  ·have j:Cal.ok y m (n+738885-Cal.ah y-Cal.cI y m+1)=U6:=uY UI;clear cs q p
   go_wp2_with (go_at_call 169;refine (yb _ _ _ ht UI UI UI UI).mono ?_;rintro e w' ⟨rfl,rfl⟩)
   (try simp only[Wq,Exit.then]);refine bodyPost_ret (pA rfl _ _ _) rfl ?_
   exact⟨y,m,_,rfl,j,N7 n y m,rfl⟩
theorem EO(y:UZ)(w:U7)(p:0<=y)(o:y<=10000):
  Va prog 170 #[.int .i64 y] w fun e w'=>e=.returned (.bool (Cal.lP y))/\w'=w:=by
 cases g:(y % 100==0)
 ·go_in
  go_wp2;go_ret;exact⟨eC (by simp only[Cal.lP,bne,g];simp),rfl⟩
 ·have h:(y % 4==0)=U6:=by simp only[beq_iff_eq] at g ⊢;omega
  have j:Hid ((y % 4==0)=U6):=h;clear h
  go_in
  go_wp2;go_ret;exact⟨eC (by simp only[Cal.lP,bne,g,j.y];simp),rfl⟩
theorem qu(y:UZ)(w:U7)(j:0<=y)(h:y<=10000):
  Va prog 115 #[.int .i64 y] w fun e w'=>e=.returned (.int .i64 (365+Cal.lp y))/\w'=w:=by
 cases g:Cal.lP y
 all_goals
  go_in
  go_wp2_with (go_at_call 170;refine (EO _ _ UI UI).mono ?_;rintro e w' ⟨rfl,rfl⟩)
  go_ret;exact⟨fL (by simp[Cal.lp,g]),rfl⟩
theorem tj(y m:UZ)(w:U7)(q:0<=y)(p:y<=10000)(o:1<=m)(j:m<=12):
  Va prog 114 #[.int .i64 y,.int .i64 m] w fun e w'=>e=.returned (.int .i64 (Cal.fP y m))/\w'=w:=by
 rcases Cal.AD m o j with h|h|h|h|h|h|h|h|h|h|h|h
 ·subst h
  go_in
  go_wp2;go_ret;exact⟨fL (by simp[Cal.fP,Cal.iL]),rfl⟩
 ·subst h
  cases g:Cal.lP y
  all_goals
   go_in
   go_wp2_with (go_at_call 170;refine (EO _ _ UI UI).mono ?_;rintro e w' ⟨rfl,rfl⟩)
   go_ret;exact⟨fL (by simp[Cal.fP,Cal.lp,g]),rfl⟩
 all_goals
  subst h
  go_in
  go_wp2;go_ret;exact⟨fL (by simp[Cal.fP,Cal.iL]),rfl⟩
theorem EA(y m d:UZ)(w:U7):
  Va prog 113 #[.int .i64 y,.int .i64 m,.int .i64 d] w fun e w'=>e=.returned (.bool (Cal.ok y m d))/\w'=w:=by
 by_cases a:1<=y
 ·by_cases b:y<=9999
  ·by_cases c:1<=m
   ·by_cases f:m<=12
    ·by_cases g:1<=d
     ·by_cases k:d<=Cal.fP y m
      all_goals
       go_in
       go_wp2_with (go_at_call 114;refine (tj _ _ _ UI UI UI UI).mono ?_;rintro e w' ⟨rfl,rfl⟩)
       go_ret
      ·exact⟨eC (by rw[uY ⟨a,b,c,f,g,k⟩]),rfl⟩
      ·exact⟨eC (by rw[lu UI];exact decide_eq_false UI),rfl⟩
     ·go_in
      go_wp2;go_ret;exact⟨eC (by rw[lu UI]),rfl⟩
    ·go_in
     go_wp2;go_ret;exact⟨eC (by rw[lu UI]),rfl⟩
   ·go_in
    go_wp2;go_ret;exact⟨eC (by rw[lu UI]),rfl⟩
  ·go_in
   go_wp2;go_ret;exact⟨eC (by rw[lu UI]),rfl⟩
 ·go_in
  go_wp2;go_ret;exact⟨eC (by rw[lu UI]),rfl⟩
theorem Mr(y m d:UZ)(w:U7)(h:Cal.ok y m d=U5):
  Va prog 71 #[.int .i64 y,.int .i64 m,.int .i64 d] w fun e w'=>e=.returned (.tuple #[.int .i64 0,.int .i64 6])/\w'=w:=by
 go_in
 go_wp2_with (go_at_call 113;refine (EA _ _ _ _).mono ?_;rintro e w' ⟨rfl,rfl⟩)
 go_ret2;exact⟨rfl,rfl⟩
theorem uO:Cal.ah 2024=738885:=UK
theorem MI(y m d:UZ)(w:U7)(h:Cal.ok y m d=U6):
  Va prog 71 #[.int .i64 y,.int .i64 m,.int .i64 d] w fun e w'=>e=.returned (.tuple #[.int .i64 (Cal.num y m d),.int .i64 0])/\w'=w:=by
 obtain⟨C,h2,K,h4,h5,h6⟩:=(Cal.gO y m d).1 h;have hb:=Cal.qv y C UI;have J:=Cal.nQ y m;have hl:=Cal.qy y;have M:=Cal.qz y m K UI
 go_in
 go_wp2_with (go_at_call 113;refine (EA _ _ _ _).mono ?_;rintro e w' ⟨rfl,rfl⟩)
 go_loop [9,10,11] (fun n k _=>∃ j:UZ,1<=j/\j<=m/\k=.int .i64 j/\n=.int .i64 (d-1+Cal.cI y j)) (fun _ k _=>(m-intOf k).toNat)
 case atStart=>exact⟨1,by omega,by omega,rfl,by rw[Cal.oA,Yv]⟩
 case round =>
  obtain⟨j,p,H,rfl,rfl⟩:=hrel;have cb:=Cal.qz y j p UI;have db:=Cal.nQ y j;have cs:=Cal.pI y j p UI;have S:Hid (Cal.cI y (j+1)=Cal.cI y j+Cal.fP y j):=cs;clear cs
  by_cases hc:j<m
  ·go_wp2_with (go_at_call 114;refine (tj _ _ _ UI UI UI UI).mono ?_;rintro e w' ⟨rfl,rfl⟩)
   go_round
   case rel=>exact⟨j+1,by omega,by omega,rfl,by rw[S.y];go_num⟩
   case measure=>simp[intOf];omega
  ·obtain rfl:j=m:=UI
   go_wp2
   go_loop [9,12,13] (fun n k _=>∃ g:UZ,2024<=g/\(g<=y\/g=2024)/\k=.int .i64 g/\n=.int .i64 (d-1+Cal.cI y j+(Cal.ah g - 738885))) (fun _ k _=>(y-intOf k).toNat)
   case atStart=>exact⟨2024,by omega,by omega,rfl,by rw[uO];go_num⟩
   case round =>
    obtain⟨k,F,E,rfl,rfl⟩:=hrel;have V:=Cal.qv k UI UI;have U:=Cal.qy k;have x:=Cal.sj k UI;have O:Hid (Cal.ah (k+1)=Cal.ah k+365+Cal.lp k):=x;clear x
    by_cases hk:k<y
    ·go_wp2_with (go_at_call 115;refine (qu _ _ UI UI).mono ?_;rintro e w' ⟨rfl,rfl⟩)
     go_round
     case rel=>exact⟨k+1,by omega,by omega,rfl,by rw[O.y];go_num⟩
     case measure=>simp[intOf];omega
    ·have T:Cal.ah y<=Cal.ah k:=Cal.sq y k C UI;have o:(y=k)\/(y<2024/\k=2024):=UI
     have u:Hid ((y=k)\/(y<2024/\k=2024)):=o;clear o;go_wp2
     go_loop [9,14,15] (fun n q _=>∃ i:UZ,y<=i/\(i<=2024\/i=y)/\q=.int .i64 i/\n=.int .i64 (d-1+Cal.cI y j+(Cal.ah k-738885)-(Cal.ah i-Cal.ah y))) (fun _ q _=>(2024-intOf q).toNat)
     case atStart=>exact⟨y,by omega,by omega,rfl,by go_num⟩
     case round =>
      obtain⟨i,t,I,rfl,rfl⟩:=hrel;have Y:=Cal.qv i UI UI;have W:=Cal.qy i;have z:=Cal.sj i UI;have P:Hid (Cal.ah (i+1)=Cal.ah i+365+Cal.lp i):=z;clear z
      by_cases hi:i<2024
      ·go_wp2_with (go_at_call 115;refine (qu _ _ UI UI).mono ?_;rintro e w' ⟨rfl,rfl⟩)
       go_round
       case rel=>exact⟨i+1,by omega,by omega,rfl,by rw[P.y];go_num⟩
       case measure=>simp[intOf];omega
      ·go_wp2;go_ret2;refine⟨Fz ?_,rfl⟩;have N:=uO;rcases u.y with e|⟨e1,L⟩
       ·subst e
        by_cases D:i=y
        ·subst D;unfold Cal.num Cal.first;omega
        ·obtain rfl:i=2024:=UI
         exact U2 t UI
       ·subst L;obtain rfl:i=2024:=UI
        unfold Cal.num Cal.first;omega
theorem early(n z:UZ)(h:0<=n+(738885-Cal.ah z)\/z=1)(g:n+(738885-Cal.ah z)<0):n < -738885\/2913173<n:=by
 rcases h with h|h
 ·omega
 ·subst h;have:=Cal.KM;omega
theorem late(n z:UZ)(h:z=9999)(e:Cal.ah (z+1)=Cal.ah z+365+Cal.lp z)(g:365+Cal.lp z<=n+(738885-Cal.ah z)):n < -738885\/2913173<n:=by
 subst h;have:=Cal.xp;rw[show (9999:UZ)+1=10000 from rfl] at e;omega
theorem zO(n y k:UZ):Cal.num y k (n+(738885-Cal.ah y)-Cal.cI y k+1)=n:=by unfold Cal.num Cal.first;omega
theorem inside(n z m:UZ)(h:Cal.ok z m (n+(738885-Cal.ah z)-Cal.cI z m+1)=U6):¬ (n < -738885\/2913173<n):=by
 have b:=Cal.AE _ _ _ h;rw[zO] at b;unfold Cal.first Cal.last at b;omega
theorem M4(n:UZ)(w:U7)(h1:-9223372036854775808<=n)(h2:n<=9223372036854775807):
  Va prog 73 #[.int .i64 n] w fun e w'=>((n < -738885\/2913173<n)/\e=.returned (.tuple #[.int .i64 0,.int .i64 0,.int .i64 0,.int .i64 6])\/(¬ (n < -738885\/2913173<n))/\∃ y m d:UZ,e=.returned (.tuple #[.int .i64 y,.int .i64 m,.int .i64 d,.int .i64 0])/\Cal.ok y m d=U6/\Cal.num y m d=n)/\w'=w:=by
 go_in
 go_wp2
 go_loop [0,6,7] (fun t k _=>∃ y:UZ,1<=y/\y<=2024/\k=.int .i64 y/\t=.int .i64 (n+(738885-Cal.ah y))/\n+(738885-Cal.ah y)<=9223372036854775807) (fun _ k _=>(intOf k).toNat)
 case atStart=>exact⟨2024,by omega,by omega,rfl,by rw[uO];go_num,by rw[uO];omega⟩
 case round =>
  obtain⟨y,D,L,rfl,rfl,K⟩:=hrel;have S:=Cal.qv y D UI;have N:=Cal.sq y 2024 D L;rw[uO] at N
  by_cases M:n+(738885-Cal.ah y)<0/\1<y
  ·obtain⟨M,W⟩:=M;have ys:=Cal.sj (y-1) UI;rw[show y-1+1=y from by omega] at ys;have yl:=Cal.qy (y-1);have P:Hid (Cal.ah y=Cal.ah (y-1)+365+Cal.lp (y-1)):=ys;clear ys
   go_wp2_with (go_at_call 115;refine (qu _ _ UI UI).mono ?_;rintro e w' ⟨rfl,rfl⟩)
   go_round
   case rel=>exact⟨y-1,by omega,by omega,rfl,by have:=P.y;go_num,by have:=P.y;omega⟩
   case measure=>simp[intOf];omega
  ·have O:0<=n+(738885-Cal.ah y)\/y=1:=UI
   have HZ:Hid (0<=n+(738885-Cal.ah y)\/y=1):=O;clear O;have p:(n+(738885-Cal.ah y)<0/\¬ 1<y)\/¬ n+(738885-Cal.ah y)<0:=UI
   clear M;rcases p with ⟨p,W⟩|p
   all_goals
    go_wp2
    go_loop [0,6,8] (fun t k _=>∃ z:UZ,1<=z/\z<=9999/\k=.int .i64 z/\t=.int .i64 (n+(738885-Cal.ah z))/\n+(738885-Cal.ah z)<=9223372036854775807/\(0<=n+(738885-Cal.ah z)\/z=1)) (fun _ k _=>(9999-intOf k).toNat)
    case atStart=>exact⟨y,by omega,by omega,rfl,rfl,K,HZ.y⟩
    case round =>
     obtain⟨z,C,V,rfl,rfl,T,x⟩:=hrel;have H:Hid (0<=n+(738885-Cal.ah z)\/z=1):=x;clear x S N p;have zb:=Cal.qv z C UI;have zl:=Cal.qy z;have zs:=Cal.sj z C;have J:Hid (Cal.ah (z+1)=Cal.ah z+365+Cal.lp z):=zs;clear zs
     by_cases U:z<9999
     ·by_cases E:365+Cal.lp z<=n+(738885-Cal.ah z)
      ·go_wp2_with (go_at_call 115;refine (qu _ _ UI UI).mono ?_;rintro e w' ⟨rfl,rfl⟩)
       go_round
       case rel=>exact⟨z+1,by omega,by omega,rfl,by have:=J.y;go_num,by have:=J.y;omega,by have:=J.y;omega⟩
       case measure=>simp[intOf];omega
      ·by_cases h:n+(738885-Cal.ah z)<0
       ·go_wp2_with (go_at_call 115;refine (qu _ _ UI UI).mono ?_;rintro e w' ⟨rfl,rfl⟩)
        (try simp only[Wq,Exit.then]);refine bodyPost_ret (pA rfl _ _ _) rfl ?_
        exact⟨Or.inl ⟨early n z H.y h,rfl⟩,rfl⟩
       ·go_wp2_with (go_at_call 115;refine (qu _ _ UI UI).mono ?_;rintro e w' ⟨rfl,rfl⟩)
        go_loop [0,9,10] (fun r k _=>∃ m:UZ,1<=m/\m<=12/\k=.int .i64 m/\0<=n+(738885-Cal.ah z)-Cal.cI z m/\r=.int .i64 (n+(738885-Cal.ah z)-Cal.cI z m)) (fun _ k _=>(12-intOf k).toNat)
        case atStart=>exact⟨1,by omega,by omega,rfl,by rw[Cal.oA];omega,by rw[Cal.oA,Yw]⟩
        case round =>
         obtain⟨m,j,q,rfl,Y,rfl⟩:=hrel;have cb:=Cal.qz z m j UI;have db:=Cal.nQ z m;have cs:=Cal.pI z m j q;have F:=Cal.vb z
         by_cases hd:Cal.fP z m<=n+(738885-Cal.ah z)-Cal.cI z m
         ·have hm:m<12:=by
           by_cases e:m=12
           ·subst e;rw[show (12:UZ)+1=13 from rfl] at cs;omega
           ·omega
          have I:Hid (Cal.cI z (m+1)=Cal.cI z m+Cal.fP z m):=cs;clear cs F
          go_wp2_with (go_at_call 114;refine (tj _ _ _ UI UI UI UI).mono ?_;rintro e w' ⟨rfl,rfl⟩)
          go_round
          case rel=>exact⟨m+1,by omega,by omega,rfl,by rw[I.y];omega,by rw[I.y];go_num⟩
          case measure=>simp[intOf];omega
         ·have g:Cal.ok z m (n+(738885-Cal.ah z)-Cal.cI z m+1)=U6:=uY UI;have o:¬ (n < -738885\/2913173<n):=inside n z m g;have u:Hid (¬ (n < -738885\/2913173<n)):=o;clear cs F o
          go_wp2_with (go_at_call 114;refine (tj _ _ _ UI UI UI UI).mono ?_;rintro e w' ⟨rfl,rfl⟩)
          (try simp only[Wq,Exit.then]);refine bodyPost_ret (pA rfl _ _ _) rfl ?_
          exact⟨Or.inr ⟨u.y,z,m,_,rfl,g,zO n z m⟩,rfl⟩
     ·by_cases h:n+(738885-Cal.ah z)<0
      ·go_wp2
       (try simp only[Wq,Exit.then]);refine bodyPost_ret (pA rfl _ _ _) rfl ?_
       exact⟨Or.inl ⟨early n z H.y h,rfl⟩,rfl⟩
      ·by_cases E:365+Cal.lp z<=n+(738885-Cal.ah z)
       ·go_wp2_with (go_at_call 115;refine (qu _ _ UI UI).mono ?_;rintro e w' ⟨rfl,rfl⟩)
        (try simp only[Wq,Exit.then]);refine bodyPost_ret (pA rfl _ _ _) rfl ?_
        exact⟨Or.inl ⟨late n z UI J.y E,rfl⟩,rfl⟩
       ·go_wp2_with (go_at_call 115;refine (qu _ _ UI UI).mono ?_;rintro e w' ⟨rfl,rfl⟩)
        go_loop [0,9,10] (fun r k _=>∃ m:UZ,1<=m/\m<=12/\k=.int .i64 m/\0<=n+(738885-Cal.ah z)-Cal.cI z m/\r=.int .i64 (n+(738885-Cal.ah z)-Cal.cI z m)) (fun _ k _=>(12-intOf k).toNat)
        case atStart=>exact⟨1,by omega,by omega,rfl,by rw[Cal.oA];omega,by rw[Cal.oA,Yw]⟩
        case round =>
         obtain⟨m,j,q,rfl,Y,rfl⟩:=hrel;have cb:=Cal.qz z m j UI;have db:=Cal.nQ z m;have cs:=Cal.pI z m j q;have F:=Cal.vb z
         by_cases hd:Cal.fP z m<=n+(738885-Cal.ah z)-Cal.cI z m
         ·have hm:m<12:=by
           by_cases e:m=12
           ·subst e;rw[show (12:UZ)+1=13 from rfl] at cs;omega
           ·omega
          have I:Hid (Cal.cI z (m+1)=Cal.cI z m+Cal.fP z m):=cs;clear cs F
          go_wp2_with (go_at_call 114;refine (tj _ _ _ UI UI UI UI).mono ?_;rintro e w' ⟨rfl,rfl⟩)
          go_round
          case rel=>exact⟨m+1,by omega,by omega,rfl,by rw[I.y];omega,by rw[I.y];go_num⟩
          case measure=>simp[intOf];omega
         ·have g:Cal.ok z m (n+(738885-Cal.ah z)-Cal.cI z m+1)=U6:=uY UI;have o:¬ (n < -738885\/2913173<n):=inside n z m g;have u:Hid (¬ (n < -738885\/2913173<n)):=o;clear cs F o
          go_wp2_with (go_at_call 114;refine (tj _ _ _ UI UI UI UI).mono ?_;rintro e w' ⟨rfl,rfl⟩)
          (try simp only[Wq,Exit.then]);refine bodyPost_ret (pA rfl _ _ _) rfl ?_
          exact⟨Or.inr ⟨u.y,z,m,_,rfl,g,zO n z m⟩,rfl⟩
theorem hide{p:Prop}(h:p):Hid p:=h
theorem aK{p:Prop}(h:Hid p):p:=h
theorem gy.later(h:gy w)(g:U9 w.heap.size w wx):gy wx:=by
 obtain⟨E,c1,D,C,z,x,u,t,q,p,o,j⟩:=h;exact⟨cell_later g E,cell_later g c1,cell_later g D,cell_later g C,cell_later g z,cell_later g x,cell_later g u,cell_later g t,cell_later g q,cell_later g p,cell_later g o,cell_later g j⟩
theorem eG{k:IntKind}{c d:UX}(h:a=b)(g:c=d):Ve (.tuple #[.int k a,.bool c])=.returned (.tuple #[.int k b,.bool d]):=by rw[h,g]
theorem eT(s:UU)(w:U7)(C:s.size<=maxLen):
  Va prog 139 #[.string s] w fun e w'=>e=.returned (.tuple #[.int .i64 (aB.cF s.data.toList),.bool (aB.isNum s.data.toList)])/\w'=w:=by
 unfold maxLen at C
 by_cases I:s.size=0
 ·have H:Hid (aB.isNum s.data.toList=U5):=aB.xA (by rw[aB.fM];omega);have F:((s.size:UZ)==0)=U6:=beq_iff_eq.2 UI
  go_in
  go_wp2;go_ret2;exact⟨eG (by simp[aB.cF,H.y]) (by rw[H.y]),rfl⟩
 ·have F:((s.size:UZ)==0)=U5:=beq_eq_false_iff_ne.2 UI
  by_cases L:7<s.size
  ·have H:Hid (aB.isNum s.data.toList=U5):=aB.xA (by rw[aB.fM];omega);clear I
   go_in
   go_wp2;go_ret2;exact⟨eG (by simp[aB.cF,H.y]) (by rw[H.y]),rfl⟩
  ·go_in
   go_wp2
   go_loop [4,5,6] (fun n i _=>∃ k:UY,k<=s.size/\i=.int .i64 k/\n=.int .i64 (aB.mD (s.data.toList.take k))/\aB.gu (s.data.toList.take k)=U6) (fun _ i _=>s.size-(intOf i).toNat)
   case atStart=>exact⟨0,V6 _,rfl,rfl,rfl⟩
   case round =>
    obtain⟨k,K,rfl,rfl,p⟩:=hrel;have t:=hide p;have J:=aB.FM (s.data.toList.take k) p (by rw[Yb];omega);clear p
    by_cases o:k<s.size
    ·have q:Hid (s.data.toList.take (k+1)=s.data.toList.take k++[s[k]]):=aB.xO s k o
     by_cases h:aB.rR s[k]=U6
     ·have g:=(aB.sD _).1 h;have j:=hide h;obtain⟨E,D⟩:=g;clear h;go_wp2
      go_round
      case rel=>exact⟨k+1,by omega,by go_num,by rw[q.y,aB.TS],by rw[q.y,aB.xU,t.y,j.y];rfl⟩
      case measure=>simp[intOf];omega
     ·have j:Hid (aB.isNum s.data.toList=U5):=aB.Bi (aB.I3 _ (k+1) (by rw[q.y,aB.xU,t.y];simpa using h))
      have g:(s[k].toNat:UZ)<48\/(¬ (s[k].toNat:UZ)<48/\57<(s[k].toNat:UZ)):=by
       have:=mt (aB.sD s[k]).2 h;omega
      clear h;rcases g with g |⟨g,u⟩
      all_goals
       go_wp2;go_ret2;exact⟨eG (by simp[aB.cF,j.y]) (by rw[j.y]),rfl⟩
    ·have z:Hid (s.data.toList.take k=s.data.toList):=aB.sE s k UI;have x:Hid (aB.isNum s.data.toList=U6):=aB.BC (by rw[aB.fM];omega) (by rw[aB.fM];omega) (by rw[<- z.y];exact t.y);go_wp2;go_ret2;exact⟨eG (by rw[z.y];simp[aB.cF,x.y]) (by rw[x.y]),rfl⟩
theorem nP(h:a≠b):(a != b)=U6:=by rw[bne_iff_ne];exact h
theorem nO(h:a=b):(a != b)=U5:=by subst h;simp
theorem gP(s:UU)(a b:UY)(h:s.size<=maxLen):(s.extract a b).size<=maxLen:=by
 have:(s.extract a b).size=min b s.size-a:=ByteArray.size_extract ..;omega
theorem vX(s:UU)(w:U7)(D:s.size<=maxLen):
  Va prog 137 #[.string s] w fun e w'=>e=.returned (.tuple #[.int .i64 (aB.fo s),.bool (aB.dA s)])/\w'=w:=by
 have j:=hide D;clear D
 by_cases z:s.size=5
 ·have H:((s.size:UZ) != 5)=U5:=nO UI;have K:(2:UZ)<(s.size:UZ):=UI
  have t:2<s.size:=UI
  have J:(3:UZ)<=(s.size:UZ):=UI
  by_cases q:aB.dP s 2=58
  ·have F:(((s[2]'t).toNat:UZ) != 58)=U5:=nO (by rw[<- aB.jc];exact q);have M:=aB.kV (aB.part s 0 2);have L:=aB.kV (aB.part s 3 5);have p:=hide z;have I:=hide q;clear z q;have g:=hide (aB.GG p.y I.y)
   cases h:aB.isNum (aB.part s 0 2)
   ·go_in
    go_wp2_with fail
    refine (eT _ _ (gP _ _ _ j.y)).mono ?_;rintro e w' ⟨rfl,rfl⟩;rw[show (s.extract 0 2).data.toList=aB.part s 0 2 from rfl]
    go_wp2_with fail
    refine (eT _ _ (gP _ _ _ j.y)).mono ?_;rintro e w' ⟨rfl,rfl⟩;rw[show (s.extract 3 s.size).data.toList=aB.part s 3 5 from by rw[p.y];rfl];go_wp2;go_ret2;exact⟨eG (by simp[aB.fo,aK g,h]) (by simp[aK g,h]),rfl⟩
   ·cases o:aB.isNum (aB.part s 3 5)
    ·go_in
     go_wp2_with fail
     refine (eT _ _ (gP _ _ _ j.y)).mono ?_;rintro e w' ⟨rfl,rfl⟩;rw[show (s.extract 0 2).data.toList=aB.part s 0 2 from rfl]
     go_wp2_with fail
     refine (eT _ _ (gP _ _ _ j.y)).mono ?_;rintro e w' ⟨rfl,rfl⟩;rw[show (s.extract 3 s.size).data.toList=aB.part s 3 5 from by rw[p.y];rfl];go_wp2;go_ret2;exact⟨eG (by simp[aB.fo,aK g,h,o]) (by simp[aK g,h,o]),rfl⟩
    ·by_cases C:aB.cF (aB.part s 0 2)<=23
     ·by_cases E:aB.cF (aB.part s 3 5)<=59
      ·go_in
       go_wp2_with fail
       refine (eT _ _ (gP _ _ _ j.y)).mono ?_;rintro e w' ⟨rfl,rfl⟩;rw[show (s.extract 0 2).data.toList=aB.part s 0 2 from rfl]
       go_wp2_with fail
       refine (eT _ _ (gP _ _ _ j.y)).mono ?_;rintro e w' ⟨rfl,rfl⟩;rw[show (s.extract 3 s.size).data.toList=aB.part s 3 5 from by rw[p.y];rfl];go_wp2;go_ret2;exact⟨eG (by simp[aB.fo,aK g,h,o,C,E]) (by simp[aK g,h,o,C,E]),rfl⟩
      ·go_in
       go_wp2_with fail
       refine (eT _ _ (gP _ _ _ j.y)).mono ?_;rintro e w' ⟨rfl,rfl⟩;rw[show (s.extract 0 2).data.toList=aB.part s 0 2 from rfl]
       go_wp2_with fail
       refine (eT _ _ (gP _ _ _ j.y)).mono ?_;rintro e w' ⟨rfl,rfl⟩;rw[show (s.extract 3 s.size).data.toList=aB.part s 3 5 from by rw[p.y];rfl];go_wp2;go_ret2;have u:¬ aB.cF (aB.part s 3 5)<=59:=UI
       exact⟨eG (by simp[aB.fo,aK g,h,o,C,u]) (by simp[aK g,h,o,C,u]),rfl⟩
     ·go_in
      go_wp2_with fail
      refine (eT _ _ (gP _ _ _ j.y)).mono ?_;rintro e w' ⟨rfl,rfl⟩;rw[show (s.extract 0 2).data.toList=aB.part s 0 2 from rfl]
      go_wp2_with fail
      refine (eT _ _ (gP _ _ _ j.y)).mono ?_;rintro e w' ⟨rfl,rfl⟩;rw[show (s.extract 3 s.size).data.toList=aB.part s 3 5 from by rw[p.y];rfl];go_wp2;go_ret2;have x:¬ aB.cF (aB.part s 0 2)<=23:=UI
      exact⟨eG (by simp[aB.fo,aK g,h,o,x]) (by simp[aK g,h,o,x]),rfl⟩
  ·have F:(((s[2]'t).toNat:UZ) != 58)=U6:=nP (by rw[<- aB.jc];exact q);have g:Hid (aB.dA s=U5):=aB.yg UI;clear z q
   go_in
   go_wp2;go_ret2;exact⟨eG (by simp[aB.fo,g.y]) (by rw[g.y]),rfl⟩
 ·have H:((s.size:UZ) != 5)=U6:=nP UI;have g:Hid (aB.dA s=U5):=aB.yg UI;clear z
  go_in
  go_wp2;go_ret2;exact⟨eG (by simp[aB.fo,g.y]) (by rw[g.y]),rfl⟩
theorem v7(s:UU)(w:U7)(ht:gy w)(L:s.size<=maxLen):
  Va prog 195 #[.string s] w fun e w'=>e=.returned (.tuple #[.int .i64 (aB.eI s),.bool (aB.iI s)])/\w'=w:=by
 have j:=hide L;clear L
 by_cases C:s.size=10
 ·have P:((s.size:UZ) != 10)=U5:=nO UI;have I:4<s.size:=UI
  have H:7<s.size:=UI
  have U:(4:UZ)<(s.size:UZ):=UI
  have T:(7:UZ)<(s.size:UZ):=UI
  have S:(8:UZ)<=(s.size:UZ):=UI
  by_cases E:aB.dP s 4=45
  ·have O:(((s[4]'I).toNat:UZ) != 45)=U5:=nO (by rw[<- aB.jc];exact E)
   by_cases F:aB.dP s 7=45
   ·have N:(((s[7]'H).toNat:UZ) != 45)=U5:=nO (by rw[<- aB.jc];exact F);have Y:=aB.kV (aB.part s 0 4);have W:=aB.kV (aB.part s 5 7);have V:=aB.kV (aB.part s 8 10);have g:=hide (aB.FE C E F);have K:=hide C;clear C E F;have M:∃ u z n3:UX,aB.isNum (aB.part s 0 4)=u/\aB.isNum (aB.part s 5 7)=z/\aB.isNum (aB.part s 8 10)=n3:=⟨_,_,_,rfl,rfl,rfl⟩;obtain⟨u,z,n3,o,p,q⟩:=M;have t:u=U5\/(u=U6/\z=U5)\/(u=U6/\z=U6/\n3=U5)\/(u=U6/\z=U6/\n3=U6):=by cases u <;> cases z <;> cases n3 <;> simp
    rcases t with h|⟨h,J⟩|⟨h,J,x⟩|⟨h,J,x⟩
    ·subst h;clear p q
     go_in
     go_wp2_with fail
     refine (eT _ _ (gP _ _ _ j.y)).mono ?_;rintro e w' ⟨rfl,rfl⟩;rw[show (s.extract 0 4).data.toList=aB.part s 0 4 from rfl]
     go_wp2_with fail
     refine (eT _ _ (gP _ _ _ j.y)).mono ?_;rintro e w' ⟨rfl,rfl⟩;rw[show (s.extract 5 7).data.toList=aB.part s 5 7 from rfl]
     go_wp2_with fail
     refine (eT _ _ (gP _ _ _ j.y)).mono ?_;rintro e w' ⟨rfl,rfl⟩;rw[show (s.extract 8 s.size).data.toList=aB.part s 8 10 from by rw[K.y];rfl];go_wp2;go_ret2;exact⟨eG (by simp[aB.eI,aK g,o]) (by simp[aK g,o]),rfl⟩
    ·subst h J;clear q
     go_in
     go_wp2_with fail
     refine (eT _ _ (gP _ _ _ j.y)).mono ?_;rintro e w' ⟨rfl,rfl⟩;rw[show (s.extract 0 4).data.toList=aB.part s 0 4 from rfl]
     go_wp2_with fail
     refine (eT _ _ (gP _ _ _ j.y)).mono ?_;rintro e w' ⟨rfl,rfl⟩;rw[show (s.extract 5 7).data.toList=aB.part s 5 7 from rfl]
     go_wp2_with fail
     refine (eT _ _ (gP _ _ _ j.y)).mono ?_;rintro e w' ⟨rfl,rfl⟩;rw[show (s.extract 8 s.size).data.toList=aB.part s 8 10 from by rw[K.y];rfl];go_wp2;go_ret2;exact⟨eG (by simp[aB.eI,aK g,o,p]) (by simp[aK g,o,p]),rfl⟩
    ·subst h J x
     go_in
     go_wp2_with fail
     refine (eT _ _ (gP _ _ _ j.y)).mono ?_;rintro e w' ⟨rfl,rfl⟩;rw[show (s.extract 0 4).data.toList=aB.part s 0 4 from rfl]
     go_wp2_with fail
     refine (eT _ _ (gP _ _ _ j.y)).mono ?_;rintro e w' ⟨rfl,rfl⟩;rw[show (s.extract 5 7).data.toList=aB.part s 5 7 from rfl]
     go_wp2_with fail
     refine (eT _ _ (gP _ _ _ j.y)).mono ?_;rintro e w' ⟨rfl,rfl⟩;rw[show (s.extract 8 s.size).data.toList=aB.part s 8 10 from by rw[K.y];rfl];go_wp2;go_ret2;exact⟨eG (by simp[aB.eI,aK g,o,p,q]) (by simp[aK g,o,p,q]),rfl⟩
    ·subst h J x
     cases D:Cal.ok (aB.cF (aB.part s 0 4)) (aB.cF (aB.part s 5 7)) (aB.cF (aB.part s 8 10))
     ·go_in
      go_wp2_with fail
      refine (eT _ _ (gP _ _ _ j.y)).mono ?_;rintro e w' ⟨rfl,rfl⟩;rw[show (s.extract 0 4).data.toList=aB.part s 0 4 from rfl]
      go_wp2_with fail
      refine (eT _ _ (gP _ _ _ j.y)).mono ?_;rintro e w' ⟨rfl,rfl⟩;rw[show (s.extract 5 7).data.toList=aB.part s 5 7 from rfl]
      go_wp2_with fail
      refine (eT _ _ (gP _ _ _ j.y)).mono ?_;rintro e w' ⟨rfl,rfl⟩;rw[show (s.extract 8 s.size).data.toList=aB.part s 8 10 from by rw[K.y];rfl]
      go_wp2_with fail
      refine (BS _ _ _ _ ht D).mono ?_;rintro e w' ⟨rfl,rfl⟩;go_wp2;go_ret2;exact⟨eG (by simp[aB.eI,aK g,o,p,q,D]) (by simp[aK g,o,p,q,D]),rfl⟩
     ·go_in
      go_wp2_with fail
      refine (eT _ _ (gP _ _ _ j.y)).mono ?_;rintro e w' ⟨rfl,rfl⟩;rw[show (s.extract 0 4).data.toList=aB.part s 0 4 from rfl]
      go_wp2_with fail
      refine (eT _ _ (gP _ _ _ j.y)).mono ?_;rintro e w' ⟨rfl,rfl⟩;rw[show (s.extract 5 7).data.toList=aB.part s 5 7 from rfl]
      go_wp2_with fail
      refine (eT _ _ (gP _ _ _ j.y)).mono ?_;rintro e w' ⟨rfl,rfl⟩;rw[show (s.extract 8 s.size).data.toList=aB.part s 8 10 from by rw[K.y];rfl]
      go_wp2_with fail
      refine (Ce _ _ _ _ ht D).mono ?_;rintro e w' ⟨rfl,rfl⟩;go_wp2;go_ret2;exact⟨eG (by simp[aB.eI,aK g,o,p,q,D]) (by simp[aK g,o,p,q,D]),rfl⟩
   ·have N:(((s[7]'H).toNat:UZ) != 45)=U6:=nP (by rw[<- aB.jc];exact F);have g:Hid (aB.iI s=U5):=aB.tV UI;clear C E F
    go_in
    go_wp2;go_ret2;exact⟨eG (by simp[aB.eI,g.y]) (by rw[g.y]),rfl⟩
  ·have O:(((s[4]'I).toNat:UZ) != 45)=U6:=nP (by rw[<- aB.jc];exact E);have g:Hid (aB.iI s=U5):=aB.tV UI;clear C E
   go_in
   go_wp2;go_ret2;exact⟨eG (by simp[aB.eI,g.y]) (by rw[g.y]),rfl⟩
 ·have P:((s.size:UZ) != 10)=U6:=nP UI;have g:Hid (aB.iI s=U5):=aB.tV UI;clear C
  go_in
  go_wp2;go_ret2;exact⟨eG (by simp[aB.eI,g.y]) (by rw[g.y]),rfl⟩
structure Kept(R:UY)(w w':U7):Prop where
 os:w'.os=w.os
 tape:w'.tape=w.tape
 output:w'.output=w.output
 size:w.heap.size<=w'.heap.size
 block:∀ k,k<w.heap.size->k≠R->w'.heap[k]?=w.heap[k]?
theorem Kept.refl(R:UY)(w:U7):Kept R w w:=⟨rfl,rfl,rfl,Vd _,fun _ _ _=>rfl⟩
theorem Kept.trans{a b c:U7}(h:Kept R a b)(k:Kept R b c):Kept R a c :=
 ⟨k.os.trans h.os,k.tape.trans h.tape,k.output.trans h.output,Vg h.size k.size,fun i j g=>(k.block i (zL j h.size) g).trans (h.block i j g)⟩
theorem Kept.aD(h:U9 w.heap.size w w'):Kept R w w':=⟨h.os,h.tape,h.output,h.size,fun k g _=>h.block k g⟩
theorem Kept.drewN(h:Kept R w w')(n:UY):Kept R w (w'.drewN n):=⟨h.os,h.tape,h.output,h.size,h.block⟩
theorem Kept.setCell(h:Kept R w w')(o:UY)(v:U8):Kept R w (w'.setCell ⟨R,o,U3⟩ v) :=
 h.trans ⟨(Below.setCell (B:=0) (Below.refl 0 w') (zN _) v).os,(Below.setCell (B:=0) (Below.refl 0 w') (zN _) v).tape,(Below.setCell (B:=0) (Below.refl 0 w') (zN _) v).output,(Below.setCell (B:=0) (Below.refl 0 w') (p:=⟨R,o,U3⟩) (zN _) v).size,fun k _ g=>Below.heap_setCell w' _ v k g⟩
theorem Kept.below(h:Kept R w w')(j:B<=R)(o:B<=w.heap.size):U9 B w w' :=
 ⟨h.os,h.tape,h.output,h.size,fun k g=>h.block k (zL g o) (Nat.ne_of_lt (zL g j))⟩
theorem Kept.cell(h:Kept R w w'){b o:UY}(g:b≠R)(j:w.cell? ⟨b,o,U3⟩=U4 v):w'.cell? ⟨b,o,U3⟩=U4 v :=
 (zo (w:=w) (h.block b (Vh _ _ j) g)).trans j
structure RS(w:U7)(R A:UY)(ws:UV UU)(nx:UY)(wr:UX):Prop where
 c0:w.cell? ⟨R,0,U3⟩=U4 (.slice (U4 ⟨A,0,U3⟩) ws.length ws.length)
 c1:w.cell? ⟨R,1,U3⟩=U4 (.int .i64 nx)
 c2:w.cell? ⟨R,2,U3⟩=U4 (.bool wr)
 f1:w.frozen? ⟨R,1,U3⟩=U5
 f2:w.frozen? ⟨R,2,U3⟩=U5
 ne:A≠R
 rows:∀ (i:UY) (h:i<ws.length),w.cell? ⟨A,i,U3⟩=U4 (.string ws[i])
 len:ws.length<=160
 uX:nx<=ws.length
 short:∀ x∈ws,x.size<=160
theorem RS.aD(h:RS w R A ws nx wr)(g:U9 w.heap.size w w'):RS w' R A ws nx wr :=
 ⟨cell_later g h.c0,cell_later g h.c1,cell_later g h.c2,(g.frozen (Vh _ _ h.c1)).trans h.f1,(g.frozen (Vh _ _ h.c2)).trans h.f2,h.ne,fun i j=>cell_later g (h.rows i j),h.len,h.uX,h.short⟩
theorem RS.drewN(h:RS w R A ws nx wr)(n:UY):RS (w.drewN n) R A ws nx wr:=⟨h.c0,h.c1,h.c2,h.f1,h.f2,h.ne,h.rows,h.len,h.uX,h.short⟩
def cB(n nx:UY)(wr:UX):UX:=!wr && decide (nx<n)
theorem im(R A:UY)(ws:UV UU)(nx:UY)(wr:UX)(w:U7)(h:RS w R A ws nx wr):
  Va prog 63 #[.pointer (U4 ⟨R,0,U3⟩)] w fun e w'=>e=.returned (.bool (cB ws.length nx wr))/\∃ n,w'=w.drewN n:=by
 have j:=h.c0;have c1:=h.c1;have g:=h.c2;clear h
 cases wr
 ·go_in
  go_wp2
  go_quiet (fail)
  go_wp2;go_ret;exact⟨eC (by simp[cB]),_,rfl⟩
 ·go_in
  go_wp2
  go_quiet (fail)
  go_wp2;go_ret;exact⟨eC (by simp[cB]),_,rfl⟩
theorem IV(h:¬ (wr=U5/\nx<n)):cB n nx wr=U5:=by
 unfold cB
 cases wr
 ·simp;simp at h;exact h
 ·rfl
theorem NW(R A:UY)(ws:UV UU)(nx:UY)(wr:UX)(g:UU)(w:U7)(h:RS w R A ws nx wr)(j:cB ws.length nx wr=U5):
  Va prog 82 #[.pointer (U4 ⟨R,0,U3⟩),.string g] w fun e w'=>e=.returned (.bool U5)/\∃ n,w'=w.drewN n:=by
 go_in
 go_wp2
 go_quiet ((go_at_call 63;exact Yx (im R A ws nx wr _ (h.drewN _))))
 go_wp2;go_ret;exact⟨rfl,_,rfl⟩
theorem PZ(R A:UY)(ws:UV UU)(nx:UY)(wr:UX)(g:UU)(w:U7)(h:RS w R A ws nx wr)(o:cB ws.length nx wr=U6)(j:nx<ws.length)(q:(ws[nx].toList==g.toList)=U5):
  Va prog 82 #[.pointer (U4 ⟨R,0,U3⟩),.string g] w fun e w'=>e=.returned (.bool U5)/\∃ n,w'=w.drewN n:=by
 have x:=h.c0;have c1:=h.c1;have u:=h.c2;have t:=h.rows nx j;have p:(nx:UZ)<(ws.length:UZ):=UI
 go_in
 go_wp2
 go_quiet ((go_at_call 63;exact Yx (im R A ws nx wr _ (h.drewN _))))
 go_wp2;go_ret;exact⟨rfl,_,rfl⟩
theorem RS.step(h:RS w R A ws nx wr)(g:nx<ws.length):RS (w.setCell ⟨R,1,U3⟩ (.int .i64 ((nx:UZ)+1))) R A ws (nx+1) wr :=
 ⟨(zS _ _ _ _ UJ).trans h.c0,Vu _ _ _ h.c1,(zS _ _ _ _ UJ).trans h.c2,(zF ..).trans h.f1,(zF ..).trans h.f2,h.ne,
  fun i j=>(zS _ _ _ _ (by simp;intro e;exact U2 e.symm h.ne)).trans (h.rows i j),h.len,g,h.short⟩
theorem RS.bad(h:RS w R A ws nx wr):RS (w.setCell ⟨R,2,U3⟩ (.bool U6)) R A ws nx U6 :=
 ⟨(zS _ _ _ _ UJ).trans h.c0,(zS _ _ _ _ UJ).trans h.c1,Vu _ _ _ h.c2,(zF ..).trans h.f1,(zF ..).trans h.f2,h.ne,
  fun i g=>(zS _ _ _ _ (by simp;intro e;exact U2 e.symm h.ne)).trans (h.rows i g),h.len,h.uX,h.short⟩
theorem NY(R A:UY)(ws:UV UU)(nx:UY)(wr:UX)(g:UU)(w:U7)(h:RS w R A ws nx wr)(o:cB ws.length nx wr=U6)(j:nx<ws.length)(t:(ws[nx].toList==g.toList)=U6):
  Va prog 82 #[.pointer (U4 ⟨R,0,U3⟩),.string g] w fun e w'=>e=.returned (.bool U6)/\RS w' R A ws (nx+1) wr/\Kept R w w':=by
 have C:=h.c0;have c1:=h.c1;have z:=h.c2;have u:=h.f1;have x:=h.rows nx j;have p:=h.len;have q:(nx:UZ)<(ws.length:UZ):=UI
 go_in
 go_wp2
 go_quiet ((go_at_call 63;exact Yx (im R A ws nx wr _ (h.drewN _))))
 go_wp2;go_ret;exact⟨rfl,(h.drewN _).step j,((Kept.refl R w).drewN _).setCell _ _⟩
def bD(ws:UV UU)(nx:UY)(wr:UX)(g:UU):UX:=cB ws.length nx wr && ((ws.getD nx Yy).toList==g.toList)
theorem iJ(R A:UY)(ws:UV UU)(nx:UY)(wr:UX)(g:UU)(w:U7)(h:RS w R A ws nx wr):
  Va prog 82 #[.pointer (U4 ⟨R,0,U3⟩),.string g] w fun e w'=>e=.returned (.bool (bD ws nx wr g))/\RS w' R A ws (if bD ws nx wr g then nx+1 else nx) wr/\Kept R w w':=by
 cases o:cB ws.length nx wr
 ·have e:bD ws nx wr g=U5:=by simp[bD,o]
  rw[e];refine (NW R A ws nx wr g w h o).mono ?_;rintro e w' ⟨rfl,n,rfl⟩;exact⟨rfl,h.drewN n,(Kept.refl R w).drewN n⟩
 ·have j:nx<ws.length:=by
   by_cases j:nx<ws.length
   ·exact j
   ·rw[IV UI] at o;cases o
  have q:ws.getD nx Yy=ws[nx]:=by simp[List.getD,j]
  cases p:(ws[nx].toList==g.toList)
  ·have e:bD ws nx wr g=U5:=by rw[bD,q,p,Bool.and_false]
   rw[e];refine (PZ R A ws nx wr g w h o j p).mono ?_;rintro e w' ⟨rfl,n,rfl⟩;exact⟨rfl,h.drewN n,(Kept.refl R w).drewN n⟩
  ·have e:bD ws nx wr g=U6:=by rw[bD,q,p,o];rfl
   rw[e];exact NY R A ws nx wr g w h o j p
theorem Bx(R A:UY)(ws:UV UU)(nx:UY)(wr:UX)(g:UU)(w:U7)(h:RS w R A ws nx wr):
  Va prog 134 #[.pointer (U4 ⟨R,0,U3⟩),.string g] w fun e w'=>e=.returned (.tuple #[])/\RS w' R A ws (if bD ws nx wr g then nx+1 else nx) (if bD ws nx wr g then wr else U6)/\Kept R w w':=by
 cases p:bD ws nx wr g
 ·go_in
  go_wp2_with fail
  refine (iJ R A ws nx wr g w h).mono ?_;rintro e w' ⟨rfl,j,o⟩;rw[p] at j ⊢;have t:=j.c2;have q:=j.f2;go_wp2
  go_end0
  exact⟨rfl,j.bad,o.setCell _ _⟩
 ·go_in
  go_wp2_with fail
  refine (iJ R A ws nx wr g w h).mono ?_;rintro e w' ⟨rfl,j,o⟩;rw[p] at j ⊢;go_wp2
  go_end0
  exact⟨rfl,j,o⟩
def eB(ws:UV UU)(nx:UY)(wr:UX)(B:UU->UX):UX:=cB ws.length nx wr && B (ws.getD nx Yy)
def eo(ws:UV UU)(nx:UY)(wr:UX)(B:UU->UX):UY:=if eB ws nx wr B then nx+1 else nx
def ei(ws:UV UU)(nx:UY)(wr:UX)(B:UU->UX):UX:=if eB ws nx wr B then wr else U6
def fh(ws:UV UU)(nx:UY)(wr:UX)(B:UU->UX)(V:UU->UZ):UZ:=if eB ws nx wr B then V (ws.getD nx Yy) else 0
theorem pM(h:cB n nx wr=U6):nx<n:=by
 by_cases g:nx<n
 ·exact g
 ·rw[IV UI] at h;cases h
theorem pG(ws:UV UU)(nx:UY)(h:nx<ws.length):ws.getD nx Yy=ws[nx]:=by simp[List.getD,h]
theorem vT(f:U8)(R A:UY)(ws:UV UU)(nx:UY)(wr:UX)(w:U7)(h:RS w R A ws nx wr)(p:cB ws.length nx wr=U5):
  Va prog 135 #[.pointer (U4 ⟨R,0,U3⟩),f] w fun e w'=>e=.returned (.int .i64 0)/\RS w' R A ws nx U6/\Kept R w w':=by
 go_in
 go_wp2_with fail
 refine (im R A ws nx wr w h).mono ?_;rintro e w1 ⟨rfl,n,g⟩;have j:RS w1 R A ws nx wr:=by rw[g];exact h.drewN n
 have o:Kept R w w1:=by rw[g];exact (Kept.refl R w).drewN n
 have t:=j.c2;have q:=j.f2;clear g;go_wp2;go_ret;exact⟨rfl,j.bad,o.setCell _ _⟩
theorem Sq(R A:UY)(ws:UV UU)(nx:UY)(wr:UX)(w:U7)(h:RS w R A ws nx wr)(t:cB ws.length nx wr=U6)(j:nx<ws.length)(q:ws[nx].size<=maxLen)(z:aB.isNum ws[nx].data.toList=U6):
  Va prog 135 #[.pointer (U4 ⟨R,0,U3⟩),.func (.func 139) #[] #[]] w fun e w'=>e=.returned (.int .i64 (aB.cF ws[nx].data.toList))/\RS w' R A ws (nx+1) wr/\Kept R w w':=by
 have x:(nx:UZ)<(ws.length:UZ):=UI
 go_in
 go_wp2_with fail
 refine (im R A ws nx wr w h).mono ?_;rintro e w1 ⟨rfl,n,o⟩;have g:RS w1 R A ws nx wr:=by rw[o];exact h.drewN n
 have p:Kept R w w1:=by rw[o];exact (Kept.refl R w).drewN n
 have E:=g.c0;have c1:=g.c1;have C:=g.f1;have D:=g.rows nx j;have u:=g.len;clear o;go_wp2
 go_quiet ((go_at_call 139;exact Yz (eT _ _ q)))
 go_wp2;go_ret;exact⟨rfl,(g.drewN _).step j,(p.drewN _).setCell _ _⟩
theorem Sp(R A:UY)(ws:UV UU)(nx:UY)(wr:UX)(w:U7)(h:RS w R A ws nx wr)(t:cB ws.length nx wr=U6)(o:nx<ws.length)(q:ws[nx].size<=maxLen)(z:aB.isNum ws[nx].data.toList=U5):
  Va prog 135 #[.pointer (U4 ⟨R,0,U3⟩),.func (.func 139) #[] #[]] w fun e w'=>e=.returned (.int .i64 0)/\RS w' R A ws nx U6/\Kept R w w':=by
 have x:(nx:UZ)<(ws.length:UZ):=UI
 go_in
 go_wp2_with fail
 refine (im R A ws nx wr w h).mono ?_;rintro e w1 ⟨rfl,n,j⟩;have g:RS w1 R A ws nx wr:=by rw[j];exact h.drewN n
 have p:Kept R w w1:=by rw[j];exact (Kept.refl R w).drewN n
 have F:=g.c0;have c1:=g.c1;have E:=g.c2;have C:=g.f2;have D:=g.rows nx o;have u:=g.len;clear j;go_wp2
 go_quiet ((go_at_call 139;exact Yz (eT _ _ q)))
 go_wp2;go_ret;exact⟨rfl,(g.drewN _).bad,(p.drewN _).setCell _ _⟩
end Go.Proofs.YtfigmlfdnickmaaGreatDoor
