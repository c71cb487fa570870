import Derived.Test.YtfigmlfdnickmaaGreatDoorL08
import Derived.Laws.Rows
set_option maxRecDepth 100000
set_option maxHeartbeats 8000000
variable{name:ByteArray}{e:Go.Proofs.YtfigmlfdnickmaaGreatDoor.Desk.Ent}{id:Int}{Gr l:List Int}{G:List Nat}{xs:List Go.Value}{B B' B0 Q b d i k n:Nat}{c1 ck col col':Nat->Option Go.Proofs.YtfigmlfdnickmaaGreatDoor.Col}{r rk:Go.Proofs.YtfigmlfdnickmaaGreatDoor.Raw}{s:Go.Proofs.YtfigmlfdnickmaaGreatDoor.Desk.St}{v v4:Go.Value}{Z w w' w1 w2 wx:Go.World}
namespace Go.Proofs.YtfigmlfdnickmaaGreatDoor
open Go.RowKit
open Desk (Ent St Ids kept a0C a0Q a1C a2e ofB a0y a2c Inv)
theorem b5Y(id:Int)(eg:List EG):(a1R id 1 0 eg).map (·.e)=a0C id (eg.map (·.e)):=by
 unfold a1R a0C;rw[List.map_map,List.map_map];apply List.map_congr_left;intro g _;simp only[Function.comp]
 split <;> rfl
theorem b6M(id:Int)(eg:List EG):(a1F id eg).map (·.e)=kept id (eg.map (·.e)):=by
 unfold a1F kept;rw[List.filter_map];rfl
theorem b2N{kind a0Z:Int}{eg:List EG}{x:EG}(h:x∈a1R id kind a0Z eg):∃ y∈eg,x.eb=y.eb/\x.tb=y.tb/\x.e.a0k=y.e.a0k/\x.e.id=y.e.id:=by
 obtain⟨y,hy,rfl⟩:=List.mem_map.1 h;refine⟨y,hy,?_⟩
 split <;> exact⟨rfl,rfl,rfl,rfl⟩
theorem a9S(id kind a0Z:Int)(eg:List EG):atE (a1R id kind a0Z eg)=atE eg:=by funext x;unfold atE;rw[b5Z]
theorem Of.book(h:Of s r)(hp:s.ts.Pairwise fun t u=>a0y t.1 u.1=false)(hid:Ids s.es)(hn:(r.eg.map (·.e.id)).Nodup){g:EG}(hg:g∈r.eg)(hk:g.e.kind=3)(hr:a2c g.e.a0e)(hi:i<r.tg.length)(hname:r.tg[i].name=g.e.a0k):
  Of { s with es:=a0C g.e.id s.es } ({ r with eg:=a1R g.e.id 1 0 r.eg }.setT i (r.tg[i].with (a1z r.tg[i].A g.e.a0e g.e.a0c) (a7e g.e.id g.eb r.tg[i].T g.e.a0e)))/\(∀ z∈Avl.a0w r.tg[i].T,z.n=g.e.id->∀ s∈g.e.a0e,z.f≠s.1):=by
 obtain⟨t1,t2⟩:=h.th i hi;have hm:=h.mem hg
 have hno3:∀ (name:ByteArray) (e:Ent),e∈s.es->ofB name e=true->e.id≠g.e.id:=by
  intro name e he h1 e1;have:e=g.e:=hid.one he hm e1;subst this;simp[ofB,hk] at h1
 have hb1:ofB r.tg[i].name (a0Q g.e)=true:=by rw[Desk.a3I,hname];exact Desk.a2u _
 have hP:=b3m (id:=g.e.id) (eb:=g.eb) (L:=g.e.a0e) (es':=a0C g.e.id s.es) (at':=atE (a1R g.e.id 1 0 r.eg)) t2 hr (fun e he h1=>hno3 _ e he h1) (fun z=>by
  rw[a9S];constructor
  ·rintro ⟨e,he,h1,q,hq,rfl⟩;rcases Desk.a2b.1 he with ⟨he,_⟩|⟨y,hy,hye,rfl⟩
   ·exact .inl ⟨e,he,h1,q,hq,rfl⟩
   ·have:y=g.e:=hid.one hy hm hye;subst this;exact .inr ⟨q,hq,by unfold b2s;rw[show (a0Q g.e).id=g.e.id from rfl,b2j hn hg]⟩
  ·rintro (⟨e,he,h1,q,hq,rfl⟩|⟨q,hq,rfl⟩)
   ·exact⟨e,Desk.a2b.2 (.inl ⟨he,hno3 _ e he h1⟩),h1,q,hq,rfl⟩
   ·exact⟨a0Q g.e,Desk.a2b.2 (.inr ⟨g.e,hm,rfl,rfl⟩),hb1,q,hq,by unfold b2s;rw[show (a0Q g.e).id=g.e.id from rfl,b2j hn hg]⟩)
 refine⟨h.turn hp hi (by rw[b5Y,h.es]) ?_ hP.1 (fun name T hne=>⟨?_,fun hT=>?_⟩) (fun x hx=>?_),hP.2⟩
 ·rw[t1];exact Desk.a8R (by rw[hname];exact Desk.a2u _) hk hid hm
 ·refine Desk.a3Q (fun e he e1 h1=>?_);have:e=g.e:=hid.one he hm e1;subst this;exact absurd (a4l.1 h1) (fun e2=>hne (by rw[hname,e2]))
 ·refine a4b hT (fun e h1=>?_) (fun e _ _=>by rw[a9S]);constructor
  ·intro he;rcases Desk.a2b.1 he with ⟨he,_⟩|⟨y,hy,hye,rfl⟩
   ·exact he
   ·have:y=g.e:=hid.one hy hm hye;subst this;rw[Desk.a3I] at h1;exact absurd (a4l.1 h1) (fun e2=>hne (by rw[hname,e2]))
  ·intro he;exact Desk.a2b.2 (.inl ⟨he,hno3 name e he h1⟩)
 ·obtain⟨y,hy,e1,e2,e3,_⟩:=b2N hx;obtain⟨j,hj,q1,q2⟩:=h.tb y hy;exact⟨j,hj,by rw[e3];exact q1,by rw[e2];exact q2⟩
theorem b2k{eg:List EG}(hn:(eg.map (·.e.id)).Nodup)(id x:Int)(hx:x≠id):atE (a1F id eg) x=atE eg x:=by unfold atE;rw[b6N hn,if_neg hx]
theorem Of.goes(h:Of s r)(hp:s.ts.Pairwise fun t u=>a0y t.1 u.1=false)(hid:Ids s.es)(hn:(r.eg.map (·.e.id)).Nodup){g:EG}(hg:g∈r.eg)(hk:g.e.kind≠3)(hi:i<r.tg.length)(hname:r.tg[i].name=g.e.a0k):
  Of { s with es:=kept g.e.id s.es } ({ r with eg:=a1F g.e.id r.eg }.setT i (r.tg[i].with (a1z r.tg[i].A g.e.a0e (-g.e.a0c)) (a4w g.e.id r.tg[i].T g.e.a0e))):=by
 obtain⟨t1,t2⟩:=h.th i hi;have hm:=h.mem hg;have hb1:ofB r.tg[i].name g.e=true:=by simp[ofB,hname,Desk.a2u,hk]
 refine h.turn hp hi (by rw[b6M,h.es]) ?_ (b8p t2 hid hm (fun e _ hne=>b2k hn _ _ hne)) (fun name T hne=>⟨?_,fun hT=>?_⟩) (fun x hx=>h.tb x (List.mem_filter.1 hx).1)
 ·rw[t1];exact Desk.a8Q hb1 hid hm
 ·refine Desk.a4S (fun e he e1=>?_);have:e=g.e:=hid.one he hm e1;subst this;have:a0y g.e.a0k name=false:=a3d.2 (fun e2=>hne (by rw[hname,e2]));simp[ofB,this]
 ·have hne2:∀ e∈s.es,ofB name e=true->e.id≠g.e.id:=fun e he h1 e1=>by
   have:e=g.e:=hid.one he hm e1;subst this;have:a0y g.e.a0k name=false:=a3d.2 (fun e2=>hne (by rw[hname,e2]));simp[ofB,this] at h1
  exact a4b hT (fun e h1=>⟨fun he=>(Desk.a4r.1 he).1,fun he=>Desk.a4r.2 ⟨he,hne2 e he h1⟩⟩) (fun e he h1=>b2k hn _ _ (hne2 e he h1))
theorem Of.goesW(h:Of s r)(hid:Ids s.es)(hn:(r.eg.map (·.e.id)).Nodup){g:EG}(hg:g∈r.eg)(hk:g.e.kind=3):
  Of { s with es:=kept g.e.id s.es } { r with eg:=a1F g.e.id r.eg }:=by
 have hm:=h.mem hg
 have hne:∀ (name:ByteArray),∀ e∈s.es,ofB name e=true->e.id≠g.e.id:=fun name e he h1 e1=>by
  have:e=g.e:=hid.one he hm e1;subst this;simp[ofB,hk] at h1
 refine⟨h.now,h.given,h.ts,by rw[<- h.es];exact b6M _ _,fun j hj=>?_,fun x hx=>h.tb x (List.mem_filter.1 hx).1⟩;obtain⟨t1,t2⟩:=h.th j hj;refine⟨t1.trans (Desk.a4S (fun e he e1=>?_)).symm,a4b t2 (fun e h1=>⟨fun he=>(Desk.a4r.1 he).1,fun he=>Desk.a4r.2 ⟨he,hne _ e he h1⟩⟩) (fun e he h1=>b2k hn _ _ (hne _ e he h1))⟩;have:e=g.e:=hid.one he hm e1;subst this;simp[ofB,hk]
theorem a5N{eg:List EG}{g:EG}(hno:∀ x∈eg,x.e.id≠g.e.id)(x:Int):atE (eg++[g]) x=if x=g.e.id then g.eb else atE eg x:=by
 unfold atE;rw[b5W hno];split <;> rfl
theorem Of.comes(h:Of s r)(hp:s.ts.Pairwise fun t u=>a0y t.1 u.1=false){g:EG}(hno:∀ x∈r.eg,x.e.id≠g.e.id)(hk:g.e.kind≠3)(hr:a2c g.e.a0e)(hi:i<r.tg.length)(hname:r.tg[i].name=g.e.a0k)(htb:g.tb=r.tg[i].tb)(n:Int):
  Of { s with es:=s.es++[g.e],given:=n } ({ r with eg:=r.eg++[g],given:=n }.setT i (r.tg[i].with (a1z r.tg[i].A g.e.a0e g.e.a0c) (a7e g.e.id g.eb r.tg[i].T g.e.a0e)))/\(∀ z∈Avl.a0w r.tg[i].T,z.n=g.e.id->∀ s∈g.e.a0e,z.f≠s.1):=by
 obtain⟨t1,t2⟩:=h.th i hi;have hb1:ofB r.tg[i].name g.e=true:=by simp[ofB,hname,Desk.a2u,hk]
 have hno':∀ e∈s.es,e.id≠g.e.id:=fun e he=>by obtain⟨x,hx,rfl⟩:=h.get he;exact hno x hx
 have hP:=b3m (id:=g.e.id) (eb:=g.eb) (L:=g.e.a0e) (es':=s.es++[g.e]) (at':=atE (r.eg++[g])) t2 hr (fun e he _=>hno' e he) (fun z=>by
  constructor
  ·rintro ⟨e,he,h1,q,hq,rfl⟩;rcases List.mem_append.1 he with he|he
   ·exact .inl ⟨e,he,h1,q,hq,by rw[a5N hno,if_neg (hno' e he)]⟩
   ·have:e=g.e:=by simpa using he
    subst this;exact .inr ⟨q,hq,by unfold b2s;rw[a5N hno,if_pos rfl]⟩
  ·rintro (⟨e,he,h1,q,hq,rfl⟩|⟨q,hq,rfl⟩)
   ·exact⟨e,by simp[he],h1,q,hq,by rw[a5N hno,if_neg (hno' e he)]⟩
   ·exact⟨g.e,by simp,hb1,q,hq,by unfold b2s;rw[a5N hno,if_pos rfl]⟩)
 have hO:Of { s with es:=s.es++[g.e] } ({ r with eg:=r.eg++[g] }.setT i (r.tg[i].with (a1z r.tg[i].A g.e.a0e g.e.a0c) (a7e g.e.id g.eb r.tg[i].T g.e.a0e))):=by
  refine h.turn hp hi (by rw[List.map_append,h.es];rfl) ?_ hP.1 (fun name T hne=>?_) (fun x hx=>?_)
  ·rw[t1];exact Desk.b9s hb1
  ·have hf:a0y g.e.a0k name=false:=a3d.2 (fun e2=>hne (by rw[hname,e2]));have hof:ofB name g.e=false:=by simp[ofB,hf]
   refine⟨Desk.a7X hof,fun hT=>a4b hT (fun e h1=>?_) (fun e he _=>by rw[a5N hno,if_neg (hno' e he)])⟩;rw[List.mem_append];constructor
   ·rintro (he|he)
    ·exact he
    ·have:e=g.e:=by simpa using he
     subst this;rw[hof] at h1;cases h1
   ·exact .inl
  ·rcases List.mem_append.1 hx with hx|hx
   ·exact h.tb x hx
   ·have:x=g:=by simpa using hx
    subst this;exact⟨i,hi,hname,htb⟩
 exact⟨⟨hO.now,rfl,hO.ts,hO.es,hO.th,hO.tb⟩,hP.2⟩
theorem Of.comesW(h:Of s r){g:EG}(hno:∀ x∈r.eg,x.e.id≠g.e.id)(hk:g.e.kind=3)(hi:i<r.tg.length)(hname:r.tg[i].name=g.e.a0k)(htb:g.tb=r.tg[i].tb)(n:Int):
  Of { s with es:=s.es++[g.e],given:=n } { r with eg:=r.eg++[g],given:=n }:=by
 have hno':∀ e∈s.es,e.id≠g.e.id:=fun e he=>by obtain⟨x,hx,rfl⟩:=h.get he;exact hno x hx
 refine⟨h.now,rfl,h.ts,by show (r.eg++[g]).map _=_;rw[List.map_append,h.es];rfl,fun j hj=>?_,fun x hx=>?_⟩
 ·obtain⟨t1,t2⟩:=h.th j hj;have hof:∀ name,ofB name g.e=false:=fun name=>by simp[ofB,hk]
  refine⟨t1.trans (Desk.a7X (hof _)).symm,a4b t2 (fun e h1=>?_) (fun e he _=>by show atE (r.eg++[g]) e.id=_;rw[a5N hno,if_neg (hno' e he)])⟩;show e∈s.es++[g.e]↔_;rw[List.mem_append];constructor
  ·rintro (he|he)
   ·exact he
   ·have:e=g.e:=by simpa using he
    subst this;rw[hof] at h1;cases h1
  ·exact .inl
 ·rcases List.mem_append.1 hx with hx|hx
  ·exact h.tb x hx
  ·have:x=g:=by simpa using hx
   subst this;exact⟨i,hi,hname,htb⟩
theorem c0P{eg:List EG}(hn:(eg.map (·.e.id)).Nodup){g:EG}(hg:g∈eg)(hk:g.e.kind≠1):(eg.filter fun x=>x.e.kind != 1).Perm (g :: (a1R g.e.id 1 0 eg).filter fun x=>x.e.kind != 1):=by
 induction eg with
 |nil=>simp at hg
 |cons y eg ih =>
  rw[List.map_cons,List.nodup_cons] at hn;rcases List.mem_cons.1 hg with rfl|hg'
  ·have h0:a1R g.e.id 1 0 eg=eg:=by
    unfold a1R
    have:eg.map (fun x=>if x.e.id=g.e.id then { x with e:={ x.e with kind:=1,a0Z:=0 } } else x)=eg.map id:=by
     apply List.map_congr_left;intro x hx;rw[if_neg (fun e=>hn.1 (List.mem_map.2 ⟨x,hx,e⟩))];rfl
    rw[this,List.map_id]
   have e1:a1R g.e.id 1 0 (g :: eg)={ g with e:={ g.e with kind:=1,a0Z:=0 } } :: eg:=by
    conv=>lhs;unfold a1R;rw[List.map_cons,if_pos rfl]
    conv=>rhs;rw[<- h0]
    rfl
   rw[e1,List.filter_cons,if_pos (by simpa using hk),List.filter_cons,if_neg (by simp)]
  ·have hne:y.e.id≠g.e.id:=fun e=>hn.1 (List.mem_map.2 ⟨g,hg',e.symm⟩)
   have e1:a1R g.e.id 1 0 (y :: eg)=y :: a1R g.e.id 1 0 eg:=by
    conv=>lhs;unfold a1R;rw[List.map_cons,if_neg hne]
    rfl
   rw[e1];have ih:=ih hn.2 hg'
   by_cases h1:(y.e.kind != 1)=true
   ·rw[List.filter_cons,if_pos h1,List.filter_cons,if_pos h1];exact (ih.cons y).trans (.swap ..)
   ·rw[List.filter_cons,if_neg h1,List.filter_cons,if_neg h1];exact ih
theorem c0O{eg:List EG}(hn:(eg.map (·.e.id)).Nodup){g:EG}(hg:g∈eg)(p:EG->Bool)(hp:p g=true):(eg.filter p).Perm (g :: (a1F g.e.id eg).filter p):=by
 induction eg with
 |nil=>simp at hg
 |cons y eg ih =>
  rw[List.map_cons,List.nodup_cons] at hn;rcases List.mem_cons.1 hg with rfl|hg'
  ·have e1:a1F g.e.id (g :: eg)=eg:=by
    unfold a1F;rw[List.filter_cons,if_neg (by simp)];exact List.filter_eq_self.2 (fun x hx=>by simpa using fun e=>hn.1 (List.mem_map.2 ⟨x,hx,e⟩))
   rw[e1,List.filter_cons,if_pos hp]
  ·have hne:y.e.id≠g.e.id:=fun e=>hn.1 (List.mem_map.2 ⟨g,hg',e.symm⟩)
   have e1:a1F g.e.id (y :: eg)=y :: a1F g.e.id eg:=by unfold a1F;rw[List.filter_cons,if_pos (by simpa using hne)]
   rw[e1];have ih:=ih hn.2 hg'
   by_cases h1:p y=true
   ·rw[List.filter_cons,if_pos h1,List.filter_cons,if_pos h1];exact (ih.cons y).trans (.swap ..)
   ·rw[List.filter_cons,if_neg h1,List.filter_cons,if_neg h1];exact ih
theorem a8f{eg:List EG}(hn:(eg.map (·.e.id)).Nodup){g:EG}(hg:g∈eg)(p:EG->Bool)(hp:p g=false):(a1F g.e.id eg).filter p=eg.filter p:=by
 unfold a1F;rw[List.filter_filter];apply List.filter_congr;intro x hx
 by_cases e:x.e.id=g.e.id
 ·have:x=g:=a0W _ hn hx hg e;subst this;simp[hp]
 ·have:(x.e.id != g.e.id)=true:=by simpa using e
  simp[this]
theorem Hl.at(h:Hl r){x:Hp.Hi}(hx:x∈r.hl):∃ g∈r.eg,g.e.kind≠1/\x=a9r g:=by
 have:=h.2.mem_iff.1 hx;obtain⟨g,hg,rfl⟩:=List.mem_map.1 this;exact⟨g,(List.mem_filter.1 hg).1,by simpa using (List.mem_filter.1 hg).2,rfl⟩
theorem Hl.has(h:Hl r){g:EG}(hg:g∈r.eg)(hk:g.e.kind≠1):a9r g∈r.hl:=h.2.mem_iff.2 (List.mem_map.2 ⟨g,List.mem_filter.2 ⟨hg,by simpa using hk⟩,rfl⟩)
theorem Hl.len(h:Hl r):r.hl.length<=r.eg.length:=by
 rw[h.2.length_eq,List.length_map];exact List.length_filter_le _ _
theorem Hl.one(h:Hl r)(hn:(r.eg.map (·.e.id)).Nodup){g:EG}(hg:g∈r.eg){x:Hp.Hi}{l':List Hp.Hi}(hx:x.n=g.e.id)(hp:r.hl.Perm (x :: l')):x=a9r g:=by
 obtain⟨y,hy,_,e⟩:=h.at (x:=x) (hp.mem_iff.2 (by simp));subst e;have:y=g:=a0W _ hn hy hg hx;rw[this]
theorem Hl.book(h:Hl r)(hn:(r.eg.map (·.e.id)).Nodup){g:EG}(hg:g∈r.eg)(hk:g.e.kind≠1){x:Hp.Hi}{l':List Hp.Hi}(hx:x.n=g.e.id)(hh:Hp.a6r l')(hp:r.hl.Perm (x :: l')):Hl { r with eg:=a1R g.e.id 1 0 r.eg,hl:=l' }:=by
 have e:=h.one hn hg hx hp;subst e;refine⟨hh,List.Perm.cons_inv (a:=a9r g) ?_⟩;exact hp.symm.trans (h.2.trans ((c0P hn hg hk).map a9r))
theorem Hl.goes(h:Hl r)(hn:(r.eg.map (·.e.id)).Nodup){g:EG}(hg:g∈r.eg)(hk:g.e.kind≠1){x:Hp.Hi}{l':List Hp.Hi}(hx:x.n=g.e.id)(hh:Hp.a6r l')(hp:r.hl.Perm (x :: l')):Hl { r with eg:=a1F g.e.id r.eg,hl:=l' }:=by
 have e:=h.one hn hg hx hp;subst e;refine⟨hh,List.Perm.cons_inv (a:=a9r g) ?_⟩;exact hp.symm.trans (h.2.trans ((c0O hn hg (fun g=>g.e.kind != 1) (by simpa using hk)).map a9r))
theorem Hl.goes1(h:Hl r)(hn:(r.eg.map (·.e.id)).Nodup){g:EG}(hg:g∈r.eg)(hk:g.e.kind=1):Hl { r with eg:=a1F g.e.id r.eg }:=by
 refine⟨h.1,?_⟩;show r.hl.Perm (((a1F g.e.id r.eg).filter fun g=>g.e.kind != 1).map a9r);rw[a8f hn hg _ (by simp[hk])];exact h.2
theorem Hl.comes(h:Hl r){g:EG}(hk:g.e.kind≠1){l':List Hp.Hi}(hh:Hp.a6r l')(hp:l'.Perm (r.hl++[a9r g])):Hl { r with eg:=r.eg++[g],hl:=l' }:=by
 refine⟨hh,hp.trans ?_⟩;show (r.hl++[a9r g]).Perm (((r.eg++[g]).filter fun g=>g.e.kind != 1).map a9r);rw[List.filter_append,List.map_append];have:[g].filter (fun g=>g.e.kind != 1)=[g]:=by simp[hk]
 rw[this];exact h.2.append_right _
theorem Hl.comes1(h:Hl r){g:EG}(hk:g.e.kind=1):Hl { r with eg:=r.eg++[g] }:=by
 refine⟨h.1,?_⟩;show r.hl.Perm (((r.eg++[g]).filter fun g=>g.e.kind != 1).map a9r);rw[List.filter_append];have:[g].filter (fun g=>g.e.kind != 1)=[]:=by simp[hk]
 rw[this,List.append_nil];exact h.2
theorem Wl.goes(h:Wl r)(hn:(r.eg.map (·.e.id)).Nodup)(hb:(r.eg.map (·.eb)).Nodup){g:EG}(hg:g∈r.eg):(r.wl.filter fun b=>!(b==g.eb))=((a1F g.e.id r.eg).filter fun g=>g.e.kind==3).map (·.eb):=by
 rw[h,List.filter_map];unfold a1F;rw[List.filter_filter,List.filter_filter]
 congr 1
 apply List.filter_congr;intro x hx
 have:(x.eb==g.eb)=(x.e.id==g.e.id):=by
  by_cases e:x=g
  ·subst e;simp
  ·have h1:x.eb≠g.eb:=fun e2=>e (a0W _ hb hx hg e2)
   have h2:x.e.id≠g.e.id:=fun e2=>e (a0W _ hn hx hg e2)
   rw[beq_eq_false_iff_ne.2 h1,beq_eq_false_iff_ne.2 h2]
 simp only[Function.comp,this];rw[Bool.and_comm];rfl
theorem Wl.goes1(h:Wl r)(hn:(r.eg.map (·.e.id)).Nodup){g:EG}(hg:g∈r.eg)(hk:g.e.kind≠3):Wl { r with eg:=a1F g.e.id r.eg }:=by
 unfold Wl at *;show r.wl=((a1F g.e.id r.eg).filter fun g=>g.e.kind==3).map (·.eb);rw[a8f hn hg _ (by simpa using hk)];exact h
theorem Wl.comes(h:Wl r){g:EG}(hk:g.e.kind≠3):Wl { r with eg:=r.eg++[g] }:=by
 unfold Wl at *;show r.wl=((r.eg++[g]).filter fun g=>g.e.kind==3).map (·.eb);rw[List.filter_append];have:[g].filter (fun g=>g.e.kind==3)=[]:=by simp[hk]
 rw[this,List.append_nil];exact h
theorem Wl.comesW(h:Wl r){g:EG}(hk:g.e.kind=3):Wl { r with eg:=r.eg++[g],wl:=r.wl++[g.eb] }:=by
 unfold Wl at *;show r.wl++[g.eb]=((r.eg++[g]).filter fun g=>g.e.kind==3).map (·.eb);rw[List.filter_append,List.map_append];have:[g].filter (fun g=>g.e.kind==3)=[g]:=by simp[hk]
 rw[this,h];rfl
namespace Desk
def a5R(ts:List (ByteArray × Int))(p:List Ent × List Int)(e:Ent):List Ent × List Int :=
 if a1e ts p.1 e.a0k e.a0c e.a0e=true then (a0C e.id p.1,p.2++[e.id]) else p
def a0T(e:Ent):Bool:=e.kind==3
theorem b5x{d r:List Ent}(h:Ids (d++e :: r)):a0C e.id (d++e :: r)=d++a0Q e :: r:=by
 unfold Ids at h;rw[List.map_append,List.map_cons,List.pairwise_append,List.pairwise_cons] at h;obtain⟨_,⟨h2,_⟩,h3⟩:=h;unfold a0C;rw[List.map_append,List.map_cons,if_pos rfl]
 have e1:d.map (fun x=>if x.id=e.id then a0Q x else x)=d:=by
  rw[show d=d.map id from (List.map_id d).symm,List.map_map];apply List.map_congr_left;intro x hx;have:=h3 x.id (List.mem_map.2 ⟨x,hx,rfl⟩) e.id (by simp);simp only[Function.comp,id];rw[if_neg (by omega)]
 have e2:r.map (fun x=>if x.id=e.id then a0Q x else x)=r:=by
  rw[show r=r.map id from (List.map_id r).symm,List.map_map];apply List.map_congr_left;intro x hx;have:=h2 x.id (List.mem_map.2 ⟨x,hx,rfl⟩);simp only[Function.comp,id];rw[if_neg (by omega)]
 rw[e1,e2]
theorem a3K(ts:List (ByteArray × Int)):∀ (r d:List Ent)(acc:List Int),Ids (d++r)->(r.filter a0T).foldl (a5R ts) (d++r,acc)=((a0O ts d r).1,acc++(a0O ts d r).2)
 |[],d,acc,_=>by simp[a0O]
 |e :: r,d,acc,h=>by
  have h1:Ids ((d++[e])++r):=by simpa using h
  by_cases hk:e.kind=3
  ·have hw:a0T e=true:=by simp[a0T,hk]
   rw[List.filter_cons,if_pos hw,List.foldl_cons]
   by_cases hf:a1e ts (d++e :: r) e.a0k e.a0c e.a0e=true
   ·have hb:=b5x h
    have h2:Ids ((d++[a0Q e])++r):=by
     have:=b1e (id:=e.id) h;rw[hb] at this
     simpa using this
    have e1:a5R ts (d++e :: r,acc) e=((d++[a0Q e])++r,acc++[e.id]):=by
     unfold a5R;simp only;rw[if_pos hf,hb];simp
    rw[e1,a3K ts r _ _ h2]
    have e2:a0O ts d (e :: r)=((a0O ts (d++[a0Q e]) r).1,e.id :: (a0O ts (d++[a0Q e]) r).2):=by
     rw[a0O,if_pos ⟨hk,hf⟩]
    rw[e2];simp
   ·have e1:a5R ts (d++e :: r,acc) e=((d++[e])++r,acc):=by
     unfold a5R;simp only;rw[if_neg hf];simp
    rw[e1,a3K ts r _ _ h1]
    have e2:a0O ts d (e :: r)=a0O ts (d++[e]) r:=by
     rw[a0O,if_neg (fun h=>hf h.2)]
    rw[e2]
  ·have hw:¬ (a0T e=true):=by simp[a0T,hk]
   rw[List.filter_cons,if_neg hw]
   have e2:a0O ts d (e :: r)=a0O ts (d++[e]) r:=by
    rw[a0O,if_neg (fun h=>hk h.1)]
   rw[e2,<- a3K ts r _ _ h1];simp
theorem a5F(ts:List (ByteArray × Int))(es:List Ent)(h:Ids es):a0R ts es=(es.filter a0T).foldl (a5R ts) (es,[]):=by
 have:=a3K ts es [] [] (by simpa using h);simp only[List.nil_append] at this;rw[this];rfl
end Desk
theorem Step.keepN{S:Col->Prop}(h:Step S B col col' w w')(hc:col b=none)(hB:b<B):col' b=none:=by
 cases e:col' b with
 |none=>rfl
 |some c =>
  rcases h.new b c e with e1|e1
  ·rw[hc] at e1;cases e1
  ·omega
theorem Step.own{S:Col->Prop}{base e size:Nat}(h:Step S B col col' w w')(ho:w.ownsRow base e size v n xs)(hv:∀ b,v.ownBlock=some b->col b=none/\b<B):w'.ownsRow base e size v n xs:=by
 obtain⟨G,a1,a2⟩:=h.left;exact a1i ho a1 (fun b hb=>a2 b (.inr (hv b hb)))
theorem DK.none(h:DK w d r col)(hb:w.heap.size<=b):col b=none:=by
 cases e:col b with
 |none=>rfl
 |some c=>have:=h.lt _ _ e;omega
structure a2I(w:World)(B:Nat)(col:Nat->Option Col)(v:Value)(l:List Int):Prop where
 own:w.ownsRow B 3 1 v l.length (l.map (Value.int .i64))
 no:∀ b,v.ownBlock=some b->col b=none
theorem a2I.nil(w:World)(B:Nat)(col:Nat->Option Col):a2I w B col (.slice none 0 0) []:=⟨World.ownsRow_nil _ _ _ _,fun b hb=>by cases hb⟩
theorem a2I.step{S:Col->Prop}(h:a2I w B0 col v l)(st:Step S B col col' w w')(hB:w.heap.size<=B):a2I w' B0 col' v l:=by
 have hv:∀ b,v.ownBlock=some b->col b=none/\b<B:=fun b hb=>⟨h.no b hb,Nat.lt_of_lt_of_le (h.own.lt b hb).2 hB⟩
 exact⟨st.own h.own hv,fun b hb=>st.keepN (hv b hb).1 (hv b hb).2⟩
theorem a2I.later(h:a2I w B0 col v l)(k:Below w.heap.size w w'):a2I w' B0 col v l:=⟨a1g h.own k,h.no⟩
theorem a2I.slice(h:a2I w B col v l):∃ a cap,v=.slice a l.length cap:=by
 rcases h.own.2 with ⟨rfl,h0⟩|⟨g,cap,_,rfl,_⟩
 ·rw[h0];exact⟨_,_,rfl⟩
 ·exact⟨_,_,rfl⟩
def anyS(_:Col):Prop:=True
theorem Step.any{S:Col->Prop}(h:Step S B col col' w w')(hB:B'<=B):Step anyS B' col col' w w':=h.mono (fun _ _=>trivial) hB
open Desk (Ent St Ids kept a0C a0Q a1C a2e ofB a0y a2c Mid a1H)
theorem b0x:∀ (l:List Int)(a b:Int),l.Pairwise (· < ·)->(∀ x∈l,a<=x/\x<=b)->(l.length:Int)<=max 0 (b-a+1)
 |[],a,b,_,_=>by simp;omega
 |x :: l,a,b,h,hb=>by
  rw[List.pairwise_cons] at h;have h1:=hb x (by simp);have ih:=b0x l (x+1) b h.2 (fun y hy=>⟨by have:=h.1 y hy;omega,(hb y (by simp[hy])).2⟩);simp only[List.length_cons];omega
theorem a1x(h:Mid s):s.es.length<=60:=by
 have hi:(s.es.map fun e:Ent=>e.id).Pairwise (· < ·):=h.ids
 have:=b0x _ 1 60 hi (fun x hx=>by
  obtain⟨e,he,rfl⟩:=List.mem_map.1 hx;have h1:=h.idb e he;have h2:=h.g1
  omega)
 rw[List.length_map] at this;omega
theorem b2Z{α:Type}:∀ (l m:List α),l.Nodup->(∀ x∈l,x∈m)->l.length<=m.length
 |[],m,_,_=>by simp
 |a :: l,m,h,hs=>by
  rw[List.nodup_cons] at h;obtain⟨m1,m2,rfl⟩:=List.append_of_mem (hs a (by simp))
  have:=b2Z l (m1++m2) h.2 (fun x hx=>by
   have h1:=hs x (by simp[hx]);simp only[List.mem_append,List.mem_cons] at h1 ⊢;rcases h1 with e|e|e
   ·exact .inl e
   ·subst e;exact absurd hx h.1
   ·exact .inr e)
  simp only[List.length_append,List.length_cons] at this ⊢;omega
theorem b2I(at_:Int->Nat):∀ (es:List Ent),(∀ e∈es,e.a0e.length<=40)->(es.flatMap fun e=>e.a0e.map fun s=>(⟨s.1,s.2,e.id,at_ e.id⟩:Avl.It)).length<=40*es.length
 |[],_=>by simp
 |e :: es,h=>by
  have ih:=b2I at_ es (fun x hx=>h x (by simp[hx]));have:=h e (by simp);simp only[List.flatMap_cons,List.length_append,List.length_map,List.length_cons];omega
theorem b9S{l:List Avl.It}(h:Avl.Ord l):l.Nodup:=by
 rw[List.nodup_iff_pairwise_ne];refine List.Pairwise.imp ?_ h;intro a b hab e;subst e;unfold Avl.lt at hab;omega
theorem b8o{es:List Ent}{at_:Int->Nat}{T:Avl.S}(h:a2e name es at_ T)(hl:es.length<=60)(hs:∀ e∈es,e.a0e.length<=40):Avl.size T<=9000:=by
 have h1:=b2Z _ (es.flatMap fun e=>e.a0e.map fun s=>(⟨s.1,s.2,e.id,at_ e.id⟩:Avl.It)) (b9S h.1) (fun z hz=>by
  obtain⟨e,he,_,s,hs,rfl⟩:=(h.2 z).1 hz
  exact List.mem_flatMap.2 ⟨e,he,List.mem_map.2 ⟨s,hs,rfl⟩⟩)
 have h2:=b2I at_ es hs;rw[Avl.a1k] at h1;omega
theorem b4W(h:Mid s)(ho:Of s r){now:Int}(he:a1H now e)(hi:i<r.tg.length):Fit r.tg[i] e:=by
 obtain⟨t1,t2⟩:=ho.th i hi;refine⟨he.sp,fun p=>?_,he.u1,he.u9,by have:=he.sl;omega⟩;have:=Desk.a7j r.tg[i].name p s.es h.small;have:=a1x h;rw[t1];omega
theorem a6d(h:Mid s):Desk.a9U s.es:=fun e he q hq=>((h.en e he).sp q hq).2.1
theorem b3a(h:Mid s)(ho:Of s r)(hsp:c1P e.a0e)(hu:1<=e.a0c)(hi:i<r.tg.length)(hn:r.tg[i].name=e.a0k):
  a2V (a1z r.tg[i].A e.a0e e.a0c) r.tg[i].a0c e.a0e=Desk.a1e s.ts s.es e.a0k e.a0c e.a0e:=by
 have e1:=a8G h.tn (i:=i) (by rw[<- ho.len];exact hi);rw[ho.tsAt hi] at e1;rw[(ho.th i hi).1,hn] at *;exact Desk.b8v h.small (a6d h) hsp (by omega) e1
theorem b1H(h:Mid s)(ho:Of s r)(hi:i<r.tg.length):Avl.Ord (Avl.a0w r.tg[i].T)/\Avl.size r.tg[i].T<=9000:=by
 obtain⟨_,t2⟩:=ho.th i hi;exact⟨t2.1,b8o t2 (a1x h) (fun e he=>(h.en e he).sl)⟩
theorem c2L(h:Mid s)(ho:Of s r){g:EG}(hg:g∈r.eg)(hk:g.e.kind≠3)(hi:i<r.tg.length)(hn:r.tg[i].name=g.e.a0k):∀ p,0<=a1z r.tg[i].A g.e.a0e (-g.e.a0c) p:=by
 intro p;have hb:ofB r.tg[i].name g.e=true:=by simp[ofB,hn,Desk.a2u,hk]
 rw[(ho.th i hi).1,Desk.a8Q hb h.ids (ho.mem hg)];exact (Desk.a7j _ p _ (fun e he=>h.small e (Desk.a4r.1 he).1)).1
open Desk (Ent St Ids kept a0C a0Q a1C a2e ofB a0y a2c Mid a1H a5R)
noncomputable def bkG(Gr:List Int)(g:EG):EG:=@ite _ (g.e.id∈Gr) (Classical.propDecidable _) { g with e:=a0Q g.e } g
theorem a9R{g:EG}(h:g.e.id∈Gr):bkG Gr g={ g with e:=a0Q g.e }:=if_pos h
theorem a5k{g:EG}(h:g.e.id ∉ Gr):bkG Gr g=g:=if_neg h
noncomputable def a8r(Gr:List Int)(eg:List EG):List EG:=eg.map (bkG Gr)
theorem c1v(eg:List EG):a8r [] eg=eg:=by
 unfold a8r
 conv=>rhs;rw[<- List.map_id eg]
 apply List.map_congr_left;intro g _;rw[a5k (by simp)];rfl
theorem b8O(Gr:List Int)(id:Int)(eg:List EG):a1R id 1 0 (a8r Gr eg)=a8r (Gr++[id]) eg:=by
 unfold a1R a8r;rw[List.map_map];apply List.map_congr_left;intro g _;simp only[Function.comp]
 by_cases h1:g.e.id∈Gr
 ·rw[a9R h1,a9R (List.mem_append_left _ h1)]
  split <;> rfl
 ·rw[a5k h1]
  by_cases h2:g.e.id=id
  ·rw[if_pos h2,a9R (List.mem_append_right _ (by rw[h2];exact List.mem_singleton.2 rfl))];rfl
  ·rw[if_neg h2,a5k (fun hm=>by rcases List.mem_append.1 hm with e|e;exact h1 e;exact h2 (List.mem_singleton.1 e))]
theorem c1w{eg:List EG}{g:EG}(hg:g∈eg)(h:g.e.id ∉ Gr):g∈a8r Gr eg:=by
 unfold a8r;exact List.mem_map.2 ⟨g,hg,a5k h⟩
theorem c3G(Gr:List Int)(eg:List EG)(p:Nat->Bool)(hp:∀ g∈eg,g.e.kind=3->(p g.eb=true↔g.e.id∈Gr)):(((eg.filter fun g=>g.e.kind==3).map (·.eb)).filter fun b=>!p b)=((a8r Gr eg).filter fun g=>g.e.kind==3).map (·.eb):=by
 induction eg with
 |nil=>rfl
 |cons g eg ih =>
  have ih:=ih (fun x hx=>hp x (List.mem_cons_of_mem _ hx));have e1:a8r Gr (g :: eg)=bkG Gr g :: a8r Gr eg:=rfl;rw[e1]
  by_cases hk:g.e.kind=3
  ·have hkb:(g.e.kind==3)=true:=by rw[hk];rfl
   rw[List.filter_cons,if_pos hkb,List.map_cons,List.filter_cons]
   by_cases hG:g.e.id∈Gr
   ·have h1:p g.eb=true:=(hp g List.mem_cons_self hk).2 hG;rw[if_neg (by rw[h1];simp),a9R hG,List.filter_cons,if_neg (by simp[a0Q])];exact ih
   ·have h1:p g.eb=false:=by
     cases h:p g.eb
     ·rfl
     ·exact absurd ((hp g List.mem_cons_self hk).1 h) hG
    rw[if_pos (by rw[h1];rfl),a5k hG,List.filter_cons,if_pos hkb,List.map_cons,ih]
  ·have hkb:¬ ((g.e.kind==3)=true):=by simpa using hk
   rw[List.filter_cons,if_neg hkb,List.filter_cons]
   by_cases hG:g.e.id∈Gr
   ·rw[a9R hG,if_neg (by simp[a0Q])];exact ih
   ·rw[a5k hG,if_neg hkb];exact ih
def gAt(s:St)(k:Nat):List Ent × List Int:=((s.es.filter Desk.a0T).take k).foldl (a5R s.ts) (s.es,[])
theorem b6U(s:St):gAt s 0=(s.es,[]):=rfl
theorem b6V(s:St)(hk:k<(s.es.filter Desk.a0T).length):gAt s (k+1)=a5R s.ts (gAt s k) (s.es.filter Desk.a0T)[k]:=by
 unfold gAt;rw[List.take_succ_eq_append_getElem hk,List.foldl_append];rfl
theorem c5h(s:St)(h:Ids s.es)(hk:(s.es.filter Desk.a0T).length<=k):gAt s k=Desk.a0R s.ts s.es:=by
 unfold gAt;rw[List.take_of_length_le hk,Desk.a5F s.ts s.es h]
structure GX(w wx:World)(d:Nat)(s:St)(r:Raw)(col:Nat->Option Col)(v4:Value)(k:Nat)(v:Value)(rk:Raw)(ck:Nat->Option Col):Prop where
 dk:DK wx d rk ck
 of:Of { s with es:=(gAt s k).1 } rk
 hl:Hl rk
 wl:rk.wl=r.wl
 eg:rk.eg=a8r (gAt s k).2 r.eg
 st:Step anyS w.heap.size col ck w wx
 nr:a2I wx w.heap.size ck v (gAt s k).2
 mid:Mid { s with es:=(gAt s k).1 }
 gm:∀ x∈(gAt s k).2,∃ e∈(s.es.filter Desk.a0T).take k,e.id=x
 row:wx.ownsRow 0 197 1 v4 r.wl.length (r.wl.map a5x)
 rc:∀ b,v4.ownBlock=some b->ck b=some .wa
def GI(w wx:World)(d:Nat)(s:St)(r:Raw)(col:Nat->Option Col)(v4:Value)(k:Nat)(v:Value):Prop:=∃ rk ck,GX w wx d s r col v4 k v rk ck
def a5o(w:World)(d:Nat)(s:St)(col:Nat->Option Col)(v:Value)(w':World):Prop :=
 ∃ (r':Raw) (col':Nat->Option Col),DK w' d r' col'/\Of { s with es:=(Desk.a0R s.ts s.es).1 } r'/\Wl r'/\Hl r'/\Step anyS w.heap.size col col' w w'/\a2I w' w.heap.size col' v (Desk.a0R s.ts s.es).2
theorem GX.next(h:GX w wx d s r col v4 k v rk ck)(ho:Of s r)(hw:Wl r)(hid:Ids s.es)(hk:k<r.wl.length):
  ∃ (g:EG) (hk':k<(s.es.filter Desk.a0T).length),g∈r.eg/\g∈rk.eg/\g.eb=r.wl[k]/\g.e=(s.es.filter Desk.a0T)[k]/\g.e.kind=3/\g.e.id ∉ (gAt s k).2:=by
 have e1:s.es.filter Desk.a0T=(r.eg.filter fun g=>g.e.kind==3).map (·.e):=by
  rw[<- ho.es,List.filter_map];rfl
 have hl:k<(r.eg.filter fun g=>g.e.kind==3).length:=by
  have:=hk;rw[hw,List.length_map] at this;exact this
 have hk':k<(s.es.filter Desk.a0T).length:=by rw[e1,List.length_map];exact hl
 have hge:((r.eg.filter fun g=>g.e.kind==3)[k]).e=(s.es.filter Desk.a0T)[k]:=by simp only[e1,List.getElem_map]
 have hm:=List.mem_filter.1 (zg hl)
 have hno:((r.eg.filter fun g=>g.e.kind==3)[k]).e.id ∉ (gAt s k).2:=by
  intro hx;obtain⟨e,he,e2⟩:=h.gm _ hx;obtain⟨j,hj,rfl⟩:=List.getElem_of_mem he;rw[List.length_take] at hj;rw[List.getElem_take,hge] at e2
  have hp:(s.es.filter Desk.a0T).Pairwise fun a b=>a.id<b.id:=by
   have:=Desk.a5J Desk.a0T hid;unfold Ids at this;rw[List.pairwise_map] at this;exact this
  have:=List.pairwise_iff_getElem.1 hp j k (by omega) hk' (by omega);omega
 refine⟨_,hk',hm.1,?_,?_,hge,by simpa using hm.2,hno⟩
 ·rw[h.eg];exact c1w hm.1 hno
 ·have e3:r.wl[k]?=some ((r.eg.filter fun g=>g.e.kind==3)[k]).eb:=by rw[hw,List.getElem?_map,List.getElem?_eq_getElem hl];rfl
  rw[List.getElem?_eq_getElem hk] at e3;exact (Option.some.inj e3).symm
theorem GX.no(h:GX w wx d s r col v4 k v rk ck)(hk':k<(s.es.filter Desk.a0T).length)(q1:DK w1 d rk c1)(q2:Step (·=.a0k i) wx.heap.size ck c1 wx w1)(hf:Desk.a1e s.ts (gAt s k).1 (s.es.filter Desk.a0T)[k].a0k (s.es.filter Desk.a0T)[k].a0c (s.es.filter Desk.a0T)[k].a0e=false):
  GX w w1 d s r col v4 (k+1) v rk c1:=by
 have e:gAt s (k+1)=gAt s k:=by
  rw[b6V s hk'];unfold a5R;rw[if_neg (by rw[hf];simp)]
 obtain⟨G,a1,a2⟩:=q2.left;refine⟨q1,by rw[e];exact h.of,h.hl,h.wl,by rw[e];exact h.eg,h.st.trans (q2.any h.st.size),by rw[e];exact h.nr.step q2 (zq _),by rw[e];exact h.mid,fun x hx=>?_,a1i h.row a1 (fun b hb=>a2 b (.inl ⟨_,h.rc b hb,by simp⟩)),fun b hb=>q2.a9i _ _ (h.rc b hb)⟩;rw[e] at hx;obtain⟨y,hy,e2⟩:=h.gm x hx;rw[List.take_succ_eq_append_getElem hk'];exact⟨y,List.mem_append_left _ hy,e2⟩
theorem c2K(h:Mid s)(he:e∈s.es)(hk:e.kind=3)(hf:Desk.a1e s.ts s.es e.a0k e.a0c e.a0e=true):Mid { s with es:=a0C e.id s.es }:=by
 obtain⟨l,r,e1,e2,_⟩:=Desk.a8i h.ids he rfl;have h':Mid ⟨s.ts,l++e :: r,s.given,s.now⟩:=by rw[<- e1];exact h
 have:=h'.grant hk (by rw[<- e1];exact hf);rw[e2];exact this
theorem GX.yes{w3:World}{v':Value}(h:GX w wx d s r col v4 k v rk ck)(hk':k<(s.es.filter Desk.a0T).length){g:EG}(hg:g∈rk.eg)(hge:g.e=(s.es.filter Desk.a0T)[k])(hk3:g.e.kind=3)(hi:i<rk.tg.length)(hname:rk.tg[i].name=g.e.a0k)
  (q2:Step (·=.a0k i) wx.heap.size ck c1 wx w1) (sp:a7R w1 d (rk.setT i (rk.tg[i].with (a1z rk.tg[i].A g.e.a0e g.e.a0c) (a7e g.e.id g.eb rk.tg[i].T g.e.a0e))) c1 g w2) (hf:Desk.a1e s.ts (gAt s k).1 g.e.a0k g.e.a0c g.e.a0e=true)
  (ho:Off v.ownBlock.toList w2 w3) (hv':∀ c2,(∀ b,v.ownBlock=some b->c2 b=none)->(∀ b,w2.heap.size<=b->c2 b=none)->a2I w3 w.heap.size c2 v' ((gAt s k).2++[g.e.id])):
  GI w w3 d s r col v4 (k+1) v':=by
 obtain⟨x,l',c2,e1,e2,p1,p2,p3,p4⟩:=sp;have hfk:Desk.a1e s.ts (gAt s k).1 (s.es.filter Desk.a0T)[k].a0k (s.es.filter Desk.a0T)[k].a0c (s.es.filter Desk.a0T)[k].a0e=true:=by rw[<- hge];exact hf
 have e:gAt s (k+1)=(a0C g.e.id (gAt s k).1,(gAt s k).2++[g.e.id]):=by
  rw[b6V s hk'];unfold a5R;rw[if_pos hfk,hge]
 have hn:=h.dk.ni;have hO:=(h.of.book h.mid.tn h.mid.ids hn hg hk3 ((h.mid.en _ (h.of.mem hg)).ri) hi hname).1;have hnr1:=(h.nr.step q2 (zq _)).step p4 (zq _);have hvn:∀ b,v.ownBlock=some b->c2 b=none:=hnr1.no;have hD:DK w3 d _ c2:=p3.off ho (fun y hy=>hvn y (Option.mem_toList.1 hy));have st3:Step anyS w.heap.size c2 c2 w2 w3:=⟨⟨_,ho,fun y hy=>.inr ⟨hvn y (Option.mem_toList.1 hy),(hnr1.own.lt y (Option.mem_toList.1 hy)).1⟩⟩,fun _ _ h=>h,fun _ _ h=>.inl h⟩;have t1:=h.st.trans (q2.any h.st.size);have t2:=t1.trans (p4.any t1.size);obtain⟨G1,a1,a2⟩:=q2.left;obtain⟨G2,b1,b2⟩:=p4.left;have hrc1:∀ b,v4.ownBlock=some b->c1 b=some .wa:=fun b hb=>q2.a9i _ _ (h.rc b hb)
 have hrc2:∀ b,v4.ownBlock=some b->c2 b=some .wa:=fun b hb=>p4.a9i _ _ (hrc1 b hb)
 have hrow2:=a1i (a1i h.row a1 (fun b hb=>a2 b (.inl ⟨_,h.rc b hb,by simp⟩))) b1 (fun b hb=>b2 b (.inl ⟨_,hrc1 b hb,by unfold b1x;simp⟩));refine⟨_,c2,hD,⟨hO.now,hO.given,hO.ts,by rw[e];exact hO.es,by rw[e];exact hO.th,hO.tb⟩,h.hl.book (r:=rk) hn hg (by omega) e2 p1 p2,h.wl,?_,t2.trans st3,by rw[e];exact hv' c2 hvn (fun b hb=>p3.none hb),?_,fun y hy=>?_,a1i hrow2 ho (fun b hb hx=>?_),hrc2⟩
 ·rw[e];show a1R g.e.id 1 0 rk.eg=a8r ((gAt s k).2++[g.e.id]) r.eg;rw[h.eg,b8O]
 ·rw[e];exact c2K h.mid (h.of.mem hg) hk3 hf
 ·rw[e] at hy;rw[List.take_succ_eq_append_getElem hk'];rcases List.mem_append.1 hy with hy|hy
  ·obtain⟨z,hz,e3⟩:=h.gm y hy;exact⟨z,List.mem_append_left _ hz,e3⟩
  ·have:y=g.e.id:=List.mem_singleton.1 hy;exact⟨_,List.mem_append_right _ (List.mem_singleton.2 rfl),by rw[<- hge,this]⟩
 ·have:=hvn b (Option.mem_toList.1 hx);rw[hrc2 b hb] at this;cases this
theorem b7p{g:EG}(hk:g.e.kind=3):((bkG Gr g).e.kind==1)=true↔g.e.id∈Gr:=by
 by_cases h:g.e.id∈Gr
 ·rw[a9R h];simp[h,a0Q]
 ·rw[a5k h];simp[h,hk]
theorem c6L(Gr:List Int)(g:EG):(bkG Gr g).eb=g.eb:=by
 by_cases h:g.e.id∈Gr
 ·rw[a9R h]
 ·rw[a5k h]
def b3R(eg:List EG)(Gr:List Int)(b:Nat):Bool:=eg.any fun g=>decide (g.eb=b) && Gr.any fun x=>decide (x=g.e.id)
theorem c7b(eg:List EG)(Gr:List Int)(hn:(eg.map (·.eb)).Nodup):∀ g∈eg,g.e.kind=3->(bkG Gr g).eb=g.eb/\((bkG Gr g).e.kind==1)=b3R eg Gr g.eb:=by
 intro g hg hk;refine⟨c6L Gr g,?_⟩;have h1:=b7p (Gr:=Gr) hk
 have h2:b3R eg Gr g.eb=true↔g.e.id∈Gr:=by
  unfold b3R;rw[List.any_eq_true];constructor
  ·rintro ⟨x,hx,e1⟩;rw[Bool.and_eq_true,decide_eq_true_iff,List.any_eq_true] at e1;obtain⟨e1,y,hy,e2⟩:=e1;have:x=g:=a0W _ hn hx hg e1;have e3:y=x.e.id:=of_decide_eq_true e2;rw[<- this,<- e3];exact hy
  ·intro h;refine⟨g,hg,?_⟩;rw[Bool.and_eq_true,decide_eq_true_iff,List.any_eq_true];exact⟨rfl,g.e.id,h,decide_eq_true rfl⟩
 cases ha:((bkG Gr g).e.kind==1) <;> cases hb:b3R eg Gr g.eb
 ·rfl
 ·exact absurd (h1.2 (h2.1 hb)) (by rw[ha];simp)
 ·exact absurd (h2.2 (h1.1 ha)) (by rw[hb];simp)
 ·rfl
theorem a5e(ts:List (ByteArray × Int)):∀ (l:List Ent)(p:List Ent × List Int),(l.foldl (a5R ts) p).2.length<=p.2.length+l.length
 |[],p=>by simp
 |e :: l,p=>by
  have ih:=a5e ts l (a5R ts p e);have:(a5R ts p e).2.length<=p.2.length+1:=by unfold a5R;split <;> simp
  simp only[List.foldl_cons,List.length_cons];omega
theorem c5g(s:St)(k:Nat):(gAt s k).2.length<=k:=by
 have:=a5e s.ts ((s.es.filter Desk.a0T).take k) (s.es,[]);have h2:=List.length_take_le k (s.es.filter Desk.a0T);unfold gAt;simp only[List.length_nil] at this;omega
theorem b3y(h:DK w d r col)(ho:Of s r)(hw:Wl r)(hh:Hl r)(hm:Mid s):
  Calls Tryz.prog 65 #[.pointer (some ⟨d,0,none⟩)] w fun e w'=>∃ v,e=.returned v/\a5o w d s col v w':=by
 obtain⟨i0,hi0,hz0,hz1,hz2⟩:=info_parts b1S;obtain⟨v4,c4,own4,hc4⟩:=h.wa
 have hwn:r.wl.length<=60:=by
  rw[hw,List.length_map];have h1:=List.length_filter_le (fun g:EG=>g.e.kind==3) r.eg;have h2:=a1x hm;have h3:r.eg.length=s.es.length:=by rw[<- ho.es];simp
  omega
 have G0:Hid (GI w w d s r col v4 0 (.slice none 0 0)):=⟨r,col,h,ho,hh,rfl,by rw[b6U,c1v],Step.refl _ _ _ _,a2I.nil _ _ _,hm,fun x hx=>by rw[b6U] at hx;simp at hx,own4,hc4⟩;have HH:=a0b (zA h (zA ho (zA hw (zA hh hm))))
 have hv:∃ a cap,v4=.slice a r.wl.length cap:=by
  rcases own4.2 with ⟨rfl,h⟩|⟨g,cap,_,rfl,_⟩
  ·rw[h];exact⟨_,_,rfl⟩
  ·exact⟨_,_,rfl⟩
 obtain⟨a,cap,rfl⟩:=hv;clear h ho hw hh hm own4 hc4
 go_enter Tryz.func65,Tryz.ntmps65
 go_wp2_with fail
 go_loopw [3,5,11] (fun vg _ vi wx=>∃ k:Nat,k<=r.wl.length/\vi=.int .i64 k/\GI w wx d s r col (.slice a r.wl.length cap) k vg) (fun _ _ vi _=>r.wl.length-(intOf vi).toNat)
 case atStart=>exact⟨0,Nat.zero_le _,rfl,G0.out⟩
 case round =>
  obtain⟨k,hk,rfl,rk,ck,X⟩:=hrel
  by_cases hlt:k<r.wl.length
  ·have hi0':(k:Int)<(r.wl.length:Int):=by omega
   obtain⟨g,hk',hgr,hgk,hgeb,hge,hk3,hno⟩:=X.next HH.out.2.1 HH.out.2.2.1 HH.out.2.2.2.2.ids hlt;obtain⟨Hh,cap',e1⟩:=Joins.ownsRow_form X.row (by omega);simp only[Value.slice.injEq,true_and] at e1;obtain⟨rfl,rfl⟩:=e1;have a0:=X.row.cellAt k (by omega);rw[List.getElem?_map,List.getElem?_eq_getElem hlt,Option.map_some,<- hgeb] at a0;unfold a5x at a0;obtain⟨q1,q2,q3⟩:=X.dk.en g hgk;have co:=q1.en.c1;obtain⟨i,hi,hname,htb⟩:=X.of.tb g hgk;have hEO:=X.mid.en _ (X.of.mem hgk);have hFit:=b4W X.mid X.of hEO hi;have hHF:=b3a X.mid X.of hEO.sp hEO.u1 hi hname;have hRM:=b1H X.mid X.of hi;have HX:=a0b X;have HG:=a0b (zA hgk (zA hge (zA hk3 (zA hname q2))))
   cases hf:Desk.a1e s.ts (gAt s k).1 g.e.a0k g.e.a0c g.e.a0e
   ·have TK:=a0b (b7e X.dk i hi q1 htb (by rw[q2];simp) (by rw[q3];simp) hFit (hHF.trans hf))
    have FN:Hid (Desk.a1e s.ts (gAt s k).1 (s.es.filter Desk.a0T)[k].a0k (s.es.filter Desk.a0T)[k].a0c (s.es.filter Desk.a0T)[k].a0e=false):=by
     show _=_;rw[<- hge];exact hf
    have HK:=a0b hk';clear hf hHF hFit hRM hEO q1 q2 q3 X hgk hge hk3 hname hno hgr hgeb htb
    go_wp2_with fail
    refine TK.out.mono ?_;rintro e w1 ⟨rfl,c1,p1,p2⟩;have HN:Hid (GI w w1 d s r col (.slice (some ⟨Hh,0,none⟩) r.wl.length cap) (k+1) u3):=⟨rk,c1,HX.out.no HK.out p1 p2 FN.out⟩;clear p1 p2 TK HX HG a0 co FN
    go_wp2_with fail
    go_roundw
    case rel=>exact⟨k+1,by omega,by go_num,HN.out⟩
    case measure=>simp[intOf];omega
   ·have hR0:c3L rk.tg[i].T g.e.id g.e.a0e:=⟨hRM.1,hRM.2,(X.of.book X.mid.tn X.mid.ids X.dk.ni hgk hk3 hEO.ri hi hname).2,a6b hEO.ri⟩;have TK:=a0b (b3F X.dk i hi q1 htb (by rw[q2];simp) (by rw[q3];simp) hFit hR0 (hHF.trans hf));have HF:=a0b hf;have hls:(gAt s k).2.length<=60:=by have:=c5g s k;omega
    have hlen:rk.hl.length<=1000:=by
     have h1:=X.hl.len
     have h2:rk.eg.length=(gAt s k).1.length:=by have:=X.of.es;rw[<- List.length_map (f:=(·.e)),this]
     have h3:=a1x X.mid;simp only at h3;omega
    have HSX:=a0b (zA X.hl.1 (zA hlen (X.hl.has hgk (by omega))));have HK:=a0b hk';clear hf hHF hFit hRM hEO q1 q2 q3 X hgk hge hk3 hno hgr hgeb htb hR0 hlen;have HNM:=a0b hname;clear hname
    go_wp2_with fail
    refine TK.out.mono ?_;rintro e w1 ⟨rfl,c1,p1,p2⟩;have ST:=a0b (b0w p1 HSX.out.1 HSX.out.2.1 (g:=g) HG.out.1 ⟨a9r g,HSX.out.2.2,rfl,rfl⟩);have P2:=a0b p2;clear p1 p2 TK a0 co
    go_wp2_with fail
    refine ST.out.mono ?_;rintro e w2 ⟨rfl,sp⟩;have SP:=a0b sp;obtain⟨x,l',c2,e1,e2,s1,s2,s3,s4⟩:=sp;have hmem:({ g with e:={ g.e with kind:=1,a0Z:=0 } }:EG)∈a1R g.e.id 1 0 rk.eg:=List.mem_map.2 ⟨g,HG.out.1,if_pos rfl⟩;have c02:w2.cell? ⟨g.eb,0,none⟩=some (.int .i64 g.e.id):=(s3.en _ hmem).1.en.c0;have NR:=a0b ((HX.out.nr.step P2.out (zq _)).step s4 (zq _));have hws:w.heap.size<=w2.heap.size:=Nat.le_trans (Nat.le_trans HX.out.st.size P2.out.size) s4.size;clear s1 s2 s3 s4 e1 e2 hmem ST
    go_wp2_with (first
     |(at_builtin;refine wpList_append_lies _ rfl _ _ 38 rfl w.heap.size 3 i0 _ 1 8 Tryz.underlying38 hi0 hz0 hz1 hz2 rfl (by decide) _ _ _ rfl (NR.out.own.alloc _) ⟨w2.heap.size,0,none⟩ 1 1 [.int .i64 g.e.id] rfl rfl (World.news_of_block (cs:=#[.int .i64 g.e.id]) (a0p w2 _)) (by simp[Value.oneCell']) (by omega) (by unfold maxLen;omega) (by omega) (by simp;omega) (w2.heap.size+1) (by simp) ?_;intro g2 cap2 w3 hown hgrow hat hlt2))
    have ko:Off u3.ownBlock.toList w2 w3:=Off.grown ((Off.refl _ w2).alloc _) hgrow (fun k hk=>.inl (Option.mem_toList.2 hk));have hat':u3.ownBlock=some g2\/g2=w2.heap.size+1:=hat
    have HN:Hid (GI w w3 d s r col (.slice (some ⟨Hh,0,none⟩) r.wl.length cap) (k+1) (.slice (some ⟨g2,0,none⟩) ((gAt s k).2.length+1) cap2)) :=
     HX.out.yes HK.out HG.out.1 HG.out.2.1 HG.out.2.2.1 hi HNM.out P2.out SP.out HF.out ko (fun c2 n1 n2=>⟨by rw[List.length_append,List.map_append];exact hown,fun b hb=>by
      have:g2=b:=by simpa[Value.ownBlock] using hb
      subst this;rcases hat' with e|e
      ·exact n1 g2 e
      ·exact n2 g2 (by omega)⟩)
    clear hown hgrow hat ko hat' HX HG HK SP NR P2 HNM HF HSX;go_roundw
    case rel=>exact⟨k+1,by omega,by go_num,HN.out⟩
    case measure=>simp[intOf];omega
  ·have hi1:¬ ((k:Int)<(r.wl.length:Int)):=by omega
   obtain⟨v,c4',own',hc'⟩:=X.dk.wa;have f4:=X.dk.fz 4;have hd:=X.dk.dc;have hvd:d ∉ v.ownBlock.toList:=fun e=>by have:=hc' _ (Option.mem_toList.1 e);rw[hd] at this;cases this
   have hkl:(s.es.filter Desk.a0T).length<=k:=by
    have h1:=HH.out.2.2.1
    have h2:s.es.filter Desk.a0T=(r.eg.filter fun g=>g.e.kind==3).map (·.e):=by rw[<- HH.out.2.1.es,List.filter_map];rfl
    rw[h2,List.length_map];rw[h1,List.length_map] at hlt;omega
   have hga:=c5h s HH.out.2.2.2.2.ids hkl;have PB:=a0b (c7b r.eg (gAt s k).2 HH.out.1.nd);generalize b3R r.eg (gAt s k).2=p at PB
   have DL:=a0b (c1e rk.wl p v wr (fun wx ko b hb=>by
    have hb':b∈r.wl:=by rw[<- X.wl];exact hb
    rw[HH.out.2.2.1] at hb';obtain⟨g,hg,rfl⟩:=List.mem_map.1 hb';obtain⟨hg1,hg2⟩:=List.mem_filter.1 hg;have hg3:g.e.kind=3:=by simpa using hg2
    have hmem:bkG (gAt s k).2 g∈rk.eg:=by rw[X.eg];exact List.mem_map.2 ⟨g,hg1,rfl⟩
    obtain⟨q1,q2,q3⟩:=X.dk.en _ hmem;have hkc:wx.cell? ⟨(bkG (gAt s k).2 g).eb,1,none⟩=some (.int .i64 (bkG (gAt s k).2 g).e.kind):=ko.cell (fun e=>by have:=hc' _ (Option.mem_toList.1 e);rw[q2] at this;cases this) q1.k;obtain⟨e1,e2⟩:=PB.out g hg1 hg3;rw[e1] at hkc;rw[<- e2]
    exact b3r g.eb _ wx hkc) own' (by rw[X.wl];omega))
   have VC:=a0b (zA hc' hvd);have HX:=a0b X;clear X own' hc' hvd hd
   go_wp2_with fail
   refine DL.out.mono ?_;rintro e w2 ⟨v',rfl,k1,k2,k3⟩
   obtain⟨va,vn,vc,rfl⟩:∃ a n cap,v'=.slice a n cap:=by
    rcases k2.2 with ⟨e,_⟩|⟨_,_,_,e,_⟩
    ·exact⟨_,_,_,e⟩
    ·exact⟨_,_,_,e⟩
   have c42:=k1.cell VC.out.2 c4';have f42:=(k1.frozen (o:=4) VC.out.2 (World.block_lt_of_cell? _ _ c4')).trans f4;have SW:=a0b (HX.out.dk.setWait VC.out.1 k1 k2 (fun b hb=>.inl (by rw[<- k3];exact hb)))
   have HF:Hid (a5o w d s col u3 (w2.setCell ⟨d,4,none⟩ (.slice va vn vc))):=by
    obtain⟨col2,q1,q2⟩:=SW.out;have X:=HX.out;refine⟨_,col2,q1,?_,?_,X.hl,X.st.trans (q2.any X.st.size),?_⟩
    ·have o:=X.of;rw[hga] at o;exact⟨o.now,o.given,o.ts,o.es,o.th,o.tb⟩
    ·show (rk.wl.filter fun b=>!p b)=(rk.eg.filter fun g=>g.e.kind==3).map (·.eb);rw[X.wl,HH.out.2.2.1,X.eg];exact c3G _ _ p (fun g hg hk=>by rw[<- (PB.out g hg hk).2];exact b7p hk)
    ·rw[<- hga];exact X.nr.step q2 (zq _)
   clear k1 k2 k3 DL c4' f4 SW HX VC PB HH
   go_wp2_with fail
   go_ret;exact⟨_,rfl,HF.out⟩
open Desk (Ent St Ids kept a0C a0Q a1C a2e ofB a0y a2c Mid a1H a0z)
def b7y(w:World)(d:Nat)(s:St)(col:Nat->Option Col)(g:EG)(w':World):Prop :=
 ∃ (r':Raw) (col':Nat->Option Col),DK w' d r' col'/\Of { s with es:=kept g.e.id s.es } r'/\Wl r'/\Hl r'/\Step a5U w.heap.size col col' w w'
theorem a9f(h:DK w d r col)(ho:Of s r)(hw:Wl r)(hm:Mid s){g:EG}(hg:g∈r.eg)(hh:Hl { r with eg:=a1F g.e.id r.eg }):
  Calls Tryz.prog 150 #[.pointer (some ⟨d,0,none⟩),.pointer (some ⟨g.eb,0,none⟩)] w fun e w'=>e=.returned (.tuple #[])/\b7y w d s col g w':=by
 have hid:=hm.idb _ (ho.mem hg);have hg1:=hm.g1
 by_cases hk:g.e.kind=3
 ·refine (b8h h hg hk (by omega) (fun b hb=>?_) ?_).mono ?_
  ·rw[hw] at hb;obtain⟨x,hx,rfl⟩:=List.mem_map.1 hb;exact⟨x,(List.mem_filter.1 hx).1,rfl⟩
  ·rw[hw,List.length_map];have h1:=List.length_filter_le (fun g:EG=>g.e.kind==3) r.eg;have h2:=a1x hm;have h3:r.eg.length=s.es.length:=by rw[<- ho.es];simp
   omega
  ·rintro e w' ⟨rfl,col',q1,q2⟩;refine⟨rfl,_,col',q1,?_,hw.goes h.ni h.nd hg,hh,q2⟩;have o:=ho.goesW hm.ids h.ni hg hk;exact⟨o.now,o.given,o.ts,o.es,o.th,o.tb⟩
 ·obtain⟨i,hi,hname,htb⟩:=ho.tb g hg;have hRM:=b1H hm ho hi;refine (b8i h hg hk i hi htb (b4W hm ho (hm.en _ (ho.mem hg)) hi) hRM.1 hRM.2 (c2L hm ho hg hk hi hname) (by omega)).mono ?_;rintro e w' ⟨rfl,col',q1,q2⟩;exact⟨rfl,_,col',q1,ho.goes hm.tn hm.ids h.ni hg hk hi hname,hw.goes1 h.ni hg hk,hh,q2⟩
namespace Desk
end Desk
def a0s(err at_ n:Int)(en da gr ed:Value):Value:=.agg #[.int .i64 err,.int .i64 at_,.int .i64 n,en,da,gr,ed]
structure Q7(Z:World)(Q:Nat):Prop where
 q0:Z.cell? ⟨Q,0,none⟩=some (.int .i64 0)
 q1:Z.cell? ⟨Q,1,none⟩=some (.int .i64 0)
 q2:Z.cell? ⟨Q,2,none⟩=some (.int .i64 0)
 q3:Z.cell? ⟨Q,3,none⟩=some (.slice none 0 0)
 q4:Z.cell? ⟨Q,4,none⟩=some (.slice none 0 0)
 q5:Z.cell? ⟨Q,5,none⟩=some (.slice none 0 0)
 q6:Z.cell? ⟨Q,6,none⟩=some (.slice none 0 0)
 fq:∀ o,Z.frozen? ⟨Q,o,none⟩=false
def a0f:Obj:=.cells #[.int .i64 0,.int .i64 0,.int .i64 0,.slice none 0 0,.slice none 0 0,.slice none 0 0,.slice none 0 0] 40 (0,0)
theorem Q7.of(h:w.heap[Q]?=some a0f):Q7 w Q:=by
 unfold a0f at h;refine⟨?_,?_,?_,?_,?_,?_,?_,fun o=>frozen_of_row _ Q o _ _ h⟩
 all_goals (simp only[World.cell?,h];rfl)
theorem Q7.later(h:Q7 w Q)(hb:w'.heap[Q]?=w.heap[Q]?):Q7 w' Q :=
 ⟨(zo hb).trans h.q0,(zo hb).trans h.q1,(zo hb).trans h.q2,(zo hb).trans h.q3,(zo hb).trans h.q4,(zo hb).trans h.q5,(zo hb).trans h.q6,fun o=>(World.frozen?_of_block hb).trans (h.fq o)⟩
def a2w(Z:World)(Q:Nat)(a b c d e f g:Value):World:=((((((Z.setCell ⟨Q,0,none⟩ a).setCell ⟨Q,1,none⟩ b).setCell ⟨Q,2,none⟩ c).setCell ⟨Q,3,none⟩ d).setCell ⟨Q,4,none⟩ e).setCell ⟨Q,5,none⟩ f).setCell ⟨Q,6,none⟩ g
theorem a2R(Z:World)(Q:Nat)(a b c d e f g:Value):Off [Q] Z (a2w Z Q a b c d e f g) :=
 (((((((Off.refl [Q] Z).setCell (.inl (by simp)) _ _).setCell (.inl (by simp)) _ _).setCell (.inl (by simp)) _ _).setCell (.inl (by simp)) _ _).setCell (.inl (by simp)) _ _).setCell (.inl (by simp)) _ _).setCell (.inl (by simp)) _ _
theorem a2q(a:Obj):Below w.heap.size w ((w.alloc a).alloc a0f)/\((w.alloc a).alloc a0f).heap[w.heap.size+1]?=some a0f:=by
 refine⟨((zr _ _).alloc (zq _) _).alloc (by simp) _,?_⟩;have:=a0p (w.alloc a) a0f
 rwa [World.size_alloc] at this
theorem a2I.base(h:a2I w B col v l)(hb:B'<=B):a2I w B' col v l:=⟨Joins.ownsRow_le h.own hb,h.no⟩
theorem a2I.append{u:Value}{m:List Int}(h:a2I w B col v l)(k:a2I w B col u m)(hB:B<=w.heap.size)(hc:∀ b,w.heap.size<=b->col b=none)(hl:l.length+m.length<=100000):
  ∃ (v':Value) (w':World),(∀ ty,(Builtin.append_ #[38,38] ty #[v,u]).run Tryz.prog w=.ok v' w')/\a2I w' B col v' (l++m)/\w.grownBy w' v.ownBlock/\(v'.ownBlock=v.ownBlock\/v'.ownBlock=some w.heap.size):=by
 obtain⟨i0,hi0,hz0,hz1,hz2⟩:=info_parts b1S;rcases k.own.2 with ⟨rfl,h0⟩|⟨g,cap,cur,rfl,hb,hh,h1,h2,h3,h4⟩
 ·have hm:m=[]:=List.length_eq_zero_iff.1 h0;subst hm;refine⟨v,w,fun ty=>run_append_owned_none (P:=Tryz.prog) w B 38 ty 3 i0 1 Tryz.underlying38 hi0 v l.length _ h.own,by rw[List.append_nil];exact h,⟨rfl,rfl,rfl,Nat.le_refl _,fun _ _ _=>rfl⟩,.inl rfl⟩
 ·have key:=fun ty=>run_append_own_at (P:=Tryz.prog) w B 38 ty 3 i0 _ 1 8 Tryz.underlying38 hi0 hz0 hz1 hz2 rfl (by decide) v l.length _ h.own ⟨g,0,none⟩ m.length cap (m.map (Value.int .i64)) (by simp) (fun j x hx=>by
   have hj:j<m.length:=by
    have:=List.getElem?_eq_some_iff.1 hx;obtain⟨h,_⟩:=this
    simpa using h
   have e:=k.own.cellAt j (by omega);have hadd:(⟨g,0,none⟩:Addr).add j=⟨g,j,none⟩:=by unfold Addr.add;split <;> simp_all
   rw[hadd,e];exact hx) (by
   intro x hx;obtain⟨y,_,rfl⟩:=List.mem_map.1 hx
   rfl) (by unfold maxLen;omega) (by omega) hB
  obtain⟨v',w',r1,r2,r3,r4,r5⟩:=key 0;refine⟨v',w',fun ty=>?_,⟨by rw[List.length_append,List.map_append];exact r2,fun b hb=>?_⟩,r3,r5⟩
  ·exact r1
  ·rcases r5 with e|e
   ·exact h.no b (by rw[<- e];exact hb)
   ·rw[hb] at e
    cases e
    exact hc _ (zq _)
theorem b1n{P:Program}{o:Oper}{a:Act}{K:Act->World->Prop}{Q:Exit->Act->World->Prop}(s x:Operand)(t:TypeId)(v':Value)
  (ho:o.op=.call { callee:=.builtin .append,args:=#[s,x],argTypes:=#[t,t] }) (hrun:(Builtin.append_ #[t,t] o.type #[a.eval s,a.eval x]).run P w=.ok v' w') (h:K (a.put o.dst v') w'):o.wp P a w K Q:=by
 unfold Oper.wp execOp;simp only[ho,resolve,invoke,builtin,Sem.run_bind,Sem.run_pure,Result.andThen_ok,List.map_toArray,List.map_cons,List.map_nil,hrun];exact h
theorem a3u{P:Program}{ops:Array Oper}{o:Oper}{a:Act}{K:Act->World->Prop}{Q:Exit->Act->World->Prop}{E:Prop}(hgd:o.guard=none)(s x:Operand)(t:TypeId)(v':Value)
  (ho:o.op=.call { callee:=.builtin .append,args:=#[s,x],argTypes:=#[t,t] }) (hrun:(Builtin.append_ #[t,t] o.type #[a.eval s,a.eval x]).run P w=.ok v' w') (h:K (a.put o.dst v') w'):
  if Region.wanted o (yielded ops a.tmps)=true then Oper.wp P o a w K Q else E:=by
 have hw:Region.wanted o (yielded ops a.tmps)=true:=by simp[Region.wanted,hgd]
 rw[if_pos hw];exact b1n s x t v' ho hrun h
theorem d6i{P:Program}{ops:Array Oper}{rest:List Oper}{o:Oper}{a:Act}{Q:Exit->Act->World->Prop}(hgd:o.guard=none)(s x:Operand)(t:TypeId)(v':Value)
  (ho:o.op=.call { callee:=.builtin .append,args:=#[s,x],argTypes:=#[t,t] }) (hrun:(Builtin.append_ #[t,t] o.type #[a.eval s,a.eval x]).run P w=.ok v' w') (h:wpList P ops Q rest (a.put o.dst v') w'):wpList P ops Q (o :: rest) a w :=
 wpList_plain hgd fun _ hK=>b1n s x t v' ho hrun (hK _ _ h)
theorem a2k{P:Program}{ops:Array Oper}{o:Oper}{a:Act}{K:Act->World->Prop}{Q:Exit->Act->World->Prop}{E:Prop}(hgd:o.guard=none)(f:FuncId)(xs:Array Operand)(ats:Array TypeId)
  (ho:o.op=.call { callee:=.value (.func f),args:=xs,argTypes:=ats }) (args:Array Value) (ha:xs.map a.eval=args) (he:(callFunc f args).run P w=.ok (.enter f args) w) {R:Ending->World->Prop}(hc:Calls P f args w R) (h:∀ e w',R e w'->∃ v,e=.returned v/\K (a.put o.dst v) w'):
  if Region.wanted o (yielded ops a.tmps)=true then Oper.wp P o a w K Q else E:=by
 have hw:Region.wanted o (yielded ops a.tmps)=true:=by simp[Region.wanted,hgd]
 rw[if_pos hw];unfold Oper.wp
 have e1:(execOp a.eval o).run P w=.ok (.enter f args) w:=by
  simp[execOp,ho,resolve,invoke,Act.eval,Deferred.ofValue,ha,he]
 rw[e1,Oper.upon_enter];refine hc.mono ?_;intro e w' hR;obtain⟨v,rfl,hK⟩:=h e w' hR;exact hK
open Desk (Ent St Ids kept a0C a0Q a1C a2e ofB a0y a2c Mid a1H a0z Inv)
theorem a0D(err:Int)(w:World):
  Calls Tryz.prog 141 #[.int .i64 err] w fun e w'=>e=.returned (a0s err 0 0 (.slice none 0 0) (.slice none 0 0) (.slice none 0 0) (.slice none 0 0))/\Below w.heap.size w w':=by
 go_enter Tryz.func141,Tryz.ntmps141
 have HB:Hid (Below w.heap.size w (w.alloc (.cells #[.int .i64 err,.int .i64 0,.int .i64 0,.slice none 0 0,.slice none 0 0,.slice none 0 0,.slice none 0 0] 40))):=(zr _ _).alloc (zq _) _
 go_wp2_with fail
 exact bodyPost_ret (v:=a0s err 0 0 (.slice none 0 0) (.slice none 0 0) (.slice none 0 0) (.slice none 0 0)) (by simp[results,Tryz.results141,go_sem,a0s]) rfl ⟨rfl,HB.out⟩
theorem b6Z(args:Array Value)(w:World):(callFunc 65 args).run Tryz.prog w=.ok (.enter 65 args) w:=by kernel_rfl
theorem b2B(ho:Of s r)(hp:s.ts.Pairwise fun t u=>a0y t.1 u.1=false)(h:b2r r.tg name=some b):∃ (i:Nat)(hi:i<r.tg.length),r.tg[i].name=name/\r.tg[i].tb=b/\Desk.a0h name s.ts=r.tg[i].a0c:=by
 rw[a3r] at h
 cases e:r.tg.find? fun t=>a0y t.name name with
 |none=>rw[e] at h;cases h
 |some t =>
  rw[e] at h;obtain⟨i,hi,rfl⟩:=List.getElem_of_mem (List.mem_of_find?_eq_some e);have hn:r.tg[i].name=name:=a4l.1 (by simpa using List.find?_some e);refine⟨i,hi,hn,by simpa using h,?_⟩;have e1:=a8G hp (i:=i) (by rw[<- ho.len];exact hi);rw[ho.tsAt hi] at e1;rw[<- hn];exact e1
theorem b2C(ho:Of s r)(h:b2r r.tg name=none):Desk.a0h name s.ts=0:=by
 refine a3o (fun t ht e=>?_);rw[<- ho.ts] at ht;obtain⟨x,hx,rfl⟩:=List.mem_map.1 ht;rw[a3r] at h
 cases e2:r.tg.find? fun t=>a0y t.name name with
 |none =>
  have:=List.find?_eq_none.1 e2 x hx;exact this (a4l.2 e)
 |some y=>rw[e2] at h;cases h
def a5n(s:St)(r:Raw)(name:ByteArray)(err:Int)(e:Ending):Prop :=
 (err≠0/\e=.returned (.tuple #[.pointer none,.int .i64 err]))\/(err=0/\∃ (i:Nat) (hi:i<r.tg.length),r.tg[i].name=name/\Desk.a0h name s.ts=r.tg[i].a0c/\e=.returned (.tuple #[.pointer (some ⟨r.tg[i].tb,0,none⟩),.int .i64 0]))
theorem c5O(w:World):(zeroValue 198).run Tryz.prog w=.ok (.pointer none) w:=by simp[go_sem]
theorem b0O(h:DK w d r col)(ho:Of s r)(hm:Mid s)(name:ByteArray)(hn:name.size<=1000)(u:Int):
  Calls Tryz.prog 146 #[.pointer (some ⟨d,0,none⟩),.string name,.int .i64 u] w fun e w'=>a5n s r name (Desk.a0S s.ts name u) e/\w'=w:=by
 obtain⟨m,f,a1,a2,a3,a4⟩:=h.mt;have kk:=b4Z hn;have hlook:=a3.look c0z Tryz.underlying137 (c5O w) kk;rw[a4 name] at hlook
 cases ht:b2r r.tg name with
 |none =>
  rw[ht] at hlook;have hu:=b2C ho ht;have e1:Desk.a0S s.ts name u=3:=by unfold Desk.a0S;rw[if_pos hu]
  have hlook':(Instr.lookup 137 (.map (some m)) (.string name) false).run Tryz.prog w=.ok (.pointer none) w:=hlook;have HF:Hid (a5n s r name (Desk.a0S s.ts name u) (.returned (.tuple #[.pointer none,.int .i64 3]))):=.inl ⟨by rw[e1];omega,by rw[e1]⟩;clear hlook e1 hu ht a3 a4 h ho hm
  go_enter Tryz.func146,Tryz.ntmps146
  go_wp2_with fail
  go_ret2;exact⟨HF.out,rfl⟩
 |some b =>
  rw[ht] at hlook;obtain⟨i,hi,e1,e2,e3⟩:=b2B ho hm.tn ht;obtain⟨ul,us,Fl,Fs,t1,t2⟩:=h.th i hi;have cu:=t1.c1;rw[e2] at cu
  have hpos:Desk.a0h name s.ts≠0:=by
   rw[e3];have hin:(r.tg[i].name,r.tg[i].a0c)∈s.ts:=by rw[<- ho.tsAt hi];exact zg _
   have:=(hm.tu _ hin).1;simp only at this;omega
  have hlook':(Instr.lookup 137 (.map (some m)) (.string name) false).run Tryz.prog w=.ok (.pointer (some ⟨b,0,none⟩)) w:=hlook
  by_cases hc:r.tg[i].a0c<u
  ·have e4:Desk.a0S s.ts name u=7:=by unfold Desk.a0S;rw[if_neg hpos,if_pos (by omega)]
   have HF:Hid (a5n s r name (Desk.a0S s.ts name u) (.returned (.tuple #[.pointer none,.int .i64 7]))):=.inl ⟨by rw[e4];omega,by rw[e4]⟩;clear hlook ht a3 a4 h ho hm e1 e2 e3 t1 t2 hpos e4;generalize r.tg[i].a0c=un at *
   go_enter Tryz.func146,Tryz.ntmps146
   go_wp2_with fail
   go_ret2;exact⟨HF.out,rfl⟩
  ·have e4:Desk.a0S s.ts name u=0:=by unfold Desk.a0S;rw[if_neg hpos,if_neg (by omega)]
   have HF:Hid (a5n s r name (Desk.a0S s.ts name u) (.returned (.tuple #[.pointer (some ⟨b,0,none⟩),.int .i64 0]))):=.inr ⟨e4,i,hi,e1,e3,by rw[e2]⟩;clear hlook ht a3 a4 h ho hm e1 e2 e3 t1 t2 hpos e4;generalize r.tg[i].a0c=un at *
   go_enter Tryz.func146,Tryz.ntmps146
   go_wp2_with fail
   go_ret2;exact⟨HF.out,rfl⟩
def a1c(s:St)(name:ByteArray)(u fr til:Int):Int:=if Desk.a0S s.ts name u≠0 then Desk.a0S s.ts name u else if til<=fr then 6 else 0
theorem a4e(h:DK w d r col)(ho:Of s r)(hm:Mid s)(name:ByteArray)(hn:name.size<=1000)(u fr til:Int):
  Calls Tryz.prog 143 #[.pointer (some ⟨d,0,none⟩),.string name,.int .i64 u,.agg #[.int .i64 fr,.int .i64 til]] w fun e w'=>a5n s r name (a1c s name u fr til) e/\Below w.heap.size w w':=by
 have hX:Below w.heap.size w (w.alloc (.cells #[.int .i64 fr,.int .i64 til] 60)):=(zr _ _).alloc (zq _) _;have HV:=a0b (b0O (h.later hX) ho hm name hn u);have HX:=a0b hX;clear h ho hm hX
 go_enter Tryz.func143,Tryz.ntmps143
 go_wp2_with fail
 refine HV.out.mono ?_;rintro e w1 ⟨hp,hw1⟩;have HW:=a0b (show Below w.heap.size w w1 by rw[hw1];exact HX.out);have x0:w1.cell? ⟨w.heap.size,0,none⟩=some (.int .i64 fr):=by rw[hw1];simp
 have x1:w1.cell? ⟨w.heap.size,1,none⟩=some (.int .i64 til):=by rw[hw1];simp
 clear hw1 HV HX;rcases hp with ⟨h1,rfl⟩|⟨h1,i,hi,e1,e2,rfl⟩
 ·have HF:Hid (a5n s r name (a1c s name u fr til) (.returned (.tuple #[.pointer none,.int .i64 (Desk.a0S s.ts name u)]))):=by
   have:a1c s name u fr til=Desk.a0S s.ts name u:=by unfold a1c;rw[if_pos h1]
   rw[this];exact .inl ⟨h1,rfl⟩
  generalize Desk.a0S s.ts name u=e0 at *;have hb:(e0 != 0)=true:=by simpa using h1
  go_wp2_with fail
  go_ret2;exact⟨HF.out,HW.out⟩
 ·by_cases hc:til<=fr
  ·have HF:Hid (a5n s r name (a1c s name u fr til) (.returned (.tuple #[.pointer none,.int .i64 6]))):=by
    have:a1c s name u fr til=6:=by unfold a1c;rw[if_neg (by omega),if_pos hc]
    rw[this];exact .inl ⟨by omega,rfl⟩
   clear h1 e1 e2
   go_wp2_with fail
   go_ret2;exact⟨HF.out,HW.out⟩
  ·have HF:Hid (a5n s r name (a1c s name u fr til) (.returned (.tuple #[.pointer (some ⟨r.tg[i].tb,0,none⟩),.int .i64 0]))):=by
    have:a1c s name u fr til=0:=by unfold a1c;rw[if_neg (by omega),if_neg hc]
    rw[this];exact .inr ⟨rfl,i,hi,e1,e2,rfl⟩
   clear h1 e1 e2
   go_wp2_with fail
   go_ret2;exact⟨HF.out,HW.out⟩
def spV(p:Int × Int):List Value:=[.int .i64 p.1,.int .i64 p.2]
def a1f(p:Ent × Value):List Value:=[.int .i64 p.1.id,.int .i64 p.1.kind,.string p.1.a0k,.int .i64 p.1.a0c,p.2,.int .i64 p.1.a0Z]
structure a9V(w:World)(B:Nat)(col:Nat->Option Col)(v:Value)(L:List (Int × Int)):Prop where
 own:w.ownsRow B 60 2 v L.length (L.flatMap spV)
 no:∀ b,v.ownBlock=some b->col b=none
structure a3j(w:World)(B:Nat)(col:Nat->Option Col)(v:Value)(l:List (Ent × Value)):Prop where
 own:w.ownsRow B 58 6 v l.length (l.flatMap a1f)
 no:∀ b,v.ownBlock=some b->col b=none
 sp:∀ p∈l,a9V w B col p.2 p.1.a0e/\∀ b,p.2.ownBlock=some b->v.ownBlock≠some b
 pw:l.Pairwise fun p q=>∀ b,p.2.ownBlock=some b->q.2.ownBlock≠some b
theorem a3j.nil(w:World)(B:Nat)(col:Nat->Option Col):a3j w B col (.slice none 0 0) []:=⟨World.ownsRow_nil _ _ _ _,(fun b hb=>by cases hb),(by simp),List.Pairwise.nil⟩
def a5m(w:World)(B:Nat)(col:Nat->Option Col)(v:Value)(p:Desk.Rep):Prop :=
 ∃ (en da gr ed:Value) (l:List (Ent × Value)),v=a0s p.err p.at_ p.n en da gr ed/\l.map (·.1)=p.entries/\a3j w B col en l/\a2I w B col da p.days/\a2I w B col gr p.granted/\a2I w B col ed p.ended/\(∀ b,gr.ownBlock=some b->en.ownBlock≠some b/\da.ownBlock≠some b/\ed.ownBlock≠some b/\∀ q∈l,q.2.ownBlock≠some b)/\∀ b,da.ownBlock=some b->ed.ownBlock≠some b
theorem a5m.plain(w:World)(B:Nat)(col:Nat->Option Col)(e n:Int):a5m w B col (a0s e 0 n (.slice none 0 0) (.slice none 0 0) (.slice none 0 0) (.slice none 0 0)) ⟨e,0,n,[],[],[],[]⟩ :=
 ⟨_,_,_,_,[],rfl,rfl,a3j.nil _ _ _,a2I.nil _ _ _,a2I.nil _ _ _,a2I.nil _ _ _,(fun b hb=>by cases hb),fun b hb=>by cases hb⟩
def a0l(w:World)(d:Nat)(col:Nat->Option Col)(q:St × Desk.Rep)(v:Value)(w':World):Prop :=
 ∃ (r':Raw) (col':Nat->Option Col),DK w' d r' col'/\Of q.1 r'/\Wl r'/\Hl r'/\Step anyS w.heap.size col col' w w'/\a5m w' w.heap.size col' v q.2
structure DSt(w:World)(d:Nat)(s:St)(r:Raw)(col:Nat->Option Col):Prop where
 dk:DK w d r col
 of:Of s r
 wl:Wl r
 hl:Hl r
 inv:Inv s
theorem DSt.mid(h:DSt w d s r col):Mid s:=h.inv.mid
theorem a5I(ho:Of s r){g:EG}(hn:(r.eg.map (·.e.id)).Nodup)(hg:g∈r.eg):Desk.a5S g.e.id s.es=some g.e:=by
 unfold Desk.a5S
 cases h:s.es.find? fun e=>decide (e.id=g.e.id) with
 |none =>
  have:=List.find?_eq_none.1 h g.e (ho.mem hg);simp at this
 |some e =>
  have h1:=List.mem_of_find?_eq_some h;have h2:=List.find?_some h;obtain⟨x,hx,rfl⟩:=ho.get h1;have:x=g:=a0W _ hn hx hg (by simpa using h2);rw[this]
theorem a7K(ho:Of s r)(h:a6U r.eg id=none):Desk.a5S id s.es=none:=by
 unfold Desk.a5S;refine List.find?_eq_none.2 (fun e he=>?_);obtain⟨x,hx,rfl⟩:=ho.get he
 simpa using b7d h x hx
theorem a5O{s':St}{r':Raw}(h1:DK Z d r' col')(h2:Of s' r')(h3:Wl r')(h4:Hl r')(h5:Step anyS w.heap.size col col' w Z)(hQ:w.heap.size<=Q)(hn:col' Q=none)(er n:Int)(a b c e f g i:Value):
  a0l w d col (s',⟨er,0,n,[],[],[],[]⟩) (a0s er 0 n (.slice none 0 0) (.slice none 0 0) (.slice none 0 0) (.slice none 0 0)) (a2w Z Q a b c e f g i):=by
 have k:=a2R Z Q a b c e f g i;have st:Step anyS w.heap.size col' col' Z (a2w Z Q a b c e f g i):=⟨⟨_,k,fun x hx=>.inr (by have:x=Q:=List.mem_singleton.1 hx;subst this;exact⟨hn,hQ⟩)⟩,fun _ _ h=>h,fun _ _ h=>.inl h⟩;exact⟨r',col',h1.off k (fun x hx=>by have:x=Q:=List.mem_singleton.1 hx;subst this;exact hn),h2,h3,h4,h5.trans st,a5m.plain _ _ _ _ _⟩
theorem DSt.said(h:DSt w d s r col)(k:Below w.heap.size w Z)(hQ:w.heap.size<=Q)(er n:Int)(a b c e f g i:Value):
  a0l w d col (s,⟨er,0,n,[],[],[],[]⟩) (a0s er 0 n (.slice none 0 0) (.slice none 0 0) (.slice none 0 0) (.slice none 0 0)) (a2w Z Q a b c e f g i) :=
 a5O (h.dk.later k) h.of h.wl h.hl (Step.below k) hQ (h.dk.none hQ) er n a b c e f g i
theorem a0B{e size:Nat}(h:w.ownsRow B e size v n xs):∃ a cap,v=.slice a n cap:=by
 rcases h.2 with ⟨rfl,h0⟩|⟨g,cap,_,rfl,_⟩
 ·rw[h0];exact⟨_,_,rfl⟩
 ·exact⟨_,_,rfl⟩
theorem a9V.off{l:List (Int × Int)}(h:a9V w B col v l)(k:Off G w w')(hG:∀ x∈G,x<B):a9V w' B col v l :=
 ⟨a1i h.own k (fun b hb hx=>by have:=(h.own.lt b hb).1;have:=hG b hx;omega),h.no⟩
theorem a2I.off(h:a2I w B col v l)(k:Off G w w')(hG:∀ x∈G,x<B):a2I w' B col v l :=
 ⟨a1i h.own k (fun b hb hx=>by have:=(h.own.lt b hb).1;have:=hG b hx;omega),h.no⟩
theorem a3j.off{l:List (Ent × Value)}(h:a3j w B col v l)(k:Off G w w')(hG:∀ x∈G,x<B):a3j w' B col v l :=
 ⟨a1i h.own k (fun b hb hx=>by have:=(h.own.lt b hb).1;have:=hG b hx;omega),h.no,fun p hp=>⟨(h.sp p hp).1.off k hG,(h.sp p hp).2⟩,h.pw⟩
theorem a3j.base{l:List (Ent × Value)}(h:a3j w B col v l)(hb:B'<=B):a3j w B' col v l :=
 ⟨Joins.ownsRow_le h.own hb,h.no,fun p hp=>⟨⟨Joins.ownsRow_le (h.sp p hp).1.own hb,(h.sp p hp).1.no⟩,(h.sp p hp).2⟩,h.pw⟩
theorem a5m.off{p:Desk.Rep}(h:a5m w B col v p)(k:Off G w w')(hG:∀ x∈G,x<B):a5m w' B col v p:=by
 obtain⟨en,da,gr,ed,l,e1,e2,e3,e4,e5,e6,e7⟩:=h;exact⟨en,da,gr,ed,l,e1,e2,e3.off k hG,e4.off k hG,e5.off k hG,e6.off k hG,e7⟩
theorem a5m.base{p:Desk.Rep}(h:a5m w B col v p)(hb:B'<=B):a5m w B' col v p:=by
 obtain⟨en,da,gr,ed,l,e1,e2,e3,e4,e5,e6,e7⟩:=h;exact⟨en,da,gr,ed,l,e1,e2,e3.base hb,e4.base hb,e5.base hb,e6.base hb,e7⟩
theorem a0l.up{X:World}{q:St × Desk.Rep}(h:a0l X d col q v w2)(hb:Below w.heap.size w X)(hQ:w.heap.size<=Q)(hQX:Q<X.heap.size)(hc:col Q=none)(h7:Q7 X Q):
  ∃ (er at_ n:Int) (a1 a2 a3 a4:Option Addr) (n1 n2 n3 n4 c1 c2 c3 c4:Nat),v=a0s er at_ n (.slice a1 n1 c1) (.slice a2 n2 c2) (.slice a3 n3 c3) (.slice a4 n4 c4)/\Q7 w2 Q/\∀ a b c e f g i,a0l w d col q v (a2w w2 Q a b c e f g i):=by
 obtain⟨r',col',k1,k2,k3,k4,k5,k6⟩:=h;have hR:=k6;obtain⟨en,da,gr,ed,l,rfl,_,r1,r2,r3,r4,_⟩:=k6;obtain⟨b1,c1,rfl⟩:=a0B r1.own;obtain⟨b2,c2,rfl⟩:=r2.slice;obtain⟨b3,c3,rfl⟩:=r3.slice;obtain⟨b4,c4,rfl⟩:=r4.slice;refine⟨_,_,_,_,_,_,_,_,_,_,_,_,_,_,_,rfl,h7.later (k5.blockN hQX hc hQX),fun a b c e f g i=>?_⟩;have k:=a2R w2 Q a b c e f g i;have hn:=k5.keepN hc hQX;have hs:=hb.size;have st:Step anyS w.heap.size col' col' w2 (a2w w2 Q a b c e f g i):=⟨⟨_,k,fun x hx=>.inr (by have:x=Q:=List.mem_singleton.1 hx;subst this;exact⟨hn,hQ⟩)⟩,fun _ _ h=>h,fun _ _ h=>.inl h⟩;exact⟨r',col',k1.off k (fun x hx=>by have:x=Q:=List.mem_singleton.1 hx;subst this;exact hn),k2,k3,k4,((Step.below hb).trans (k5.any hs)).trans st,(hR.off k (fun x hx=>by have:x=Q:=List.mem_singleton.1 hx;omega)).base hs⟩
theorem a9V.later{l:List (Int × Int)}(h:a9V w B col v l)(k:Below w.heap.size w w'):a9V w' B col v l:=⟨a1g h.own k,h.no⟩
theorem a3j.later{l:List (Ent × Value)}(h:a3j w B col v l)(k:Below w.heap.size w w'):a3j w' B col v l:=⟨a1g h.own k,h.no,fun p hp=>⟨(h.sp p hp).1.later k,(h.sp p hp).2⟩,h.pw⟩
def st0:St:=⟨[],[],0,0⟩
def c2z:Raw:=⟨0,0,[],[],[],[]⟩
def c1O(N:Nat)(k:Nat):Option Col:=if k=N then some .mt else if k=N+1 then some .me else if k=N+2 then some .desk else none
theorem c7w:Inv st0:=by
 refine⟨by simp[st0],by simp[st0],by simp[st0],by simp[st0,Ids],by simp[st0],by simp[st0],by simp[st0],by simp[st0],by simp[st0],by simp[st0],by simp[st0],by simp[st0,Desk.a1Y],by simp[st0],fun name x=>?_⟩;simp[st0,Desk.a0o,Desk.a0h]
def c1H(w:World)(v:Value)(w':World):Prop:=v=.pointer (some ⟨w.heap.size+2,0,none⟩)/\DSt w' (w.heap.size+2) st0 c2z (c1O w.heap.size)/\Below w.heap.size w w'
theorem b5o(w:World):Calls Tryz.prog 60 #[] w fun e w'=>∃ v,e=.returned v/\c1H w v w':=by
 have hmm:=@run_makeMap Tryz.prog
 have HF:Hid (c1H w (.pointer (some ⟨w.heap.size+2,0,none⟩)) (((w.alloc (.map #[] 0)).alloc (.map #[] 0)).alloc (.cells #[.int .i64 0,.int .i64 0,.map (some w.heap.size),.map (some (w.heap.size+1)),.slice none 0 0,.slice none 0 0] 144))):=by
  have s1:(w.alloc (.map #[] 0)).heap.size=w.heap.size+1:=by simp
  have s2:((w.alloc (.map #[] 0)).alloc (.map #[] 0)).heap.size=w.heap.size+2:=by simp
  have m1:=a4N.made Tryz.prog 9 w;have m2:=a4N.made Tryz.prog 3 (w.alloc (.map #[] 0));have hd:=a0p ((w.alloc (.map #[] 0)).alloc (.map #[] 0)) (.cells #[.int .i64 0,.int .i64 0,.map (some w.heap.size),.map (some (w.heap.size+1)),.slice none 0 0,.slice none 0 0] 144);have b1:(((w.alloc (.map #[] 0)).alloc (.map #[] 0)).alloc (.cells #[.int .i64 0,.int .i64 0,.map (some w.heap.size),.map (some (w.heap.size+1)),.slice none 0 0,.slice none 0 0] 144)).heap[w.heap.size]?=(w.alloc (.map #[] 0)).heap[w.heap.size]?:=(Below.heap_alloc _ _ _ (by omega)).trans (Below.heap_alloc _ _ _ (by omega));have b2:(((w.alloc (.map #[] 0)).alloc (.map #[] 0)).alloc (.cells #[.int .i64 0,.int .i64 0,.map (some w.heap.size),.map (some (w.heap.size+1)),.slice none 0 0,.slice none 0 0] 144)).heap[w.heap.size+1]?=((w.alloc (.map #[] 0)).alloc (.map #[] 0)).heap[w.heap.size+1]?:=Below.heap_alloc _ _ _ (by omega);have hb:Below w.heap.size w (((w.alloc (.map #[] 0)).alloc (.map #[] 0)).alloc (.cells #[.int .i64 0,.int .i64 0,.map (some w.heap.size),.map (some (w.heap.size+1)),.slice none 0 0,.slice none 0 0] 144)):=(((zr _ _).alloc (zq _) _).alloc (by omega) _).alloc (by omega) _;have s3:(((w.alloc (.map #[] 0)).alloc (.map #[] 0)).alloc (.cells #[.int .i64 0,.int .i64 0,.map (some w.heap.size),.map (some (w.heap.size+1)),.slice none 0 0,.slice none 0 0] 144)).heap.size=w.heap.size+3:=by simp
  rw[s2] at hd;rw[s1] at m2;have m1':=m1.block b1;have m2':=m2.block b2;generalize ((w.alloc (.map #[] 0)).alloc (.map #[] 0)).alloc (.cells #[.int .i64 0,.int .i64 0,.map (some w.heap.size),.map (some (w.heap.size+1)),.slice none 0 0,.slice none 0 0] 144)=Z at *;have c4:Z.cell? ⟨w.heap.size+2,4,none⟩=some (.slice none 0 0):=by simp only[World.cell?,hd];rfl
  have c5:Z.cell? ⟨w.heap.size+2,5,none⟩=some (.slice none 0 0):=by simp only[World.cell?,hd];rfl
  refine⟨rfl,⟨⟨?_,?_,⟨w.heap.size,_,?_,by simp[c1O],m1',fun n=>rfl⟩,⟨w.heap.size+1,_,?_,by simp[c1O],m2',fun n=>rfl⟩,⟨_,c4,World.ownsRow_nil _ _ _ _,fun b hb=>by cases hb⟩,⟨_,⟨c5,World.ownsRow_nil _ _ _ _,(by simp[Value.ownBlock]),frozen_of_row _ _ _ _ _ hd⟩,fun b hb=>by cases hb⟩,fun i hi=>by simp[c2z] at hi,fun g hg=>by simp[c2z] at hg,by simp[c2z],by simp[c2z],fun o=>frozen_of_row _ _ _ _ _ hd,by simp[c1O],fun k c hk=>?_⟩,⟨rfl,rfl,rfl,rfl,fun i hi=>by simp[c2z] at hi,fun g hg=>by simp[c2z] at hg⟩,rfl,⟨?_,List.Perm.nil⟩,c7w⟩,hb⟩
  ·simp only[World.cell?,hd];rfl
  ·simp only[World.cell?,hd];rfl
  ·simp only[World.cell?,hd];rfl
  ·simp only[World.cell?,hd];rfl
  ·unfold c1O at hk
   by_cases h1:k=w.heap.size
   ·omega
   ·by_cases h2:k=w.heap.size+1
    ·omega
    ·by_cases h3:k=w.heap.size+2
     ·omega
     ·simp[h1,h2,h3] at hk
  ·intro i hi1 hi2;have hi3:i<([]:List Hp.Hi).length:=by first|exact hi1|exact hi2
   simp at hi3
 go_enter Tryz.func60,Tryz.ntmps60
 go_wp2_with fail
 go_ret;exact⟨_,rfl,HF.out⟩
end Go.Proofs.YtfigmlfdnickmaaGreatDoor
