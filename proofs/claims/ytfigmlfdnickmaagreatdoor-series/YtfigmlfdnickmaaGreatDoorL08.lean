import Derived.Test.YtfigmlfdnickmaaGreatDoorL07
import Derived.Maps.Keyed
import Derived.LaidEqlPtr
set_option maxRecDepth 100000
set_option maxHeartbeats 8000000
variable{a b name:ByteArray}{e:Go.Proofs.YtfigmlfdnickmaaGreatDoor.Desk.Ent}{given id now u x:Int}{ts:List (ByteArray × Int)}{es:List Go.Proofs.YtfigmlfdnickmaaGreatDoor.Desk.Ent}{F G:List Nat}{B d k:Nat}{s:Go.Proofs.YtfigmlfdnickmaaGreatDoor.Desk.St}{v:Go.Value}{w w':Go.World}
namespace Go.Proofs.YtfigmlfdnickmaaGreatDoor
namespace Desk
theorem a1H.small(h:a1H now e):Small e:=⟨by have:=h.u1;omega,h.u9,by have:=h.sl;omega⟩
structure Mid(s:St):Prop where
 tl:s.ts.length<=4
 tu:∀ t∈s.ts,1<=t.2/\t.2<=9
 tn:s.ts.Pairwise fun t u=>a0y t.1 u.1=false
 ids:Ids s.es
 idb:∀ e∈s.es,1<=e.id/\e.id<=s.given
 g0:0<=s.given
 g1:s.given<=60
 n0:0<=s.now
 n1:s.now<=1048320
 en:∀ e∈s.es,a1H s.now e
 th:∀ e∈s.es,e.a0c<=a0h e.a0k s.ts
 wa:a1Y s.es<=6
 wi:∀ name x,a0o name x s.es<=a0h name s.ts
theorem Inv.mid(h:Inv s):Mid s:=⟨h.tl,h.tu,h.tn,h.ids,h.idb,h.g0,h.g1,h.n0,h.n1,h.en,h.th,h.wa,h.wi⟩
theorem Mid.inv(h:Mid s)(no:∀ e∈s.es,e.kind=3->a1e s.ts s.es e.a0k e.a0c e.a0e=false):Inv s:=⟨h.tl,h.tu,h.tn,h.ids,h.idb,h.g0,h.g1,h.n0,h.n1,h.en,h.th,h.wa,no,h.wi⟩
theorem Mid.small(h:Mid s):∀ e∈s.es,Small e:=fun e he=>(h.en e he).small
theorem Mid.pos(h:Mid s):Pos s.es:=Small.pos h.small
theorem a4P{a b:ByteArray}(h:a0y a b=true):∀ ts:List (ByteArray × Int),a0h a ts=a0h b ts
 |[]=>rfl
 |t :: r=>by simp only[a0h,a8X (c:=t.1) h,a4P h r]
theorem c0a(h:a0y a b=true)(e:Ent):ofB a e=ofB b e:=by unfold ofB;rw[a8X h]
theorem a4R{a b:ByteArray}(h:a0y a b=true)(x:Int):∀ es:List Ent,a0o a x es=a0o b x es
 |[]=>rfl
 |e :: r=>by simp only[a0o,c0a h,a4R h x r]
theorem a4g(h:∀ t∈ts,1<=t.2/\t.2<=9)(name:ByteArray):0<=a0h name ts/\a0h name ts<=9:=by
 induction ts with
 |nil=>simp[a0h]
 |cons t r ih =>
  have i:=ih (fun u hu=>h u (by simp[hu]));have j:=h t (by simp);simp only[a0h]
  split <;> omega
theorem a6v(h:Pos es):0<=a0o name x es:=by
 induction es with
 |nil=>simp[a0o]
 |cons e r ih =>
  have i:=ih (fun z hz=>h z (by simp[hz]));have c:0<=a0r e.a0e x*e.a0c:=Int.mul_nonneg (a4Q e.a0e x).1 (h e (by simp));simp only[a0o]
  split <;> omega
theorem a6w{name:ByteArray}{x:Int}(p:Ent->Bool):∀ {es:List Ent},Pos es->a0o name x (es.filter p)<=a0o name x es
 |[],_=>Int.le_refl _
 |e :: r,h=>by
  have i:=a6w (name:=name) (x:=x) p (es:=r) (fun z hz=>h z (by simp[hz]));have c:0<=a0r e.a0e x*e.a0c:=Int.mul_nonneg (a4Q e.a0e x).1 (h e (by simp));rw[List.filter_cons]
  split
  ·simp only[a0o];omega
  ·simp only[a0o];split <;> omega
theorem a9v{es':List Ent}{L:List (Int × Int)}(hp:Pos es)(hp':Pos es')(hu:0<=u)(h:∀ x,a0o name x es<=a0o name x es')(k:a1e ts es name u L=false):a1e ts es' name u L=false:=by
 cases c:a1e ts es' name u L
 ·rfl
 ·have:a1e ts es name u L=true:=(a4d hp hu).2 (fun x hx=>by
   have:=(a4d hp' hu).1 c x hx;have:=h x
   omega)
  rw[this] at k;cases k
theorem b0t(name:ByteArray)(x:Int)(l r:List Ent)(e:Ent)(hk:e.kind=3):a0o name x (l++a0Q e :: r)=a0o name x (l++e :: r)+if a0y e.a0k name then a0r e.a0e x*e.a0c else 0:=by
 have o:ofB name e=false:=by simp[ofB,hk]
 rw[a2z,a2z];simp only[a0o,o,a3I,Bool.false_eq_true,if_false];show _+((if a0y e.a0k name=true then a0r e.a0e x*e.a0c else 0)+_)=_;omega
theorem c5e{l r:List Ent}{e':Ent}(h:Ids (l++e :: r))(k:e'.id=e.id):Ids (l++e' :: r):=by
 unfold Ids at *
 simpa[k] using h
theorem a4O(l r:List Ent):a1Y (l++r)=a1Y l+a1Y r:=by
 unfold a1Y;rw[List.filter_append,List.length_append];omega
theorem a7f(e:Ent)(r:List Ent):a1Y (e :: r)=(if e.kind=3 then 1 else 0)+a1Y r:=by
 unfold a1Y;rw[List.filter_cons]
 by_cases c:e.kind=3
 ·rw[if_pos (by simp[c]),if_pos c];simp;omega
 ·rw[if_neg (by simp[c]),if_neg c];omega
theorem a1H.book(h:a1H now e):a1H now (a0Q e):=⟨h.u1,h.u9,h.sl,h.s0,h.sp,h.ri,.inl ⟨rfl,rfl⟩⟩
theorem Mid.grant{l r:List Ent}(h:Mid ⟨ts,l++e :: r,given,now⟩)(hk:e.kind=3)(hf:a1e ts (l++e :: r) e.a0k e.a0c e.a0e=true):Mid ⟨ts,l++a0Q e :: r,given,now⟩:=by
 have he:e∈l++e :: r:=by simp
 have mem:∀ z∈l++a0Q e :: r,z=a0Q e\/z∈l++e :: r:=by
  intro z hz;simp only[List.mem_append,List.mem_cons] at hz ⊢;rcases hz with hz|hz|hz
  ·exact .inr (.inl hz)
  ·exact .inl hz
  ·exact .inr (.inr (.inr hz))
 have u1:=(h.en e he).u1;refine⟨h.tl,h.tu,h.tn,c5e h.ids rfl,fun z hz=>?_,h.g0,h.g1,h.n0,h.n1,fun z hz=>?_,fun z hz=>?_,?_,fun name x=>?_⟩
 ·rcases mem z hz with rfl|hz
  ·exact h.idb e he
  ·exact h.idb z hz
 ·rcases mem z hz with rfl|hz
  ·exact (h.en e he).book
  ·exact h.en z hz
 ·rcases mem z hz with rfl|hz
  ·exact h.th e he
  ·exact h.th z hz
 ·have:=h.wa;show a1Y (l++a0Q e :: r)<=6;have this:a1Y (l++e :: r)<=6:=this;rw[a4O,a7f] at this ⊢;have e1:(a0Q e).kind=1:=rfl;rw[if_neg (by rw[e1];omega)];rw[if_pos hk] at this;omega
 ·show a0o name x (l++a0Q e :: r)<=a0h name ts;rw[b0t name x l r e hk];have w:a0o name x (l++e :: r)<=a0h name ts:=h.wi name x
  split
  ·rename_i c
   by_cases t:0<a0r e.a0e x
   ·have:=(a4d h.pos (by omega)).1 hf x t;rw[a4R c x,a4P c ts] at this;exact this
   ·have b:=(a4Q e.a0e x).1;have:a0r e.a0e x=0:=by omega
    rw[this];simpa using w
  ·omega
theorem a7I(ts:List (ByteArray × Int))(given now:Int):∀ (r done:List Ent),Mid ⟨ts,done++r,given,now⟩->(∀ e∈done,e.kind=3->a1e ts (done++r) e.a0k e.a0c e.a0e=false) ->
  Inv ⟨ts,(a0O ts done r).1,given,now⟩
 |[],done,h,no=>by
  simp only[a0O];rw[List.append_nil] at h no;exact h.inv no
 |e :: r,done,h,no=>by
  simp only[a0O]
  by_cases c:e.kind=3/\a1e ts (done++e :: r) e.a0k e.a0c e.a0e=true
  ·rw[if_pos c];have h':=h.grant c.1 c.2;refine a7I ts given now r (done++[a0Q e]) (by simpa using h') (fun z hz hk=>?_);rcases List.mem_append.1 hz with hz|hz
   ·have hze:z∈done++e :: r:=by simp[hz]
    refine a9v (es:=done++e :: r) h.pos (by simpa using h'.pos) (by have:=(h.en z hze).u1;omega) (fun x=>?_) (no z hz hk);rw[show done++[a0Q e]++r=done++a0Q e :: r from by simp,b0t _ x done r e c.1];have:=Int.mul_nonneg (a4Q e.a0e x).1 (show 0<=e.a0c by have:=(h.en e (by simp)).u1;omega)
    split <;> omega
   ·have:z=a0Q e:=by simpa using hz
    rw[this] at hk;exact absurd hk (by show ¬ (1:Int)=3;omega)
  ·rw[if_neg c];refine a7I ts given now r (done++[e]) (by simpa using h) (fun z hz hk=>?_);rw[show done++[e]++r=done++e :: r from by simp];rcases List.mem_append.1 hz with hz|hz
   ·exact no z hz hk
   ·have:z=e:=by simpa using hz
    subst this
    cases hf:a1e ts (done++z :: r) z.a0k z.a0c z.a0e
    ·rfl
    ·exact absurd ⟨hk,hf⟩ c
theorem a9t(h:Mid ⟨ts,es,given,now⟩):Inv ⟨ts,(a0R ts es).1,given,now⟩ :=
 a7I ts given now es [] (by simpa using h) (by simp)
theorem a5C(tq:Int):∀ es:List Ent,a3D tq es<=tq/\(∀ e∈es,e.kind≠1->a3D tq es<=e.a0Z)/\(a3D tq es=tq\/∃ e∈es,e.kind≠1/\e.a0Z=a3D tq es)
 |[]=>⟨Int.le_refl _,by simp,.inl rfl⟩
 |e :: r=>by
  obtain⟨h1,h2,h3⟩:=a5C tq r;simp only[a3D]
  split
  ·rename_i c
   refine⟨by omega,fun z hz hk=>?_,.inr ⟨e,by simp,c.1,rfl⟩⟩;rcases List.mem_cons.1 hz with rfl|hz
   ·omega
   ·have:=h2 z hz hk;omega
  ·rename_i c
   refine⟨h1,fun z hz hk=>?_,?_⟩
   ·rcases List.mem_cons.1 hz with rfl|hz
    ·apply Classical.byContradiction;intro d;exact c ⟨hk,by omega⟩
    ·exact h2 z hz hk
   ·rcases h3 with h3|⟨z,hz,k⟩
    ·exact .inl h3
    ·exact .inr ⟨z,by simp[hz],k⟩
theorem b2w(p:Ent->Bool)(l:List Ent):a1Y (l.filter p)<=a1Y l:=by
 unfold a1Y;have:=((List.filter_sublist (p:=p) (l:=l)).filter (fun e=>e.kind==3)).length_le;omega
theorem Mid.filter{now':Int}(h:Mid ⟨ts,es,given,now⟩)(p:Ent->Bool)(hn:now<=now')(hn':now'<=1048320)(hp:∀ e∈es,p e=true->e.kind≠1->now'<e.a0Z):Mid ⟨ts,es.filter p,given,now'⟩:=by
 have n0:0<=now:=h.n0;have sub:∀ z∈es.filter p,z∈es:=fun z hz=>(List.mem_filter.1 hz).1
 refine⟨h.tl,h.tu,h.tn,a5J p h.ids,fun z hz=>h.idb z (sub z hz),h.g0,h.g1,by show 0<=now';omega,hn',fun z hz=>?_,fun z hz=>h.th z (sub z hz),?_,fun name x=>?_⟩
 ·have k:=h.en z (sub z hz);refine⟨k.u1,k.u9,k.sl,k.s0,k.sp,k.ri,?_⟩;rcases k.kd with kd|⟨kd,k2,k3,k4⟩
  ·exact .inl kd
  ·exact .inr ⟨kd,hp z (sub z hz) (List.mem_filter.1 hz).2 (by omega),k3,k4⟩
 ·have:=h.wa;have this:a1Y es<=6:=this;have:=b2w p es;show a1Y (es.filter p)<=6;omega
 ·have a:=a6w (name:=name) (x:=x) p h.pos;have b:=h.wi name x;show a0o name x (es.filter p)<=a0h name ts;have a:a0o name x (es.filter p)<=a0o name x es:=a;have b:a0o name x es<=a0h name ts:=b;omega
theorem a6g(ts:List (ByteArray × Int)):∀ (r done:List Ent),(a0O ts done r).1.length=done.length+r.length
 |[],done=>by simp[a0O]
 |e :: r,done=>by
  simp only[a0O]
  split
  ·show (a0O ts (done++[a0Q e]) r).1.length=_;rw[a6g ts r];simp;omega
  ·rw[a6g ts r];simp;omega
theorem a7H(ts:List (ByteArray × Int))(es:List Ent):(a0R ts es).1.length=es.length:=by unfold a0R;rw[a6g];simp
theorem b2A(ts:List (ByteArray × Int))(given tq:Int)(ht:tq<=1048320):∀ (k:Nat)(es:List Ent)(now:Int),es.length<k\/now=tq->now<=tq->Inv ⟨ts,es,given,now⟩->Inv ⟨ts,(a1K ts k es now tq).1,given,tq⟩
 |0,es,now,hk,hle,h=>by
  have:now=tq:=by omega
  subst this
  simpa[a1K] using h
 |k+1,es,now,hk,hle,h=>by
  simp only[a1K]
  by_cases c:now<tq
  ·rw[if_pos c];obtain⟨n1,n2,n3⟩:=a5C tq es
   have nn:now<a3D tq es:=by
    rcases n3 with e|⟨z,hz,zk,e⟩
    ·omega
    ·rcases (h.en z hz).kd with kd|⟨_,k2,_⟩
     ·exact absurd kd.1 zk
     ·have k2:now<z.a0Z:=k2;omega
   have hm:=h.mid.filter (now':=a3D tq es) (fun e=>!a0z (a3D tq es) e) (by omega) (by omega) (fun e he hp hk1=>by
    have:=n2 e he hk1;have hp:(!a0z (a3D tq es) e)=true:=hp;simp[a0z] at hp;rcases hp with e1|e1
    ·exact absurd e1 hk1
    ·omega)
   have hi:=a9t hm;refine b2A ts given tq ht k _ _ ?_ n1 hi
   by_cases e:a3D tq es=tq
   ·exact .inr e
   ·left;rcases n3 with e' |⟨z,hz,zk,e'⟩
    ·exact absurd e' e
    ·rw[a7H]
     have:(es.filter fun e=>!a0z (a3D tq es) e).length<es.length:=by
      rw[<- List.countP_eq_length_filter]
      have hnot:¬ List.countP (fun e=>!a0z (a3D tq es) e) es=es.length:=by
       rw[List.countP_eq_length];intro hall;have:=hall z hz;simp[a0z,e'] at this;exact zk this
      have:=List.countP_le_length (p:=fun e=>!a0z (a3D tq es) e) (l:=es);omega
     omega
  ·rw[if_neg c];have:now=tq:=by omega
   subst this;exact h
theorem a5X(name:ByteArray)(t:ByteArray × Int):∀ ts:List (ByteArray × Int),a0h name (ts++[t])=if (ts.any fun u=>a0y u.1 name)=true then a0h name ts else if a0y t.1 name then t.2 else 0
 |[]=>by simp[a0h]
 |u :: r=>by
  have ih:=a5X name t r;have e1:a0h name (u :: r++[t])=if a0y u.1 name then u.2 else a0h name (r++[t]):=rfl
  have e2:a0h name (u :: r)=if a0y u.1 name then u.2 else a0h name r:=rfl
  rw[e1,e2]
  by_cases h:a0y u.1 name=true
  ·have:((u :: r).any fun u=>a0y u.1 name)=true:=List.any_eq_true.2 ⟨u,by simp,h⟩;rw[if_pos h,if_pos h,if_pos this]
  ·rw[if_neg h,if_neg h,ih]
   by_cases c:(r.any fun u=>a0y u.1 name)=true
   ·have:((u :: r).any fun u=>a0y u.1 name)=true:=by
     obtain⟨z,hz,k⟩:=List.any_eq_true.1 c;exact List.any_eq_true.2 ⟨z,by simp[hz],k⟩
    rw[if_pos c,if_pos this]
   ·have:¬ ((u :: r).any fun u=>a0y u.1 name)=true:=by
     intro k0;obtain⟨z,hz,k⟩:=List.any_eq_true.1 k0;rcases List.mem_cons.1 hz with e|hz
     ·rw[e] at k;exact h k
     ·exact c (List.any_eq_true.2 ⟨z,hz,k⟩)
    rw[if_neg c,if_neg this]
theorem a3o{name:ByteArray}:∀ {ts:List (ByteArray × Int)},(∀ t∈ts,1<=t.2/\t.2<=9)->(a0h name ts=0↔∀ t∈ts,a0y t.1 name=false)
 |[],_=>by simp[a0h]
 |u :: r,h=>by
  have i:=a3o (name:=name) (ts:=r) (fun t ht=>h t (by simp[ht]));have j:=h u (by simp);simp only[a0h,List.forall_mem_cons]
  cases c:a0y u.1 name
  ·simp only[Bool.false_eq_true,if_false,true_and];exact i
  ·simp only[if_true];constructor
   ·intro e;omega
   ·rintro ⟨e,_⟩;cases e
theorem a8F{t:ByteArray × Int}(h:∀ t∈ts,1<=t.2/\t.2<=9)(hn:a0h name ts≠0):a0h name (ts++[t])=a0h name ts:=by
 rw[a5X,if_pos]
 cases c:ts.any fun u=>a0y u.1 name
 ·exfalso;apply hn;rw[a3o h];intro u hu
  cases d:a0y u.1 name
  ·rfl
  ·have:ts.any (fun u=>a0y u.1 name)=true:=List.any_eq_true.2 ⟨u,hu,d⟩;rw[this] at c;cases c
 ·rfl
theorem Inv.a0k(h:Inv s)(hu:1<=u/\u<=9)(hn:a0h name s.ts=0)(hl:s.ts.length≠4):Inv { s with ts:=s.ts++[(name,u)] }:=by
 have hno:=(a3o h.tu).1 hn;have un:∀ m,a0h m s.ts≠0->a0h m (s.ts++[(name,u)])=a0h m s.ts:=fun m hm=>a8F h.tu hm
 have pos:∀ e∈s.es,a0h e.a0k s.ts≠0:=fun e he=>by
  have:=h.th e he;have:=(h.en e he).u1;omega
 have tl:=h.tl;refine⟨?_,fun t ht=>?_,?_,h.ids,h.idb,h.g0,h.g1,h.n0,h.n1,h.en,fun e he=>?_,h.wa,fun e he hk=>?_,fun m x=>?_⟩
 ·show (s.ts++[(name,u)]).length<=4;simp;omega
 ·rcases List.mem_append.1 ht with ht|ht
  ·exact h.tu t ht
  ·have:t=(name,u):=by simpa using ht
   subst this;exact hu
 ·show (s.ts++[(name,u)]).Pairwise _;rw[List.pairwise_append];refine⟨h.tn,by simp,fun a ha b hb=>?_⟩;have:b=(name,u):=by simpa using hb
  subst this;exact hno a ha
 ·show e.a0c<=a0h e.a0k (s.ts++[(name,u)]);rw[un _ (pos e he)];exact h.th e he
 ·have:=h.no e he hk;show a1e (s.ts++[(name,u)]) s.es e.a0k e.a0c e.a0e=false;unfold a1e at this ⊢;rw[un _ (pos e he)];exact this
 ·show a0o m x s.es<=a0h m (s.ts++[(name,u)])
  by_cases c:a0h m s.ts=0
  ·have w:=h.wi m x;have b:=a6v (name:=m) (x:=x) h.mid.pos
   have:0<=a0h m (s.ts++[(name,u)]):=by
    rw[a5X]
    split
    ·omega
    ·split <;> simp <;> omega
   omega
  ·rw[un m c];exact h.wi m x
theorem Inv.join(h:Inv s)(hg:s.given≠60)(he:a1H s.now e)(ht:e.a0c<=a0h e.a0k s.ts)(hw:e.kind=3->a1Y s.es≠6)(hf:e.kind≠3->a1e s.ts s.es e.a0k e.a0c e.a0e=true):Mid (a2t s e).1:=by
 have g0:=h.g0;have g1:=h.g1;have idb:=h.idb;have wa:=h.wa;have he':a1H s.now { e with id:=s.given+1 }:=⟨he.u1,he.u9,he.sl,he.s0,he.sp,he.ri,he.kd⟩
 have mem:∀ z∈s.es++[{ e with id:=s.given+1 }],z∈s.es\/z={ e with id:=s.given+1 }:=by
  intro z hz;rcases List.mem_append.1 hz with hz|hz
  ·exact .inl hz
  ·exact .inr (by simpa using hz)
 unfold a2t;refine⟨h.tl,h.tu,h.tn,?_,fun z hz=>?_,by show 0<=s.given+1;omega,by show s.given+1<=60;omega,h.n0,h.n1,fun z hz=>?_,fun z hz=>?_,?_,fun name x=>?_⟩
 ·show Ids (s.es++[{ e with id:=s.given+1 }]);unfold Ids;rw[List.map_append,List.pairwise_append];refine⟨h.ids,by simp,fun a ha b hb=>?_⟩;obtain⟨z,hz,rfl⟩:=List.mem_map.1 ha;have:b=s.given+1:=by simpa using hb
  have:=idb z hz;omega
 ·rcases mem z hz with hz|rfl
  ·have:=idb z hz;show 1<=z.id/\z.id<=s.given+1;omega
  ·show 1<=s.given+1/\s.given+1<=s.given+1;omega
 ·rcases mem z hz with hz|rfl
  ·exact h.en z hz
  ·exact he'
 ·rcases mem z hz with hz|rfl
  ·exact h.th z hz
  ·exact ht
 ·show a1Y (s.es++[{ e with id:=s.given+1 }])<=6;rw[a4O,a7f];have e0:a1Y ([]:List Ent)=0:=by simp[a1Y]
  rw[e0];show a1Y s.es+((if e.kind=3 then 1 else 0)+0)<=6
  by_cases c:e.kind=3
  ·rw[if_pos c];have:=hw c;omega
  ·rw[if_neg c];omega
 ·show a0o name x (s.es++[{ e with id:=s.given+1 }])<=a0h name s.ts;rw[a2z];have w:=h.wi name x;have e1:a0o name x [{ e with id:=s.given+1 }]=(if ofB name e then a0r e.a0e x*e.a0c else 0):=by simp[a0o,ofB]
  rw[e1]
  by_cases c:ofB name e=true
  ·rw[if_pos c];simp[ofB] at c
   by_cases t:0<a0r e.a0e x
   ·have:=(a4d h.mid.pos (by have:=he.u1;omega)).1 (hf c.2) x t;rw[a4R c.1 x,a4P c.1 s.ts] at this;exact this
   ·have b:=(a4Q e.a0e x).1;have:a0r e.a0e x=0:=by omega
    rw[this];simpa using w
  ·rw[if_neg c];omega
theorem a8i(hi:Ids es)(he:e∈es)(hid:e.id=id):∃ l r,es=l++e :: r/\a0C id es=l++a0Q e :: r/\kept id es=l++r:=by
 obtain⟨l,r,rfl⟩:=List.append_of_mem he;refine⟨l,r,rfl,?_,?_⟩
 ·have hne:∀ z∈l++r,z.id≠id:=by
   intro z hz e1;unfold Ids at hi;rw[List.map_append,List.map_cons,List.pairwise_append,List.pairwise_cons] at hi;rcases List.mem_append.1 hz with hz|hz
   ·have:=hi.2.2 z.id (List.mem_map.2 ⟨z,hz,rfl⟩) e.id (by simp);omega
   ·have:=hi.2.1.1 z.id (List.mem_map.2 ⟨z,hz,rfl⟩);omega
  have b1:=a4A (id:=id) (es:=l) (fun z hz=>hne z (by simp[hz]));have b2:=a4A (id:=id) (es:=r) (fun z hz=>hne z (by simp[hz]));unfold a0C at b1 b2 ⊢;rw[List.map_append,List.map_cons,b1,b2,if_pos hid]
 ·have hne:∀ z∈l++r,z.id≠id:=by
   intro z hz e1;unfold Ids at hi;rw[List.map_append,List.map_cons,List.pairwise_append,List.pairwise_cons] at hi;rcases List.mem_append.1 hz with hz|hz
   ·have:=hi.2.2 z.id (List.mem_map.2 ⟨z,hz,rfl⟩) e.id (by simp);omega
   ·have:=hi.2.1.1 z.id (List.mem_map.2 ⟨z,hz,rfl⟩);omega
  have b1:=a9h (id:=id) (es:=l) (fun z hz=>hne z (by simp[hz]));have b2:=a9h (id:=id) (es:=r) (fun z hz=>hne z (by simp[hz]));unfold kept at b1 b2 ⊢;rw[List.filter_append,List.filter_cons,b1,b2,if_neg (by simp[hid])]
theorem b4o(name:ByteArray)(x:Int)(l r:List Ent)(e:Ent)(hk:e.kind≠3):a0o name x (l++a0Q e :: r)=a0o name x (l++e :: r):=by
 have o:ofB name e=a0y e.a0k name:=by
  unfold ofB;have:(e.kind != 3)=true:=by simp[hk]
  rw[this,Bool.and_true]
 rw[a2z,a2z];simp only[a0o,o,a3I];rfl
theorem Inv.confirm(h:Inv s)(he:e∈s.es)(hid:e.id=id)(hk:e.kind=2):Inv { s with es:=a0C id s.es }:=by
 obtain⟨l,r,h1,h2,_⟩:=a8i h.ids he hid;have tk:∀ name x,a0o name x (a0C id s.es)=a0o name x s.es:=fun name x=>by rw[h2,h1];exact b4o name x l r e (by omega)
 have mem:∀ z∈a0C id s.es,z=a0Q e\/z∈s.es:=by
  intro z hz;rcases a2b.1 hz with hz|⟨y,hy,h3,h4⟩
  ·exact .inr hz.1
  ·have:y=e:=h.ids.one hy he (by omega);subst this;exact .inl h4
 have hp':Pos (a0C id s.es):=by
  intro z hz;rcases mem z hz with rfl|hz
  ·exact h.mid.pos e he
  ·exact h.mid.pos z hz
 refine⟨h.tl,h.tu,h.tn,b1e h.ids,fun z hz=>?_,h.g0,h.g1,h.n0,h.n1,fun z hz=>?_,fun z hz=>?_,?_,fun z hz hz3=>?_,fun name x=>?_⟩
 ·rcases mem z hz with rfl|hz
  ·exact h.idb e he
  ·exact h.idb z hz
 ·rcases mem z hz with rfl|hz
  ·exact (h.en e he).book
  ·exact h.en z hz
 ·rcases mem z hz with rfl|hz
  ·exact h.th e he
  ·exact h.th z hz
 ·have:=h.wa;show a1Y (a0C id s.es)<=6;rw[h1] at this;rw[h2];rw[a4O,a7f] at this ⊢;have e1:(a0Q e).kind=1:=rfl;rw[if_neg (by rw[e1];omega)];rw[if_neg (by omega)] at this;exact this
 ·rcases mem z hz with rfl|hz
  ·exact absurd hz3 (by show ¬ (1:Int)=3;omega)
  ·exact a9v h.mid.pos hp' (by have:=(h.en z hz).u1;omega) (fun x=>by rw[tk];omega) (h.no z hz hz3)
 ·show a0o name x (a0C id s.es)<=a0h name s.ts;rw[tk];exact h.wi name x
theorem a5I(h:a5S id es=some e):e∈es/\e.id=id:=by
 unfold a5S at h;exact⟨List.mem_of_find?_eq_some h,by simpa using List.find?_some h⟩
theorem Rd.spans_ok{r:Rd.a0Y}(h:Rd.a6s r)(he:Rd.a6W r=0):c1P (Rd.a2M r (Rd.a0E r))/\a2c (Rd.a2M r (Rd.a0E r))/\Rd.a2M r (Rd.a0E r)≠[]/\(Rd.a2M r (Rd.a0E r)).length<=40:=by
 obtain⟨_,k1,k2,k3⟩:=(Rd.a5K h).2 he;have f0:=h.f0;have m0:=h.m0;have i1:=h.i1;refine⟨fun s hs=>?_,?_,by simpa[Rd.a2M] using k1,by simpa[Rd.a2M] using k2⟩
 ·obtain⟨d,hd,rfl⟩:=List.mem_map.1 hs;have a:=Rd.a4x h hd;have b:=k3 d hd;show 0<=d*1440+r.mn/\d*1440+r.mn<d*1440+r.mn+r.mi/\d*1440+r.mn+r.mi<=1048320;omega
 ·unfold a2c Rd.a2M;rw[List.pairwise_map];refine List.Pairwise.imp ?_ (Rd.b0X h);intro a b hab;show a*1440+r.mn<b*1440+r.mn;omega
theorem b3T(h:a0S ts name u=0):a0h name ts≠0/\u<=a0h name ts:=by
 unfold a0S at h
 split at h
 ·omega
 ·split at h
  ·omega
  ·constructor <;> omega
theorem b7f(h:Inv s){l:a7U}(hl:a1O l):Mid (a0g s l).1:=by
 cases l with
 |a0k name u =>
  simp only[a0g]
  split
  ·exact h.mid
  ·split
   ·exact h.mid
   ·rename_i c1 c2
    exact (h.a0k hl (by simpa using c1) c2).mid
 |enter k name u fr til long =>
  simp only[a0g]
  split
  ·exact h.mid
  ·rename_i c
   simp only[ne_eq,Decidable.not_not] at c;unfold a1M at c
   split at c
   ·omega
   ·rename_i c1
    simp only[ne_eq,Decidable.not_not] at c1
    split at c
    ·omega
    ·rename_i c2
     split at c
     ·omega
     ·rename_i c3
      obtain⟨lk,l1,l2,l3,l4,l5,l6⟩:=hl;obtain⟨a1,a2⟩:=b3T c1;have n0:=h.n0;refine h.join c3 ⟨l1,l2,by simp[a8p],by simp[a8p],fun s hs=>?_,by simp[a8p,a2c],?_⟩ a2 (fun hk=>?_) (fun hk=>?_)
      ·have:s=(fr,til):=by simpa[a8p] using hs
       subst this;show 0<=fr/\fr<til/\til<=1048320;omega
      ·show (k=1/\(if k=1 then 0 else s.now+long)=0)\/((k=2\/k=3)/\s.now<(if k=1 then 0 else s.now+long)/\(if k=1 then 0 else s.now+long)<=1048320/\[(fr,til)].length=1);rcases lk with ⟨lk,_⟩|⟨lk,l7,l8⟩
       ·exact .inl ⟨lk,by rw[if_pos lk]⟩
       ·rw[if_neg (by omega)];exact .inr ⟨lk,by omega,by omega,rfl⟩
      ·have hk:k=3:=hk;rw[if_pos hk] at c
       split at c
       ·omega
       ·assumption
      ·have hk:k≠3:=hk;rw[if_neg hk] at c;show a1e s.ts s.es name u [(fr,til)]=true
       split at c
       ·assumption
       ·omega
 |series name u r =>
  simp only[a0g]
  split
  ·exact h.mid
  ·rename_i c
   simp only[ne_eq,Decidable.not_not] at c;unfold a2l at c
   split at c
   ·omega
   ·rename_i c1
    simp only[ne_eq,Decidable.not_not] at c1
    split at c
    ·omega
    ·rename_i c2
     simp only[ne_eq,Decidable.not_not] at c2
     split at c
     ·omega
     ·rename_i c3
      obtain⟨l1,l2,l3⟩:=hl;obtain⟨a1,a2⟩:=b3T c1;obtain⟨p1,p2,p3,p4⟩:=Rd.spans_ok l3 c2;refine h.join c3 ⟨l1,l2,p4,p3,p1,p2,.inl ⟨rfl,rfl⟩⟩ a2 (fun hk=>?_) (fun _=>?_)
      ·exact absurd hk (by show ¬ (1:Int)=3;omega)
      ·show a1e s.ts s.es name u (Rd.a2M r (Rd.a0E r))=true
       split at c
       ·assumption
       ·omega
 |confirm id =>
  simp only[a0g]
  cases hf:a5S id s.es with
  |none=>exact h.mid
  |some e =>
   simp only
   split
   ·exact h.mid
   ·rename_i c
    obtain⟨f1,f2⟩:=a5I hf;exact (h.confirm f1 f2 (by simpa using c)).mid
 |cancel id =>
  simp only[a0g]
  cases hf:a5S id s.es with
  |none=>exact h.mid
  |some e =>
   exact h.mid.filter (now':=s.now) (fun e=>e.id != id) (Int.le_refl _) h.n1 (fun z hz _ hk=>by
    rcases (h.en z hz).kd with kd|⟨_,k2,_⟩
    ·exact absurd kd.1 hk
    ·exact k2)
 |list name fr til =>
  simp only[a0g]
  split
  ·exact h.mid
  ·split <;> exact h.mid
 |waiting=>exact h.mid
 |peak name fr til =>
  simp only[a0g]
  split
  ·exact h.mid
  ·split <;> exact h.mid
 |find name u long fr til =>
  simp only[a0g]
  split
  ·exact h.mid
  ·split <;> exact h.mid
 |expand r =>
  simp only[a0g]
  split <;> exact h.mid
 |tick n =>
  simp only[a0g]
  split
  ·exact h.mid
  ·rename_i c
   have hl:1<=n/\n<=1048320:=hl;exact (b2A s.ts s.given (s.now+n) (by omega) (s.es.length+1) s.es s.now (.inl (by omega)) (by omega) h).mid
 |clock=>exact h.mid
theorem b7g{l:a7U}(h:(a0g s l).2.err≠0):(a0g s l).1=s:=by
 cases l with
 |a0k name u =>
  simp only[a0g] at h ⊢
  by_cases c1:a0h name s.ts≠0
  ·rw[if_pos c1]
  ·rw[if_neg c1] at h ⊢
   by_cases c2:s.ts.length=4
   ·rw[if_pos c2]
   ·rw[if_neg c2] at h;exact absurd rfl h
 |enter k name u fr til long =>
  simp only[a0g] at h ⊢
  by_cases c:a1M s k name u fr til long≠0
  ·rw[if_pos c]
  ·rw[if_neg c] at h;exact absurd rfl h
 |series name u r =>
  simp only[a0g] at h ⊢
  by_cases c:a2l s name u r≠0
  ·rw[if_pos c]
  ·rw[if_neg c] at h;exact absurd rfl h
 |confirm id =>
  simp only[a0g] at h ⊢
  cases hf:a5S id s.es with
  |none=>rfl
  |some e =>
   rw[hf] at h;simp only at h ⊢
   by_cases c:e.kind≠2
   ·rw[if_pos c]
   ·rw[if_neg c] at h;exact absurd rfl h
 |cancel id =>
  simp only[a0g] at h ⊢
  cases hf:a5S id s.es with
  |none=>rfl
  |some e=>rw[hf] at h;exact absurd rfl h
 |list name fr til =>
  simp only[a0g]
  split
  ·rfl
  ·split <;> rfl
 |waiting=>rfl
 |peak name fr til =>
  simp only[a0g]
  split
  ·rfl
  ·split <;> rfl
 |find name u long fr til =>
  simp only[a0g]
  split
  ·rfl
  ·split <;> rfl
 |expand r =>
  simp only[a0g]
  split <;> rfl
 |tick n =>
  simp only[a0g] at h ⊢
  by_cases c:1048320<s.now+n
  ·rw[if_pos c]
  ·rw[if_neg c] at h;exact absurd rfl h
 |clock=>rfl
theorem c2j(h:Inv s){l:a7U}(hl:a1O l):Inv (a1q s l).1:=by
 unfold a1q
 split
 ·rename_i c
  rw[b7g c];exact h
 ·exact a9t (b7f h hl)
end Desk
open Go.RowKit
theorem c6M(b:ByteArray):∀ (n i:Nat)(r:List UInt8),b.size-i=n->ByteArray.toList.loop b i r=r.reverse++b.data.toList.drop i:=by
 intro n
 induction n with
 |zero =>
  intro i r h;rw[ByteArray.toList.loop,if_neg (by omega),List.drop_eq_nil_of_le (by simp;omega)];simp
 |succ n ih =>
  intro i r h;have hi:i<b.size:=by omega
  rw[ByteArray.toList.loop,if_pos hi,ih (i+1) _ (by omega)];have hl:i<b.data.toList.length:=by simpa using hi
  rw[List.drop_eq_getElem_cons hl];simp[ByteArray.get!,hi]
theorem c4l(b:ByteArray):b.toList=b.data.toList:=by
 unfold ByteArray.toList;rw[c6M b b.size 0 [] (by omega)];simp
theorem a4l:Desk.a0y a b=true↔a=b:=by
 constructor
 ·intro h;have h:=Desk.a8W.1 h;rw[c4l,c4l] at h
  cases a;cases b
  simp at h;rw[h]
 ·rintro rfl;exact Desk.a2u _
theorem a3d:Desk.a0y a b=false↔a≠b:=by
 cases h:Desk.a0y a b
 ·simp;rintro rfl;rw[Desk.a2u] at h;cases h
 ·simp;exact a4l.1 h
def b8f(a:ByteArray):Lit:=.string a.data.toList
def b1K(n:Int):Lit:=.int .i64 n
theorem c2N(h:b8f a=b8f b):a=b:=by
 cases a;cases b
 simp[b8f] at h;rw[h]
theorem b6H{a b:Int}(h:b1K a=b1K b):a=b:=by simpa[b1K] using h
theorem c0z:Maps.Keyed Tryz.prog 9:=Maps.string_keyed Tryz.underlying9
theorem b3h:Maps.Keyed Tryz.prog 3:=Maps.int_keyed Tryz.underlying3
theorem b4Z{s:ByteArray}(h:s.size<=1000):keyOf Tryz.prog 9 (.string s)=some (b8f s):=by
 unfold keyOf mapKey;rw[Tryz.underlying9];simp only;rw[if_pos (by unfold maxLen;omega)];rfl
theorem a9g{n:Int}(h1:-1000000000000<=n)(h2:n<=1000000000000):keyOf Tryz.prog 3 (.int .i64 n)=some (b1K n):=by
 unfold keyOf mapKey;rw[Tryz.underlying3];simp only;have m1:IntKind.i64.min=-9223372036854775808:=rfl;have m2:IntKind.i64.max=9223372036854775807:=rfl;have hw:(Lit.int .i64 n).wf=true:=by simp[Lit.wf,m1,m2];omega
 rw[if_pos ⟨trivial,hw⟩];rfl
inductive Col where
 |desk|mt|me|wa|he|ent|span
 |a0k (i:Nat)
structure TG where
 name:ByteArray
 a0c:Int
 tb:Nat
 A:List Bool->Int
 T:Avl.S
structure EG where
 e:Desk.Ent
 eb:Nat
 B:Nat
 cap:Nat
 tb:Nat
def b2r(tg:List TG)(name:ByteArray):Option Nat:=((tg.map fun t=>(t.name,t.tb)).find? fun p=>Desk.a0y p.1 name).map (·.2)
def a6U(eg:List EG)(id:Int):Option Nat:=((eg.map fun g=>(g.e.id,g.eb)).find? fun p=>decide (p.1=id)).map (·.2)
structure ENK(w:World)(g:EG):Prop where
 en:ENT w g.eb g.e.id g.tb g.e.a0c g.B g.cap g.e.a0e
 k:w.cell? ⟨g.eb,1,none⟩=some (.int .i64 g.e.kind)
 u:w.cell? ⟨g.eb,5,none⟩=some (.int .i64 g.e.a0Z)
 fz:∀ o,w.frozen? ⟨g.eb,o,none⟩=false
 bl:∃ cs,w.heap[g.eb]?=some (.cells cs 200 (0,0))
theorem ENK.lt{g:EG}(h:ENK w g):g.eb<w.heap.size:=World.block_lt_of_cell? _ _ h.k
theorem ENK.off{g:EG}(h:ENK w g)(k:Off G w w')(h1:g.eb ∉ G)(h2:g.B ∉ G):ENK w' g :=
 ⟨h.en.off k h1 h2,k.cell h1 h.k,k.cell h1 h.u,fun o=>(k.frozen h1 h.lt).trans (h.fz o),by obtain⟨cs,e⟩:=h.bl;exact⟨cs,(k.block _ h.lt h1).trans e⟩⟩
def a5x(b:Nat):Value:=.pointer (some ⟨b,0,none⟩)
structure Raw where
 now:Int
 given:Int
 tg:List TG
 eg:List EG
 wl:List Nat
 hl:List Hp.Hi
structure DK(w:World)(d:Nat)(r:Raw)(col:Nat->Option Col):Prop where
 c0:w.cell? ⟨d,0,none⟩=some (.int .i64 r.now)
 c1:w.cell? ⟨d,1,none⟩=some (.int .i64 r.given)
 mt:∃ m f,w.cell? ⟨d,2,none⟩=some (.map (some m))/\col m=some .mt/\a4N Tryz.prog 9 w m r.tg.length f r.tg.length/\∀ name,f (b8f name)=b2r r.tg name
 me:∃ m f,w.cell? ⟨d,3,none⟩=some (.map (some m))/\col m=some .me/\a4N Tryz.prog 3 w m r.eg.length f r.eg.length/\∀ id,f (b1K id)=a6U r.eg id
 wa:∃ v,w.cell? ⟨d,4,none⟩=some v/\w.ownsRow 0 197 1 v r.wl.length (r.wl.map a5x)/\∀ b,v.ownBlock=some b->col b=some .wa
 he:∃ v,HP w d 5 v r.hl/\∀ b,v.ownBlock=some b->col b=some .he
 th:∀ (i:Nat) (h:i<r.tg.length),∃ ul us Fl Fs,TH w r.tg[i].tb r.tg[i].name r.tg[i].a0c r.tg[i].A r.tg[i].T ul us Fl Fs/\∀ k∈r.tg[i].tb :: (Fl++Fs),col k=some (.a0k i)
 en:∀ g∈r.eg,ENK w g/\col g.eb=some .ent/\col g.B=some .span
 nd:(r.eg.map (·.eb)).Nodup
 ni:(r.eg.map (·.e.id)).Nodup
 fz:∀ o,w.frozen? ⟨d,o,none⟩=false
 dc:col d=some .desk
 lt:∀ k c,col k=some c->k<w.heap.size
theorem DK.off{r:Raw}{col:Nat->Option Col}(h:DK w d r col)(k:Off G w w')(hG:∀ x∈G,col x=none):DK w' d r col:=by
 have no:∀ {x:Nat}{c:Col},col x=some c->x ∉ G:=fun hx hg=>by rw[hG _ hg] at hx;cases hx
 have hd:=no h.dc;refine⟨k.cell hd h.c0,k.cell hd h.c1,?_,?_,?_,?_,?_,?_,h.nd,h.ni,fun o=>(k.frozen hd (h.lt d _ h.dc)).trans (h.fz o),h.dc,fun x c hx=>zL (h.lt x c hx) k.size⟩
 ·obtain⟨m,f,a1,a2,a3,a4⟩:=h.mt;exact⟨m,f,k.cell hd a1,a2,a3.block (k.block m (h.lt m _ a2) (no a2)),a4⟩
 ·obtain⟨m,f,a1,a2,a3,a4⟩:=h.me;exact⟨m,f,k.cell hd a1,a2,a3.block (k.block m (h.lt m _ a2) (no a2)),a4⟩
 ·obtain⟨v,a1,a2,a3⟩:=h.wa;exact⟨v,k.cell hd a1,a1i a2 k (fun b hb=>no (a3 b hb)),a3⟩
 ·obtain⟨v,a1,a2⟩:=h.he;exact⟨v,a1.off k hd (fun b hb=>no (a2 b hb)),a2⟩
 ·intro i hi;obtain⟨ul,us,Fl,Fs,a1,a2⟩:=h.th i hi;exact⟨ul,us,Fl,Fs,a1.off k (fun x hx=>no (a2 x hx)),a2⟩
 ·intro g hg;obtain⟨a1,a2,a3⟩:=h.en g hg;exact⟨a1.off k (no a2) (no a3),a2,a3⟩
theorem DK.later{r:Raw}{col:Nat->Option Col}(h:DK w d r col)(k:Below w.heap.size w w'):DK w' d r col:=h.off (G:=[]) (Off.of_below k) (by simp)
structure Step(S:Col->Prop)(B:Nat)(col col':Nat->Option Col)(w w':World):Prop where
 off:∃ G,Off G w w'/\∀ x∈G,(∃ c,col x=some c/\S c)\/(col x=none/\B<=x)
 a9i:∀ k c,col k=some c->col' k=some c
 new:∀ k c,col' k=some c->col k=some c\/B<=k
theorem Step.refl(S:Col->Prop)(B:Nat)(col:Nat->Option Col)(w:World):Step S B col col w w:=⟨⟨[],Off.refl _ _,by simp⟩,fun _ _ h=>h,fun _ _ h=>.inl h⟩
theorem Step.below{S:Col->Prop}{col:Nat->Option Col}(h:Below w.heap.size w w'):Step S B col col w w':=⟨⟨[],Off.of_below h,by simp⟩,fun _ _ h=>h,fun _ _ h=>.inl h⟩
theorem Step.size{S:Col->Prop}{col col':Nat->Option Col}(h:Step S B col col' w w'):w.heap.size<=w'.heap.size:=by obtain⟨G,h1,_⟩:=h.off;exact h1.size
theorem Step.mono{S S':Col->Prop}{B':Nat}{col col':Nat->Option Col}(h:Step S B col col' w w')(hs:∀ c,S c->S' c)(hB:B'<=B):Step S' B' col col' w w':=by
 obtain⟨G,h1,h2⟩:=h.off;refine⟨⟨G,h1,fun x hx=>?_⟩,h.a9i,fun k c hk=>(h.new k c hk).imp id (fun e=>by omega)⟩;rcases h2 x hx with ⟨c,a,b⟩|⟨a,b⟩
 ·exact .inl ⟨c,a,hs c b⟩
 ·exact .inr ⟨a,by omega⟩
theorem Step.trans{S:Col->Prop}{c0 c1 c2:Nat->Option Col}{a b c:World}(h:Step S B c0 c1 a b)(k:Step S B c1 c2 b c):Step S B c0 c2 a c:=by
 obtain⟨G,h1,h2⟩:=h.off;obtain⟨K,k1,k2⟩:=k.off;refine⟨⟨G++K,?_,fun x hx=>?_⟩,fun x c hx=>k.a9i x c (h.a9i x c hx),fun x c hx=>?_⟩
 ·exact (h1.mono (fun x hx=>by simp[hx])).trans' k1 (fun x hx=>.inl (by simp[hx]))
 ·rcases List.mem_append.1 hx with hx|hx
  ·exact h2 x hx
  ·rcases k2 x hx with ⟨c,e1,e2⟩|⟨e1,e2⟩
   ·rcases h.new x c e1 with e|e
    ·exact .inl ⟨c,e,e2⟩
    ·cases h0:c0 x with
     |none=>exact .inr ⟨rfl,e⟩
     |some c' =>
      have:=h.a9i x c' h0;rw[e1] at this
      cases this
      exact .inl ⟨c,rfl,e2⟩
   ·cases h0:c0 x with
    |none=>exact .inr ⟨rfl,e2⟩
    |some c'=>rw[h.a9i x c' h0] at e1;cases e1
 ·rcases k.new x c hx with e|e
  ·exact h.new x c e
  ·exact .inr e
theorem Step.blockC{S:Col->Prop}{col col':Nat->Option Col}(h:Step S B col col' w w'){b:Nat}{c:Col}(hb:b<w.heap.size)(hc:col b=some c)(hs:¬ S c):w'.heap[b]?=w.heap[b]?:=by
 obtain⟨G,h1,h2⟩:=h.off;refine h1.block b hb (fun hx=>?_);rcases h2 b hx with ⟨c',e1,e2⟩|⟨e1,_⟩
 ·rw[hc] at e1;cases e1;exact hs e2
 ·rw[hc] at e1;cases e1
theorem Step.blockN{S:Col->Prop}{col col':Nat->Option Col}(h:Step S B col col' w w'){b:Nat}(hb:b<w.heap.size)(hc:col b=none)(hB:b<B):w'.heap[b]?=w.heap[b]?:=by
 obtain⟨G,h1,h2⟩:=h.off;refine h1.block b hb (fun hx=>?_);rcases h2 b hx with ⟨c',e1,e2⟩|⟨_,e⟩
 ·rw[hc] at e1;cases e1
 ·omega
theorem Step.cellC{S:Col->Prop}{col col':Nat->Option Col}(h:Step S B col col' w w'){b o:Nat}{c:Col}(hc:col b=some c)(hs:¬ S c)(h0:w.cell? ⟨b,o,none⟩=some v):w'.cell? ⟨b,o,none⟩=some v :=
 (zo (w:=w) (h.blockC (World.block_lt_of_cell? _ _ h0) hc hs)).trans h0
def Left(S:Col->Prop)(B:Nat)(col:Nat->Option Col)(b:Nat):Prop:=(∃ c,col b=some c/\¬ S c)\/(col b=none/\b<B)
theorem Step.left{S:Col->Prop}{col col':Nat->Option Col}(h:Step S B col col' w w'):∃ G,Off G w w'/\∀ b,Left S B col b->b ∉ G:=by
 obtain⟨G,h1,h2⟩:=h.off;refine⟨G,h1,fun b hl hx=>?_⟩;rcases h2 b hx with ⟨c',e1,e2⟩|⟨e1,e2⟩ <;> rcases hl with ⟨c,e3,e4⟩|⟨e3,e4⟩
 ·rw[e1] at e3;cases e3;exact e4 e2
 ·rw[e1] at e3;cases e3
 ·rw[e1] at e3;cases e3
 ·omega
theorem Step.enk{S:Col->Prop}{col col':Nat->Option Col}{g:EG}(h:Step S B col col' w w')(hg:ENK w g)(h1:Left S B col g.eb)(h2:Left S B col g.B):ENK w' g:=by
 obtain⟨G,a1,a2⟩:=h.left;exact hg.off a1 (a2 _ h1) (a2 _ h2)
noncomputable def a2Z(col:Nat->Option Col)(F:List Nat)(c:Col)(k:Nat):Option Col :=
 match col k with
 |some c'=>some c'
 |none=>@ite _ (k∈F) (Classical.propDecidable _) (some c) none
theorem a9b{col:Nat->Option Col}{c c':Col}(h:col k=some c'):a2Z col F c k=some c':=by unfold a2Z;rw[h]
theorem a5z{col:Nat->Option Col}{c:Col}(h:k∈F)(hk:∀ c',col k=some c'->c'=c):a2Z col F c k=some c:=by
 unfold a2Z
 cases e:col k with
 |none=>simp only;rw[if_pos h]
 |some c'=>simp only;rw[hk c' e]
theorem a1I{col:Nat->Option Col}{c c':Col}(h:a2Z col F c k=some c'):col k=some c'\/(col k=none/\k∈F/\c=c'):=by
 unfold a2Z at h
 cases e:col k with
 |none =>
  rw[e] at h;simp only at h
  by_cases hf:k∈F
  ·rw[if_pos hf] at h;cases h;exact .inr ⟨rfl,hf,rfl⟩
  ·rw[if_neg hf] at h;cases h
 |some c2=>rw[e] at h;exact .inl h
theorem a3l{S:Col->Prop}{col:Nat->Option Col}{c:Col}(k:Off G w w')(hG:∀ x∈G,(∃ c,col x=some c/\S c)\/(col x=none/\B<=x))(hF:∀ x∈F,col x=none->B<=x):Step S B col (a2Z col F c) w w' :=
 ⟨⟨G,k,hG⟩,fun _ _ h=>a9b h,fun k c hk=>by rcases a1I hk with e|⟨e1,e2,e3⟩;exact .inl e;exact .inr (hF k e2 e1)⟩
def TG.with(t:TG)(A:List Bool->Int)(T:Avl.S):TG:={ t with A:=A,T:=T }
def Raw.setT(r:Raw)(i:Nat)(t:TG):Raw:={ r with tg:=r.tg.set i t }
theorem c2c{tg:List TG}{i:Nat}(hi:i<tg.length)(A:List Bool->Int)(T:Avl.S)(name:ByteArray):b2r (tg.set i (tg[i].with A T)) name=b2r tg name:=by
 unfold b2r
 have e:(tg.set i (tg[i].with A T)).map (fun t=>(t.name,t.tb))=tg.map fun t=>(t.name,t.tb):=by
  rw[List.map_set];have:((tg[i].with A T).name,(tg[i].with A T).tb)=(tg.map fun t=>(t.name,t.tb))[i]'(by simpa using hi):=by simp[TG.with]
  rw[this,List.set_getElem_self]
 rw[e]
theorem DK.base{S:Col->Prop}{r:Raw}{col col':Nat->Option Col}(h:DK w d r col)(st:Step S B col col' w w')(hd:¬ S .desk):
  w'.cell? ⟨d,0,none⟩=some (.int .i64 r.now)/\w'.cell? ⟨d,1,none⟩=some (.int .i64 r.given)/\(∀ o,w'.frozen? ⟨d,o,none⟩=false)/\col' d=some .desk/\∀ o,w'.cell? ⟨d,o,none⟩=w.cell? ⟨d,o,none⟩:=by
 have hb:=st.blockC (h.lt d _ h.dc) h.dc hd;exact⟨st.cellC h.dc hd h.c0,st.cellC h.dc hd h.c1,fun o=>(World.frozen?_of_block (w:=w) hb).trans (h.fz o),st.a9i d _ h.dc,fun o=>zo hb⟩
theorem DK.mtC{S:Col->Prop}{r:Raw}{col col':Nat->Option Col}(h:DK w d r col)(st:Step S B col col' w w')(hc:w'.cell? ⟨d,2,none⟩=w.cell? ⟨d,2,none⟩)(hm:¬ S .mt):
  ∃ m f,w'.cell? ⟨d,2,none⟩=some (.map (some m))/\col' m=some .mt/\a4N Tryz.prog 9 w' m r.tg.length f r.tg.length/\∀ name,f (b8f name)=b2r r.tg name:=by
 obtain⟨m,f,a1,a2,a3,a4⟩:=h.mt;exact⟨m,f,hc.trans a1,st.a9i m _ a2,a3.block (st.blockC (h.lt m _ a2) a2 hm),a4⟩
theorem DK.meC{S:Col->Prop}{r:Raw}{col col':Nat->Option Col}(h:DK w d r col)(st:Step S B col col' w w')(hc:w'.cell? ⟨d,3,none⟩=w.cell? ⟨d,3,none⟩)(hm:¬ S .me):
  ∃ m f,w'.cell? ⟨d,3,none⟩=some (.map (some m))/\col' m=some .me/\a4N Tryz.prog 3 w' m r.eg.length f r.eg.length/\∀ id,f (b1K id)=a6U r.eg id:=by
 obtain⟨m,f,a1,a2,a3,a4⟩:=h.me;exact⟨m,f,hc.trans a1,st.a9i m _ a2,a3.block (st.blockC (h.lt m _ a2) a2 hm),a4⟩
theorem DK.waC{S:Col->Prop}{r:Raw}{col col':Nat->Option Col}(h:DK w d r col)(st:Step S B col col' w w')(hc:w'.cell? ⟨d,4,none⟩=w.cell? ⟨d,4,none⟩)(hm:¬ S .wa):
  ∃ v,w'.cell? ⟨d,4,none⟩=some v/\w'.ownsRow 0 197 1 v r.wl.length (r.wl.map a5x)/\∀ b,v.ownBlock=some b->col' b=some .wa:=by
 obtain⟨v,a1,a2,a3⟩:=h.wa;obtain⟨G,k,hG⟩:=st.left;exact⟨v,hc.trans a1,a1i a2 k (fun b hb=>hG b (.inl ⟨_,a3 b hb,hm⟩)),fun b hb=>st.a9i b _ (a3 b hb)⟩
theorem DK.heC{S:Col->Prop}{r:Raw}{col col':Nat->Option Col}(h:DK w d r col)(st:Step S B col col' w w')(hc:w'.cell? ⟨d,5,none⟩=w.cell? ⟨d,5,none⟩)(hf:w'.frozen? ⟨d,5,none⟩=false)(hm:¬ S .he):
  ∃ v,HP w' d 5 v r.hl/\∀ b,v.ownBlock=some b->col' b=some .he:=by
 obtain⟨v,a1,a2⟩:=h.he;obtain⟨G,k,hG⟩:=st.left;exact⟨v,⟨hc.trans a1.c,a1i a1.own k (fun b hb=>hG b (.inl ⟨_,a2 b hb,hm⟩)),a1.ne,hf⟩,fun b hb=>st.a9i b _ (a2 b hb)⟩
theorem DK.thS{S:Col->Prop}{r:Raw}{col col':Nat->Option Col}(h:DK w d r col)(st:Step S B col col' w w')(i:Nat)(hi:i<r.tg.length)(hm:¬ S (.a0k i)):
  ∃ ul us Fl Fs,TH w' r.tg[i].tb r.tg[i].name r.tg[i].a0c r.tg[i].A r.tg[i].T ul us Fl Fs/\∀ k∈r.tg[i].tb :: (Fl++Fs),col' k=some (.a0k i):=by
 obtain⟨ul,us,Fl,Fs,a1,a2⟩:=h.th i hi;obtain⟨G,k,hG⟩:=st.left;exact⟨ul,us,Fl,Fs,a1.off k (fun b hb=>hG b (.inl ⟨_,a2 b hb,hm⟩)),fun b hb=>st.a9i b _ (a2 b hb)⟩
theorem DK.enS{S:Col->Prop}{r:Raw}{col col':Nat->Option Col}(h:DK w d r col)(st:Step S B col col' w w')(he:¬ S .ent)(hs:¬ S .span):
  ∀ g∈r.eg,ENK w' g/\col' g.eb=some .ent/\col' g.B=some .span:=by
 intro g hg;obtain⟨a1,a2,a3⟩:=h.en g hg;exact⟨st.enk a1 (.inl ⟨_,a2,he⟩) (.inl ⟨_,a3,hs⟩),st.a9i _ _ a2,st.a9i _ _ a3⟩
theorem DK.a0k{r:Raw}{col:Nat->Option Col}(h:DK w d r col)(i:Nat)(hi:i<r.tg.length)(hF:∀ k∈r.tg[i].tb :: F,col k=some (.a0k i)){A:List Bool->Int}{T:Avl.S}(n:Now w w' r.tg[i].tb r.tg[i].name r.tg[i].a0c A T F):
  ∃ col',DK w' d (r.setT i (r.tg[i].with A T)) col'/\Step (·=.a0k i) w.heap.size col col' w w':=by
 obtain⟨ul,us,Fl,Fs,t1,t2⟩:=n.th
 have hold:∀ k,w.heap.size<=k->col k=none:=fun k hk=>by
  cases e:col k with
  |none=>rfl
  |some c=>have:=h.lt k c e;omega
 have hFF:∀ k∈Fl++Fs,col k=some (.a0k i)\/(col k=none/\w.heap.size<=k):=fun k hk=>by
  rcases t2 k hk with e|e
  ·exact .inl (hF k (by simp[e]))
  ·exact .inr ⟨hold k e,e⟩
 have st:Step (·=.a0k i) w.heap.size col (a2Z col (Fl++Fs) (.a0k i)) w w':=a3l n.off (fun x hx=>.inl ⟨_,hF x hx,rfl⟩) (fun x hx e=>by
  rcases hFF x hx with e2|e2
  ·rw[e] at e2;cases e2
  ·exact e2.2)
 refine⟨_,?_,st⟩;obtain⟨b1,b2,b3,b4,b5⟩:=h.base st (by simp);refine⟨b1,b2,?_,h.meC st (b5 3) (by simp),h.waC st (b5 4) (by simp),h.heC st (b5 5) (b3 5) (by simp),?_,h.enS st (by simp) (by simp),h.nd,h.ni,b3,b4,?_⟩
 ·obtain⟨m,f,a1,a2,a3,a4⟩:=h.mtC st (b5 2) (by simp);have e:(r.setT i (r.tg[i].with A T)).tg.length=r.tg.length:=by simp[Raw.setT]
  exact⟨m,f,a1,a2,by rw[e];exact a3,fun name=>by rw[a4];exact (c2c hi A T name).symm⟩
 ·intro j hj;have hj':j<r.tg.length:=by simpa[Raw.setT] using hj
  by_cases e:j=i
  ·subst e;have e2:(r.setT j (r.tg[j].with A T)).tg[j]=r.tg[j].with A T:=by simp[Raw.setT]
   rw[e2];refine⟨ul,us,Fl,Fs,t1,fun k hk=>?_⟩;rcases List.mem_cons.1 hk with rfl|hk
   ·exact a9b (hF r.tg[j].tb List.mem_cons_self)
   ·refine a5z hk (fun c' hc=>?_);rcases hFF k hk with e|e
    ·rw[hc] at e;cases e;rfl
    ·rw[hc] at e;cases e.1
  ·have e2:(r.setT i (r.tg[i].with A T)).tg[j]=r.tg[j]:=by simp[Raw.setT,Ne.symm e]
   rw[e2];exact h.thS st j hj' (by simpa using e)
 ·intro k c hk;rcases a1I hk with h1|⟨h1,h2,h3⟩
  ·exact zL (h.lt k c h1) st.size
  ·exact t1.lt k (by simp only[List.mem_cons];exact .inr h2)
structure Fit(t:TG)(e:Desk.Ent):Prop where
 ok:c1P e.a0e
 bd:∀ p,0<=t.A p/\t.A p<=400000
 u1:1<=e.a0c
 u2:e.a0c<=9
 ll:e.a0e.length<=100
theorem DK.pair{r:Raw}{col:Nat->Option Col}(h:DK w d r col)(i:Nat)(hi:i<r.tg.length){g:EG}(hg:ENK w g)(ht:g.tb=r.tg[i].tb)(h1:col g.eb≠some (.a0k i))(h2:col g.B≠some (.a0k i))(hf:Fit r.tg[i] g.e):
  ∃ F,c6Q w r.tg[i].tb g.eb g.B g.cap r.tg[i].name r.tg[i].a0c r.tg[i].A r.tg[i].T F g.e.id g.e.a0c g.e.a0e/\∀ k∈r.tg[i].tb :: F,col k=some (.a0k i):=by
 obtain⟨ul,us,Fl,Fs,a1,a2⟩:=h.th i hi;refine⟨Fl++Fs,⟨⟨ul,us,Fl,Fs,a1,fun k hk=>hk⟩,by rw[<- ht];exact hg.en,fun hx=>h1 (a2 _ hx),fun hx=>h2 (a2 _ hx),hf.ok,hf.bd,hf.u1,hf.u2,hf.ll⟩,a2⟩
theorem b7e{r:Raw}{col:Nat->Option Col}(h:DK w d r col)(i:Nat)(hi:i<r.tg.length){g:EG}(hg:ENK w g)(ht:g.tb=r.tg[i].tb)(h1:col g.eb≠some (.a0k i))(h2:col g.B≠some (.a0k i))(hf:Fit r.tg[i] g.e)(hno:a2V (a1z r.tg[i].A g.e.a0e g.e.a0c) r.tg[i].a0c g.e.a0e=false):
  Calls Tryz.prog 104 #[.pointer (some ⟨g.tb,0,none⟩),.pointer (some ⟨g.eb,0,none⟩)] w fun e w'=>e=.returned (.bool false)/\∃ col',DK w' d r col'/\Step (·=.a0k i) w.heap.size col col' w w':=by
 obtain⟨F,p,hF⟩:=h.pair i hi hg ht h1 h2 hf;rw[ht];refine (c4y w _ _ _ _ _ _ _ _ F _ _ _ p hno).mono ?_;rintro e w' ⟨rfl,n⟩;obtain⟨col',k1,k2⟩:=h.a0k i hi hF n;refine⟨rfl,col',?_,k2⟩
 have e:r.setT i (r.tg[i].with r.tg[i].A r.tg[i].T)=r:=by
  have e1:r.tg[i].with r.tg[i].A r.tg[i].T=r.tg[i]:=rfl;unfold Raw.setT;rw[e1,List.set_getElem_self]
 rw[e] at k1;exact k1
theorem b3F{r:Raw}{col:Nat->Option Col}(h:DK w d r col)(i:Nat)(hi:i<r.tg.length){g:EG}(hg:ENK w g)(ht:g.tb=r.tg[i].tb)(h1:col g.eb≠some (.a0k i))(h2:col g.B≠some (.a0k i))(hf:Fit r.tg[i] g.e)(hr:c3L r.tg[i].T g.e.id g.e.a0e)(hyes:a2V (a1z r.tg[i].A g.e.a0e g.e.a0c) r.tg[i].a0c g.e.a0e=true):
  Calls Tryz.prog 104 #[.pointer (some ⟨g.tb,0,none⟩),.pointer (some ⟨g.eb,0,none⟩)] w fun e w'=>e=.returned (.bool true)/\∃ col',DK w' d (r.setT i (r.tg[i].with (a1z r.tg[i].A g.e.a0e g.e.a0c) (a7e g.e.id g.eb r.tg[i].T g.e.a0e))) col'/\Step (·=.a0k i) w.heap.size col col' w w':=by
 obtain⟨F,p,hF⟩:=h.pair i hi hg ht h1 h2 hf;rw[ht];refine (c2f w _ _ _ _ _ _ _ _ F _ _ _ p hr hyes).mono ?_;rintro e w' ⟨rfl,n⟩;exact⟨rfl,h.a0k i hi hF n⟩
theorem b3G{r:Raw}{col:Nat->Option Col}(h:DK w d r col)(i:Nat)(hi:i<r.tg.length){g:EG}(hg:ENK w g)(ht:g.tb=r.tg[i].tb)(h1:col g.eb≠some (.a0k i))(h2:col g.B≠some (.a0k i))(hf:Fit r.tg[i] g.e)(ho:Avl.Ord (Avl.a0w r.tg[i].T))(hz:Avl.size r.tg[i].T<=9000)(hA:∀ p,0<=a1z r.tg[i].A g.e.a0e (-g.e.a0c) p):
  Calls Tryz.prog 205 #[.pointer (some ⟨g.tb,0,none⟩),.pointer (some ⟨g.eb,0,none⟩)] w fun e w'=>e=.returned (.tuple #[])/\∃ col',DK w' d (r.setT i (r.tg[i].with (a1z r.tg[i].A g.e.a0e (-g.e.a0c)) (a4w g.e.id r.tg[i].T g.e.a0e))) col'/\Step (·=.a0k i) w.heap.size col col' w w':=by
 obtain⟨F,p,hF⟩:=h.pair i hi hg ht h1 h2 hf;rw[ht];refine (b4K w _ _ _ _ _ _ _ _ F _ _ _ p ho hz hA).mono ?_;rintro e w' ⟨rfl,n⟩;exact⟨rfl,h.a0k i hi hF n⟩
theorem DK.heap{r:Raw}{col:Nat->Option Col}(h:DK w d r col)(hv:∀ b,v.ownBlock=some b->col b=some .he){l':List Hp.Hi}(p:a2i w d 5 v l' w'):
  ∃ col',DK w' d { r with hl:=l' } col'/\Step (fun c=>c=.he\/c=.desk) w.heap.size col col' w w':=by
 obtain⟨v',p1,p2,p3,p4,p5⟩:=p
 have st:Step (fun c=>c=.he\/c=.desk) w.heap.size col (a2Z col v'.ownBlock.toList .he) w w':=by
  refine a3l p3 (fun x hx=>?_) (fun x hx e=>?_)
  ·rcases List.mem_cons.1 hx with rfl|hx
   ·exact .inl ⟨_,h.dc,.inr rfl⟩
   ·exact .inl ⟨_,hv x (Option.mem_toList.1 hx),.inl rfl⟩
  ·rcases p2 x (Option.mem_toList.1 hx) with e2|e2
   ·rw[hv x e2] at e;cases e
   ·exact e2
 refine⟨_,?_,st⟩;refine⟨(p4 0 (by omega)).trans h.c0,(p4 1 (by omega)).trans h.c1,h.mtC st (p4 2 (by omega)) (by simp),h.meC st (p4 3 (by omega)) (by simp),h.waC st (p4 4 (by omega)) (by simp),⟨v',p1,fun b hb=>?_⟩,fun i hi=>h.thS st i hi (by simp),h.enS st (by simp) (by simp),h.nd,h.ni,fun o=>(p5 o).trans (h.fz o),st.a9i d _ h.dc,fun k c hk=>?_⟩
 ·refine a5z (Option.mem_toList.2 hb) (fun c' hc=>?_);rcases p2 b hb with e|e
  ·rw[hv b e] at hc;cases hc;rfl
  ·have:=h.lt b _ hc;omega
 ·rcases a1I hk with h1|⟨h1,h2,h3⟩
  ·exact zL (h.lt k c h1) st.size
  ·have:=p1.own.lt k (Option.mem_toList.1 h2);exact this.2
theorem DK.setGiven{r:Raw}{col:Nat->Option Col}(h:DK w d r col)(n:Int):DK (w.setCell ⟨d,1,none⟩ (.int .i64 n)) d { r with given:=n } col/\Step (·=.desk) w.heap.size col col w (w.setCell ⟨d,1,none⟩ (.int .i64 n)):=by
 have st:Step (·=.desk) w.heap.size col col w (w.setCell ⟨d,1,none⟩ (.int .i64 n)):=⟨⟨[d],Off.set0 ..,fun x hx=>.inl ⟨_,by simp at hx;subst hx;exact h.dc,rfl⟩⟩,fun _ _ h=>h,fun _ _ h=>.inl h⟩;have ho:∀ o,o≠1->(w.setCell ⟨d,1,none⟩ (.int .i64 n)).cell? ⟨d,o,none⟩=w.cell? ⟨d,o,none⟩:=fun o ho=>zS _ _ _ _ (by have:=ho;simp)
 exact⟨⟨(ho 0 (by omega)).trans h.c0,World.cell?_setCell_same _ _ _ h.c1,h.mtC st (ho 2 (by omega)) (by simp),h.meC st (ho 3 (by omega)) (by simp),h.waC st (ho 4 (by omega)) (by simp),h.heC st (ho 5 (by omega)) ((zF ..).trans (h.fz 5)) (by simp),fun i hi=>h.thS st i hi (by simp),h.enS st (by simp) (by simp),h.nd,h.ni,fun o=>(zF ..).trans (h.fz o),h.dc,fun k c hk=>zL (h.lt k c hk) st.size⟩,st⟩
theorem DK.setWait{w1:World}{r:Raw}{col:Nat->Option Col}(h:DK w d r col){v':Value}(hv:∀ b,v.ownBlock=some b->col b=some .wa){wl':List Nat}(k:Off v.ownBlock.toList w w1)(ho:w1.ownsRow 0 197 1 v' wl'.length (wl'.map a5x))(hat:∀ b,v'.ownBlock=some b->v.ownBlock=some b\/w.heap.size<=b):
  ∃ col',DK (w1.setCell ⟨d,4,none⟩ v') d { r with wl:=wl' } col'/\Step (fun c=>c=.wa\/c=.desk) w.heap.size col col' w (w1.setCell ⟨d,4,none⟩ v'):=by
 have hdv:d ∉ v.ownBlock.toList:=fun e=>by have:=hv d (Option.mem_toList.1 e);rw[h.dc] at this;cases this
 have hdl:=h.lt d _ h.dc;have hd1:w1.heap[d]?=w.heap[d]?:=k.block d hdl hdv;have k2:Off (d :: v.ownBlock.toList) w (w1.setCell ⟨d,4,none⟩ v'):=(k.mono (by simp +contextual)).setCell (.inl (by simp)) _ _
 have st:Step (fun c=>c=.wa\/c=.desk) w.heap.size col (a2Z col v'.ownBlock.toList .wa) w (w1.setCell ⟨d,4,none⟩ v'):=by
  refine a3l k2 (fun x hx=>?_) (fun x hx e=>?_)
  ·rcases List.mem_cons.1 hx with rfl|hx
   ·exact .inl ⟨_,h.dc,.inr rfl⟩
   ·exact .inl ⟨_,hv x (Option.mem_toList.1 hx),.inl rfl⟩
  ·rcases hat x (Option.mem_toList.1 hx) with e2|e2
   ·rw[hv x e2] at e;cases e
   ·exact e2
 have hoo:∀ o,o≠4->(w1.setCell ⟨d,4,none⟩ v').cell? ⟨d,o,none⟩=w.cell? ⟨d,o,none⟩:=fun o ho=>(zS _ _ _ _ (by have:=ho;simp)).trans (zo hd1)
 have hff:∀ o,(w1.setCell ⟨d,4,none⟩ v').frozen? ⟨d,o,none⟩=w.frozen? ⟨d,o,none⟩:=fun o=>(zF ..).trans (World.frozen?_of_block hd1)
 obtain⟨v0,c4,_⟩:=h.wa
 have hvd:∀ b,v'.ownBlock=some b->b≠d:=fun b hb e=>by
  subst e;rcases hat b hb with e|e
  ·exact hdv (Option.mem_toList.2 e)
  ·omega
 refine⟨_,⟨(hoo 0 (by omega)).trans h.c0,(hoo 1 (by omega)).trans h.c1,h.mtC st (hoo 2 (by omega)) (by simp),h.meC st (hoo 3 (by omega)) (by simp),⟨v',World.cell?_setCell_same _ _ _ ((zo (w:=w) hd1).trans c4),a1i ho (Off.set0 d _ 4 _) (fun b hb=>by simpa using hvd b hb),fun b hb=>?_⟩,h.heC st (hoo 5 (by omega)) ((hff 5).trans (h.fz 5)) (by simp),fun i hi=>h.thS st i hi (by simp),h.enS st (by simp) (by simp),h.nd,h.ni,fun o=>(hff o).trans (h.fz o),st.a9i d _ h.dc,fun x c hk=>?_⟩,st⟩
 ·refine a5z (Option.mem_toList.2 hb) (fun c' hc=>?_);rcases hat b hb with e|e
  ·rw[hv b e] at hc;cases hc;rfl
  ·have:=h.lt b _ hc;omega
 ·rcases a1I hk with h1|⟨h1,h2,h3⟩
  ·exact zL (h.lt x c h1) st.size
  ·have:=ho.lt x (Option.mem_toList.1 h2)
   simpa using this.2
def a1R(id kind a0Z:Int)(eg:List EG):List EG:=eg.map fun g=>if g.e.id=id then { g with e:={ g.e with kind:=kind,a0Z:=a0Z } } else g
theorem c2o(id kind a0Z:Int)(eg:List EG):(a1R id kind a0Z eg).map (·.eb)=eg.map (·.eb):=by
 unfold a1R;rw[List.map_map];apply List.map_congr_left;intro g _;simp only[Function.comp];split <;> rfl
theorem c2n(id kind a0Z:Int)(eg:List EG):(a1R id kind a0Z eg).map (·.e.id)=eg.map (·.e.id):=by
 unfold a1R;rw[List.map_map];apply List.map_congr_left;intro g _;simp only[Function.comp];split <;> rfl
theorem b5Z(id kind a0Z:Int)(eg:List EG)(x:Int):a6U (a1R id kind a0Z eg) x=a6U eg x:=by
 have e:(a1R id kind a0Z eg).map (fun g=>(g.e.id,g.eb))=eg.map fun g=>(g.e.id,g.eb):=by
  unfold a1R;rw[List.map_map];apply List.map_congr_left;intro g _;simp only[Function.comp];split <;> rfl
 unfold a6U;rw[e]
theorem b9y(id kind a0Z:Int)(eg:List EG):(a1R id kind a0Z eg).length=eg.length:=by unfold a1R;simp
theorem a0W{α β:Type}(f:α->β):∀ {l:List α},(l.map f).Nodup->∀ {x y:α},x∈l->y∈l->f x=f y->x=y
 |[],_,_,_,hx,_,_=>by simp at hx
 |a :: l,h,x,y,hx,hy,e=>by
  rw[List.map_cons,List.nodup_cons] at h;rcases List.mem_cons.1 hx with e1|h1 <;> rcases List.mem_cons.1 hy with e2|h2
  ·rw[e1,e2]
  ·exact absurd (List.mem_map.2 ⟨y,h2,by rw[<- e,e1]⟩) h.1
  ·exact absurd (List.mem_map.2 ⟨x,h1,by rw[e,e2]⟩) h.1
  ·exact a0W f h.2 h1 h2 e
theorem DK.setEnt{r:Raw}{col:Nat->Option Col}(h:DK w d r col){g:EG}(hg:g∈r.eg)(kind a0Z:Int):
  DK ((w.setCell ⟨g.eb,1,none⟩ (.int .i64 kind)).setCell ⟨g.eb,5,none⟩ (.int .i64 a0Z)) d { r with eg:=a1R g.e.id kind a0Z r.eg } col/\Step (·=.ent) w.heap.size col col w ((w.setCell ⟨g.eb,1,none⟩ (.int .i64 kind)).setCell ⟨g.eb,5,none⟩ (.int .i64 a0Z)):=by
 obtain⟨g1,g2,g3⟩:=h.en g hg;have k:Off [g.eb] w ((w.setCell ⟨g.eb,1,none⟩ (.int .i64 kind)).setCell ⟨g.eb,5,none⟩ (.int .i64 a0Z)):=((Off.refl [g.eb] w).setCell (.inl (by simp)) _ _).setCell (.inl (by simp)) _ _;have st:Step (·=.ent) w.heap.size col col w ((w.setCell ⟨g.eb,1,none⟩ (.int .i64 kind)).setCell ⟨g.eb,5,none⟩ (.int .i64 a0Z)):=⟨⟨_,k,fun x hx=>.inl ⟨_,by simp at hx;subst hx;exact g2,rfl⟩⟩,fun _ _ h=>h,fun _ _ h=>.inl h⟩;obtain⟨b1,b2,b3,b4,b5⟩:=h.base st (by simp);refine⟨⟨b1,b2,h.mtC st (b5 2) (by simp),?_,h.waC st (b5 4) (by simp),h.heC st (b5 5) (b3 5) (by simp),fun i hi=>h.thS st i hi (by simp),?_,by rw[c2o];exact h.nd,by rw[c2n];exact h.ni,b3,b4,fun x c hx=>zL (h.lt x c hx) st.size⟩,st⟩
 ·obtain⟨m,f,a1,a2,a3,a4⟩:=h.meC st (b5 3) (by simp);exact⟨m,f,a1,a2,by rw[b9y];exact a3,fun id=>by rw[a4,b5Z]⟩
 ·intro x hx;obtain⟨y,hy,rfl⟩:=List.mem_map.1 hx;obtain⟨y1,y2,y3⟩:=h.en y hy
  by_cases e:y.e.id=g.e.id
  ·have:y=g:=a0W _ h.ni hy hg e;subst this;rw[if_pos rfl];have hB:y.B≠y.eb:=fun e=>by rw[e,y2] at y3;cases y3
   refine⟨⟨⟨?_,?_,?_,?_,y1.en.sl.off k (by simpa using hB),Nat.lt_of_lt_of_le y1.en.lt k.size⟩,?_,?_,fun o=>?_,?_⟩,y2,y3⟩
   ·exact (zS _ _ _ _ (by simp)).trans ((zS _ _ _ _ (by simp)).trans y1.en.c0)
   ·exact (zS _ _ _ _ (by simp)).trans ((zS _ _ _ _ (by simp)).trans y1.en.c1)
   ·exact (zS _ _ _ _ (by simp)).trans ((zS _ _ _ _ (by simp)).trans y1.en.c2)
   ·exact (zS _ _ _ _ (by simp)).trans ((zS _ _ _ _ (by simp)).trans y1.en.c3)
   ·exact (zS _ _ _ _ (by simp)).trans (zm _ _ _ y1.k)
   ·exact zm _ _ _ ((zS _ _ _ _ (by simp)).trans y1.u)
   ·exact (zF ..).trans ((zF ..).trans (y1.fz o))
   ·obtain⟨cs,e⟩:=y1.bl;exact⟨_,heap_setCell_same _ _ _ _ _ _ (heap_setCell_same _ _ _ _ _ _ e)⟩
  ·rw[if_neg e];have hne:y.eb≠g.eb:=fun e2=>e (by rw[a0W _ h.nd hy hg e2])
   have hB:y.B≠g.eb:=fun e=>by rw[e,g2] at y3;cases y3
   exact⟨y1.off k (by simpa using hne) (by simpa using hB),y2,y3⟩
def a1F(id:Int)(eg:List EG):List EG:=eg.filter fun g=>g.e.id != id
theorem a1V{eg:List EG}:a6U eg id=((eg.find? fun g=>decide (g.e.id=id)).map (·.eb)):=by
 unfold a6U;rw[List.find?_map]
 cases h:eg.find? ((fun p=>decide (p.1=id)) ∘ fun g=>(g.e.id,g.eb)) with
 |none=>have h':eg.find? (fun g=>decide (g.e.id=id))=none:=h;rw[h'];rfl
 |some g=>have h':eg.find? (fun g=>decide (g.e.id=id))=some g:=h;rw[h'];rfl
theorem b3E{eg:List EG}(hn:(eg.map (·.e.id)).Nodup){g:EG}(hg:g∈eg):a6U eg g.e.id=some g.eb:=by
 rw[a1V]
 cases h:eg.find? fun x=>decide (x.e.id=g.e.id) with
 |none =>
  have:=List.find?_eq_none.1 h g hg;simp at this
 |some x =>
  have h1:=List.mem_of_find?_eq_some h;have h2:=List.find?_some h;have:x=g:=a0W _ hn h1 hg (by simpa using h2);rw[this];rfl
theorem a9D{eg:List EG}(h:∀ g∈eg,g.e.id≠id):a6U eg id=none:=by
 rw[a1V];have:eg.find? (fun g=>decide (g.e.id=id))=none:=List.find?_eq_none.2 (fun g hg=>by simpa using h g hg);rw[this];rfl
theorem b2b{eg:List EG}{b:Nat}(h:a6U eg id=some b):∃ g∈eg,g.e.id=id/\g.eb=b:=by
 rw[a1V] at h
 cases e:eg.find? fun x=>decide (x.e.id=id) with
 |none=>rw[e] at h;cases h
 |some x =>
  rw[e] at h;refine⟨x,List.mem_of_find?_eq_some e,by simpa using List.find?_some e,by simpa using h⟩
theorem b7d{eg:List EG}(h:a6U eg id=none):∀ g∈eg,g.e.id≠id:=by
 rw[a1V] at h;intro g hg e
 cases e2:eg.find? fun x=>decide (x.e.id=id) with
 |none =>
  have:=List.find?_eq_none.1 e2 g hg;simp[e] at this
 |some x=>rw[e2] at h;cases h
theorem b6N{eg:List EG}(hn:(eg.map (·.e.id)).Nodup)(id x:Int):a6U (a1F id eg) x=if x=id then none else a6U eg x:=by
 by_cases e:x=id
 ·subst e;rw[if_pos rfl];exact a9D (fun g hg=>by simpa using (List.mem_filter.1 hg).2)
 ·rw[if_neg e]
  cases h:a6U eg x with
  |none=>exact a9D (fun g hg=>b7d h g ((List.mem_filter.1 hg).1))
  |some b =>
   obtain⟨g,hg,e1,e2⟩:=b2b h;have hn':((a1F id eg).map (·.e.id)).Nodup:=List.Sublist.nodup (List.filter_sublist.map _) hn;have hk:g∈a1F id eg:=List.mem_filter.2 ⟨hg,by simpa[e1] using e⟩;rw[<- e1,b3E hn' hk,e2]
theorem c0A{eg:List EG}(hn:(eg.map (·.e.id)).Nodup)(id:Int):(a1F id eg).length=eg.length-if (a6U eg id).isSome then 1 else 0:=by
 induction eg with
 |nil=>simp[a1F]
 |cons g eg ih =>
  rw[List.map_cons,List.nodup_cons] at hn;have ih:=ih hn.2
  by_cases e:g.e.id=id
  ·have h0:∀ x∈eg,x.e.id≠id:=fun x hx e2=>hn.1 (List.mem_map.2 ⟨x,hx,by rw[e,e2]⟩)
   have e1:a1F id (g :: eg)=eg:=by
    unfold a1F;rw[List.filter_cons,if_neg (by simp[e])];exact List.filter_eq_self.2 (fun x hx=>by simpa using h0 x hx)
   have e2:(a6U (g :: eg) id).isSome=true:=by rw[a1V,List.find?_cons];simp[e]
   rw[e1,e2];simp
  ·have e1:a1F id (g :: eg)=g :: a1F id eg:=by unfold a1F;rw[List.filter_cons,if_pos (by simpa using e)]
   have e2:a6U (g :: eg) id=a6U eg id:=by rw[a1V,a1V,List.find?_cons];simp[e]
   rw[e1,e2,List.length_cons,List.length_cons,ih]
   have:(if (a6U eg id).isSome then 1 else 0)<=eg.length:=by
    split
    ·rename_i h
     cases eg with
     |nil=>rw[a1V] at h;simp at h
     |cons _ _=>simp
    ·omega
   omega
theorem DK.delE{r:Raw}{col:Nat->Option Col}(h:DK w d r col){m:Nat}{f:Lit->Option Nat}(hc:w.cell? ⟨d,3,none⟩=some (.map (some m)))(hm:col m=some .me)(hf:∀ id,f (b1K id)=a6U r.eg id)(id:Int)(p:a4N Tryz.prog 3 w' m r.eg.length (Go.Proofs.YtfigmlfdnickmaaGreatDoor.upd f (b1K id) none) (r.eg.length-if (f (b1K id)).isSome then 1 else 0))(hg:w.grownBy w' (some m)):
  DK w' d { r with eg:=a1F id r.eg } col/\Step (·=.me) w.heap.size col col w w':=by
 have k:Off [m] w w':=⟨hg.os,hg.tape,hg.output,hg.size,fun i hi hn=>hg.block i hi (by simpa using hn)⟩;have st:Step (·=.me) w.heap.size col col w w':=⟨⟨_,k,fun x hx=>.inl ⟨_,by simp at hx;subst hx;exact hm,rfl⟩⟩,fun _ _ h=>h,fun _ _ h=>.inl h⟩;obtain⟨b1,b2,b3,b4,b5⟩:=h.base st (by simp);refine⟨⟨b1,b2,h.mtC st (b5 2) (by simp),⟨m,upd f (b1K id) none,(b5 3).trans hc,hm,?_,fun x=>?_⟩,h.waC st (b5 4) (by simp),h.heC st (b5 5) (b3 5) (by simp),fun i hi=>h.thS st i hi (by simp),fun g hg=>h.enS st (by simp) (by simp) g ((List.mem_filter.1 hg).1),List.Sublist.nodup (List.filter_sublist.map _) h.nd,List.Sublist.nodup (List.filter_sublist.map _) h.ni,b3,b4,fun x c hx=>zL (h.lt x c hx) st.size⟩,st⟩
 ·have e:=c0A h.ni id;rw[hf] at p;show a4N _ _ _ _ (a1F id r.eg).length _ (a1F id r.eg).length;rw[e];exact p.tight
 ·show upd f (b1K id) none (b1K x)=a6U (a1F id r.eg) x;rw[b6N h.ni]
  by_cases e:x=id
  ·rw[e,a4f,if_pos rfl]
  ·rw[a3n f _ (fun e2=>e (b6H e2)),if_neg e,hf]
theorem b5W{eg:List EG}{g:EG}(hno:∀ x∈eg,x.e.id≠g.e.id)(x:Int):a6U (eg++[g]) x=if x=g.e.id then some g.eb else a6U eg x:=by
 by_cases e:x=g.e.id
 ·rw[if_pos e,a1V,List.find?_append];have:eg.find? (fun y=>decide (y.e.id=x))=none:=List.find?_eq_none.2 (fun y hy=>by simpa[e] using hno y hy);rw[this];simp[e]
 ·rw[if_neg e,a1V,a1V,List.find?_append]
  cases h:eg.find? fun y=>decide (y.e.id=x) with
  |none=>simp[Ne.symm e]
  |some y=>simp
theorem a3r{tg:List TG}:b2r tg name=((tg.find? fun t=>Desk.a0y t.name name).map (·.tb)):=by
 unfold b2r;rw[List.find?_map]
 cases h:tg.find? ((fun p=>Desk.a0y p.1 name) ∘ fun t=>(t.name,t.tb)) with
 |none=>have h':tg.find? (fun t=>Desk.a0y t.name name)=none:=h;rw[h'];rfl
 |some g=>have h':tg.find? (fun t=>Desk.a0y t.name name)=some g:=h;rw[h'];rfl
theorem b9k{tg:List TG}{t:TG}(hno:∀ x∈tg,x.name≠t.name)(name:ByteArray):b2r (tg++[t]) name=@ite _ (name=t.name) (Classical.propDecidable _) (some t.tb) (b2r tg name):=by
 by_cases e:name=t.name
 ·rw[if_pos e,a3r,List.find?_append];have:tg.find? (fun y=>Desk.a0y y.name name)=none:=List.find?_eq_none.2 (fun y hy=>by rw[Bool.not_eq_true,a3d,e];exact hno y hy);rw[this];have:Desk.a0y t.name name=true:=a4l.2 e.symm;simp[this]
 ·rw[if_neg e,a3r,a3r,List.find?_append]
  cases h:tg.find? fun y=>Desk.a0y y.name name with
  |none =>
   have:Desk.a0y t.name name=false:=a3d.2 (Ne.symm e);simp[this]
  |some y=>simp
theorem b3L{r:Raw}{col:Nat->Option Col}(h:DK w d r col)(hh:Hp.a6r r.hl)(hl:r.hl.length<=1000)(t n:Int)(hx:∃ x∈r.hl,x.t=t/\x.n=n):
  Calls Tryz.prog 149 #[.pointer (some ⟨d,5,none⟩),.int .i64 t,.int .i64 n] w fun e w'=>e=.returned (.tuple #[])/\∃ (x:Hp.Hi) (l':List Hp.Hi) (col':Nat->Option Col),x.t=t/\x.n=n/\Hp.a6r l'/\r.hl.Perm (x :: l')/\DK w' d { r with hl:=l' } col'/\Step (fun c=>c=.he\/c=.desk) w.heap.size col col' w w':=by
 obtain⟨v,a1,a2⟩:=h.he;refine (c0G d 5 v r.hl t n w a1 hh hl).mono ?_;rintro e w' ⟨rfl,hk⟩;refine⟨rfl,?_⟩;rcases hk with ⟨hk,_⟩|⟨x,l',e1,e2,p,h1,h2⟩
 ·obtain⟨x,hx1,hx2⟩:=hx;exact absurd hx2 (hk x hx1)
 ·obtain⟨col',k1,k2⟩:=h.heap a2 p;exact⟨x,l',col',e1,e2,h1,h2,k1,k2⟩
def b1x(c:Col):Prop:=c=.he\/c=.desk\/c=.ent
def a7R(w:World)(d:Nat)(r:Raw)(col:Nat->Option Col)(g:EG)(w':World):Prop :=
 ∃ (x:Hp.Hi) (l':List Hp.Hi) (col':Nat->Option Col),x.t=g.e.a0Z/\x.n=g.e.id/\Hp.a6r l'/\r.hl.Perm (x :: l')/\DK w' d { r with eg:=a1R g.e.id 1 0 r.eg,hl:=l' } col'/\Step b1x w.heap.size col col' w w'
theorem b0w{r:Raw}{col:Nat->Option Col}(h:DK w d r col)(hh:Hp.a6r r.hl)(hl:r.hl.length<=1000){g:EG}(hg:g∈r.eg)(hx:∃ x∈r.hl,x.t=g.e.a0Z/\x.n=g.e.id):
  Calls Tryz.prog 105 #[.pointer (some ⟨d,0,none⟩),.pointer (some ⟨g.eb,0,none⟩)] w fun e w'=>e=.returned (.tuple #[])/\a7R w d r col g w':=by
 obtain⟨g1,g2,g3⟩:=h.en g hg;have c0:=g1.en.c0;have c5:=g1.u;have DR:=a0b (fun wx (k:Below w.heap.size w wx)=>b3L (h.later k) hh hl g.e.a0Z g.e.id hx);have HG:=a0b (zA hg g2);clear h g3
 go_enter Tryz.func105,Tryz.ntmps105
 go_upto_region 0 with fail
 go_region_held3 (fun w'=>w'.cell? ⟨g.eb,0,none⟩=some (.int .i64 g.e.id)/\w'.cell? ⟨g.eb,5,none⟩=some (.int .i64 g.e.a0Z))
  (first
   |exact⟨c0,c5⟩
   |exact⟨((k5.en g HG.out.1).1).en.c0,((k5.en g HG.out.1).1).u⟩)
  (first
   |(go_at_call 149;refine (DR.out _ (a0q w)).mono ?_;rintro e w4 ⟨rfl,x,l',col1,k1,k2,k3,k4,k5,k6⟩))
 obtain⟨q1,q2,q3⟩:=k5.en g HG.out.1;have d1:=q1.k;have d5:=q1.u;have f1:=q1.fz 1;have f5:=q1.fz 5;have SE:=a0b (k5.setEnt (g:=g) HG.out.1 1 0);have KK:=a0b (zA k1 (zA k2 (zA k3 (zA k4 k6))));clear q1 q2 q3 k1 k2 k3 k4 k5 k6 DR c0 c5
 go_wp2_with fail
 go_end0
 obtain⟨k1,k2,k3,k4,k6⟩:=KK.out;obtain⟨s1,s2⟩:=SE.out;refine⟨rfl,(⟨x,l',col1,k1,k2,k3,k4,s1,?_⟩:a7R _ _ _ _ _ _)⟩;have t1:Step b1x w.heap.size col col1 w w4:=(Step.below (a0q w)).trans (k6.mono (fun c hc=>by unfold b1x;rcases hc with e|e;exact .inl e;exact .inr (.inl e)) (zq _));exact t1.trans (s2.mono (fun c hc=>.inr (.inr hc)) t1.size)
theorem b3r(eb:Nat)(kind:Int)(w:World)(c:w.cell? ⟨eb,1,none⟩=some (.int .i64 kind)):
  Calls Tryz.prog 107 #[.pointer (some ⟨eb,0,none⟩)] w fun e w'=>e=.returned (.bool (kind==1))/\w'=w:=by
 go_enter Tryz.func107,Tryz.ntmps107
 go_wp2_with fail
 go_ret;exact⟨rfl,rfl⟩
theorem c6o:(Tryz.prog.info? 200).map (fun i=>i.size)=some 6:=by kernel_rfl
theorem c7z(w:World)(a b:Nat)(ha:∃ cs,w.heap[a]?=some (.cells cs 200 (0,0)))(hb:∃ cs,w.heap[b]?=some (.cells cs 200 (0,0))):
  (binOp .eql 197 (.pointer (some ⟨b,0,none⟩)) (.pointer (some ⟨a,0,none⟩))).run Tryz.prog w=.ok (.bool (b==a)) w:=by
 obtain⟨j,hj⟩:∃ j,Tryz.prog.info? 200=some j:=by
  cases h:Tryz.prog.info? 200 with
  |none=>have:=c6o;rw[h] at this;cases this
  |some j=>exact⟨j,rfl⟩
 have hs:j.size≠0:=by
  have:=c6o;rw[hj] at this;simp at this;omega
 by_cases e:b=a
 ·subst e;rw[run_eql_ptr_same w _ Tryz.underlying197 hj];simp
 ·obtain⟨ca,ha⟩:=ha;obtain⟨cb,hb⟩:=hb;rw[run_eql_ptr_other w (a:=⟨b,0,none⟩) (b:=⟨a,0,none⟩) Tryz.underlying197 hj hs (by have:=e;simp) hb ha];simp[e]
theorem b8j(A a b:Nat)(w:World)(c:w.cell? ⟨A,0,none⟩=some (.pointer (some ⟨a,0,none⟩)))(ha:∃ cs,w.heap[a]?=some (.cells cs 200 (0,0)))(hb:∃ cs,w.heap[b]?=some (.cells cs 200 (0,0))):
  Calls Tryz.prog 206 #[.pointer (some ⟨b,0,none⟩),.pointer (some ⟨A,0,none⟩)] w fun e w'=>e=.returned (.bool (b==a))/\w'=w:=by
 have he:=c7z w a b ha hb;clear ha hb
 go_enter Tryz.func206,Tryz.ntmps206
 go_wp2_with fail
 go_ret;exact⟨rfl,rfl⟩
end Go.Proofs.YtfigmlfdnickmaaGreatDoor
