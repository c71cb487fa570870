import Derived.Test.YtfigmlfdnickmaaGreatDoorL03
import Derived.Maps.Keyed
import Derived.LaidEqlPtr
import Derived.Lib.SliceRun
import Derived.Laws.Rows
set_option maxRecDepth 100000
set_option maxHeartbeats 8000000
variable{a b name:ByteArray}{e:Go.Proofs.YtfigmlfdnickmaaGreatDoor.Desk.Ent}{given id now' t tq u:Int}{at':Int->Nat}{ts:List (ByteArray × Int)}{L:List (Int × Int)}{es es':List Go.Proofs.YtfigmlfdnickmaaGreatDoor.Desk.Ent}{Gr l:List Int}{F G M:List Nat}{cs xs:List Go.Value}{B B' B0 Q cap d fn i j k n:Nat}{p:Nat->Bool}{s:Go.Proofs.YtfigmlfdnickmaaGreatDoor.Desk.St}{v v' v4:Go.Value}{Z w w' w1 w2 w3 wx:Go.World}
namespace Go.Proofs.YtfigmlfdnickmaaGreatDoor
namespace Desk
theorem a1H.small{now:Int}(h:a1H now e):Small e:=⟨by have:=h.u1;omega,h.u9,by have:=h.sl;omega⟩
structure Mid(s:St):Prop where
 tl:s.ts.length<=4
 tu:∀ t∈s.ts,1<=t.2/\t.2<=9
 tn:s.ts.Pairwise fun t u=>a0y t.1 u.1=false
 ids:Ids s.es
 idb:∀ e∈s.es,1<=e.id/\e.id<=s.given
 g0:0<=s.given
 g1:s.given<=60
 n0:0<=s.now
 n1:s.now<=1048320
 en:∀ e∈s.es,a1H s.now e
 th:∀ e∈s.es,e.a0c<=a0h e.a0k s.ts
 wa:a1Y s.es<=6
 wi:∀ name x,a0o name x s.es<=a0h name s.ts
theorem Inv.mid(h:Inv s):Mid s:=⟨h.tl,h.tu,h.tn,h.ids,h.idb,h.g0,h.g1,h.n0,h.n1,h.en,h.th,h.wa,h.wi⟩
theorem Mid.inv(h:Mid s)(no:∀ e∈s.es,e.kind=3->a1e s.ts s.es e.a0k e.a0c e.a0e=false):Inv s:=⟨h.tl,h.tu,h.tn,h.ids,h.idb,h.g0,h.g1,h.n0,h.n1,h.en,h.th,h.wa,no,h.wi⟩
theorem Mid.small(h:Mid s):∀ e∈s.es,Small e:=fun e he=>(h.en e he).small
theorem Mid.pos(h:Mid s):Pos s.es:=Small.pos h.small
theorem a4P{a b:ByteArray}(h:a0y a b=true):∀ ts:List (ByteArray × Int),a0h a ts=a0h b ts
 |[]=>rfl
 |t :: r=>by simp only[a0h,a8X (c:=t.1) h,a4P h r]
theorem c0a(h:a0y a b=true)(e:Ent):ofB a e=ofB b e:=by unfold ofB;rw[a8X h]
theorem a4R{a b:ByteArray}(h:a0y a b=true)(x:Int):∀ es:List Ent,a0o a x es=a0o b x es
 |[]=>rfl
 |e :: r=>by simp only[a0o,c0a h,a4R h x r]
theorem a4g(h:∀ t∈ts,1<=t.2/\t.2<=9)(name:ByteArray):0<=a0h name ts/\a0h name ts<=9:=by
 induction ts with
 |nil=>simp[a0h]
 |cons t r ih =>
  have i:=ih (fun u hu=>h u (by simp[hu]));have j:=h t (by simp);simp only[a0h]
  split <;> omega
theorem a6v{x:Int}(h:Pos es):0<=a0o name x es:=by
 induction es with
 |nil=>simp[a0o]
 |cons e r ih =>
  have i:=ih (fun z hz=>h z (by simp[hz]));have c:0<=a0r e.a0e x*e.a0c:=Int.mul_nonneg (a4Q e.a0e x).1 (h e (by simp));simp only[a0o]
  split <;> omega
theorem a6w{name:ByteArray}{x:Int}(p:Ent->Bool):∀ {es:List Ent},Pos es->a0o name x (es.filter p)<=a0o name x es
 |[],_=>Int.le_refl _
 |e :: r,h=>by
  have i:=a6w (name:=name) (x:=x) p (es:=r) (fun z hz=>h z (by simp[hz]));have c:0<=a0r e.a0e x*e.a0c:=Int.mul_nonneg (a4Q e.a0e x).1 (h e (by simp));rw[List.filter_cons]
  split
  ·simp only[a0o];omega
  ·simp only[a0o];split <;> omega
theorem a9v(hp:Pos es)(hp':Pos es')(hu:0<=u)(h:∀ x,a0o name x es<=a0o name x es')(k:a1e ts es name u L=false):a1e ts es' name u L=false:=by
 cases c:a1e ts es' name u L
 ·rfl
 ·have:a1e ts es name u L=true:=(a4d hp hu).2 (fun x hx=>by
   have:=(a4d hp' hu).1 c x hx;have:=h x
   omega)
  rw[this] at k;cases k
theorem b0t(name:ByteArray)(x:Int)(l r:List Ent)(e:Ent)(hk:e.kind=3):a0o name x (l++a0Q e :: r)=a0o name x (l++e :: r)+if a0y e.a0k name then a0r e.a0e x*e.a0c else 0:=by
 have o:ofB name e=false:=by simp[ofB,hk]
 rw[a2z,a2z];simp only[a0o,o,a3I,Bool.false_eq_true,if_false];show _+((if a0y e.a0k name=true then a0r e.a0e x*e.a0c else 0)+_)=_;omega
theorem c5e{l r:List Ent}{e':Ent}(h:Ids (l++e :: r))(k:e'.id=e.id):Ids (l++e' :: r):=by
 unfold Ids at *
 simpa[k] using h
theorem a4O(l r:List Ent):a1Y (l++r)=a1Y l+a1Y r:=by
 unfold a1Y;rw[List.filter_append,List.length_append];omega
theorem a7f(e:Ent)(r:List Ent):a1Y (e :: r)=(if e.kind=3 then 1 else 0)+a1Y r:=by
 unfold a1Y;rw[List.filter_cons]
 by_cases c:e.kind=3
 ·rw[if_pos (by simp[c]),if_pos c];simp;omega
 ·rw[if_neg (by simp[c]),if_neg c];omega
theorem a1H.book{now:Int}(h:a1H now e):a1H now (a0Q e):=⟨h.u1,h.u9,h.sl,h.s0,h.sp,h.ri,.inl ⟨rfl,rfl⟩⟩
theorem Mid.grant{l r:List Ent}{now:Int}(h:Mid ⟨ts,l++e :: r,given,now⟩)(hk:e.kind=3)(hf:a1e ts (l++e :: r) e.a0k e.a0c e.a0e=true):Mid ⟨ts,l++a0Q e :: r,given,now⟩:=by
 have he:e∈l++e :: r:=by simp
 have mem:∀ z∈l++a0Q e :: r,z=a0Q e\/z∈l++e :: r:=by
  intro z hz;simp only[List.mem_append,List.mem_cons] at hz ⊢;rcases hz with hz|hz|hz
  ·exact .inr (.inl hz)
  ·exact .inl hz
  ·exact .inr (.inr (.inr hz))
 have u1:=(h.en e he).u1;refine⟨h.tl,h.tu,h.tn,c5e h.ids rfl,fun z hz=>?_,h.g0,h.g1,h.n0,h.n1,fun z hz=>?_,fun z hz=>?_,?_,fun name x=>?_⟩
 ·rcases mem z hz with rfl|hz
  ·exact h.idb e he
  ·exact h.idb z hz
 ·rcases mem z hz with rfl|hz
  ·exact (h.en e he).book
  ·exact h.en z hz
 ·rcases mem z hz with rfl|hz
  ·exact h.th e he
  ·exact h.th z hz
 ·have:=h.wa;show a1Y (l++a0Q e :: r)<=6;have this:a1Y (l++e :: r)<=6:=this;rw[a4O,a7f] at this ⊢;have e1:(a0Q e).kind=1:=rfl;rw[if_neg (by rw[e1];omega)];rw[if_pos hk] at this;omega
 ·show a0o name x (l++a0Q e :: r)<=a0h name ts;rw[b0t name x l r e hk];have w:a0o name x (l++e :: r)<=a0h name ts:=h.wi name x
  split
  ·rename_i c
   by_cases t:0<a0r e.a0e x
   ·have:=(a4d h.pos (by omega)).1 hf x t;rw[a4R c x,a4P c ts] at this;exact this
   ·have b:=(a4Q e.a0e x).1;have:a0r e.a0e x=0:=by omega
    rw[this];simpa using w
  ·omega
theorem a7I(ts:List (ByteArray × Int))(given now:Int):∀ (r done:List Ent),Mid ⟨ts,done++r,given,now⟩->(∀ e∈done,e.kind=3->a1e ts (done++r) e.a0k e.a0c e.a0e=false) ->
  Inv ⟨ts,(a0O ts done r).1,given,now⟩
 |[],done,h,no=>by
  simp only[a0O];rw[List.append_nil] at h no;exact h.inv no
 |e :: r,done,h,no=>by
  simp only[a0O]
  by_cases c:e.kind=3/\a1e ts (done++e :: r) e.a0k e.a0c e.a0e=true
  ·rw[if_pos c];have h':=h.grant c.1 c.2;refine a7I ts given now r (done++[a0Q e]) (by simpa using h') (fun z hz hk=>?_);rcases List.mem_append.1 hz with hz|hz
   ·have hze:z∈done++e :: r:=by simp[hz]
    refine a9v (es:=done++e :: r) h.pos (by simpa using h'.pos) (by have:=(h.en z hze).u1;omega) (fun x=>?_) (no z hz hk);rw[show done++[a0Q e]++r=done++a0Q e :: r from by simp,b0t _ x done r e c.1];have:=Int.mul_nonneg (a4Q e.a0e x).1 (show 0<=e.a0c by have:=(h.en e (by simp)).u1;omega)
    split <;> omega
   ·have:z=a0Q e:=by simpa using hz
    rw[this] at hk;exact absurd hk (by show ¬ (1:Int)=3;omega)
  ·rw[if_neg c];refine a7I ts given now r (done++[e]) (by simpa using h) (fun z hz hk=>?_);rw[show done++[e]++r=done++e :: r from by simp];rcases List.mem_append.1 hz with hz|hz
   ·exact no z hz hk
   ·have:z=e:=by simpa using hz
    subst this
    cases hf:a1e ts (done++z :: r) z.a0k z.a0c z.a0e
    ·rfl
    ·exact absurd ⟨hk,hf⟩ c
theorem a9t{now:Int}(h:Mid ⟨ts,es,given,now⟩):Inv ⟨ts,(a0R ts es).1,given,now⟩ :=
 a7I ts given now es [] (by simpa using h) (by simp)
theorem b0Q(ts:List (ByteArray × Int)):∀ (r done:List Ent),(∀ e∈r,e.kind=3->a1e ts (done++r) e.a0k e.a0c e.a0e=false)->a0O ts done r=(done++r,[])
 |[],done,_=>by simp[a0O]
 |e :: r,done,h=>by
  simp only[a0O];rw[if_neg]
  ·rw[b0Q ts r (done++[e]) (fun z hz hk=>by rw[show done++[e]++r=done++e :: r from by simp];exact h z (by simp[hz]) hk)];simp
  ·rintro ⟨c1,c2⟩;rw[h e (by simp) c1] at c2;cases c2
theorem a9s(h:Inv s):a0R s.ts s.es=(s.es,[]):=by
 unfold a0R;rw[b0Q s.ts s.es [] (by simpa using h.no)];simp
theorem a5C(tq:Int):∀ es:List Ent,a3D tq es<=tq/\(∀ e∈es,e.kind≠1->a3D tq es<=e.a0Z)/\(a3D tq es=tq\/∃ e∈es,e.kind≠1/\e.a0Z=a3D tq es)
 |[]=>⟨Int.le_refl _,by simp,.inl rfl⟩
 |e :: r=>by
  obtain⟨h1,h2,h3⟩:=a5C tq r;simp only[a3D]
  split
  ·rename_i c
   refine⟨by omega,fun z hz hk=>?_,.inr ⟨e,by simp,c.1,rfl⟩⟩;rcases List.mem_cons.1 hz with rfl|hz
   ·omega
   ·have:=h2 z hz hk;omega
  ·rename_i c
   refine⟨h1,fun z hz hk=>?_,?_⟩
   ·rcases List.mem_cons.1 hz with rfl|hz
    ·apply Classical.byContradiction;intro d;exact c ⟨hk,by omega⟩
    ·exact h2 z hz hk
   ·rcases h3 with h3|⟨z,hz,k⟩
    ·exact .inl h3
    ·exact .inr ⟨z,by simp[hz],k⟩
theorem b2w(p:Ent->Bool)(l:List Ent):a1Y (l.filter p)<=a1Y l:=by
 unfold a1Y;have:=((List.filter_sublist (p:=p) (l:=l)).filter (fun e=>e.kind==3)).length_le;omega
theorem Mid.filter{now:Int}(h:Mid ⟨ts,es,given,now⟩)(p:Ent->Bool)(hn:now<=now')(hn':now'<=1048320)(hp:∀ e∈es,p e=true->e.kind≠1->now'<e.a0Z):Mid ⟨ts,es.filter p,given,now'⟩:=by
 have n0:0<=now:=h.n0;have sub:∀ z∈es.filter p,z∈es:=fun z hz=>(List.mem_filter.1 hz).1
 refine⟨h.tl,h.tu,h.tn,a5J p h.ids,fun z hz=>h.idb z (sub z hz),h.g0,h.g1,by show 0<=now';omega,hn',fun z hz=>?_,fun z hz=>h.th z (sub z hz),?_,fun name x=>?_⟩
 ·have k:=h.en z (sub z hz);refine⟨k.u1,k.u9,k.sl,k.s0,k.sp,k.ri,?_⟩;rcases k.kd with kd|⟨kd,k2,k3,k4⟩
  ·exact .inl kd
  ·exact .inr ⟨kd,hp z (sub z hz) (List.mem_filter.1 hz).2 (by omega),k3,k4⟩
 ·have:=h.wa;have this:a1Y es<=6:=this;have:=b2w p es;show a1Y (es.filter p)<=6;omega
 ·have a:=a6w (name:=name) (x:=x) p h.pos;have b:=h.wi name x;show a0o name x (es.filter p)<=a0h name ts;have a:a0o name x (es.filter p)<=a0o name x es:=a;have b:a0o name x es<=a0h name ts:=b;omega
theorem a6g(ts:List (ByteArray × Int)):∀ (r done:List Ent),(a0O ts done r).1.length=done.length+r.length
 |[],done=>by simp[a0O]
 |e :: r,done=>by
  simp only[a0O]
  split
  ·show (a0O ts (done++[a0Q e]) r).1.length=_;rw[a6g ts r];simp;omega
  ·rw[a6g ts r];simp;omega
theorem a7H(ts:List (ByteArray × Int))(es:List Ent):(a0R ts es).1.length=es.length:=by unfold a0R;rw[a6g];simp
theorem b2A(ts:List (ByteArray × Int))(given tq:Int)(ht:tq<=1048320):∀ (k:Nat)(es:List Ent)(now:Int),es.length<k\/now=tq->now<=tq->Inv ⟨ts,es,given,now⟩->Inv ⟨ts,(a1K ts k es now tq).1,given,tq⟩
 |0,es,now,hk,hle,h=>by
  have:now=tq:=by omega
  subst this
  simpa[a1K] using h
 |k+1,es,now,hk,hle,h=>by
  simp only[a1K]
  by_cases c:now<tq
  ·rw[if_pos c];obtain⟨n1,n2,n3⟩:=a5C tq es
   have nn:now<a3D tq es:=by
    rcases n3 with e|⟨z,hz,zk,e⟩
    ·omega
    ·rcases (h.en z hz).kd with kd|⟨_,k2,_⟩
     ·exact absurd kd.1 zk
     ·have k2:now<z.a0Z:=k2;omega
   have hm:=h.mid.filter (now':=a3D tq es) (fun e=>!a0z (a3D tq es) e) (by omega) (by omega) (fun e he hp hk1=>by
    have:=n2 e he hk1;have hp:(!a0z (a3D tq es) e)=true:=hp;simp[a0z] at hp;rcases hp with e1|e1
    ·exact absurd e1 hk1
    ·omega)
   have hi:=a9t hm;refine b2A ts given tq ht k _ _ ?_ n1 hi
   by_cases e:a3D tq es=tq
   ·exact .inr e
   ·left;rcases n3 with e' |⟨z,hz,zk,e'⟩
    ·exact absurd e' e
    ·rw[a7H]
     have:(es.filter fun e=>!a0z (a3D tq es) e).length<es.length:=by
      rw[<- List.countP_eq_length_filter]
      have hnot:¬ List.countP (fun e=>!a0z (a3D tq es) e) es=es.length:=by
       rw[List.countP_eq_length];intro hall;have:=hall z hz;simp[a0z,e'] at this;exact zk this
      have:=List.countP_le_length (p:=fun e=>!a0z (a3D tq es) e) (l:=es);omega
     omega
  ·rw[if_neg c];have:now=tq:=by omega
   subst this;exact h
theorem a5X(name:ByteArray)(t:ByteArray × Int):∀ ts:List (ByteArray × Int),a0h name (ts++[t])=if (ts.any fun u=>a0y u.1 name)=true then a0h name ts else if a0y t.1 name then t.2 else 0
 |[]=>by simp[a0h]
 |u :: r=>by
  have ih:=a5X name t r;have e1:a0h name (u :: r++[t])=if a0y u.1 name then u.2 else a0h name (r++[t]):=rfl
  have e2:a0h name (u :: r)=if a0y u.1 name then u.2 else a0h name r:=rfl
  rw[e1,e2]
  by_cases h:a0y u.1 name=true
  ·have:((u :: r).any fun u=>a0y u.1 name)=true:=List.any_eq_true.2 ⟨u,by simp,h⟩;rw[if_pos h,if_pos h,if_pos this]
  ·rw[if_neg h,if_neg h,ih]
   by_cases c:(r.any fun u=>a0y u.1 name)=true
   ·have:((u :: r).any fun u=>a0y u.1 name)=true:=by
     obtain⟨z,hz,k⟩:=List.any_eq_true.1 c;exact List.any_eq_true.2 ⟨z,by simp[hz],k⟩
    rw[if_pos c,if_pos this]
   ·have:¬ ((u :: r).any fun u=>a0y u.1 name)=true:=by
     intro k0;obtain⟨z,hz,k⟩:=List.any_eq_true.1 k0;rcases List.mem_cons.1 hz with e|hz
     ·rw[e] at k;exact h k
     ·exact c (List.any_eq_true.2 ⟨z,hz,k⟩)
    rw[if_neg c,if_neg this]
theorem a3o{name:ByteArray}:∀ {ts:List (ByteArray × Int)},(∀ t∈ts,1<=t.2/\t.2<=9)->(a0h name ts=0↔∀ t∈ts,a0y t.1 name=false)
 |[],_=>by simp[a0h]
 |u :: r,h=>by
  have i:=a3o (name:=name) (ts:=r) (fun t ht=>h t (by simp[ht]));have j:=h u (by simp);simp only[a0h,List.forall_mem_cons]
  cases c:a0y u.1 name
  ·simp only[Bool.false_eq_true,if_false,true_and];exact i
  ·simp only[if_true];constructor
   ·intro e;omega
   ·rintro ⟨e,_⟩;cases e
theorem a8F{t:ByteArray × Int}(h:∀ t∈ts,1<=t.2/\t.2<=9)(hn:a0h name ts≠0):a0h name (ts++[t])=a0h name ts:=by
 rw[a5X,if_pos]
 cases c:ts.any fun u=>a0y u.1 name
 ·exfalso;apply hn;rw[a3o h];intro u hu
  cases d:a0y u.1 name
  ·rfl
  ·have:ts.any (fun u=>a0y u.1 name)=true:=List.any_eq_true.2 ⟨u,hu,d⟩;rw[this] at c;cases c
 ·rfl
theorem Inv.a0k(h:Inv s)(hu:1<=u/\u<=9)(hn:a0h name s.ts=0)(hl:s.ts.length≠4):Inv { s with ts:=s.ts++[(name,u)] }:=by
 have hno:=(a3o h.tu).1 hn;have un:∀ m,a0h m s.ts≠0->a0h m (s.ts++[(name,u)])=a0h m s.ts:=fun m hm=>a8F h.tu hm
 have pos:∀ e∈s.es,a0h e.a0k s.ts≠0:=fun e he=>by
  have:=h.th e he;have:=(h.en e he).u1;omega
 have tl:=h.tl;refine⟨?_,fun t ht=>?_,?_,h.ids,h.idb,h.g0,h.g1,h.n0,h.n1,h.en,fun e he=>?_,h.wa,fun e he hk=>?_,fun m x=>?_⟩
 ·show (s.ts++[(name,u)]).length<=4;simp;omega
 ·rcases List.mem_append.1 ht with ht|ht
  ·exact h.tu t ht
  ·have:t=(name,u):=by simpa using ht
   subst this;exact hu
 ·show (s.ts++[(name,u)]).Pairwise _;rw[List.pairwise_append];refine⟨h.tn,by simp,fun a ha b hb=>?_⟩;have:b=(name,u):=by simpa using hb
  subst this;exact hno a ha
 ·show e.a0c<=a0h e.a0k (s.ts++[(name,u)]);rw[un _ (pos e he)];exact h.th e he
 ·have:=h.no e he hk;show a1e (s.ts++[(name,u)]) s.es e.a0k e.a0c e.a0e=false;unfold a1e at this ⊢;rw[un _ (pos e he)];exact this
 ·show a0o m x s.es<=a0h m (s.ts++[(name,u)])
  by_cases c:a0h m s.ts=0
  ·have w:=h.wi m x;have b:=a6v (name:=m) (x:=x) h.mid.pos
   have:0<=a0h m (s.ts++[(name,u)]):=by
    rw[a5X]
    split
    ·omega
    ·split <;> simp <;> omega
   omega
  ·rw[un m c];exact h.wi m x
theorem Inv.join(h:Inv s)(hg:s.given≠60)(he:a1H s.now e)(ht:e.a0c<=a0h e.a0k s.ts)(hw:e.kind=3->a1Y s.es≠6)(hf:e.kind≠3->a1e s.ts s.es e.a0k e.a0c e.a0e=true):Mid (a2t s e).1:=by
 have g0:=h.g0;have g1:=h.g1;have idb:=h.idb;have wa:=h.wa;have he':a1H s.now { e with id:=s.given+1 }:=⟨he.u1,he.u9,he.sl,he.s0,he.sp,he.ri,he.kd⟩
 have mem:∀ z∈s.es++[{ e with id:=s.given+1 }],z∈s.es\/z={ e with id:=s.given+1 }:=by
  intro z hz;rcases List.mem_append.1 hz with hz|hz
  ·exact .inl hz
  ·exact .inr (by simpa using hz)
 unfold a2t;refine⟨h.tl,h.tu,h.tn,?_,fun z hz=>?_,by show 0<=s.given+1;omega,by show s.given+1<=60;omega,h.n0,h.n1,fun z hz=>?_,fun z hz=>?_,?_,fun name x=>?_⟩
 ·show Ids (s.es++[{ e with id:=s.given+1 }]);unfold Ids;rw[List.map_append,List.pairwise_append];refine⟨h.ids,by simp,fun a ha b hb=>?_⟩;obtain⟨z,hz,rfl⟩:=List.mem_map.1 ha;have:b=s.given+1:=by simpa using hb
  have:=idb z hz;omega
 ·rcases mem z hz with hz|rfl
  ·have:=idb z hz;show 1<=z.id/\z.id<=s.given+1;omega
  ·show 1<=s.given+1/\s.given+1<=s.given+1;omega
 ·rcases mem z hz with hz|rfl
  ·exact h.en z hz
  ·exact he'
 ·rcases mem z hz with hz|rfl
  ·exact h.th z hz
  ·exact ht
 ·show a1Y (s.es++[{ e with id:=s.given+1 }])<=6;rw[a4O,a7f];have e0:a1Y ([]:List Ent)=0:=by simp[a1Y]
  rw[e0];show a1Y s.es+((if e.kind=3 then 1 else 0)+0)<=6
  by_cases c:e.kind=3
  ·rw[if_pos c];have:=hw c;omega
  ·rw[if_neg c];omega
 ·show a0o name x (s.es++[{ e with id:=s.given+1 }])<=a0h name s.ts;rw[a2z];have w:=h.wi name x;have e1:a0o name x [{ e with id:=s.given+1 }]=(if ofB name e then a0r e.a0e x*e.a0c else 0):=by simp[a0o,ofB]
  rw[e1]
  by_cases c:ofB name e=true
  ·rw[if_pos c];simp[ofB] at c
   by_cases t:0<a0r e.a0e x
   ·have:=(a4d h.mid.pos (by have:=he.u1;omega)).1 (hf c.2) x t;rw[a4R c.1 x,a4P c.1 s.ts] at this;exact this
   ·have b:=(a4Q e.a0e x).1;have:a0r e.a0e x=0:=by omega
    rw[this];simpa using w
  ·rw[if_neg c];omega
theorem a8i(hi:Ids es)(he:e∈es)(hid:e.id=id):∃ l r,es=l++e :: r/\a0C id es=l++a0Q e :: r/\kept id es=l++r:=by
 obtain⟨l,r,rfl⟩:=List.append_of_mem he;refine⟨l,r,rfl,?_,?_⟩
 ·have hne:∀ z∈l++r,z.id≠id:=by
   intro z hz e1;unfold Ids at hi;rw[List.map_append,List.map_cons,List.pairwise_append,List.pairwise_cons] at hi;rcases List.mem_append.1 hz with hz|hz
   ·have:=hi.2.2 z.id (List.mem_map.2 ⟨z,hz,rfl⟩) e.id (by simp);omega
   ·have:=hi.2.1.1 z.id (List.mem_map.2 ⟨z,hz,rfl⟩);omega
  have b1:=a4A (id:=id) (es:=l) (fun z hz=>hne z (by simp[hz]));have b2:=a4A (id:=id) (es:=r) (fun z hz=>hne z (by simp[hz]));unfold a0C at b1 b2 ⊢;rw[List.map_append,List.map_cons,b1,b2,if_pos hid]
 ·have hne:∀ z∈l++r,z.id≠id:=by
   intro z hz e1;unfold Ids at hi;rw[List.map_append,List.map_cons,List.pairwise_append,List.pairwise_cons] at hi;rcases List.mem_append.1 hz with hz|hz
   ·have:=hi.2.2 z.id (List.mem_map.2 ⟨z,hz,rfl⟩) e.id (by simp);omega
   ·have:=hi.2.1.1 z.id (List.mem_map.2 ⟨z,hz,rfl⟩);omega
  have b1:=a9h (id:=id) (es:=l) (fun z hz=>hne z (by simp[hz]));have b2:=a9h (id:=id) (es:=r) (fun z hz=>hne z (by simp[hz]));unfold kept at b1 b2 ⊢;rw[List.filter_append,List.filter_cons,b1,b2,if_neg (by simp[hid])]
theorem b4o(name:ByteArray)(x:Int)(l r:List Ent)(e:Ent)(hk:e.kind≠3):a0o name x (l++a0Q e :: r)=a0o name x (l++e :: r):=by
 have o:ofB name e=a0y e.a0k name:=by
  unfold ofB;have:(e.kind != 3)=true:=by simp[hk]
  rw[this,Bool.and_true]
 rw[a2z,a2z];simp only[a0o,o,a3I];rfl
theorem Inv.confirm(h:Inv s)(he:e∈s.es)(hid:e.id=id)(hk:e.kind=2):Inv { s with es:=a0C id s.es }:=by
 obtain⟨l,r,h1,h2,_⟩:=a8i h.ids he hid;have tk:∀ name x,a0o name x (a0C id s.es)=a0o name x s.es:=fun name x=>by rw[h2,h1];exact b4o name x l r e (by omega)
 have mem:∀ z∈a0C id s.es,z=a0Q e\/z∈s.es:=by
  intro z hz;rcases a2b.1 hz with hz|⟨y,hy,h3,h4⟩
  ·exact .inr hz.1
  ·have:y=e:=h.ids.one hy he (by omega);subst this;exact .inl h4
 have hp':Pos (a0C id s.es):=by
  intro z hz;rcases mem z hz with rfl|hz
  ·exact h.mid.pos e he
  ·exact h.mid.pos z hz
 refine⟨h.tl,h.tu,h.tn,b1e h.ids,fun z hz=>?_,h.g0,h.g1,h.n0,h.n1,fun z hz=>?_,fun z hz=>?_,?_,fun z hz hz3=>?_,fun name x=>?_⟩
 ·rcases mem z hz with rfl|hz
  ·exact h.idb e he
  ·exact h.idb z hz
 ·rcases mem z hz with rfl|hz
  ·exact (h.en e he).book
  ·exact h.en z hz
 ·rcases mem z hz with rfl|hz
  ·exact h.th e he
  ·exact h.th z hz
 ·have:=h.wa;show a1Y (a0C id s.es)<=6;rw[h1] at this;rw[h2];rw[a4O,a7f] at this ⊢;have e1:(a0Q e).kind=1:=rfl;rw[if_neg (by rw[e1];omega)];rw[if_neg (by omega)] at this;exact this
 ·rcases mem z hz with rfl|hz
  ·exact absurd hz3 (by show ¬ (1:Int)=3;omega)
  ·exact a9v h.mid.pos hp' (by have:=(h.en z hz).u1;omega) (fun x=>by rw[tk];omega) (h.no z hz hz3)
 ·show a0o name x (a0C id s.es)<=a0h name s.ts;rw[tk];exact h.wi name x
theorem a5I(h:a5S id es=some e):e∈es/\e.id=id:=by
 unfold a5S at h;exact⟨List.mem_of_find?_eq_some h,by simpa using List.find?_some h⟩
theorem Rd.spans_ok{r:Rd.a0Y}(h:Rd.a6s r)(he:Rd.a6W r=0):c1P (Rd.a2M r (Rd.a0E r))/\a2c (Rd.a2M r (Rd.a0E r))/\Rd.a2M r (Rd.a0E r)≠[]/\(Rd.a2M r (Rd.a0E r)).length<=40:=by
 obtain⟨_,k1,k2,k3⟩:=(Rd.a5K h).2 he;have f0:=h.f0;have m0:=h.m0;have i1:=h.i1;refine⟨fun s hs=>?_,?_,by simpa[Rd.a2M] using k1,by simpa[Rd.a2M] using k2⟩
 ·obtain⟨d,hd,rfl⟩:=List.mem_map.1 hs;have a:=Rd.a4x h hd;have b:=k3 d hd;show 0<=d*1440+r.mn/\d*1440+r.mn<d*1440+r.mn+r.mi/\d*1440+r.mn+r.mi<=1048320;omega
 ·unfold a2c Rd.a2M;rw[List.pairwise_map];refine List.Pairwise.imp ?_ (Rd.b0X h);intro a b hab;show a*1440+r.mn<b*1440+r.mn;omega
theorem b3T(h:a0S ts name u=0):a0h name ts≠0/\u<=a0h name ts:=by
 unfold a0S at h
 split at h
 ·omega
 ·split at h
  ·omega
  ·constructor <;> omega
theorem b7f(h:Inv s){l:a7U}(hl:a1O l):Mid (a0g s l).1:=by
 cases l with
 |a0k name u =>
  simp only[a0g]
  split
  ·exact h.mid
  ·split
   ·exact h.mid
   ·rename_i c1 c2
    exact (h.a0k hl (by simpa using c1) c2).mid
 |enter k name u fr til long =>
  simp only[a0g]
  split
  ·exact h.mid
  ·rename_i c
   simp only[ne_eq,Decidable.not_not] at c;unfold a1M at c
   split at c
   ·omega
   ·rename_i c1
    simp only[ne_eq,Decidable.not_not] at c1
    split at c
    ·omega
    ·rename_i c2
     split at c
     ·omega
     ·rename_i c3
      obtain⟨lk,l1,l2,l3,l4,l5,l6⟩:=hl;obtain⟨a1,a2⟩:=b3T c1;have n0:=h.n0;refine h.join c3 ⟨l1,l2,by simp[a8p],by simp[a8p],fun s hs=>?_,by simp[a8p,a2c],?_⟩ a2 (fun hk=>?_) (fun hk=>?_)
      ·have:s=(fr,til):=by simpa[a8p] using hs
       subst this;show 0<=fr/\fr<til/\til<=1048320;omega
      ·show (k=1/\(if k=1 then 0 else s.now+long)=0)\/((k=2\/k=3)/\s.now<(if k=1 then 0 else s.now+long)/\(if k=1 then 0 else s.now+long)<=1048320/\[(fr,til)].length=1);rcases lk with ⟨lk,_⟩|⟨lk,l7,l8⟩
       ·exact .inl ⟨lk,by rw[if_pos lk]⟩
       ·rw[if_neg (by omega)];exact .inr ⟨lk,by omega,by omega,rfl⟩
      ·have hk:k=3:=hk;rw[if_pos hk] at c
       split at c
       ·omega
       ·assumption
      ·have hk:k≠3:=hk;rw[if_neg hk] at c;show a1e s.ts s.es name u [(fr,til)]=true
       split at c
       ·assumption
       ·omega
 |series name u r =>
  simp only[a0g]
  split
  ·exact h.mid
  ·rename_i c
   simp only[ne_eq,Decidable.not_not] at c;unfold a2l at c
   split at c
   ·omega
   ·rename_i c1
    simp only[ne_eq,Decidable.not_not] at c1
    split at c
    ·omega
    ·rename_i c2
     simp only[ne_eq,Decidable.not_not] at c2
     split at c
     ·omega
     ·rename_i c3
      obtain⟨l1,l2,l3⟩:=hl;obtain⟨a1,a2⟩:=b3T c1;obtain⟨p1,p2,p3,p4⟩:=Rd.spans_ok l3 c2;refine h.join c3 ⟨l1,l2,p4,p3,p1,p2,.inl ⟨rfl,rfl⟩⟩ a2 (fun hk=>?_) (fun _=>?_)
      ·exact absurd hk (by show ¬ (1:Int)=3;omega)
      ·show a1e s.ts s.es name u (Rd.a2M r (Rd.a0E r))=true
       split at c
       ·assumption
       ·omega
 |confirm id =>
  simp only[a0g]
  cases hf:a5S id s.es with
  |none=>exact h.mid
  |some e =>
   simp only
   split
   ·exact h.mid
   ·rename_i c
    obtain⟨f1,f2⟩:=a5I hf;exact (h.confirm f1 f2 (by simpa using c)).mid
 |cancel id =>
  simp only[a0g]
  cases hf:a5S id s.es with
  |none=>exact h.mid
  |some e =>
   exact h.mid.filter (now':=s.now) (fun e=>e.id != id) (Int.le_refl _) h.n1 (fun z hz _ hk=>by
    rcases (h.en z hz).kd with kd|⟨_,k2,_⟩
    ·exact absurd kd.1 hk
    ·exact k2)
 |list name fr til =>
  simp only[a0g]
  split
  ·exact h.mid
  ·split <;> exact h.mid
 |waiting=>exact h.mid
 |peak name fr til =>
  simp only[a0g]
  split
  ·exact h.mid
  ·split <;> exact h.mid
 |find name u long fr til =>
  simp only[a0g]
  split
  ·exact h.mid
  ·split <;> exact h.mid
 |expand r =>
  simp only[a0g]
  split <;> exact h.mid
 |tick n =>
  simp only[a0g]
  split
  ·exact h.mid
  ·rename_i c
   have hl:1<=n/\n<=1048320:=hl;exact (b2A s.ts s.given (s.now+n) (by omega) (s.es.length+1) s.es s.now (.inl (by omega)) (by omega) h).mid
 |clock=>exact h.mid
theorem b7g{l:a7U}(h:(a0g s l).2.err≠0):(a0g s l).1=s:=by
 cases l with
 |a0k name u =>
  simp only[a0g] at h ⊢
  by_cases c1:a0h name s.ts≠0
  ·rw[if_pos c1]
  ·rw[if_neg c1] at h ⊢
   by_cases c2:s.ts.length=4
   ·rw[if_pos c2]
   ·rw[if_neg c2] at h;exact absurd rfl h
 |enter k name u fr til long =>
  simp only[a0g] at h ⊢
  by_cases c:a1M s k name u fr til long≠0
  ·rw[if_pos c]
  ·rw[if_neg c] at h;exact absurd rfl h
 |series name u r =>
  simp only[a0g] at h ⊢
  by_cases c:a2l s name u r≠0
  ·rw[if_pos c]
  ·rw[if_neg c] at h;exact absurd rfl h
 |confirm id =>
  simp only[a0g] at h ⊢
  cases hf:a5S id s.es with
  |none=>rfl
  |some e =>
   rw[hf] at h;simp only at h ⊢
   by_cases c:e.kind≠2
   ·rw[if_pos c]
   ·rw[if_neg c] at h;exact absurd rfl h
 |cancel id =>
  simp only[a0g] at h ⊢
  cases hf:a5S id s.es with
  |none=>rfl
  |some e=>rw[hf] at h;exact absurd rfl h
 |list name fr til =>
  simp only[a0g]
  split
  ·rfl
  ·split <;> rfl
 |waiting=>rfl
 |peak name fr til =>
  simp only[a0g]
  split
  ·rfl
  ·split <;> rfl
 |find name u long fr til =>
  simp only[a0g]
  split
  ·rfl
  ·split <;> rfl
 |expand r =>
  simp only[a0g]
  split <;> rfl
 |tick n =>
  simp only[a0g] at h ⊢
  by_cases c:1048320<s.now+n
  ·rw[if_pos c]
  ·rw[if_neg c] at h;exact absurd rfl h
 |clock=>rfl
theorem c2j(h:Inv s){l:a7U}(hl:a1O l):Inv (a1q s l).1:=by
 unfold a1q
 split
 ·rename_i c
  rw[b7g c];exact h
 ·exact a9t (b7f h hl)
end Desk
open Go.RowKit
theorem c6M(b:ByteArray):∀ (n i:Nat)(r:List UInt8),b.size-i=n->ByteArray.toList.loop b i r=r.reverse++b.data.toList.drop i:=by
 intro n
 induction n with
 |zero =>
  intro i r h;rw[ByteArray.toList.loop,if_neg (by omega),List.drop_eq_nil_of_le (by simp;omega)];simp
 |succ n ih =>
  intro i r h;have hi:i<b.size:=by omega
  rw[ByteArray.toList.loop,if_pos hi,ih (i+1) _ (by omega)];have hl:i<b.data.toList.length:=by simpa using hi
  rw[List.drop_eq_getElem_cons hl];simp[ByteArray.get!,hi]
theorem c4l(b:ByteArray):b.toList=b.data.toList:=by
 unfold ByteArray.toList;rw[c6M b b.size 0 [] (by omega)];simp
theorem a4l:Desk.a0y a b=true↔a=b:=by
 constructor
 ·intro h;have h:=Desk.a8W.1 h;rw[c4l,c4l] at h
  cases a;cases b
  simp at h;rw[h]
 ·rintro rfl;exact Desk.a2u _
theorem a3d:Desk.a0y a b=false↔a≠b:=by
 cases h:Desk.a0y a b
 ·simp;rintro rfl;rw[Desk.a2u] at h;cases h
 ·simp;exact a4l.1 h
def b8f(a:ByteArray):Lit:=.string a.data.toList
def b1K(n:Int):Lit:=.int .i64 n
theorem c2N(h:b8f a=b8f b):a=b:=by
 cases a;cases b
 simp[b8f] at h;rw[h]
theorem b6H{a b:Int}(h:b1K a=b1K b):a=b:=by simpa[b1K] using h
theorem c0z:Maps.Keyed Tryz.prog 9:=Maps.string_keyed Tryz.underlying9
theorem b3h:Maps.Keyed Tryz.prog 3:=Maps.int_keyed Tryz.underlying3
theorem b4Z{s:ByteArray}(h:s.size<=1000):keyOf Tryz.prog 9 (.string s)=some (b8f s):=by
 unfold keyOf mapKey;rw[Tryz.underlying9];simp only;rw[if_pos (by unfold maxLen;omega)];rfl
theorem a9g{n:Int}(h1:-1000000000000<=n)(h2:n<=1000000000000):keyOf Tryz.prog 3 (.int .i64 n)=some (b1K n):=by
 unfold keyOf mapKey;rw[Tryz.underlying3];simp only;have m1:IntKind.i64.min=-9223372036854775808:=rfl;have m2:IntKind.i64.max=9223372036854775807:=rfl;have hw:(Lit.int .i64 n).wf=true:=by simp[Lit.wf,m1,m2];omega
 rw[if_pos ⟨trivial,hw⟩];rfl
inductive Col where
 |desk|mt|me|wa|he|ent|span
 |a0k (i:Nat)
structure TG where
 name:ByteArray
 a0c:Int
 tb:Nat
 A:List Bool->Int
 T:Avl.S
structure EG where
 e:Desk.Ent
 eb:Nat
 B:Nat
 cap:Nat
 tb:Nat
def b2r(tg:List TG)(name:ByteArray):Option Nat:=((tg.map fun t=>(t.name,t.tb)).find? fun p=>Desk.a0y p.1 name).map (·.2)
def a6U(eg:List EG)(id:Int):Option Nat:=((eg.map fun g=>(g.e.id,g.eb)).find? fun p=>decide (p.1=id)).map (·.2)
structure ENK(w:World)(g:EG):Prop where
 en:ENT w g.eb g.e.id g.tb g.e.a0c g.B g.cap g.e.a0e
 k:w.cell? ⟨g.eb,1,none⟩=some (.int .i64 g.e.kind)
 u:w.cell? ⟨g.eb,5,none⟩=some (.int .i64 g.e.a0Z)
 fz:∀ o,w.frozen? ⟨g.eb,o,none⟩=false
 bl:∃ cs,w.heap[g.eb]?=some (.cells cs 200 (0,0))
theorem ENK.lt{g:EG}(h:ENK w g):g.eb<w.heap.size:=World.block_lt_of_cell? _ _ h.k
theorem ENK.off{g:EG}(h:ENK w g)(k:Off G w w')(h1:g.eb ∉ G)(h2:g.B ∉ G):ENK w' g :=
 ⟨h.en.off k h1 h2,k.cell h1 h.k,k.cell h1 h.u,fun o=>(k.frozen h1 h.lt).trans (h.fz o),by obtain⟨cs,e⟩:=h.bl;exact⟨cs,(k.block _ h.lt h1).trans e⟩⟩
def a5x(b:Nat):Value:=.pointer (some ⟨b,0,none⟩)
structure Raw where
 now:Int
 given:Int
 tg:List TG
 eg:List EG
 wl:List Nat
 hl:List Hp.Hi
structure DK(w:World)(d:Nat)(r:Raw)(col:Nat->Option Col):Prop where
 c0:w.cell? ⟨d,0,none⟩=some (.int .i64 r.now)
 c1:w.cell? ⟨d,1,none⟩=some (.int .i64 r.given)
 mt:∃ m f,w.cell? ⟨d,2,none⟩=some (.map (some m))/\col m=some .mt/\a4N Tryz.prog 9 w m r.tg.length f r.tg.length/\∀ name,f (b8f name)=b2r r.tg name
 me:∃ m f,w.cell? ⟨d,3,none⟩=some (.map (some m))/\col m=some .me/\a4N Tryz.prog 3 w m r.eg.length f r.eg.length/\∀ id,f (b1K id)=a6U r.eg id
 wa:∃ v,w.cell? ⟨d,4,none⟩=some v/\w.ownsRow 0 197 1 v r.wl.length (r.wl.map a5x)/\∀ b,v.ownBlock=some b->col b=some .wa
 he:∃ v,HP w d 5 v r.hl/\∀ b,v.ownBlock=some b->col b=some .he
 th:∀ (i:Nat) (h:i<r.tg.length),∃ ul us Fl Fs,TH w r.tg[i].tb r.tg[i].name r.tg[i].a0c r.tg[i].A r.tg[i].T ul us Fl Fs/\∀ k∈r.tg[i].tb :: (Fl++Fs),col k=some (.a0k i)
 en:∀ g∈r.eg,ENK w g/\col g.eb=some .ent/\col g.B=some .span
 nd:(r.eg.map (·.eb)).Nodup
 ni:(r.eg.map (·.e.id)).Nodup
 fz:∀ o,w.frozen? ⟨d,o,none⟩=false
 dc:col d=some .desk
 lt:∀ k c,col k=some c->k<w.heap.size
theorem DK.off{r:Raw}{col:Nat->Option Col}(h:DK w d r col)(k:Off G w w')(hG:∀ x∈G,col x=none):DK w' d r col:=by
 have no:∀ {x:Nat}{c:Col},col x=some c->x ∉ G:=fun hx hg=>by rw[hG _ hg] at hx;cases hx
 have hd:=no h.dc;refine⟨k.cell hd h.c0,k.cell hd h.c1,?_,?_,?_,?_,?_,?_,h.nd,h.ni,fun o=>(k.frozen hd (h.lt d _ h.dc)).trans (h.fz o),h.dc,fun x c hx=>zL (h.lt x c hx) k.size⟩
 ·obtain⟨m,f,a1,a2,a3,a4⟩:=h.mt;exact⟨m,f,k.cell hd a1,a2,a3.block (k.block m (h.lt m _ a2) (no a2)),a4⟩
 ·obtain⟨m,f,a1,a2,a3,a4⟩:=h.me;exact⟨m,f,k.cell hd a1,a2,a3.block (k.block m (h.lt m _ a2) (no a2)),a4⟩
 ·obtain⟨v,a1,a2,a3⟩:=h.wa;exact⟨v,k.cell hd a1,a1i a2 k (fun b hb=>no (a3 b hb)),a3⟩
 ·obtain⟨v,a1,a2⟩:=h.he;exact⟨v,a1.off k hd (fun b hb=>no (a2 b hb)),a2⟩
 ·intro i hi;obtain⟨ul,us,Fl,Fs,a1,a2⟩:=h.th i hi;exact⟨ul,us,Fl,Fs,a1.off k (fun x hx=>no (a2 x hx)),a2⟩
 ·intro g hg;obtain⟨a1,a2,a3⟩:=h.en g hg;exact⟨a1.off k (no a2) (no a3),a2,a3⟩
theorem DK.later{r:Raw}{col:Nat->Option Col}(h:DK w d r col)(k:Below w.heap.size w w'):DK w' d r col:=h.off (G:=[]) (Off.of_below k) (by simp)
structure Step(S:Col->Prop)(B:Nat)(col col':Nat->Option Col)(w w':World):Prop where
 off:∃ G,Off G w w'/\∀ x∈G,(∃ c,col x=some c/\S c)\/(col x=none/\B<=x)
 a9i:∀ k c,col k=some c->col' k=some c
 new:∀ k c,col' k=some c->col k=some c\/B<=k
theorem Step.refl(S:Col->Prop)(B:Nat)(col:Nat->Option Col)(w:World):Step S B col col w w:=⟨⟨[],Off.refl _ _,by simp⟩,fun _ _ h=>h,fun _ _ h=>.inl h⟩
theorem Step.below{S:Col->Prop}{col:Nat->Option Col}(h:Below w.heap.size w w'):Step S B col col w w':=⟨⟨[],Off.of_below h,by simp⟩,fun _ _ h=>h,fun _ _ h=>.inl h⟩
theorem Step.size{S:Col->Prop}{col col':Nat->Option Col}(h:Step S B col col' w w'):w.heap.size<=w'.heap.size:=by obtain⟨G,h1,_⟩:=h.off;exact h1.size
theorem Step.mono{S S':Col->Prop}{col col':Nat->Option Col}(h:Step S B col col' w w')(hs:∀ c,S c->S' c)(hB:B'<=B):Step S' B' col col' w w':=by
 obtain⟨G,h1,h2⟩:=h.off;refine⟨⟨G,h1,fun x hx=>?_⟩,h.a9i,fun k c hk=>(h.new k c hk).imp id (fun e=>by omega)⟩;rcases h2 x hx with ⟨c,a,b⟩|⟨a,b⟩
 ·exact .inl ⟨c,a,hs c b⟩
 ·exact .inr ⟨a,by omega⟩
theorem Step.trans{S:Col->Prop}{c0 c1 c2:Nat->Option Col}{a b c:World}(h:Step S B c0 c1 a b)(k:Step S B c1 c2 b c):Step S B c0 c2 a c:=by
 obtain⟨G,h1,h2⟩:=h.off;obtain⟨K,k1,k2⟩:=k.off;refine⟨⟨G++K,?_,fun x hx=>?_⟩,fun x c hx=>k.a9i x c (h.a9i x c hx),fun x c hx=>?_⟩
 ·exact (h1.mono (fun x hx=>by simp[hx])).trans' k1 (fun x hx=>.inl (by simp[hx]))
 ·rcases List.mem_append.1 hx with hx|hx
  ·exact h2 x hx
  ·rcases k2 x hx with ⟨c,e1,e2⟩|⟨e1,e2⟩
   ·rcases h.new x c e1 with e|e
    ·exact .inl ⟨c,e,e2⟩
    ·cases h0:c0 x with
     |none=>exact .inr ⟨rfl,e⟩
     |some c' =>
      have:=h.a9i x c' h0;rw[e1] at this
      cases this
      exact .inl ⟨c,rfl,e2⟩
   ·cases h0:c0 x with
    |none=>exact .inr ⟨rfl,e2⟩
    |some c'=>rw[h.a9i x c' h0] at e1;cases e1
 ·rcases k.new x c hx with e|e
  ·exact h.new x c e
  ·exact .inr e
theorem Step.blockC{S:Col->Prop}{col col':Nat->Option Col}(h:Step S B col col' w w'){b:Nat}{c:Col}(hb:b<w.heap.size)(hc:col b=some c)(hs:¬ S c):w'.heap[b]?=w.heap[b]?:=by
 obtain⟨G,h1,h2⟩:=h.off;refine h1.block b hb (fun hx=>?_);rcases h2 b hx with ⟨c',e1,e2⟩|⟨e1,_⟩
 ·rw[hc] at e1;cases e1;exact hs e2
 ·rw[hc] at e1;cases e1
theorem Step.blockN{S:Col->Prop}{col col':Nat->Option Col}(h:Step S B col col' w w'){b:Nat}(hb:b<w.heap.size)(hc:col b=none)(hB:b<B):w'.heap[b]?=w.heap[b]?:=by
 obtain⟨G,h1,h2⟩:=h.off;refine h1.block b hb (fun hx=>?_);rcases h2 b hx with ⟨c',e1,e2⟩|⟨_,e⟩
 ·rw[hc] at e1;cases e1
 ·omega
theorem Step.cellC{S:Col->Prop}{col col':Nat->Option Col}(h:Step S B col col' w w'){b o:Nat}{c:Col}(hc:col b=some c)(hs:¬ S c)(h0:w.cell? ⟨b,o,none⟩=some v):w'.cell? ⟨b,o,none⟩=some v :=
 (zo (w:=w) (h.blockC (World.block_lt_of_cell? _ _ h0) hc hs)).trans h0
def Left(S:Col->Prop)(B:Nat)(col:Nat->Option Col)(b:Nat):Prop:=(∃ c,col b=some c/\¬ S c)\/(col b=none/\b<B)
theorem Step.left{S:Col->Prop}{col col':Nat->Option Col}(h:Step S B col col' w w'):∃ G,Off G w w'/\∀ b,Left S B col b->b ∉ G:=by
 obtain⟨G,h1,h2⟩:=h.off;refine⟨G,h1,fun b hl hx=>?_⟩;rcases h2 b hx with ⟨c',e1,e2⟩|⟨e1,e2⟩ <;> rcases hl with ⟨c,e3,e4⟩|⟨e3,e4⟩
 ·rw[e1] at e3;cases e3;exact e4 e2
 ·rw[e1] at e3;cases e3
 ·rw[e1] at e3;cases e3
 ·omega
theorem Step.enk{S:Col->Prop}{col col':Nat->Option Col}{g:EG}(h:Step S B col col' w w')(hg:ENK w g)(h1:Left S B col g.eb)(h2:Left S B col g.B):ENK w' g:=by
 obtain⟨G,a1,a2⟩:=h.left;exact hg.off a1 (a2 _ h1) (a2 _ h2)
noncomputable def a2Z(col:Nat->Option Col)(F:List Nat)(c:Col)(k:Nat):Option Col :=
 match col k with
 |some c'=>some c'
 |none=>@ite _ (k∈F) (Classical.propDecidable _) (some c) none
theorem a9b{col:Nat->Option Col}{c c':Col}(h:col k=some c'):a2Z col F c k=some c':=by unfold a2Z;rw[h]
theorem a5z{col:Nat->Option Col}{c:Col}(h:k∈F)(hk:∀ c',col k=some c'->c'=c):a2Z col F c k=some c:=by
 unfold a2Z
 cases e:col k with
 |none=>simp only;rw[if_pos h]
 |some c'=>simp only;rw[hk c' e]
theorem a1I{col:Nat->Option Col}{c c':Col}(h:a2Z col F c k=some c'):col k=some c'\/(col k=none/\k∈F/\c=c'):=by
 unfold a2Z at h
 cases e:col k with
 |none =>
  rw[e] at h;simp only at h
  by_cases hf:k∈F
  ·rw[if_pos hf] at h;cases h;exact .inr ⟨rfl,hf,rfl⟩
  ·rw[if_neg hf] at h;cases h
 |some c2=>rw[e] at h;exact .inl h
theorem a3l{S:Col->Prop}{col:Nat->Option Col}{c:Col}(k:Off G w w')(hG:∀ x∈G,(∃ c,col x=some c/\S c)\/(col x=none/\B<=x))(hF:∀ x∈F,col x=none->B<=x):Step S B col (a2Z col F c) w w' :=
 ⟨⟨G,k,hG⟩,fun _ _ h=>a9b h,fun k c hk=>by rcases a1I hk with e|⟨e1,e2,e3⟩;exact .inl e;exact .inr (hF k e2 e1)⟩
def TG.with(t:TG)(A:List Bool->Int)(T:Avl.S):TG:={ t with A:=A,T:=T }
def Raw.setT(r:Raw)(i:Nat)(t:TG):Raw:={ r with tg:=r.tg.set i t }
theorem c2c{tg:List TG}(hi:i<tg.length)(A:List Bool->Int)(T:Avl.S)(name:ByteArray):b2r (tg.set i (tg[i].with A T)) name=b2r tg name:=by
 unfold b2r
 have e:(tg.set i (tg[i].with A T)).map (fun t=>(t.name,t.tb))=tg.map fun t=>(t.name,t.tb):=by
  rw[List.map_set];have:((tg[i].with A T).name,(tg[i].with A T).tb)=(tg.map fun t=>(t.name,t.tb))[i]'(by simpa using hi):=by simp[TG.with]
  rw[this,List.set_getElem_self]
 rw[e]
theorem DK.base{S:Col->Prop}{r:Raw}{col col':Nat->Option Col}(h:DK w d r col)(st:Step S B col col' w w')(hd:¬ S .desk):
  w'.cell? ⟨d,0,none⟩=some (.int .i64 r.now)/\w'.cell? ⟨d,1,none⟩=some (.int .i64 r.given)/\(∀ o,w'.frozen? ⟨d,o,none⟩=false)/\col' d=some .desk/\∀ o,w'.cell? ⟨d,o,none⟩=w.cell? ⟨d,o,none⟩:=by
 have hb:=st.blockC (h.lt d _ h.dc) h.dc hd;exact⟨st.cellC h.dc hd h.c0,st.cellC h.dc hd h.c1,fun o=>(World.frozen?_of_block (w:=w) hb).trans (h.fz o),st.a9i d _ h.dc,fun o=>zo hb⟩
theorem DK.mtC{S:Col->Prop}{r:Raw}{col col':Nat->Option Col}(h:DK w d r col)(st:Step S B col col' w w')(hc:w'.cell? ⟨d,2,none⟩=w.cell? ⟨d,2,none⟩)(hm:¬ S .mt):
  ∃ m f,w'.cell? ⟨d,2,none⟩=some (.map (some m))/\col' m=some .mt/\a4N Tryz.prog 9 w' m r.tg.length f r.tg.length/\∀ name,f (b8f name)=b2r r.tg name:=by
 obtain⟨m,f,a1,a2,a3,a4⟩:=h.mt;exact⟨m,f,hc.trans a1,st.a9i m _ a2,a3.block (st.blockC (h.lt m _ a2) a2 hm),a4⟩
theorem DK.meC{S:Col->Prop}{r:Raw}{col col':Nat->Option Col}(h:DK w d r col)(st:Step S B col col' w w')(hc:w'.cell? ⟨d,3,none⟩=w.cell? ⟨d,3,none⟩)(hm:¬ S .me):
  ∃ m f,w'.cell? ⟨d,3,none⟩=some (.map (some m))/\col' m=some .me/\a4N Tryz.prog 3 w' m r.eg.length f r.eg.length/\∀ id,f (b1K id)=a6U r.eg id:=by
 obtain⟨m,f,a1,a2,a3,a4⟩:=h.me;exact⟨m,f,hc.trans a1,st.a9i m _ a2,a3.block (st.blockC (h.lt m _ a2) a2 hm),a4⟩
theorem DK.waC{S:Col->Prop}{r:Raw}{col col':Nat->Option Col}(h:DK w d r col)(st:Step S B col col' w w')(hc:w'.cell? ⟨d,4,none⟩=w.cell? ⟨d,4,none⟩)(hm:¬ S .wa):
  ∃ v,w'.cell? ⟨d,4,none⟩=some v/\w'.ownsRow 0 197 1 v r.wl.length (r.wl.map a5x)/\∀ b,v.ownBlock=some b->col' b=some .wa:=by
 obtain⟨v,a1,a2,a3⟩:=h.wa;obtain⟨G,k,hG⟩:=st.left;exact⟨v,hc.trans a1,a1i a2 k (fun b hb=>hG b (.inl ⟨_,a3 b hb,hm⟩)),fun b hb=>st.a9i b _ (a3 b hb)⟩
theorem DK.heC{S:Col->Prop}{r:Raw}{col col':Nat->Option Col}(h:DK w d r col)(st:Step S B col col' w w')(hc:w'.cell? ⟨d,5,none⟩=w.cell? ⟨d,5,none⟩)(hf:w'.frozen? ⟨d,5,none⟩=false)(hm:¬ S .he):
  ∃ v,HP w' d 5 v r.hl/\∀ b,v.ownBlock=some b->col' b=some .he:=by
 obtain⟨v,a1,a2⟩:=h.he;obtain⟨G,k,hG⟩:=st.left;exact⟨v,⟨hc.trans a1.c,a1i a1.own k (fun b hb=>hG b (.inl ⟨_,a2 b hb,hm⟩)),a1.ne,hf⟩,fun b hb=>st.a9i b _ (a2 b hb)⟩
theorem DK.thS{S:Col->Prop}{r:Raw}{col col':Nat->Option Col}(h:DK w d r col)(st:Step S B col col' w w')(i:Nat)(hi:i<r.tg.length)(hm:¬ S (.a0k i)):
  ∃ ul us Fl Fs,TH w' r.tg[i].tb r.tg[i].name r.tg[i].a0c r.tg[i].A r.tg[i].T ul us Fl Fs/\∀ k∈r.tg[i].tb :: (Fl++Fs),col' k=some (.a0k i):=by
 obtain⟨ul,us,Fl,Fs,a1,a2⟩:=h.th i hi;obtain⟨G,k,hG⟩:=st.left;exact⟨ul,us,Fl,Fs,a1.off k (fun b hb=>hG b (.inl ⟨_,a2 b hb,hm⟩)),fun b hb=>st.a9i b _ (a2 b hb)⟩
theorem DK.enS{S:Col->Prop}{r:Raw}{col col':Nat->Option Col}(h:DK w d r col)(st:Step S B col col' w w')(he:¬ S .ent)(hs:¬ S .span):
  ∀ g∈r.eg,ENK w' g/\col' g.eb=some .ent/\col' g.B=some .span:=by
 intro g hg;obtain⟨a1,a2,a3⟩:=h.en g hg;exact⟨st.enk a1 (.inl ⟨_,a2,he⟩) (.inl ⟨_,a3,hs⟩),st.a9i _ _ a2,st.a9i _ _ a3⟩
theorem DK.a0k{r:Raw}{col:Nat->Option Col}(h:DK w d r col)(i:Nat)(hi:i<r.tg.length)(hF:∀ k∈r.tg[i].tb :: F,col k=some (.a0k i)){A:List Bool->Int}{T:Avl.S}(n:Now w w' r.tg[i].tb r.tg[i].name r.tg[i].a0c A T F):
  ∃ col',DK w' d (r.setT i (r.tg[i].with A T)) col'/\Step (·=.a0k i) w.heap.size col col' w w':=by
 obtain⟨ul,us,Fl,Fs,t1,t2⟩:=n.th
 have hold:∀ k,w.heap.size<=k->col k=none:=fun k hk=>by
  cases e:col k with
  |none=>rfl
  |some c=>have:=h.lt k c e;omega
 have hFF:∀ k∈Fl++Fs,col k=some (.a0k i)\/(col k=none/\w.heap.size<=k):=fun k hk=>by
  rcases t2 k hk with e|e
  ·exact .inl (hF k (by simp[e]))
  ·exact .inr ⟨hold k e,e⟩
 have st:Step (·=.a0k i) w.heap.size col (a2Z col (Fl++Fs) (.a0k i)) w w':=a3l n.off (fun x hx=>.inl ⟨_,hF x hx,rfl⟩) (fun x hx e=>by
  rcases hFF x hx with e2|e2
  ·rw[e] at e2;cases e2
  ·exact e2.2)
 refine⟨_,?_,st⟩;obtain⟨b1,b2,b3,b4,b5⟩:=h.base st (by simp);refine⟨b1,b2,?_,h.meC st (b5 3) (by simp),h.waC st (b5 4) (by simp),h.heC st (b5 5) (b3 5) (by simp),?_,h.enS st (by simp) (by simp),h.nd,h.ni,b3,b4,?_⟩
 ·obtain⟨m,f,a1,a2,a3,a4⟩:=h.mtC st (b5 2) (by simp);have e:(r.setT i (r.tg[i].with A T)).tg.length=r.tg.length:=by simp[Raw.setT]
  exact⟨m,f,a1,a2,by rw[e];exact a3,fun name=>by rw[a4];exact (c2c hi A T name).symm⟩
 ·intro j hj;have hj':j<r.tg.length:=by simpa[Raw.setT] using hj
  by_cases e:j=i
  ·subst e;have e2:(r.setT j (r.tg[j].with A T)).tg[j]=r.tg[j].with A T:=by simp[Raw.setT]
   rw[e2];refine⟨ul,us,Fl,Fs,t1,fun k hk=>?_⟩;rcases List.mem_cons.1 hk with rfl|hk
   ·exact a9b (hF r.tg[j].tb List.mem_cons_self)
   ·refine a5z hk (fun c' hc=>?_);rcases hFF k hk with e|e
    ·rw[hc] at e;cases e;rfl
    ·rw[hc] at e;cases e.1
  ·have e2:(r.setT i (r.tg[i].with A T)).tg[j]=r.tg[j]:=by simp[Raw.setT,Ne.symm e]
   rw[e2];exact h.thS st j hj' (by simpa using e)
 ·intro k c hk;rcases a1I hk with h1|⟨h1,h2,h3⟩
  ·exact zL (h.lt k c h1) st.size
  ·exact t1.lt k (by simp only[List.mem_cons];exact .inr h2)
structure Fit(t:TG)(e:Desk.Ent):Prop where
 ok:c1P e.a0e
 bd:∀ p,0<=t.A p/\t.A p<=400000
 u1:1<=e.a0c
 u2:e.a0c<=9
 ll:e.a0e.length<=100
theorem DK.pair{r:Raw}{col:Nat->Option Col}(h:DK w d r col)(i:Nat)(hi:i<r.tg.length){g:EG}(hg:ENK w g)(ht:g.tb=r.tg[i].tb)(h1:col g.eb≠some (.a0k i))(h2:col g.B≠some (.a0k i))(hf:Fit r.tg[i] g.e):
  ∃ F,c6Q w r.tg[i].tb g.eb g.B g.cap r.tg[i].name r.tg[i].a0c r.tg[i].A r.tg[i].T F g.e.id g.e.a0c g.e.a0e/\∀ k∈r.tg[i].tb :: F,col k=some (.a0k i):=by
 obtain⟨ul,us,Fl,Fs,a1,a2⟩:=h.th i hi;refine⟨Fl++Fs,⟨⟨ul,us,Fl,Fs,a1,fun k hk=>hk⟩,by rw[<- ht];exact hg.en,fun hx=>h1 (a2 _ hx),fun hx=>h2 (a2 _ hx),hf.ok,hf.bd,hf.u1,hf.u2,hf.ll⟩,a2⟩
theorem b7e{r:Raw}{col:Nat->Option Col}(h:DK w d r col)(i:Nat)(hi:i<r.tg.length){g:EG}(hg:ENK w g)(ht:g.tb=r.tg[i].tb)(h1:col g.eb≠some (.a0k i))(h2:col g.B≠some (.a0k i))(hf:Fit r.tg[i] g.e)(hno:a2V (a1z r.tg[i].A g.e.a0e g.e.a0c) r.tg[i].a0c g.e.a0e=false):
  Calls Tryz.prog 104 #[.pointer (some ⟨g.tb,0,none⟩),.pointer (some ⟨g.eb,0,none⟩)] w fun e w'=>e=.returned (.bool false)/\∃ col',DK w' d r col'/\Step (·=.a0k i) w.heap.size col col' w w':=by
 obtain⟨F,p,hF⟩:=h.pair i hi hg ht h1 h2 hf;rw[ht];refine (c4y w _ _ _ _ _ _ _ _ F _ _ _ p hno).mono ?_;rintro e w' ⟨rfl,n⟩;obtain⟨col',k1,k2⟩:=h.a0k i hi hF n;refine⟨rfl,col',?_,k2⟩
 have e:r.setT i (r.tg[i].with r.tg[i].A r.tg[i].T)=r:=by
  have e1:r.tg[i].with r.tg[i].A r.tg[i].T=r.tg[i]:=rfl;unfold Raw.setT;rw[e1,List.set_getElem_self]
 rw[e] at k1;exact k1
theorem b3F{r:Raw}{col:Nat->Option Col}(h:DK w d r col)(i:Nat)(hi:i<r.tg.length){g:EG}(hg:ENK w g)(ht:g.tb=r.tg[i].tb)(h1:col g.eb≠some (.a0k i))(h2:col g.B≠some (.a0k i))(hf:Fit r.tg[i] g.e)(hr:c3L r.tg[i].T g.e.id g.e.a0e)(hyes:a2V (a1z r.tg[i].A g.e.a0e g.e.a0c) r.tg[i].a0c g.e.a0e=true):
  Calls Tryz.prog 104 #[.pointer (some ⟨g.tb,0,none⟩),.pointer (some ⟨g.eb,0,none⟩)] w fun e w'=>e=.returned (.bool true)/\∃ col',DK w' d (r.setT i (r.tg[i].with (a1z r.tg[i].A g.e.a0e g.e.a0c) (a7e g.e.id g.eb r.tg[i].T g.e.a0e))) col'/\Step (·=.a0k i) w.heap.size col col' w w':=by
 obtain⟨F,p,hF⟩:=h.pair i hi hg ht h1 h2 hf;rw[ht];refine (c2f w _ _ _ _ _ _ _ _ F _ _ _ p hr hyes).mono ?_;rintro e w' ⟨rfl,n⟩;exact⟨rfl,h.a0k i hi hF n⟩
theorem b3G{r:Raw}{col:Nat->Option Col}(h:DK w d r col)(i:Nat)(hi:i<r.tg.length){g:EG}(hg:ENK w g)(ht:g.tb=r.tg[i].tb)(h1:col g.eb≠some (.a0k i))(h2:col g.B≠some (.a0k i))(hf:Fit r.tg[i] g.e)(ho:Avl.Ord (Avl.a0w r.tg[i].T))(hz:Avl.size r.tg[i].T<=9000)(hA:∀ p,0<=a1z r.tg[i].A g.e.a0e (-g.e.a0c) p):
  Calls Tryz.prog 205 #[.pointer (some ⟨g.tb,0,none⟩),.pointer (some ⟨g.eb,0,none⟩)] w fun e w'=>e=.returned (.tuple #[])/\∃ col',DK w' d (r.setT i (r.tg[i].with (a1z r.tg[i].A g.e.a0e (-g.e.a0c)) (a4w g.e.id r.tg[i].T g.e.a0e))) col'/\Step (·=.a0k i) w.heap.size col col' w w':=by
 obtain⟨F,p,hF⟩:=h.pair i hi hg ht h1 h2 hf;rw[ht];refine (b4K w _ _ _ _ _ _ _ _ F _ _ _ p ho hz hA).mono ?_;rintro e w' ⟨rfl,n⟩;exact⟨rfl,h.a0k i hi hF n⟩
theorem DK.heap{r:Raw}{col:Nat->Option Col}(h:DK w d r col)(hv:∀ b,v.ownBlock=some b->col b=some .he){l':List Hp.Hi}(p:a2i w d 5 v l' w'):
  ∃ col',DK w' d { r with hl:=l' } col'/\Step (fun c=>c=.he\/c=.desk) w.heap.size col col' w w':=by
 obtain⟨v',p1,p2,p3,p4,p5⟩:=p
 have st:Step (fun c=>c=.he\/c=.desk) w.heap.size col (a2Z col v'.ownBlock.toList .he) w w':=by
  refine a3l p3 (fun x hx=>?_) (fun x hx e=>?_)
  ·rcases List.mem_cons.1 hx with rfl|hx
   ·exact .inl ⟨_,h.dc,.inr rfl⟩
   ·exact .inl ⟨_,hv x (Option.mem_toList.1 hx),.inl rfl⟩
  ·rcases p2 x (Option.mem_toList.1 hx) with e2|e2
   ·rw[hv x e2] at e;cases e
   ·exact e2
 refine⟨_,?_,st⟩;refine⟨(p4 0 (by omega)).trans h.c0,(p4 1 (by omega)).trans h.c1,h.mtC st (p4 2 (by omega)) (by simp),h.meC st (p4 3 (by omega)) (by simp),h.waC st (p4 4 (by omega)) (by simp),⟨v',p1,fun b hb=>?_⟩,fun i hi=>h.thS st i hi (by simp),h.enS st (by simp) (by simp),h.nd,h.ni,fun o=>(p5 o).trans (h.fz o),st.a9i d _ h.dc,fun k c hk=>?_⟩
 ·refine a5z (Option.mem_toList.2 hb) (fun c' hc=>?_);rcases p2 b hb with e|e
  ·rw[hv b e] at hc;cases hc;rfl
  ·have:=h.lt b _ hc;omega
 ·rcases a1I hk with h1|⟨h1,h2,h3⟩
  ·exact zL (h.lt k c h1) st.size
  ·have:=p1.own.lt k (Option.mem_toList.1 h2);exact this.2
theorem DK.setNow{r:Raw}{col:Nat->Option Col}(h:DK w d r col)(n:Int):DK (w.setCell ⟨d,0,none⟩ (.int .i64 n)) d { r with now:=n } col/\Step (·=.desk) w.heap.size col col w (w.setCell ⟨d,0,none⟩ (.int .i64 n)):=by
 have st:Step (·=.desk) w.heap.size col col w (w.setCell ⟨d,0,none⟩ (.int .i64 n)):=⟨⟨[d],Off.set0 ..,fun x hx=>.inl ⟨_,by simp at hx;subst hx;exact h.dc,rfl⟩⟩,fun _ _ h=>h,fun _ _ h=>.inl h⟩;have ho:∀ o,o≠0->(w.setCell ⟨d,0,none⟩ (.int .i64 n)).cell? ⟨d,o,none⟩=w.cell? ⟨d,o,none⟩:=fun o ho=>zS _ _ _ _ (by have:=ho;simp)
 exact⟨⟨zm _ _ _ h.c0,(ho 1 (by omega)).trans h.c1,h.mtC st (ho 2 (by omega)) (by simp),h.meC st (ho 3 (by omega)) (by simp),h.waC st (ho 4 (by omega)) (by simp),h.heC st (ho 5 (by omega)) ((zF ..).trans (h.fz 5)) (by simp),fun i hi=>h.thS st i hi (by simp),h.enS st (by simp) (by simp),h.nd,h.ni,fun o=>(zF ..).trans (h.fz o),h.dc,fun k c hk=>zL (h.lt k c hk) st.size⟩,st⟩
theorem DK.setGiven{r:Raw}{col:Nat->Option Col}(h:DK w d r col)(n:Int):DK (w.setCell ⟨d,1,none⟩ (.int .i64 n)) d { r with given:=n } col/\Step (·=.desk) w.heap.size col col w (w.setCell ⟨d,1,none⟩ (.int .i64 n)):=by
 have st:Step (·=.desk) w.heap.size col col w (w.setCell ⟨d,1,none⟩ (.int .i64 n)):=⟨⟨[d],Off.set0 ..,fun x hx=>.inl ⟨_,by simp at hx;subst hx;exact h.dc,rfl⟩⟩,fun _ _ h=>h,fun _ _ h=>.inl h⟩;have ho:∀ o,o≠1->(w.setCell ⟨d,1,none⟩ (.int .i64 n)).cell? ⟨d,o,none⟩=w.cell? ⟨d,o,none⟩:=fun o ho=>zS _ _ _ _ (by have:=ho;simp)
 exact⟨⟨(ho 0 (by omega)).trans h.c0,World.cell?_setCell_same _ _ _ h.c1,h.mtC st (ho 2 (by omega)) (by simp),h.meC st (ho 3 (by omega)) (by simp),h.waC st (ho 4 (by omega)) (by simp),h.heC st (ho 5 (by omega)) ((zF ..).trans (h.fz 5)) (by simp),fun i hi=>h.thS st i hi (by simp),h.enS st (by simp) (by simp),h.nd,h.ni,fun o=>(zF ..).trans (h.fz o),h.dc,fun k c hk=>zL (h.lt k c hk) st.size⟩,st⟩
theorem DK.setWait{r:Raw}{col:Nat->Option Col}(h:DK w d r col)(hv:∀ b,v.ownBlock=some b->col b=some .wa){wl':List Nat}(k:Off v.ownBlock.toList w w1)(ho:w1.ownsRow 0 197 1 v' wl'.length (wl'.map a5x))(hat:∀ b,v'.ownBlock=some b->v.ownBlock=some b\/w.heap.size<=b):
  ∃ col',DK (w1.setCell ⟨d,4,none⟩ v') d { r with wl:=wl' } col'/\Step (fun c=>c=.wa\/c=.desk) w.heap.size col col' w (w1.setCell ⟨d,4,none⟩ v'):=by
 have hdv:d ∉ v.ownBlock.toList:=fun e=>by have:=hv d (Option.mem_toList.1 e);rw[h.dc] at this;cases this
 have hdl:=h.lt d _ h.dc;have hd1:w1.heap[d]?=w.heap[d]?:=k.block d hdl hdv;have k2:Off (d :: v.ownBlock.toList) w (w1.setCell ⟨d,4,none⟩ v'):=(k.mono (by simp +contextual)).setCell (.inl (by simp)) _ _
 have st:Step (fun c=>c=.wa\/c=.desk) w.heap.size col (a2Z col v'.ownBlock.toList .wa) w (w1.setCell ⟨d,4,none⟩ v'):=by
  refine a3l k2 (fun x hx=>?_) (fun x hx e=>?_)
  ·rcases List.mem_cons.1 hx with rfl|hx
   ·exact .inl ⟨_,h.dc,.inr rfl⟩
   ·exact .inl ⟨_,hv x (Option.mem_toList.1 hx),.inl rfl⟩
  ·rcases hat x (Option.mem_toList.1 hx) with e2|e2
   ·rw[hv x e2] at e;cases e
   ·exact e2
 have hoo:∀ o,o≠4->(w1.setCell ⟨d,4,none⟩ v').cell? ⟨d,o,none⟩=w.cell? ⟨d,o,none⟩:=fun o ho=>(zS _ _ _ _ (by have:=ho;simp)).trans (zo hd1)
 have hff:∀ o,(w1.setCell ⟨d,4,none⟩ v').frozen? ⟨d,o,none⟩=w.frozen? ⟨d,o,none⟩:=fun o=>(zF ..).trans (World.frozen?_of_block hd1)
 obtain⟨v0,c4,_⟩:=h.wa
 have hvd:∀ b,v'.ownBlock=some b->b≠d:=fun b hb e=>by
  subst e;rcases hat b hb with e|e
  ·exact hdv (Option.mem_toList.2 e)
  ·omega
 refine⟨_,⟨(hoo 0 (by omega)).trans h.c0,(hoo 1 (by omega)).trans h.c1,h.mtC st (hoo 2 (by omega)) (by simp),h.meC st (hoo 3 (by omega)) (by simp),⟨v',World.cell?_setCell_same _ _ _ ((zo (w:=w) hd1).trans c4),a1i ho (Off.set0 d _ 4 _) (fun b hb=>by simpa using hvd b hb),fun b hb=>?_⟩,h.heC st (hoo 5 (by omega)) ((hff 5).trans (h.fz 5)) (by simp),fun i hi=>h.thS st i hi (by simp),h.enS st (by simp) (by simp),h.nd,h.ni,fun o=>(hff o).trans (h.fz o),st.a9i d _ h.dc,fun x c hk=>?_⟩,st⟩
 ·refine a5z (Option.mem_toList.2 hb) (fun c' hc=>?_);rcases hat b hb with e|e
  ·rw[hv b e] at hc;cases hc;rfl
  ·have:=h.lt b _ hc;omega
 ·rcases a1I hk with h1|⟨h1,h2,h3⟩
  ·exact zL (h.lt x c h1) st.size
  ·have:=ho.lt x (Option.mem_toList.1 h2)
   simpa using this.2
def a1R(id kind a0Z:Int)(eg:List EG):List EG:=eg.map fun g=>if g.e.id=id then { g with e:={ g.e with kind:=kind,a0Z:=a0Z } } else g
theorem c2o(id kind a0Z:Int)(eg:List EG):(a1R id kind a0Z eg).map (·.eb)=eg.map (·.eb):=by
 unfold a1R;rw[List.map_map];apply List.map_congr_left;intro g _;simp only[Function.comp];split <;> rfl
theorem c2n(id kind a0Z:Int)(eg:List EG):(a1R id kind a0Z eg).map (·.e.id)=eg.map (·.e.id):=by
 unfold a1R;rw[List.map_map];apply List.map_congr_left;intro g _;simp only[Function.comp];split <;> rfl
theorem b5Z(id kind a0Z:Int)(eg:List EG)(x:Int):a6U (a1R id kind a0Z eg) x=a6U eg x:=by
 have e:(a1R id kind a0Z eg).map (fun g=>(g.e.id,g.eb))=eg.map fun g=>(g.e.id,g.eb):=by
  unfold a1R;rw[List.map_map];apply List.map_congr_left;intro g _;simp only[Function.comp];split <;> rfl
 unfold a6U;rw[e]
theorem b9y(id kind a0Z:Int)(eg:List EG):(a1R id kind a0Z eg).length=eg.length:=by unfold a1R;simp
theorem a0W{α β:Type}(f:α->β):∀ {l:List α},(l.map f).Nodup->∀ {x y:α},x∈l->y∈l->f x=f y->x=y
 |[],_,_,_,hx,_,_=>by simp at hx
 |a :: l,h,x,y,hx,hy,e=>by
  rw[List.map_cons,List.nodup_cons] at h;rcases List.mem_cons.1 hx with e1|h1 <;> rcases List.mem_cons.1 hy with e2|h2
  ·rw[e1,e2]
  ·exact absurd (List.mem_map.2 ⟨y,h2,by rw[<- e,e1]⟩) h.1
  ·exact absurd (List.mem_map.2 ⟨x,h1,by rw[e,e2]⟩) h.1
  ·exact a0W f h.2 h1 h2 e
theorem DK.setEnt{r:Raw}{col:Nat->Option Col}(h:DK w d r col){g:EG}(hg:g∈r.eg)(kind a0Z:Int):
  DK ((w.setCell ⟨g.eb,1,none⟩ (.int .i64 kind)).setCell ⟨g.eb,5,none⟩ (.int .i64 a0Z)) d { r with eg:=a1R g.e.id kind a0Z r.eg } col/\Step (·=.ent) w.heap.size col col w ((w.setCell ⟨g.eb,1,none⟩ (.int .i64 kind)).setCell ⟨g.eb,5,none⟩ (.int .i64 a0Z)):=by
 obtain⟨g1,g2,g3⟩:=h.en g hg;have k:Off [g.eb] w ((w.setCell ⟨g.eb,1,none⟩ (.int .i64 kind)).setCell ⟨g.eb,5,none⟩ (.int .i64 a0Z)):=((Off.refl [g.eb] w).setCell (.inl (by simp)) _ _).setCell (.inl (by simp)) _ _;have st:Step (·=.ent) w.heap.size col col w ((w.setCell ⟨g.eb,1,none⟩ (.int .i64 kind)).setCell ⟨g.eb,5,none⟩ (.int .i64 a0Z)):=⟨⟨_,k,fun x hx=>.inl ⟨_,by simp at hx;subst hx;exact g2,rfl⟩⟩,fun _ _ h=>h,fun _ _ h=>.inl h⟩;obtain⟨b1,b2,b3,b4,b5⟩:=h.base st (by simp);refine⟨⟨b1,b2,h.mtC st (b5 2) (by simp),?_,h.waC st (b5 4) (by simp),h.heC st (b5 5) (b3 5) (by simp),fun i hi=>h.thS st i hi (by simp),?_,by rw[c2o];exact h.nd,by rw[c2n];exact h.ni,b3,b4,fun x c hx=>zL (h.lt x c hx) st.size⟩,st⟩
 ·obtain⟨m,f,a1,a2,a3,a4⟩:=h.meC st (b5 3) (by simp);exact⟨m,f,a1,a2,by rw[b9y];exact a3,fun id=>by rw[a4,b5Z]⟩
 ·intro x hx;obtain⟨y,hy,rfl⟩:=List.mem_map.1 hx;obtain⟨y1,y2,y3⟩:=h.en y hy
  by_cases e:y.e.id=g.e.id
  ·have:y=g:=a0W _ h.ni hy hg e;subst this;rw[if_pos rfl];have hB:y.B≠y.eb:=fun e=>by rw[e,y2] at y3;cases y3
   refine⟨⟨⟨?_,?_,?_,?_,y1.en.sl.off k (by simpa using hB),Nat.lt_of_lt_of_le y1.en.lt k.size⟩,?_,?_,fun o=>?_,?_⟩,y2,y3⟩
   ·exact (zS _ _ _ _ (by simp)).trans ((zS _ _ _ _ (by simp)).trans y1.en.c0)
   ·exact (zS _ _ _ _ (by simp)).trans ((zS _ _ _ _ (by simp)).trans y1.en.c1)
   ·exact (zS _ _ _ _ (by simp)).trans ((zS _ _ _ _ (by simp)).trans y1.en.c2)
   ·exact (zS _ _ _ _ (by simp)).trans ((zS _ _ _ _ (by simp)).trans y1.en.c3)
   ·exact (zS _ _ _ _ (by simp)).trans (zm _ _ _ y1.k)
   ·exact zm _ _ _ ((zS _ _ _ _ (by simp)).trans y1.u)
   ·exact (zF ..).trans ((zF ..).trans (y1.fz o))
   ·obtain⟨cs,e⟩:=y1.bl;exact⟨_,heap_setCell_same _ _ _ _ _ _ (heap_setCell_same _ _ _ _ _ _ e)⟩
  ·rw[if_neg e];have hne:y.eb≠g.eb:=fun e2=>e (by rw[a0W _ h.nd hy hg e2])
   have hB:y.B≠g.eb:=fun e=>by rw[e,g2] at y3;cases y3
   exact⟨y1.off k (by simpa using hne) (by simpa using hB),y2,y3⟩
def a1F(id:Int)(eg:List EG):List EG:=eg.filter fun g=>g.e.id != id
theorem a1V{eg:List EG}:a6U eg id=((eg.find? fun g=>decide (g.e.id=id)).map (·.eb)):=by
 unfold a6U;rw[List.find?_map]
 cases h:eg.find? ((fun p=>decide (p.1=id)) ∘ fun g=>(g.e.id,g.eb)) with
 |none=>have h':eg.find? (fun g=>decide (g.e.id=id))=none:=h;rw[h'];rfl
 |some g=>have h':eg.find? (fun g=>decide (g.e.id=id))=some g:=h;rw[h'];rfl
theorem b3E{eg:List EG}(hn:(eg.map (·.e.id)).Nodup){g:EG}(hg:g∈eg):a6U eg g.e.id=some g.eb:=by
 rw[a1V]
 cases h:eg.find? fun x=>decide (x.e.id=g.e.id) with
 |none =>
  have:=List.find?_eq_none.1 h g hg;simp at this
 |some x =>
  have h1:=List.mem_of_find?_eq_some h;have h2:=List.find?_some h;have:x=g:=a0W _ hn h1 hg (by simpa using h2);rw[this];rfl
theorem a9D{eg:List EG}(h:∀ g∈eg,g.e.id≠id):a6U eg id=none:=by
 rw[a1V];have:eg.find? (fun g=>decide (g.e.id=id))=none:=List.find?_eq_none.2 (fun g hg=>by simpa using h g hg);rw[this];rfl
theorem b2b{eg:List EG}{b:Nat}(h:a6U eg id=some b):∃ g∈eg,g.e.id=id/\g.eb=b:=by
 rw[a1V] at h
 cases e:eg.find? fun x=>decide (x.e.id=id) with
 |none=>rw[e] at h;cases h
 |some x =>
  rw[e] at h;refine⟨x,List.mem_of_find?_eq_some e,by simpa using List.find?_some e,by simpa using h⟩
theorem b7d{eg:List EG}(h:a6U eg id=none):∀ g∈eg,g.e.id≠id:=by
 rw[a1V] at h;intro g hg e
 cases e2:eg.find? fun x=>decide (x.e.id=id) with
 |none =>
  have:=List.find?_eq_none.1 e2 g hg;simp[e] at this
 |some x=>rw[e2] at h;cases h
theorem b6N{eg:List EG}(hn:(eg.map (·.e.id)).Nodup)(id x:Int):a6U (a1F id eg) x=if x=id then none else a6U eg x:=by
 by_cases e:x=id
 ·subst e;rw[if_pos rfl];exact a9D (fun g hg=>by simpa using (List.mem_filter.1 hg).2)
 ·rw[if_neg e]
  cases h:a6U eg x with
  |none=>exact a9D (fun g hg=>b7d h g ((List.mem_filter.1 hg).1))
  |some b =>
   obtain⟨g,hg,e1,e2⟩:=b2b h;have hn':((a1F id eg).map (·.e.id)).Nodup:=List.Sublist.nodup (List.filter_sublist.map _) hn;have hk:g∈a1F id eg:=List.mem_filter.2 ⟨hg,by simpa[e1] using e⟩;rw[<- e1,b3E hn' hk,e2]
theorem c0A{eg:List EG}(hn:(eg.map (·.e.id)).Nodup)(id:Int):(a1F id eg).length=eg.length-if (a6U eg id).isSome then 1 else 0:=by
 induction eg with
 |nil=>simp[a1F]
 |cons g eg ih =>
  rw[List.map_cons,List.nodup_cons] at hn;have ih:=ih hn.2
  by_cases e:g.e.id=id
  ·have h0:∀ x∈eg,x.e.id≠id:=fun x hx e2=>hn.1 (List.mem_map.2 ⟨x,hx,by rw[e,e2]⟩)
   have e1:a1F id (g :: eg)=eg:=by
    unfold a1F;rw[List.filter_cons,if_neg (by simp[e])];exact List.filter_eq_self.2 (fun x hx=>by simpa using h0 x hx)
   have e2:(a6U (g :: eg) id).isSome=true:=by rw[a1V,List.find?_cons];simp[e]
   rw[e1,e2];simp
  ·have e1:a1F id (g :: eg)=g :: a1F id eg:=by unfold a1F;rw[List.filter_cons,if_pos (by simpa using e)]
   have e2:a6U (g :: eg) id=a6U eg id:=by rw[a1V,a1V,List.find?_cons];simp[e]
   rw[e1,e2,List.length_cons,List.length_cons,ih]
   have:(if (a6U eg id).isSome then 1 else 0)<=eg.length:=by
    split
    ·rename_i h
     cases eg with
     |nil=>rw[a1V] at h;simp at h
     |cons _ _=>simp
    ·omega
   omega
theorem DK.delE{r:Raw}{col:Nat->Option Col}(h:DK w d r col){m:Nat}{f:Lit->Option Nat}(hc:w.cell? ⟨d,3,none⟩=some (.map (some m)))(hm:col m=some .me)(hf:∀ id,f (b1K id)=a6U r.eg id)(id:Int)(p:a4N Tryz.prog 3 w' m r.eg.length (Go.Proofs.YtfigmlfdnickmaaGreatDoor.upd f (b1K id) none) (r.eg.length-if (f (b1K id)).isSome then 1 else 0))(hg:w.grownBy w' (some m)):
  DK w' d { r with eg:=a1F id r.eg } col/\Step (·=.me) w.heap.size col col w w':=by
 have k:Off [m] w w':=⟨hg.os,hg.tape,hg.output,hg.size,fun i hi hn=>hg.block i hi (by simpa using hn)⟩;have st:Step (·=.me) w.heap.size col col w w':=⟨⟨_,k,fun x hx=>.inl ⟨_,by simp at hx;subst hx;exact hm,rfl⟩⟩,fun _ _ h=>h,fun _ _ h=>.inl h⟩;obtain⟨b1,b2,b3,b4,b5⟩:=h.base st (by simp);refine⟨⟨b1,b2,h.mtC st (b5 2) (by simp),⟨m,upd f (b1K id) none,(b5 3).trans hc,hm,?_,fun x=>?_⟩,h.waC st (b5 4) (by simp),h.heC st (b5 5) (b3 5) (by simp),fun i hi=>h.thS st i hi (by simp),fun g hg=>h.enS st (by simp) (by simp) g ((List.mem_filter.1 hg).1),List.Sublist.nodup (List.filter_sublist.map _) h.nd,List.Sublist.nodup (List.filter_sublist.map _) h.ni,b3,b4,fun x c hx=>zL (h.lt x c hx) st.size⟩,st⟩
 ·have e:=c0A h.ni id;rw[hf] at p;show a4N _ _ _ _ (a1F id r.eg).length _ (a1F id r.eg).length;rw[e];exact p.tight
 ·show upd f (b1K id) none (b1K x)=a6U (a1F id r.eg) x;rw[b6N h.ni]
  by_cases e:x=id
  ·rw[e,a4f,if_pos rfl]
  ·rw[a3n f _ (fun e2=>e (b6H e2)),if_neg e,hf]
theorem b5W{eg:List EG}{g:EG}(hno:∀ x∈eg,x.e.id≠g.e.id)(x:Int):a6U (eg++[g]) x=if x=g.e.id then some g.eb else a6U eg x:=by
 by_cases e:x=g.e.id
 ·rw[if_pos e,a1V,List.find?_append];have:eg.find? (fun y=>decide (y.e.id=x))=none:=List.find?_eq_none.2 (fun y hy=>by simpa[e] using hno y hy);rw[this];simp[e]
 ·rw[if_neg e,a1V,a1V,List.find?_append]
  cases h:eg.find? fun y=>decide (y.e.id=x) with
  |none=>simp[Ne.symm e]
  |some y=>simp
theorem a3r{tg:List TG}:b2r tg name=((tg.find? fun t=>Desk.a0y t.name name).map (·.tb)):=by
 unfold b2r;rw[List.find?_map]
 cases h:tg.find? ((fun p=>Desk.a0y p.1 name) ∘ fun t=>(t.name,t.tb)) with
 |none=>have h':tg.find? (fun t=>Desk.a0y t.name name)=none:=h;rw[h'];rfl
 |some g=>have h':tg.find? (fun t=>Desk.a0y t.name name)=some g:=h;rw[h'];rfl
theorem b9k{tg:List TG}{t:TG}(hno:∀ x∈tg,x.name≠t.name)(name:ByteArray):b2r (tg++[t]) name=@ite _ (name=t.name) (Classical.propDecidable _) (some t.tb) (b2r tg name):=by
 by_cases e:name=t.name
 ·rw[if_pos e,a3r,List.find?_append];have:tg.find? (fun y=>Desk.a0y y.name name)=none:=List.find?_eq_none.2 (fun y hy=>by rw[Bool.not_eq_true,a3d,e];exact hno y hy);rw[this];have:Desk.a0y t.name name=true:=a4l.2 e.symm;simp[this]
 ·rw[if_neg e,a3r,a3r,List.find?_append]
  cases h:tg.find? fun y=>Desk.a0y y.name name with
  |none =>
   have:Desk.a0y t.name name=false:=a3d.2 (Ne.symm e);simp[this]
  |some y=>simp
theorem b3L{r:Raw}{col:Nat->Option Col}(h:DK w d r col)(hh:Hp.a6r r.hl)(hl:r.hl.length<=1000)(t n:Int)(hx:∃ x∈r.hl,x.t=t/\x.n=n):
  Calls Tryz.prog 149 #[.pointer (some ⟨d,5,none⟩),.int .i64 t,.int .i64 n] w fun e w'=>e=.returned (.tuple #[])/\∃ (x:Hp.Hi) (l':List Hp.Hi) (col':Nat->Option Col),x.t=t/\x.n=n/\Hp.a6r l'/\r.hl.Perm (x :: l')/\DK w' d { r with hl:=l' } col'/\Step (fun c=>c=.he\/c=.desk) w.heap.size col col' w w':=by
 obtain⟨v,a1,a2⟩:=h.he;refine (c0G d 5 v r.hl t n w a1 hh hl).mono ?_;rintro e w' ⟨rfl,hk⟩;refine⟨rfl,?_⟩;rcases hk with ⟨hk,_⟩|⟨x,l',e1,e2,p,h1,h2⟩
 ·obtain⟨x,hx1,hx2⟩:=hx;exact absurd hx2 (hk x hx1)
 ·obtain⟨col',k1,k2⟩:=h.heap a2 p;exact⟨x,l',col',e1,e2,h1,h2,k1,k2⟩
def b1x(c:Col):Prop:=c=.he\/c=.desk\/c=.ent
def a7R(w:World)(d:Nat)(r:Raw)(col:Nat->Option Col)(g:EG)(w':World):Prop :=
 ∃ (x:Hp.Hi) (l':List Hp.Hi) (col':Nat->Option Col),x.t=g.e.a0Z/\x.n=g.e.id/\Hp.a6r l'/\r.hl.Perm (x :: l')/\DK w' d { r with eg:=a1R g.e.id 1 0 r.eg,hl:=l' } col'/\Step b1x w.heap.size col col' w w'
theorem b0w{r:Raw}{col:Nat->Option Col}(h:DK w d r col)(hh:Hp.a6r r.hl)(hl:r.hl.length<=1000){g:EG}(hg:g∈r.eg)(hx:∃ x∈r.hl,x.t=g.e.a0Z/\x.n=g.e.id):
  Calls Tryz.prog 105 #[.pointer (some ⟨d,0,none⟩),.pointer (some ⟨g.eb,0,none⟩)] w fun e w'=>e=.returned (.tuple #[])/\a7R w d r col g w':=by
 obtain⟨g1,g2,g3⟩:=h.en g hg;have c0:=g1.en.c0;have c5:=g1.u;have DR:=a0b (fun wx (k:Below w.heap.size w wx)=>b3L (h.later k) hh hl g.e.a0Z g.e.id hx);have HG:=a0b (And.intro hg g2);clear h g3
 go_enter Tryz.func105,Tryz.ntmps105
 go_upto_region 0 with fail
 go_region_held3 (fun w'=>w'.cell? ⟨g.eb,0,none⟩=some (.int .i64 g.e.id)/\w'.cell? ⟨g.eb,5,none⟩=some (.int .i64 g.e.a0Z))
  (first
   |exact⟨c0,c5⟩
   |exact⟨((k5.en g HG.out.1).1).en.c0,((k5.en g HG.out.1).1).u⟩)
  (first
   |(go_at_call 149;refine (DR.out _ (a0q w)).mono ?_;rintro e w4 ⟨rfl,x,l',col1,k1,k2,k3,k4,k5,k6⟩))
 obtain⟨q1,q2,q3⟩:=k5.en g HG.out.1;have d1:=q1.k;have d5:=q1.u;have f1:=q1.fz 1;have f5:=q1.fz 5;have SE:=a0b (k5.setEnt (g:=g) HG.out.1 1 0);have KK:=a0b (And.intro k1 (And.intro k2 (And.intro k3 (And.intro k4 k6))));clear q1 q2 q3 k1 k2 k3 k4 k5 k6 DR c0 c5
 go_wp2_with fail
 go_end0
 obtain⟨k1,k2,k3,k4,k6⟩:=KK.out;obtain⟨s1,s2⟩:=SE.out;refine⟨rfl,(⟨x,l',col1,k1,k2,k3,k4,s1,?_⟩:a7R _ _ _ _ _ _)⟩;have t1:Step b1x w.heap.size col col1 w w4:=(Step.below (a0q w)).trans (k6.mono (fun c hc=>by unfold b1x;rcases hc with e|e;exact .inl e;exact .inr (.inl e)) (zq _));exact t1.trans (s2.mono (fun c hc=>.inr (.inr hc)) t1.size)
theorem b3r(eb:Nat)(kind:Int)(w:World)(c:w.cell? ⟨eb,1,none⟩=some (.int .i64 kind)):
  Calls Tryz.prog 107 #[.pointer (some ⟨eb,0,none⟩)] w fun e w'=>e=.returned (.bool (kind==1))/\w'=w:=by
 go_enter Tryz.func107,Tryz.ntmps107
 go_wp2_with fail
 go_ret;exact⟨rfl,rfl⟩
theorem c6o:(Tryz.prog.info? 200).map (fun i=>i.size)=some 6:=by kernel_rfl
theorem c7z(w:World)(a b:Nat)(ha:∃ cs,w.heap[a]?=some (.cells cs 200 (0,0)))(hb:∃ cs,w.heap[b]?=some (.cells cs 200 (0,0))):
  (binOp .eql 197 (.pointer (some ⟨b,0,none⟩)) (.pointer (some ⟨a,0,none⟩))).run Tryz.prog w=.ok (.bool (b==a)) w:=by
 obtain⟨j,hj⟩:∃ j,Tryz.prog.info? 200=some j:=by
  cases h:Tryz.prog.info? 200 with
  |none=>have:=c6o;rw[h] at this;cases this
  |some j=>exact⟨j,rfl⟩
 have hs:j.size≠0:=by
  have:=c6o;rw[hj] at this;simp at this;omega
 by_cases e:b=a
 ·subst e;rw[run_eql_ptr_same w _ Tryz.underlying197 hj];simp
 ·obtain⟨ca,ha⟩:=ha;obtain⟨cb,hb⟩:=hb;rw[run_eql_ptr_other w (a:=⟨b,0,none⟩) (b:=⟨a,0,none⟩) Tryz.underlying197 hj hs (by have:=e;simp) hb ha];simp[e]
theorem b8j(A a b:Nat)(w:World)(c:w.cell? ⟨A,0,none⟩=some (.pointer (some ⟨a,0,none⟩)))(ha:∃ cs,w.heap[a]?=some (.cells cs 200 (0,0)))(hb:∃ cs,w.heap[b]?=some (.cells cs 200 (0,0))):
  Calls Tryz.prog 206 #[.pointer (some ⟨b,0,none⟩),.pointer (some ⟨A,0,none⟩)] w fun e w'=>e=.returned (.bool (b==a))/\w'=w:=by
 have he:=c7z w a b ha hb;clear ha hb
 go_enter Tryz.func206,Tryz.ntmps206
 go_wp2_with fail
 go_ret;exact⟨rfl,rfl⟩
theorem b6j{base:Nat}{e:TypeId}{g:Nat}(h:w.ownsRow base e 1 (.slice (some ⟨g,0,none⟩) n cap) n xs)(hi:i<=n):w.ownsRow base e 1 (.slice (some ⟨g,0,none⟩) i cap) i (xs.take i):=by
 obtain⟨h1,h2⟩:=h;refine⟨by rw[List.length_take];omega,?_⟩;rcases h2 with ⟨h0,_⟩|⟨g',cap',cur,hv,hg,hh,hn,hcap,hsz,htake⟩
 ·cases h0
 ·cases hv
  refine .inr ⟨g,cap,cur,rfl,hg,hh,by omega,hcap,hsz,?_⟩;rw[<- htake,List.take_take]
  congr 1
  omega
theorem a4Z{base:Nat}{e:TypeId}{g n cap:Nat}{xs:List Value}:∀ (vs:List Value)(o:Nat)(w:World),n<=o->w.ownsRow base e 1 (.slice (some ⟨g,0,none⟩) n cap) n xs->(w.setCells g o vs).ownsRow base e 1 (.slice (some ⟨g,0,none⟩) n cap) n xs
 |[],_,_,_,h=>h
 |v :: r,o,w,ho,h=>by
  refine a4Z r (o+1) _ (by omega) ?_;have:=(h.stored o v).1
  rwa [List.set_eq_of_length_le (by have:=h.1;omega)] at this
theorem a5a{g:Nat}:∀ (vs:List Value)(o:Nat)(w:World),Off [g] w (w.setCells g o vs)
 |[],_,_=>Off.refl _ _
 |v :: r,o,w=>(Off.set0 g w o v).trans (a5a r (o+1) _)
structure a8s(L:List Nat)(p:Nat->Bool)(i j:Nat)(M:List Nat):Prop where
 len:M.length=L.length
 ij:i<j
 jl:j<=L.length
 lo:M.take i=(L.take j).filter fun b=>!p b
 hi:∀ k,j<=k->M[k]?=L[k]?
theorem a8s.skip{L:List Nat}(h:a8s L p i j M)(hj:j<L.length)(hp:p L[j]=true):a8s L p i (j+1) M:=by
 refine⟨h.len,by have:=h.ij;omega,by omega,?_,fun k hk=>h.hi k (by omega)⟩;rw[h.lo,List.take_succ_eq_append_getElem hj,List.filter_append];simp[hp]
theorem a8s.a9i{L:List Nat}(h:a8s L p i j M)(hj:j<L.length)(hp:p L[j]=false):a8s L p (i+1) (j+1) (M.set i L[j]):=by
 have hij:=h.ij;have hl:=h.len;refine⟨by simpa using hl,by omega,by omega,?_,fun k hk=>?_⟩
 ·rw[List.take_succ_eq_append_getElem hj,List.filter_append,<- h.lo,List.take_succ_eq_append_getElem (by simp;omega),List.take_set_of_le (zq _)];simp[hp]
 ·rw[List.getElem?_set_ne (by omega)];exact h.hi k (by omega)
theorem a8s.new{L:List Nat}(hk:k<L.length)(hp:p L[k]=true)(h0:∀ (j:Nat)(hj:j<k),p (L[j]'(by omega))=false):a8s L p k (k+1) L:=by
 refine⟨rfl,by omega,by omega,?_,fun _ _=>rfl⟩;rw[List.take_succ_eq_append_getElem hk,List.filter_append];simp only[hp,List.filter_cons,Bool.not_true,Bool.false_eq_true,if_false,List.filter_nil,List.append_nil];refine (List.filter_eq_self.2 (fun b hb=>?_)).symm;obtain⟨j,hj,rfl⟩:=List.getElem_of_mem hb;have hj':j<k:=by rw[List.length_take] at hj;omega
 simp[h0 j hj']
def h7m(fn:Nat)(cs:List Value):Prop:=(fn=107/\cs=[])\/(fn=206/\∃ A:Nat,cs=[.pointer (some ⟨A,0,none⟩)])
def h3N(fn:Nat)(cs:List Value)(w:World)(L:List Nat)(p:Nat->Bool):Prop :=
 ∀ b∈L,Calls Tryz.prog fn (.pointer (some ⟨b,0,none⟩) :: cs).toArray w fun e w'=>e=.returned (.bool (p b))/\w'=w
theorem g9h(hG:h7m fn cs)(L:List Nat)(p:Nat->Bool)(v:Value)(w:World)(ht:h3N fn cs w L p)(own:w.ownsRow 0 197 1 v L.length (L.map a5x))(hl:L.length<=1000):
  Calls Tryz.prog 160 #[v,.func (.func fn) #[] cs.toArray] w fun e w'=>e=.returned (.int .i64 (a3z p L 0))/\w'=w:=by
 have hv:∃ a cap,v=.slice a L.length cap:=by
  rcases own.2 with ⟨rfl,h⟩|⟨g,cap,_,rfl,_⟩
  ·rw[h];exact⟨_,_,rfl⟩
  ·exact⟨_,_,rfl⟩
 obtain⟨a,cap,rfl⟩:=hv;have OWN:=a0b own;have TE:=a0b ht;clear own ht;rcases hG with ⟨rfl,rfl⟩|⟨rfl,A,rfl⟩
 all_goals
  go_enter Tryz.func160,Tryz.ntmps160
  go_wp2_with fail
  go_loop [8] (fun i=>∃ k:Nat,k<=L.length/\i=.int .i64 k/\a3z p L 0=a3z p (L.drop k) k) (fun i=>L.length-(intOf i).toNat)
  case atStart=>exact⟨0,Nat.zero_le _,rfl,rfl⟩
  case round =>
   obtain⟨j,hj,rfl,hu⟩:=hrel;have HU:=a0b hu;clear hu
   by_cases hlt:j<L.length
   ·have hi:(j:Int)<(L.length:Int):=by omega
    obtain⟨H,cap',e1⟩:=Joins.ownsRow_form OWN.out (by omega);simp only[Value.slice.injEq,true_and] at e1;obtain⟨rfl,rfl⟩:=e1;have a0:=OWN.out.cellAt j (by omega);rw[List.getElem?_map,List.getElem?_eq_getElem hlt,Option.map_some] at a0;unfold a5x at a0;have D1:=a0b (TE.out L[j] (zg hlt));have ed:a3z p (L.drop j) j=if p L[j] then (j:Int) else a3z p (L.drop (j+1)) ((j+1:Nat):Int):=by rw[List.drop_eq_getElem_cons hlt];rfl
    have ED:=a0b ed;clear ed
    cases hq:p L[j]
    ·have HN:Hid (a3z p L 0=a3z p (L.drop (j+1)) ((j+1:Nat):Int)):=by show _=_;rw[HU.out,ED.out,hq];rfl
     rw[hq] at D1;clear hq
     go_wp2_with fail
     refine D1.out.mono ?_;rintro e w1 ⟨rfl,hw⟩;rw[hw];clear a0 D1 hw
     go_wp2_with fail
     go_round
     case rel=>exact⟨j+1,by omega,by go_num,HN.out⟩
     case measure=>simp[intOf];omega
    ·have HN:Hid (a3z p L 0=j):=by show _=_;rw[HU.out,ED.out,hq];rfl
     rw[hq] at D1;clear hq
     go_wp2_with fail
     refine D1.out.mono ?_;rintro e w1 ⟨rfl,hw⟩;rw[hw];clear a0 D1 hw
     go_wp2_with fail
     go_ret;exact⟨a1L HN.out.symm,rfl⟩
   ·have hi:¬ (j:Int)<(L.length:Int):=by omega
    have e:L.drop j=[]:=List.drop_eq_nil_of_le (by omega);have HN:Hid (a3z p L 0=-1):=by show _=_;rw[HU.out,e];rfl
    clear e
    go_wp2_with fail
    go_ret;exact⟨a1L HN.out.symm,rfl⟩
theorem g9J(hG:h7m fn cs)(L:List Nat)(p:Nat->Bool)(v:Value)(w:World)(ht:∀ wx,Off v.ownBlock.toList w wx->h3N fn cs wx L p)(own:w.ownsRow 0 197 1 v L.length (L.map a5x))(hl:L.length<=1000):
  Calls Tryz.prog 106 #[v,.func (.func fn) #[] cs.toArray] w fun e w'=>∃ v',e=.returned v'/\Off v.ownBlock.toList w w'/\w'.ownsRow 0 197 1 v' (L.filter fun b=>!p b).length ((L.filter fun b=>!p b).map a5x)/\v'.ownBlock=v.ownBlock:=by
 have IX:=a0b (g9h hG L p v w (ht w (Off.refl _ _)) own hl);have hq:=a7F p L 0;rcases hG with ⟨rfl,rfl⟩|⟨rfl,A,rfl⟩
 all_goals
  go_enter Tryz.func106,Tryz.ntmps106
  go_wp2_with fail
  refine IX.out.mono ?_;rintro e w1 ⟨rfl,rfl⟩;rcases hq with ⟨e1,e2⟩|⟨k,hk,e1,e2,e3⟩
  ·rw[e1];have ef:(L.filter fun b=>!p b)=L:=List.filter_eq_self.2 (fun b hb=>by simp[e2 b hb]);have HF:Hid (w1.ownsRow 0 197 1 v (L.filter fun b=>!p b).length ((L.filter fun b=>!p b).map a5x)):=by show w1.ownsRow _ _ _ _ _ _;rw[ef];exact own
   clear e1 e2 ef IX ht own
   go_wp2_with fail
   go_ret;exact⟨v,rfl,Off.refl _ _,HF.out,rfl⟩
  ·have hpos:0<L.length:=by omega
   obtain⟨H,cap,hv⟩:=Joins.ownsRow_form own hpos;subst hv;rw[e1,Int.zero_add];have D0:=a0b (a8s.new hk e2 e3);have OWN:=a0b own;have HT:=a0b ht;have w3:IntKind.i64.wrap ((k:Int)+1)=((k+1:Nat):Int):=by rw[a0i (by omega) (by omega)];omega
   have hne:((k:Int)==-1)=false:=by simp
   clear e1 e2 e3 IX ht own
   go_wp2_with fail
   go_loopw [5,6,7] (fun vi vj _ wx=>∃ (i j:Nat) (M:List Nat),vi=.int .i64 i/\vj=.int .i64 j/\a8s L p i j M/\Off [H] w1 wx/\wx.ownsRow 0 197 1 (.slice (some ⟨H,0,none⟩) L.length cap) L.length (M.map a5x)) (fun _ vj _ _=>L.length-(intOf vj).toNat)
   case atStart=>exact⟨k,k+1,L,rfl,rfl,D0.out,Off.refl _ _,OWN.out⟩
   case round =>
    obtain⟨i,j,M,rfl,rfl,hd,ho,hw⟩:=hrel;have hij:=hd.ij;have hjl:=hd.jl;have hml:=hd.len;have HD:=a0b (And.intro hd (And.intro ho hw))
    by_cases hlt:j<L.length
    ·have hj:(j:Int)<(L.length:Int):=by omega
     have hi:(i:Int)<(L.length:Int):=by omega
     have a0:=hw.cellAt j (by omega);rw[List.getElem?_map,hd.hi j (zq _),List.getElem?_eq_getElem hlt,Option.map_some] at a0;have b0:=hw.cellAt i (by omega);rw[List.getElem?_map,List.getElem?_eq_getElem (by omega),Option.map_some] at b0;have f0:=hw.frozenAt i;unfold a5x at a0 b0;have D1:=a0b (HT.out wr ho L[j] (zg hlt));have wi:IntKind.i64.wrap ((i:Int)+1)=((i+1:Nat):Int):=by rw[a0i (by omega) (by omega)];omega
     have wj:IntKind.i64.wrap ((j:Int)+1)=((j+1:Nat):Int):=by rw[a0i (by omega) (by omega)];omega
     clear ho hd
     cases hq:p L[j]
     ·have DN:=a0b (HD.out.1.a9i hlt hq);have WN:=a0b ((hw.stored i (a5x L[j])).1);have ON:=a0b (HD.out.2.1.trans (Off.set0 H wr i (a5x L[j])));rw[hq] at D1;unfold a5x at WN ON;clear hq hw
      go_wp2_with fail
      refine D1.out.mono ?_;rintro e w2 ⟨rfl,hw⟩;rw[hw];clear D1 hw
      go_wp2_with fail
      go_roundw
      case rel=>exact⟨i+1,j+1,M.set i L[j],rfl,rfl,DN.out,ON.out,by rw[List.map_set];exact WN.out⟩
      case measure=>simp[intOf];omega
     ·have DN:=a0b (HD.out.1.skip hlt hq);rw[hq] at D1;clear hq hw
      go_wp2_with fail
      refine D1.out.mono ?_;rintro e w2 ⟨rfl,hw⟩;rw[hw];clear D1 hw
      go_wp2_with fail
      go_roundw
      case rel=>exact⟨i,j+1,M,rfl,rfl,DN.out,HD.out.2.1,HD.out.2.2⟩
      case measure=>simp[intOf];omega
    ·have hj:¬ ((j:Int)<(L.length:Int)):=by omega
     have hje:j=L.length:=by omega
     have hcap:L.length<=cap:=by
      rcases hw.2 with ⟨h0,_⟩|⟨g',cap',cur,hv,_,_,h1,_⟩
      ·cases h0
      ·cases hv;exact h1
     have hcl:∀ ty,(Builtin.clear_ #[139] ty #[.slice (some ⟨H,i,none⟩) (L.length-i) (cap-i)]).run Tryz.prog wr=.ok (.tuple #[]) (wr.setCells H i (List.replicate (L.length-i) (.pointer none))) :=
      fun ty=>Lib.run_clear_slice wr _ _ ty (.pointer none) Tryz.underlying139 (fun w=>by simp[go_sem]) rfl rfl H i _ _ (by omega) (fun t ht=>by rw[hw.cellAt (i+t) (by omega)];simp;omega) (fun t ht=>hw.frozenAt (i+t))
     have hii:(i:Int)<=(L.length:Int):=by omega
     have hic:(i:Int)<=(cap:Int):=by omega
     have HF:Hid (Off [H] w1 (wr.setCells H i (List.replicate (L.length-i) (.pointer none)))/\(wr.setCells H i (List.replicate (L.length-i) (.pointer none))).ownsRow 0 197 1 (.slice (some ⟨H,0,none⟩) i cap) (L.filter fun b=>!p b).length ((L.filter fun b=>!p b).map a5x)):=by
      have e1:(L.filter fun b=>!p b)=M.take i:=by rw[hd.lo,hje,List.take_of_length_le (zq _)]
      have e2:(M.take i).length=i:=by rw[List.length_take];omega
      refine⟨ho.trans (a5a _ _ _),?_⟩;rw[e1,e2,List.map_take];exact a4Z _ i wr (zq _) (b6j hw (by omega))
     clear hd ho hw HD HT OWN D0 hje
     go_wp2_with fail
     go_ret;exact⟨_,rfl,HF.out.1,HF.out.2,rfl⟩
def a5U(c:Col):Prop:=c=.me\/c=.wa\/c=.desk\/∃ i,c=.a0k i
def b4c(w:World)(d:Nat)(r:Raw)(col:Nat->Option Col)(g:EG)(i:Nat)(hi:i<r.tg.length)(w':World):Prop :=
 ∃ col',DK w' d ({ r with eg:=a1F g.e.id r.eg }.setT i (r.tg[i].with (a1z r.tg[i].A g.e.a0e (-g.e.a0c)) (a4w g.e.id r.tg[i].T g.e.a0e))) col'/\Step a5U w.heap.size col col' w w'
theorem c3P(w:World):(zeroValue 197).run Tryz.prog w=.ok (.pointer none) w:=by simp[go_sem]
theorem b8i{r:Raw}{col:Nat->Option Col}(h:DK w d r col){g:EG}(hg:g∈r.eg)(hk:g.e.kind≠3)(i:Nat)(hi:i<r.tg.length)(ht:g.tb=r.tg[i].tb)(hf:Fit r.tg[i] g.e)(ho:Avl.Ord (Avl.a0w r.tg[i].T))(hz:Avl.size r.tg[i].T<=9000)(hA:∀ p,0<=a1z r.tg[i].A g.e.a0e (-g.e.a0c) p)(hid:0<=g.e.id/\g.e.id<=1000):
  Calls Tryz.prog 150 #[.pointer (some ⟨d,0,none⟩),.pointer (some ⟨g.eb,0,none⟩)] w fun e w'=>e=.returned (.tuple #[])/\b4c w d r col g i hi w':=by
 have hX:Below w.heap.size w (w.alloc (.cells #[.pointer (some ⟨g.eb,0,none⟩)] 197)):=(zr _ _).alloc (zq _) _;have hx:=h.later hX;have xb:(w.alloc (.cells #[.pointer (some ⟨g.eb,0,none⟩)] 197)).cell? ⟨w.heap.size,0,none⟩=some (.pointer (some ⟨g.eb,0,none⟩)):=by simp
 have hxs:w.heap.size<(w.alloc (.cells #[.pointer (some ⟨g.eb,0,none⟩)] 197)).heap.size:=by simp
 have hcn:col w.heap.size=none:=by
  cases e:col w.heap.size with
  |none=>rfl
  |some c=>have:=h.lt _ _ e;omega
 have HX:=a0b (And.intro hX (And.intro hxs hcn));clear h hX hxs hcn
 go_enter Tryz.func150,Tryz.ntmps150
 go_upto_region 1 with fail
 generalize (w.alloc (.cells #[.pointer (some ⟨g.eb,0,none⟩)] 197))=X at hx xb HX ⊢;obtain⟨g1,g2,g3⟩:=hx.en g hg;obtain⟨m,f,a1,a2,a3,a4⟩:=hx.me;have c0:=g1.en.c0;have hkb:(g.e.kind != 3)=true:=by simpa using hk
 have kk:=a9g (n:=g.e.id) (by omega) (by omega);obtain⟨w1,hrun,p1,p2⟩:=(a3.block (w':=X.drew) rfl).dropRun b3h Tryz.underlying138 kk 0;have hxd:=hx.later (a0q X);have DD:=a0b (hxd.delE a1 a2 a4 g.e.id p1 p2);have E1:=a0b (DD.out.2.enk (hxd.en g hg).1 (.inl ⟨_,g2,by simp⟩) (.inl ⟨_,g3,by simp⟩));have ck1:=E1.out.k;have co1:=E1.out.en.c1;have xb1:w1.cell? ⟨w.heap.size,0,none⟩=some (.pointer (some ⟨g.eb,0,none⟩)):=(zo (w:=X) (DD.out.2.blockN HX.out.2.1 HX.out.2.2 HX.out.2.1)).trans xb;clear hx hxd a3 p1 p2 a4
 go_big_region
 clear hrun xb a1 c0;have hN1:w.heap.size<w1.heap.size:=World.block_lt_of_cell? _ _ xb1;have NCOL:=a0b (And.intro HX.out.2.2 hN1);have XB:=a0b HX.out.1;have G23:=a0b (And.intro g2 g3);have RL:=a0b (fun wx (k:Below w1.heap.size w1 wx)=>b3G (DD.out.1.later k) i hi (E1.out.off (G:=[]) (Off.of_below k) (by simp) (by simp)) ht (by rw[g2];simp) (by rw[g3];simp) hf ho hz hA);clear g1 g2 g3 hf ho hz hA HX kk a2 ht;generalize w.heap.size=N at xb1 NCOL ⊢
 have AF:Hid (∀ w2 col2,Step (·=.a0k i) w1.drew.heap.size col col2 w1.drew w2->w2.cell? ⟨N,0,none⟩=some (.pointer (some ⟨g.eb,0,none⟩))/\w2.cell? ⟨g.eb,2,none⟩=some (.pointer (some ⟨g.tb,0,none⟩))):=fun w2 col2 q2 =>
  ⟨(zo (w:=w1) (q2.blockN NCOL.out.2 NCOL.out.1 NCOL.out.2)).trans xb1,q2.cellC G23.out.1 (by simp) co1⟩
 go_upto_region 3 with fail
 go_region_held3 (fun w'=>w'.cell? ⟨N,0,none⟩=some (.pointer (some ⟨g.eb,0,none⟩))/\w'.cell? ⟨g.eb,2,none⟩=some (.pointer (some ⟨g.tb,0,none⟩)))
  (first
   |exact⟨xb1,co1⟩
   |exact AF.out _ _ q2)
  (first
   |(go_at_call 205;refine (RL.out _ (a0q w1)).mono ?_;rintro e w2 ⟨rfl,col2,q1,q2⟩))
 have HF:Hid (b4c w d r col g i hi w2):=by
  have t0:Step a5U w.heap.size col col w X:=Step.below XB.out;have t1:Step a5U w.heap.size col col w w1:=t0.trans ((Step.below (a0q X)).trans (DD.out.2.mono (fun c hc=>.inl hc) t0.size));have t2:Step a5U w.heap.size col col w w1.drew:=t1.trans (Step.below (a0q w1));exact⟨col2,q1,t2.trans (q2.mono (fun c hc=>.inr (.inr (.inr ⟨i,hc⟩))) t2.size)⟩
 clear q1 q2 RL DD E1
 go_wp2_with fail
 (try simp only[Exit.inBlock,Exit.then]);refine bodyPost_ret (results_none rfl _ _ _) rfl ?_
 exact⟨rfl,HF.out⟩
def b1j(w:World)(d:Nat)(r:Raw)(col:Nat->Option Col)(g:EG)(w':World):Prop :=
 ∃ col',DK w' d { r with eg:=a1F g.e.id r.eg,wl:=r.wl.filter fun b=>!(b==g.eb) } col'/\Step a5U w.heap.size col col' w w'
theorem b8h{r:Raw}{col:Nat->Option Col}(h:DK w d r col){g:EG}(hg:g∈r.eg)(hk:g.e.kind=3)(hid:0<=g.e.id/\g.e.id<=1000)(hwl:∀ b∈r.wl,∃ x∈r.eg,x.eb=b)(hwn:r.wl.length<=1000):
  Calls Tryz.prog 150 #[.pointer (some ⟨d,0,none⟩),.pointer (some ⟨g.eb,0,none⟩)] w fun e w'=>e=.returned (.tuple #[])/\b1j w d r col g w':=by
 have hX:Below w.heap.size w (w.alloc (.cells #[.pointer (some ⟨g.eb,0,none⟩)] 197)):=(zr _ _).alloc (zq _) _;have hx:=h.later hX;have xb:(w.alloc (.cells #[.pointer (some ⟨g.eb,0,none⟩)] 197)).cell? ⟨w.heap.size,0,none⟩=some (.pointer (some ⟨g.eb,0,none⟩)):=by simp
 have hxs:w.heap.size<(w.alloc (.cells #[.pointer (some ⟨g.eb,0,none⟩)] 197)).heap.size:=by simp
 have hcn:col w.heap.size=none:=by
  cases e:col w.heap.size with
  |none=>rfl
  |some c=>have:=h.lt _ _ e;omega
 have HX:=a0b (And.intro hX (And.intro hxs hcn));clear h hX hxs hcn
 go_enter Tryz.func150,Tryz.ntmps150
 go_upto_region 1 with fail
 generalize (w.alloc (.cells #[.pointer (some ⟨g.eb,0,none⟩)] 197))=X at hx xb HX ⊢;obtain⟨g1,g2,g3⟩:=hx.en g hg;obtain⟨m,f,a1,a2,a3,a4⟩:=hx.me;have c0:=g1.en.c0;have hkb:(g.e.kind != 3)=false:=by simpa using hk
 have kk:=a9g (n:=g.e.id) (by omega) (by omega);obtain⟨w1,hrun,p1,p2⟩:=(a3.block (w':=X.drew) rfl).dropRun b3h Tryz.underlying138 kk 0;have hxd:=hx.later (a0q X);have DD:=a0b (hxd.delE a1 a2 a4 g.e.id p1 p2);have EC:Hid (∀ x∈r.eg,col x.eb=some .ent):=fun x hx=>(hxd.en x hx).2.1
 have E1:Hid (∀ x∈r.eg,ENK w1 x):=(fun x hx=>DD.out.2.enk (hxd.en x hx).1 (.inl ⟨_,(hxd.en x hx).2.1,by simp⟩) (.inl ⟨_,(hxd.en x hx).2.2,by simp⟩));have ck1:=(E1.out g hg).k;have xb1:w1.cell? ⟨w.heap.size,0,none⟩=some (.pointer (some ⟨g.eb,0,none⟩)):=(zo (w:=X) (DD.out.2.blockN HX.out.2.1 HX.out.2.2 HX.out.2.1)).trans xb;clear hx hxd a3 p1 p2 a4
 go_big_region
 clear hrun xb a1 c0;have hN1:w.heap.size<w1.heap.size:=World.block_lt_of_cell? _ _ xb1;have NCOL:=a0b (And.intro HX.out.2.2 hN1);have XB:=a0b HX.out.1;clear g1 g2 g3 HX kk a2;obtain⟨v,c4,own,hvc⟩:=DD.out.1.wa;have f4:=DD.out.1.fz 4;have hvN:w.heap.size ∉ v.ownBlock.toList:=fun e=>by have:=hvc _ (Option.mem_toList.1 e);rw[NCOL.out.1] at this;cases this
 have hvd:d ∉ v.ownBlock.toList:=fun e=>by have:=hvc _ (Option.mem_toList.1 e);rw[DD.out.1.dc] at this;cases this
 have hve:∀ x∈r.eg,x.eb ∉ v.ownBlock.toList:=fun x hx e=>by
  have h1:=hvc _ (Option.mem_toList.1 e);have h2:=EC.out x hx;rw[h2] at h1;cases h1
 have DL:=a0b (g9J (.inr ⟨rfl,w.heap.size,rfl⟩) r.wl (fun b=>b==g.eb) v w1 (fun wx k b hb=>by
  obtain⟨x,hx,rfl⟩:=hwl b hb
  have b1:∃ cs,wx.heap[g.eb]?=some (.cells cs 200 (0,0)):=by
   obtain⟨cs,e⟩:=(E1.out g hg).bl;exact⟨cs,(k.block _ (E1.out g hg).lt (hve g hg)).trans e⟩
  have b2:∃ cs,wx.heap[x.eb]?=some (.cells cs 200 (0,0)):=by
   obtain⟨cs,e⟩:=(E1.out x hx).bl;exact⟨cs,(k.block _ (E1.out x hx).lt (hve x hx)).trans e⟩
  exact b8j w.heap.size g.eb x.eb wx (k.cell hvN xb1) b1 b2) own hwn)
 have VC:=a0b (And.intro hvc (And.intro hvN hvd));clear own hvc hvN hvd hve hwl
 go_wp2_with fail
 refine DL.out.mono ?_;rintro e w2 ⟨v',rfl,k1,k2,k3⟩
 obtain⟨va,vn,vc,rfl⟩:∃ a n cap,v'=.slice a n cap:=by
  rcases k2.2 with ⟨e,_⟩|⟨_,_,_,e,_⟩
  ·exact⟨_,_,_,e⟩
  ·exact⟨_,_,_,e⟩
 have c42:=k1.cell VC.out.2.2 c4;have f42:=(k1.frozen (o:=4) VC.out.2.2 (World.block_lt_of_cell? _ _ c4)).trans f4;have SW:=a0b (DD.out.1.setWait VC.out.1 k1 k2 (fun b hb=>.inl (by rw[<- k3];exact hb)));clear k1 k2 k3 DL c4 f4 E1
 have HF:Hid (b1j w d r col g (w2.setCell ⟨d,4,none⟩ (.slice va vn vc))):=by
  have t0:Step a5U w.heap.size col col w X:=Step.below XB.out;have t1:Step a5U w.heap.size col col w w1:=t0.trans ((Step.below (a0q X)).trans (DD.out.2.mono (fun c hc=>.inl hc) t0.size));obtain⟨col2,q1,q2⟩:=SW.out;exact⟨col2,q1,t1.trans (q2.mono (fun c hc=>by rcases hc with e|e;exact .inr (.inl e);exact .inr (.inr (.inl e))) t1.size)⟩
 clear DD SW VC NCOL XB
 go_wp2_with fail
 go_end0
 exact⟨rfl,HF.out⟩
open Desk (Ent St Ids kept a0C a0Q a1C a2e ofB a0y a2c Inv)
def atE(eg:List EG)(id:Int):Nat:=(a6U eg id).getD 0
theorem b2j{eg:List EG}(hn:(eg.map (·.e.id)).Nodup){g:EG}(hg:g∈eg):atE eg g.e.id=g.eb:=by unfold atE;rw[b3E hn hg];rfl
structure Of(s:St)(r:Raw):Prop where
 now:r.now=s.now
 given:r.given=s.given
 ts:r.tg.map (fun t=>(t.name,t.a0c))=s.ts
 es:r.eg.map (·.e)=s.es
 th:∀ (i:Nat) (h:i<r.tg.length),r.tg[i].A=a1C r.tg[i].name s.es/\a2e r.tg[i].name s.es (atE r.eg) r.tg[i].T
 tb:∀ g∈r.eg,∃ (i:Nat) (h:i<r.tg.length),r.tg[i].name=g.e.a0k/\g.tb=r.tg[i].tb
def Wl(r:Raw):Prop:=r.wl=(r.eg.filter fun g=>g.e.kind==3).map (·.eb)
def a9r(g:EG):Hp.Hi:=⟨g.e.a0Z,g.e.id,g.eb⟩
def Hl(r:Raw):Prop:=Hp.a6r r.hl/\r.hl.Perm ((r.eg.filter fun g=>g.e.kind != 1).map a9r)
theorem Of.mem{r:Raw}(h:Of s r){g:EG}(hg:g∈r.eg):g.e∈s.es:=by rw[<- h.es];exact List.mem_map.2 ⟨g,hg,rfl⟩
theorem Of.get{r:Raw}(h:Of s r)(he:e∈s.es):∃ g∈r.eg,g.e=e:=by rw[<- h.es] at he;exact List.mem_map.1 he
theorem Of.len{r:Raw}(h:Of s r):r.tg.length=s.ts.length:=by rw[<- h.ts];simp
theorem Of.tsAt{r:Raw}(h:Of s r)(hi:i<r.tg.length):s.ts[i]'(by rw[<- h.len];exact hi)=(r.tg[i].name,r.tg[i].a0c):=by
 have e:(r.tg.map fun t=>(t.name,t.a0c))[i]'(by simpa using hi)=(r.tg[i].name,r.tg[i].a0c):=by simp
 rw[<- e]
 congr 1
 exact h.ts.symm
theorem a8G(hp:ts.Pairwise fun t u=>a0y t.1 u.1=false):∀ {i:Nat}(hi:i<ts.length),Desk.a0h ts[i].1 ts=ts[i].2:=by
 induction ts with
 |nil=>intro i hi;simp at hi
 |cons t ts ih =>
  intro i hi;rw[List.pairwise_cons] at hp
  cases i with
  |zero=>simp[Desk.a0h,Desk.a2u]
  |succ i =>
   have hi':i<ts.length:=by simpa using hi
   have:=hp.1 ts[i] (zg hi');simp only[List.getElem_cons_succ,Desk.a0h,this];exact ih hp.2 hi'
theorem a3o(h:∀ t∈ts,t.1≠name):Desk.a0h name ts=0:=by
 induction ts with
 |nil=>rfl
 |cons t ts ih =>
  have h1:a0y t.1 name=false:=a3d.2 (h t (by simp));simp only[Desk.a0h,h1];exact ih (fun t ht=>h t (by simp[ht]))
theorem Of.names{r:Raw}(h:Of s r)(hp:s.ts.Pairwise fun t u=>a0y t.1 u.1=false)(hi:i<r.tg.length)(hj:j<r.tg.length)(e:r.tg[i].name=r.tg[j].name):i=j:=by
 have key:∀ {a b:Nat}(ha:a<r.tg.length) (hb:b<r.tg.length),a<b->r.tg[a].name≠r.tg[b].name:=by
  intro a b ha hb hab;have:=List.pairwise_iff_getElem.1 hp a b (by rw[<- h.len];exact ha) (by rw[<- h.len];exact hb) hab;rw[h.tsAt ha,h.tsAt hb] at this;exact a3d.1 this
 by_cases h1:i<j
 ·exact absurd e (key hi hj h1)
 ·by_cases h2:j<i
  ·exact absurd e.symm (key hj hi h2)
  ·omega
theorem a6b(h:a2c L):(L.map (·.1)).Nodup:=by
 unfold a2c at h;rw[List.nodup_iff_pairwise_ne,List.pairwise_map];exact h.imp (fun hab=>by omega)
theorem b3m{at_:Int->Nat}{T:Avl.S}{eb:Nat}(h:a2e name es at_ T)(hr:a2c L)(hno:∀ e∈es,ofB name e=true->e.id≠id)
  (hs:∀ z:Avl.It,(∃ e∈es',ofB name e=true/\∃ s∈e.a0e,z=⟨s.1,s.2,e.id,at' e.id⟩)↔(∃ e∈es,ofB name e=true/\∃ s∈e.a0e,z=⟨s.1,s.2,e.id,at_ e.id⟩)\/∃ s∈L,z=b2s id eb s):
  a2e name es' at' (a7e id eb T L)/\(∀ z∈Avl.a0w T,z.n=id->∀ s∈L,z.f≠s.1):=by
 have hcl:∀ z∈Avl.a0w T,z.n=id->∀ s∈L,z.f≠s.1:=by
  intro z hz e;obtain⟨x,hx,h1,s,_,rfl⟩:=(h.2 z).1 hz;exact absurd e (hno x hx h1)
 obtain⟨k1,_,k3,_⟩:=b4M id eb L T h.1 hcl (a6b hr);exact⟨⟨k1,fun z=>by rw[k3,h.2];exact (hs z).symm⟩,hcl⟩
theorem b8p{at_:Int->Nat}{T:Avl.S}{e0:Ent}(h:a2e name es at_ T)(hid:Ids es)(h0:e0∈es)(hat:∀ e∈es,e.id≠e0.id->at' e.id=at_ e.id):
  a2e name (kept e0.id es) at' (a4w e0.id T e0.a0e):=by
 obtain⟨k1,k2,_⟩:=b2d e0.id e0.a0e T h.1;refine⟨k1,fun z=>?_⟩;rw[k2,List.mem_filter,h.2];constructor
 ·rintro ⟨⟨e,he,h1,s,hs,rfl⟩,h2⟩
  have hne:e.id≠e0.id:=by
   intro e1;have:e=e0:=hid.one he h0 e1;subst this;have:=List.all_eq_true.1 h2 s hs;simp[Avl.a8n] at this
  exact⟨e,Desk.a4r.2 ⟨he,hne⟩,h1,s,hs,by rw[hat e he hne]⟩
 ·rintro ⟨e,he,h1,s,hs,rfl⟩;obtain⟨he,hne⟩:=Desk.a4r.1 he;refine⟨⟨e,he,h1,s,hs,by rw[hat e he hne]⟩,?_⟩;rw[List.all_eq_true];intro t _;simp[Avl.a8n,hne]
theorem a4b{at_:Int->Nat}{T:Avl.S}(h:a2e name es at_ T)(h1:∀ e,ofB name e=true->(e∈es'↔e∈es))(hat:∀ e∈es,ofB name e=true->at' e.id=at_ e.id):a2e name es' at' T:=by
 refine⟨h.1,fun z=>?_⟩;rw[h.2];constructor
 ·rintro ⟨e,he,h2,s,hs,rfl⟩;exact⟨e,(h1 e h2).2 he,h2,s,hs,by rw[hat e he h2]⟩
 ·rintro ⟨e,he,h2,s,hs,rfl⟩;have he':=(h1 e h2).1 he;exact⟨e,he',h2,s,hs,by rw[hat e he' h2]⟩
theorem Of.turn{r:Raw}(h:Of s r)(hp:s.ts.Pairwise fun t u=>a0y t.1 u.1=false)(hi:i<r.tg.length){eg':List EG}{A':List Bool->Int}{T':Avl.S}(he:eg'.map (·.e)=es')(h1:A'=a1C r.tg[i].name es')(h2:a2e r.tg[i].name es' (atE eg') T')
  (h3:∀ (name:ByteArray) (T:Avl.S),name≠r.tg[i].name->a1C name es'=a1C name s.es/\(a2e name s.es (atE r.eg) T->a2e name es' (atE eg') T)) (h4:∀ g∈eg',∃ (i:Nat) (h:i<r.tg.length),r.tg[i].name=g.e.a0k/\g.tb=r.tg[i].tb):
  Of { s with es:=es' } ({ r with eg:=eg' }.setT i (r.tg[i].with A' T')):=by
 have hlen:({ r with eg:=eg' }.setT i (r.tg[i].with A' T')).tg.length=r.tg.length:=by simp[Raw.setT]
 have hname:∀ (j:Nat) (hj:j<r.tg.length),(({ r with eg:=eg' }.setT i (r.tg[i].with A' T')).tg[j]'(by rw[hlen];exact hj)).name=r.tg[j].name/\(({ r with eg:=eg' }.setT i (r.tg[i].with A' T')).tg[j]'(by rw[hlen];exact hj)).tb=r.tg[j].tb:=by
  intro j hj
  by_cases e:i=j
  ·subst e;simp[Raw.setT,TG.with]
  ·simp[Raw.setT,e]
 refine⟨h.now,h.given,?_,he,fun j hj=>?_,fun g hg=>?_⟩
 ·rw[<- h.ts];show (r.tg.set i (r.tg[i].with A' T')).map _=_;rw[List.map_set];have:((r.tg[i].with A' T').name,(r.tg[i].with A' T').a0c)=(r.tg.map fun t=>(t.name,t.a0c))[i]'(by simpa using hi):=by simp[TG.with]
  rw[this,List.set_getElem_self]
 ·have hj':j<r.tg.length:=by rw[<- hlen];exact hj
  by_cases e:i=j
  ·subst e;have e2:({ r with eg:=eg' }.setT i (r.tg[i].with A' T')).tg[i]=r.tg[i].with A' T':=by simp[Raw.setT]
   rw[e2];exact⟨h1,h2⟩
  ·have e2:({ r with eg:=eg' }.setT i (r.tg[i].with A' T')).tg[j]=r.tg[j]:=by simp[Raw.setT,e]
   rw[e2];obtain⟨k1,k2⟩:=h3 r.tg[j].name r.tg[j].T (fun en=>e (h.names hp hi hj' en.symm));obtain⟨q1,q2⟩:=h.th j hj';exact⟨q1.trans k1.symm,k2 q2⟩
 ·obtain⟨j,hj,e1,e2⟩:=h4 g hg;exact⟨j,by rw[hlen];exact hj,(hname j hj).1.trans e1,e2.trans (hname j hj).2.symm⟩
theorem b5Y(id:Int)(eg:List EG):(a1R id 1 0 eg).map (·.e)=a0C id (eg.map (·.e)):=by
 unfold a1R a0C;rw[List.map_map,List.map_map];apply List.map_congr_left;intro g _;simp only[Function.comp]
 split <;> rfl
theorem b6M(id:Int)(eg:List EG):(a1F id eg).map (·.e)=kept id (eg.map (·.e)):=by
 unfold a1F kept;rw[List.filter_map];rfl
theorem b2N{kind a0Z:Int}{eg:List EG}{x:EG}(h:x∈a1R id kind a0Z eg):∃ y∈eg,x.eb=y.eb/\x.tb=y.tb/\x.e.a0k=y.e.a0k/\x.e.id=y.e.id:=by
 obtain⟨y,hy,rfl⟩:=List.mem_map.1 h;refine⟨y,hy,?_⟩
 split <;> exact⟨rfl,rfl,rfl,rfl⟩
theorem a9S(id kind a0Z:Int)(eg:List EG):atE (a1R id kind a0Z eg)=atE eg:=by funext x;unfold atE;rw[b5Z]
theorem Of.book{r:Raw}(h:Of s r)(hp:s.ts.Pairwise fun t u=>a0y t.1 u.1=false)(hid:Ids s.es)(hn:(r.eg.map (·.e.id)).Nodup){g:EG}(hg:g∈r.eg)(hk:g.e.kind=3)(hr:a2c g.e.a0e)(hi:i<r.tg.length)(hname:r.tg[i].name=g.e.a0k):
  Of { s with es:=a0C g.e.id s.es } ({ r with eg:=a1R g.e.id 1 0 r.eg }.setT i (r.tg[i].with (a1z r.tg[i].A g.e.a0e g.e.a0c) (a7e g.e.id g.eb r.tg[i].T g.e.a0e)))/\(∀ z∈Avl.a0w r.tg[i].T,z.n=g.e.id->∀ s∈g.e.a0e,z.f≠s.1):=by
 obtain⟨t1,t2⟩:=h.th i hi;have hm:=h.mem hg
 have hno3:∀ (name:ByteArray) (e:Ent),e∈s.es->ofB name e=true->e.id≠g.e.id:=by
  intro name e he h1 e1;have:e=g.e:=hid.one he hm e1;subst this;simp[ofB,hk] at h1
 have hb1:ofB r.tg[i].name (a0Q g.e)=true:=by rw[Desk.a3I,hname];exact Desk.a2u _
 have hP:=b3m (id:=g.e.id) (eb:=g.eb) (L:=g.e.a0e) (es':=a0C g.e.id s.es) (at':=atE (a1R g.e.id 1 0 r.eg)) t2 hr (fun e he h1=>hno3 _ e he h1) (fun z=>by
  rw[a9S];constructor
  ·rintro ⟨e,he,h1,q,hq,rfl⟩;rcases Desk.a2b.1 he with ⟨he,_⟩|⟨y,hy,hye,rfl⟩
   ·exact .inl ⟨e,he,h1,q,hq,rfl⟩
   ·have:y=g.e:=hid.one hy hm hye;subst this;exact .inr ⟨q,hq,by unfold b2s;rw[show (a0Q g.e).id=g.e.id from rfl,b2j hn hg]⟩
  ·rintro (⟨e,he,h1,q,hq,rfl⟩|⟨q,hq,rfl⟩)
   ·exact⟨e,Desk.a2b.2 (.inl ⟨he,hno3 _ e he h1⟩),h1,q,hq,rfl⟩
   ·exact⟨a0Q g.e,Desk.a2b.2 (.inr ⟨g.e,hm,rfl,rfl⟩),hb1,q,hq,by unfold b2s;rw[show (a0Q g.e).id=g.e.id from rfl,b2j hn hg]⟩)
 refine⟨h.turn hp hi (by rw[b5Y,h.es]) ?_ hP.1 (fun name T hne=>⟨?_,fun hT=>?_⟩) (fun x hx=>?_),hP.2⟩
 ·rw[t1];exact Desk.a8R (by rw[hname];exact Desk.a2u _) hk hid hm
 ·refine Desk.a3Q (fun e he e1 h1=>?_);have:e=g.e:=hid.one he hm e1;subst this;exact absurd (a4l.1 h1) (fun e2=>hne (by rw[hname,e2]))
 ·refine a4b hT (fun e h1=>?_) (fun e _ _=>by rw[a9S]);constructor
  ·intro he;rcases Desk.a2b.1 he with ⟨he,_⟩|⟨y,hy,hye,rfl⟩
   ·exact he
   ·have:y=g.e:=hid.one hy hm hye;subst this;rw[Desk.a3I] at h1;exact absurd (a4l.1 h1) (fun e2=>hne (by rw[hname,e2]))
  ·intro he;exact Desk.a2b.2 (.inl ⟨he,hno3 name e he h1⟩)
 ·obtain⟨y,hy,e1,e2,e3,_⟩:=b2N hx;obtain⟨j,hj,q1,q2⟩:=h.tb y hy;exact⟨j,hj,by rw[e3];exact q1,by rw[e2];exact q2⟩
theorem Of.conf{r:Raw}(h:Of s r)(hid:Ids s.es){g:EG}(hg:g∈r.eg)(hk:g.e.kind≠3):
  Of { s with es:=a0C g.e.id s.es } { r with eg:=a1R g.e.id 1 0 r.eg }:=by
 have hm:=h.mem hg;refine⟨h.now,h.given,h.ts,by rw[<- h.es];exact b5Y _ _,fun j hj=>?_,fun x hx=>?_⟩
 ·obtain⟨t1,t2⟩:=h.th j hj;refine⟨t1.trans (Desk.a3Q (fun e he e1 _=>?_)).symm,⟨t2.1,fun z=>?_⟩⟩
  ·have:e=g.e:=hid.one he hm e1;rw[this];exact hk
  ·show z∈Avl.a0w r.tg[j].T↔∃ e∈a0C g.e.id s.es,ofB r.tg[j].name e=true/\∃ q∈e.a0e,z=⟨q.1,q.2,e.id,atE (a1R g.e.id 1 0 r.eg) e.id⟩;rw[t2.2,a9S];constructor
   ·rintro ⟨e,he,h1,q,hq,rfl⟩
    by_cases e1:e.id=g.e.id
    ·have:e=g.e:=hid.one he hm e1;subst this;refine⟨a0Q g.e,Desk.a2b.2 (.inr ⟨g.e,hm,rfl,rfl⟩),?_,q,hq,rfl⟩;rw[Desk.a3I];simp[ofB] at h1;exact h1.1
    ·exact⟨e,Desk.a2b.2 (.inl ⟨he,e1⟩),h1,q,hq,rfl⟩
   ·rintro ⟨e,he,h1,q,hq,rfl⟩;rcases Desk.a2b.1 he with ⟨he,_⟩|⟨y,hy,hye,rfl⟩
    ·exact⟨e,he,h1,q,hq,rfl⟩
    ·have:y=g.e:=hid.one hy hm hye;subst this;rw[Desk.a3I] at h1;exact⟨g.e,hm,by simp[ofB,h1,hk],q,hq,rfl⟩
 ·obtain⟨y,hy,e1,e2,e3,_⟩:=b2N hx;obtain⟨j,hj,q1,q2⟩:=h.tb y hy;exact⟨j,hj,by rw[e3];exact q1,by rw[e2];exact q2⟩
theorem b2k{eg:List EG}(hn:(eg.map (·.e.id)).Nodup)(id x:Int)(hx:x≠id):atE (a1F id eg) x=atE eg x:=by unfold atE;rw[b6N hn,if_neg hx]
theorem Of.goes{r:Raw}(h:Of s r)(hp:s.ts.Pairwise fun t u=>a0y t.1 u.1=false)(hid:Ids s.es)(hn:(r.eg.map (·.e.id)).Nodup){g:EG}(hg:g∈r.eg)(hk:g.e.kind≠3)(hi:i<r.tg.length)(hname:r.tg[i].name=g.e.a0k):
  Of { s with es:=kept g.e.id s.es } ({ r with eg:=a1F g.e.id r.eg }.setT i (r.tg[i].with (a1z r.tg[i].A g.e.a0e (-g.e.a0c)) (a4w g.e.id r.tg[i].T g.e.a0e))):=by
 obtain⟨t1,t2⟩:=h.th i hi;have hm:=h.mem hg;have hb1:ofB r.tg[i].name g.e=true:=by simp[ofB,hname,Desk.a2u,hk]
 refine h.turn hp hi (by rw[b6M,h.es]) ?_ (b8p t2 hid hm (fun e _ hne=>b2k hn _ _ hne)) (fun name T hne=>⟨?_,fun hT=>?_⟩) (fun x hx=>h.tb x (List.mem_filter.1 hx).1)
 ·rw[t1];exact Desk.a8Q hb1 hid hm
 ·refine Desk.a4S (fun e he e1=>?_);have:e=g.e:=hid.one he hm e1;subst this;have:a0y g.e.a0k name=false:=a3d.2 (fun e2=>hne (by rw[hname,e2]));simp[ofB,this]
 ·have hne2:∀ e∈s.es,ofB name e=true->e.id≠g.e.id:=fun e he h1 e1=>by
   have:e=g.e:=hid.one he hm e1;subst this;have:a0y g.e.a0k name=false:=a3d.2 (fun e2=>hne (by rw[hname,e2]));simp[ofB,this] at h1
  exact a4b hT (fun e h1=>⟨fun he=>(Desk.a4r.1 he).1,fun he=>Desk.a4r.2 ⟨he,hne2 e he h1⟩⟩) (fun e he h1=>b2k hn _ _ (hne2 e he h1))
theorem Of.goesW{r:Raw}(h:Of s r)(hid:Ids s.es)(hn:(r.eg.map (·.e.id)).Nodup){g:EG}(hg:g∈r.eg)(hk:g.e.kind=3):
  Of { s with es:=kept g.e.id s.es } { r with eg:=a1F g.e.id r.eg }:=by
 have hm:=h.mem hg
 have hne:∀ (name:ByteArray),∀ e∈s.es,ofB name e=true->e.id≠g.e.id:=fun name e he h1 e1=>by
  have:e=g.e:=hid.one he hm e1;subst this;simp[ofB,hk] at h1
 refine⟨h.now,h.given,h.ts,by rw[<- h.es];exact b6M _ _,fun j hj=>?_,fun x hx=>h.tb x (List.mem_filter.1 hx).1⟩;obtain⟨t1,t2⟩:=h.th j hj;refine⟨t1.trans (Desk.a4S (fun e he e1=>?_)).symm,a4b t2 (fun e h1=>⟨fun he=>(Desk.a4r.1 he).1,fun he=>Desk.a4r.2 ⟨he,hne _ e he h1⟩⟩) (fun e he h1=>b2k hn _ _ (hne _ e he h1))⟩;have:e=g.e:=hid.one he hm e1;subst this;simp[ofB,hk]
theorem a5N{eg:List EG}{g:EG}(hno:∀ x∈eg,x.e.id≠g.e.id)(x:Int):atE (eg++[g]) x=if x=g.e.id then g.eb else atE eg x:=by
 unfold atE;rw[b5W hno];split <;> rfl
theorem Of.comes{r:Raw}(h:Of s r)(hp:s.ts.Pairwise fun t u=>a0y t.1 u.1=false){g:EG}(hno:∀ x∈r.eg,x.e.id≠g.e.id)(hk:g.e.kind≠3)(hr:a2c g.e.a0e)(hi:i<r.tg.length)(hname:r.tg[i].name=g.e.a0k)(htb:g.tb=r.tg[i].tb)(n:Int):
  Of { s with es:=s.es++[g.e],given:=n } ({ r with eg:=r.eg++[g],given:=n }.setT i (r.tg[i].with (a1z r.tg[i].A g.e.a0e g.e.a0c) (a7e g.e.id g.eb r.tg[i].T g.e.a0e)))/\(∀ z∈Avl.a0w r.tg[i].T,z.n=g.e.id->∀ s∈g.e.a0e,z.f≠s.1):=by
 obtain⟨t1,t2⟩:=h.th i hi;have hb1:ofB r.tg[i].name g.e=true:=by simp[ofB,hname,Desk.a2u,hk]
 have hno':∀ e∈s.es,e.id≠g.e.id:=fun e he=>by obtain⟨x,hx,rfl⟩:=h.get he;exact hno x hx
 have hP:=b3m (id:=g.e.id) (eb:=g.eb) (L:=g.e.a0e) (es':=s.es++[g.e]) (at':=atE (r.eg++[g])) t2 hr (fun e he _=>hno' e he) (fun z=>by
  constructor
  ·rintro ⟨e,he,h1,q,hq,rfl⟩;rcases List.mem_append.1 he with he|he
   ·exact .inl ⟨e,he,h1,q,hq,by rw[a5N hno,if_neg (hno' e he)]⟩
   ·have:e=g.e:=by simpa using he
    subst this;exact .inr ⟨q,hq,by unfold b2s;rw[a5N hno,if_pos rfl]⟩
  ·rintro (⟨e,he,h1,q,hq,rfl⟩|⟨q,hq,rfl⟩)
   ·exact⟨e,by simp[he],h1,q,hq,by rw[a5N hno,if_neg (hno' e he)]⟩
   ·exact⟨g.e,by simp,hb1,q,hq,by unfold b2s;rw[a5N hno,if_pos rfl]⟩)
 have hO:Of { s with es:=s.es++[g.e] } ({ r with eg:=r.eg++[g] }.setT i (r.tg[i].with (a1z r.tg[i].A g.e.a0e g.e.a0c) (a7e g.e.id g.eb r.tg[i].T g.e.a0e))):=by
  refine h.turn hp hi (by rw[List.map_append,h.es];rfl) ?_ hP.1 (fun name T hne=>?_) (fun x hx=>?_)
  ·rw[t1];exact Desk.b9s hb1
  ·have hf:a0y g.e.a0k name=false:=a3d.2 (fun e2=>hne (by rw[hname,e2]));have hof:ofB name g.e=false:=by simp[ofB,hf]
   refine⟨Desk.a7X hof,fun hT=>a4b hT (fun e h1=>?_) (fun e he _=>by rw[a5N hno,if_neg (hno' e he)])⟩;rw[List.mem_append];constructor
   ·rintro (he|he)
    ·exact he
    ·have:e=g.e:=by simpa using he
     subst this;rw[hof] at h1;cases h1
   ·exact .inl
  ·rcases List.mem_append.1 hx with hx|hx
   ·exact h.tb x hx
   ·have:x=g:=by simpa using hx
    subst this;exact⟨i,hi,hname,htb⟩
 exact⟨⟨hO.now,rfl,hO.ts,hO.es,hO.th,hO.tb⟩,hP.2⟩
theorem Of.comesW{r:Raw}(h:Of s r){g:EG}(hno:∀ x∈r.eg,x.e.id≠g.e.id)(hk:g.e.kind=3)(hi:i<r.tg.length)(hname:r.tg[i].name=g.e.a0k)(htb:g.tb=r.tg[i].tb)(n:Int):
  Of { s with es:=s.es++[g.e],given:=n } { r with eg:=r.eg++[g],given:=n }:=by
 have hno':∀ e∈s.es,e.id≠g.e.id:=fun e he=>by obtain⟨x,hx,rfl⟩:=h.get he;exact hno x hx
 refine⟨h.now,rfl,h.ts,by show (r.eg++[g]).map _=_;rw[List.map_append,h.es];rfl,fun j hj=>?_,fun x hx=>?_⟩
 ·obtain⟨t1,t2⟩:=h.th j hj;have hof:∀ name,ofB name g.e=false:=fun name=>by simp[ofB,hk]
  refine⟨t1.trans (Desk.a7X (hof _)).symm,a4b t2 (fun e h1=>?_) (fun e he _=>by show atE (r.eg++[g]) e.id=_;rw[a5N hno,if_neg (hno' e he)])⟩;show e∈s.es++[g.e]↔_;rw[List.mem_append];constructor
  ·rintro (he|he)
   ·exact he
   ·have:e=g.e:=by simpa using he
    subst this;rw[hof] at h1;cases h1
  ·exact .inl
 ·rcases List.mem_append.1 hx with hx|hx
  ·exact h.tb x hx
  ·have:x=g:=by simpa using hx
   subst this;exact⟨i,hi,hname,htb⟩
theorem c0P{eg:List EG}(hn:(eg.map (·.e.id)).Nodup){g:EG}(hg:g∈eg)(hk:g.e.kind≠1):(eg.filter fun x=>x.e.kind != 1).Perm (g :: (a1R g.e.id 1 0 eg).filter fun x=>x.e.kind != 1):=by
 induction eg with
 |nil=>simp at hg
 |cons y eg ih =>
  rw[List.map_cons,List.nodup_cons] at hn;rcases List.mem_cons.1 hg with rfl|hg'
  ·have h0:a1R g.e.id 1 0 eg=eg:=by
    unfold a1R
    have:eg.map (fun x=>if x.e.id=g.e.id then { x with e:={ x.e with kind:=1,a0Z:=0 } } else x)=eg.map id:=by
     apply List.map_congr_left;intro x hx;rw[if_neg (fun e=>hn.1 (List.mem_map.2 ⟨x,hx,e⟩))];rfl
    rw[this,List.map_id]
   have e1:a1R g.e.id 1 0 (g :: eg)={ g with e:={ g.e with kind:=1,a0Z:=0 } } :: eg:=by
    conv=>lhs;unfold a1R;rw[List.map_cons,if_pos rfl]
    conv=>rhs;rw[<- h0]
    rfl
   rw[e1,List.filter_cons,if_pos (by simpa using hk),List.filter_cons,if_neg (by simp)]
  ·have hne:y.e.id≠g.e.id:=fun e=>hn.1 (List.mem_map.2 ⟨g,hg',e.symm⟩)
   have e1:a1R g.e.id 1 0 (y :: eg)=y :: a1R g.e.id 1 0 eg:=by
    conv=>lhs;unfold a1R;rw[List.map_cons,if_neg hne]
    rfl
   rw[e1];have ih:=ih hn.2 hg'
   by_cases h1:(y.e.kind != 1)=true
   ·rw[List.filter_cons,if_pos h1,List.filter_cons,if_pos h1];exact (ih.cons y).trans (.swap ..)
   ·rw[List.filter_cons,if_neg h1,List.filter_cons,if_neg h1];exact ih
theorem c0O{eg:List EG}(hn:(eg.map (·.e.id)).Nodup){g:EG}(hg:g∈eg)(p:EG->Bool)(hp:p g=true):(eg.filter p).Perm (g :: (a1F g.e.id eg).filter p):=by
 induction eg with
 |nil=>simp at hg
 |cons y eg ih =>
  rw[List.map_cons,List.nodup_cons] at hn;rcases List.mem_cons.1 hg with rfl|hg'
  ·have e1:a1F g.e.id (g :: eg)=eg:=by
    unfold a1F;rw[List.filter_cons,if_neg (by simp)];exact List.filter_eq_self.2 (fun x hx=>by simpa using fun e=>hn.1 (List.mem_map.2 ⟨x,hx,e⟩))
   rw[e1,List.filter_cons,if_pos hp]
  ·have hne:y.e.id≠g.e.id:=fun e=>hn.1 (List.mem_map.2 ⟨g,hg',e.symm⟩)
   have e1:a1F g.e.id (y :: eg)=y :: a1F g.e.id eg:=by unfold a1F;rw[List.filter_cons,if_pos (by simpa using hne)]
   rw[e1];have ih:=ih hn.2 hg'
   by_cases h1:p y=true
   ·rw[List.filter_cons,if_pos h1,List.filter_cons,if_pos h1];exact (ih.cons y).trans (.swap ..)
   ·rw[List.filter_cons,if_neg h1,List.filter_cons,if_neg h1];exact ih
theorem a8f{eg:List EG}(hn:(eg.map (·.e.id)).Nodup){g:EG}(hg:g∈eg)(p:EG->Bool)(hp:p g=false):(a1F g.e.id eg).filter p=eg.filter p:=by
 unfold a1F;rw[List.filter_filter];apply List.filter_congr;intro x hx
 by_cases e:x.e.id=g.e.id
 ·have:x=g:=a0W _ hn hx hg e;subst this;simp[hp]
 ·have:(x.e.id != g.e.id)=true:=by simpa using e
  simp[this]
theorem Hl.at{r:Raw}(h:Hl r){x:Hp.Hi}(hx:x∈r.hl):∃ g∈r.eg,g.e.kind≠1/\x=a9r g:=by
 have:=h.2.mem_iff.1 hx;obtain⟨g,hg,rfl⟩:=List.mem_map.1 this;exact⟨g,(List.mem_filter.1 hg).1,by simpa using (List.mem_filter.1 hg).2,rfl⟩
theorem Hl.has{r:Raw}(h:Hl r){g:EG}(hg:g∈r.eg)(hk:g.e.kind≠1):a9r g∈r.hl:=h.2.mem_iff.2 (List.mem_map.2 ⟨g,List.mem_filter.2 ⟨hg,by simpa using hk⟩,rfl⟩)
theorem Hl.len{r:Raw}(h:Hl r):r.hl.length<=r.eg.length:=by
 rw[h.2.length_eq,List.length_map];exact List.length_filter_le _ _
theorem Hl.one{r:Raw}(h:Hl r)(hn:(r.eg.map (·.e.id)).Nodup){g:EG}(hg:g∈r.eg){x:Hp.Hi}{l':List Hp.Hi}(hx:x.n=g.e.id)(hp:r.hl.Perm (x :: l')):x=a9r g:=by
 obtain⟨y,hy,_,e⟩:=h.at (x:=x) (hp.mem_iff.2 (by simp));subst e;have:y=g:=a0W _ hn hy hg hx;rw[this]
theorem Hl.book{r:Raw}(h:Hl r)(hn:(r.eg.map (·.e.id)).Nodup){g:EG}(hg:g∈r.eg)(hk:g.e.kind≠1){x:Hp.Hi}{l':List Hp.Hi}(hx:x.n=g.e.id)(hh:Hp.a6r l')(hp:r.hl.Perm (x :: l')):Hl { r with eg:=a1R g.e.id 1 0 r.eg,hl:=l' }:=by
 have e:=h.one hn hg hx hp;subst e;refine⟨hh,List.Perm.cons_inv (a:=a9r g) ?_⟩;exact hp.symm.trans (h.2.trans ((c0P hn hg hk).map a9r))
theorem Hl.goes{r:Raw}(h:Hl r)(hn:(r.eg.map (·.e.id)).Nodup){g:EG}(hg:g∈r.eg)(hk:g.e.kind≠1){x:Hp.Hi}{l':List Hp.Hi}(hx:x.n=g.e.id)(hh:Hp.a6r l')(hp:r.hl.Perm (x :: l')):Hl { r with eg:=a1F g.e.id r.eg,hl:=l' }:=by
 have e:=h.one hn hg hx hp;subst e;refine⟨hh,List.Perm.cons_inv (a:=a9r g) ?_⟩;exact hp.symm.trans (h.2.trans ((c0O hn hg (fun g=>g.e.kind != 1) (by simpa using hk)).map a9r))
theorem Hl.goes1{r:Raw}(h:Hl r)(hn:(r.eg.map (·.e.id)).Nodup){g:EG}(hg:g∈r.eg)(hk:g.e.kind=1):Hl { r with eg:=a1F g.e.id r.eg }:=by
 refine⟨h.1,?_⟩;show r.hl.Perm (((a1F g.e.id r.eg).filter fun g=>g.e.kind != 1).map a9r);rw[a8f hn hg _ (by simp[hk])];exact h.2
theorem Hl.comes{r:Raw}(h:Hl r){g:EG}(hk:g.e.kind≠1){l':List Hp.Hi}(hh:Hp.a6r l')(hp:l'.Perm (r.hl++[a9r g])):Hl { r with eg:=r.eg++[g],hl:=l' }:=by
 refine⟨hh,hp.trans ?_⟩;show (r.hl++[a9r g]).Perm (((r.eg++[g]).filter fun g=>g.e.kind != 1).map a9r);rw[List.filter_append,List.map_append];have:[g].filter (fun g=>g.e.kind != 1)=[g]:=by simp[hk]
 rw[this];exact h.2.append_right _
theorem Hl.comes1{r:Raw}(h:Hl r){g:EG}(hk:g.e.kind=1):Hl { r with eg:=r.eg++[g] }:=by
 refine⟨h.1,?_⟩;show r.hl.Perm (((r.eg++[g]).filter fun g=>g.e.kind != 1).map a9r);rw[List.filter_append];have:[g].filter (fun g=>g.e.kind != 1)=[]:=by simp[hk]
 rw[this,List.append_nil];exact h.2
theorem Wl.goes{r:Raw}(h:Wl r)(hn:(r.eg.map (·.e.id)).Nodup)(hb:(r.eg.map (·.eb)).Nodup){g:EG}(hg:g∈r.eg):(r.wl.filter fun b=>!(b==g.eb))=((a1F g.e.id r.eg).filter fun g=>g.e.kind==3).map (·.eb):=by
 rw[h,List.filter_map];unfold a1F;rw[List.filter_filter,List.filter_filter]
 congr 1
 apply List.filter_congr;intro x hx
 have:(x.eb==g.eb)=(x.e.id==g.e.id):=by
  by_cases e:x=g
  ·subst e;simp
  ·have h1:x.eb≠g.eb:=fun e2=>e (a0W _ hb hx hg e2)
   have h2:x.e.id≠g.e.id:=fun e2=>e (a0W _ hn hx hg e2)
   rw[beq_eq_false_iff_ne.2 h1,beq_eq_false_iff_ne.2 h2]
 simp only[Function.comp,this];rw[Bool.and_comm];rfl
theorem Wl.goes1{r:Raw}(h:Wl r)(hn:(r.eg.map (·.e.id)).Nodup){g:EG}(hg:g∈r.eg)(hk:g.e.kind≠3):Wl { r with eg:=a1F g.e.id r.eg }:=by
 unfold Wl at *;show r.wl=((a1F g.e.id r.eg).filter fun g=>g.e.kind==3).map (·.eb);rw[a8f hn hg _ (by simpa using hk)];exact h
theorem Wl.comes{r:Raw}(h:Wl r){g:EG}(hk:g.e.kind≠3):Wl { r with eg:=r.eg++[g] }:=by
 unfold Wl at *;show r.wl=((r.eg++[g]).filter fun g=>g.e.kind==3).map (·.eb);rw[List.filter_append];have:[g].filter (fun g=>g.e.kind==3)=[]:=by simp[hk]
 rw[this,List.append_nil];exact h
theorem Wl.comesW{r:Raw}(h:Wl r){g:EG}(hk:g.e.kind=3):Wl { r with eg:=r.eg++[g],wl:=r.wl++[g.eb] }:=by
 unfold Wl at *;show r.wl++[g.eb]=((r.eg++[g]).filter fun g=>g.e.kind==3).map (·.eb);rw[List.filter_append,List.map_append];have:[g].filter (fun g=>g.e.kind==3)=[g]:=by simp[hk]
 rw[this,h];rfl
theorem Wl.conf{r:Raw}(h:Wl r)(hn:(r.eg.map (·.e.id)).Nodup){g:EG}(hg:g∈r.eg)(hk:g.e.kind≠3):Wl { r with eg:=a1R g.e.id 1 0 r.eg }:=by
 unfold Wl at *;show r.wl=((a1R g.e.id 1 0 r.eg).filter fun g=>g.e.kind==3).map (·.eb);rw[h];unfold a1R;rw[List.filter_map,List.map_map]
 have e1:(r.eg.filter ((fun g=>g.e.kind==3) ∘ fun x=>if x.e.id=g.e.id then { x with e:={ x.e with kind:=1,a0Z:=0 } } else x))=r.eg.filter fun g=>g.e.kind==3:=by
  apply List.filter_congr;intro x hx;simp only[Function.comp]
  by_cases e:x.e.id=g.e.id
  ·have:x=g:=a0W _ hn hx hg e;subst this;rw[if_pos rfl];simp[hk]
  ·rw[if_neg e]
 rw[e1];apply List.map_congr_left;intro x _;simp only[Function.comp]
 split <;> rfl
namespace Desk
def a5R(ts:List (ByteArray × Int))(p:List Ent × List Int)(e:Ent):List Ent × List Int :=
 if a1e ts p.1 e.a0k e.a0c e.a0e=true then (a0C e.id p.1,p.2++[e.id]) else p
def a0T(e:Ent):Bool:=e.kind==3
theorem b5x{d r:List Ent}(h:Ids (d++e :: r)):a0C e.id (d++e :: r)=d++a0Q e :: r:=by
 unfold Ids at h;rw[List.map_append,List.map_cons,List.pairwise_append,List.pairwise_cons] at h;obtain⟨_,⟨h2,_⟩,h3⟩:=h;unfold a0C;rw[List.map_append,List.map_cons,if_pos rfl]
 have e1:d.map (fun x=>if x.id=e.id then a0Q x else x)=d:=by
  rw[show d=d.map id from (List.map_id d).symm,List.map_map];apply List.map_congr_left;intro x hx;have:=h3 x.id (List.mem_map.2 ⟨x,hx,rfl⟩) e.id (by simp);simp only[Function.comp,id];rw[if_neg (by omega)]
 have e2:r.map (fun x=>if x.id=e.id then a0Q x else x)=r:=by
  rw[show r=r.map id from (List.map_id r).symm,List.map_map];apply List.map_congr_left;intro x hx;have:=h2 x.id (List.mem_map.2 ⟨x,hx,rfl⟩);simp only[Function.comp,id];rw[if_neg (by omega)]
 rw[e1,e2]
theorem a3K(ts:List (ByteArray × Int)):∀ (r d:List Ent)(acc:List Int),Ids (d++r)->(r.filter a0T).foldl (a5R ts) (d++r,acc)=((a0O ts d r).1,acc++(a0O ts d r).2)
 |[],d,acc,_=>by simp[a0O]
 |e :: r,d,acc,h=>by
  have h1:Ids ((d++[e])++r):=by simpa using h
  by_cases hk:e.kind=3
  ·have hw:a0T e=true:=by simp[a0T,hk]
   rw[List.filter_cons,if_pos hw,List.foldl_cons]
   by_cases hf:a1e ts (d++e :: r) e.a0k e.a0c e.a0e=true
   ·have hb:=b5x h
    have h2:Ids ((d++[a0Q e])++r):=by
     have:=b1e (id:=e.id) h;rw[hb] at this
     simpa using this
    have e1:a5R ts (d++e :: r,acc) e=((d++[a0Q e])++r,acc++[e.id]):=by
     unfold a5R;simp only;rw[if_pos hf,hb];simp
    rw[e1,a3K ts r _ _ h2]
    have e2:a0O ts d (e :: r)=((a0O ts (d++[a0Q e]) r).1,e.id :: (a0O ts (d++[a0Q e]) r).2):=by
     rw[a0O,if_pos ⟨hk,hf⟩]
    rw[e2];simp
   ·have e1:a5R ts (d++e :: r,acc) e=((d++[e])++r,acc):=by
     unfold a5R;simp only;rw[if_neg hf];simp
    rw[e1,a3K ts r _ _ h1]
    have e2:a0O ts d (e :: r)=a0O ts (d++[e]) r:=by
     rw[a0O,if_neg (fun h=>hf h.2)]
    rw[e2]
  ·have hw:¬ (a0T e=true):=by simp[a0T,hk]
   rw[List.filter_cons,if_neg hw]
   have e2:a0O ts d (e :: r)=a0O ts (d++[e]) r:=by
    rw[a0O,if_neg (fun h=>hk h.1)]
   rw[e2,<- a3K ts r _ _ h1];simp
theorem a5F(ts:List (ByteArray × Int))(es:List Ent)(h:Ids es):a0R ts es=(es.filter a0T).foldl (a5R ts) (es,[]):=by
 have:=a3K ts es [] [] (by simpa using h);simp only[List.nil_append] at this;rw[this];rfl
end Desk
theorem Step.keepN{S:Col->Prop}{col col':Nat->Option Col}(h:Step S B col col' w w'){b:Nat}(hc:col b=none)(hB:b<B):col' b=none:=by
 cases e:col' b with
 |none=>rfl
 |some c =>
  rcases h.new b c e with e1|e1
  ·rw[hc] at e1;cases e1
  ·omega
theorem Step.own{S:Col->Prop}{col col':Nat->Option Col}{base e size:Nat}(h:Step S B col col' w w')(ho:w.ownsRow base e size v n xs)(hv:∀ b,v.ownBlock=some b->col b=none/\b<B):w'.ownsRow base e size v n xs:=by
 obtain⟨G,a1,a2⟩:=h.left;exact a1i ho a1 (fun b hb=>a2 b (.inr (hv b hb)))
theorem DK.none{r:Raw}{col:Nat->Option Col}(h:DK w d r col){b:Nat}(hb:w.heap.size<=b):col b=none:=by
 cases e:col b with
 |none=>rfl
 |some c=>have:=h.lt _ _ e;omega
structure a2I(w:World)(B:Nat)(col:Nat->Option Col)(v:Value)(l:List Int):Prop where
 own:w.ownsRow B 3 1 v l.length (l.map (Value.int .i64))
 no:∀ b,v.ownBlock=some b->col b=none
theorem a2I.nil(w:World)(B:Nat)(col:Nat->Option Col):a2I w B col (.slice none 0 0) []:=⟨World.ownsRow_nil _ _ _ _,fun b hb=>by cases hb⟩
theorem a2I.step{S:Col->Prop}{col col':Nat->Option Col}(h:a2I w B0 col v l)(st:Step S B col col' w w')(hB:w.heap.size<=B):a2I w' B0 col' v l:=by
 have hv:∀ b,v.ownBlock=some b->col b=none/\b<B:=fun b hb=>⟨h.no b hb,Nat.lt_of_lt_of_le (h.own.lt b hb).2 hB⟩
 exact⟨st.own h.own hv,fun b hb=>st.keepN (hv b hb).1 (hv b hb).2⟩
theorem a2I.later{col:Nat->Option Col}(h:a2I w B0 col v l)(k:Below w.heap.size w w'):a2I w' B0 col v l:=⟨a1g h.own k,h.no⟩
theorem a2I.slice{col:Nat->Option Col}(h:a2I w B col v l):∃ a cap,v=.slice a l.length cap:=by
 rcases h.own.2 with ⟨rfl,h0⟩|⟨g,cap,_,rfl,_⟩
 ·rw[h0];exact⟨_,_,rfl⟩
 ·exact⟨_,_,rfl⟩
def anyS(_:Col):Prop:=True
theorem Step.any{S:Col->Prop}{col col':Nat->Option Col}(h:Step S B col col' w w')(hB:B'<=B):Step anyS B' col col' w w':=h.mono (fun _ _=>trivial) hB
open Desk (Ent St Ids kept a0C a0Q a1C a2e ofB a0y a2c Mid a1H)
theorem b0x:∀ (l:List Int)(a b:Int),l.Pairwise (· < ·)->(∀ x∈l,a<=x/\x<=b)->(l.length:Int)<=max 0 (b-a+1)
 |[],a,b,_,_=>by simp;omega
 |x :: l,a,b,h,hb=>by
  rw[List.pairwise_cons] at h;have h1:=hb x (by simp);have ih:=b0x l (x+1) b h.2 (fun y hy=>⟨by have:=h.1 y hy;omega,(hb y (by simp[hy])).2⟩);simp only[List.length_cons];omega
theorem a1x(h:Mid s):s.es.length<=60:=by
 have hi:(s.es.map fun e:Ent=>e.id).Pairwise (· < ·):=h.ids
 have:=b0x _ 1 60 hi (fun x hx=>by
  obtain⟨e,he,rfl⟩:=List.mem_map.1 hx;have h1:=h.idb e he;have h2:=h.g1
  omega)
 rw[List.length_map] at this;omega
theorem b2Z{α:Type}:∀ (l m:List α),l.Nodup->(∀ x∈l,x∈m)->l.length<=m.length
 |[],m,_,_=>by simp
 |a :: l,m,h,hs=>by
  rw[List.nodup_cons] at h;obtain⟨m1,m2,rfl⟩:=List.append_of_mem (hs a (by simp))
  have:=b2Z l (m1++m2) h.2 (fun x hx=>by
   have h1:=hs x (by simp[hx]);simp only[List.mem_append,List.mem_cons] at h1 ⊢;rcases h1 with e|e|e
   ·exact .inl e
   ·subst e;exact absurd hx h.1
   ·exact .inr e)
  simp only[List.length_append,List.length_cons] at this ⊢;omega
theorem b2I(at_:Int->Nat):∀ (es:List Ent),(∀ e∈es,e.a0e.length<=40)->(es.flatMap fun e=>e.a0e.map fun s=>(⟨s.1,s.2,e.id,at_ e.id⟩:Avl.It)).length<=40*es.length
 |[],_=>by simp
 |e :: es,h=>by
  have ih:=b2I at_ es (fun x hx=>h x (by simp[hx]));have:=h e (by simp);simp only[List.flatMap_cons,List.length_append,List.length_map,List.length_cons];omega
theorem b9S{l:List Avl.It}(h:Avl.Ord l):l.Nodup:=by
 rw[List.nodup_iff_pairwise_ne];refine List.Pairwise.imp ?_ h;intro a b hab e;subst e;unfold Avl.lt at hab;omega
theorem b8o{at_:Int->Nat}{T:Avl.S}(h:a2e name es at_ T)(hl:es.length<=60)(hs:∀ e∈es,e.a0e.length<=40):Avl.size T<=9000:=by
 have h1:=b2Z _ (es.flatMap fun e=>e.a0e.map fun s=>(⟨s.1,s.2,e.id,at_ e.id⟩:Avl.It)) (b9S h.1) (fun z hz=>by
  obtain⟨e,he,_,s,hs,rfl⟩:=(h.2 z).1 hz
  exact List.mem_flatMap.2 ⟨e,he,List.mem_map.2 ⟨s,hs,rfl⟩⟩)
 have h2:=b2I at_ es hs;rw[Avl.a1k] at h1;omega
theorem b4W{r:Raw}(h:Mid s)(ho:Of s r){now:Int}(he:a1H now e)(hi:i<r.tg.length):Fit r.tg[i] e:=by
 obtain⟨t1,t2⟩:=ho.th i hi;refine⟨he.sp,fun p=>?_,he.u1,he.u9,by have:=he.sl;omega⟩;have:=Desk.a7j r.tg[i].name p s.es h.small;have:=a1x h;rw[t1];omega
theorem a6d(h:Mid s):Desk.a9U s.es:=fun e he q hq=>((h.en e he).sp q hq).2.1
theorem b3a{r:Raw}(h:Mid s)(ho:Of s r)(hsp:c1P e.a0e)(hu:1<=e.a0c)(hi:i<r.tg.length)(hn:r.tg[i].name=e.a0k):
  a2V (a1z r.tg[i].A e.a0e e.a0c) r.tg[i].a0c e.a0e=Desk.a1e s.ts s.es e.a0k e.a0c e.a0e:=by
 have e1:=a8G h.tn (i:=i) (by rw[<- ho.len];exact hi);rw[ho.tsAt hi] at e1;rw[(ho.th i hi).1,hn] at *;exact Desk.b8v h.small (a6d h) hsp (by omega) e1
theorem b1H{r:Raw}(h:Mid s)(ho:Of s r)(hi:i<r.tg.length):Avl.Ord (Avl.a0w r.tg[i].T)/\Avl.size r.tg[i].T<=9000:=by
 obtain⟨_,t2⟩:=ho.th i hi;exact⟨t2.1,b8o t2 (a1x h) (fun e he=>(h.en e he).sl)⟩
theorem c2L{r:Raw}(h:Mid s)(ho:Of s r){g:EG}(hg:g∈r.eg)(hk:g.e.kind≠3)(hi:i<r.tg.length)(hn:r.tg[i].name=g.e.a0k):∀ p,0<=a1z r.tg[i].A g.e.a0e (-g.e.a0c) p:=by
 intro p;have hb:ofB r.tg[i].name g.e=true:=by simp[ofB,hn,Desk.a2u,hk]
 rw[(ho.th i hi).1,Desk.a8Q hb h.ids (ho.mem hg)];exact (Desk.a7j _ p _ (fun e he=>h.small e (Desk.a4r.1 he).1)).1
open Desk (Ent St Ids kept a0C a0Q a1C a2e ofB a0y a2c Mid a1H a5R)
noncomputable def bkG(Gr:List Int)(g:EG):EG:=@ite _ (g.e.id∈Gr) (Classical.propDecidable _) { g with e:=a0Q g.e } g
theorem a9R{g:EG}(h:g.e.id∈Gr):bkG Gr g={ g with e:=a0Q g.e }:=if_pos h
theorem a5k{g:EG}(h:g.e.id ∉ Gr):bkG Gr g=g:=if_neg h
noncomputable def a8r(Gr:List Int)(eg:List EG):List EG:=eg.map (bkG Gr)
theorem c1v(eg:List EG):a8r [] eg=eg:=by
 unfold a8r
 conv=>rhs;rw[<- List.map_id eg]
 apply List.map_congr_left;intro g _;rw[a5k (by simp)];rfl
theorem b8O(Gr:List Int)(id:Int)(eg:List EG):a1R id 1 0 (a8r Gr eg)=a8r (Gr++[id]) eg:=by
 unfold a1R a8r;rw[List.map_map];apply List.map_congr_left;intro g _;simp only[Function.comp]
 by_cases h1:g.e.id∈Gr
 ·rw[a9R h1,a9R (List.mem_append_left _ h1)]
  split <;> rfl
 ·rw[a5k h1]
  by_cases h2:g.e.id=id
  ·rw[if_pos h2,a9R (List.mem_append_right _ (by rw[h2];exact List.mem_singleton.2 rfl))];rfl
  ·rw[if_neg h2,a5k (fun hm=>by rcases List.mem_append.1 hm with e|e;exact h1 e;exact h2 (List.mem_singleton.1 e))]
theorem c1w{eg:List EG}{g:EG}(hg:g∈eg)(h:g.e.id ∉ Gr):g∈a8r Gr eg:=by
 unfold a8r;exact List.mem_map.2 ⟨g,hg,a5k h⟩
theorem c3G(Gr:List Int)(eg:List EG)(p:Nat->Bool)(hp:∀ g∈eg,g.e.kind=3->(p g.eb=true↔g.e.id∈Gr)):(((eg.filter fun g=>g.e.kind==3).map (·.eb)).filter fun b=>!p b)=((a8r Gr eg).filter fun g=>g.e.kind==3).map (·.eb):=by
 induction eg with
 |nil=>rfl
 |cons g eg ih =>
  have ih:=ih (fun x hx=>hp x (List.mem_cons_of_mem _ hx));have e1:a8r Gr (g :: eg)=bkG Gr g :: a8r Gr eg:=rfl;rw[e1]
  by_cases hk:g.e.kind=3
  ·have hkb:(g.e.kind==3)=true:=by rw[hk];rfl
   rw[List.filter_cons,if_pos hkb,List.map_cons,List.filter_cons]
   by_cases hG:g.e.id∈Gr
   ·have h1:p g.eb=true:=(hp g List.mem_cons_self hk).2 hG;rw[if_neg (by rw[h1];simp),a9R hG,List.filter_cons,if_neg (by simp[a0Q])];exact ih
   ·have h1:p g.eb=false:=by
     cases h:p g.eb
     ·rfl
     ·exact absurd ((hp g List.mem_cons_self hk).1 h) hG
    rw[if_pos (by rw[h1];rfl),a5k hG,List.filter_cons,if_pos hkb,List.map_cons,ih]
  ·have hkb:¬ ((g.e.kind==3)=true):=by simpa using hk
   rw[List.filter_cons,if_neg hkb,List.filter_cons]
   by_cases hG:g.e.id∈Gr
   ·rw[a9R hG,if_neg (by simp[a0Q])];exact ih
   ·rw[a5k hG,if_neg hkb];exact ih
def gAt(s:St)(k:Nat):List Ent × List Int:=((s.es.filter Desk.a0T).take k).foldl (a5R s.ts) (s.es,[])
theorem b6U(s:St):gAt s 0=(s.es,[]):=rfl
theorem b6V(s:St)(hk:k<(s.es.filter Desk.a0T).length):gAt s (k+1)=a5R s.ts (gAt s k) (s.es.filter Desk.a0T)[k]:=by
 unfold gAt;rw[List.take_succ_eq_append_getElem hk,List.foldl_append];rfl
theorem c5h(s:St)(h:Ids s.es)(hk:(s.es.filter Desk.a0T).length<=k):gAt s k=Desk.a0R s.ts s.es:=by
 unfold gAt;rw[List.take_of_length_le hk,Desk.a5F s.ts s.es h]
structure GX(w wx:World)(d:Nat)(s:St)(r:Raw)(col:Nat->Option Col)(v4:Value)(k:Nat)(v:Value)(rk:Raw)(ck:Nat->Option Col):Prop where
 dk:DK wx d rk ck
 of:Of { s with es:=(gAt s k).1 } rk
 hl:Hl rk
 wl:rk.wl=r.wl
 eg:rk.eg=a8r (gAt s k).2 r.eg
 st:Step anyS w.heap.size col ck w wx
 nr:a2I wx w.heap.size ck v (gAt s k).2
 mid:Mid { s with es:=(gAt s k).1 }
 gm:∀ x∈(gAt s k).2,∃ e∈(s.es.filter Desk.a0T).take k,e.id=x
 row:wx.ownsRow 0 197 1 v4 r.wl.length (r.wl.map a5x)
 rc:∀ b,v4.ownBlock=some b->ck b=some .wa
def GI(w wx:World)(d:Nat)(s:St)(r:Raw)(col:Nat->Option Col)(v4:Value)(k:Nat)(v:Value):Prop:=∃ rk ck,GX w wx d s r col v4 k v rk ck
def a5o(w:World)(d:Nat)(s:St)(col:Nat->Option Col)(v:Value)(w':World):Prop :=
 ∃ (r':Raw) (col':Nat->Option Col),DK w' d r' col'/\Of { s with es:=(Desk.a0R s.ts s.es).1 } r'/\Wl r'/\Hl r'/\Step anyS w.heap.size col col' w w'/\a2I w' w.heap.size col' v (Desk.a0R s.ts s.es).2
theorem GX.next{r:Raw}{col:Nat->Option Col}{rk:Raw}{ck:Nat->Option Col}(h:GX w wx d s r col v4 k v rk ck)(ho:Of s r)(hw:Wl r)(hid:Ids s.es)(hk:k<r.wl.length):
  ∃ (g:EG) (hk':k<(s.es.filter Desk.a0T).length),g∈r.eg/\g∈rk.eg/\g.eb=r.wl[k]/\g.e=(s.es.filter Desk.a0T)[k]/\g.e.kind=3/\g.e.id ∉ (gAt s k).2:=by
 have e1:s.es.filter Desk.a0T=(r.eg.filter fun g=>g.e.kind==3).map (·.e):=by
  rw[<- ho.es,List.filter_map];rfl
 have hl:k<(r.eg.filter fun g=>g.e.kind==3).length:=by
  have:=hk;rw[hw,List.length_map] at this;exact this
 have hk':k<(s.es.filter Desk.a0T).length:=by rw[e1,List.length_map];exact hl
 have hge:((r.eg.filter fun g=>g.e.kind==3)[k]).e=(s.es.filter Desk.a0T)[k]:=by simp only[e1,List.getElem_map]
 have hm:=List.mem_filter.1 (zg hl)
 have hno:((r.eg.filter fun g=>g.e.kind==3)[k]).e.id ∉ (gAt s k).2:=by
  intro hx;obtain⟨e,he,e2⟩:=h.gm _ hx;obtain⟨j,hj,rfl⟩:=List.getElem_of_mem he;rw[List.length_take] at hj;rw[List.getElem_take,hge] at e2
  have hp:(s.es.filter Desk.a0T).Pairwise fun a b=>a.id<b.id:=by
   have:=Desk.a5J Desk.a0T hid;unfold Ids at this;rw[List.pairwise_map] at this;exact this
  have:=List.pairwise_iff_getElem.1 hp j k (by omega) hk' (by omega);omega
 refine⟨_,hk',hm.1,?_,?_,hge,by simpa using hm.2,hno⟩
 ·rw[h.eg];exact c1w hm.1 hno
 ·have e3:r.wl[k]?=some ((r.eg.filter fun g=>g.e.kind==3)[k]).eb:=by rw[hw,List.getElem?_map,List.getElem?_eq_getElem hl];rfl
  rw[List.getElem?_eq_getElem hk] at e3;exact (Option.some.inj e3).symm
theorem GX.no{r:Raw}{col:Nat->Option Col}{rk:Raw}{ck c1:Nat->Option Col}(h:GX w wx d s r col v4 k v rk ck)(hk':k<(s.es.filter Desk.a0T).length)(q1:DK w1 d rk c1)(q2:Step (·=.a0k i) wx.heap.size ck c1 wx w1)(hf:Desk.a1e s.ts (gAt s k).1 (s.es.filter Desk.a0T)[k].a0k (s.es.filter Desk.a0T)[k].a0c (s.es.filter Desk.a0T)[k].a0e=false):
  GX w w1 d s r col v4 (k+1) v rk c1:=by
 have e:gAt s (k+1)=gAt s k:=by
  rw[b6V s hk'];unfold a5R;rw[if_neg (by rw[hf];simp)]
 obtain⟨G,a1,a2⟩:=q2.left;refine⟨q1,by rw[e];exact h.of,h.hl,h.wl,by rw[e];exact h.eg,h.st.trans (q2.any h.st.size),by rw[e];exact h.nr.step q2 (zq _),by rw[e];exact h.mid,fun x hx=>?_,a1i h.row a1 (fun b hb=>a2 b (.inl ⟨_,h.rc b hb,by simp⟩)),fun b hb=>q2.a9i _ _ (h.rc b hb)⟩;rw[e] at hx;obtain⟨y,hy,e2⟩:=h.gm x hx;rw[List.take_succ_eq_append_getElem hk'];exact⟨y,List.mem_append_left _ hy,e2⟩
theorem c2K(h:Mid s)(he:e∈s.es)(hk:e.kind=3)(hf:Desk.a1e s.ts s.es e.a0k e.a0c e.a0e=true):Mid { s with es:=a0C e.id s.es }:=by
 obtain⟨l,r,e1,e2,_⟩:=Desk.a8i h.ids he rfl;have h':Mid ⟨s.ts,l++e :: r,s.given,s.now⟩:=by rw[<- e1];exact h
 have:=h'.grant hk (by rw[<- e1];exact hf);rw[e2];exact this
theorem GX.yes{r:Raw}{col:Nat->Option Col}{rk:Raw}{ck c1:Nat->Option Col}(h:GX w wx d s r col v4 k v rk ck)(hk':k<(s.es.filter Desk.a0T).length){g:EG}(hg:g∈rk.eg)(hge:g.e=(s.es.filter Desk.a0T)[k])(hk3:g.e.kind=3)(hi:i<rk.tg.length)(hname:rk.tg[i].name=g.e.a0k)
  (q2:Step (·=.a0k i) wx.heap.size ck c1 wx w1) (sp:a7R w1 d (rk.setT i (rk.tg[i].with (a1z rk.tg[i].A g.e.a0e g.e.a0c) (a7e g.e.id g.eb rk.tg[i].T g.e.a0e))) c1 g w2) (hf:Desk.a1e s.ts (gAt s k).1 g.e.a0k g.e.a0c g.e.a0e=true)
  (ho:Off v.ownBlock.toList w2 w3) (hv':∀ c2,(∀ b,v.ownBlock=some b->c2 b=none)->(∀ b,w2.heap.size<=b->c2 b=none)->a2I w3 w.heap.size c2 v' ((gAt s k).2++[g.e.id])):
  GI w w3 d s r col v4 (k+1) v':=by
 obtain⟨x,l',c2,e1,e2,p1,p2,p3,p4⟩:=sp;have hfk:Desk.a1e s.ts (gAt s k).1 (s.es.filter Desk.a0T)[k].a0k (s.es.filter Desk.a0T)[k].a0c (s.es.filter Desk.a0T)[k].a0e=true:=by rw[<- hge];exact hf
 have e:gAt s (k+1)=(a0C g.e.id (gAt s k).1,(gAt s k).2++[g.e.id]):=by
  rw[b6V s hk'];unfold a5R;rw[if_pos hfk,hge]
 have hn:=h.dk.ni;have hO:=(h.of.book h.mid.tn h.mid.ids hn hg hk3 ((h.mid.en _ (h.of.mem hg)).ri) hi hname).1;have hnr1:=(h.nr.step q2 (zq _)).step p4 (zq _);have hvn:∀ b,v.ownBlock=some b->c2 b=none:=hnr1.no;have hD:DK w3 d _ c2:=p3.off ho (fun y hy=>hvn y (Option.mem_toList.1 hy));have st3:Step anyS w.heap.size c2 c2 w2 w3:=⟨⟨_,ho,fun y hy=>.inr ⟨hvn y (Option.mem_toList.1 hy),(hnr1.own.lt y (Option.mem_toList.1 hy)).1⟩⟩,fun _ _ h=>h,fun _ _ h=>.inl h⟩;have t1:=h.st.trans (q2.any h.st.size);have t2:=t1.trans (p4.any t1.size);obtain⟨G1,a1,a2⟩:=q2.left;obtain⟨G2,b1,b2⟩:=p4.left;have hrc1:∀ b,v4.ownBlock=some b->c1 b=some .wa:=fun b hb=>q2.a9i _ _ (h.rc b hb)
 have hrc2:∀ b,v4.ownBlock=some b->c2 b=some .wa:=fun b hb=>p4.a9i _ _ (hrc1 b hb)
 have hrow2:=a1i (a1i h.row a1 (fun b hb=>a2 b (.inl ⟨_,h.rc b hb,by simp⟩))) b1 (fun b hb=>b2 b (.inl ⟨_,hrc1 b hb,by unfold b1x;simp⟩));refine⟨_,c2,hD,⟨hO.now,hO.given,hO.ts,by rw[e];exact hO.es,by rw[e];exact hO.th,hO.tb⟩,h.hl.book (r:=rk) hn hg (by omega) e2 p1 p2,h.wl,?_,t2.trans st3,by rw[e];exact hv' c2 hvn (fun b hb=>p3.none hb),?_,fun y hy=>?_,a1i hrow2 ho (fun b hb hx=>?_),hrc2⟩
 ·rw[e];show a1R g.e.id 1 0 rk.eg=a8r ((gAt s k).2++[g.e.id]) r.eg;rw[h.eg,b8O]
 ·rw[e];exact c2K h.mid (h.of.mem hg) hk3 hf
 ·rw[e] at hy;rw[List.take_succ_eq_append_getElem hk'];rcases List.mem_append.1 hy with hy|hy
  ·obtain⟨z,hz,e3⟩:=h.gm y hy;exact⟨z,List.mem_append_left _ hz,e3⟩
  ·have:y=g.e.id:=List.mem_singleton.1 hy;exact⟨_,List.mem_append_right _ (List.mem_singleton.2 rfl),by rw[<- hge,this]⟩
 ·have:=hvn b (Option.mem_toList.1 hx);rw[hrc2 b hb] at this;cases this
theorem b7p{g:EG}(hk:g.e.kind=3):((bkG Gr g).e.kind==1)=true↔g.e.id∈Gr:=by
 by_cases h:g.e.id∈Gr
 ·rw[a9R h];simp[h,a0Q]
 ·rw[a5k h];simp[h,hk]
theorem c6L(Gr:List Int)(g:EG):(bkG Gr g).eb=g.eb:=by
 by_cases h:g.e.id∈Gr
 ·rw[a9R h]
 ·rw[a5k h]
def b3R(eg:List EG)(Gr:List Int)(b:Nat):Bool:=eg.any fun g=>decide (g.eb=b) && Gr.any fun x=>decide (x=g.e.id)
theorem c7b(eg:List EG)(Gr:List Int)(hn:(eg.map (·.eb)).Nodup):∀ g∈eg,g.e.kind=3->(bkG Gr g).eb=g.eb/\((bkG Gr g).e.kind==1)=b3R eg Gr g.eb:=by
 intro g hg hk;refine⟨c6L Gr g,?_⟩;have h1:=b7p (Gr:=Gr) hk
 have h2:b3R eg Gr g.eb=true↔g.e.id∈Gr:=by
  unfold b3R;rw[List.any_eq_true];constructor
  ·rintro ⟨x,hx,e1⟩;rw[Bool.and_eq_true,decide_eq_true_iff,List.any_eq_true] at e1;obtain⟨e1,y,hy,e2⟩:=e1;have:x=g:=a0W _ hn hx hg e1;have e3:y=x.e.id:=of_decide_eq_true e2;rw[<- this,<- e3];exact hy
  ·intro h;refine⟨g,hg,?_⟩;rw[Bool.and_eq_true,decide_eq_true_iff,List.any_eq_true];exact⟨rfl,g.e.id,h,decide_eq_true rfl⟩
 cases ha:((bkG Gr g).e.kind==1) <;> cases hb:b3R eg Gr g.eb
 ·rfl
 ·exact absurd (h1.2 (h2.1 hb)) (by rw[ha];simp)
 ·exact absurd (h2.2 (h1.1 ha)) (by rw[hb];simp)
 ·rfl
theorem a5e(ts:List (ByteArray × Int)):∀ (l:List Ent)(p:List Ent × List Int),(l.foldl (a5R ts) p).2.length<=p.2.length+l.length
 |[],p=>by simp
 |e :: l,p=>by
  have ih:=a5e ts l (a5R ts p e);have:(a5R ts p e).2.length<=p.2.length+1:=by unfold a5R;split <;> simp
  simp only[List.foldl_cons,List.length_cons];omega
theorem c5g(s:St)(k:Nat):(gAt s k).2.length<=k:=by
 have:=a5e s.ts ((s.es.filter Desk.a0T).take k) (s.es,[]);have h2:=List.length_take_le k (s.es.filter Desk.a0T);unfold gAt;simp only[List.length_nil] at this;omega
theorem b3y{r:Raw}{col:Nat->Option Col}(h:DK w d r col)(ho:Of s r)(hw:Wl r)(hh:Hl r)(hm:Mid s):
  Calls Tryz.prog 65 #[.pointer (some ⟨d,0,none⟩)] w fun e w'=>∃ v,e=.returned v/\a5o w d s col v w':=by
 obtain⟨i0,hi0,hz0,hz1,hz2⟩:=info_parts b1S;obtain⟨v4,c4,own4,hc4⟩:=h.wa
 have hwn:r.wl.length<=60:=by
  rw[hw,List.length_map];have h1:=List.length_filter_le (fun g:EG=>g.e.kind==3) r.eg;have h2:=a1x hm;have h3:r.eg.length=s.es.length:=by rw[<- ho.es];simp
  omega
 have G0:Hid (GI w w d s r col v4 0 (.slice none 0 0)):=⟨r,col,h,ho,hh,rfl,by rw[b6U,c1v],Step.refl _ _ _ _,a2I.nil _ _ _,hm,fun x hx=>by rw[b6U] at hx;simp at hx,own4,hc4⟩;have HH:=a0b (And.intro h (And.intro ho (And.intro hw (And.intro hh hm))))
 have hv:∃ a cap,v4=.slice a r.wl.length cap:=by
  rcases own4.2 with ⟨rfl,h⟩|⟨g,cap,_,rfl,_⟩
  ·rw[h];exact⟨_,_,rfl⟩
  ·exact⟨_,_,rfl⟩
 obtain⟨a,cap,rfl⟩:=hv;clear h ho hw hh hm own4 hc4
 go_enter Tryz.func65,Tryz.ntmps65
 go_wp2_with fail
 go_loopw [3,5,11] (fun vg _ vi wx=>∃ k:Nat,k<=r.wl.length/\vi=.int .i64 k/\GI w wx d s r col (.slice a r.wl.length cap) k vg) (fun _ _ vi _=>r.wl.length-(intOf vi).toNat)
 case atStart=>exact⟨0,Nat.zero_le _,rfl,G0.out⟩
 case round =>
  obtain⟨k,hk,rfl,rk,ck,X⟩:=hrel
  by_cases hlt:k<r.wl.length
  ·have hi0':(k:Int)<(r.wl.length:Int):=by omega
   obtain⟨g,hk',hgr,hgk,hgeb,hge,hk3,hno⟩:=X.next HH.out.2.1 HH.out.2.2.1 HH.out.2.2.2.2.ids hlt;obtain⟨Hh,cap',e1⟩:=Joins.ownsRow_form X.row (by omega);simp only[Value.slice.injEq,true_and] at e1;obtain⟨rfl,rfl⟩:=e1;have a0:=X.row.cellAt k (by omega);rw[List.getElem?_map,List.getElem?_eq_getElem hlt,Option.map_some,<- hgeb] at a0;unfold a5x at a0;obtain⟨q1,q2,q3⟩:=X.dk.en g hgk;have co:=q1.en.c1;obtain⟨i,hi,hname,htb⟩:=X.of.tb g hgk;have hEO:=X.mid.en _ (X.of.mem hgk);have hFit:=b4W X.mid X.of hEO hi;have hHF:=b3a X.mid X.of hEO.sp hEO.u1 hi hname;have hRM:=b1H X.mid X.of hi;have HX:=a0b X;have HG:=a0b (And.intro hgk (And.intro hge (And.intro hk3 (And.intro hname q2))))
   cases hf:Desk.a1e s.ts (gAt s k).1 g.e.a0k g.e.a0c g.e.a0e
   ·have TK:=a0b (b7e X.dk i hi q1 htb (by rw[q2];simp) (by rw[q3];simp) hFit (hHF.trans hf))
    have FN:Hid (Desk.a1e s.ts (gAt s k).1 (s.es.filter Desk.a0T)[k].a0k (s.es.filter Desk.a0T)[k].a0c (s.es.filter Desk.a0T)[k].a0e=false):=by
     show _=_;rw[<- hge];exact hf
    have HK:=a0b hk';clear hf hHF hFit hRM hEO q1 q2 q3 X hgk hge hk3 hname hno hgr hgeb htb
    go_wp2_with fail
    refine TK.out.mono ?_;rintro e w1 ⟨rfl,c1,p1,p2⟩;have HN:Hid (GI w w1 d s r col (.slice (some ⟨Hh,0,none⟩) r.wl.length cap) (k+1) u3):=⟨rk,c1,HX.out.no HK.out p1 p2 FN.out⟩;clear p1 p2 TK HX HG a0 co FN
    go_wp2_with fail
    go_roundw
    case rel=>exact⟨k+1,by omega,by go_num,HN.out⟩
    case measure=>simp[intOf];omega
   ·have hR0:c3L rk.tg[i].T g.e.id g.e.a0e:=⟨hRM.1,hRM.2,(X.of.book X.mid.tn X.mid.ids X.dk.ni hgk hk3 hEO.ri hi hname).2,a6b hEO.ri⟩;have TK:=a0b (b3F X.dk i hi q1 htb (by rw[q2];simp) (by rw[q3];simp) hFit hR0 (hHF.trans hf));have HF:=a0b hf;have hls:(gAt s k).2.length<=60:=by have:=c5g s k;omega
    have hlen:rk.hl.length<=1000:=by
     have h1:=X.hl.len
     have h2:rk.eg.length=(gAt s k).1.length:=by have:=X.of.es;rw[<- List.length_map (f:=(·.e)),this]
     have h3:=a1x X.mid;simp only at h3;omega
    have HSX:=a0b (And.intro X.hl.1 (And.intro hlen (X.hl.has hgk (by omega))));have HK:=a0b hk';clear hf hHF hFit hRM hEO q1 q2 q3 X hgk hge hk3 hno hgr hgeb htb hR0 hlen;have HNM:=a0b hname;clear hname
    go_wp2_with fail
    refine TK.out.mono ?_;rintro e w1 ⟨rfl,c1,p1,p2⟩;have ST:=a0b (b0w p1 HSX.out.1 HSX.out.2.1 (g:=g) HG.out.1 ⟨a9r g,HSX.out.2.2,rfl,rfl⟩);have P2:=a0b p2;clear p1 p2 TK a0 co
    go_wp2_with fail
    refine ST.out.mono ?_;rintro e w2 ⟨rfl,sp⟩;have SP:=a0b sp;obtain⟨x,l',c2,e1,e2,s1,s2,s3,s4⟩:=sp;have hmem:({ g with e:={ g.e with kind:=1,a0Z:=0 } }:EG)∈a1R g.e.id 1 0 rk.eg:=List.mem_map.2 ⟨g,HG.out.1,if_pos rfl⟩;have c02:w2.cell? ⟨g.eb,0,none⟩=some (.int .i64 g.e.id):=(s3.en _ hmem).1.en.c0;have NR:=a0b ((HX.out.nr.step P2.out (zq _)).step s4 (zq _));have hws:w.heap.size<=w2.heap.size:=Nat.le_trans (Nat.le_trans HX.out.st.size P2.out.size) s4.size;clear s1 s2 s3 s4 e1 e2 hmem ST
    go_wp2_with (first
     |(at_builtin;refine wpList_append_lies _ rfl _ _ 38 rfl w.heap.size 3 i0 _ 1 8 Tryz.underlying38 hi0 hz0 hz1 hz2 rfl (by decide) _ _ _ rfl (NR.out.own.alloc _) ⟨w2.heap.size,0,none⟩ 1 1 [.int .i64 g.e.id] rfl rfl (World.news_of_block (cs:=#[.int .i64 g.e.id]) (a0p w2 _)) (by simp[Value.oneCell']) (by omega) (by unfold maxLen;omega) (by omega) (by simp;omega) (w2.heap.size+1) (by simp) ?_;intro g2 cap2 w3 hown hgrow hat hlt2))
    have ko:Off u3.ownBlock.toList w2 w3:=Off.grown ((Off.refl _ w2).alloc _) hgrow (fun k hk=>.inl (Option.mem_toList.2 hk));have hat':u3.ownBlock=some g2\/g2=w2.heap.size+1:=hat
    have HN:Hid (GI w w3 d s r col (.slice (some ⟨Hh,0,none⟩) r.wl.length cap) (k+1) (.slice (some ⟨g2,0,none⟩) ((gAt s k).2.length+1) cap2)) :=
     HX.out.yes HK.out HG.out.1 HG.out.2.1 HG.out.2.2.1 hi HNM.out P2.out SP.out HF.out ko (fun c2 n1 n2=>⟨by rw[List.length_append,List.map_append];exact hown,fun b hb=>by
      have:g2=b:=by simpa[Value.ownBlock] using hb
      subst this;rcases hat' with e|e
      ·exact n1 g2 e
      ·exact n2 g2 (by omega)⟩)
    clear hown hgrow hat ko hat' HX HG HK SP NR P2 HNM HF HSX;go_roundw
    case rel=>exact⟨k+1,by omega,by go_num,HN.out⟩
    case measure=>simp[intOf];omega
  ·have hi1:¬ ((k:Int)<(r.wl.length:Int)):=by omega
   obtain⟨v,c4',own',hc'⟩:=X.dk.wa;have f4:=X.dk.fz 4;have hd:=X.dk.dc;have hvd:d ∉ v.ownBlock.toList:=fun e=>by have:=hc' _ (Option.mem_toList.1 e);rw[hd] at this;cases this
   have hkl:(s.es.filter Desk.a0T).length<=k:=by
    have h1:=HH.out.2.2.1
    have h2:s.es.filter Desk.a0T=(r.eg.filter fun g=>g.e.kind==3).map (·.e):=by rw[<- HH.out.2.1.es,List.filter_map];rfl
    rw[h2,List.length_map];rw[h1,List.length_map] at hlt;omega
   have hga:=c5h s HH.out.2.2.2.2.ids hkl;have PB:=a0b (c7b r.eg (gAt s k).2 HH.out.1.nd);generalize b3R r.eg (gAt s k).2=p at PB
   have DL:=a0b (g9J (.inl ⟨rfl,rfl⟩) rk.wl p v wr (fun wx ko b hb=>by
    have hb':b∈r.wl:=by rw[<- X.wl];exact hb
    rw[HH.out.2.2.1] at hb';obtain⟨g,hg,rfl⟩:=List.mem_map.1 hb';obtain⟨hg1,hg2⟩:=List.mem_filter.1 hg;have hg3:g.e.kind=3:=by simpa using hg2
    have hmem:bkG (gAt s k).2 g∈rk.eg:=by rw[X.eg];exact List.mem_map.2 ⟨g,hg1,rfl⟩
    obtain⟨q1,q2,q3⟩:=X.dk.en _ hmem;have hkc:wx.cell? ⟨(bkG (gAt s k).2 g).eb,1,none⟩=some (.int .i64 (bkG (gAt s k).2 g).e.kind):=ko.cell (fun e=>by have:=hc' _ (Option.mem_toList.1 e);rw[q2] at this;cases this) q1.k;obtain⟨e1,e2⟩:=PB.out g hg1 hg3;rw[e1] at hkc;rw[<- e2]
    exact b3r g.eb _ wx hkc) own' (by rw[X.wl];omega))
   have VC:=a0b (And.intro hc' hvd);have HX:=a0b X;clear X own' hc' hvd hd
   go_wp2_with fail
   refine DL.out.mono ?_;rintro e w2 ⟨v',rfl,k1,k2,k3⟩
   obtain⟨va,vn,vc,rfl⟩:∃ a n cap,v'=.slice a n cap:=by
    rcases k2.2 with ⟨e,_⟩|⟨_,_,_,e,_⟩
    ·exact⟨_,_,_,e⟩
    ·exact⟨_,_,_,e⟩
   have c42:=k1.cell VC.out.2 c4';have f42:=(k1.frozen (o:=4) VC.out.2 (World.block_lt_of_cell? _ _ c4')).trans f4;have SW:=a0b (HX.out.dk.setWait VC.out.1 k1 k2 (fun b hb=>.inl (by rw[<- k3];exact hb)))
   have HF:Hid (a5o w d s col u3 (w2.setCell ⟨d,4,none⟩ (.slice va vn vc))):=by
    obtain⟨col2,q1,q2⟩:=SW.out;have X:=HX.out;refine⟨_,col2,q1,?_,?_,X.hl,X.st.trans (q2.any X.st.size),?_⟩
    ·have o:=X.of;rw[hga] at o;exact⟨o.now,o.given,o.ts,o.es,o.th,o.tb⟩
    ·show (rk.wl.filter fun b=>!p b)=(rk.eg.filter fun g=>g.e.kind==3).map (·.eb);rw[X.wl,HH.out.2.2.1,X.eg];exact c3G _ _ p (fun g hg hk=>by rw[<- (PB.out g hg hk).2];exact b7p hk)
    ·rw[<- hga];exact X.nr.step q2 (zq _)
   clear k1 k2 k3 DL c4' f4 SW HX VC PB HH
   go_wp2_with fail
   go_ret;exact⟨_,rfl,HF.out⟩
open Desk (Ent St Ids kept a0C a0Q a1C a2e ofB a0y a2c Mid a1H a0z)
def a5i(s:St)(t:Int):List Ent:=s.es.filter (a0z t)
def eAt(s:St)(t:Int)(k:Nat):List Ent:=((a5i s t).take k).foldl (fun es e=>kept e.id es) s.es
theorem c3p(s:St)(t:Int)(hk:k<(a5i s t).length):eAt s t (k+1)=kept (a5i s t)[k].id (eAt s t k):=by
 unfold eAt;rw[List.take_succ_eq_append_getElem hk,List.foldl_append];rfl
theorem c3h(l:List Ent):∀ es:List Ent,l.foldl (fun es e=>kept e.id es) es=es.filter fun x=>l.all fun e=>x.id != e.id:=by
 induction l with
 |nil=>intro es;exact (List.filter_eq_self.2 (fun _ _=>rfl)).symm
 |cons e l ih =>
  intro es;rw[List.foldl_cons,ih];unfold kept;rw[List.filter_filter];apply List.filter_congr;intro x _;rw[List.all_cons,Bool.and_comm]
theorem c0W(s:St)(t:Int)(k:Nat):eAt s t k=s.es.filter fun x=>((a5i s t).take k).all fun e=>x.id != e.id:=c3h _ _
theorem c5v(s:St)(t:Int)(hid:Ids s.es)(hk:(a5i s t).length<=k):eAt s t k=s.es.filter fun e=>!a0z t e:=by
 rw[c0W,List.take_of_length_le hk];apply List.filter_congr;intro x hx
 cases h:a0z t x
 ·rw[Bool.not_false,List.all_eq_true];intro e he;obtain⟨he1,he2⟩:=List.mem_filter.1 he
  have:x.id≠e.id:=fun e1=>by
   have:=hid.one hx he1 e1;subst this;rw[h] at he2;cases he2
  simpa using this
 ·rw[Bool.not_true]
  cases h2:(a5i s t).all fun e=>x.id != e.id
  ·rfl
  ·rw[List.all_eq_true] at h2;have:=h2 x (List.mem_filter.2 ⟨hx,h⟩);simp at this
theorem b2c:e∈eAt s t k↔e∈s.es/\∀ x∈(a5i s t).take k,e.id≠x.id:=by
 rw[c0W,List.mem_filter,List.all_eq_true];constructor
 ·rintro ⟨h1,h2⟩;exact⟨h1,fun x hx=>by simpa using h2 x hx⟩
 ·rintro ⟨h1,h2⟩;exact⟨h1,fun x hx=>by simpa using h2 x hx⟩
theorem c0T(hid:Ids s.es)(t:Int):(a5i s t).Pairwise fun a b=>a.id<b.id:=by
 have:=Desk.a5J (a0z t) hid;unfold Ids at this;rw[List.pairwise_map] at this;exact this
theorem c3q(hid:Ids s.es)(he:e∈eAt s t k)(hb:a0z t e=true)(hmin:∀ x∈eAt s t k,a0z t x=true->e.id<=x.id):∃ hk:k<(a5i s t).length,e=(a5i s t)[k]:=by
 obtain⟨h1,h2⟩:=b2c.1 he;have hm:e∈a5i s t:=List.mem_filter.2 ⟨h1,hb⟩;obtain⟨j,hj,rfl⟩:=List.getElem_of_mem hm;have hup:=List.pairwise_iff_getElem.1 (c0T hid t)
 have hjk:k<=j:=by
  by_cases c:j<k
  ·exact absurd rfl (h2 (a5i s t)[j] (by
    have:j<((a5i s t).take k).length:=by rw[List.length_take];omega
    have h3:=zg this
    rwa [List.getElem_take] at h3))
  ·omega
 have hk:k<(a5i s t).length:=by omega
 refine⟨hk,?_⟩
 by_cases c:j=k
 ·subst c;rfl
 ·have hkm:(a5i s t)[k]∈eAt s t k:=by
   refine b2c.2 ⟨(List.mem_filter.1 (zg hk)).1,fun x hx e1=>?_⟩;obtain⟨i,hi,rfl⟩:=List.getElem_of_mem hx;rw[List.getElem_take] at e1;rw[List.length_take] at hi;have:=hup i k (by omega) hk (by omega);omega
  have h4:=hmin _ hkm (List.mem_filter.1 (zg hk)).2;have h5:=hup k j hk hj (by omega);omega
theorem c4X(h:Mid s)(t:Int)(k:Nat):Mid { s with es:=eAt s t k }:=by
 rw[c0W]
 exact h.filter (given:=s.given) (now:=s.now) (ts:=s.ts) (es:=s.es) _ (Int.le_refl _) h.n1 (fun e he _ hk=>by
  rcases (h.en e he).kd with e1|e1
  ·exact absurd e1.1 hk
  ·exact e1.2.1)
structure EX(w wx:World)(d:Nat)(s:St)(col:Nat->Option Col)(t:Int)(k:Nat)(v:Value)(rk:Raw)(ck:Nat->Option Col):Prop where
 dk:DK wx d rk ck
 of:Of { s with es:=eAt s t k } rk
 hl:Hl rk
 wl:Wl rk
 st:Step anyS w.heap.size col ck w wx
 nr:a2I wx w.heap.size ck v (((a5i s t).take k).map fun e=>e.id)
def EI(w wx:World)(d:Nat)(s:St)(col:Nat->Option Col)(t:Int)(k:Nat)(v:Value):Prop:=∃ rk ck,EX w wx d s col t k v rk ck
def a7d(w:World)(d:Nat)(s:St)(col:Nat->Option Col)(t:Int)(v:Value)(w':World):Prop :=
 ∃ (r':Raw) (col':Nat->Option Col),DK w' d r' col'/\Of { s with es:=s.es.filter fun e=>!a0z t e } r'/\Wl r'/\Hl r'/\Step anyS w.heap.size col col' w w'/\a2I w' w.heap.size col' v ((s.es.filter (a0z t)).map fun e=>e.id)
theorem b5l{r:Raw}{col:Nat->Option Col}(h:DK w d r col)(hh:Hl r)(hn:r.eg.length<=1000)(t:Int):
  Calls Tryz.prog 218 #[.pointer (some ⟨d,5,none⟩),.int .i64 t] w fun e w' =>
   ((∀ g∈r.eg,g.e.kind≠1->t<g.e.a0Z)/\e=.returned (.tuple #[.pointer none,.bool false])/\w'=w) \/
   (∃ g∈r.eg,g.e.kind≠1/\g.e.a0Z<=t/\(∀ x∈r.eg,x.e.kind≠1->¬ Hp.ahead (a9r x) (a9r g))/\e=.returned (.tuple #[.pointer (some ⟨g.eb,0,none⟩),.bool true])/\∃ l' col',Hp.a6r l'/\r.hl.Perm (a9r g :: l')/\DK w' d { r with hl:=l' } col'/\Step (fun c=>c=.he\/c=.desk) w.heap.size col col' w w'):=by
 obtain⟨v,a1,a2⟩:=h.he;have hlen:=hh.len;refine (b7P d 5 v r.hl t w a1 hh.1 (by omega)).mono ?_;rintro e w' (⟨h1,rfl,rfl⟩|⟨⟨h1,h2⟩,rfl,l',p,q1,q2⟩)
 ·refine .inl ⟨fun g hg hk=>?_,rfl,rfl⟩;have hm:=hh.has hg hk;rcases h1 with h1|h1
  ·rw[List.length_eq_zero_iff.1 h1] at hm;simp at hm
  ·obtain⟨i,hi,e⟩:=List.getElem_of_mem hm;have:=Hp.b4l hh.1 i hi;rw[Hp.a4H hi,e] at this;unfold Hp.ahead a9r at this;simp only at this;omega
 ·obtain⟨g,hg,hk,e⟩:=hh.at (x:=Hp.at_ r.hl 0) (by rw[Hp.a4H h1];exact zg h1);rw[e] at h2 q2 ⊢;refine .inr ⟨g,hg,hk,h2,fun x hx hkx=>?_,rfl,l',?_⟩
  ·obtain⟨i,hi,e2⟩:=List.getElem_of_mem (hh.has hx hkx);have:=Hp.b4l hh.1 i hi;rw[Hp.a4H hi,e2,e] at this;exact this
  ·obtain⟨col',k1,k2⟩:=h.heap a2 p;exact⟨col',q1,q2,k1,k2⟩
def b7y(w:World)(d:Nat)(s:St)(col:Nat->Option Col)(g:EG)(w':World):Prop :=
 ∃ (r':Raw) (col':Nat->Option Col),DK w' d r' col'/\Of { s with es:=kept g.e.id s.es } r'/\Wl r'/\Hl r'/\Step a5U w.heap.size col col' w w'
theorem a9f{r:Raw}{col:Nat->Option Col}(h:DK w d r col)(ho:Of s r)(hw:Wl r)(hm:Mid s){g:EG}(hg:g∈r.eg)(hh:Hl { r with eg:=a1F g.e.id r.eg }):
  Calls Tryz.prog 150 #[.pointer (some ⟨d,0,none⟩),.pointer (some ⟨g.eb,0,none⟩)] w fun e w'=>e=.returned (.tuple #[])/\b7y w d s col g w':=by
 have hid:=hm.idb _ (ho.mem hg);have hg1:=hm.g1
 by_cases hk:g.e.kind=3
 ·refine (b8h h hg hk (by omega) (fun b hb=>?_) ?_).mono ?_
  ·rw[hw] at hb;obtain⟨x,hx,rfl⟩:=List.mem_map.1 hb;exact⟨x,(List.mem_filter.1 hx).1,rfl⟩
  ·rw[hw,List.length_map];have h1:=List.length_filter_le (fun g:EG=>g.e.kind==3) r.eg;have h2:=a1x hm;have h3:r.eg.length=s.es.length:=by rw[<- ho.es];simp
   omega
  ·rintro e w' ⟨rfl,col',q1,q2⟩;refine⟨rfl,_,col',q1,?_,hw.goes h.ni h.nd hg,hh,q2⟩;have o:=ho.goesW hm.ids h.ni hg hk;exact⟨o.now,o.given,o.ts,o.es,o.th,o.tb⟩
 ·obtain⟨i,hi,hname,htb⟩:=ho.tb g hg;have hRM:=b1H hm ho hi;refine (b8i h hg hk i hi htb (b4W hm ho (hm.en _ (ho.mem hg)) hi) hRM.1 hRM.2 (c2L hm ho hg hk hi hname) (by omega)).mono ?_;rintro e w' ⟨rfl,col',q1,q2⟩;exact⟨rfl,_,col',q1,ho.goes hm.tn hm.ids h.ni hg hk hi hname,hw.goes1 h.ni hg hk,hh,q2⟩
def lenOf:Value->Nat
 |.slice _ n _=>n
 |_=>0
theorem a2I.len{col:Nat->Option Col}(h:a2I w B col v l):lenOf v=l.length:=by
 obtain⟨a,cap,rfl⟩:=h.slice;rfl
theorem EX.gone{col:Nat->Option Col}{rk:Raw}{ck c1:Nat->Option Col}(h:EX w wx d s col t k v rk ck)(hk:k<(a5i s t).length){g:EG}(hge:g.e=(a5i s t)[k])(p2:Step (fun c=>c=.he\/c=.desk) wx.heap.size ck c1 wx w1)(sp:b7y w1 d { s with es:=eAt s t k } c1 g w2)(ho:Off v.ownBlock.toList w2 w3)(hv':∀ c2,(∀ b,v.ownBlock=some b->c2 b=none)->(∀ b,w2.heap.size<=b->c2 b=none)->a2I w3 w.heap.size c2 v' ((((a5i s t).take k).map fun e=>e.id)++[g.e.id])):
  EI w w3 d s col t (k+1) v':=by
 obtain⟨r2,c2,q1,q2,q3,q4,q5⟩:=sp;have hnr:=(h.nr.step p2 (zq _)).step q5 (zq _);have hvn:∀ b,v.ownBlock=some b->c2 b=none:=hnr.no;have st3:Step anyS w.heap.size c2 c2 w2 w3:=⟨⟨_,ho,fun y hy=>.inr ⟨hvn y (Option.mem_toList.1 hy),(hnr.own.lt y (Option.mem_toList.1 hy)).1⟩⟩,fun _ _ h=>h,fun _ _ h=>.inl h⟩;have t1:=h.st.trans (p2.any h.st.size);have t2:=t1.trans (q5.any t1.size);refine⟨r2,c2,q1.off ho (fun y hy=>hvn y (Option.mem_toList.1 hy)),?_,q4,q3,t2.trans st3,?_⟩
 ·rw[c3p s t hk,<- hge];exact q2
 ·rw[List.take_succ_eq_append_getElem hk,List.map_append];have:[(a5i s t)[k]].map (fun e=>e.id)=[g.e.id]:=by rw[<- hge];rfl
  rw[this];exact hv' c2 hvn (fun b hb=>q1.none hb)
theorem c0U{r:Raw}{col:Nat->Option Col}(h:DK w d r col)(ho:Of s r)(hw:Wl r)(hh:Hl r)(hm:Mid s)(t:Int)(ht:∀ e∈s.es,e.kind≠1->t<=e.a0Z):
  Calls Tryz.prog 156 #[.pointer (some ⟨d,0,none⟩),.int .i64 t] w fun e w'=>∃ v,e=.returned v/\a7d w d s col t v w':=by
 obtain⟨i0,hi0,hz0,hz1,hz2⟩:=info_parts b1S;have E0:Hid (EI w w d s col t 0 (.slice none 0 0)):=⟨r,col,h,ho,hh,hw,Step.refl _ _ _ _,a2I.nil _ _ _⟩;have HM:=a0b (And.intro hm ht);clear h ho hw hh hm ht
 go_enter Tryz.func156,Tryz.ntmps156
 go_wp2_with fail
 go_loopw [5,6,7] (fun vg _ _ wx=>∃ k:Nat,k<=(a5i s t).length/\EI w wx d s col t k vg) (fun vg _ _ _=>(a5i s t).length-lenOf vg)
 case atStart=>exact⟨0,Nat.zero_le _,E0.out⟩
 case round =>
  obtain⟨k,hk,rk,ck,X⟩:=hrel;have hMk:=c4X HM.out.1 t k
  have hcnt:rk.eg.length<=1000:=by
   have h2:rk.eg.length=(eAt s t k).length:=by have:=X.of.es;rw[<- List.length_map (f:=(·.e)),this]
   have h3:=a1x hMk;simp only at h3;omega
  have TB:=a0b (b5l X.dk X.hl hcnt t);have hlv:lenOf u5=k:=by rw[X.nr.len,List.length_map,List.length_take];omega
  have HX:=a0b X;have HMK:=a0b hMk;have HLV:=a0b hlv;clear X hMk hcnt hlv
  go_wp2_with fail
  refine TB.out.mono ?_;rintro e w1 (⟨h1,rfl,rfl⟩|⟨g,hg,hkd,htl,hmin,rfl,l',c1,s1,s2,s3,s4⟩)
  ·have HF:Hid (a7d w d s col t u5 w1):=by
    have X:=HX.out
    have hke:(a5i s t).length<=k:=by
     by_cases c:k<(a5i s t).length
     ·exfalso;obtain⟨m1,m2⟩:=List.mem_filter.1 (zg c)
      have hin:(a5i s t)[k]∈eAt s t k:=by
       refine b2c.2 ⟨m1,fun x hx e1=>?_⟩;obtain⟨j,hj,rfl⟩:=List.getElem_of_mem hx;rw[List.getElem_take] at e1;rw[List.length_take] at hj;have:=List.pairwise_iff_getElem.1 (c0T HM.out.1.ids t) j k (by omega) c (by omega);omega
      obtain⟨g,hg,e1⟩:=X.of.get hin;unfold a0z at m2;rw[<- e1,Bool.and_eq_true,decide_eq_true_iff] at m2;have:=h1 g hg (by simpa using m2.1);omega
     ·omega
    have e1:=c5v s t HM.out.1.ids hke;have o:=X.of;rw[e1] at o;have n:=X.nr;rw[List.take_of_length_le hke] at n;exact⟨rk,ck,X.dk,o,X.wl,X.hl,X.st,n⟩
   clear h1 TB HX
   go_wp2_with fail
   go_ret;exact⟨_,rfl,HF.out⟩
  ·have X:=HX.out
   have hge:∃ hk':k<(a5i s t).length,g.e=(a5i s t)[k]:=by
    have hin:=X.of.mem hg;have hes:=(b2c.1 hin).1;have htt:=HM.out.2 _ hes hkd;refine c3q HM.out.1.ids hin (by unfold a0z;rw[Bool.and_eq_true,decide_eq_true_iff];exact⟨by simpa using hkd,by omega⟩) (fun x hx hb=>?_);obtain⟨y,hy,rfl⟩:=X.of.get hx;unfold a0z at hb;rw[Bool.and_eq_true,decide_eq_true_iff] at hb;have:=hmin y hy (by simpa using hb.1);unfold Hp.ahead a9r at this;simp only at this;omega
   obtain⟨hk',hge⟩:=hge;have HLs:Hl { rk with hl:=l',eg:=a1F g.e.id rk.eg }:=X.hl.goes X.dk.ni hg hkd (x:=a9r g) rfl s1 s2;have LV:=a0b (a9f (r:={ rk with hl:=l' }) s3 ⟨X.of.now,X.of.given,X.of.ts,X.of.es,X.of.th,X.of.tb⟩ X.wl HMK.out hg HLs);have S4:=a0b (And.intro s4 (And.intro hge hk'));have EN:=a0b (s3.en g hg);clear s1 s2 s3 s4 hmin htl hge HLs X TB hkd hg
   go_wp2_with fail
   refine LV.out.mono ?_;rintro e w2 ⟨rfl,sp⟩;have SP:=a0b sp;obtain⟨r2,c2,q1,q2,q3,q4,q5⟩:=sp;have c02:=(q5.enk EN.out.1 (.inl ⟨_,EN.out.2.1,by unfold a5U;simp⟩) (.inl ⟨_,EN.out.2.2,by unfold a5U;simp⟩)).en.c0;have NR:=a0b ((HX.out.nr.step S4.out.1 (zq _)).step q5 (zq _));have hws:w.heap.size<=w2.heap.size:=Nat.le_trans (Nat.le_trans HX.out.st.size S4.out.1.size) q5.size
   have hkl:((a5i s t).take k).length<=60:=by
    have h1:=List.length_take_le k (a5i s t);have h2:=List.length_filter_le (a0z t) s.es;have h3:=a1x HM.out.1;have h4:(a5i s t).length<=60:=by unfold a5i;omega
    rw[List.length_take];omega
   have hkm:(((a5i s t).take k).map fun e=>e.id).length<=60:=by rw[List.length_map];exact hkl
   clear q1 q2 q3 q4 q5 LV EN hkl
   go_wp2_with (first
    |(at_builtin;refine wpList_append_lies _ rfl _ _ 38 rfl w.heap.size 3 i0 _ 1 8 Tryz.underlying38 hi0 hz0 hz1 hz2 rfl (by decide) _ _ _ rfl (NR.out.own.alloc _) ⟨w2.heap.size,0,none⟩ 1 1 [.int .i64 g.e.id] rfl rfl (World.news_of_block (cs:=#[.int .i64 g.e.id]) (a0p w2 _)) (by simp[Value.oneCell']) (by omega) (by unfold maxLen;omega) (by omega) (by simp;omega) (w2.heap.size+1) (by simp) ?_;intro g2 cap2 w3 hown hgrow hat hlt2))
   have ko:Off u5.ownBlock.toList w2 w3:=Off.grown ((Off.refl _ w2).alloc _) hgrow (fun k hk=>.inl (Option.mem_toList.2 hk));have hat':u5.ownBlock=some g2\/g2=w2.heap.size+1:=hat
   have HN:Hid (EI w w3 d s col t (k+1) (.slice (some ⟨g2,0,none⟩) ((((a5i s t).take k).map fun e=>e.id).length+1) cap2)) :=
    HX.out.gone S4.out.2.2 S4.out.2.1 S4.out.1 SP.out ko (fun c2 n1 n2=>⟨by rw[List.length_append,List.map_append];exact hown,fun b hb=>by
     have:g2=b:=by simpa[Value.ownBlock] using hb
     subst this;rcases hat' with e|e
     ·exact n1 g2 e
     ·exact n2 g2 (by omega)⟩)
   have hk1:k+1<=(a5i s t).length:=S4.out.2.2;have hl1:(((a5i s t).take k).map fun e=>e.id).length=k:=by rw[List.length_map,List.length_take];omega
   have HL1:=a0b hl1;have HLW:=a0b HLV.out;clear hown hgrow hat ko hat' HX SP NR S4 HMK hl1 hkm;go_roundw
   case rel=>exact⟨k+1,hk1,by have h:=HN.out;rw[HL1.out] at h;exact h⟩
   case measure =>
    have:=HL1.out;have:=HLW.out;simp[lenOf] at *;omega
namespace Desk
theorem b9g{now:Int}(h:Inv ⟨ts,es,given,now⟩)(hno:∀ e∈es,e.kind≠1->tq<e.a0Z)(k:Nat):a1K ts (k+1) es now tq=(es,[],[]):=by
 by_cases c:now<tq
 ·have e1:a3D tq es=tq:=by
   rcases (a5C tq es).2.2 with e|⟨e,he,hk,e1⟩
   ·exact e
   ·have:=hno e he hk;have:=(a5C tq es).1;omega
  have e2:es.filter (fun e=>!a0z tq e)=es:=List.filter_eq_self.2 (fun e he=>by
   cases hb:a0z tq e
   ·rfl
   ·unfold a0z at hb;rw[Bool.and_eq_true,decide_eq_true_iff] at hb;have:=hno e he (by simpa using hb.1)
    omega)
  have e3:es.filter (a0z tq)=[]:=by
   rw[List.filter_eq_nil_iff];intro e he hb;unfold a0z at hb;rw[Bool.and_eq_true,decide_eq_true_iff] at hb;have:=hno e he (by simpa using hb.1);omega
  have e4:=a9s h;simp only at e4;rw[a1K,if_pos c];simp only[e1,e2,e3,e4]
  cases k with
  |zero=>rfl
  |succ k=>rw[a1K,if_neg (by omega)];rfl
 ·rw[a1K,if_neg c]
theorem b9h{now:Int}(hn:now<t)(ht:t<=tq)(h1:∃ e∈es,e.kind≠1/\e.a0Z=t)(h2:∀ e∈es,e.kind≠1->t<=e.a0Z)(k:Nat):
  a1K ts (k+1) es now tq=((a1K ts k (a0R ts (es.filter fun e=>!a0z t e)).1 t tq).1,(es.filter (a0z t)).map (·.id)++(a1K ts k (a0R ts (es.filter fun e=>!a0z t e)).1 t tq).2.1,(a0R ts (es.filter fun e=>!a0z t e)).2++(a1K ts k (a0R ts (es.filter fun e=>!a0z t e)).1 t tq).2.2):=by
 have e1:a3D tq es=t:=by
  obtain⟨e,he,hk,rfl⟩:=h1;have:=(a5C tq es).2.1 e he hk;rcases (a5C tq es).2.2 with e2|⟨x,hx,hkx,e2⟩
  ·omega
  ·have:=h2 x hx hkx;omega
 rw[a1K,if_pos (by omega)];simp only[e1]
theorem c1Y{now:Int}(h:Inv ⟨ts,es,given,now⟩)(hn:now<t)(ht:t<=1048320)(h2:∀ e∈es,e.kind≠1->t<=e.a0Z):Inv ⟨ts,(a0R ts (es.filter fun e=>!a0z t e)).1,given,t⟩/\Mid ⟨ts,es.filter (fun e=>!a0z t e),given,t⟩:=by
 have hm:Mid ⟨ts,es.filter (fun e=>!a0z t e),given,t⟩:=h.mid.filter _ (by omega) ht (fun e he hp hk=>by
  have:=h2 e he hk
  by_cases c:e.a0Z=t
  ·have:a0z t e=true:=by unfold a0z;rw[Bool.and_eq_true,decide_eq_true_iff];exact⟨by simpa using hk,c⟩
   rw[this] at hp;cases hp
  ·omega)
 exact⟨a9t hm,hm⟩
theorem Mid.earlier{now:Int}(h:Mid ⟨ts,es,given,now⟩)(h0:0<=now')(hn:now'<=now):Mid ⟨ts,es,given,now'⟩:=by
 refine⟨h.tl,h.tu,h.tn,h.ids,h.idb,h.g0,h.g1,h0,?_,fun e he=>?_,h.th,h.wa,h.wi⟩
 ·have:=h.n1;simp only at *;omega
 ·have k:=h.en e he;refine⟨k.u1,k.u9,k.sl,k.s0,k.sp,k.ri,?_⟩;rcases k.kd with e1|⟨e1,e2,e3,e4⟩
  ·exact .inl e1
  ·exact .inr ⟨e1,by simp only at *;omega,e3,e4⟩
end Desk
def a0s(err at_ n:Int)(en da gr ed:Value):Value:=.agg #[.int .i64 err,.int .i64 at_,.int .i64 n,en,da,gr,ed]
structure Q7(Z:World)(Q:Nat):Prop where
 q0:Z.cell? ⟨Q,0,none⟩=some (.int .i64 0)
 q1:Z.cell? ⟨Q,1,none⟩=some (.int .i64 0)
 q2:Z.cell? ⟨Q,2,none⟩=some (.int .i64 0)
 q3:Z.cell? ⟨Q,3,none⟩=some (.slice none 0 0)
 q4:Z.cell? ⟨Q,4,none⟩=some (.slice none 0 0)
 q5:Z.cell? ⟨Q,5,none⟩=some (.slice none 0 0)
 q6:Z.cell? ⟨Q,6,none⟩=some (.slice none 0 0)
 fq:∀ o,Z.frozen? ⟨Q,o,none⟩=false
def a0f:Obj:=.cells #[.int .i64 0,.int .i64 0,.int .i64 0,.slice none 0 0,.slice none 0 0,.slice none 0 0,.slice none 0 0] 40 (0,0)
theorem Q7.of(h:w.heap[Q]?=some a0f):Q7 w Q:=by
 unfold a0f at h;refine⟨?_,?_,?_,?_,?_,?_,?_,fun o=>frozen_of_row _ Q o _ _ h⟩
 all_goals (simp only[World.cell?,h];rfl)
theorem Q7.later(h:Q7 w Q)(hb:w'.heap[Q]?=w.heap[Q]?):Q7 w' Q :=
 ⟨(zo hb).trans h.q0,(zo hb).trans h.q1,(zo hb).trans h.q2,(zo hb).trans h.q3,(zo hb).trans h.q4,(zo hb).trans h.q5,(zo hb).trans h.q6,fun o=>(World.frozen?_of_block hb).trans (h.fq o)⟩
def a2w(Z:World)(Q:Nat)(a b c d e f g:Value):World:=((((((Z.setCell ⟨Q,0,none⟩ a).setCell ⟨Q,1,none⟩ b).setCell ⟨Q,2,none⟩ c).setCell ⟨Q,3,none⟩ d).setCell ⟨Q,4,none⟩ e).setCell ⟨Q,5,none⟩ f).setCell ⟨Q,6,none⟩ g
theorem a2R(Z:World)(Q:Nat)(a b c d e f g:Value):Off [Q] Z (a2w Z Q a b c d e f g) :=
 (((((((Off.refl [Q] Z).setCell (.inl (by simp)) _ _).setCell (.inl (by simp)) _ _).setCell (.inl (by simp)) _ _).setCell (.inl (by simp)) _ _).setCell (.inl (by simp)) _ _).setCell (.inl (by simp)) _ _).setCell (.inl (by simp)) _ _
theorem a2q(a:Obj):Below w.heap.size w ((w.alloc a).alloc a0f)/\((w.alloc a).alloc a0f).heap[w.heap.size+1]?=some a0f:=by
 refine⟨((zr _ _).alloc (zq _) _).alloc (by simp) _,?_⟩;have:=a0p (w.alloc a) a0f
 rwa [World.size_alloc] at this
theorem d0h{cs:Array Value}{t:TypeId}(h:Z.heap[Q]?=some (.cells cs t))(i:Nat)(hv:cs[i]?=some v):Z.cell? ⟨Q,i,none⟩=some v:=by simp[World.cell?,h,hv]
theorem e2v(w:World)(o:Obj):Below w.heap.size w ((w.alloc o).alloc a0f)/\((w.alloc o).alloc a0f).heap[w.heap.size+1]?=some a0f/\((w.alloc o).alloc a0f).heap[w.heap.size]?=some o/\w.heap.size+1<((w.alloc o).alloc a0f).heap.size :=
 ⟨(a2q o).1,(a2q o).2,(Below.heap_alloc _ _ _ (by simp)).trans (a0p w o),by simp⟩
theorem d0O{fn:Func}{R:Ending->World->Prop}{tm:Array Value}{a b c e f g i:Value}(h4:fn.results=#[.cell k 40])(hq:Q7 Z Q)(hR:R (.returned (.agg #[a,b,c,e,f,g,i])) (a2w Z Q a b c e f g i))(ht:tm[k]?=some (.pointer (some ⟨Q,0,none⟩)):=by rfl):bodyPost Tryz.prog fn R .ret ⟨tm,[]⟩ (a2w Z Q a b c e f g i):=by
 obtain⟨q0,q1,q2,q3,q4,q5,q6,_⟩:=hq;refine bodyPost_ret ?_ rfl hR;simp only[results,h4];simp[ht,go_sem,a2w,q0,q1,q2,q3,q4,q5,q6]
end Go.Proofs.YtfigmlfdnickmaaGreatDoor
