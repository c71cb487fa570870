/-
  Parts of the proof, one behind the other.
-/
import Derived.Test.YtjfkfiffakbagaaGreatDoorL18
import Derived.RegionTactic
set_option maxRecDepth 100000
set_option maxHeartbeats 8000000
namespace Go.Proofs.YtjfkfiffakbagaaGreatDoor
namespace Desk
theorem d3b(ts:List (ByteArray × Int)):∀ (r done:List Ent),
  a1Y (a0O ts done r).1+((a0O ts done r).2.length:Int)=a1Y (done++r) /\
  (∀ e∈done++r,e.kind=1->e∈(a0O ts done r).1) /\
  (∀ e∈done,e∈(a0O ts done r).1) /\
  (∀ id∈(a0O ts done r).2,∃ e∈(a0O ts done r).1,e.id=id/\e.kind=1)
 |[],done=>by simp[a0O];exact fun e he _=>he
 |e :: r,done=>by
  simp only[a0O]
  by_cases c:e.kind=3/\a1e ts (done++e :: r) e.a0k e.a0c e.a0e=true
  ·rw[if_pos c]
   obtain⟨h1,h2,h3,h4⟩:=d3b ts r (done++[a0Q e])
   have e1:a1Y (done++[a0Q e]++r)+1=a1Y (done++e :: r):=by
    rw[show done++[a0Q e]++r=done++a0Q e :: r from by simp,a4O,a4O,a7f,a7f]
    have k:(a0Q e).kind=1:=rfl
    rw[if_neg (by rw[k];omega),if_pos c.1];omega
   refine⟨?_,fun z hz hk=>?_,fun z hz=>h3 z (by simp[hz]),fun id hid=>?_⟩
   ·show a1Y (a0O ts (done++[a0Q e]) r).1+((e.id :: (a0O ts (done++[a0Q e]) r).2).length:Int)=_
    rw[List.length_cons];omega
   ·refine h2 z ?_ hk
    simp only[List.mem_append,List.mem_cons] at hz ⊢
    rcases hz with hz|rfl|hz
    ·exact .inl (.inl hz)
    ·omega
    ·exact .inr hz
   ·rcases List.mem_cons.1 hid with rfl|hid
    ·exact⟨a0Q e,h3 _ (by simp),rfl,rfl⟩
    ·exact h4 id hid
  ·rw[if_neg c]
   obtain⟨h1,h2,h3,h4⟩:=d3b ts r (done++[e])
   rw[show done++[e]++r=done++e :: r from by simp] at h1 h2
   exact⟨h1,h2,fun z hz=>h3 z (by simp[hz]),h4⟩
theorem d7e(ts:List (ByteArray × Int))(es:List Ent):a1Y (a0R ts es).1+((a0R ts es).2.length:Int)=a1Y es/\(∀ e∈es,e.kind=1->e∈(a0R ts es).1)/\(∀ id∈(a0R ts es).2,∃ e∈(a0R ts es).1,e.id=id/\e.kind=1):=by
 obtain⟨h1,h2,_,h4⟩:=d3b ts es []
 exact⟨h1,h2,h4⟩
theorem d8v(ts:List (ByteArray × Int)):∀ (k:Nat)(es:List Ent)(now:Int),
  a1Y (d1G ts k es now).1+((d1G ts k es now).2.2.length:Int)<=a1Y es /\
  (∀ e∈es,e.kind=1->e∈(d1G ts k es now).1) /\
  (∀ id∈(d1G ts k es now).2.2,∃ e∈(d1G ts k es now).1,e.id=id/\e.kind=1)
 |0,es,now=>by simp[d1G];exact fun e he _=>he
 |k+1,es,now=>by
  simp only[d1G]
  obtain⟨g1,g2,g3⟩:=d7e ts (es.filter fun e=>!a0z (now+1) e)
  obtain⟨h1,h2,h3⟩:=d8v ts k (a0R ts (es.filter fun e=>!a0z (now+1) e)).1 (now+1)
  have f:=b2w (fun e=>!a0z (now+1) e) es
  refine⟨by rw[List.length_append];omega,fun e he hk=>h2 e (g2 e (List.mem_filter.2 ⟨he,by simp[a0z,hk]⟩) hk) hk,fun id hid=>?_⟩
  rcases List.mem_append.1 hid with hid|hid
  ·obtain⟨e,e1,e2,e3⟩:=g3 id hid
   exact⟨e,h2 e e1 e3,e2,e3⟩
  ·exact h3 id hid
def c9g:a7U->Bool
 |.enter k _ _ _ _ _=>decide (k=3)
 |_=>false
theorem e8Q{s:St}(h:Inv s){l:a7U}(hl:a1O l)(he:(a0g s l).2.err=0):
  a1Y (a0g s l).1.es+((a0g s l).2.granted.length:Int)<=a1Y s.es+(if c9g l then 1 else 0)/\∀ id∈(a0g s l).2.granted,∃ e∈(a0g s l).1.es,e.id=id/\e.kind=1:=by
 cases l with
 |a0k name u =>
  simp only[a0g] at he ⊢
  split
  ·simp[Rep.error,c9g]
  ·split
   ·simp[Rep.error,c9g]
   ·simp[Rep.num,c9g]
 |enter k name u fr til long =>
  simp only[a0g] at he ⊢
  split
  ·simp[Rep.error];split <;> omega
  ·simp only[a2t,Rep.num,List.length_nil,List.not_mem_nil,false_implies,implies_true,and_true]
   rw[a4O,a7f]
   have e0:a1Y ([]:List Ent)=0:=by simp[a1Y]
   rw[e0]
   show a1Y s.es+((if k=3 then 1 else 0)+0)+0<=a1Y s.es+(if decide (k=3)=true then 1 else 0)
   by_cases c:k=3
   ·simp[c]
   ·simp[c]
 |series name u r =>
  simp only[a0g] at he ⊢
  split
  ·simp[Rep.error,c9g]
  ·simp only[a2t,Rep.num,List.length_nil,List.not_mem_nil,false_implies,implies_true,and_true]
   rw[a4O,a7f]
   have e0:a1Y ([]:List Ent)=0:=by simp[a1Y]
   rw[e0,if_neg (by show ¬ (1:Int)=3;omega)]
   simp[c9g]
 |confirm id =>
  simp only[a0g] at he ⊢
  cases hf:a5S id s.es with
  |none=>simp[Rep.error,c9g]
  |some e =>
   simp only
   by_cases c:e.kind≠2
   ·rw[if_pos c];simp[Rep.error,c9g]
   ·rw[if_neg c]
    simp only[Rep.num,List.length_nil,List.not_mem_nil,false_implies,implies_true,and_true]
    obtain⟨f1,f2⟩:=a5I hf
    obtain⟨a,b,p1,p2,_⟩:=a8i h.ids f1 f2
    rw[p2,p1,a4O,a4O,a7f,a7f]
    have k:(a0Q e).kind=1:=rfl
    rw[if_neg (by rw[k];omega),if_neg (by omega)]
    simp[c9g]
 |cancel id =>
  simp only[a0g] at he ⊢
  cases hf:a5S id s.es with
  |none=>simp[Rep.error,c9g]
  |some e =>
   simp only[Rep.num,List.length_nil,List.not_mem_nil,false_implies,implies_true,and_true]
   have:=b2w (fun e=>e.id != id) s.es
   show a1Y (s.es.filter fun e=>e.id != id)+0<=_
   simp[c9g];exact this
 |list name fr til =>
  simp only[a0g]
  split
  ·simp[Rep.error,c9g]
  ·split <;> simp[Rep.error,Rep.num,c9g]
 |waiting=>simp[a0g,Rep.num,c9g]
 |peak name fr til =>
  simp only[a0g]
  split
  ·simp[Rep.error,c9g]
  ·split <;> simp[Rep.error,Rep.num,c9g]
 |find name u long fr til =>
  simp only[a0g]
  split
  ·simp[Rep.error,c9g]
  ·split <;> simp[Rep.error,Rep.num,c9g]
 |expand r =>
  simp only[a0g]
  split <;> simp[Rep.error,Rep.num,c9g]
 |tick n =>
  simp only[a0g] at he ⊢
  have hl:1<=n/\n<=1048320:=hl
  split
  ·simp[Rep.error,c9g]
  ·rename_i c
   simp only
   have e:=d8e s.ts s.given (s.now+n) (by omega) (s.es.length+1) s.es s.now (.inl (by omega)) (by omega) h
   rw[e]
   obtain⟨h1,_,h3⟩:=d8v s.ts (s.now+n-s.now).toNat s.es s.now
   refine⟨?_,h3⟩
   simp[c9g];exact h1
 |clock=>simp[a0g,Rep.num,c9g]
theorem e7k{s:St}(h:Inv s){l:a7U}(hl:a1O l)(he:(a1q s l).2.err=0):
  a1Y (a1q s l).1.es+((a1q s l).2.granted.length:Int)<=a1Y s.es+(if c9g l then 1 else 0)/\∀ id∈(a1q s l).2.granted,∃ e∈(a1q s l).1.es,e.id=id/\e.kind=1:=by
 unfold a1q at he ⊢
 by_cases c:(a0g s l).2.err≠0
 ·rw[if_pos c] at he;exact absurd he c
 ·rw[if_neg c]
  simp only[ne_eq,Decidable.not_not] at c
  obtain⟨h1,h2⟩:=e8Q h hl c
  obtain⟨g1,g2,g3⟩:=d7e (a0g s l).1.ts (a0g s l).1.es
  refine⟨?_,fun id hid=>?_⟩
  ·show a1Y (a0R (a0g s l).1.ts (a0g s l).1.es).1+(((a0g s l).2.granted++(a0R (a0g s l).1.ts (a0g s l).1.es).2).length:Int)<=_
   rw[List.length_append];omega
  ·rcases List.mem_append.1 hid with hid|hid
   ·obtain⟨e,e1,e2,e3⟩:=h2 id hid
    exact⟨e,g2 e e1 e3,e2,e3⟩
   ·exact g3 id hid
theorem b8H{s:St}{l:a7U}(h:(a0g s l).2.err≠0):(a0g s l).2=Rep.error (a0g s l).2.err:=by
 cases l with
 |a0k name u =>
  simp only[a0g] at h ⊢
  by_cases c1:a0h name s.ts≠0
  ·rw[if_pos c1];rfl
  ·rw[if_neg c1] at h ⊢
   by_cases c2:s.ts.length=4
   ·rw[if_pos c2];rfl
   ·rw[if_neg c2] at h;exact absurd rfl h
 |enter k name u fr til long =>
  simp only[a0g] at h ⊢
  by_cases c:a1M s k name u fr til long≠0
  ·rw[if_pos c];rfl
  ·rw[if_neg c] at h;exact absurd rfl h
 |series name u r =>
  simp only[a0g] at h ⊢
  by_cases c:a2l s name u r≠0
  ·rw[if_pos c];rfl
  ·rw[if_neg c] at h;exact absurd rfl h
 |confirm id =>
  simp only[a0g] at h ⊢
  cases hf:a5S id s.es with
  |none=>rfl
  |some e =>
   rw[hf] at h
   simp only at h ⊢
   by_cases c:e.kind≠2
   ·rw[if_pos c];rfl
   ·rw[if_neg c] at h;exact absurd rfl h
 |cancel id =>
  simp only[a0g] at h ⊢
  cases hf:a5S id s.es with
  |none=>rfl
  |some e=>rw[hf] at h;exact absurd rfl h
 |list name fr til =>
  simp only[a0g] at h ⊢
  by_cases c1:a0h name s.ts=0
  ·rw[if_pos c1];rfl
  ·rw[if_neg c1] at h ⊢
   by_cases c2:til<=fr
   ·rw[if_pos c2];rfl
   ·rw[if_neg c2] at h;exact absurd rfl h
 |waiting=>exact absurd rfl h
 |peak name fr til =>
  simp only[a0g] at h ⊢
  by_cases c1:a0h name s.ts=0
  ·rw[if_pos c1];rfl
  ·rw[if_neg c1] at h ⊢
   by_cases c2:til<=fr
   ·rw[if_pos c2];rfl
   ·rw[if_neg c2] at h;exact absurd rfl h
 |find name u long fr til =>
  simp only[a0g] at h ⊢
  by_cases c1:a0S s.ts name u≠0
  ·rw[if_pos c1];rfl
  ·rw[if_neg c1] at h ⊢
   by_cases c2:til<=fr
   ·rw[if_pos c2];rfl
   ·rw[if_neg c2] at h;exact absurd rfl h
 |expand r =>
  simp only[a0g] at h ⊢
  by_cases c:Rd.a6W r≠0
  ·rw[if_pos c];rfl
  ·rw[if_neg c] at h;exact absurd rfl h
 |tick n =>
  simp only[a0g] at h ⊢
  by_cases c:1048320<s.now+n
  ·rw[if_pos c];rfl
  ·rw[if_neg c] at h;exact absurd rfl h
 |clock=>exact absurd rfl h
theorem b7R{s:St}{l:a7U}(h:(a1q s l).2.err≠0):(a1q s l).1=s/\(a1q s l).2=Rep.error (a1q s l).2.err:=by
 unfold a1q at h ⊢
 by_cases c:(a0g s l).2.err≠0
 ·rw[if_pos c];exact⟨b7g c,b8H c⟩
 ·rw[if_neg c] at h;exact absurd h c
theorem a8T{s:St}(h:Inv s){l:a7U}(hl:(a0g s l).1=s):a1q s l=(s,(a0g s l).2):=by
 unfold a1q
 by_cases c:(a0g s l).2.err≠0
 ·rw[if_pos c];exact Prod.ext hl rfl
 ·rw[if_neg c,hl,a9s h]
  simp only[List.append_nil]
end Desk
namespace Desk
theorem c0t{s:St}(h:Inv s){nm:ByteArray}(hn:a0h nm s.ts≠0):a1q s (.list nm 0 1048320)=(s,⟨0,0,0,a2x nm 0 1048320 s.es,[],[],[]⟩):=by
 have e:a0g s (.list nm 0 1048320)=(s,⟨0,0,0,a2x nm 0 1048320 s.es,[],[],[]⟩):=by
  simp only[a0g]
  rw[if_neg hn,if_neg (by omega)]
  rfl
 rw[a8T h (by rw[e]),e]
theorem b6I{s:St}(h:Inv s)(nm:ByteArray){e:Ent}(he:e∈a2x nm 0 1048320 s.es):e∈s.es/\1<=e.id/\e.id<=s.given:=by
 have:=a4U.1 he
 have hm:=(List.mem_filter.1 this).1
 exact⟨hm,h.idb e hm⟩
theorem c3R:∀ (l:List Int)(a b:Int),l.Pairwise (· < ·)->(∀ x∈l,a<=x/\x<=b)->(l.length:Int)<=max 0 (b-a+1)
 |[],_,_,_,_=>by simp;omega
 |x :: r,a,b,hp,hb=>by
  obtain⟨h1,h2⟩:=List.pairwise_cons.1 hp
  have hx:=hb x (List.mem_cons_self ..)
  have:=c3R r (x+1) b h2 (fun y hy=>⟨by have:=h1 y hy;omega,(hb y (List.mem_cons_of_mem _ hy)).2⟩)
  simp only[List.length_cons]
  omega
theorem c6C{s:St}(h:Inv s):s.es.length<=60:=by
 have hi:(s.es.map (·.id)).Pairwise (· < ·):=h.ids
 have hg:=h.g1
 have:=c3R _ 1 60 hi (fun x hx=>by
  obtain⟨e,he,rfl⟩:=List.mem_map.1 hx
  have:=h.idb e he
  omega)
 rw[List.length_map] at this
 omega
theorem c2P{s:St}(h:Inv s)(nm:ByteArray):(a2x nm 0 1048320 s.es).length<=60:=by
 have:=c6C h
 have e:=(a3Y (a:=0) (b:=1048320) (s.es.filter (b7U nm 0 1048320))).length_eq
 have f:=List.length_filter_le (b7U nm 0 1048320) s.es
 unfold a2x
 omega
end Desk
open Go.RowKit
open Desk (Ent St Ids kept a0C a0Q a1C a2e ofB a0y a2c Mid a1H a0z Inv a0h a2x a1q Rep)
theorem Step.lowK{S:Col->Prop}{B N:Nat}{col col':Nat->Option Col}{w w':World}(h:Step S B col col' w w')(hB:N<=B)(hs:N<=w.heap.size)(hc:∀ b,b<N->col b=none):Below N w w'/\∀ b,b<N->col' b=none:=by
 obtain⟨G,h1,h2⟩:=h.off
 refine⟨⟨h1.os,h1.tape,h1.output,h1.size,fun b hb=>h1.block b (by omega) (fun hx=>?_)⟩,fun b hb=>?_⟩
 ·rcases h2 b hx with ⟨c,e,_⟩|⟨_,e⟩
  ·rw[hc b hb] at e;cases e
  ·omega
 ·exact h.keepN (hc b hb) (by omega)
theorem BD.laterK{w w':World}{p d:Nat}{s:St}{r:Raw}{col:Nat->Option Col}(h:BD w p d s r col)(k:Below w.heap.size w w'):BD w' p d s r col :=
 ⟨(k.block p (Array.getElem?_eq_some_iff.1 h.pc).1).trans h.pc,h.pn,⟨h.ds.dk.later k,h.ds.of,h.ds.wl,h.ds.hl,h.ds.inv⟩,h.env.later k,h.gl⟩
structure DG(w W:World)(p dk:Nat)(s:St)(r:Raw)(col:Nat->Option Col):Prop where
 bd:BD W p dk s r col
 bl:Below w.heap.size w W
 lo:∀ b,b<w.heap.size->col b=none
theorem DG.later{w W W':World}{p dk:Nat}{s:St}{r:Raw}{col:Nat->Option Col}(h:DG w W p dk s r col)(k:Below W.heap.size W W'):DG w W' p dk s r col:=⟨h.bd.laterK k,h.bl.trans (k.mono h.bl.size),h.lo⟩
theorem DG.step{w W W':World}{p dk:Nat}{s s':St}{r r':Raw}{col col':Nat->Option Col}(h:DG w W p dk s r col)(bd:BD W' p dk s' r' col')(st:Step anyS W.heap.size col col' W W'):DG w W' p dk s' r' col':=by
 obtain⟨k1,k2⟩:=st.lowK h.bl.size h.bl.size h.lo
 exact⟨bd,h.bl.trans k1,k2⟩
theorem DG.none{w W:World}{p dk:Nat}{s:St}{r:Raw}{col:Nat->Option Col}(h:DG w W p dk s r col){b:Nat}(hb:W.heap.size<=b):col b=none:=h.bd.ds.dk.none hb
theorem DG.inv{w W:World}{p dk:Nat}{s:St}{r:Raw}{col:Nat->Option Col}(h:DG w W p dk s r col):Inv s:=h.bd.ds.inv
theorem Step.still{W W':World}{col col':Nat->Option Col}(st:Step anyS W.heap.size col col' W W'){b:Nat}{o:Obj}(hb:W.heap[b]?=some o)(hc:col b=none):W'.heap[b]?=some o/\col' b=none:=by
 have hl:=(Array.getElem?_eq_some_iff.1 hb).1
 exact⟨(st.blockN hl hc hl).trans hb,st.keepN hc hl⟩
structure DoP(w W:World)(p dk:Nat)(col:Nat->Option Col)(s':St)(rep:Rep)(l:List (Ent × Value))(v1 v3 v4:Value)(r':Raw)(col':Nat->Option Col)(W':World):Prop where
 c7n:l.map (·.1)=rep.entries
 row:a3j W' W.heap.size col' v1 l
 gr:a2I W' W.heap.size col' v3 rep.granted
 ed:a2I W' W.heap.size col' v4 rep.ended
 dg:DG w W' p dk s' r' col'
 st:Step anyS W.heap.size col col' W W'
def b4e(w W:World)(p dk:Nat)(col:Nat->Option Col)(q:St × Rep)(e:Ending)(W':World):Prop :=
 ∃ (l:List (Ent × Value)) (a1 a2 a3 a4:Option Addr) (n2 c1 c2 c3 c4:Nat) (r':Raw) (col':Nat->Option Col),e=.returned (.agg #[.int .i64 q.2.err,.int .i64 q.2.at_,.int .i64 q.2.n,.slice a1 l.length c1,.slice a2 n2 c2,.slice a3 q.2.granted.length c3,.slice a4 q.2.ended.length c4]) /\
  DoP w W p dk col q.1 q.2 l (.slice a1 l.length c1) (.slice a3 q.2.granted.length c3) (.slice a4 q.2.ended.length c4) r' col' W'
theorem b7o{w W W':World}{p dk:Nat}{s:St}{r:Raw}{col:Nat->Option Col}(h:DG w W p dk s r col){q:St × Rep}{v:Value}(k:b5M W p dk col q v W'):b4e w W p dk col q (.returned v) W':=by
 obtain⟨r',col',bd,st,en,da,gr,ed,l,rfl,he,k1,k2,k3,k4,_⟩:=k
 obtain⟨a1,c1,rfl⟩:=a0B k1.own
 obtain⟨a2,c2,rfl⟩:=a0B k2.own
 obtain⟨a3,c3,rfl⟩:=a0B k3.own
 obtain⟨a4,c4,rfl⟩:=a0B k4.own
 exact⟨l,a1,a2,a3,a4,_,c1,c2,c3,c4,r',col',rfl,he,k1,k3,k4,h.step bd st,st⟩
theorem c5w{w W:World}{p dk:Nat}{s:St}{r:Raw}{col:Nat->Option Col}(h:DG w W p dk s r col)(t:ByteArray):
  Calls Tryz.prog 20 #[.pointer (some ⟨p,0,none⟩),.string t] W fun e W'=>b4e w W p dk col (stepT s t) e W' :=
 (c5A h.bd t).mono fun _ _ ⟨_,e,k⟩=>by rw[e];exact b7o h k
theorem b2g{w W:World}{p dk:Nat}{s:St}{r:Raw}{col:Nat->Option Col}(h:DG w W p dk s r col){t:ByteArray}{v:Value}{l:Desk.a7U}(hr:Reads t v)(hv:LV v l)(hl:Desk.a1O l){q:St × Rep}(hq:a1q s l=q):
  Calls Tryz.prog 20 #[.pointer (some ⟨p,0,none⟩),.string t] W fun e W'=>b4e w W p dk col q e W':=by
 subst hq
 exact (b7q h.bd t hr hv hl).mono fun _ _ ⟨_,e,k⟩=>by rw[e];exact b7o h k
def nmA:ByteArray:=⟨#[97]⟩
def nmC:ByteArray:=⟨#[98]⟩
def a3Z(a b:Int):St:=⟨[(nmA,a),(nmC,b)],[],0,0⟩
theorem c4w(a:Int):a1q st0 (.a0k nmA a)=(⟨[(nmA,a)],[],0,0⟩,⟨0,0,0,[],[],[],[]⟩):=by
 simp[a1q,Desk.a0g,st0,a0h,Rep.num,Desk.a0R,Desk.a0O]
theorem b9C:a0y nmA nmC=false:=by decide +kernel
theorem c4v(a b:Int):a1q ⟨[(nmA,a)],[],0,0⟩ (.a0k nmC b)=(a3Z a b,⟨0,0,0,[],[],[],[]⟩):=by
 simp[a1q,Desk.a0g,a0h,b9C,Rep.num,Desk.a0R,Desk.a0O,a3Z]
theorem b9b(a b:Int):a0h nmA (a3Z a b).ts=a:=by simp[a3Z,a0h,a0y]
theorem b9a(a b:Int):a0h nmC (a3Z a b).ts=b:=by
 have e:a0y nmC nmC=true:=by decide +kernel
 simp[a3Z,a0h,b9C,e]
def a1T(a b:Int):Obj:=.cells #[.int .i64 a,.int .i64 b] 28 (0,0)
def a5w(err at_ n:Int)(v1 v2 v3 v4:Value):Obj:=.cells #[.int .i64 err,.int .i64 at_,.int .i64 n,v1,v2,v3,v4] 40 (0,0)
theorem a2T{W:World}{b:Nat}{err at_ n:Int}{v1 v2 v3 v4:Value}(h:W.heap[b]?=some (a5w err at_ n v1 v2 v3 v4)):W.cell? ⟨b,0,none⟩=some (.int .i64 err)/\W.cell? ⟨b,1,none⟩=some (.int .i64 at_)/\W.cell? ⟨b,2,none⟩=some (.int .i64 n)/\W.cell? ⟨b,3,none⟩=some v1/\W.cell? ⟨b,4,none⟩=some v2/\W.cell? ⟨b,5,none⟩=some v3/\W.cell? ⟨b,6,none⟩=some v4:=by
 unfold a5w at h
 refine⟨?_,?_,?_,?_,?_,?_,?_⟩ <;> (simp only[World.cell?,h];rfl)
theorem c1y(w:World)(he:Env w)(a b:Int)(ha:1<=a/\a<=9)(hb:1<=b/\b<=9):
  Calls Tryz.prog 17 #[.agg #[.int .i64 a,.int .i64 b]] w fun e w'=>∃ p dk r col,e=.returned (.tuple #[.pointer (some ⟨p,0,none⟩),.bool true])/\DG w w' p dk (a3Z a b) r col:=by
 have hX:Below w.heap.size w (w.alloc (a1T a b)):=(Below.refl _ _).alloc (Nat.le_refl _) _
 have hq:(w.alloc (a1T a b)).heap[w.heap.size]?=some (a1T a b):=a0p w _
 have z1:=Txt.a0I a (by omega) (by omega)
 have z2:=Txt.a0I b (by omega) (by omega)
 have NE:=a0b (c3H _ (he.later hX))
 have HX:=a0b (And.intro hX hq)
 have TA:Hid (Reads ((⟨#[116,104,105,110,103,32,97,32]⟩:ByteArray)++Txt.a0x a) (.iface 143 (.agg #[.string nmA,.int .i64 a]))):=a8K c7k ha (by rw[Txt.a1X];rfl)
 have TB:Hid (Reads ((⟨#[116,104,105,110,103,32,98,32]⟩:ByteArray)++Txt.a0x b) (.iface 143 (.agg #[.string nmC,.int .i64 b]))):=a8K c7j hb (by rw[Txt.a1X];rfl)
 obtain⟨ha1,ha9⟩:=ha
 obtain⟨hb1,hb9⟩:=hb
 clear hX hq he
 go_enter Tryz.func17,Tryz.ntmps17
 go_upto_region 1 with fail
 change Code.wp _ _ _ _ (w.alloc (a1T a b))
 have hs:w.heap.size<(w.alloc (a1T a b)).heap.size:=by simp
 generalize w.alloc (a1T a b)=X at *
 go_upto_region 4 with (first
  |(go_at_call 30;refine NE.out.mono ?_;rintro e w1 ⟨p,dk,c1O,rfl,bd,hbw,hlo⟩))
 have D1:=a0b (DG.mk bd hbw hlo)
 have hr1:=(hbw.block w.heap.size hs).trans HX.out.2
 clear NE bd hbw hlo
 have RO:Hid (∀ W':World,Below X.heap.size X W'->W'.cell? ⟨w.heap.size,0,none⟩=some (.int .i64 a)/\W'.cell? ⟨w.heap.size,1,none⟩=some (.int .i64 b)):=fun W' k=>by
  have h:=(k.block w.heap.size hs).trans HX.out.2
  unfold a1T at h
  obtain⟨x,y,_⟩:=b0q h
  exact⟨x,y⟩
 obtain⟨ra,rb⟩:=RO.out w1 D1.out.bl
 clear hr1 rb
 go_upto_region 5 with (first
  |(go_at_call 21;refine (a6O a _ D1.out.bd.env (by omega) (by omega)).mono ?_;rintro e w2 ⟨rfl,hb2⟩;have D2:=a0b (D1.out.later hb2);clear hb2)
  |(go_at_call 20;refine (b2g D2.out TA.out (.a0k nmA (by decide) a) ⟨ha1,ha9⟩ (c4w a)).mono ?_;rintro e w3 ⟨l1,a1,a2,a3,a4,n2,c1,c2,c3,c4,r1,col1,rfl,P1⟩;dsimp only[List.length_nil]))
 change Code.wp _ _ _ _ (w3.alloc (a5w 0 0 0 (.slice a1 l1.length c1) (.slice a2 n2 c2) (.slice a3 0 c3) (.slice a4 0 c4)))
 have R1:=a0b (a0p w3 (a5w 0 0 0 (.slice a1 l1.length c1) (.slice a2 n2 c2) (.slice a3 0 c3) (.slice a4 0 c4)))
 have D3:=a0b (P1.dg.later ((Below.refl w3.heap.size w3).alloc (Nat.le_refl _) (a5w 0 0 0 (.slice a1 l1.length c1) (.slice a2 n2 c2) (.slice a3 0 c3) (.slice a4 0 c4))))
 have N1:=a0b (P1.dg.none (Nat.le_refl w3.heap.size))
 clear P1 D1 D2 ra
 generalize w3.alloc (a5w 0 0 0 (.slice a1 l1.length c1) (.slice a2 n2 c2) (.slice a3 0 c3) (.slice a4 0 c4))=Z3 at R1 D3 ⊢
 generalize w3.heap.size=B1 at R1 N1 ⊢
 have rb:=(RO.out Z3 D3.out.bl).2
 go_upto_region 6 with (first
  |(go_at_call 21;refine (a6O b _ D3.out.bd.env (by omega) (by omega)).mono ?_;rintro e w4 ⟨rfl,hb4⟩;have D4:=a0b (D3.out.later hb4);have R4:=a0b ((hb4.block B1 (Array.getElem?_eq_some_iff.1 R1.out).1).trans R1.out);clear hb4)
  |(go_at_call 20;refine (b2g D4.out TB.out (.a0k nmC (by decide) b) ⟨hb1,hb9⟩ (c4v a b)).mono ?_;rintro e w5 ⟨l2,b1,b2,b3,b4,m2,d1,d2,d3,d4,r2,col2,rfl,P2⟩;dsimp only[List.length_nil]))
 change Code.wp _ _ _ _ (w5.alloc (a5w 0 0 0 (.slice b1 l2.length d1) (.slice b2 m2 d2) (.slice b3 0 d3) (.slice b4 0 d4)))
 obtain⟨R5,N5⟩:=P2.st.still R4.out N1.out
 have kb:=(Below.refl w5.heap.size w5).alloc (Nat.le_refl _) (a5w 0 0 0 (.slice b1 l2.length d1) (.slice b2 m2 d2) (.slice b3 0 d3) (.slice b4 0 d4))
 have D6:=a0b (P2.dg.later kb)
 have e1:=(a2T ((kb.block B1 (Array.getElem?_eq_some_iff.1 R5).1).trans R5)).1
 have e2:=(a2T (a0p w5 (a5w 0 0 0 (.slice b1 l2.length d1) (.slice b2 m2 d2) (.slice b3 0 d3) (.slice b4 0 d4)))).1
 clear R5 N5 kb P2 rb R1 N1 D3 D4 R4 RO
 generalize w5.alloc (a5w 0 0 0 (.slice b1 l2.length d1) (.slice b2 m2 d2) (.slice b3 0 d3) (.slice b4 0 d4))=Z6 at e1 e2 D6 ⊢
 generalize w5.heap.size=B2 at e2 ⊢
 have HF:Hid (DG w Z6.drew p dk (a3Z a b) r2 col2):=by
  have k:=D6.out.later (a0q Z6)
  exact⟨k.bd,HX.out.1.trans (k.bl.mono HX.out.1.size),fun c hc=>k.lo c (Nat.lt_of_lt_of_le hc HX.out.1.size)⟩
 clear D6 HX TA TB hs
 go_big_region
 go_wp2_with fail
 go_ret2
 exact⟨p,dk,r2,col2,rfl,HF.out⟩
structure AW(w0:World)(F:Nat)(s:ByteArray)(A R:Nat)(nm:ByteArray)(u fr til:Int)(w:World):Prop where
 fw:FW w0 F s w
 a:w.heap[A]?=some (a1P nm u fr til)
 r:w.heap[R]?=some (a1P ⟨#[]⟩ 0 0 0)
 ar:A≠R
 af:A≠F
 rf:R≠F
 a0:w0.heap.size<=A
 r0:w0.heap.size<=R
 h0:10<=w0.heap.size
theorem AW.drew{w0 w:World}{F:Nat}{s:ByteArray}{A R:Nat}{nm:ByteArray}{u fr til:Int}(h:AW w0 F s A R nm u fr til w):AW w0 F s A R nm u fr til w.drew :=
 ⟨h.fw.drew,h.a,h.r,h.ar,h.af,h.rf,h.a0,h.r0,h.h0⟩
theorem AW.c{w0 w:World}{F:Nat}{s:ByteArray}{A R:Nat}{nm:ByteArray}{u fr til:Int}(h:AW w0 F s A R nm u fr til w):w.cell? ⟨A,0,none⟩=some (.string nm)/\w.cell? ⟨A,1,none⟩=some (.int .i64 u)/\w.cell? ⟨A,2,none⟩=some (.int .i64 fr)/\w.cell? ⟨A,3,none⟩=some (.int .i64 til)/\∀ o,w.frozen? ⟨A,o,none⟩=false:=b1X h.a
theorem AW.rc{w0 w:World}{F:Nat}{s:ByteArray}{A R:Nat}{nm:ByteArray}{u fr til:Int}(h:AW w0 F s A R nm u fr til w):w.cell? ⟨R,0,none⟩=some (.string ⟨#[]⟩)/\w.cell? ⟨R,1,none⟩=some (.int .i64 0)/\w.cell? ⟨R,2,none⟩=some (.int .i64 0)/\w.cell? ⟨R,3,none⟩=some (.int .i64 0)/\∀ o,w.frozen? ⟨R,o,none⟩=false:=b1X h.r
theorem AW.to{w0 w w':World}{F:Nat}{s:ByteArray}{A R:Nat}{nm nm':ByteArray}{u fr til u' fr' til':Int}(h:AW w0 F s A R nm u fr til w)(hw:FW w0 F s w')(k:Off [A] w w')(ha:w'.heap[A]?=some (a1P nm' u' fr' til')):AW w0 F s A R nm' u' fr' til' w' :=
 ⟨hw,ha,(k.block R (Array.getElem?_eq_some_iff.1 h.r).1 (by simp;exact fun e=>h.ar e.symm)).trans h.r,h.ar,h.af,h.rf,h.a0,h.r0,h.h0⟩
theorem AW.name{w0 w:World}{F:Nat}{s:ByteArray}{A R:Nat}{nm:ByteArray}{u fr til:Int}(h:AW w0 F s A R nm u fr til w)(x:ByteArray):AW w0 F s A R x u fr til (w.setCell ⟨A,0,none⟩ (.string x)) :=
 h.to (h.fw.set h.a0 h.af (Nat.le_trans h.h0 h.a0) _ _) (Off.set0 _ _ _ _) (a2A h.a _)
theorem AW.from_{w0 w:World}{F:Nat}{s:ByteArray}{A R:Nat}{nm:ByteArray}{u fr til:Int}(h:AW w0 F s A R nm u fr til w)(x:Int):AW w0 F s A R nm u x til (w.setCell ⟨A,2,none⟩ (.int .i64 x)) :=
 h.to (h.fw.set h.a0 h.af (Nat.le_trans h.h0 h.a0) _ _) (Off.set0 _ _ _ _) (a2A h.a _)
theorem AW.a0Z{w0 w:World}{F:Nat}{s:ByteArray}{A R:Nat}{nm:ByteArray}{u fr til:Int}(h:AW w0 F s A R nm u fr til w)(x:Int):AW w0 F s A R nm u fr x (w.setCell ⟨A,3,none⟩ (.int .i64 x)) :=
 h.to (h.fw.set h.a0 h.af (Nat.le_trans h.h0 h.a0) _ _) (Off.set0 _ _ _ _) (a2A h.a _)
theorem a3B{w0 w:World}{F:Nat}{s:ByteArray}{A R:Nat}{nm:ByteArray}{u fr til:Int}(h:AW w0 F s A R nm u fr til w)(n:Int)(h1:1<=n)(h2:n<=1000):
  Calls Tryz.prog 25 #[.pointer (some ⟨F,0,none⟩),.int .i64 n] w fun e w'=>∃ v,e=.returned (.int .i64 v)/\0<=v/\v<n/\AW w0 F s A R nm u fr til w':=by
 have hf:FW w F s w:=⟨h.fw.fd,h.fw.env,Off.refl _ _,h.fw.ten⟩
 refine (a1h hf n h1 h2).mono ?_
 rintro e w' ⟨v,rfl,v0,v1,k⟩
 refine⟨v,rfl,v0,v1,⟨k.fd,k.env,h.fw.off.trans k.off,k.ten⟩,?_,?_,h.ar,h.af,h.rf,h.a0,h.r0,h.h0⟩
 ·exact (k.off.block A (Array.getElem?_eq_some_iff.1 h.a).1 (by simp;exact h.af)).trans h.a
 ·exact (k.off.block R (Array.getElem?_eq_some_iff.1 h.r).1 (by simp;exact h.rf)).trans h.r
structure b8U(nm:ByteArray)(u fr til:Int):Prop where
 n:nm=⟨#[97]⟩\/nm=⟨#[98]⟩\/nm=⟨#[99]⟩
 u1:1<=u
 u3:u<=3
 f0:0<=fr
 f1:fr<=1048320
 t0:0<=til
 t1:til<=1048320
theorem b0I{w:World}{F:Nat}{s:ByteArray}(h:FW w F s w):
  Calls Tryz.prog 24 #[.pointer (some ⟨F,0,none⟩)] w fun e w'=>∃ nm u fr til,e=.returned (.agg #[.string nm,.int .i64 u,.int .i64 fr,.int .i64 til])/\b8U nm u fr til/\FW w F s w':=by
 have hF:=h.lt
 have h10:=h.env.size
 have NX:=a0b (fun n h1 h2=>a1h (h.alloc (a1P ⟨#[]⟩ 0 0 0)) n h1 h2)
 have hr:(w.alloc (a1P ⟨#[]⟩ 0 0 0)).heap[w.heap.size]?=some (a1P ⟨#[]⟩ 0 0 0):=a0p w _
 have ST:Hid (∀ W u,FW w F s W->Off [F] (w.alloc (a1P ⟨#[]⟩ 0 0 0)) W->AW w F s W.heap.size w.heap.size ⟨#[97]⟩ u 0 0 (W.alloc (a1P ⟨#[97]⟩ u 0 0))):=fun W u hW ho=>by
  have hl:w.heap.size<W.heap.size:=Nat.lt_of_lt_of_le (by simp) ho.size
  have hR:=(ho.block w.heap.size (by simp) (by simp;omega)).trans hr
  exact⟨hW.alloc _,a0p W _,(Below.heap_alloc W _ _ hl).trans hR,by omega,by omega,by omega,by omega,Nat.le_refl _,h10⟩
 have NX1:=a0b (fun n h1 h2=>a1h (w0:=w.alloc (a1P ⟨#[]⟩ 0 0 0)) (w:=w.alloc (a1P ⟨#[]⟩ 0 0 0)) (F:=F) (s:=s) ⟨(h.alloc _).fd,(h.alloc _).env,Off.refl _ _,h.ten⟩ n h1 h2)
 have HH:=a0b h
 clear h hr NX
 go_enter Tryz.func24,Tryz.ntmps24
 go_upto_region 1 with fail
 change Code.wp _ _ _ _ (w.alloc (a1P ⟨#[]⟩ 0 0 0))
 go_upto_region 2 with (first
  |(go_at_call 25;refine (NX1.out 3 (by omega) (by omega)).mono ?_;rintro e w1 ⟨v1,rfl,a1,b1,hf1⟩;have k1:IntKind.i64.wrap (1+v1)=1+v1:=a0G (by omega) (by omega)))
 have HA:=a0b (ST.out w1 (1+v1) ⟨hf1.fd,hf1.env,((Off.refl [F] w).alloc _).trans hf1.off,hf1.ten⟩ hf1.off)
 clear ST NX1 HH
 have u1:1<=1+v1:=by omega
 have u3:1+v1<=3:=by omega
 clear hf1 a1 b1 k1
 change Code.wp _ _ _ _ (w1.alloc (a1P ⟨#[97]⟩ (1+v1) 0 0))
 generalize w1.alloc (a1P ⟨#[97]⟩ (1+v1) 0 0)=X1 at HA ⊢
 generalize w1.heap.size=A at HA ⊢
 generalize 1+v1=u at u1 u3 HA ⊢
 generalize w.heap.size=R at HA ⊢
 rename_i K1 h1 K0 h0
 have KK1:∀ (t4 t5 t6 t7 t8 t9 t10 t11:Value) (nm:ByteArray) (W:World),(nm=⟨#[97]⟩\/nm=⟨#[98]⟩)->AW w F s A R nm u 0 0 W->K1 { tmps:=#[.pointer (some ⟨F,0,none⟩),undef,.pointer (some ⟨R,0,none⟩),.pointer (some ⟨A,0,none⟩),t4,t5,t6,t7,t8,t9,t10,t11,undef,undef,undef,undef,undef,undef,undef,undef,undef,undef,undef,undef,undef,undef,undef,undef,undef,undef,undef,undef,undef,undef,undef,undef,undef,undef,undef,undef,undef,undef],defers:=[] } W:=by
  intro t4 t5 t6 t7 t8 t9 t10 t11 nm W hnm hA
  refine h1 _ _ ?_
  have HA:=a0b hA
  clear h1 h0 hA
  go_upto_region 5 with (first
   |(go_at_call 25;refine (a3B HA.out 30 (by omega) (by omega)).mono ?_;rintro e w3 ⟨v3,rfl,a3,b3,ha3⟩;have HA3:=a0b ha3;clear ha3;have k3:IntKind.i64.wrap (5*v3)=5*v3:=a0G (by omega) (by omega);have cf:=HA3.out.c.2.2.2.2;have c2:=HA3.out.c.2.2.1))
  have HB:=a0b (HA3.out.from_ (5*v3))
  have f0:0<=5*v3:=by omega
  have f1:5*v3<=145:=by omega
  clear HA HA3 k3 cf c2 a3 b3
  generalize w3.setCell ⟨A,2,none⟩ (.int .i64 (5*v3))=X3 at HB ⊢
  generalize 5*v3=fr at f0 f1 HB ⊢
  have HBd:=a0b HB.out.drew
  have c2:=HBd.out.c.2.2.1
  go_region_held3 (fun w'=>w'.cell? ⟨A,2,none⟩=some (.int .i64 fr))
   (first
    |exact c2b
    |exact AS _
    |exact c2)
   (first
    |(go_at_call 25;refine (a3B HBd.out 12 (by omega) (by omega)).mono ?_;rintro e w4 ⟨v4,rfl,a4,b4,ha4⟩;have HA4:=a0b ha4;clear ha4;have k4:IntKind.i64.wrap (5*v4)=5*v4:=a0G (by omega) (by omega);have k5:IntKind.i64.wrap (fr+5*v4)=fr+5*v4:=a0G (by omega) (by omega);have c2b:=HA4.out.c.2.2.1;have c3b:=HA4.out.c.2.2.2.1;have cfb:=HA4.out.c.2.2.2.2;have AS:=fun x=>(HA4.out.a0Z x).c.2.2.1))
  have HC:=a0b (HA4.out.a0Z (fr+5*v4))
  have g0:0<=fr+5*v4:=by omega
  have g1:fr+5*v4<=1000:=by omega
  clear HB HBd c2 HA4 k4 k5 c2b c3b cfb AS a4 b4
  generalize w4.setCell ⟨A,3,none⟩ (.int .i64 (fr+5*v4))=X4 at HC ⊢
  generalize fr+5*v4=til at g0 g1 HC ⊢
  go_upto_region 6 with fail
  rename_i K2 h2 K3 h3
  have KK2:∀ (t4 t5 t6 t7 t8 t9 t10 t11 t12 t13 t14 t15 t16 t17 t18 t19 t20 t21 t22 t23 t24 t25 t26 t27 t28 t29 t30 t31 t32 t33 t34 t35 t36:Value) (fr til:Int) (W:World),(0<=fr/\fr<=1048320)->(0<=til/\til<=1048320)->AW w F s A R nm u fr til W->K2 { tmps:=#[.pointer (some ⟨F,0,none⟩),undef,.pointer (some ⟨R,0,none⟩),.pointer (some ⟨A,0,none⟩),t4,t5,t6,t7,t8,t9,t10,t11,t12,t13,t14,t15,t16,t17,t18,t19,t20,t21,t22,t23,t24,t25,t26,t27,t28,t29,t30,t31,t32,t33,t34,t35,t36,undef,undef,undef,undef,undef],defers:=[] } W:=by
   intro t4 t5 t6 t7 t8 t9 t10 t11 t12 t13 t14 t15 t16 t17 t18 t19 t20 t21 t22 t23 t24 t25 t26 t27 t28 t29 t30 t31 t32 t33 t34 t35 t36 fr til W hf ht hA
   refine h2 _ _ ?_
   have HA:=a0b hA
   clear h2 h3 hA HC f0 f1 g0 g1
   go_upto_region 9 with fail
   rename_i K4 h4 K5 h5
   have KK4:∀ (t4 t5 t6 t7 t8 t9 t10 t11 t12 t13 t14 t15 t16 t17 t18 t19 t20 t21 t22 t23 t24 t25 t26 t27 t28 t29 t30 t31 t32 t33 t34 t35 t36 t37 t38 t39 t40:Value) (nm:ByteArray) (W:World),(nm=⟨#[97]⟩\/nm=⟨#[98]⟩\/nm=⟨#[99]⟩)->AW w F s A R nm u fr til W->K4 { tmps:=#[.pointer (some ⟨F,0,none⟩),undef,.pointer (some ⟨R,0,none⟩),.pointer (some ⟨A,0,none⟩),t4,t5,t6,t7,t8,t9,t10,t11,t12,t13,t14,t15,t16,t17,t18,t19,t20,t21,t22,t23,t24,t25,t26,t27,t28,t29,t30,t31,t32,t33,t34,t35,t36,t37,t38,t39,t40,undef],defers:=[] } W:=by
    intro t4 t5 t6 t7 t8 t9 t10 t11 t12 t13 t14 t15 t16 t17 t18 t19 t20 t21 t22 t23 t24 t25 t26 t27 t28 t29 t30 t31 t32 t33 t34 t35 t36 t37 t38 t39 t40 nm W hn hA
    refine h4 _ _ ?_
    obtain⟨c0,c1,c2,c3,cf⟩:=hA.c
    obtain⟨r0,r1,r2,r3,rf⟩:=hA.rc
    have HW:Hid (FW w F s ((((W.setCell ⟨R,0,none⟩ (.string nm)).setCell ⟨R,1,none⟩ (.int .i64 u)).setCell ⟨R,2,none⟩ (.int .i64 fr)).setCell ⟨R,3,none⟩ (.int .i64 til))) :=
     (((hA.fw.set hA.r0 hA.rf (Nat.le_trans hA.h0 hA.r0) _ _).set hA.r0 hA.rf (Nat.le_trans hA.h0 hA.r0) _ _).set hA.r0 hA.rf (Nat.le_trans hA.h0 hA.r0) _ _).set hA.r0 hA.rf (Nat.le_trans hA.h0 hA.r0) _ _
    have HK:=a0b (b8U.mk hn u1 u3 hf.1 hf.2 ht.1 ht.2)
    clear h4 h5 hA HA hf ht hn hnm
    go_wp2_with fail
    exact bodyPost_ret (v:=.agg #[.string nm,.int .i64 u,.int .i64 fr,.int .i64 til]) (by simp[results,Tryz.results24,go_sem,r0,r1,r2,r3]) rfl ⟨_,_,_,_,rfl,HK.out,HW.out⟩
   clear h4
   have hn3:nm=⟨#[97]⟩\/nm=⟨#[98]⟩\/nm=⟨#[99]⟩:=by rcases hnm with e|e <;> simp[e]
   clear hnm
   go_upto_region 10 with (first
    |(go_at_call 25;refine (a3B HA.out 20 (by omega) (by omega)).mono ?_;rintro e w7 ⟨v7,rfl,a7,b7,ha7⟩;have HA7:=a0b ha7;clear ha7))
   ·have c0:=HA7.out.c.1
    have cf:=HA7.out.c.2.2.2.2
    have HA8:=a0b (HA7.out.name ⟨#[99]⟩)
    clear HA7 HA
    go_wp2_with fail
    exact KK4 _ _ _ _ _ _ _ _ _ _ _ _ _ _ _ _ _ _ _ _ _ _ _ _ _ _ _ _ _ _ _ _ _ _ _ _ _ _ _ (.inr (.inr rfl)) HA8.out
   ·exact KK4 _ _ _ _ _ _ _ _ _ _ _ _ _ _ _ _ _ _ _ _ _ _ _ _ _ _ _ _ _ _ _ _ _ _ _ _ _ _ _ hn3 HA7.out
  go_upto_region 7 with (first
   |(go_at_call 25;refine (a3B HC.out 12 (by omega) (by omega)).mono ?_;rintro e w5 ⟨v5,rfl,a5,b5,ha5⟩;have HA5:=a0b ha5;clear ha5))
  ·have KKt:=KK2
   clear KK2 HC h2
   go_upto_region 8 with (first
    |(go_at_call 25;refine (a3B HA5.out 3 (by omega) (by omega)).mono ?_;rintro e w6 ⟨v6,rfl,a6,b6,ha6⟩;have HA6:=a0b ha6;clear ha6;have k6:IntKind.i64.wrap (1048320-v6)=1048320-v6:=a0G (by omega) (by omega);have cf:=HA6.out.c.2.2.2.2;have c3:=HA6.out.c.2.2.2.1))
   have HB6:=a0b (HA6.out.a0Z (1048320-v6))
   have p0:1048318<=1048320-v6:=by omega
   have p1:1048320-v6<=1048320:=by omega
   clear HA6 HA5 k6 cf c3 a6 b6 a5 b5
   generalize w6.setCell ⟨A,3,none⟩ (.int .i64 (1048320-v6))=X6 at HB6 ⊢
   generalize 1048320-v6=ti at p0 p1 HB6 ⊢
   have HBd:=a0b HB6.out.drew
   have c3:=HBd.out.c.2.2.2.1
   go_region_held3 (fun w'=>w'.cell? ⟨A,3,none⟩=some (.int .i64 ti))
    (first
     |exact c3b
     |exact AS _
     |exact c3)
    (first
     |(go_at_call 25;refine (a3B HBd.out 20 (by omega) (by omega)).mono ?_;rintro e w8 ⟨v8,rfl,a8,b8,ha8⟩;have HA8:=a0b ha8;clear ha8;have k8:IntKind.i64.wrap (10*v8)=10*v8:=a0G (by omega) (by omega);have k9:IntKind.i64.wrap (ti-10*v8)=ti-10*v8:=a0G (by omega) (by omega);have c3b:=HA8.out.c.2.2.2.1;have c2b:=HA8.out.c.2.2.1;have cfb:=HA8.out.c.2.2.2.2;have AS:=fun x=>(HA8.out.from_ x).c.2.2.2.1))
   have HA9:=a0b (HA8.out.from_ (ti-10*v8))
   exact KKt _ _ _ _ _ _ _ _ _ _ _ _ _ _ _ _ _ _ _ _ _ _ _ _ _ _ _ _ _ _ _ _ _ _ _ _ ⟨by omega,by omega⟩ ⟨by omega,by omega⟩ HA9.out
  ·exact KK2 _ _ _ _ _ _ _ _ _ _ _ _ _ _ _ _ _ _ _ _ _ _ _ _ _ _ _ _ _ _ _ _ _ _ _ _ ⟨by omega,by omega⟩ ⟨by omega,by omega⟩ HA5.out
 clear h1
 go_upto_region 3 with (first
  |(go_at_call 25;refine (a3B HA.out 3 (by omega) (by omega)).mono ?_;rintro e w2 ⟨v2,rfl,a2,b2,ha2⟩;have HA2:=a0b ha2;clear ha2))
 ·have c0:=HA2.out.c.1
  have cf:=HA2.out.c.2.2.2.2
  have HA3:=a0b (HA2.out.name ⟨#[98]⟩)
  clear HA2 HA
  go_wp2_with fail
  exact KK1 _ _ _ _ _ _ _ _ _ _ (.inr rfl) HA3.out
 ·exact KK1 _ _ _ _ _ _ _ _ _ _ (.inl rfl) HA2.out
theorem c0B{w0 w:World}{F:Nat}{s:ByteArray}(h:FW w0 F s w):
  Calls Tryz.prog 49 #[.pointer (some ⟨F,0,none⟩)] w fun e w'=>∃ t,e=.returned (.string t)/\t.size<=120/\FW w0 F s w':=by
 have HA:=a0b h
 clear h
 go_enter Tryz.func49,Tryz.ntmps49
 go_upto_region 4 with (first
  |(go_at_call 25;refine (a1h HA.out 4 (by omega) (by omega)).mono ?_;rintro e w1 ⟨v1,rfl,a1,b1,ha1⟩;have HA1:=a0b ha1;clear ha1))
 replace HA:=HA1
 clear HA1
 rename_i K8 h8 K5 h5
 have KK8:∀ (t8 t9 t10 t11 t12 t13 t14:Value) (x:ByteArray) (W:World),x.size<=8->FW w0 F s W->K8 { tmps:=#[.pointer (some ⟨F,0,none⟩),undef,.string ⟨#[]⟩,.string x,.int .i64 v1,undef,undef,undef,t8,t9,t10,t11,t12,t13,t14,undef,undef,undef,undef,undef,undef,undef,undef,undef,undef,undef,undef,undef,undef,undef,undef,undef,undef,undef,undef,undef,undef,undef,undef,undef,undef,undef,undef,undef,undef,undef,undef,undef,undef,undef,undef,undef,undef,undef,undef,undef,undef,undef,undef,undef,undef,undef,undef,undef,undef,undef,undef,undef,undef,undef,undef,undef,undef,undef,undef,undef,undef,undef,undef,undef],defers:=[] } W:=by
  intro t8 t9 t10 t11 t12 t13 t14 x W hx hW
  refine h8 _ _ ?_
  clear h8 h5 HA
  have HA:=a0b hW
  clear hW
  go_upto_region 9 with (first
   |(go_at_call 25;refine (a1h HA.out 5 (by omega) (by omega)).mono ?_;rintro e w2 ⟨v2,rfl,a2,b2,ha⟩;replace HA:=a0b ha;clear ha;have k2:IntKind.i64.wrap (1+v2)=1+v2:=a0G (by omega) (by omega))
   |(go_at_call 21;refine (a3L HA.out (1+v2) (by omega) (by omega)).mono ?_;rintro e w3 ⟨rfl,ha⟩;replace HA:=a0b ha;clear ha;have z2:=Txt.a0I (1+v2) (by omega) (by omega)))
  have zx:(x++Txt.a0x (1+v2)).size<=15:=by rw[ByteArray.size_append];omega
  generalize x++Txt.a0x (1+v2)=y at zx ⊢
  generalize Txt.a0x (1+v2)=y2
  clear k2 hx z2
  rename_i K12 h12 K9 h9
  have KK12:∀ (t5 t8 t9 t10 t11 t12 t13 t14 t15 t16 t17 t18 t19 t20 t21 t22 t23 t24 t25 t26 t27 t28 t29 t30:Value) (x:ByteArray) (W:World),x.size<=24->FW w0 F s W->K12 { tmps:=#[.pointer (some ⟨F,0,none⟩),undef,.string ⟨#[]⟩,.string x,.int .i64 v1,t5,undef,undef,t8,t9,t10,t11,t12,t13,t14,t15,t16,t17,t18,t19,t20,t21,t22,t23,t24,t25,t26,t27,t28,t29,t30,undef,undef,undef,undef,undef,undef,undef,undef,undef,undef,undef,undef,undef,undef,undef,undef,undef,undef,undef,undef,undef,undef,undef,undef,undef,undef,undef,undef,undef,undef,undef,undef,undef,undef,undef,undef,undef,undef,undef,undef,undef,undef,undef,undef,undef,undef,undef,undef,undef],defers:=[] } W:=by
   intro t5 t8 t9 t10 t11 t12 t13 t14 t15 t16 t17 t18 t19 t20 t21 t22 t23 t24 t25 t26 t27 t28 t29 t30 x W hx hW
   refine h12 _ _ ?_
   clear h12 h9 HA
   have HA:=a0b hW
   clear hW zx
   go_upto_region 13 with (first
    |(go_at_call 25;refine (a1h HA.out 6 (by omega) (by omega)).mono ?_;rintro e w4 ⟨v4,rfl,a4,b4,ha⟩;replace HA:=a0b ha;clear ha))
   go_upto_region 14 with (first
    |(go_at_call 25;refine (a1h HA.out 28 (by omega) (by omega)).mono ?_;rintro e w5 ⟨v5,rfl,a5,b5,ha⟩;replace HA:=a0b ha;clear ha))
   generalize (v4==1)=late
   have DT:=a0b (fun W (hW:FW w0 F s W)=>b3j hW v5 late (by omega) (by omega))
   have zl:(b1O late++b8V (1+v5)).size<=15:=by
    have:=b2V (n:=1+v5) (by omega) (by omega)
    have:(b1O late).size=8:=by cases late <;> rfl
    rw[ByteArray.size_append];omega
   have DT2:=a0b (fun W n (hn:0<=n/\n<=60) (hW:FW w0 F s W)=>b3j hW n late (by omega) (by omega))
   generalize hD:b1O late++b8V (1+v5)=dS at DT zl
   clear hD
   go_upto_region 15 with (first
    |(go_at_call 70;refine (DT.out _ HA.out).mono ?_;rintro e w6 ⟨rfl,ha⟩;replace HA:=a0b ha;clear ha DT)
    |(go_at_call 25;refine (a1h HA.out _ (by first|exact (by decide:(1:Int)<=3)|exact (by decide:(1:Int)<=4)|exact (by decide:(1:Int)<=100)) (by first|exact (by decide:(3:Int)<=1000)|exact (by decide:(4:Int)<=1000)|exact (by decide:(100:Int)<=1000))).mono ?_;rintro e w7 ⟨v7,rfl,a7,b7,ha⟩;replace HA:=a0b ha;clear ha;have k7:IntKind.i64.wrap (1+v7)=1+v7:=a0G (by omega) (by omega);have z7:=Txt.a0I v7 (by omega) (by omega);have z8:=Txt.a0I (1+v7) (by omega) (by omega))
    |(go_at_call 21;refine (a3L HA.out _ (by omega) (by omega)).mono ?_;rintro e w8 ⟨rfl,ha⟩;replace HA:=a0b ha;clear ha))
   rename_i wa va a7a b7a k7a z7a z8a wb wc vc a7c b7c k7c z7c z8c wd K17 h17 K16 h16
   have zz:((((((((x++(⟨#[32,102,114,111,109,32]⟩:ByteArray))++dS)++(⟨#[32,97,116,32,48]⟩:ByteArray))++Txt.a0x va)++(⟨#[58]⟩:ByteArray))++Txt.a0x (1+vc))++(⟨#[48,32,102,111,114,32]⟩:ByteArray))++Txt.a0x (1+v7)).size<=90:=by
    simp only[ByteArray.size_append]
    show x.size+6+dS.size+5+_+1+_+6+_<=90
    omega
   generalize (((((((x++(⟨#[32,102,114,111,109,32]⟩:ByteArray))++dS)++(⟨#[32,97,116,32,48]⟩:ByteArray))++Txt.a0x va)++(⟨#[58]⟩:ByteArray))++Txt.a0x (1+vc))++(⟨#[48,32,102,111,114,32]⟩:ByteArray))++Txt.a0x (1+v7)=y at zz ⊢
   clear k7a z7a z8a k7c z7c z8c k7 z7 z8 zl hx
   have k5:IntKind.i64.wrap (28-v5)=28-v5:=a0G (by omega) (by omega)
   have H17:=a0b h17
   clear h17
   go_upto_region 16 with (first
    |(go_at_call 25;refine (a1h HA.out 2 (by omega) (by omega)).mono ?_;rintro e w9 ⟨v8,rfl,a8,b8,ha⟩;replace HA:=a0b ha;clear ha))
   ·clear H17
    go_wp2_with (first
     |(go_at_call 25;refine (a1h HA.out (28-v5) (by omega) (by omega)).mono ?_;rintro e w9 ⟨v9,rfl,a9,b9,ha⟩;replace HA:=a0b ha;clear ha;have k9:IntKind.i64.wrap (v5+v9)=v5+v9:=a0G (by omega) (by omega))
     |(go_at_call 70;refine (DT2.out _ (v5+v9) (by omega) HA.out).mono ?_;rintro e w10 ⟨rfl,ha⟩;replace HA:=a0b ha;clear ha;have zl:(b1O late++b8V (1+(v5+v9))).size<=15:=(by
       have:=b2V (n:=1+(v5+v9)) (by omega) (by omega)
       have:(b1O late).size=8:=by cases late <;> rfl
       rw[ByteArray.size_append];omega);generalize b1O late++b8V (1+(v5+v9))=dS2 at zl ⊢))
    go_ret
    exact⟨_,rfl,by simp only[ByteArray.size_append];show y.size+7+_<=120;omega,HA.out⟩
   ·refine H17.out _ _ ?_
    clear H17
    go_wp2_with (first
     |(go_at_call 25;refine (a1h HA.out 6 (by omega) (by omega)).mono ?_;rintro e w9 ⟨v9,rfl,a9,b9,ha⟩;replace HA:=a0b ha;clear ha;have k9:IntKind.i64.wrap (1+v9)=1+v9:=a0G (by omega) (by omega);have z9:=Txt.a0I (1+v9) (by omega) (by omega))
     |(go_at_call 21;refine (a3L HA.out _ (by omega) (by omega)).mono ?_;rintro e w8 ⟨rfl,ha⟩;replace HA:=a0b ha;clear ha))
    go_ret
    exact⟨_,rfl,by simp only[ByteArray.size_append];show y.size+7+_<=120;omega,HA.out⟩
  clear h12
  by_cases hv1:v1=1
  ·subst hv1
   go_upto_region 11 with fail
   have HZ:=a0b (HA.out.alloc (.cells #[.string ⟨#[32,109,111]⟩,.string ⟨#[32,116,117,44,119,101]⟩,.string ⟨#[32,115,117,44,102,114,44,109,111]⟩] 9))
   have hcl:∀ n:Nat,n<3->∃ z:ByteArray,z.size<=9/\(w3.alloc (.cells #[.string ⟨#[32,109,111]⟩,.string ⟨#[32,116,117,44,119,101]⟩,.string ⟨#[32,115,117,44,102,114,44,109,111]⟩] 9)).cell? ⟨w3.heap.size,n,none⟩=some (.string z):=fun n hn=>by
    have hb:=a0p w3 (.cells #[.string ⟨#[32,109,111]⟩,.string ⟨#[32,116,117,44,119,101]⟩,.string ⟨#[32,115,117,44,102,114,44,109,111]⟩] 9)
    match n,hn with
    |0,_=>exact⟨⟨#[32,109,111]⟩,by decide,by simp only[World.cell?,hb];rfl⟩
    |1,_=>exact⟨⟨#[32,116,117,44,119,101]⟩,by decide,by simp only[World.cell?,hb];rfl⟩
    |2,_=>exact⟨⟨#[32,115,117,44,102,114,44,109,111]⟩,by decide,by simp only[World.cell?,hb];rfl⟩
    |n+3,hn=>omega
   have HC:=a0b hcl
   clear hcl
   have hne:w3.heap.size≠F:=by have:=HA.out.lt;omega
   have HNE:=a0b hne
   clear hne
   generalize w3.alloc (.cells #[.string ⟨#[32,109,111]⟩,.string ⟨#[32,116,117,44,119,101]⟩,.string ⟨#[32,115,117,44,102,114,44,109,111]⟩] 9)=Z at HZ HC ⊢
   have NZ:Hid (Calls Tryz.prog 25 #[.pointer (some ⟨F,0,none⟩),.int .i64 3] Z fun e w'=>∃ (n:Nat) (z:ByteArray),e=.returned (.int .i64 (n:Int))/\(n:Int)<3/\z.size<=9/\w'.cell? ⟨w3.heap.size,n,none⟩=some (.string z)/\FW w0 F s w'):=by
    refine (a1h (w0:=Z) (w:=Z) (F:=F) (s:=s) ⟨HZ.out.fd,HZ.out.env,Off.refl _ _,HZ.out.ten⟩ 3 (by omega) (by omega)).mono ?_
    rintro e w' ⟨v,rfl,v0,v1,k⟩
    obtain⟨n,rfl⟩:=Int.eq_ofNat_of_zero_le v0
    obtain⟨z,hz,hc⟩:=HC.out n (by omega)
    exact⟨n,z,rfl,v1,hz,k.off.cell (by simp;exact HNE.out) hc,k.fd,k.env,HZ.out.off.trans k.off,k.ten⟩
   clear HC HNE HZ HA
   go_wp2_with (first
    |(go_at_call 25;refine NZ.out.mono ?_;rintro e w4 ⟨n4,z4,rfl,n3,hz4,hc4,ha4⟩;have HA:=a0b ha4;clear ha4))
   exact KK12 _ _ _ _ _ _ _ _ _ _ _ _ _ _ _ _ _ _ _ _ _ _ _ _ _ _ (by rw[ByteArray.size_append];omega) HA.out
  ·have hb:(v1==1)=false:=by simpa using hv1
   go_wp2_with fail
   exact KK12 _ _ _ _ _ _ _ _ _ _ _ _ _ _ _ _ _ _ _ _ _ _ _ _ _ _ (by omega) HA.out
 clear h8
 by_cases hv1:v1=1
 ·have hb:(v1==1)=true:=by simpa using hv1
  clear hv1
  go_wp2_with fail
  exact KK8 _ _ _ _ _ _ _ ⟨#[119,101,101,107,108,121,32]⟩ _ (by decide) HA.out
 ·have hb:(v1==1)=false:=by simpa using hv1
  by_cases hv2:v1=2
  ·have hb2:(v1==2)=true:=by simpa using hv2
   clear hv1 hv2
   go_wp2_with fail
   exact KK8 _ _ _ _ _ _ _ ⟨#[109,111,110,116,104,108,121,32]⟩ _ (by decide) HA.out
  ·have hb2:(v1==2)=false:=by simpa using hv2
   go_wp2_with fail
   exact KK8 _ _ _ _ _ _ _ ⟨#[100,97,105,108,121,32]⟩ _ (by decide) HA.out
open Go
def b0r(n:Nat)(listed:Array Bool):Nat:=((List.range n).filter fun i=>!listed.getD i true).length
theorem b7H{n:Nat}{listed:Array Bool}{i:Nat}(hs:listed.size=n)(hi:listed.getD i true=false):b0r n (listed.setIfInBounds i true)<b0r n listed:=by
 have hin:i<listed.size:=by
  apply Classical.byContradiction
  intro h
  rw[Array.getD_eq_getD_getElem?,Array.getElem?_eq_none (by omega)] at hi
  cases hi
 have hg:∀ j,(listed.setIfInBounds i true).getD j true=(decide (j=i) || listed.getD j true):=fun j=>by
  by_cases e:j=i
  ·subst e;simp[Array.getD_eq_getD_getElem?,hin]
  ·have e':¬ i=j:=fun h=>e h.symm
   simp[Array.getD_eq_getD_getElem?,e,e']
 unfold b0r
 have:(List.range n).filter (fun j=>!(listed.setIfInBounds i true).getD j true)=((List.range n).filter fun j=>!listed.getD j true).filter (fun j=>!decide (j=i)):=by
  rw[List.filter_filter]
  congr 1
  funext j
  rw[hg j]
  cases decide (j=i) <;> simp
 rw[this]
 have hm:i∈(List.range n).filter fun j=>!listed.getD j true:=List.mem_filter.2 ⟨List.mem_range.2 (by omega),by rw[hi];rfl⟩
 exact List.length_filter_lt_length_iff_exists.2 ⟨i,hm,by simp⟩
theorem c0H{listed:Array Bool}{i:Nat}(h:i<listed.size)(b c:Bool):listed.getD i b=listed.getD i c:=by
 simp[Array.getD_eq_getD_getElem?,h]
theorem b6T{listed:Array Bool}{i:Nat}(h:i<listed.size):(fun j=>(listed.setIfInBounds i true).getD j false)=fun j=>decide (j=i) || listed.getD j false:=by
 funext j
 by_cases e:j=i
 ·subst e;simp[Array.getD_eq_getD_getElem?,h]
 ·have e':¬ i=j:=fun h=>e h.symm
  simp[Array.getD_eq_getD_getElem?,e,e']
section
variable {P:Program}{ops:Array Oper}{Q:Exit->Act->World->Prop}{md:Region.Mode}{n:Nat}
theorem b1f(hn:ops.size=n)(hord:∀ (i:Nat)(o:Oper),ops[i]?=some o->(o.after.all fun e=>!Region.binds md e || decide (e.on<i))=true){listed:Array Bool}(hs:listed.size=n)(hr:Region.ready md ops listed=[]):∀ i,i<n->listed.getD i false=true:=by
 intro i
 induction i using Nat.strongRecOn with
 |_ i ih =>
  intro hi
  apply Classical.byContradiction
  intro hc
  have hc':listed.getD i true=false:=by rw[c0H (by omega) true false];simpa using hc
  obtain⟨o,ho⟩:∃ o,ops[i]?=some o:=⟨_,Array.getElem?_eq_getElem (by omega)⟩
  have hm:i∈Region.ready md ops listed:=by
   refine List.mem_filter.2 ⟨List.mem_range.2 (by omega),?_⟩
   rw[hc',ho]
   have h1:=hord i o ho
   rw[Array.all_eq_true'] at h1
   show (!false && (o.after.all fun e=>!Region.binds md e || listed.getD e.on false))=true
   rw[Bool.not_false,Bool.true_and,Array.all_eq_true']
   intro e he
   have h2:=h1 e he
   cases hb:Region.binds md e
   ·rfl
   ·rw[hb] at h2
    have h3:e.on<i:=by simpa using h2
    rw[ih e.on h3 (by omega)];rfl
  rw[hr] at hm
  cases hm
def a9X(md:Region.Mode)(ops:Array Oper)(L:Nat->Bool):Prop:=∀ (i:Nat)(o:Oper),ops[i]?=some o->L i=true->(o.after.all fun e=>!Region.binds md e || L e.on)=true
theorem a9X.more{L:Nat->Bool}(h:a9X md ops L){i:Nat}{o:Oper}(ho:ops[i]?=some o)(hd:(o.after.all fun e=>!Region.binds md e || L e.on)=true):a9X md ops (fun j=>decide (j=i) || L j):=by
 intro j q hq hj
 have up:∀ (q:Oper),(q.after.all fun e=>!Region.binds md e || L e.on)=true->(q.after.all fun e=>!Region.binds md e || (decide (e.on=i) || L e.on))=true:=fun q hq=>by
  rw[Array.all_eq_true'] at hq ⊢
  intro e he
  have:=hq e he
  cases hb:Region.binds md e
  ·rfl
  ·rw[hb] at this
   have h1:L e.on=true:=by simpa using this
   rw[h1];simp
 by_cases e:j=i
 ·subst e
  rw[ho] at hq
  cases hq
  exact up o hd
 ·have:L j=true:=by simpa[e] using hj
  exact up q (h j q hq this)
theorem b8W(hn:ops.size=n)(hord:∀ (i:Nat)(o:Oper),ops[i]?=some o->(o.after.all fun e=>!Region.binds md e || decide (e.on<i))=true)(I:(Nat->Bool)->Act->World->Prop)
  (hstep:∀ (L:Nat->Bool) (a:Act) (w:World) (i:Nat) (o:Oper),a9X md ops L->I L a w->ops[i]?=some o->L i=false->(o.after.all fun e=>!Region.binds md e || L e.on)=true->∀ K:Act->World->Prop,(∀ a' w',I (fun j=>decide (j=i) || L j) a' w'->K a' w')->if Region.wanted o (yielded ops a.tmps)=true then Oper.wp P o a w K Q else K (a.put o.dst undef) w)
  (hdone:∀ (L:Nat->Bool) (a:Act) (w:World),(∀ i,i<n->L i=true)->I L a w->Q .normal a w):
  ∀ (fuel:Nat) (listed:Array Bool) (a:Act) (w:World),listed.size=n->b0r n listed<=fuel->a9X md ops (fun j=>listed.getD j false)->I (fun j=>listed.getD j false) a w->wpAny P md ops Q fuel listed a w:=by
 intro fuel
 induction fuel with
 |zero =>
  intro listed a w hs ht hcl hI
  have hr:Region.ready md ops listed=[]:=by
   apply Classical.byContradiction
   intro hne
   obtain⟨i,hi⟩:=List.exists_mem_of_ne_nil _ hne
   obtain⟨h1,h2⟩:=List.mem_filter.1 hi
   have h3:listed.getD i true=false:=by
    rw[Bool.and_eq_true] at h2
    simpa using h2.1
   have:i∈(List.range n).filter fun i=>!listed.getD i true:=List.mem_filter.2 ⟨by rw[<- hn];exact h1,by rw[h3];rfl⟩
   have:=List.length_pos_of_mem this
   unfold b0r at ht
   omega
  exact⟨hr,hdone _ _ _ (b1f hn hord hs hr) hI⟩
 |succ fuel ih =>
  intro listed a w hs ht hcl hI
  refine⟨fun hr=>hdone _ _ _ (b1f hn hord hs hr) hI,fun i hi=>?_⟩
  obtain⟨h1,h2⟩:=List.mem_filter.1 hi
  have hin:i<n:=by rw[<- hn];exact List.mem_range.1 h1
  rw[Bool.and_eq_true] at h2
  have h3:listed.getD i true=false:=by simpa using h2.1
  obtain⟨o,ho⟩:∃ o,ops[i]?=some o:=⟨_,Array.getElem?_eq_getElem (by omega)⟩
  have h4:(o.after.all fun e=>!Region.binds md e || listed.getD e.on false)=true:=by
   have:=h2.2
   rw[ho] at this
   exact this
  refine wpOp_step ho (fun K hK=>hstep _ a w i o hcl hI ho ?_ h4 K (fun a' w' hI'=>hK _ _ (ih _ _ _ (by simpa using hs) ?_ ?_ ?_)))
  ·rw[<- c0H (by omega) true false];exact h3
  ·have:=b7H hs h3;omega
  ·rw[b6T (by omega)];exact hcl.more ho h4
  ·rw[b6T (by omega)];exact hI'
theorem b6C(n:Nat):(fun j=>(Array.replicate n false).getD j false)=fun _=>false:=by
 funext j
 by_cases h:j<n <;> simp[Array.getD_eq_getD_getElem?,h]
theorem a6t{id:Nat}{a:Act}{w:World}(hm:P.follows .mixedOrders=true)(hord:∀ (i:Nat)(o:Oper),ops[i]?=some o->(o.after.all fun e=>!Region.binds .any e || decide (e.on<i))=true)(I:(Nat->Bool)->Act->World->Prop)(h0:I (fun _=>false) a w.drew)
  (hstep:∀ (L:Nat->Bool) (a:Act) (w:World) (i:Nat) (o:Oper),a9X .any ops L->I L a w->ops[i]?=some o->L i=false->(o.after.all fun e=>!Region.binds .any e || L e.on)=true->∀ K:Act->World->Prop,(∀ a' w',I (fun j=>decide (j=i) || L j) a' w'->K a' w')->if Region.wanted o (yielded ops a.tmps)=true then Oper.wp P o a w K Q else K (a.put o.dst undef) w)
  (hdone:∀ (L:Nat->Bool) (a:Act) (w:World),(∀ i,i<ops.size->L i=true)->I L a w->Q .normal a w):(Code.region id ops true).wp P Q a w:=by
 refine wp_region_any hm (b8W rfl hord I hstep hdone ops.size (Array.replicate ops.size false) a _ (by simp) ?_ ?_ ?_)
 ·unfold b0r
  exact Nat.le_trans (List.length_filter_le _ _) (by simp)
 ·rw[b6C];intro i o _ h;cases h
 ·rw[b6C];exact h0
end
theorem FW.self{w0 w:World}{F:Nat}{s:ByteArray}(h:FW w0 F s w):FW w F s w:=⟨h.fd,h.env,Off.refl _ _,h.ten⟩
theorem FW.back{w0 w w':World}{F:Nat}{s:ByteArray}(h:FW w0 F s w)(k:FW w F s w'):FW w0 F s w':=⟨k.fd,k.env,h.off.trans k.off,k.ten⟩
theorem c5s(args:Array Value)(w:World):(callFunc 25 args).run Tryz.prog w=.ok (.enter 25 args) w:=enters_of Tryz.func25 (by kernel_rfl) rfl args w
theorem c5q(args:Array Value)(w:World):(callFunc 49 args).run Tryz.prog w=.ok (.enter 49 args) w:=enters_of Tryz.func49 (by kernel_rfl) rfl args w
structure c1B(g F:Nat)(W:World):Prop where
 ne:g≠F
 c:∀ n:Nat,n<2->∃ z:ByteArray,z.size<=4/\W.cell? ⟨g,n,none⟩=some (.string z)
theorem c1B.off{g F:Nat}{W W':World}(h:c1B g F W)(k:Off [F] W W'):c1B g F W':=⟨h.ne,fun n hn=>by
 obtain⟨z,hz,hc⟩:=h.c n hn
 exact⟨z,hz,k.cell (by simp;exact h.ne) hc⟩⟩
theorem c1B.alloc{g F:Nat}{W:World}(h:c1B g F W)(o:Obj):c1B g F (W.alloc o):=h.off (Off.of_below ((Below.refl _ _).alloc (Nat.le_refl _) _))
theorem c1B.new{w0 W:World}{F:Nat}{s:ByteArray}(h:FW w0 F s W):c1B W.heap.size F (W.alloc (.cells #[.string ⟨#[97,32,49,32]⟩,.string ⟨#[98,32,50,32]⟩] 9)):=⟨by have:=h.lt;omega,fun n hn=>by
 have hb:=a0p W (.cells #[.string ⟨#[97,32,49,32]⟩,.string ⟨#[98,32,50,32]⟩] 9)
 match n,hn with
 |0,_=>exact⟨⟨#[97,32,49,32]⟩,by decide,by simp only[World.cell?,hb];rfl⟩
 |1,_=>exact⟨⟨#[98,32,50,32]⟩,by decide,by simp only[World.cell?,hb];rfl⟩
 |n+2,hn=>omega⟩
def c0h : Oper := { dst := some 56, op := Op.buildSlice 26 2 #[(0, Operand.const (Value.string { data := #[97, 32, 49, 32] })), (1, Operand.const (Value.string { data := #[98, 32, 50, 32] }))], type := 26, pos := "build.go:117", after := #[], guard := none }
def c0g : Oper := { dst := some 57, op := Op.move (Operand.tmp 0), type := 45, pos := "build.go:117", after := #[], guard := none }
def b6x : Oper := { dst := some 58, op := Op.call { callee := Callee.value (Operand.func 25), args := #[Operand.tmp 57, Operand.const (Value.int IntKind.i64 2)], argTypes := #[45, 3] }, type := 3, pos := "build.go:117", after := #[{ on := 1, ground := Ground.data }], guard := none }
def b6w : Oper := { dst := some 59, op := Op.indexAddr 26 (Operand.tmp 56) (Operand.tmp 58), type := 0, pos := "build.go:117", after := #[{ on := 0, ground := Ground.data }, { on := 2, ground := Ground.data }], guard := none }
def b6v : Oper := { dst := some 60, op := Op.load 9 (Operand.tmp 59), type := 9, pos := "build.go:117", after := #[{ on := 3, ground := Ground.data }], guard := none }
def b6u : Oper := { dst := some 61, op := Op.binOp BinOp.add 9 (Operand.const (Value.string { data := #[115, 101, 114, 105, 101, 115, 32] })) (Operand.tmp 60) 9, type := 9, pos := "build.go:117", after := #[{ on := 4, ground := Ground.data }], guard := none }
def c0f : Oper := { dst := some 62, op := Op.move (Operand.tmp 0), type := 45, pos := "build.go:117", after := #[], guard := none }
def b6t : Oper := { dst := some 63, op := Op.call { callee := Callee.value (Operand.func 49), args := #[Operand.tmp 62], argTypes := #[45] }, type := 9, pos := "build.go:117", after := #[{ on := 6, ground := Ground.data }, { on := 2, ground := Ground.chain }], guard := none }
def b6s : Oper := { dst := some 64, op := Op.binOp BinOp.add 9 (Operand.tmp 61) (Operand.tmp 63) 9, type := 9, pos := "build.go:117", after := #[{ on := 5, ground := Ground.data }, { on := 7, ground := Ground.data }], guard := none }
def b6r : Oper := { dst := some 2, op := Op.assign (Operand.tmp 64), type := 9, pos := "build.go:117", after := #[{ on := 8, ground := Ground.data }, { on := 7, ground := Ground.chain }, { on := 0, ground := Ground.phase }, { on := 1, ground := Ground.phase }, { on := 2, ground := Ground.phase }, { on := 3, ground := Ground.phase }, { on := 4, ground := Ground.phase }, { on := 5, ground := Ground.phase }, { on := 6, ground := Ground.phase }, { on := 7, ground := Ground.phase }, { on := 8, ground := Ground.phase }], guard := none }
def c3W:Array Oper:=#[c0h,c0g,b6x,b6w,b6v,b6u,c0f,b6t,b6s,b6r]
structure c7D(w0:World)(F:Nat)(s:ByteArray)(L:Nat->Bool)(u2 u56 u57 u58 u59 u60 u61 u62 u63 u64:Value)(W:World):Prop where
 fw:FW w0 F s W
 f0:L 0=true->∃ g,u56=.slice (some ⟨g,0,none⟩) 2 2/\c1B g F W
 f1:L 1=true->u57=.pointer (some ⟨F,0,none⟩)
 f2:L 2=true->∃ n:Nat,n<2/\u58=.int .i64 (n:Int)
 f3:L 3=true->∃ (g n:Nat),n<2/\u59=.pointer (some ⟨g,n,none⟩)/\c1B g F W
 f4:L 4=true->∃ z:ByteArray,z.size<=4/\u60=.string z
 f5:L 5=true->∃ z:ByteArray,z.size<=4/\u61=.string ((⟨#[115,101,114,105,101,115,32]⟩:ByteArray)++z)
 f6:L 6=true->u62=.pointer (some ⟨F,0,none⟩)
 f7:L 7=true->∃ t:ByteArray,t.size<=120/\u63=.string t
 f8:L 8=true->∃ (z t:ByteArray),z.size<=4/\t.size<=120/\u64=.string (((⟨#[115,101,114,105,101,115,32]⟩:ByteArray)++z)++t)
 f9:L 9=true->∃ (z t:ByteArray),z.size<=4/\t.size<=120/\u2=.string (((⟨#[115,101,114,105,101,115,32]⟩:ByteArray)++z)++t)
theorem c6i{w0:World}{F:Nat}{s:ByteArray}{t3 t4 t5 t6 t7 t8 t9 t10 t11 t12 t13 t14 t15 t16 t17 t18 t19 t20 t21 t22 t23 t24 t25 t26 t27 t28 t29 t30 t31 t32 t33 t34 t35 t36 t37 t38 t39 t40 t41 t42 t43 t44 t45 t46 t47 t48 t49 t50 t51 t52 t53 t54 t55:Value}{Q:Exit->Act->World->Prop}{Y:World}(hY:FW w0 F s Y)(KK:∀ (u56 u57 u58 u59 u60 u61 u62 u63 u64:Value)(z t:ByteArray)(W:World),z.size<=4->t.size<=120->FW w0 F s W->Q .normal { tmps:=#[.pointer (some ⟨F,0,none⟩),undef,(.string (((⟨#[115,101,114,105,101,115,32]⟩:ByteArray)++z)++t)),t3,t4,t5,t6,t7,t8,t9,t10,t11,t12,t13,t14,t15,t16,t17,t18,t19,t20,t21,t22,t23,t24,t25,t26,t27,t28,t29,t30,t31,t32,t33,t34,t35,t36,t37,t38,t39,t40,t41,t42,t43,t44,t45,t46,t47,t48,t49,t50,t51,t52,t53,t54,t55,u56,u57,u58,u59,u60,u61,u62,u63,u64,undef,undef,undef,undef,undef],defers:=[] } W):
  (Code.region 18 c3W true).wp Tryz.prog Q { tmps:=#[.pointer (some ⟨F,0,none⟩),undef,.string ⟨#[]⟩,t3,t4,t5,t6,t7,t8,t9,t10,t11,t12,t13,t14,t15,t16,t17,t18,t19,t20,t21,t22,t23,t24,t25,t26,t27,t28,t29,t30,t31,t32,t33,t34,t35,t36,t37,t38,t39,t40,t41,t42,t43,t44,t45,t46,t47,t48,t49,t50,t51,t52,t53,t54,t55,undef,undef,undef,undef,undef,undef,undef,undef,undef,undef,undef,undef,undef,undef],defers:=[] } Y:=by
 refine a6t (by kernel_rfl) ?ord (fun L a W=>∃ u2 u56 u57 u58 u59 u60 u61 u62 u63 u64:Value,a={ tmps:=#[.pointer (some ⟨F,0,none⟩),undef,u2,t3,t4,t5,t6,t7,t8,t9,t10,t11,t12,t13,t14,t15,t16,t17,t18,t19,t20,t21,t22,t23,t24,t25,t26,t27,t28,t29,t30,t31,t32,t33,t34,t35,t36,t37,t38,t39,t40,t41,t42,t43,t44,t45,t46,t47,t48,t49,t50,t51,t52,t53,t54,t55,u56,u57,u58,u59,u60,u61,u62,u63,u64,undef,undef,undef,undef,undef],defers:=[] }/\c7D w0 F s L u2 u56 u57 u58 u59 u60 u61 u62 u63 u64 W) ?start ?step ?done
 case ord =>
  have hall:((List.range 10).all fun j=>match c3W[j]? with|some o=>(o.after.all fun e=>!Region.binds .any e || decide (e.on<j))|none=>true)=true:=by decide +kernel
  intro j o ho
  have hj:j<10:=(Array.getElem?_eq_some_iff.1 ho).1
  have:=List.all_eq_true.1 hall j (List.mem_range.2 hj)
  rw[ho] at this
  exact this
 case start =>
  exact⟨_,_,_,_,_,_,_,_,_,_,rfl,⟨hY.drew,fun e=>(nomatch e),fun e=>(nomatch e),fun e=>(nomatch e),fun e=>(nomatch e),fun e=>(nomatch e),fun e=>(nomatch e),fun e=>(nomatch e),fun e=>(nomatch e),fun e=>(nomatch e),fun e=>(nomatch e)⟩⟩
 case done =>
  rintro L a W hall ⟨u2,u56,u57,u58,u59,u60,u61,u62,u63,u64,rfl,h⟩
  obtain⟨z,t,hz,ht,rfl⟩:=h.f9 (hall 9 (by decide))
  exact KK u56 u57 u58 u59 u60 u61 u62 u63 u64 z t W hz ht h.fw
 case step =>
  rintro L a W j o hcl ⟨u2,u56,u57,u58,u59,u60,u61,u62,u63,u64,rfl,h⟩ ho hL hd K hK
  have hj:j<10:=(Array.getElem?_eq_some_iff.1 ho).1
  match j,hj,ho,hL,hd,hK with
  |0,_,ho,hL,hd,hK =>
   obtain rfl:c0h=o:=Option.some.inj ho
   clear hd hcl
   unfold c0h
   go_simp
   exact hK _ _ ⟨_,_,_,_,_,_,_,_,_,_,rfl,⟨h.fw.alloc _,fun _=>⟨W.heap.size,rfl,c1B.new h.fw⟩,h.f1,h.f2,fun e=>(h.f3 e).imp fun g hg=>hg.imp fun n hn=>⟨hn.1,hn.2.1,hn.2.2.alloc _⟩,h.f4,h.f5,h.f6,h.f7,h.f8,h.f9⟩⟩
  |1,_,ho,hL,hd,hK =>
   obtain rfl:c0g=o:=Option.some.inj ho
   clear hd hcl
   unfold c0g
   go_simp
   exact hK _ _ ⟨_,_,_,_,_,_,_,_,_,_,rfl,⟨h.fw,h.f0,fun _=>rfl,h.f2,h.f3,h.f4,h.f5,h.f6,h.f7,h.f8,h.f9⟩⟩
  |2,_,ho,hL,hd,hK =>
   obtain rfl:b6x=o:=Option.some.inj ho
   have dd_:L 1=true:=by simpa[Region.binds,b6x] using hd
   have d1:=dd_
   clear dd_
   clear hd hcl
   unfold b6x
   obtain rfl:=h.f1 d1
   refine a2k (by rfl) 25 _ _ (by rfl) _ (by simp[Act.eval]) (c5s _ _) (a1h h.fw.self 2 (by omega) (by omega)) ?_
   rintro e w7 ⟨v,rfl,v0,v1,k7⟩
   refine⟨_,rfl,?_⟩
   have ho7:=k7.off
   obtain⟨n,rfl⟩:=Int.eq_ofNat_of_zero_le v0
   exact hK _ _ ⟨_,_,_,_,_,_,_,_,_,_,rfl,⟨h.fw.back k7,fun e=>(h.f0 e).imp fun g hg=>⟨hg.1,hg.2.off ho7⟩,fun _=>rfl,fun _=>⟨n,by omega,rfl⟩,fun e=>(h.f3 e).imp fun g hg=>hg.imp fun n hn=>⟨hn.1,hn.2.1,hn.2.2.off ho7⟩,h.f4,h.f5,h.f6,h.f7,h.f8,h.f9⟩⟩
  |3,_,ho,hL,hd,hK =>
   obtain rfl:b6w=o:=Option.some.inj ho
   have dd_:L 0=true/\L 2=true:=by simpa[Region.binds,b6w] using hd
   have d0:=dd_.1
   have d2:=dd_.2
   clear dd_
   clear hd hcl
   unfold b6w
   obtain⟨g,rfl,hg⟩:=h.f0 d0
   obtain⟨n,hn,rfl⟩:=h.f2 d2
   have hn':(n:Int)<2:=by omega
   go_simp
   exact hK _ _ ⟨_,_,_,_,_,_,_,_,_,_,rfl,⟨h.fw,fun _=>⟨g,rfl,hg⟩,h.f1,fun _=>⟨n,hn,rfl⟩,fun _=>⟨g,n,hn,rfl,hg⟩,h.f4,h.f5,h.f6,h.f7,h.f8,h.f9⟩⟩
  |4,_,ho,hL,hd,hK =>
   obtain rfl:b6v=o:=Option.some.inj ho
   have dd_:L 3=true:=by simpa[Region.binds,b6v] using hd
   have d3:=dd_
   clear dd_
   clear hd hcl
   unfold b6v
   obtain⟨g,n,hn,rfl,hg⟩:=h.f3 d3
   obtain⟨z,hz,hc⟩:=hg.c n hn
   go_simp
   exact hK _ _ ⟨_,_,_,_,_,_,_,_,_,_,rfl,⟨h.fw,h.f0,h.f1,h.f2,fun _=>⟨g,n,hn,rfl,hg⟩,fun _=>⟨z,hz,rfl⟩,h.f5,h.f6,h.f7,h.f8,h.f9⟩⟩
  |5,_,ho,hL,hd,hK =>
   obtain rfl:b6u=o:=Option.some.inj ho
   have dd_:L 4=true:=by simpa[Region.binds,b6u] using hd
   have d4:=dd_
   clear dd_
   clear hd hcl
   unfold b6u
   obtain⟨z,hz,rfl⟩:=h.f4 d4
   have sz:¬ (9223372036854775807<7+z.size):=by omega
   go_simp
   exact hK _ _ ⟨_,_,_,_,_,_,_,_,_,_,rfl,⟨h.fw,h.f0,h.f1,h.f2,h.f3,fun _=>⟨z,hz,rfl⟩,fun _=>⟨z,hz,rfl⟩,h.f6,h.f7,h.f8,h.f9⟩⟩
  |6,_,ho,hL,hd,hK =>
   obtain rfl:c0f=o:=Option.some.inj ho
   clear hd hcl
   unfold c0f
   go_simp
   exact hK _ _ ⟨_,_,_,_,_,_,_,_,_,_,rfl,⟨h.fw,h.f0,h.f1,h.f2,h.f3,h.f4,h.f5,fun _=>rfl,h.f7,h.f8,h.f9⟩⟩
  |7,_,ho,hL,hd,hK =>
   obtain rfl:b6t=o:=Option.some.inj ho
   have dd_:L 6=true/\L 2=true:=by simpa[Region.binds,b6t] using hd
   have d6:=dd_.1
   clear dd_
   clear hd hcl
   unfold b6t
   obtain rfl:=h.f6 d6
   refine a2k (by rfl) 49 _ _ (by rfl) _ (by simp[Act.eval]) (c5q _ _) (c0B h.fw.self) ?_
   rintro e w7 ⟨t,rfl,ht,k7⟩
   refine⟨_,rfl,?_⟩
   have ho7:=k7.off
   exact hK _ _ ⟨_,_,_,_,_,_,_,_,_,_,rfl,⟨h.fw.back k7,fun e=>(h.f0 e).imp fun g hg=>⟨hg.1,hg.2.off ho7⟩,h.f1,h.f2,fun e=>(h.f3 e).imp fun g hg=>hg.imp fun n hn=>⟨hn.1,hn.2.1,hn.2.2.off ho7⟩,h.f4,h.f5,fun _=>rfl,fun _=>⟨t,ht,rfl⟩,h.f8,h.f9⟩⟩
  |8,_,ho,hL,hd,hK =>
   obtain rfl:b6s=o:=Option.some.inj ho
   have dd_:L 5=true/\L 7=true:=by simpa[Region.binds,b6s] using hd
   have d5:=dd_.1
   have d7:=dd_.2
   clear dd_
   clear hd hcl
   unfold b6s
   obtain⟨z,hz,rfl⟩:=h.f5 d5
   obtain⟨t,ht,rfl⟩:=h.f7 d7
   have sz:¬ (9223372036854775807<7+z.size+t.size):=by omega
   go_simp
   exact hK _ _ ⟨_,_,_,_,_,_,_,_,_,_,rfl,⟨h.fw,h.f0,h.f1,h.f2,h.f3,h.f4,fun _=>⟨z,hz,rfl⟩,h.f6,fun _=>⟨t,ht,rfl⟩,fun _=>⟨z,t,hz,ht,rfl⟩,h.f9⟩⟩
  |9,_,ho,hL,hd,hK =>
   obtain rfl:b6r=o:=Option.some.inj ho
   have dd_:L 0=true/\L 1=true/\L 2=true/\L 3=true/\L 4=true/\L 5=true/\L 6=true/\L 7=true/\L 8=true:=by
    simp[Region.binds,b6r] at hd
    simp[hd]
   have d8:=dd_.2.2.2.2.2.2.2.2
   clear dd_
   clear hd hcl
   unfold b6r
   obtain⟨z,t,hz,ht,rfl⟩:=h.f8 d8
   go_simp
   exact hK _ _ ⟨_,_,_,_,_,_,_,_,_,_,rfl,⟨h.fw,h.f0,h.f1,h.f2,h.f3,h.f4,h.f5,h.f6,h.f7,fun _=>⟨z,t,hz,ht,rfl⟩,fun _=>⟨z,t,hz,ht,rfl⟩⟩⟩
  |n+10,hj,_,_,_,_=>exact absurd hj (by omega)
theorem a7L{w0 w:World}{F:Nat}{s:ByteArray}(h:FW w0 F s w):
  Calls Tryz.prog 24 #[.pointer (some ⟨F,0,none⟩)] w fun e w'=>∃ nm u fr til,e=.returned (.agg #[.string nm,.int .i64 u,.int .i64 fr,.int .i64 til])/\b8U nm u fr til/\FW w0 F s w' :=
 (b0I h.self).mono fun _ _ ⟨nm,u,fr,til,e,a,k⟩=>⟨nm,u,fr,til,e,a,h.back k⟩
theorem b8U.size{nm:ByteArray}{u fr til:Int}(h:b8U nm u fr til):nm.size<=10:=by
 rcases h.n with rfl|rfl|rfl <;> decide
theorem a9u{w0 w:World}{F:Nat}{s:ByteArray}(h:FW w0 F s w){nm:ByteArray}{u fr til:Int}(ha:b8U nm u fr til):
  Calls Tryz.prog 27 #[.agg #[.string nm,.int .i64 u,.int .i64 fr,.int .i64 til]] w fun e w'=>∃ t,e=.returned (.string t)/\t.size<=40/\FW w0 F s w':=by
 have b:=ha.u1
 have c:=ha.u3
 have d:=ha.f0
 have e:=ha.f1
 have f:=ha.t0
 have g:=ha.t1
 refine (b5S w h.env nm u fr til ha.size ⟨by omega,by omega⟩ ⟨by omega,by omega⟩ ⟨by omega,by omega⟩).mono ?_
 rintro e w' ⟨rfl,k⟩
 exact⟨_,rfl,b3U ha.size ⟨by omega,by omega⟩ ⟨by omega,by omega⟩ ⟨by omega,by omega⟩,h.later k⟩
def a3S:List ByteArray:=[⟨#[98,111,111,107,32]⟩,⟨#[104,111,108,100,32]⟩,⟨#[119,97,105,116,32]⟩,⟨#[99,97,110,99,101,108,32]⟩,⟨#[99,111,110,102,105,114,109,32]⟩,⟨#[115,101,114,105,101,115,32]⟩,⟨#[116,105,99,107,32]⟩]
def c1I(t:ByteArray):Prop:=∃ p r,p∈a3S/\t=p++r
theorem b4X{p r:ByteArray}(h:p∈a3S):c1I (p++r):=⟨p,r,h,rfl⟩
theorem c5a{p a b:ByteArray}(h:p∈a3S):c1I ((p++a)++b):=⟨p,a++b,h,ByteArray.append_assoc⟩
theorem c0w{p a b c:ByteArray}(h:p∈a3S):c1I (((p++a)++b)++c):=⟨p,(a++b)++c,h,by rw[ByteArray.append_assoc,ByteArray.append_assoc,ByteArray.append_assoc]⟩
theorem c0C{w0 w:World}{F:Nat}{s:ByteArray}(h:FW w0 F s w):
  Calls Tryz.prog 37 #[.pointer (some ⟨F,0,none⟩)] w fun e w'=>∃ t,e=.returned (.string t)/\c1I t/\t.size<=160/\FW w0 F s w':=by
 have HA:=a0b h
 clear h
 go_enter Tryz.func37,Tryz.ntmps37
 go_upto_region 2 with (first
  |(go_at_call 25;refine (a1h HA.out 12 (by omega) (by omega)).mono ?_;rintro e w1 ⟨v1,rfl,a1,b1,ha1⟩;replace HA:=a0b ha1;clear ha1))
 have hv:v1=0\/v1=1\/v1=2\/v1=3\/v1=4\/v1=5\/v1=6\/v1=7\/v1=8\/v1=9\/v1=11\/v1=10:=by omega
 clear a1 b1
 rcases hv with rfl|rfl|rfl|rfl|rfl|rfl|rfl|rfl|rfl|rfl|rfl|rfl
 iterate 3
  ·go_wp2_with (first
    |(go_at_call 24;refine (a7L HA.out).mono ?_;rintro e w2 ⟨nm,u,fr,til,rfl,hok,ha⟩;replace HA:=a0b ha;have HK:=a0b hok;clear ha hok)
    |(go_at_call 27;refine (a9u HA.out HK.out).mono ?_;rintro e w3 ⟨t,rfl,ht,ha⟩;replace HA:=a0b ha;clear ha HK))
   go_ret
   exact⟨_,rfl,b4X (by simp[a3S]),by rw[ByteArray.size_append];show 5+_<=160;omega,HA.out⟩
 iterate 2
  ·go_wp2_with (first
    |(go_at_call 24;refine (a7L HA.out).mono ?_;rintro e w2 ⟨nm,u,fr,til,rfl,hok,ha⟩;replace HA:=a0b ha;have HK:=a0b hok;clear ha hok)
    |(go_at_call 27;refine (a9u HA.out HK.out).mono ?_;rintro e w3 ⟨t,rfl,ht,ha⟩;replace HA:=a0b ha;clear ha HK)
    |(go_at_call 25;refine (a1h HA.out 60 (by omega) (by omega)).mono ?_;rintro e w1 ⟨v1,rfl,a1,b1,ha1⟩;replace HA:=a0b ha1;clear ha1;have k1:IntKind.i64.wrap (1+v1)=1+v1:=a0G (by omega) (by omega);have z1:=Txt.a0I (1+v1) (by omega) (by omega))
    |(go_at_call 21;refine (a3L HA.out (1+v1) (by omega) (by omega)).mono ?_;rintro e w8 ⟨rfl,ha⟩;replace HA:=a0b ha;clear ha))
   go_ret
   exact⟨_,rfl,c0w (by simp[a3S]),by simp only[ByteArray.size_append];show 5+_+1+_<=160;omega,HA.out⟩
 iterate 3
  ·go_wp2_with (first
    |(go_at_call 24;refine (a7L HA.out).mono ?_;rintro e w2 ⟨nm,u,fr,til,rfl,hok,ha⟩;replace HA:=a0b ha;have HK:=a0b hok;clear ha hok)
    |(go_at_call 27;refine (a9u HA.out HK.out).mono ?_;rintro e w3 ⟨t,rfl,ht,ha⟩;replace HA:=a0b ha;clear ha HK)
    |(go_at_call 25;refine (a1h HA.out 90 (by omega) (by omega)).mono ?_;rintro e w1 ⟨v1,rfl,a1,b1,ha1⟩;replace HA:=a0b ha1;clear ha1;have k1:IntKind.i64.wrap (1+v1)=1+v1:=a0G (by omega) (by omega);have z1:=Txt.a0I (1+v1) (by omega) (by omega))
    |(go_at_call 21;refine (a3L HA.out (1+v1) (by omega) (by omega)).mono ?_;rintro e w8 ⟨rfl,ha⟩;replace HA:=a0b ha;clear ha))
   go_ret
   exact⟨_,rfl,c0w (by simp[a3S]),by simp only[ByteArray.size_append];show 5+_+1+_<=160;omega,HA.out⟩
 iterate 2
  ·go_wp2_with (first
    |(go_at_call 25;refine (a1h HA.out 12 (by omega) (by omega)).mono ?_;rintro e w1 ⟨v1,rfl,a1,b1,ha1⟩;replace HA:=a0b ha1;clear ha1;have k1:IntKind.i64.wrap (1+v1)=1+v1:=a0G (by omega) (by omega);have z1:=Txt.a0I (1+v1) (by omega) (by omega))
    |(go_at_call 21;refine (a3L HA.out (1+v1) (by omega) (by omega)).mono ?_;rintro e w8 ⟨rfl,ha⟩;replace HA:=a0b ha;clear ha))
   go_ret
   exact⟨_,rfl,b4X (by simp[a3S]),by rw[ByteArray.size_append];show (_:Nat)<=160;first|(show 7+_<=160;omega)|(show 8+_<=160;omega),HA.out⟩
 ·go_wp2_with (first
   |(go_at_call 25;refine (a1h HA.out 40 (by omega) (by omega)).mono ?_;rintro e w1 ⟨v1,rfl,a1,b1,ha1⟩;replace HA:=a0b ha1;clear ha1;have k1:IntKind.i64.wrap (1+v1)=1+v1:=a0G (by omega) (by omega);have z1:=Txt.a0I (1+v1) (by omega) (by omega))
   |(go_at_call 21;refine (a3L HA.out (1+v1) (by omega) (by omega)).mono ?_;rintro e w8 ⟨rfl,ha⟩;replace HA:=a0b ha;clear ha))
  go_ret
  exact⟨_,rfl,b4X (by simp[a3S]),by rw[ByteArray.size_append];show 5+_<=160;omega,HA.out⟩
 ·go_upto_region 18 with fail
  refine c6i HA.out ?_
  intro u56 u57 u58 u59 u60 u61 u62 u63 u64 z t W hz ht hW
  have HW:=a0b hW
  clear hW
  go_wp2_with fail
  go_ret
  exact⟨_,rfl,c5a (by simp[a3S]),by simp only[ByteArray.size_append];show 7+_+_<=160;omega,HW.out⟩
theorem c4r:(⟨#[108,105,115,116,32]⟩:ByteArray).data.toList=a5Q.data.toList++[32]:=by decide +kernel
theorem b5i{w W:World}{p dk:Nat}{s:St}{r:Raw}{col:Nat->Option Col}(h:DG w W p dk s r col)(nm:ByteArray)(hn:Nm nm)(hu:a0h nm s.ts≠0):
  Calls Tryz.prog 19 #[.pointer (some ⟨p,0,none⟩),.string nm] W fun e W'=>∃ (l:List (Ent × Value)) (a:Option Addr) (c:Nat) (r':Raw) (col':Nat->Option Col),e=.returned (.tuple #[.slice a l.length c,.bool true])/\l.map (·.1)=a2x nm 0 1048320 s.es/\a3j W' W.heap.size col' (.slice a l.length c) l/\DG w W' p dk s r' col'/\Step anyS W.heap.size col col' W W':=by
 have TL:Hid (Reads ((⟨#[108,105,115,116,32]⟩:ByteArray)++nm) (.iface 164 (.agg #[.string nm,.bool false,.int .i64 0,.int .i64 0]))):=b8g hn (by rw[Txt.a1X,c4r,List.append_assoc];rfl)
 have DO:=a0b (b2g h TL.out (.list nm (by rw[hn.s];decide) false 0 0 0 1048320 rfl rfl) ⟨by omega,by omega,by omega,by omega⟩ (Desk.c0t h.inv hu))
 have hs:=hn.s
 clear h hn hu TL
 go_enter Tryz.func19,Tryz.ntmps19
 go_upto_region 2 with (first
  |(go_at_call 20;refine DO.out.mono ?_;rintro e w3 ⟨l1,a1,a2,a3,a4,n2,c1,c2,c3,c4,r1,col1,rfl,P1⟩;dsimp only[List.length_nil]))
 change Code.wp _ _ _ _ (w3.alloc (a5w 0 0 0 (.slice a1 l1.length c1) (.slice a2 n2 c2) (.slice a3 0 c3) (.slice a4 0 c4)))
 have kb:=(Below.refl w3.heap.size w3).alloc (Nat.le_refl _) (a5w 0 0 0 (.slice a1 l1.length c1) (.slice a2 n2 c2) (.slice a3 0 c3) (.slice a4 0 c4))
 obtain⟨e0,_,_,e3,_⟩:=a2T (a0p w3 (a5w 0 0 0 (.slice a1 l1.length c1) (.slice a2 n2 c2) (.slice a3 0 c3) (.slice a4 0 c4)))
 have HP:=a0b (And.intro P1 kb)
 clear P1 kb DO
 generalize w3.alloc (a5w 0 0 0 (.slice a1 l1.length c1) (.slice a2 n2 c2) (.slice a3 0 c3) (.slice a4 0 c4))=Z at HP e0 e3 ⊢
 have HF:Hid (l1.map (·.1)=a2x nm 0 1048320 s.es/\a3j Z.drew W.heap.size col1 (.slice a1 l1.length c1) l1/\DG w Z.drew p dk s r1 col1/\Step anyS W.heap.size col col1 W Z.drew):=by
  obtain⟨P,k⟩:=HP.out
  have k':=k.drew
  exact⟨P.c7n,P.row.step (S:=anyS) (B:=w3.heap.size) (Step.below k') (Nat.le_refl _),P.dg.later k',P.st.trans (Step.below k')⟩
 clear HP
 generalize w3.heap.size=B at e0 e3 ⊢
 go_big_region
 go_wp2_with fail
 go_ret2
 exact⟨l1,a1,c1,r1,col1,rfl,HF.out⟩
theorem c2p(a b:Int)(w:World)(ha1:-9223372036854775808<=a)(ha2:a<=9223372036854775807)(hb1:-9223372036854775808<=b)(hb2:b<=9223372036854775807):
  Calls Tryz.prog 16 #[.int .i64 a,.int .i64 b] w fun e w'=>e=.returned (.agg #[.int .i64 (1+a2s a 4),.int .i64 (1+a2s b 9)])/\Below w.heap.size w w':=by
 obtain⟨x1,x2⟩:=a6G (c:=a) (n:=4) (by omega)
 obtain⟨y1,y2⟩:=a6G (c:=b) (n:=9) (by omega)
 have k1:IntKind.i64.wrap (1+a2s a 4)=1+a2s a 4:=a0G (by omega) (by omega)
 have k2:IntKind.i64.wrap (1+a2s b 9)=1+a2s b 9:=a0G (by omega) (by omega)
 have hq:(w.alloc (a1T 0 0)).heap[w.heap.size]?=some (a1T 0 0):=a0p w _
 have kb:Below w.heap.size w (w.alloc (a1T 0 0)):=(Below.refl _ _).alloc (Nat.le_refl _) _
 have hc:=b0q (x:=.int .i64 0) (y:=.int .i64 0) hq
 obtain⟨c0,c1,cf⟩:=hc
 have HF:Hid (Below w.heap.size w (((w.alloc (a1T 0 0)).setCell ⟨w.heap.size,0,none⟩ (.int .i64 (1+a2s a 4))).setCell ⟨w.heap.size,1,none⟩ (.int .i64 (1+a2s b 9)))):=by
  have k:=(Off.set0 w.heap.size (w.alloc (a1T 0 0)) 0 (.int .i64 (1+a2s a 4))).setCell (R:=w.heap.size) (.inl (by simp)) 1 (.int .i64 (1+a2s b 9))
  exact⟨k.os.trans kb.os,k.tape.trans kb.tape,k.output.trans kb.output,Nat.le_trans kb.size k.size,fun x hx=>(k.block x (Nat.lt_of_lt_of_le hx kb.size) (by simp;omega)).trans (kb.block x hx)⟩
 clear hq kb
 go_enter Tryz.func16,Tryz.ntmps16
 go_upto_region 1 with fail
 change Code.wp _ _ _ _ (w.alloc (a1T 0 0))
 generalize w.alloc (a1T 0 0)=X at *
 go_wp2_with (first
  |(go_at_call 29;refine (b9M _ _ _ (by assumption) (by assumption) (by omega) (by omega)).mono ?_;rintro e w' ⟨rfl,rfl⟩))
 exact bodyPost_ret (v:=.agg #[.int .i64 (1+a2s a 4),.int .i64 (1+a2s b 9)]) (by simp[results,Tryz.results16,go_sem,c0,c1]) rfl ⟨rfl,HF.out⟩
theorem a7B(a b:Int)(nm:ByteArray)(hn:nm=⟨#[97]⟩\/nm=⟨#[98]⟩)(w:World):
  Calls Tryz.prog 23 #[.agg #[.int .i64 a,.int .i64 b],.string nm] w fun e w'=>e=.returned (.int .i64 (a0h nm (a3Z a b).ts))/\Below w.heap.size w w':=by
 have kb:Below w.heap.size w (w.alloc (a1T a b)):=(Below.refl _ _).alloc (Nat.le_refl _) _
 have hq:(w.alloc (a1T a b)).heap[w.heap.size]?=some (a1T a b):=a0p w _
 obtain⟨c0,c1,_⟩:=b0q (x:=.int .i64 a) (y:=.int .i64 b) hq
 have HK:=a0b kb
 have ea:a0h ⟨#[97]⟩ (a3Z a b).ts=a:=b9b a b
 have eb:a0h ⟨#[98]⟩ (a3Z a b).ts=b:=b9a a b
 clear kb hq
 rcases hn with rfl|rfl
 ·rw[ea]
  clear ea eb
  go_enter Tryz.func23,Tryz.ntmps23
  go_upto_region 1 with fail
  change Code.wp _ _ _ _ (w.alloc (a1T a b))
  generalize w.alloc (a1T a b)=X at *
  go_wp2_with fail
  go_ret
  exact⟨rfl,HK.out⟩
 ·rw[eb]
  clear ea eb
  go_enter Tryz.func23,Tryz.ntmps23
  go_upto_region 1 with fail
  change Code.wp _ _ _ _ (w.alloc (a1T a b))
  generalize w.alloc (a1T a b)=X at *
  go_wp2_with fail
  go_ret
  exact⟨rfl,HK.out⟩
structure TV(w:World)(v:Value)(ss:List ByteArray):Prop where
 form:∃ a cap,v=.slice a ss.length cap
 cell:∀ (i:Nat) (hi:i<ss.length),∃ b off cap,v=.slice (some ⟨b,off,none⟩) ss.length cap/\w.cell? ⟨b,off+i,none⟩=some (.string ss[i])
 size:∀ x∈ss,x.size<=9223372036854775807
 len:ss.length<=9223372036854775807
theorem TV.below{w w':World}{v:Value}{ss:List ByteArray}(h:TV w v ss)(k:Below w.heap.size w w'):TV w' v ss :=
 ⟨h.form,fun i hi=>by
  obtain⟨b,off,cap,e,a⟩:=h.cell i hi
  exact⟨b,off,cap,e,a0a k a⟩,h.size,h.len⟩
def a8o(s:ByteArray)(a:Int):Obj:=.cells #[.string s,.int .i64 a] 47 (0,0)
theorem b6W{W:World}(he:Env W)(s:ByteArray)(hs:s.size<=9223372036854775807):FW (W.alloc (a8o s 0)) W.heap.size s (W.alloc (a8o s 0)) :=
 ⟨⟨0,a0p W _,Nat.zero_le _,hs⟩,he.later ((Below.refl _ _).alloc (Nat.le_refl _) _),Off.refl _ _,he.size⟩
theorem b8C{W W':World}{s t:ByteArray}(h:FW (W.alloc (a8o s 0)) W.heap.size t W'):Below W.heap.size W W':=by
 have kb:Below W.heap.size W (W.alloc (a8o s 0)):=(Below.refl _ _).alloc (Nat.le_refl _) _
 have k:=h.off
 exact⟨k.os.trans kb.os,k.tape.trans kb.tape,k.output.trans kb.output,Nat.le_trans kb.size k.size,fun x hx=>(k.block x (Nat.lt_of_lt_of_le hx kb.size) (by simp;omega)).trans (kb.block x hx)⟩
theorem c2R{W:World}(he:Env W)(s:ByteArray)(hs:s.size<=9223372036854775807):
  Calls Tryz.prog 37 #[.pointer (some ⟨W.heap.size,0,none⟩)] (W.alloc (a8o s 0)) fun e w'=>∃ t,e=.returned (.string t)/\c1I t/\t.size<=160/\Below W.heap.size W w' :=
 (c0C (b6W he s hs)).mono fun _ _ ⟨t,e,a,b,k⟩=>⟨t,e,a,b,b8C k⟩
end Go.Proofs.YtjfkfiffakbagaaGreatDoor
