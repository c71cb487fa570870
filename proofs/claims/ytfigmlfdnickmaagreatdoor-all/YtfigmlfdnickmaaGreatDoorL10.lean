import Derived.Test.YtfigmlfdnickmaaGreatDoorL09
import Derived.BigQuiet
set_option maxRecDepth 100000
set_option maxHeartbeats 8000000
variable{k:ByteArray}{fr given mi mn pc ti un:Int}{P:Int->List Go.Value}{ts:List (ByteArray × Int)}{xs':List (Go.Proofs.YtfigmlfdnickmaaGreatDoor.Desk.Ent × Nat × Nat)}{ps:List (List ByteArray)}{H Q R q ws:List ByteArray}{acc:List Int}{F G K:List Nat}{B E b cap d e i j n:Nat}{st:Nat × Bool}{a0 a1 a2 a3 a4 a5 r u v:Go.Value}{W w w':Go.World}
namespace Go.Proofs.YtfigmlfdnickmaaGreatDoor
open Go.RowKit
theorem g2Q{s:ByteArray}(h:a0M ws ((Q++s :: R).map g2B) (0,false)=(n,false))(V:ByteArray->Int):a0v ws (a0M ws (Q.map g2B) (0,false)) (g2B s) V=V (ws.getD Q.length ByteArray.empty):=by
 rw[f4n h];unfold a0v tkV;rw[if_pos (e9K h)]
theorem g3w{s:ByteArray}(h:a0M ws ((Q++s :: R).map g2B) (0,false)=(n,false)):g2B s (ws.getD Q.length ByteArray.empty)=true:=(d7C (e9K h)).2.2
theorem g7Z:g4f.map g2B=[a1s b0Y,evB]:=by
 simp only[g4f,List.map,h2U,g4I b0Y (by decide +kernel)]
theorem g7X:g4d.map g2B=[a1s a8D,evB,Txt.onB]:=by
 simp only[g4d,List.map,h2U,h6S,g4I a8D (by decide +kernel)]
theorem g7Y:g4e.map g2B=[a1s a8w,evB]:=by
 simp only[g4e,List.map,h2U,g4I a8w (by decide +kernel)]
theorem h1Y:g5c.map g2B=[a1s b2z,evB]:=by
 simp only[g5c,List.map,h2U,g4I b2z (by decide +kernel)]
theorem h1X:g5b.map g2B=[a1s b5O,Txt.a2y]:=by
 simp only[g5b,List.map,h6f,g4I b5O (by decide +kernel)]
theorem h1r:g4X.map g2B=[a1s a1t,Txt.a2y,a1s atW,Txt.a3a,a1s b3z,miB]:=by
 simp only[g4X,List.map,h6f,h6T,f9f,g4I a1t (by decide +kernel),g4I atW (by decide +kernel),g4I b3z (by decide +kernel)]
inductive h2B (ws:List ByteArray) (c:Nat):Int->Int->List Int->List ByteArray->Prop where
 |daily (h0:ws.getD c ByteArray.empty=b0Y) (h:evB (ws.getD (c+1) ByteArray.empty)=true):h2B ws c 1 (nvF (ws.getD (c+1) ByteArray.empty)) [] g4f
 |weekly (acc:List Int) (h0:ws.getD c ByteArray.empty=a8D) (h:evB (ws.getD (c+1) ByteArray.empty)=true) (ho:Txt.onW (ws.getD (c+2) ByteArray.empty)=some acc):h2B ws c 2 (nvF (ws.getD (c+1) ByteArray.empty)) acc g4d
 |monthly (h0:ws.getD c ByteArray.empty=a8w) (h:evB (ws.getD (c+1) ByteArray.empty)=true):h2B ws c 3 (nvF (ws.getD (c+1) ByteArray.empty)) [] g4e
inductive h6k (ws:List ByteArray) (d:Nat):Int->Int->List ByteArray->Prop where
 |times (h0:ws.getD d ByteArray.empty=b2z) (h:evB (ws.getD (d+1) ByteArray.empty)=true):h6k ws d (nvF (ws.getD (d+1) ByteArray.empty)) 0 g5c
 |til (h0:ws.getD d ByteArray.empty=b5O) (h:Txt.a2y (ws.getD (d+1) ByteArray.empty)=true):h6k ws d 0 (b0a (ws.getD (d+1) ByteArray.empty)) g5b
structure h6W(ws:List ByteArray)(d:Nat)(fr mn mi:Int):Prop where
 h0:ws.getD d ByteArray.empty=a1t
 h1:Txt.a2y (ws.getD (d+1) ByteArray.empty)=true
 h2:ws.getD (d+2) ByteArray.empty=atW
 h3:Txt.a3a (ws.getD (d+3) ByteArray.empty)=true
 h4:ws.getD (d+4) ByteArray.empty=b3z
 h5:miB (ws.getD (d+5) ByteArray.empty)=true
 fr_:fr=b0a (ws.getD (d+1) ByteArray.empty)
 mn_:mn=Txt.a6J (ws.getD (d+3) ByteArray.empty)
 mi_:mi=nvF (ws.getD (d+5) ByteArray.empty)
structure h5X(H ws:List ByteArray)(pc ev:Int)(acc:List Int)(fr mn mi ti un:Int)(K E:List ByteArray):Prop where
 h7p:h2B ws H.length pc ev acc K
 mid:h6W ws (H.length+K.length) fr mn mi
 end_:h6k ws (H.length+K.length+6) ti un E
theorem e4U{x y:ByteArray}{wr:Bool}(h:isB ws n wr x=true)(hy:g2B y x=false):tkB ws n false (g2B y)=false:=by
 obtain⟨_,_,h2⟩:=d7C (f5u ws n wr x ▸ h);have e:=f4d h2;exact g0U (by rw[e];exact hy)
theorem h1f:∀ K2∈g4c,K2≠g4f->g2B (K2.headD ByteArray.empty) b0Y=false:=by decide +kernel
theorem h0Y:∀ K2∈g4c,K2≠g4d->g2B (K2.headD ByteArray.empty) a8D=false:=by decide +kernel
theorem h1e:∀ K2∈g4c,K2≠g4e->g2B (K2.headD ByteArray.empty) a8w=false:=by decide +kernel
theorem h1d:∀ E2∈ends,E2≠g5c->g2B (E2.headD ByteArray.empty) b2z=false:=by decide +kernel
theorem h0Z:∀ E2∈ends,E2≠g5b->g2B (E2.headD ByteArray.empty) b5O=false:=by decide +kernel
theorem f0L{K E:List ByteArray}{s:Nat × Bool}(hs:s=a0M ws ((H++K).map g2B) (0,false))(h:a0M ws ((H++K++g4X++E).map g2B) (0,false)=(n,false)):
  h6W ws (H.length+K.length) (a0v ws (a0M ws [a1s a1t] s) Txt.a2y b0a) (a0v ws (a0M ws [a1s a1t,Txt.a2y,a1s atW] s) Txt.a3a Txt.a6J) (a0v ws (a0M ws [a1s a1t,Txt.a2y,a1s atW,Txt.a3a,a1s b3z] s) miB nvF):=by
 have f0:=g4I a1t (by decide +kernel);have f1:=g4I atW (by decide +kernel);have f2:=g4I b3z (by decide +kernel);have e0:H++K++g4X++E=(H++K)++a1t :: ([g3A,atW,g1M,b3z,c8M]++E):=by simp[g4X]
 have e1:H++K++g4X++E=(H++K++[a1t])++g3A :: ([atW,g1M,b3z,c8M]++E):=by simp[g4X]
 have e2:H++K++g4X++E=(H++K++[a1t,g3A])++atW :: ([g1M,b3z,c8M]++E):=by simp[g4X]
 have e3:H++K++g4X++E=(H++K++[a1t,g3A,atW])++g1M :: ([b3z,c8M]++E):=by simp[g4X]
 have e4:H++K++g4X++E=(H++K++[a1t,g3A,atW,g1M])++b3z :: ([c8M]++E):=by simp[g4X]
 have e5:H++K++g4X++E=(H++K++[a1t,g3A,atW,g1M,b3z])++c8M :: E:=by simp[g4X]
 have l0:(H++K).length=H.length+K.length:=by simp
 have l1:(H++K++[a1t]).length=H.length+K.length+1:=by simp;omega
 have l2:(H++K++[a1t,g3A]).length=H.length+K.length+2:=by simp;omega
 have l3:(H++K++[a1t,g3A,atW]).length=H.length+K.length+3:=by simp;omega
 have l4:(H++K++[a1t,g3A,atW,g1M]).length=H.length+K.length+4:=by simp;omega
 have l5:(H++K++[a1t,g3A,atW,g1M,b3z]).length=H.length+K.length+5:=by simp;omega
 have a0:=g3w (e0 ▸ h);have a1:=g3w (e1 ▸ h);have a2:=g3w (e2 ▸ h);have a3:=g3w (e3 ▸ h);have a4:=g3w (e4 ▸ h);have a5:=g3w (e5 ▸ h);have v1:=g2Q (e1 ▸ h) b0a;have v3:=g2Q (e3 ▸ h) Txt.a6J;have v5:=g2Q (e5 ▸ h) nvF;rw[List.map_append,e1r,<- hs] at v1 v3 v5;simp only[List.map,f0,f1,f2,h6f,h6T,f9f] at a0 a1 a2 a3 a4 a5 v1 v3 v5;rw[l0] at a0;rw[l1] at a1 v1;rw[l2] at a2;rw[l3] at a3 v3;rw[l4] at a4;rw[l5] at a5 v5;exact⟨f4d a0,a1,f4d a2,a3,f4d a4,a5,v1,v3,v5⟩
theorem e1q{K:List ByteArray}{s s':Nat × Bool}(hK:K∈g4c)(hn:a0M ws (H.map g2B) (0,false)=(n,false))
  (hk:∀ K2∈g4c,K2≠K->tkB ws n false (g2B (K2.headD ByteArray.empty))=false) (hs:s=a0M ws ((H++K).map g2B) (0,false)) (he:c3M ws (c4Y ws s) ti un s'):
  ∃ E,Sum (g4E H) ws s' (H++K++g4X++E)/\(s'.2=false->a0M ws ((H++K++g4X++E).map g2B) (0,false)=s'/\h6k ws (H.length+K.length+6) ti un E):=by
 have hmid:c4Y ws s=a0M ws ((H++K++g4X).map g2B) (0,false):=by
  unfold c4Y;rw[<- h1r,List.map_append (l₁:=H++K),e1r,<- hs]
 obtain⟨m,b,hm⟩:∃ m b,a0M ws ((H++K++g4X).map g2B) (0,false)=(m,b):=⟨_,_,rfl⟩;have hl:(H++K++g4X).length=H.length+K.length+6:=by simp[g4X];omega
 rw[hmid,hm] at he
 cases he with
 |times h =>
  have hb:b=false:=(d7C (f5u ws m b b2z ▸ h)).1;subst hb
  have hst:a0M ws ((H++K++g4X++g5c).map g2B) (0,false)=a0M ws [evB] (nxt (m,false)):=by
   rw[List.map_append,e1r,hm,h1Y,d3N h];rfl
  refine⟨g5c,g1P hK (by simp[ends]) hn hk hm (fun E2 hE2 hne=>e4U h (h1d E2 hE2 hne)) hst,fun h2=>⟨hst,?_⟩⟩;obtain⟨l,hl'⟩:∃ l,a0M ws ((H++K++g4X++g5c).map g2B) (0,false)=(l,false):=⟨_,by rw[hst];exact Prod.ext rfl h2⟩;have e1:H++K++g4X++g5c=(H++K++g4X++[b2z])++e9O :: []:=by simp[g5c]
  have e0:H++K++g4X++g5c=(H++K++g4X)++b2z :: [e9O]:=by simp[g5c]
  have a0:=g3w (e0 ▸ hl');have a1:=g3w (e1 ▸ hl');have v1:=g2Q (e1 ▸ hl') nvF;rw[List.map_append,e1r,hm] at v1;have lt:=g4I b2z (by decide +kernel);simp only[List.map,lt,h2U] at a0 a1 v1;have e3:a0M ws [a1s b2z] (m,false)=nxt (m,false):=(d3N h).symm;rw[e3] at v1;have l1:(H++K++g4X++[b2z]).length=H.length+K.length+6+1:=by simp[g4X];omega
  rw[l1] at a1 v1;rw[hl] at a0;rw[v1];exact .times (f4d a0) a1
 |til h1 h =>
  have hb:b=false:=(d7C (f5u ws m b b5O ▸ h)).1;subst hb
  have hst:a0M ws ((H++K++g4X++g5b).map g2B) (0,false)=a0M ws [Txt.a2y] (nxt (m,false)):=by
   rw[List.map_append,e1r,hm,h1X,d3N h];rfl
  refine⟨g5b,g1P hK (by simp[ends]) hn hk hm (fun E2 hE2 hne=>e4U h (h0Z E2 hE2 hne)) hst,fun h2=>⟨hst,?_⟩⟩;obtain⟨l,hl'⟩:∃ l,a0M ws ((H++K++g4X++g5b).map g2B) (0,false)=(l,false):=⟨_,by rw[hst];exact Prod.ext rfl h2⟩;have e1:H++K++g4X++g5b=(H++K++g4X++[b5O])++g3A :: []:=by simp[g5b]
  have e0:H++K++g4X++g5b=(H++K++g4X)++b5O :: [g3A]:=by simp[g5b]
  have a0:=g3w (e0 ▸ hl');have a1:=g3w (e1 ▸ hl');have v1:=g2Q (e1 ▸ hl') b0a;rw[List.map_append,e1r,hm] at v1;have lt:=g4I b5O (by decide +kernel);simp only[List.map,lt,h6f] at a0 a1 v1;have e3:a0M ws [a1s b5O] (m,false)=nxt (m,false):=(d3N h).symm;rw[e3] at v1;have l1:(H++K++g4X++[b5O]).length=H.length+K.length+6+1:=by simp[g4X];omega
  rw[l1] at a1 v1;rw[hl] at a0;rw[v1];exact .til (f4d a0) a1
 |none h1 h =>
  refine⟨g5c,g7g hK hn hk hm ?_,fun h2=>absurd h2 (by simp)⟩;intro E2 hE2;simp only[ends,List.mem_cons,List.not_mem_nil,or_false] at hE2;rcases hE2 with rfl|rfl
  ·show tkB ws m b (g2B b2z)=false;rw[g4I b2z (by decide +kernel)];exact h1
  ·show tkB ws m b (g2B b5O)=false;rw[g4I b5O (by decide +kernel)];exact h
theorem e2s{ev:Int}{s':Nat × Bool}(hr:b0m ws (a0M ws (H.map g2B) (0,false)) pc ev acc fr mn mi ti un s'):
  ∃ q,Sum (g4E H) ws s' q/\(s'.2=false->∃ K E,q=H++K++g4X++E/\a0M ws (q.map g2B) (0,false)=s'/\h5X H ws pc ev acc fr mn mi ti un K E):=by
 obtain⟨n,b,hn⟩:∃ n b,a0M ws (H.map g2B) (0,false)=(n,b):=⟨_,_,rfl⟩;rw[hn] at hr
 cases hr with
 |mk s _ _ _ hp he =>
  cases hp with
  |daily h =>
   have hb:b=false:=(d7C (f5u ws n b b0Y ▸ h)).1;subst hb
   have hs:a0M ws [evB] (nxt (n,false))=a0M ws ((H++g4f).map g2B) (0,false):=by
    rw[List.map_append,e1r,hn,g7Z,d3N h];rfl
   obtain⟨E,hS,hg⟩:=e1q (K:=g4f) (by simp[g4c]) hn (fun K2 hK2 hne=>e4U h (h1f K2 hK2 hne)) hs he;refine⟨_,hS,fun h2=>⟨g4f,E,rfl,(hg h2).1,?_,?_,(hg h2).2⟩⟩
   ·have hl':a0M ws ((H++g4f++g4X++E).map g2B) (0,false)=(s'.1,false):=by rw[(hg h2).1];exact Prod.ext rfl h2
    have e0:H++g4f++g4X++E=H++b0Y :: ([e9O]++g4X++E):=by simp[g4f]
    have e1:H++g4f++g4X++E=(H++[b0Y])++e9O :: (g4X++E):=by simp[g4f]
    have a0:=g3w (e0 ▸ hl');have a1:=g3w (e1 ▸ hl');have v1:=g2Q (e1 ▸ hl') nvF;have lt:=g4I b0Y (by decide +kernel);rw[List.map_append,e1r,hn] at v1;simp only[List.map,lt,h2U] at a0 a1 v1;have e3:a0M ws [a1s b0Y] (n,false)=nxt (n,false):=(d3N h).symm;rw[e3] at v1;have l1:(H++[b0Y]).length=H.length+1:=by simp
    rw[l1] at a1 v1;rw[v1];exact .daily (f4d a0) a1
   ·exact f0L (E:=E) (n:=s'.1) hs (by rw[(hg h2).1];exact Prod.ext rfl h2)
  |weekly h1 h acc ha =>
   have hb:b=false:=(d7C (f5u ws n b a8D ▸ h)).1;subst hb
   have hs:a0M ws [evB,Txt.onB] (nxt (n,false))=a0M ws ((H++g4d).map g2B) (0,false):=by
    rw[List.map_append,e1r,hn,g7X,d3N h];rfl
   obtain⟨E,hS,hg⟩:=e1q (K:=g4d) (by simp[g4c]) hn (fun K2 hK2 hne=>e4U h (h0Y K2 hK2 hne)) hs he;refine⟨_,hS,fun h2=>⟨g4d,E,rfl,(hg h2).1,?_,?_,(hg h2).2⟩⟩
   ·have hl':a0M ws ((H++g4d++g4X++E).map g2B) (0,false)=(s'.1,false):=by rw[(hg h2).1];exact Prod.ext rfl h2
    have e0:H++g4d++g4X++E=H++a8D :: ([e9O,onY]++g4X++E):=by simp[g4d]
    have e1:H++g4d++g4X++E=(H++[a8D])++e9O :: ([onY]++g4X++E):=by simp[g4d]
    have e2:H++g4d++g4X++E=(H++[a8D,e9O])++onY :: (g4X++E):=by simp[g4d]
    have a0:=g3w (e0 ▸ hl');have a1:=g3w (e1 ▸ hl');have a2:=e9K (e2 ▸ hl');have p2:=f4n (e2 ▸ hl');have v1:=g2Q (e1 ▸ hl') nvF;have lt:=g4I a8D (by decide +kernel);rw[List.map_append,e1r,hn] at v1 p2;simp only[List.map,lt,h2U,h6S] at a0 a1 a2 p2 v1;have e3:a0M ws [a1s a8D] (n,false)=nxt (n,false):=(d3N h).symm;have e4:a0M ws [a1s a8D,evB] (n,false)=a0M ws [evB] (nxt (n,false)):=by rw[d3N h];rfl
    rw[e3] at v1;rw[e4] at p2;have l1:(H++[a8D]).length=H.length+1:=by simp
    have l2:(H++[a8D,e9O]).length=H.length+2:=by simp
    rw[l1] at a1 v1;rw[l2] at a2 p2;rw[p2] at ha;rw[v1];exact .weekly acc (f4d a0) a1 (ha a2)
   ·exact f0L (E:=E) (n:=s'.1) hs (by rw[(hg h2).1];exact Prod.ext rfl h2)
  |monthly h1 h1' h =>
   have hb:b=false:=(d7C (f5u ws n b a8w ▸ h)).1;subst hb
   have hs:a0M ws [evB] (nxt (n,false))=a0M ws ((H++g4e).map g2B) (0,false):=by
    rw[List.map_append,e1r,hn,g7Y,d3N h];rfl
   obtain⟨E,hS,hg⟩:=e1q (K:=g4e) (by simp[g4c]) hn (fun K2 hK2 hne=>e4U h (h1e K2 hK2 hne)) hs he;refine⟨_,hS,fun h2=>⟨g4e,E,rfl,(hg h2).1,?_,?_,(hg h2).2⟩⟩
   ·have hl':a0M ws ((H++g4e++g4X++E).map g2B) (0,false)=(s'.1,false):=by rw[(hg h2).1];exact Prod.ext rfl h2
    have e0:H++g4e++g4X++E=H++a8w :: ([e9O]++g4X++E):=by simp[g4e]
    have e1:H++g4e++g4X++E=(H++[a8w])++e9O :: (g4X++E):=by simp[g4e]
    have a0:=g3w (e0 ▸ hl');have a1:=g3w (e1 ▸ hl');have v1:=g2Q (e1 ▸ hl') nvF;have lt:=g4I a8w (by decide +kernel);rw[List.map_append,e1r,hn] at v1;simp only[List.map,lt,h2U] at a0 a1 v1;have e3:a0M ws [a1s a8w] (n,false)=nxt (n,false):=(d3N h).symm;rw[e3] at v1;have l1:(H++[a8w]).length=H.length+1:=by simp
    rw[l1] at a1 v1;rw[v1];exact .monthly (f4d a0) a1
   ·exact f0L (E:=E) (n:=s'.1) hs (by rw[(hg h2).1];exact Prod.ext rfl h2)
  |none h1 h2 h =>
   have hmid:c4Y ws (n,true)=(n,true):=by unfold c4Y;exact d4m ws _ n
   have hS:Sum (g4E H) ws (n,true) (H++g4f++g4X++g5c):=by
    refine g5k hn ?_;intro K2 hK2;simp only[g4c,List.mem_cons,List.not_mem_nil,or_false] at hK2;rcases hK2 with rfl|rfl|rfl
    ·show tkB ws n b (g2B b0Y)=false;rw[g4I b0Y (by decide +kernel)];exact h1
    ·show tkB ws n b (g2B a8D)=false;rw[g4I a8D (by decide +kernel)];exact h2
    ·show tkB ws n b (g2B a8w)=false;rw[g4I a8w (by decide +kernel)];exact h
   rw[hmid] at he
   cases he with
   |times h=>exact absurd (d7C (f5u ws n true b2z ▸ h)).1 (by decide)
   |til _ h=>exact absurd (d7C (f5u ws n true b5O ▸ h)).1 (by decide)
   |none _ _=>exact⟨_,hS,fun h2=>absurd h2 (by simp)⟩
theorem f0D{s:ByteArray}(h:isB ws 0 false k=true)(hk:d1Z k=true)(hall:a0M ws ((k :: (Q++s :: R)).map g2B) (0,false)=(n,false))(V:ByteArray->Int):a0v ws (a0M ws (Q.map g2B) (1,false)) (g2B s) V=V (ws.getD (Q.length+1) ByteArray.empty):=by
 rw[st1 h hk];exact g2Q (Q:=k :: Q) hall V
theorem e9L(Q:List ByteArray){s:ByteArray}(hall:a0M ws ((k :: (Q++s :: R)).map g2B) (0,false)=(n,false)):g2B s (ws.getD (Q.length+1) ByteArray.empty)=true:=g3w (Q:=k :: Q) hall
theorem f1t(hall:a0M ws ((k :: c8r :: R).map g2B) (0,false)=(n,false)):a2F ws (1,false)=ws.getD 1 ByteArray.empty:=by
 have h:=e9K (Q:=[k]) (s:=c8r) (R:=R) hall;rw[d9O] at h;have h2:=(d7C h).2.2;unfold a2F tkS;rw[if_pos (show tkB ws 1 false (fun s=>Txt.a1j s.data.toList)=true from h)];exact g3f h2
structure Full(s:ByteArray)(p:List ByteArray):Prop where
 sc:g0V s=(some p,0)
 all:a0M (Txt.a1v s) (p.map g2B) (0,false)=(p.length,false)
 len:(Txt.a1v s).length=p.length
theorem e7e{s:ByteArray}(h:isB (Txt.a1v s) 0 false k=true)(hf:e1B.filter (e7c k)=ps)(hS:Sum ps (Txt.a1v s) st q)(hst:a0M (Txt.a1v s) (q.map g2B) (0,false)=st)(h2:st.2=false)(hm:a1b (Txt.a1v s).length st.1 st.2=false):Full s q:=by
 obtain⟨t,ht⟩:=e7b h;obtain⟨n,b⟩:=st;have hl:=hS.at_;have hp:=(d8p q (Txt.a1v s)).2;have hn:¬ n<(Txt.a1v s).length:=by simpa[a1b,show b=false from h2] using hm
 have h2':b=false:=h2;subst h2';have hok:=f4z hst;refine⟨(e3O ht).trans (by rw[hf];exact hS.yes rfl hm),by rw[hst,hok],?_⟩;have:pre q (Txt.a1v s)=n:=hl;omega
theorem e6O{s:ByteArray}(h:isB (Txt.a1v s) 0 false k=true)(hf:e1B.filter (e7c k)=ps)(hS:Sum ps (Txt.a1v s) st q)(hb:st.2=true\/a1b (Txt.a1v s).length st.1 st.2=true):g0V s=(none,st.1):=by
 obtain⟨t,ht⟩:=e7b h;rw[e3O ht,hf];exact hS.no hb
theorem g3s(h:isB ws 0 false k=true):ws.getD 0 ByteArray.empty=k:=by
 obtain⟨t,ht⟩:=e7b h;rw[ht];rfl
theorem c9E{s:ByteArray}{p xs:List ByteArray}(hF:Full s p)(hn:p.length=n)(hx:(List.range n).map (fun j=>wrS (p.getD j ByteArray.empty) ((Txt.a1v s).getD j ByteArray.empty))=xs):e0k p (Txt.a1v s) (Txt.a1v s).length=jn xs:=by
 rw[h1J,hF.len,hn,hx]
def f2K(s:ByteArray)(st:Nat × Bool):Prop:=st.2=true\/a1b (Txt.a1v s).length st.1 st.2=true->g0V s=(none,st.1)
def d9u(s:ByteArray)(v:Value)(st:Nat × Bool):Prop:=st.2=false->a1b (Txt.a1v s).length st.1 st.2=false->∃ p xs,g0V s=(some p,0)/\PW v xs/\0<xs.length/\xs.length<=20/\e0k p (Txt.a1v s) (Txt.a1v s).length=jn xs
theorem g8b{s:ByteArray}(h:isB (Txt.a1v s) 0 false a3F=true):f2K s (a0M (Txt.a1v s) [nmB,unB] (1,false)):=by
 have hk:d1Z a3F=true:=by decide +kernel
 have hf:e1B.filter (e7c a3F)=[[a3F,c8r,c8Z]]:=by decide +kernel
 have hst:a0M (Txt.a1v s) ([a3F,c8r,c8Z].map g2B) (0,false)=a0M (Txt.a1v s) [nmB,unB] (1,false):=by
  rw[<- st1 h hk];simp only[List.map,d9O,f5O]
 exact e6O h hf (f3r hst)
theorem g8a{s:ByteArray}(h:isB (Txt.a1v s) 0 false a3F=true):d9u s (.iface 149 (.agg #[.string (a2F (Txt.a1v s) (1,false)),.int .i64 (a0v (Txt.a1v s) (a0M (Txt.a1v s) [nmB] (1,false)) unB nvF)])) (a0M (Txt.a1v s) [nmB,unB] (1,false)):=by
 intro h2 hm;have hk:d1Z a3F=true:=by decide +kernel
 have hf:e1B.filter (e7c a3F)=[[a3F,c8r,c8Z]]:=by decide +kernel
 have hst:a0M (Txt.a1v s) ([a3F,c8r,c8Z].map g2B) (0,false)=a0M (Txt.a1v s) [nmB,unB] (1,false):=by
  rw[<- st1 h hk];simp only[List.map,d9O,f5O]
 have hF:=e7e h hf (f3r hst) hst h2 hm;have v0:=f1t hF.all;have v1:=f0D (Q:=[c8r]) (s:=c8Z) (R:=[]) h hk hF.all nvF;have f1:=e9L [c8r] (s:=c8Z) (R:=[]) hF.all;simp only[List.map,List.length,d9O,f5O] at v1 f1;rw[v0,v1];refine⟨_,[a3F,((Txt.a1v s).getD 1 ByteArray.empty),Txt.a0x (nvF ((Txt.a1v s).getD 2 ByteArray.empty))],hF.sc,.a0k _ _ (c8O ((Txt.a1v s).getD 2 ByteArray.empty)).1 (c8O ((Txt.a1v s).getD 2 ByteArray.empty)).2,by simp,by simp,c9E (n:=3) hF rfl ?_⟩;show [wrS a3F ((Txt.a1v s).getD 0 ByteArray.empty),wrS c8r ((Txt.a1v s).getD 1 ByteArray.empty),wrS c8Z ((Txt.a1v s).getD 2 ByteArray.empty)]=_;rw[wrL a3F _ hk,g3s h,wrN,wrU _ f1]
theorem h3H{s:ByteArray}(h:isB (Txt.a1v s) 0 false a9P=true):f2K s (a0M (Txt.a1v s) [nmB,unB,a0n,a0n] (1,false)):=by
 have hk:d1Z a9P=true:=by decide +kernel
 have hf:e1B.filter (e7c a9P)=[[a9P,c8r,c8Z,c7X,c7X]]:=by decide +kernel
 have hst:a0M (Txt.a1v s) ([a9P,c8r,c8Z,c7X,c7X].map g2B) (0,false)=a0M (Txt.a1v s) [nmB,unB,a0n,a0n] (1,false):=by
  rw[<- st1 h hk];simp only[List.map,d9O,f5O,f2N]
 exact e6O h hf (f3r hst)
theorem h3G{s:ByteArray}(h:isB (Txt.a1v s) 0 false a9P=true):d9u s (.iface 154 (.agg #[.string (a2F (Txt.a1v s) (1,false)),.int .i64 (a0v (Txt.a1v s) (a0M (Txt.a1v s) [nmB] (1,false)) unB nvF),.int .i64 (a0v (Txt.a1v s) (a0M (Txt.a1v s) [nmB,unB] (1,false)) a0n a1J),.int .i64 (a0v (Txt.a1v s) (a0M (Txt.a1v s) [nmB,unB,a0n] (1,false)) a0n a1J)])) (a0M (Txt.a1v s) [nmB,unB,a0n,a0n] (1,false)):=by
 intro h2 hm;have hk:d1Z a9P=true:=by decide +kernel
 have hf:e1B.filter (e7c a9P)=[[a9P,c8r,c8Z,c7X,c7X]]:=by decide +kernel
 have hst:a0M (Txt.a1v s) ([a9P,c8r,c8Z,c7X,c7X].map g2B) (0,false)=a0M (Txt.a1v s) [nmB,unB,a0n,a0n] (1,false):=by
  rw[<- st1 h hk];simp only[List.map,d9O,f5O,f2N]
 have hF:=e7e h hf (f3r hst) hst h2 hm;have v0:=f1t hF.all;have v1:=f0D (Q:=[c8r]) (s:=c8Z) (R:=[c7X,c7X]) h hk hF.all nvF;have f1:=e9L [c8r] (s:=c8Z) (R:=[c7X,c7X]) hF.all;simp only[List.map,List.length,d9O,f5O] at v1 f1;have v2:=f0D (Q:=[c8r,c8Z]) (s:=c7X) (R:=[c7X]) h hk hF.all a1J;have f2:=e9L [c8r,c8Z] (s:=c7X) (R:=[c7X]) hF.all;simp only[List.map,List.length,d9O,f5O,f2N] at v2 f2;have v3:=f0D (Q:=[c8r,c8Z,c7X]) (s:=c7X) (R:=[]) h hk hF.all a1J;have f3:=e9L [c8r,c8Z,c7X] (s:=c7X) (R:=[]) hF.all;simp only[List.map,List.length,d9O,f5O,f2N] at v3 f3;rw[v0,v1,v2,v3];refine⟨_,[a9P,((Txt.a1v s).getD 1 ByteArray.empty),Txt.a0x (nvF ((Txt.a1v s).getD 2 ByteArray.empty)),c8H (a1J ((Txt.a1v s).getD 3 ByteArray.empty)),c8H (a1J ((Txt.a1v s).getD 4 ByteArray.empty))],hF.sc,.book _ _ _ _ (c8O ((Txt.a1v s).getD 2 ByteArray.empty)).1 (c8O ((Txt.a1v s).getD 2 ByteArray.empty)).2 (d2b ((Txt.a1v s).getD 3 ByteArray.empty)).1 (d2b ((Txt.a1v s).getD 3 ByteArray.empty)).2 (d2b ((Txt.a1v s).getD 4 ByteArray.empty)).1 (d2b ((Txt.a1v s).getD 4 ByteArray.empty)).2,by simp,by simp,c9E (n:=5) hF rfl ?_⟩;show [wrS a9P ((Txt.a1v s).getD 0 ByteArray.empty),wrS c8r ((Txt.a1v s).getD 1 ByteArray.empty),wrS c8Z ((Txt.a1v s).getD 2 ByteArray.empty),wrS c7X ((Txt.a1v s).getD 3 ByteArray.empty),wrS c7X ((Txt.a1v s).getD 4 ByteArray.empty)]=_;rw[wrL a9P _ hk,g3s h,wrN,wrU _ f1,wrT _ f2,wrT _ f3]
theorem h2K{s:ByteArray}(h:isB (Txt.a1v s) 0 false b5f=true):f2K s (a0M (Txt.a1v s) [nmB,unB,a0n,a0n,miB] (1,false)):=by
 have hk:d1Z b5f=true:=by decide +kernel
 have hf:e1B.filter (e7c b5f)=[[b5f,c8r,c8Z,c7X,c7X,c8M]]:=by decide +kernel
 have hst:a0M (Txt.a1v s) ([b5f,c8r,c8Z,c7X,c7X,c8M].map g2B) (0,false)=a0M (Txt.a1v s) [nmB,unB,a0n,a0n,miB] (1,false):=by
  rw[<- st1 h hk];simp only[List.map,d9O,f5O,f2N,f9f]
 exact e6O h hf (f3r hst)
theorem h2J{s:ByteArray}(h:isB (Txt.a1v s) 0 false b5f=true):d9u s (.iface 156 (.agg #[.string (a2F (Txt.a1v s) (1,false)),.int .i64 (a0v (Txt.a1v s) (a0M (Txt.a1v s) [nmB] (1,false)) unB nvF),.int .i64 (a0v (Txt.a1v s) (a0M (Txt.a1v s) [nmB,unB] (1,false)) a0n a1J),.int .i64 (a0v (Txt.a1v s) (a0M (Txt.a1v s) [nmB,unB,a0n] (1,false)) a0n a1J),.int .i64 (a0v (Txt.a1v s) (a0M (Txt.a1v s) [nmB,unB,a0n,a0n] (1,false)) miB nvF)])) (a0M (Txt.a1v s) [nmB,unB,a0n,a0n,miB] (1,false)):=by
 intro h2 hm;have hk:d1Z b5f=true:=by decide +kernel
 have hf:e1B.filter (e7c b5f)=[[b5f,c8r,c8Z,c7X,c7X,c8M]]:=by decide +kernel
 have hst:a0M (Txt.a1v s) ([b5f,c8r,c8Z,c7X,c7X,c8M].map g2B) (0,false)=a0M (Txt.a1v s) [nmB,unB,a0n,a0n,miB] (1,false):=by
  rw[<- st1 h hk];simp only[List.map,d9O,f5O,f2N,f9f]
 have hF:=e7e h hf (f3r hst) hst h2 hm;have v0:=f1t hF.all;have v1:=f0D (Q:=[c8r]) (s:=c8Z) (R:=[c7X,c7X,c8M]) h hk hF.all nvF;have f1:=e9L [c8r] (s:=c8Z) (R:=[c7X,c7X,c8M]) hF.all;simp only[List.map,List.length,d9O,f5O] at v1 f1;have v2:=f0D (Q:=[c8r,c8Z]) (s:=c7X) (R:=[c7X,c8M]) h hk hF.all a1J;have f2:=e9L [c8r,c8Z] (s:=c7X) (R:=[c7X,c8M]) hF.all;simp only[List.map,List.length,d9O,f5O,f2N] at v2 f2;have v3:=f0D (Q:=[c8r,c8Z,c7X]) (s:=c7X) (R:=[c8M]) h hk hF.all a1J;have f3:=e9L [c8r,c8Z,c7X] (s:=c7X) (R:=[c8M]) hF.all;simp only[List.map,List.length,d9O,f5O,f2N] at v3 f3;have v4:=f0D (Q:=[c8r,c8Z,c7X,c7X]) (s:=c8M) (R:=[]) h hk hF.all nvF;have f4:=e9L [c8r,c8Z,c7X,c7X] (s:=c8M) (R:=[]) hF.all;simp only[List.map,List.length,d9O,f5O,f2N,f9f] at v4 f4;rw[v0,v1,v2,v3,v4];refine⟨_,[b5f,((Txt.a1v s).getD 1 ByteArray.empty),Txt.a0x (nvF ((Txt.a1v s).getD 2 ByteArray.empty)),c8H (a1J ((Txt.a1v s).getD 3 ByteArray.empty)),c8H (a1J ((Txt.a1v s).getD 4 ByteArray.empty)),Txt.a0x (nvF ((Txt.a1v s).getD 5 ByteArray.empty))],hF.sc,.hold _ _ _ _ _ (c8O ((Txt.a1v s).getD 2 ByteArray.empty)).1 (c8O ((Txt.a1v s).getD 2 ByteArray.empty)).2 (d2b ((Txt.a1v s).getD 3 ByteArray.empty)).1 (d2b ((Txt.a1v s).getD 3 ByteArray.empty)).2 (d2b ((Txt.a1v s).getD 4 ByteArray.empty)).1 (d2b ((Txt.a1v s).getD 4 ByteArray.empty)).2 (c8O ((Txt.a1v s).getD 5 ByteArray.empty)).1 (c8O ((Txt.a1v s).getD 5 ByteArray.empty)).2,by simp,by simp,c9E (n:=6) hF rfl ?_⟩;show [wrS b5f ((Txt.a1v s).getD 0 ByteArray.empty),wrS c8r ((Txt.a1v s).getD 1 ByteArray.empty),wrS c8Z ((Txt.a1v s).getD 2 ByteArray.empty),wrS c7X ((Txt.a1v s).getD 3 ByteArray.empty),wrS c7X ((Txt.a1v s).getD 4 ByteArray.empty),wrS c8M ((Txt.a1v s).getD 5 ByteArray.empty)]=_;rw[wrL b5f _ hk,g3s h,wrN,wrU _ f1,wrT _ f2,wrT _ f3,g3l _ f4]
theorem g9Z{s:ByteArray}(h:isB (Txt.a1v s) 0 false b4k=true):f2K s (a0M (Txt.a1v s) [nmB,unB,a0n,a0n,miB] (1,false)):=by
 have hk:d1Z b4k=true:=by decide +kernel
 have hf:e1B.filter (e7c b4k)=[[b4k,c8r,c8Z,c7X,c7X,c8M]]:=by decide +kernel
 have hst:a0M (Txt.a1v s) ([b4k,c8r,c8Z,c7X,c7X,c8M].map g2B) (0,false)=a0M (Txt.a1v s) [nmB,unB,a0n,a0n,miB] (1,false):=by
  rw[<- st1 h hk];simp only[List.map,d9O,f5O,f2N,f9f]
 exact e6O h hf (f3r hst)
theorem g9X{s:ByteArray}(h:isB (Txt.a1v s) 0 false b4k=true):d9u s (.iface 157 (.agg #[.string (a2F (Txt.a1v s) (1,false)),.int .i64 (a0v (Txt.a1v s) (a0M (Txt.a1v s) [nmB] (1,false)) unB nvF),.int .i64 (a0v (Txt.a1v s) (a0M (Txt.a1v s) [nmB,unB] (1,false)) a0n a1J),.int .i64 (a0v (Txt.a1v s) (a0M (Txt.a1v s) [nmB,unB,a0n] (1,false)) a0n a1J),.int .i64 (a0v (Txt.a1v s) (a0M (Txt.a1v s) [nmB,unB,a0n,a0n] (1,false)) miB nvF)])) (a0M (Txt.a1v s) [nmB,unB,a0n,a0n,miB] (1,false)):=by
 intro h2 hm;have hk:d1Z b4k=true:=by decide +kernel
 have hf:e1B.filter (e7c b4k)=[[b4k,c8r,c8Z,c7X,c7X,c8M]]:=by decide +kernel
 have hst:a0M (Txt.a1v s) ([b4k,c8r,c8Z,c7X,c7X,c8M].map g2B) (0,false)=a0M (Txt.a1v s) [nmB,unB,a0n,a0n,miB] (1,false):=by
  rw[<- st1 h hk];simp only[List.map,d9O,f5O,f2N,f9f]
 have hF:=e7e h hf (f3r hst) hst h2 hm;have v0:=f1t hF.all;have v1:=f0D (Q:=[c8r]) (s:=c8Z) (R:=[c7X,c7X,c8M]) h hk hF.all nvF;have f1:=e9L [c8r] (s:=c8Z) (R:=[c7X,c7X,c8M]) hF.all;simp only[List.map,List.length,d9O,f5O] at v1 f1;have v2:=f0D (Q:=[c8r,c8Z]) (s:=c7X) (R:=[c7X,c8M]) h hk hF.all a1J;have f2:=e9L [c8r,c8Z] (s:=c7X) (R:=[c7X,c8M]) hF.all;simp only[List.map,List.length,d9O,f5O,f2N] at v2 f2;have v3:=f0D (Q:=[c8r,c8Z,c7X]) (s:=c7X) (R:=[c8M]) h hk hF.all a1J;have f3:=e9L [c8r,c8Z,c7X] (s:=c7X) (R:=[c8M]) hF.all;simp only[List.map,List.length,d9O,f5O,f2N] at v3 f3;have v4:=f0D (Q:=[c8r,c8Z,c7X,c7X]) (s:=c8M) (R:=[]) h hk hF.all nvF;have f4:=e9L [c8r,c8Z,c7X,c7X] (s:=c8M) (R:=[]) hF.all;simp only[List.map,List.length,d9O,f5O,f2N,f9f] at v4 f4;rw[v0,v1,v2,v3,v4];refine⟨_,[b4k,((Txt.a1v s).getD 1 ByteArray.empty),Txt.a0x (nvF ((Txt.a1v s).getD 2 ByteArray.empty)),c8H (a1J ((Txt.a1v s).getD 3 ByteArray.empty)),c8H (a1J ((Txt.a1v s).getD 4 ByteArray.empty)),Txt.a0x (nvF ((Txt.a1v s).getD 5 ByteArray.empty))],hF.sc,.wait _ _ _ _ _ (c8O ((Txt.a1v s).getD 2 ByteArray.empty)).1 (c8O ((Txt.a1v s).getD 2 ByteArray.empty)).2 (d2b ((Txt.a1v s).getD 3 ByteArray.empty)).1 (d2b ((Txt.a1v s).getD 3 ByteArray.empty)).2 (d2b ((Txt.a1v s).getD 4 ByteArray.empty)).1 (d2b ((Txt.a1v s).getD 4 ByteArray.empty)).2 (c8O ((Txt.a1v s).getD 5 ByteArray.empty)).1 (c8O ((Txt.a1v s).getD 5 ByteArray.empty)).2,by simp,by simp,c9E (n:=6) hF rfl ?_⟩;show [wrS b4k ((Txt.a1v s).getD 0 ByteArray.empty),wrS c8r ((Txt.a1v s).getD 1 ByteArray.empty),wrS c8Z ((Txt.a1v s).getD 2 ByteArray.empty),wrS c7X ((Txt.a1v s).getD 3 ByteArray.empty),wrS c7X ((Txt.a1v s).getD 4 ByteArray.empty),wrS c8M ((Txt.a1v s).getD 5 ByteArray.empty)]=_;rw[wrL b4k _ hk,g3s h,wrN,wrU _ f1,wrT _ f2,wrT _ f3,g3l _ f4]
theorem g2d{s:ByteArray}(h:isB (Txt.a1v s) 0 false a4z=true):f2K s (a0M (Txt.a1v s) [idB] (1,false)):=by
 have hk:d1Z a4z=true:=by decide +kernel
 have hf:e1B.filter (e7c a4z)=[[a4z,idY]]:=by decide +kernel
 have hst:a0M (Txt.a1v s) ([a4z,idY].map g2B) (0,false)=a0M (Txt.a1v s) [idB] (1,false):=by
  rw[<- st1 h hk];simp only[List.map,g4J]
 exact e6O h hf (f3r hst)
theorem g1Z{s:ByteArray}(h:isB (Txt.a1v s) 0 false a4z=true):d9u s (.iface 167 (.agg #[.int .i64 (a0v (Txt.a1v s) (1,false) idB nvF)])) (a0M (Txt.a1v s) [idB] (1,false)):=by
 intro h2 hm;have hk:d1Z a4z=true:=by decide +kernel
 have hf:e1B.filter (e7c a4z)=[[a4z,idY]]:=by decide +kernel
 have hst:a0M (Txt.a1v s) ([a4z,idY].map g2B) (0,false)=a0M (Txt.a1v s) [idB] (1,false):=by
  rw[<- st1 h hk];simp only[List.map,g4J]
 have hF:=e7e h hf (f3r hst) hst h2 hm;have v0:=f0D (Q:=[]) (s:=idY) (R:=[]) h hk hF.all nvF;have f0:=e9L [] (s:=idY) (R:=[]) hF.all;simp only[List.map,List.length,a6y,g4J] at v0 f0;rw[v0];refine⟨_,[a4z,Txt.a0x (nvF ((Txt.a1v s).getD 1 ByteArray.empty))],hF.sc,.confirm _ (c8O ((Txt.a1v s).getD 1 ByteArray.empty)).1 (c8O ((Txt.a1v s).getD 1 ByteArray.empty)).2,by simp,by simp,c9E (n:=2) hF rfl ?_⟩;show [wrS a4z ((Txt.a1v s).getD 0 ByteArray.empty),wrS idY ((Txt.a1v s).getD 1 ByteArray.empty)]=_;rw[wrL a4z _ hk,g3s h,wrI _ f0]
theorem g5L{s:ByteArray}(h:isB (Txt.a1v s) 0 false a6m=true):f2K s (a0M (Txt.a1v s) [idB] (1,false)):=by
 have hk:d1Z a6m=true:=by decide +kernel
 have hf:e1B.filter (e7c a6m)=[[a6m,idY]]:=by decide +kernel
 have hst:a0M (Txt.a1v s) ([a6m,idY].map g2B) (0,false)=a0M (Txt.a1v s) [idB] (1,false):=by
  rw[<- st1 h hk];simp only[List.map,g4J]
 exact e6O h hf (f3r hst)
theorem g5K{s:ByteArray}(h:isB (Txt.a1v s) 0 false a6m=true):d9u s (.iface 168 (.agg #[.int .i64 (a0v (Txt.a1v s) (1,false) idB nvF)])) (a0M (Txt.a1v s) [idB] (1,false)):=by
 intro h2 hm;have hk:d1Z a6m=true:=by decide +kernel
 have hf:e1B.filter (e7c a6m)=[[a6m,idY]]:=by decide +kernel
 have hst:a0M (Txt.a1v s) ([a6m,idY].map g2B) (0,false)=a0M (Txt.a1v s) [idB] (1,false):=by
  rw[<- st1 h hk];simp only[List.map,g4J]
 have hF:=e7e h hf (f3r hst) hst h2 hm;have v0:=f0D (Q:=[]) (s:=idY) (R:=[]) h hk hF.all nvF;have f0:=e9L [] (s:=idY) (R:=[]) hF.all;simp only[List.map,List.length,a6y,g4J] at v0 f0;rw[v0];refine⟨_,[a6m,Txt.a0x (nvF ((Txt.a1v s).getD 1 ByteArray.empty))],hF.sc,.cancel _ (c8O ((Txt.a1v s).getD 1 ByteArray.empty)).1 (c8O ((Txt.a1v s).getD 1 ByteArray.empty)).2,by simp,by simp,c9E (n:=2) hF rfl ?_⟩;show [wrS a6m ((Txt.a1v s).getD 0 ByteArray.empty),wrS idY ((Txt.a1v s).getD 1 ByteArray.empty)]=_;rw[wrL a6m _ hk,g3s h,wrI _ f0]
theorem f8k{s:ByteArray}(h:isB (Txt.a1v s) 0 false a5q=true):f2K s (1,false):=by
 have hk:d1Z a5q=true:=by decide +kernel
 have hf:e1B.filter (e7c a5q)=[[a5q]]:=by decide +kernel
 have hst:a0M (Txt.a1v s) ([a5q].map g2B) (0,false)=(1,false):=by
  rw[<- st1 h hk];rfl
 exact e6O h hf (f3r hst)
theorem f8j{s:ByteArray}(h:isB (Txt.a1v s) 0 false a5q=true):d9u s (.iface 173 (.agg #[])) (1,false):=by
 intro h2 hm;have hk:d1Z a5q=true:=by decide +kernel
 have hf:e1B.filter (e7c a5q)=[[a5q]]:=by decide +kernel
 have hst:a0M (Txt.a1v s) ([a5q].map g2B) (0,false)=(1,false):=by
  rw[<- st1 h hk];rfl
 have hF:=e7e h hf (f3r hst) hst h2 hm;refine⟨_,[a5q],hF.sc,.waiting  ,by simp,by simp,c9E (n:=1) hF rfl ?_⟩;show [wrS a5q ((Txt.a1v s).getD 0 ByteArray.empty)]=_;rw[wrL a5q _ hk,g3s h]
theorem h1w{s:ByteArray}(h:isB (Txt.a1v s) 0 false a9a=true):f2K s (a0M (Txt.a1v s) [nmB,a0n,a0n] (1,false)):=by
 have hk:d1Z a9a=true:=by decide +kernel
 have hf:e1B.filter (e7c a9a)=[[a9a,c8r,c7X,c7X]]:=by decide +kernel
 have hst:a0M (Txt.a1v s) ([a9a,c8r,c7X,c7X].map g2B) (0,false)=a0M (Txt.a1v s) [nmB,a0n,a0n] (1,false):=by
  rw[<- st1 h hk];simp only[List.map,d9O,f2N]
 exact e6O h hf (f3r hst)
theorem h1v{s:ByteArray}(h:isB (Txt.a1v s) 0 false a9a=true):d9u s (.iface 176 (.agg #[.string (a2F (Txt.a1v s) (1,false)),.int .i64 (a0v (Txt.a1v s) (a0M (Txt.a1v s) [nmB] (1,false)) a0n a1J),.int .i64 (a0v (Txt.a1v s) (a0M (Txt.a1v s) [nmB,a0n] (1,false)) a0n a1J)])) (a0M (Txt.a1v s) [nmB,a0n,a0n] (1,false)):=by
 intro h2 hm;have hk:d1Z a9a=true:=by decide +kernel
 have hf:e1B.filter (e7c a9a)=[[a9a,c8r,c7X,c7X]]:=by decide +kernel
 have hst:a0M (Txt.a1v s) ([a9a,c8r,c7X,c7X].map g2B) (0,false)=a0M (Txt.a1v s) [nmB,a0n,a0n] (1,false):=by
  rw[<- st1 h hk];simp only[List.map,d9O,f2N]
 have hF:=e7e h hf (f3r hst) hst h2 hm;have v0:=f1t hF.all;have v1:=f0D (Q:=[c8r]) (s:=c7X) (R:=[c7X]) h hk hF.all a1J;have f1:=e9L [c8r] (s:=c7X) (R:=[c7X]) hF.all;simp only[List.map,List.length,d9O,f2N] at v1 f1;have v2:=f0D (Q:=[c8r,c7X]) (s:=c7X) (R:=[]) h hk hF.all a1J;have f2:=e9L [c8r,c7X] (s:=c7X) (R:=[]) hF.all;simp only[List.map,List.length,d9O,f2N] at v2 f2;rw[v0,v1,v2];refine⟨_,[a9a,((Txt.a1v s).getD 1 ByteArray.empty),c8H (a1J ((Txt.a1v s).getD 2 ByteArray.empty)),c8H (a1J ((Txt.a1v s).getD 3 ByteArray.empty))],hF.sc,.peak _ _ _ (d2b ((Txt.a1v s).getD 2 ByteArray.empty)).1 (d2b ((Txt.a1v s).getD 2 ByteArray.empty)).2 (d2b ((Txt.a1v s).getD 3 ByteArray.empty)).1 (d2b ((Txt.a1v s).getD 3 ByteArray.empty)).2,by simp,by simp,c9E (n:=4) hF rfl ?_⟩;show [wrS a9a ((Txt.a1v s).getD 0 ByteArray.empty),wrS c8r ((Txt.a1v s).getD 1 ByteArray.empty),wrS c7X ((Txt.a1v s).getD 2 ByteArray.empty),wrS c7X ((Txt.a1v s).getD 3 ByteArray.empty)]=_;rw[wrL a9a _ hk,g3s h,wrN,wrT _ f1,wrT _ f2]
theorem h2T{s:ByteArray}(h:isB (Txt.a1v s) 0 false b5h=true):f2K s (a0M (Txt.a1v s) [nmB,unB,miB,a0n,a0n] (1,false)):=by
 have hk:d1Z b5h=true:=by decide +kernel
 have hf:e1B.filter (e7c b5h)=[[b5h,c8r,c8Z,c8M,c7X,c7X]]:=by decide +kernel
 have hst:a0M (Txt.a1v s) ([b5h,c8r,c8Z,c8M,c7X,c7X].map g2B) (0,false)=a0M (Txt.a1v s) [nmB,unB,miB,a0n,a0n] (1,false):=by
  rw[<- st1 h hk];simp only[List.map,d9O,f5O,f9f,f2N]
 exact e6O h hf (f3r hst)
theorem h2S{s:ByteArray}(h:isB (Txt.a1v s) 0 false b5h=true):d9u s (.iface 178 (.agg #[.string (a2F (Txt.a1v s) (1,false)),.int .i64 (a0v (Txt.a1v s) (a0M (Txt.a1v s) [nmB] (1,false)) unB nvF),.int .i64 (a0v (Txt.a1v s) (a0M (Txt.a1v s) [nmB,unB] (1,false)) miB nvF),.int .i64 (a0v (Txt.a1v s) (a0M (Txt.a1v s) [nmB,unB,miB] (1,false)) a0n a1J),.int .i64 (a0v (Txt.a1v s) (a0M (Txt.a1v s) [nmB,unB,miB,a0n] (1,false)) a0n a1J)])) (a0M (Txt.a1v s) [nmB,unB,miB,a0n,a0n] (1,false)):=by
 intro h2 hm;have hk:d1Z b5h=true:=by decide +kernel
 have hf:e1B.filter (e7c b5h)=[[b5h,c8r,c8Z,c8M,c7X,c7X]]:=by decide +kernel
 have hst:a0M (Txt.a1v s) ([b5h,c8r,c8Z,c8M,c7X,c7X].map g2B) (0,false)=a0M (Txt.a1v s) [nmB,unB,miB,a0n,a0n] (1,false):=by
  rw[<- st1 h hk];simp only[List.map,d9O,f5O,f9f,f2N]
 have hF:=e7e h hf (f3r hst) hst h2 hm;have v0:=f1t hF.all;have v1:=f0D (Q:=[c8r]) (s:=c8Z) (R:=[c8M,c7X,c7X]) h hk hF.all nvF;have f1:=e9L [c8r] (s:=c8Z) (R:=[c8M,c7X,c7X]) hF.all;simp only[List.map,List.length,d9O,f5O] at v1 f1;have v2:=f0D (Q:=[c8r,c8Z]) (s:=c8M) (R:=[c7X,c7X]) h hk hF.all nvF;have f2:=e9L [c8r,c8Z] (s:=c8M) (R:=[c7X,c7X]) hF.all;simp only[List.map,List.length,d9O,f5O,f9f] at v2 f2;have v3:=f0D (Q:=[c8r,c8Z,c8M]) (s:=c7X) (R:=[c7X]) h hk hF.all a1J;have f3:=e9L [c8r,c8Z,c8M] (s:=c7X) (R:=[c7X]) hF.all;simp only[List.map,List.length,d9O,f5O,f9f,f2N] at v3 f3;have v4:=f0D (Q:=[c8r,c8Z,c8M,c7X]) (s:=c7X) (R:=[]) h hk hF.all a1J;have f4:=e9L [c8r,c8Z,c8M,c7X] (s:=c7X) (R:=[]) hF.all;simp only[List.map,List.length,d9O,f5O,f9f,f2N] at v4 f4;rw[v0,v1,v2,v3,v4];refine⟨_,[b5h,((Txt.a1v s).getD 1 ByteArray.empty),Txt.a0x (nvF ((Txt.a1v s).getD 2 ByteArray.empty)),Txt.a0x (nvF ((Txt.a1v s).getD 3 ByteArray.empty)),c8H (a1J ((Txt.a1v s).getD 4 ByteArray.empty)),c8H (a1J ((Txt.a1v s).getD 5 ByteArray.empty))],hF.sc,.find _ _ _ _ _ (c8O ((Txt.a1v s).getD 2 ByteArray.empty)).1 (c8O ((Txt.a1v s).getD 2 ByteArray.empty)).2 (c8O ((Txt.a1v s).getD 3 ByteArray.empty)).1 (c8O ((Txt.a1v s).getD 3 ByteArray.empty)).2 (d2b ((Txt.a1v s).getD 4 ByteArray.empty)).1 (d2b ((Txt.a1v s).getD 4 ByteArray.empty)).2 (d2b ((Txt.a1v s).getD 5 ByteArray.empty)).1 (d2b ((Txt.a1v s).getD 5 ByteArray.empty)).2,by simp,by simp,c9E (n:=6) hF rfl ?_⟩;show [wrS b5h ((Txt.a1v s).getD 0 ByteArray.empty),wrS c8r ((Txt.a1v s).getD 1 ByteArray.empty),wrS c8Z ((Txt.a1v s).getD 2 ByteArray.empty),wrS c8M ((Txt.a1v s).getD 3 ByteArray.empty),wrS c7X ((Txt.a1v s).getD 4 ByteArray.empty),wrS c7X ((Txt.a1v s).getD 5 ByteArray.empty)]=_;rw[wrL b5h _ hk,g3s h,wrN,wrU _ f1,g3l _ f2,wrT _ f3,wrT _ f4]
theorem g8x{s:ByteArray}(h:isB (Txt.a1v s) 0 false b4n=true):f2K s (a0M (Txt.a1v s) [miB] (1,false)):=by
 have hk:d1Z b4n=true:=by decide +kernel
 have hf:e1B.filter (e7c b4n)=[[b4n,c8M]]:=by decide +kernel
 have hst:a0M (Txt.a1v s) ([b4n,c8M].map g2B) (0,false)=a0M (Txt.a1v s) [miB] (1,false):=by
  rw[<- st1 h hk];simp only[List.map,f9f]
 exact e6O h hf (f3r hst)
theorem h0l{s:ByteArray}(h:isB (Txt.a1v s) 0 false b4n=true):d9u s (.iface 182 (.agg #[.int .i64 (a0v (Txt.a1v s) (1,false) miB nvF)])) (a0M (Txt.a1v s) [miB] (1,false)):=by
 intro h2 hm;have hk:d1Z b4n=true:=by decide +kernel
 have hf:e1B.filter (e7c b4n)=[[b4n,c8M]]:=by decide +kernel
 have hst:a0M (Txt.a1v s) ([b4n,c8M].map g2B) (0,false)=a0M (Txt.a1v s) [miB] (1,false):=by
  rw[<- st1 h hk];simp only[List.map,f9f]
 have hF:=e7e h hf (f3r hst) hst h2 hm;have v0:=f0D (Q:=[]) (s:=c8M) (R:=[]) h hk hF.all nvF;have f0:=e9L [] (s:=c8M) (R:=[]) hF.all;simp only[List.map,List.length,a6y,f9f] at v0 f0;rw[v0];refine⟨_,[b4n,Txt.a0x (nvF ((Txt.a1v s).getD 1 ByteArray.empty))],hF.sc,.tick _ (c8O ((Txt.a1v s).getD 1 ByteArray.empty)).1 (c8O ((Txt.a1v s).getD 1 ByteArray.empty)).2,by simp,by simp,c9E (n:=2) hF rfl ?_⟩;show [wrS b4n ((Txt.a1v s).getD 0 ByteArray.empty),wrS c8M ((Txt.a1v s).getD 1 ByteArray.empty)]=_;rw[wrL b4n _ hk,g3s h,g3l _ f0]
theorem g9z{s:ByteArray}(h:isB (Txt.a1v s) 0 false b1c=true):f2K s (1,false):=by
 have hk:d1Z b1c=true:=by decide +kernel
 have hf:e1B.filter (e7c b1c)=[[b1c]]:=by decide +kernel
 have hst:a0M (Txt.a1v s) ([b1c].map g2B) (0,false)=(1,false):=by
  rw[<- st1 h hk];rfl
 exact e6O h hf (f3r hst)
theorem g9y{s:ByteArray}(h:isB (Txt.a1v s) 0 false b1c=true):d9u s (.iface 183 (.agg #[])) (1,false):=by
 intro h2 hm;have hk:d1Z b1c=true:=by decide +kernel
 have hf:e1B.filter (e7c b1c)=[[b1c]]:=by decide +kernel
 have hst:a0M (Txt.a1v s) ([b1c].map g2B) (0,false)=(1,false):=by
  rw[<- st1 h hk];rfl
 have hF:=e7e h hf (f3r hst) hst h2 hm;refine⟨_,[b1c],hF.sc,.clock  ,by simp,by simp,c9E (n:=1) hF rfl ?_⟩;show [wrS b1c ((Txt.a1v s).getD 0 ByteArray.empty)]=_;rw[wrL b1c _ hk,g3s h]
theorem g8L{s:ByteArray}(h:isB (Txt.a1v s) 0 false a5Q=true)(hl:a1b (Txt.a1v s).length (a0M (Txt.a1v s) [nmB] (1,false)).1 (a0M (Txt.a1v s) [nmB] (1,false)).2=false):f2K s (a0M (Txt.a1v s) [nmB] (1,false)):=by
 have hk:d1Z a5Q=true:=by decide +kernel
 have hf:e1B.filter (e7c a5Q)=[[a5Q,c8r],[a5Q,c8r,c7X,c7X]]:=by decide +kernel
 have hst:a0M (Txt.a1v s) ([a5Q,c8r].map g2B) (0,false)=a0M (Txt.a1v s) [nmB] (1,false):=by
  rw[<- st1 h hk];simp only[List.map,d9O]
 exact e6O h hf (f3t hst hl)
theorem g8K{s:ByteArray}(h:isB (Txt.a1v s) 0 false a5Q=true)(hl:a1b (Txt.a1v s).length (a0M (Txt.a1v s) [nmB] (1,false)).1 (a0M (Txt.a1v s) [nmB] (1,false)).2=false):d9u s (.iface 170 (.agg #[.string (a2F (Txt.a1v s) (1,false)),.bool false,.int .i64 0,.int .i64 0])) (a0M (Txt.a1v s) [nmB] (1,false)):=by
 intro h2 hm;have hk:d1Z a5Q=true:=by decide +kernel
 have hf:e1B.filter (e7c a5Q)=[[a5Q,c8r],[a5Q,c8r,c7X,c7X]]:=by decide +kernel
 have hst:a0M (Txt.a1v s) ([a5Q,c8r].map g2B) (0,false)=a0M (Txt.a1v s) [nmB] (1,false):=by
  rw[<- st1 h hk];simp only[List.map,d9O]
 have hF:=e7e h hf (f3t hst hl) hst h2 hm;have v0:=f1t hF.all;rw[v0];refine⟨_,[a5Q,((Txt.a1v s).getD 1 ByteArray.empty)],hF.sc,.list0 _ _ _,by simp,by simp,c9E (n:=2) hF rfl ?_⟩;show [wrS a5Q ((Txt.a1v s).getD 0 ByteArray.empty),wrS c8r ((Txt.a1v s).getD 1 ByteArray.empty)]=_;rw[wrL a5Q _ hk,g3s h,wrN]
theorem g8J{s:ByteArray}(h:isB (Txt.a1v s) 0 false a5Q=true)(hl:a1b (Txt.a1v s).length (a0M (Txt.a1v s) [nmB] (1,false)).1 (a0M (Txt.a1v s) [nmB] (1,false)).2=true):f2K s (a0M (Txt.a1v s) [nmB,a0n,a0n] (1,false)):=by
 have hk:d1Z a5Q=true:=by decide +kernel
 have hf:e1B.filter (e7c a5Q)=[[a5Q,c8r],[a5Q,c8r,c7X,c7X]]:=by decide +kernel
 have hst:a0M (Txt.a1v s) ([a5Q,c8r].map g2B) (0,false)=a0M (Txt.a1v s) [nmB] (1,false):=by
  rw[<- st1 h hk];simp only[List.map,d9O]
 have hst2:a0M (Txt.a1v s) ([a5Q,c8r,c7X,c7X].map g2B) (0,false)=a0M (Txt.a1v s) [nmB,a0n,a0n] (1,false):=by
  rw[<- st1 h hk];simp only[List.map,d9O,f2N]
 exact e6O h hf (f3s hst hl hst2)
theorem g8I{s:ByteArray}(h:isB (Txt.a1v s) 0 false a5Q=true)(hl:a1b (Txt.a1v s).length (a0M (Txt.a1v s) [nmB] (1,false)).1 (a0M (Txt.a1v s) [nmB] (1,false)).2=true):d9u s (.iface 170 (.agg #[.string (a2F (Txt.a1v s) (1,false)),.bool true,.int .i64 (a0v (Txt.a1v s) (a0M (Txt.a1v s) [nmB] (1,false)) a0n a1J),.int .i64 (a0v (Txt.a1v s) (a0M (Txt.a1v s) [nmB,a0n] (1,false)) a0n a1J)])) (a0M (Txt.a1v s) [nmB,a0n,a0n] (1,false)):=by
 intro h2 hm;have hk:d1Z a5Q=true:=by decide +kernel
 have hf:e1B.filter (e7c a5Q)=[[a5Q,c8r],[a5Q,c8r,c7X,c7X]]:=by decide +kernel
 have hst:a0M (Txt.a1v s) ([a5Q,c8r].map g2B) (0,false)=a0M (Txt.a1v s) [nmB] (1,false):=by
  rw[<- st1 h hk];simp only[List.map,d9O]
 have hst2:a0M (Txt.a1v s) ([a5Q,c8r,c7X,c7X].map g2B) (0,false)=a0M (Txt.a1v s) [nmB,a0n,a0n] (1,false):=by
  rw[<- st1 h hk];simp only[List.map,d9O,f2N]
 have hF:=e7e h hf (f3s hst hl hst2) hst2 h2 hm;have v0:=f1t hF.all;have v1:=f0D (Q:=[c8r]) (s:=c7X) (R:=[c7X]) h hk hF.all a1J;have f1:=e9L [c8r] (s:=c7X) (R:=[c7X]) hF.all;simp only[List.map,List.length,d9O,f2N] at v1 f1;have v2:=f0D (Q:=[c8r,c7X]) (s:=c7X) (R:=[]) h hk hF.all a1J;have f2:=e9L [c8r,c7X] (s:=c7X) (R:=[]) hF.all;simp only[List.map,List.length,d9O,f2N] at v2 f2;rw[v0,v1,v2];refine⟨_,[a5Q,((Txt.a1v s).getD 1 ByteArray.empty),c8H (a1J ((Txt.a1v s).getD 2 ByteArray.empty)),c8H (a1J ((Txt.a1v s).getD 3 ByteArray.empty))],hF.sc,.list1 _ _ _ (d2b ((Txt.a1v s).getD 2 ByteArray.empty)).1 (d2b ((Txt.a1v s).getD 2 ByteArray.empty)).2 (d2b ((Txt.a1v s).getD 3 ByteArray.empty)).1 (d2b ((Txt.a1v s).getD 3 ByteArray.empty)).2,by simp,by simp,c9E (n:=4) hF rfl ?_⟩;show [wrS a5Q ((Txt.a1v s).getD 0 ByteArray.empty),wrS c8r ((Txt.a1v s).getD 1 ByteArray.empty),wrS c7X ((Txt.a1v s).getD 2 ByteArray.empty),wrS c7X ((Txt.a1v s).getD 3 ByteArray.empty)]=_;rw[wrL a5Q _ hk,g3s h,wrN,wrT _ f1,wrT _ f2]
theorem f2Y{w:ByteArray}(h:evB w=true):0<nvF w:=by
 have:=(d9V h).2.1;omega
theorem d7f(w:ByteArray):Txt.a6J w<1440:=by
 have:=(Txt.c4W w).2;omega
theorem d0m(w:ByteArray):0<=b0a w/\b0a w<=728:=by
 unfold b0a
 cases h:Txt.a2y w
 ·simp
 ·unfold Txt.a2y at h;have:=of_decide_eq_true h;simp only[if_true];omega
theorem f9a{s:ByteArray}(h:isB (Txt.a1v s) 0 false a7l=true){ev:Int}(hr:b0m (Txt.a1v s) (a0M (Txt.a1v s) [nmB,unB] (1,false)) pc ev acc fr mn mi ti un st):f2K s st:=by
 have hk:d1Z a7l=true:=by decide +kernel
 have hf:e1B.filter (e7c a7l)=g4E g4M:=by decide +kernel
 have hst:a0M (Txt.a1v s) (g4M.map g2B) (0,false)=(a0M (Txt.a1v s) [nmB,unB] (1,false)):=by
  unfold g4M;rw[<- st1 h hk];simp only[List.map,d9O,f5O]
 rw[<- hst] at hr;obtain⟨q,hS,hg⟩:=e2s hr;exact e6O h hf hS
theorem g4w{s:ByteArray}(h:isB (Txt.a1v s) 0 false a7l=true){ev:Int}(hr:b0m (Txt.a1v s) (a0M (Txt.a1v s) [nmB,unB] (1,false)) pc ev acc fr mn mi ti un st):d9u s (.iface 165 (.agg #[.string (a2F (Txt.a1v s) (1,false)),.int .i64 (a0v (Txt.a1v s) (a0M (Txt.a1v s) [nmB] (1,false)) unB nvF),.int .i64 pc,.int .i64 ev,.bool (isd acc 0),.bool (isd acc 1),.bool (isd acc 2),.bool (isd acc 3),.bool (isd acc 4),.bool (isd acc 5),.bool (isd acc 6),.int .i64 fr,.int .i64 mn,.int .i64 mi,.int .i64 ti,.int .i64 un])) st:=by
 intro h2 hm;have hk:d1Z a7l=true:=by decide +kernel
 have hf:e1B.filter (e7c a7l)=g4E g4M:=by decide +kernel
 have hst:a0M (Txt.a1v s) (g4M.map g2B) (0,false)=(a0M (Txt.a1v s) [nmB,unB] (1,false)):=by
  unfold g4M;rw[<- st1 h hk];simp only[List.map,d9O,f5O]
 rw[<- hst] at hr;obtain⟨q,hS,hg⟩:=e2s hr;obtain⟨K,E,rfl,hq,hG⟩:=hg h2;have hF:=e7e h hf hS hq h2 hm;have e0:g4M++K++g4X++E=a7l :: c8r :: (c8Z :: (K++g4X++E)):=by simp[g4M]
 have e1:g4M++K++g4X++E=a7l :: ([c8r]++c8Z :: (K++g4X++E)):=by simp[g4M]
 have v0:=f1t (ws:=Txt.a1v s) (R:=c8Z :: (K++g4X++E)) (k:=a7l) (by rw[<- e0];exact hF.all);have v1:=f0D (Q:=[c8r]) (s:=c8Z) (R:=K++g4X++E) h hk (by rw[<- e1];exact hF.all) nvF;have f1:=e9L (ws:=Txt.a1v s) [c8r] (k:=a7l) (s:=c8Z) (R:=K++g4X++E) (by rw[<- e1];exact hF.all);simp only[List.map,List.length,d9O,f5O] at v1 f1;rw[v0,v1];clear hr hg hS hq hst;obtain⟨hpace,⟨k0,k1,k2,k3,k4,k5,rfl,rfl,rfl⟩,hend⟩:=hG
 cases hpace with
 |daily p0 p1 =>
  cases hend with
  |times q0 q1 =>
   have g0:((Txt.a1v s).getD 3 ByteArray.empty)=b0Y:=p0;have g1:evB ((Txt.a1v s).getD 4 ByteArray.empty)=true:=p1;have s0:((Txt.a1v s).getD 5 ByteArray.empty)=a1t:=k0;have s1:Txt.a2y ((Txt.a1v s).getD 6 ByteArray.empty)=true:=k1;have s2:((Txt.a1v s).getD 7 ByteArray.empty)=atW:=k2;have s3:Txt.a3a ((Txt.a1v s).getD 8 ByteArray.empty)=true:=k3;have s4:((Txt.a1v s).getD 9 ByteArray.empty)=b3z:=k4;have s5:miB ((Txt.a1v s).getD 10 ByteArray.empty)=true:=k5;have t0:((Txt.a1v s).getD 11 ByteArray.empty)=b2z:=q0;have t1:evB ((Txt.a1v s).getD 12 ByteArray.empty)=true:=q1;refine⟨_,[a7l,((Txt.a1v s).getD 1 ByteArray.empty),Txt.a0x (nvF ((Txt.a1v s).getD 2 ByteArray.empty))]++([b0Y,Txt.a0x (nvF ((Txt.a1v s).getD 4 ByteArray.empty))]++e7C (b0a ((Txt.a1v s).getD 6 ByteArray.empty)) (Txt.a6J ((Txt.a1v s).getD 8 ByteArray.empty)) (nvF ((Txt.a1v s).getD 10 ByteArray.empty))++[b2z,Txt.a0x (nvF ((Txt.a1v s).getD 12 ByteArray.empty))]),hF.sc,.series _ _ _ _ _ _ _ _ _ _ _ (c8O _).1 (c8O _).2 (.mk _ _ _ _ _ _ _ _ _ _ (.daily _ _ (c8O _).1 (c8O _).2) (.times _ _ (f2Y t1) (c8O _).2) (d0m _).1 (d0m _).2 (Txt.c4W _).1 (d7f _) (c8O _).1 (c8O _).2),by simp,by simp[e7C],c9E (n:=13) hF rfl ?_⟩;show [wrS a7l ((Txt.a1v s).getD 0 ByteArray.empty),wrS c8r ((Txt.a1v s).getD 1 ByteArray.empty),wrS c8Z ((Txt.a1v s).getD 2 ByteArray.empty),wrS b0Y ((Txt.a1v s).getD 3 ByteArray.empty),wrS e9O ((Txt.a1v s).getD 4 ByteArray.empty),wrS a1t ((Txt.a1v s).getD 5 ByteArray.empty),wrS g3A ((Txt.a1v s).getD 6 ByteArray.empty),wrS atW ((Txt.a1v s).getD 7 ByteArray.empty),wrS g1M ((Txt.a1v s).getD 8 ByteArray.empty),wrS b3z ((Txt.a1v s).getD 9 ByteArray.empty),wrS c8M ((Txt.a1v s).getD 10 ByteArray.empty),wrS b2z ((Txt.a1v s).getD 11 ByteArray.empty),wrS e9O ((Txt.a1v s).getD 12 ByteArray.empty)]=[a7l,((Txt.a1v s).getD 1 ByteArray.empty),Txt.a0x (nvF ((Txt.a1v s).getD 2 ByteArray.empty)),b0Y,Txt.a0x (nvF ((Txt.a1v s).getD 4 ByteArray.empty)),a1t,d0L (b0a ((Txt.a1v s).getD 6 ByteArray.empty)),atW,d8f (Txt.a6J ((Txt.a1v s).getD 8 ByteArray.empty)),b3z,Txt.a0x (nvF ((Txt.a1v s).getD 10 ByteArray.empty)),b2z,Txt.a0x (nvF ((Txt.a1v s).getD 12 ByteArray.empty))];rw[wrL a7l _ hk,g3s h,wrN,wrU _ f1,wrL b0Y _ (by decide +kernel),g0,wrE _ g1,wrL a1t _ (by decide +kernel),s0,wrD,e5c _ s1,wrL atW _ (by decide +kernel),s2,wrM,f6M _ s3,wrL b3z _ (by decide +kernel),s4,g3l _ s5,wrL b2z _ (by decide +kernel),t0,wrE _ t1]
  |til q0 q1 =>
   have g0:((Txt.a1v s).getD 3 ByteArray.empty)=b0Y:=p0;have g1:evB ((Txt.a1v s).getD 4 ByteArray.empty)=true:=p1;have s0:((Txt.a1v s).getD 5 ByteArray.empty)=a1t:=k0;have s1:Txt.a2y ((Txt.a1v s).getD 6 ByteArray.empty)=true:=k1;have s2:((Txt.a1v s).getD 7 ByteArray.empty)=atW:=k2;have s3:Txt.a3a ((Txt.a1v s).getD 8 ByteArray.empty)=true:=k3;have s4:((Txt.a1v s).getD 9 ByteArray.empty)=b3z:=k4;have s5:miB ((Txt.a1v s).getD 10 ByteArray.empty)=true:=k5;have t0:((Txt.a1v s).getD 11 ByteArray.empty)=b5O:=q0;have t1:Txt.a2y ((Txt.a1v s).getD 12 ByteArray.empty)=true:=q1;refine⟨_,[a7l,((Txt.a1v s).getD 1 ByteArray.empty),Txt.a0x (nvF ((Txt.a1v s).getD 2 ByteArray.empty))]++([b0Y,Txt.a0x (nvF ((Txt.a1v s).getD 4 ByteArray.empty))]++e7C (b0a ((Txt.a1v s).getD 6 ByteArray.empty)) (Txt.a6J ((Txt.a1v s).getD 8 ByteArray.empty)) (nvF ((Txt.a1v s).getD 10 ByteArray.empty))++[b5O,d0L (b0a ((Txt.a1v s).getD 12 ByteArray.empty))]),hF.sc,.series _ _ _ _ _ _ _ _ _ _ _ (c8O _).1 (c8O _).2 (.mk _ _ _ _ _ _ _ _ _ _ (.daily _ _ (c8O _).1 (c8O _).2) (.til _ (d0m _).1 (d0m _).2) (d0m _).1 (d0m _).2 (Txt.c4W _).1 (d7f _) (c8O _).1 (c8O _).2),by simp,by simp[e7C],c9E (n:=13) hF rfl ?_⟩;show [wrS a7l ((Txt.a1v s).getD 0 ByteArray.empty),wrS c8r ((Txt.a1v s).getD 1 ByteArray.empty),wrS c8Z ((Txt.a1v s).getD 2 ByteArray.empty),wrS b0Y ((Txt.a1v s).getD 3 ByteArray.empty),wrS e9O ((Txt.a1v s).getD 4 ByteArray.empty),wrS a1t ((Txt.a1v s).getD 5 ByteArray.empty),wrS g3A ((Txt.a1v s).getD 6 ByteArray.empty),wrS atW ((Txt.a1v s).getD 7 ByteArray.empty),wrS g1M ((Txt.a1v s).getD 8 ByteArray.empty),wrS b3z ((Txt.a1v s).getD 9 ByteArray.empty),wrS c8M ((Txt.a1v s).getD 10 ByteArray.empty),wrS b5O ((Txt.a1v s).getD 11 ByteArray.empty),wrS g3A ((Txt.a1v s).getD 12 ByteArray.empty)]=[a7l,((Txt.a1v s).getD 1 ByteArray.empty),Txt.a0x (nvF ((Txt.a1v s).getD 2 ByteArray.empty)),b0Y,Txt.a0x (nvF ((Txt.a1v s).getD 4 ByteArray.empty)),a1t,d0L (b0a ((Txt.a1v s).getD 6 ByteArray.empty)),atW,d8f (Txt.a6J ((Txt.a1v s).getD 8 ByteArray.empty)),b3z,Txt.a0x (nvF ((Txt.a1v s).getD 10 ByteArray.empty)),b5O,d0L (b0a ((Txt.a1v s).getD 12 ByteArray.empty))];rw[wrL a7l _ hk,g3s h,wrN,wrU _ f1,wrL b0Y _ (by decide +kernel),g0,wrE _ g1,wrL a1t _ (by decide +kernel),s0,wrD,e5c _ s1,wrL atW _ (by decide +kernel),s2,wrM,f6M _ s3,wrL b3z _ (by decide +kernel),s4,g3l _ s5,wrL b5O _ (by decide +kernel),t0,wrD,e5c _ t1]
 |weekly acc p0 p1 p2 =>
  cases hend with
  |times q0 q1 =>
   have g0:((Txt.a1v s).getD 3 ByteArray.empty)=a8D:=p0;have g1:evB ((Txt.a1v s).getD 4 ByteArray.empty)=true:=p1;have g2:Txt.onW ((Txt.a1v s).getD 5 ByteArray.empty)=some acc:=p2;have s0:((Txt.a1v s).getD 6 ByteArray.empty)=a1t:=k0;have s1:Txt.a2y ((Txt.a1v s).getD 7 ByteArray.empty)=true:=k1;have s2:((Txt.a1v s).getD 8 ByteArray.empty)=atW:=k2;have s3:Txt.a3a ((Txt.a1v s).getD 9 ByteArray.empty)=true:=k3;have s4:((Txt.a1v s).getD 10 ByteArray.empty)=b3z:=k4;have s5:miB ((Txt.a1v s).getD 11 ByteArray.empty)=true:=k5;have t0:((Txt.a1v s).getD 12 ByteArray.empty)=b2z:=q0;have t1:evB ((Txt.a1v s).getD 13 ByteArray.empty)=true:=q1;refine⟨_,[a7l,((Txt.a1v s).getD 1 ByteArray.empty),Txt.a0x (nvF ((Txt.a1v s).getD 2 ByteArray.empty))]++([a8D,Txt.a0x (nvF ((Txt.a1v s).getD 4 ByteArray.empty)),onJ acc]++e7C (b0a ((Txt.a1v s).getD 7 ByteArray.empty)) (Txt.a6J ((Txt.a1v s).getD 9 ByteArray.empty)) (nvF ((Txt.a1v s).getD 11 ByteArray.empty))++[b2z,Txt.a0x (nvF ((Txt.a1v s).getD 13 ByteArray.empty))]),hF.sc,.series _ _ _ _ _ _ _ _ _ _ _ (c8O _).1 (c8O _).2 (.mk _ _ _ _ _ _ _ _ _ _ (.weekly _ _ (c8O _).1 (c8O _).2 (g1f g2) (f3e acc)) (.times _ _ (f2Y t1) (c8O _).2) (d0m _).1 (d0m _).2 (Txt.c4W _).1 (d7f _) (c8O _).1 (c8O _).2),by simp,by simp[e7C],c9E (n:=14) hF rfl ?_⟩;show [wrS a7l ((Txt.a1v s).getD 0 ByteArray.empty),wrS c8r ((Txt.a1v s).getD 1 ByteArray.empty),wrS c8Z ((Txt.a1v s).getD 2 ByteArray.empty),wrS a8D ((Txt.a1v s).getD 3 ByteArray.empty),wrS e9O ((Txt.a1v s).getD 4 ByteArray.empty),wrS onY ((Txt.a1v s).getD 5 ByteArray.empty),wrS a1t ((Txt.a1v s).getD 6 ByteArray.empty),wrS g3A ((Txt.a1v s).getD 7 ByteArray.empty),wrS atW ((Txt.a1v s).getD 8 ByteArray.empty),wrS g1M ((Txt.a1v s).getD 9 ByteArray.empty),wrS b3z ((Txt.a1v s).getD 10 ByteArray.empty),wrS c8M ((Txt.a1v s).getD 11 ByteArray.empty),wrS b2z ((Txt.a1v s).getD 12 ByteArray.empty),wrS e9O ((Txt.a1v s).getD 13 ByteArray.empty)]=[a7l,((Txt.a1v s).getD 1 ByteArray.empty),Txt.a0x (nvF ((Txt.a1v s).getD 2 ByteArray.empty)),a8D,Txt.a0x (nvF ((Txt.a1v s).getD 4 ByteArray.empty)),onJ acc,a1t,d0L (b0a ((Txt.a1v s).getD 7 ByteArray.empty)),atW,d8f (Txt.a6J ((Txt.a1v s).getD 9 ByteArray.empty)),b3z,Txt.a0x (nvF ((Txt.a1v s).getD 11 ByteArray.empty)),b2z,Txt.a0x (nvF ((Txt.a1v s).getD 13 ByteArray.empty))];rw[wrL a7l _ hk,g3s h,wrN,wrU _ f1,wrL a8D _ (by decide +kernel),g0,wrE _ g1,wrO,f5C g2,wrL a1t _ (by decide +kernel),s0,wrD,e5c _ s1,wrL atW _ (by decide +kernel),s2,wrM,f6M _ s3,wrL b3z _ (by decide +kernel),s4,g3l _ s5,wrL b2z _ (by decide +kernel),t0,wrE _ t1]
  |til q0 q1 =>
   have g0:((Txt.a1v s).getD 3 ByteArray.empty)=a8D:=p0;have g1:evB ((Txt.a1v s).getD 4 ByteArray.empty)=true:=p1;have g2:Txt.onW ((Txt.a1v s).getD 5 ByteArray.empty)=some acc:=p2;have s0:((Txt.a1v s).getD 6 ByteArray.empty)=a1t:=k0;have s1:Txt.a2y ((Txt.a1v s).getD 7 ByteArray.empty)=true:=k1;have s2:((Txt.a1v s).getD 8 ByteArray.empty)=atW:=k2;have s3:Txt.a3a ((Txt.a1v s).getD 9 ByteArray.empty)=true:=k3;have s4:((Txt.a1v s).getD 10 ByteArray.empty)=b3z:=k4;have s5:miB ((Txt.a1v s).getD 11 ByteArray.empty)=true:=k5;have t0:((Txt.a1v s).getD 12 ByteArray.empty)=b5O:=q0;have t1:Txt.a2y ((Txt.a1v s).getD 13 ByteArray.empty)=true:=q1;refine⟨_,[a7l,((Txt.a1v s).getD 1 ByteArray.empty),Txt.a0x (nvF ((Txt.a1v s).getD 2 ByteArray.empty))]++([a8D,Txt.a0x (nvF ((Txt.a1v s).getD 4 ByteArray.empty)),onJ acc]++e7C (b0a ((Txt.a1v s).getD 7 ByteArray.empty)) (Txt.a6J ((Txt.a1v s).getD 9 ByteArray.empty)) (nvF ((Txt.a1v s).getD 11 ByteArray.empty))++[b5O,d0L (b0a ((Txt.a1v s).getD 13 ByteArray.empty))]),hF.sc,.series _ _ _ _ _ _ _ _ _ _ _ (c8O _).1 (c8O _).2 (.mk _ _ _ _ _ _ _ _ _ _ (.weekly _ _ (c8O _).1 (c8O _).2 (g1f g2) (f3e acc)) (.til _ (d0m _).1 (d0m _).2) (d0m _).1 (d0m _).2 (Txt.c4W _).1 (d7f _) (c8O _).1 (c8O _).2),by simp,by simp[e7C],c9E (n:=14) hF rfl ?_⟩;show [wrS a7l ((Txt.a1v s).getD 0 ByteArray.empty),wrS c8r ((Txt.a1v s).getD 1 ByteArray.empty),wrS c8Z ((Txt.a1v s).getD 2 ByteArray.empty),wrS a8D ((Txt.a1v s).getD 3 ByteArray.empty),wrS e9O ((Txt.a1v s).getD 4 ByteArray.empty),wrS onY ((Txt.a1v s).getD 5 ByteArray.empty),wrS a1t ((Txt.a1v s).getD 6 ByteArray.empty),wrS g3A ((Txt.a1v s).getD 7 ByteArray.empty),wrS atW ((Txt.a1v s).getD 8 ByteArray.empty),wrS g1M ((Txt.a1v s).getD 9 ByteArray.empty),wrS b3z ((Txt.a1v s).getD 10 ByteArray.empty),wrS c8M ((Txt.a1v s).getD 11 ByteArray.empty),wrS b5O ((Txt.a1v s).getD 12 ByteArray.empty),wrS g3A ((Txt.a1v s).getD 13 ByteArray.empty)]=[a7l,((Txt.a1v s).getD 1 ByteArray.empty),Txt.a0x (nvF ((Txt.a1v s).getD 2 ByteArray.empty)),a8D,Txt.a0x (nvF ((Txt.a1v s).getD 4 ByteArray.empty)),onJ acc,a1t,d0L (b0a ((Txt.a1v s).getD 7 ByteArray.empty)),atW,d8f (Txt.a6J ((Txt.a1v s).getD 9 ByteArray.empty)),b3z,Txt.a0x (nvF ((Txt.a1v s).getD 11 ByteArray.empty)),b5O,d0L (b0a ((Txt.a1v s).getD 13 ByteArray.empty))];rw[wrL a7l _ hk,g3s h,wrN,wrU _ f1,wrL a8D _ (by decide +kernel),g0,wrE _ g1,wrO,f5C g2,wrL a1t _ (by decide +kernel),s0,wrD,e5c _ s1,wrL atW _ (by decide +kernel),s2,wrM,f6M _ s3,wrL b3z _ (by decide +kernel),s4,g3l _ s5,wrL b5O _ (by decide +kernel),t0,wrD,e5c _ t1]
 |monthly p0 p1 =>
  cases hend with
  |times q0 q1 =>
   have g0:((Txt.a1v s).getD 3 ByteArray.empty)=a8w:=p0;have g1:evB ((Txt.a1v s).getD 4 ByteArray.empty)=true:=p1;have s0:((Txt.a1v s).getD 5 ByteArray.empty)=a1t:=k0;have s1:Txt.a2y ((Txt.a1v s).getD 6 ByteArray.empty)=true:=k1;have s2:((Txt.a1v s).getD 7 ByteArray.empty)=atW:=k2;have s3:Txt.a3a ((Txt.a1v s).getD 8 ByteArray.empty)=true:=k3;have s4:((Txt.a1v s).getD 9 ByteArray.empty)=b3z:=k4;have s5:miB ((Txt.a1v s).getD 10 ByteArray.empty)=true:=k5;have t0:((Txt.a1v s).getD 11 ByteArray.empty)=b2z:=q0;have t1:evB ((Txt.a1v s).getD 12 ByteArray.empty)=true:=q1;refine⟨_,[a7l,((Txt.a1v s).getD 1 ByteArray.empty),Txt.a0x (nvF ((Txt.a1v s).getD 2 ByteArray.empty))]++([a8w,Txt.a0x (nvF ((Txt.a1v s).getD 4 ByteArray.empty))]++e7C (b0a ((Txt.a1v s).getD 6 ByteArray.empty)) (Txt.a6J ((Txt.a1v s).getD 8 ByteArray.empty)) (nvF ((Txt.a1v s).getD 10 ByteArray.empty))++[b2z,Txt.a0x (nvF ((Txt.a1v s).getD 12 ByteArray.empty))]),hF.sc,.series _ _ _ _ _ _ _ _ _ _ _ (c8O _).1 (c8O _).2 (.mk _ _ _ _ _ _ _ _ _ _ (.monthly _ _ (c8O _).1 (c8O _).2) (.times _ _ (f2Y t1) (c8O _).2) (d0m _).1 (d0m _).2 (Txt.c4W _).1 (d7f _) (c8O _).1 (c8O _).2),by simp,by simp[e7C],c9E (n:=13) hF rfl ?_⟩;show [wrS a7l ((Txt.a1v s).getD 0 ByteArray.empty),wrS c8r ((Txt.a1v s).getD 1 ByteArray.empty),wrS c8Z ((Txt.a1v s).getD 2 ByteArray.empty),wrS a8w ((Txt.a1v s).getD 3 ByteArray.empty),wrS e9O ((Txt.a1v s).getD 4 ByteArray.empty),wrS a1t ((Txt.a1v s).getD 5 ByteArray.empty),wrS g3A ((Txt.a1v s).getD 6 ByteArray.empty),wrS atW ((Txt.a1v s).getD 7 ByteArray.empty),wrS g1M ((Txt.a1v s).getD 8 ByteArray.empty),wrS b3z ((Txt.a1v s).getD 9 ByteArray.empty),wrS c8M ((Txt.a1v s).getD 10 ByteArray.empty),wrS b2z ((Txt.a1v s).getD 11 ByteArray.empty),wrS e9O ((Txt.a1v s).getD 12 ByteArray.empty)]=[a7l,((Txt.a1v s).getD 1 ByteArray.empty),Txt.a0x (nvF ((Txt.a1v s).getD 2 ByteArray.empty)),a8w,Txt.a0x (nvF ((Txt.a1v s).getD 4 ByteArray.empty)),a1t,d0L (b0a ((Txt.a1v s).getD 6 ByteArray.empty)),atW,d8f (Txt.a6J ((Txt.a1v s).getD 8 ByteArray.empty)),b3z,Txt.a0x (nvF ((Txt.a1v s).getD 10 ByteArray.empty)),b2z,Txt.a0x (nvF ((Txt.a1v s).getD 12 ByteArray.empty))];rw[wrL a7l _ hk,g3s h,wrN,wrU _ f1,wrL a8w _ (by decide +kernel),g0,wrE _ g1,wrL a1t _ (by decide +kernel),s0,wrD,e5c _ s1,wrL atW _ (by decide +kernel),s2,wrM,f6M _ s3,wrL b3z _ (by decide +kernel),s4,g3l _ s5,wrL b2z _ (by decide +kernel),t0,wrE _ t1]
  |til q0 q1 =>
   have g0:((Txt.a1v s).getD 3 ByteArray.empty)=a8w:=p0;have g1:evB ((Txt.a1v s).getD 4 ByteArray.empty)=true:=p1;have s0:((Txt.a1v s).getD 5 ByteArray.empty)=a1t:=k0;have s1:Txt.a2y ((Txt.a1v s).getD 6 ByteArray.empty)=true:=k1;have s2:((Txt.a1v s).getD 7 ByteArray.empty)=atW:=k2;have s3:Txt.a3a ((Txt.a1v s).getD 8 ByteArray.empty)=true:=k3;have s4:((Txt.a1v s).getD 9 ByteArray.empty)=b3z:=k4;have s5:miB ((Txt.a1v s).getD 10 ByteArray.empty)=true:=k5;have t0:((Txt.a1v s).getD 11 ByteArray.empty)=b5O:=q0;have t1:Txt.a2y ((Txt.a1v s).getD 12 ByteArray.empty)=true:=q1;refine⟨_,[a7l,((Txt.a1v s).getD 1 ByteArray.empty),Txt.a0x (nvF ((Txt.a1v s).getD 2 ByteArray.empty))]++([a8w,Txt.a0x (nvF ((Txt.a1v s).getD 4 ByteArray.empty))]++e7C (b0a ((Txt.a1v s).getD 6 ByteArray.empty)) (Txt.a6J ((Txt.a1v s).getD 8 ByteArray.empty)) (nvF ((Txt.a1v s).getD 10 ByteArray.empty))++[b5O,d0L (b0a ((Txt.a1v s).getD 12 ByteArray.empty))]),hF.sc,.series _ _ _ _ _ _ _ _ _ _ _ (c8O _).1 (c8O _).2 (.mk _ _ _ _ _ _ _ _ _ _ (.monthly _ _ (c8O _).1 (c8O _).2) (.til _ (d0m _).1 (d0m _).2) (d0m _).1 (d0m _).2 (Txt.c4W _).1 (d7f _) (c8O _).1 (c8O _).2),by simp,by simp[e7C],c9E (n:=13) hF rfl ?_⟩;show [wrS a7l ((Txt.a1v s).getD 0 ByteArray.empty),wrS c8r ((Txt.a1v s).getD 1 ByteArray.empty),wrS c8Z ((Txt.a1v s).getD 2 ByteArray.empty),wrS a8w ((Txt.a1v s).getD 3 ByteArray.empty),wrS e9O ((Txt.a1v s).getD 4 ByteArray.empty),wrS a1t ((Txt.a1v s).getD 5 ByteArray.empty),wrS g3A ((Txt.a1v s).getD 6 ByteArray.empty),wrS atW ((Txt.a1v s).getD 7 ByteArray.empty),wrS g1M ((Txt.a1v s).getD 8 ByteArray.empty),wrS b3z ((Txt.a1v s).getD 9 ByteArray.empty),wrS c8M ((Txt.a1v s).getD 10 ByteArray.empty),wrS b5O ((Txt.a1v s).getD 11 ByteArray.empty),wrS g3A ((Txt.a1v s).getD 12 ByteArray.empty)]=[a7l,((Txt.a1v s).getD 1 ByteArray.empty),Txt.a0x (nvF ((Txt.a1v s).getD 2 ByteArray.empty)),a8w,Txt.a0x (nvF ((Txt.a1v s).getD 4 ByteArray.empty)),a1t,d0L (b0a ((Txt.a1v s).getD 6 ByteArray.empty)),atW,d8f (Txt.a6J ((Txt.a1v s).getD 8 ByteArray.empty)),b3z,Txt.a0x (nvF ((Txt.a1v s).getD 10 ByteArray.empty)),b5O,d0L (b0a ((Txt.a1v s).getD 12 ByteArray.empty))];rw[wrL a7l _ hk,g3s h,wrN,wrU _ f1,wrL a8w _ (by decide +kernel),g0,wrE _ g1,wrL a1t _ (by decide +kernel),s0,wrD,e5c _ s1,wrL atW _ (by decide +kernel),s2,wrM,f6M _ s3,wrL b3z _ (by decide +kernel),s4,g3l _ s5,wrL b5O _ (by decide +kernel),t0,wrD,e5c _ t1]
theorem g0B{s:ByteArray}(h:isB (Txt.a1v s) 0 false a7M=true){ev:Int}(hr:b0m (Txt.a1v s) (1,false) pc ev acc fr mn mi ti un st):f2K s st:=by
 have hk:d1Z a7M=true:=by decide +kernel
 have hf:e1B.filter (e7c a7M)=g4E g4Z:=by decide +kernel
 have hst:a0M (Txt.a1v s) (g4Z.map g2B) (0,false)=(1,false):=by
  unfold g4Z;rw[<- st1 h hk];rfl
 rw[<- hst] at hr;obtain⟨q,hS,hg⟩:=e2s hr;exact e6O h hf hS
theorem g5w{s:ByteArray}(h:isB (Txt.a1v s) 0 false a7M=true){ev:Int}(hr:b0m (Txt.a1v s) (1,false) pc ev acc fr mn mi ti un st):d9u s (.iface 180 (.agg #[.int .i64 pc,.int .i64 ev,.bool (isd acc 0),.bool (isd acc 1),.bool (isd acc 2),.bool (isd acc 3),.bool (isd acc 4),.bool (isd acc 5),.bool (isd acc 6),.int .i64 fr,.int .i64 mn,.int .i64 mi,.int .i64 ti,.int .i64 un])) st:=by
 intro h2 hm;have hk:d1Z a7M=true:=by decide +kernel
 have hf:e1B.filter (e7c a7M)=g4E g4Z:=by decide +kernel
 have hst:a0M (Txt.a1v s) (g4Z.map g2B) (0,false)=(1,false):=by
  unfold g4Z;rw[<- st1 h hk];rfl
 rw[<- hst] at hr;obtain⟨q,hS,hg⟩:=e2s hr;obtain⟨K,E,rfl,hq,hG⟩:=hg h2;have hF:=e7e h hf hS hq h2 hm;clear hr hg hS hq hst;obtain⟨hpace,⟨k0,k1,k2,k3,k4,k5,rfl,rfl,rfl⟩,hend⟩:=hG
 cases hpace with
 |daily p0 p1 =>
  cases hend with
  |times q0 q1 =>
   have g0:((Txt.a1v s).getD 1 ByteArray.empty)=b0Y:=p0;have g1:evB ((Txt.a1v s).getD 2 ByteArray.empty)=true:=p1;have s0:((Txt.a1v s).getD 3 ByteArray.empty)=a1t:=k0;have s1:Txt.a2y ((Txt.a1v s).getD 4 ByteArray.empty)=true:=k1;have s2:((Txt.a1v s).getD 5 ByteArray.empty)=atW:=k2;have s3:Txt.a3a ((Txt.a1v s).getD 6 ByteArray.empty)=true:=k3;have s4:((Txt.a1v s).getD 7 ByteArray.empty)=b3z:=k4;have s5:miB ((Txt.a1v s).getD 8 ByteArray.empty)=true:=k5;have t0:((Txt.a1v s).getD 9 ByteArray.empty)=b2z:=q0;have t1:evB ((Txt.a1v s).getD 10 ByteArray.empty)=true:=q1;refine⟨_,[a7M]++([b0Y,Txt.a0x (nvF ((Txt.a1v s).getD 2 ByteArray.empty))]++e7C (b0a ((Txt.a1v s).getD 4 ByteArray.empty)) (Txt.a6J ((Txt.a1v s).getD 6 ByteArray.empty)) (nvF ((Txt.a1v s).getD 8 ByteArray.empty))++[b2z,Txt.a0x (nvF ((Txt.a1v s).getD 10 ByteArray.empty))]),hF.sc,.expand _ _ _ _ _ _ _ _ _ (.mk _ _ _ _ _ _ _ _ _ _ (.daily _ _ (c8O _).1 (c8O _).2) (.times _ _ (f2Y t1) (c8O _).2) (d0m _).1 (d0m _).2 (Txt.c4W _).1 (d7f _) (c8O _).1 (c8O _).2),by simp,by simp[e7C],c9E (n:=11) hF rfl ?_⟩;show [wrS a7M ((Txt.a1v s).getD 0 ByteArray.empty),wrS b0Y ((Txt.a1v s).getD 1 ByteArray.empty),wrS e9O ((Txt.a1v s).getD 2 ByteArray.empty),wrS a1t ((Txt.a1v s).getD 3 ByteArray.empty),wrS g3A ((Txt.a1v s).getD 4 ByteArray.empty),wrS atW ((Txt.a1v s).getD 5 ByteArray.empty),wrS g1M ((Txt.a1v s).getD 6 ByteArray.empty),wrS b3z ((Txt.a1v s).getD 7 ByteArray.empty),wrS c8M ((Txt.a1v s).getD 8 ByteArray.empty),wrS b2z ((Txt.a1v s).getD 9 ByteArray.empty),wrS e9O ((Txt.a1v s).getD 10 ByteArray.empty)]=[a7M,b0Y,Txt.a0x (nvF ((Txt.a1v s).getD 2 ByteArray.empty)),a1t,d0L (b0a ((Txt.a1v s).getD 4 ByteArray.empty)),atW,d8f (Txt.a6J ((Txt.a1v s).getD 6 ByteArray.empty)),b3z,Txt.a0x (nvF ((Txt.a1v s).getD 8 ByteArray.empty)),b2z,Txt.a0x (nvF ((Txt.a1v s).getD 10 ByteArray.empty))];rw[wrL a7M _ hk,g3s h,wrL b0Y _ (by decide +kernel),g0,wrE _ g1,wrL a1t _ (by decide +kernel),s0,wrD,e5c _ s1,wrL atW _ (by decide +kernel),s2,wrM,f6M _ s3,wrL b3z _ (by decide +kernel),s4,g3l _ s5,wrL b2z _ (by decide +kernel),t0,wrE _ t1]
  |til q0 q1 =>
   have g0:((Txt.a1v s).getD 1 ByteArray.empty)=b0Y:=p0;have g1:evB ((Txt.a1v s).getD 2 ByteArray.empty)=true:=p1;have s0:((Txt.a1v s).getD 3 ByteArray.empty)=a1t:=k0;have s1:Txt.a2y ((Txt.a1v s).getD 4 ByteArray.empty)=true:=k1;have s2:((Txt.a1v s).getD 5 ByteArray.empty)=atW:=k2;have s3:Txt.a3a ((Txt.a1v s).getD 6 ByteArray.empty)=true:=k3;have s4:((Txt.a1v s).getD 7 ByteArray.empty)=b3z:=k4;have s5:miB ((Txt.a1v s).getD 8 ByteArray.empty)=true:=k5;have t0:((Txt.a1v s).getD 9 ByteArray.empty)=b5O:=q0;have t1:Txt.a2y ((Txt.a1v s).getD 10 ByteArray.empty)=true:=q1;refine⟨_,[a7M]++([b0Y,Txt.a0x (nvF ((Txt.a1v s).getD 2 ByteArray.empty))]++e7C (b0a ((Txt.a1v s).getD 4 ByteArray.empty)) (Txt.a6J ((Txt.a1v s).getD 6 ByteArray.empty)) (nvF ((Txt.a1v s).getD 8 ByteArray.empty))++[b5O,d0L (b0a ((Txt.a1v s).getD 10 ByteArray.empty))]),hF.sc,.expand _ _ _ _ _ _ _ _ _ (.mk _ _ _ _ _ _ _ _ _ _ (.daily _ _ (c8O _).1 (c8O _).2) (.til _ (d0m _).1 (d0m _).2) (d0m _).1 (d0m _).2 (Txt.c4W _).1 (d7f _) (c8O _).1 (c8O _).2),by simp,by simp[e7C],c9E (n:=11) hF rfl ?_⟩;show [wrS a7M ((Txt.a1v s).getD 0 ByteArray.empty),wrS b0Y ((Txt.a1v s).getD 1 ByteArray.empty),wrS e9O ((Txt.a1v s).getD 2 ByteArray.empty),wrS a1t ((Txt.a1v s).getD 3 ByteArray.empty),wrS g3A ((Txt.a1v s).getD 4 ByteArray.empty),wrS atW ((Txt.a1v s).getD 5 ByteArray.empty),wrS g1M ((Txt.a1v s).getD 6 ByteArray.empty),wrS b3z ((Txt.a1v s).getD 7 ByteArray.empty),wrS c8M ((Txt.a1v s).getD 8 ByteArray.empty),wrS b5O ((Txt.a1v s).getD 9 ByteArray.empty),wrS g3A ((Txt.a1v s).getD 10 ByteArray.empty)]=[a7M,b0Y,Txt.a0x (nvF ((Txt.a1v s).getD 2 ByteArray.empty)),a1t,d0L (b0a ((Txt.a1v s).getD 4 ByteArray.empty)),atW,d8f (Txt.a6J ((Txt.a1v s).getD 6 ByteArray.empty)),b3z,Txt.a0x (nvF ((Txt.a1v s).getD 8 ByteArray.empty)),b5O,d0L (b0a ((Txt.a1v s).getD 10 ByteArray.empty))];rw[wrL a7M _ hk,g3s h,wrL b0Y _ (by decide +kernel),g0,wrE _ g1,wrL a1t _ (by decide +kernel),s0,wrD,e5c _ s1,wrL atW _ (by decide +kernel),s2,wrM,f6M _ s3,wrL b3z _ (by decide +kernel),s4,g3l _ s5,wrL b5O _ (by decide +kernel),t0,wrD,e5c _ t1]
 |weekly acc p0 p1 p2 =>
  cases hend with
  |times q0 q1 =>
   have g0:((Txt.a1v s).getD 1 ByteArray.empty)=a8D:=p0;have g1:evB ((Txt.a1v s).getD 2 ByteArray.empty)=true:=p1;have g2:Txt.onW ((Txt.a1v s).getD 3 ByteArray.empty)=some acc:=p2;have s0:((Txt.a1v s).getD 4 ByteArray.empty)=a1t:=k0;have s1:Txt.a2y ((Txt.a1v s).getD 5 ByteArray.empty)=true:=k1;have s2:((Txt.a1v s).getD 6 ByteArray.empty)=atW:=k2;have s3:Txt.a3a ((Txt.a1v s).getD 7 ByteArray.empty)=true:=k3;have s4:((Txt.a1v s).getD 8 ByteArray.empty)=b3z:=k4;have s5:miB ((Txt.a1v s).getD 9 ByteArray.empty)=true:=k5;have t0:((Txt.a1v s).getD 10 ByteArray.empty)=b2z:=q0;have t1:evB ((Txt.a1v s).getD 11 ByteArray.empty)=true:=q1;refine⟨_,[a7M]++([a8D,Txt.a0x (nvF ((Txt.a1v s).getD 2 ByteArray.empty)),onJ acc]++e7C (b0a ((Txt.a1v s).getD 5 ByteArray.empty)) (Txt.a6J ((Txt.a1v s).getD 7 ByteArray.empty)) (nvF ((Txt.a1v s).getD 9 ByteArray.empty))++[b2z,Txt.a0x (nvF ((Txt.a1v s).getD 11 ByteArray.empty))]),hF.sc,.expand _ _ _ _ _ _ _ _ _ (.mk _ _ _ _ _ _ _ _ _ _ (.weekly _ _ (c8O _).1 (c8O _).2 (g1f g2) (f3e acc)) (.times _ _ (f2Y t1) (c8O _).2) (d0m _).1 (d0m _).2 (Txt.c4W _).1 (d7f _) (c8O _).1 (c8O _).2),by simp,by simp[e7C],c9E (n:=12) hF rfl ?_⟩;show [wrS a7M ((Txt.a1v s).getD 0 ByteArray.empty),wrS a8D ((Txt.a1v s).getD 1 ByteArray.empty),wrS e9O ((Txt.a1v s).getD 2 ByteArray.empty),wrS onY ((Txt.a1v s).getD 3 ByteArray.empty),wrS a1t ((Txt.a1v s).getD 4 ByteArray.empty),wrS g3A ((Txt.a1v s).getD 5 ByteArray.empty),wrS atW ((Txt.a1v s).getD 6 ByteArray.empty),wrS g1M ((Txt.a1v s).getD 7 ByteArray.empty),wrS b3z ((Txt.a1v s).getD 8 ByteArray.empty),wrS c8M ((Txt.a1v s).getD 9 ByteArray.empty),wrS b2z ((Txt.a1v s).getD 10 ByteArray.empty),wrS e9O ((Txt.a1v s).getD 11 ByteArray.empty)]=[a7M,a8D,Txt.a0x (nvF ((Txt.a1v s).getD 2 ByteArray.empty)),onJ acc,a1t,d0L (b0a ((Txt.a1v s).getD 5 ByteArray.empty)),atW,d8f (Txt.a6J ((Txt.a1v s).getD 7 ByteArray.empty)),b3z,Txt.a0x (nvF ((Txt.a1v s).getD 9 ByteArray.empty)),b2z,Txt.a0x (nvF ((Txt.a1v s).getD 11 ByteArray.empty))];rw[wrL a7M _ hk,g3s h,wrL a8D _ (by decide +kernel),g0,wrE _ g1,wrO,f5C g2,wrL a1t _ (by decide +kernel),s0,wrD,e5c _ s1,wrL atW _ (by decide +kernel),s2,wrM,f6M _ s3,wrL b3z _ (by decide +kernel),s4,g3l _ s5,wrL b2z _ (by decide +kernel),t0,wrE _ t1]
  |til q0 q1 =>
   have g0:((Txt.a1v s).getD 1 ByteArray.empty)=a8D:=p0;have g1:evB ((Txt.a1v s).getD 2 ByteArray.empty)=true:=p1;have g2:Txt.onW ((Txt.a1v s).getD 3 ByteArray.empty)=some acc:=p2;have s0:((Txt.a1v s).getD 4 ByteArray.empty)=a1t:=k0;have s1:Txt.a2y ((Txt.a1v s).getD 5 ByteArray.empty)=true:=k1;have s2:((Txt.a1v s).getD 6 ByteArray.empty)=atW:=k2;have s3:Txt.a3a ((Txt.a1v s).getD 7 ByteArray.empty)=true:=k3;have s4:((Txt.a1v s).getD 8 ByteArray.empty)=b3z:=k4;have s5:miB ((Txt.a1v s).getD 9 ByteArray.empty)=true:=k5;have t0:((Txt.a1v s).getD 10 ByteArray.empty)=b5O:=q0;have t1:Txt.a2y ((Txt.a1v s).getD 11 ByteArray.empty)=true:=q1;refine⟨_,[a7M]++([a8D,Txt.a0x (nvF ((Txt.a1v s).getD 2 ByteArray.empty)),onJ acc]++e7C (b0a ((Txt.a1v s).getD 5 ByteArray.empty)) (Txt.a6J ((Txt.a1v s).getD 7 ByteArray.empty)) (nvF ((Txt.a1v s).getD 9 ByteArray.empty))++[b5O,d0L (b0a ((Txt.a1v s).getD 11 ByteArray.empty))]),hF.sc,.expand _ _ _ _ _ _ _ _ _ (.mk _ _ _ _ _ _ _ _ _ _ (.weekly _ _ (c8O _).1 (c8O _).2 (g1f g2) (f3e acc)) (.til _ (d0m _).1 (d0m _).2) (d0m _).1 (d0m _).2 (Txt.c4W _).1 (d7f _) (c8O _).1 (c8O _).2),by simp,by simp[e7C],c9E (n:=12) hF rfl ?_⟩;show [wrS a7M ((Txt.a1v s).getD 0 ByteArray.empty),wrS a8D ((Txt.a1v s).getD 1 ByteArray.empty),wrS e9O ((Txt.a1v s).getD 2 ByteArray.empty),wrS onY ((Txt.a1v s).getD 3 ByteArray.empty),wrS a1t ((Txt.a1v s).getD 4 ByteArray.empty),wrS g3A ((Txt.a1v s).getD 5 ByteArray.empty),wrS atW ((Txt.a1v s).getD 6 ByteArray.empty),wrS g1M ((Txt.a1v s).getD 7 ByteArray.empty),wrS b3z ((Txt.a1v s).getD 8 ByteArray.empty),wrS c8M ((Txt.a1v s).getD 9 ByteArray.empty),wrS b5O ((Txt.a1v s).getD 10 ByteArray.empty),wrS g3A ((Txt.a1v s).getD 11 ByteArray.empty)]=[a7M,a8D,Txt.a0x (nvF ((Txt.a1v s).getD 2 ByteArray.empty)),onJ acc,a1t,d0L (b0a ((Txt.a1v s).getD 5 ByteArray.empty)),atW,d8f (Txt.a6J ((Txt.a1v s).getD 7 ByteArray.empty)),b3z,Txt.a0x (nvF ((Txt.a1v s).getD 9 ByteArray.empty)),b5O,d0L (b0a ((Txt.a1v s).getD 11 ByteArray.empty))];rw[wrL a7M _ hk,g3s h,wrL a8D _ (by decide +kernel),g0,wrE _ g1,wrO,f5C g2,wrL a1t _ (by decide +kernel),s0,wrD,e5c _ s1,wrL atW _ (by decide +kernel),s2,wrM,f6M _ s3,wrL b3z _ (by decide +kernel),s4,g3l _ s5,wrL b5O _ (by decide +kernel),t0,wrD,e5c _ t1]
 |monthly p0 p1 =>
  cases hend with
  |times q0 q1 =>
   have g0:((Txt.a1v s).getD 1 ByteArray.empty)=a8w:=p0;have g1:evB ((Txt.a1v s).getD 2 ByteArray.empty)=true:=p1;have s0:((Txt.a1v s).getD 3 ByteArray.empty)=a1t:=k0;have s1:Txt.a2y ((Txt.a1v s).getD 4 ByteArray.empty)=true:=k1;have s2:((Txt.a1v s).getD 5 ByteArray.empty)=atW:=k2;have s3:Txt.a3a ((Txt.a1v s).getD 6 ByteArray.empty)=true:=k3;have s4:((Txt.a1v s).getD 7 ByteArray.empty)=b3z:=k4;have s5:miB ((Txt.a1v s).getD 8 ByteArray.empty)=true:=k5;have t0:((Txt.a1v s).getD 9 ByteArray.empty)=b2z:=q0;have t1:evB ((Txt.a1v s).getD 10 ByteArray.empty)=true:=q1;refine⟨_,[a7M]++([a8w,Txt.a0x (nvF ((Txt.a1v s).getD 2 ByteArray.empty))]++e7C (b0a ((Txt.a1v s).getD 4 ByteArray.empty)) (Txt.a6J ((Txt.a1v s).getD 6 ByteArray.empty)) (nvF ((Txt.a1v s).getD 8 ByteArray.empty))++[b2z,Txt.a0x (nvF ((Txt.a1v s).getD 10 ByteArray.empty))]),hF.sc,.expand _ _ _ _ _ _ _ _ _ (.mk _ _ _ _ _ _ _ _ _ _ (.monthly _ _ (c8O _).1 (c8O _).2) (.times _ _ (f2Y t1) (c8O _).2) (d0m _).1 (d0m _).2 (Txt.c4W _).1 (d7f _) (c8O _).1 (c8O _).2),by simp,by simp[e7C],c9E (n:=11) hF rfl ?_⟩;show [wrS a7M ((Txt.a1v s).getD 0 ByteArray.empty),wrS a8w ((Txt.a1v s).getD 1 ByteArray.empty),wrS e9O ((Txt.a1v s).getD 2 ByteArray.empty),wrS a1t ((Txt.a1v s).getD 3 ByteArray.empty),wrS g3A ((Txt.a1v s).getD 4 ByteArray.empty),wrS atW ((Txt.a1v s).getD 5 ByteArray.empty),wrS g1M ((Txt.a1v s).getD 6 ByteArray.empty),wrS b3z ((Txt.a1v s).getD 7 ByteArray.empty),wrS c8M ((Txt.a1v s).getD 8 ByteArray.empty),wrS b2z ((Txt.a1v s).getD 9 ByteArray.empty),wrS e9O ((Txt.a1v s).getD 10 ByteArray.empty)]=[a7M,a8w,Txt.a0x (nvF ((Txt.a1v s).getD 2 ByteArray.empty)),a1t,d0L (b0a ((Txt.a1v s).getD 4 ByteArray.empty)),atW,d8f (Txt.a6J ((Txt.a1v s).getD 6 ByteArray.empty)),b3z,Txt.a0x (nvF ((Txt.a1v s).getD 8 ByteArray.empty)),b2z,Txt.a0x (nvF ((Txt.a1v s).getD 10 ByteArray.empty))];rw[wrL a7M _ hk,g3s h,wrL a8w _ (by decide +kernel),g0,wrE _ g1,wrL a1t _ (by decide +kernel),s0,wrD,e5c _ s1,wrL atW _ (by decide +kernel),s2,wrM,f6M _ s3,wrL b3z _ (by decide +kernel),s4,g3l _ s5,wrL b2z _ (by decide +kernel),t0,wrE _ t1]
  |til q0 q1 =>
   have g0:((Txt.a1v s).getD 1 ByteArray.empty)=a8w:=p0;have g1:evB ((Txt.a1v s).getD 2 ByteArray.empty)=true:=p1;have s0:((Txt.a1v s).getD 3 ByteArray.empty)=a1t:=k0;have s1:Txt.a2y ((Txt.a1v s).getD 4 ByteArray.empty)=true:=k1;have s2:((Txt.a1v s).getD 5 ByteArray.empty)=atW:=k2;have s3:Txt.a3a ((Txt.a1v s).getD 6 ByteArray.empty)=true:=k3;have s4:((Txt.a1v s).getD 7 ByteArray.empty)=b3z:=k4;have s5:miB ((Txt.a1v s).getD 8 ByteArray.empty)=true:=k5;have t0:((Txt.a1v s).getD 9 ByteArray.empty)=b5O:=q0;have t1:Txt.a2y ((Txt.a1v s).getD 10 ByteArray.empty)=true:=q1;refine⟨_,[a7M]++([a8w,Txt.a0x (nvF ((Txt.a1v s).getD 2 ByteArray.empty))]++e7C (b0a ((Txt.a1v s).getD 4 ByteArray.empty)) (Txt.a6J ((Txt.a1v s).getD 6 ByteArray.empty)) (nvF ((Txt.a1v s).getD 8 ByteArray.empty))++[b5O,d0L (b0a ((Txt.a1v s).getD 10 ByteArray.empty))]),hF.sc,.expand _ _ _ _ _ _ _ _ _ (.mk _ _ _ _ _ _ _ _ _ _ (.monthly _ _ (c8O _).1 (c8O _).2) (.til _ (d0m _).1 (d0m _).2) (d0m _).1 (d0m _).2 (Txt.c4W _).1 (d7f _) (c8O _).1 (c8O _).2),by simp,by simp[e7C],c9E (n:=11) hF rfl ?_⟩;show [wrS a7M ((Txt.a1v s).getD 0 ByteArray.empty),wrS a8w ((Txt.a1v s).getD 1 ByteArray.empty),wrS e9O ((Txt.a1v s).getD 2 ByteArray.empty),wrS a1t ((Txt.a1v s).getD 3 ByteArray.empty),wrS g3A ((Txt.a1v s).getD 4 ByteArray.empty),wrS atW ((Txt.a1v s).getD 5 ByteArray.empty),wrS g1M ((Txt.a1v s).getD 6 ByteArray.empty),wrS b3z ((Txt.a1v s).getD 7 ByteArray.empty),wrS c8M ((Txt.a1v s).getD 8 ByteArray.empty),wrS b5O ((Txt.a1v s).getD 9 ByteArray.empty),wrS g3A ((Txt.a1v s).getD 10 ByteArray.empty)]=[a7M,a8w,Txt.a0x (nvF ((Txt.a1v s).getD 2 ByteArray.empty)),a1t,d0L (b0a ((Txt.a1v s).getD 4 ByteArray.empty)),atW,d8f (Txt.a6J ((Txt.a1v s).getD 6 ByteArray.empty)),b3z,Txt.a0x (nvF ((Txt.a1v s).getD 8 ByteArray.empty)),b5O,d0L (b0a ((Txt.a1v s).getD 10 ByteArray.empty))];rw[wrL a7M _ hk,g3s h,wrL a8w _ (by decide +kernel),g0,wrE _ g1,wrL a1t _ (by decide +kernel),s0,wrD,e5c _ s1,wrL atW _ (by decide +kernel),s2,wrM,f6M _ s3,wrL b3z _ (by decide +kernel),s4,g3l _ s5,wrL b5O _ (by decide +kernel),t0,wrD,e5c _ t1]
def h5W:List ByteArray:=[a3F,a9P,b5f,b4k,a7l,a4z,a6m,a5Q,a5q,a9a,b5h,a7M,b4n,b1c]
theorem h5V:∀ p∈e1B,∃ k∈h5W,p.headD ByteArray.empty=k:=by decide +kernel
theorem g5s:∀ k∈h5W,d1Z k=true:=by decide +kernel
theorem nothing{s:ByteArray}(h:∀ k∈h5W,isB (Txt.a1v s) 0 false k=false):g0V s=(none,0):=by
 unfold g0V;rw[g1H,d8j _ (fun _=>false) e1B 0]
 ·have:e1B.filter (fun _=>false)=[]:=by simp
  rw[this];rfl
 ·intro p hp _;have hne:=g1G p hp;refine⟨?_,hne⟩;obtain⟨k,hh,hke⟩:=h5V p hp;rw[<- hke] at hh
  match p,hne,hh with
  |x :: p',_,hh =>
   have hx:=h x hh;have hf:=g4I x (g5s x hh)
   match hw:Txt.a1v s with
   |[]=>rfl
   |a :: t =>
    rw[hw] at hx
    have e:g2B x a=false:=by
     rw[hf];have h1:tkB (a :: t) 0 false (a1s x)=false:=hx;unfold tkB a1b at h1
     simpa using h1
    rw[pre,e];rfl
theorem g0f{s:ByteArray}(hl:a2H (Txt.a1v s) v st):f2K s st:=by
 cases hl with
 |a0k h=>exact g8b h
 |book h=>exact h3H h
 |hold h=>exact h2K h
 |wait h=>exact g9Z h
 |series h _ _ _ _ _ _ _ _ _ hr=>exact f9a h hr
 |confirm h=>exact g2d h
 |cancel h=>exact g5L h
 |list0 h hm=>exact g8L h hm
 |list1 h hm=>exact g8J h hm
 |waiting h=>exact f8k h
 |peak h=>exact h1w h
 |find h=>exact h2T h
 |expand h _ _ _ _ _ _ _ _ _ hr=>exact g0B h hr
 |tick h=>exact g8x h
 |clock h=>exact g9z h
 |none h0 h1 h2 h3 h4 h5 h6 h7 h8 h9 h10 h11 h12 h13 =>
  intro _;refine nothing ?_;intro k hk;simp only[h5W,List.mem_cons,List.not_mem_nil,or_false] at hk;rcases hk with rfl|rfl|rfl|rfl|rfl|rfl|rfl|rfl|rfl|rfl|rfl|rfl|rfl|rfl <;> assumption
theorem h2x{s:ByteArray}(hl:a2H (Txt.a1v s) v st):d9u s v st:=by
 cases hl with
 |a0k h=>exact g8a h
 |book h=>exact h3G h
 |hold h=>exact h2J h
 |wait h=>exact g9X h
 |series h _ _ _ _ _ _ _ _ _ hr=>exact g4w h hr
 |confirm h=>exact g1Z h
 |cancel h=>exact g5K h
 |list0 h hm=>exact g8K h hm
 |list1 h hm=>exact g8I h hm
 |waiting h=>exact f8j h
 |peak h=>exact h1v h
 |find h=>exact h2S h
 |expand h _ _ _ _ _ _ _ _ _ hr=>exact g5w h hr
 |tick h=>exact h0l h
 |clock h=>exact g9y h
 |none=>intro h2;exact absurd h2 (by decide)
structure g3P(w:World)(b:Nat)(x:Desk.Ent × Nat × Nat):Prop where
 c0:w.cell? ⟨b,0,none⟩=some (.int .i64 x.1.id)
 c1:w.cell? ⟨b,1,none⟩=some (.int .i64 x.1.kind)
 c2:w.cell? ⟨b,2,none⟩=some (.string x.1.a0k)
 c3:w.cell? ⟨b,3,none⟩=some (.int .i64 x.1.a0c)
 c4:w.cell? ⟨b,4,none⟩=some (.slice (some ⟨x.2.1,0,none⟩) x.1.a0e.length x.2.2)
 c5:w.cell? ⟨b,5,none⟩=some (.int .i64 x.1.a0Z)
theorem g3P.off{x:Desk.Ent × Nat × Nat}(h:g3P w b x)(k:Off G w w')(hb:b ∉ G):g3P w' b x :=
 ⟨k.cell hb h.c0,k.cell hb h.c1,k.cell hb h.c2,k.cell hb h.c3,k.cell hb h.c4,k.cell hb h.c5⟩
theorem f5s(d:Nat)(ts:List (ByteArray × Int))(xs:List (Desk.Ent × Nat × Nat))(given now:Int)(F:List Nat)(x:Desk.Ent × Nat × Nat)(w:World)(h:RD w d ts xs given now F)(hx:RSL w x.2.1 x.1.a0e)(hxF:x.2.1 ∉ F)(hxl:x.2.1<w.heap.size)(hF:∀ k∈F,k<w.heap.size)(hl:xs.length<=1000)(hg0:0<=given)(hg1:given<=1000):
  Calls Tryz.prog 232 #[.pointer (some ⟨d,0,none⟩),.agg (c7a x).toArray] w fun e w'=>e=.returned (e3T 0 (given+1))/\g3V w d ts (xs++[({ x.1 with id:=given+1 },x.2)]) (given+1) now F w':=by
 obtain⟨i0,hi0,hz0,hz1,hz2⟩:=info_parts e2i;have hd:d<w.heap.size:=hF d h.dF;have H:=a0b h;have HX:=a0b (And.intro hx (And.intro hxF hxl));simp only[c7a];clear h hx hxF hxl
 go_enter Tryz.func232,Tryz.ntmps232
 go_upto_region 1 with fail
 have oX:Off [] w ((w.alloc (.cells #[.int .i64 x.1.id,.int .i64 x.1.kind,.string x.1.a0k,.int .i64 x.1.a0c,.slice (some ⟨x.2.1,0,none⟩) x.1.a0e.length x.2.2,.int .i64 x.1.a0Z] 58)).alloc (.cells #[.int .i64 0,.int .i64 0,.int .i64 0,.slice none 0 0,.slice none 0 0,.slice none 0 0,.slice none 0 0] 40)):=((Off.refl _ _).alloc _).alloc _;have bX:g3P ((w.alloc (.cells #[.int .i64 x.1.id,.int .i64 x.1.kind,.string x.1.a0k,.int .i64 x.1.a0c,.slice (some ⟨x.2.1,0,none⟩) x.1.a0e.length x.2.2,.int .i64 x.1.a0Z] 58)).alloc (.cells #[.int .i64 0,.int .i64 0,.int .i64 0,.slice none 0 0,.slice none 0 0,.slice none 0 0,.slice none 0 0] 40)) w.heap.size x:=⟨by simp,by simp,by simp,by simp,by simp,by simp⟩
 have rX:((w.alloc (.cells #[.int .i64 x.1.id,.int .i64 x.1.kind,.string x.1.a0k,.int .i64 x.1.a0c,.slice (some ⟨x.2.1,0,none⟩) x.1.a0e.length x.2.2,.int .i64 x.1.a0Z] 58)).alloc (.cells #[.int .i64 0,.int .i64 0,.int .i64 0,.slice none 0 0,.slice none 0 0,.slice none 0 0,.slice none 0 0] 40)).heap[w.heap.size+1]?=some (.cells #[.int .i64 0,.int .i64 0,.int .i64 0,.slice none 0 0,.slice none 0 0,.slice none 0 0,.slice none 0 0] 40):=by
  have:=a0p (w.alloc (.cells #[.int .i64 x.1.id,.int .i64 x.1.kind,.string x.1.a0k,.int .i64 x.1.a0c,.slice (some ⟨x.2.1,0,none⟩) x.1.a0e.length x.2.2,.int .i64 x.1.a0Z] 58)) (.cells #[.int .i64 0,.int .i64 0,.int .i64 0,.slice none 0 0,.slice none 0 0,.slice none 0 0,.slice none 0 0] 40)
  rwa [World.size_alloc] at this
 have fX:((w.alloc (.cells #[.int .i64 x.1.id,.int .i64 x.1.kind,.string x.1.a0k,.int .i64 x.1.a0c,.slice (some ⟨x.2.1,0,none⟩) x.1.a0e.length x.2.2,.int .i64 x.1.a0Z] 58)).alloc (.cells #[.int .i64 0,.int .i64 0,.int .i64 0,.slice none 0 0,.slice none 0 0,.slice none 0 0,.slice none 0 0] 40)).frozen? ⟨w.heap.size,0,none⟩=false:=by
  have a:=World.frozen?_alloc_new w #[.int .i64 x.1.id,.int .i64 x.1.kind,.string x.1.a0k,.int .i64 x.1.a0c,.slice (some ⟨x.2.1,0,none⟩) x.1.a0e.length x.2.2,.int .i64 x.1.a0Z] 58 0;exact (((Off.refl [] (w.alloc (.cells #[.int .i64 x.1.id,.int .i64 x.1.kind,.string x.1.a0k,.int .i64 x.1.a0c,.slice (some ⟨x.2.1,0,none⟩) x.1.a0e.length x.2.2,.int .i64 x.1.a0Z] 58))).alloc (.cells #[.int .i64 0,.int .i64 0,.int .i64 0,.slice none 0 0,.slice none 0 0,.slice none 0 0,.slice none 0 0] 40)).frozen (by simp) (by simp)).trans a
 have OX:=a0b (And.intro oX (And.intro bX (And.intro rX fX)));clear oX bX rX fX;generalize (World.alloc _ (.cells #[.int .i64 0,.int .i64 0,.int .i64 0,.slice none 0 0,.slice none 0 0,.slice none 0 0,.slice none 0 0] 40))=X at OX ⊢;obtain⟨N,hN⟩:∃ N,N=w.heap.size:=⟨_,rfl⟩;rw[<- hN] at OX ⊢;have hdN:d≠N:=by omega
 have HN:=a0b hN;clear hN hd;have rd:=H.out.off OX.out.1 (by simp) (by simp);have c2:=rd.c2;have f2:=rd.fz 2;have fN:=OX.out.2.2.2;have n0:=OX.out.2.1.c0;have RDX1:=a0b rd;clear rd
 go_upto_region 3 with fail
 have hNF:N ∉ F:=fun e=>by have:=hF N e;have:=HN.out;omega
 have oY:Off F X ((X.setCell ⟨d,2,none⟩ (.int .i64 (given+1))).setCell ⟨N,0,none⟩ (.int .i64 (given+1)))\/True:=.inr trivial;have kN:Off [N] (X.setCell ⟨d,2,none⟩ (.int .i64 (given+1))) ((X.setCell ⟨d,2,none⟩ (.int .i64 (given+1))).setCell ⟨N,0,none⟩ (.int .i64 (given+1))):=Off.set0 ..;have kd:Off [d] X (X.setCell ⟨d,2,none⟩ (.int .i64 (given+1))):=Off.set0 ..
 have rdY:RD ((X.setCell ⟨d,2,none⟩ (.int .i64 (given+1))).setCell ⟨N,0,none⟩ (.int .i64 (given+1))) d ts xs (given+1) now F :=
  (RDX1.out.set2 (given+1)).off kN (fun y hy=>by simp;rintro rfl;exact hNF hy) (fun y hy=>by
   have h1:=(H.out.sp y hy).2.2;have h2:=HN.out
   simp;omega)
 have wY:Off F w ((X.setCell ⟨d,2,none⟩ (.int .i64 (given+1))).setCell ⟨N,0,none⟩ (.int .i64 (given+1))) :=
  ((OX.out.1.mono (by simp)).setCell (.inl H.out.dF) _ _).setCell (.inr (by have:=HN.out;omega)) _ _
 have bxX:=OX.out.2.1.off kd (by simp;exact fun e=>hdN e.symm)
 have bxY:g3P ((X.setCell ⟨d,2,none⟩ (.int .i64 (given+1))).setCell ⟨N,0,none⟩ (.int .i64 (given+1))) N ({ x.1 with id:=given+1 },x.2) :=
  ⟨zm _ _ _ bxX.c0,(zS _ _ _ _ (by simp)).trans bxX.c1,(zS _ _ _ _ (by simp)).trans bxX.c2,(zS _ _ _ _ (by simp)).trans bxX.c3,(zS _ _ _ _ (by simp)).trans bxX.c4,(zS _ _ _ _ (by simp)).trans bxX.c5⟩
 have hN1:N+1<X.heap.size:=by
  by_cases hx:N+1<X.heap.size
  ·exact hx
  ·have:=OX.out.2.2.1;rw[Array.getElem?_eq_none (by omega)] at this;cases this
 have rY:((X.setCell ⟨d,2,none⟩ (.int .i64 (given+1))).setCell ⟨N,0,none⟩ (.int .i64 (given+1))).heap[N+1]?=some (.cells #[.int .i64 0,.int .i64 0,.int .i64 0,.slice none 0 0,.slice none 0 0,.slice none 0 0,.slice none 0 0] 40):=by
  rw[kN.block (N+1) (zL hN1 kd.size) (by simp),kd.block (N+1) hN1 (by simp;have:=hF d H.out.dF;have:=HN.out;omega)];exact OX.out.2.2.1
 have YY:=a0b (And.intro rdY (And.intro wY (And.intro bxY rY)));clear oY kN kd rdY wY bxX bxY rY hN1 c2 f2 fN n0 OX RDX1;generalize (World.setCell _ ⟨N,0,none⟩ (.int .i64 (given+1)))=Y at YY ⊢;obtain⟨v,cv,ho,hvF⟩:=YY.out.1.ev;have b0:=YY.out.2.2.1.c0;have b1:=YY.out.2.2.1.c1;have b2:=YY.out.2.2.1.c2;have b3:=YY.out.2.2.1.c3;have b4:=YY.out.2.2.1.c4;have b5:=YY.out.2.2.1.c5;have f1:=YY.out.1.fz 1;have hdY:d<Y.heap.size:=World.block_lt_of_cell? _ _ cv;have hNY:N<Y.heap.size:=World.block_lt_of_cell? _ _ b0;have HOW:=a0b (And.intro ho hvF)
 have hdv:d ∉ v.ownBlock.toList:=by
  intro e;have:v.ownBlock=some d:=by simpa using e
  exact (hvF d this).2 rfl
 have HDV:=a0b hdv;clear ho hvF hdv;simp only at b0 b1 b2 b3 b4 b5
 go_cut [24] from 17 to 26 (fun _ wx=>∃ g cap w5,Off (v.ownBlock.toList) Y w5/\w5.ownsRow 0 58 6 (.slice (some ⟨g,0,none⟩) (xs.length+1) cap) (xs.length+1) (xs.flatMap c7a++c7a ({ x.1 with id:=given+1 },x.2))/\(v.ownBlock=some g\/Y.heap.size<=g)/\wx=w5.setCell ⟨d,1,none⟩ (.slice (some ⟨g,0,none⟩) (xs.length+1) cap))
 case first =>
  go_region_law (first
   |(refine step_append_lies _ rfl _ _ 34 rfl 0 58 i0 _ 6 72 Tryz.underlying34 hi0 hz0 hz1 hz2 rfl (by decide) v xs.length (xs.flatMap c7a) rfl (a1g HOW.out.1 (((zr _ _).alloc (zq _) _).drew)) ⟨Y.heap.size,0,none⟩ 1 1 (c7a ({ x.1 with id:=given+1 },x.2)) rfl rfl (World.news_of_block (cs:=(c7a ({ x.1 with id:=given+1 },x.2)).toArray) (a0p Y _)) (by simp[c7a,Value.oneCell']) (by omega) (by unfold maxLen;omega) (by omega) (zN _) (Y.heap.size+1) (by simp) ?_;intro g cap w1 ho1 hgrow hat hlt;have kk:Off (v.ownBlock.toList) Y w1:=Off.grown (((Off.refl _ Y).alloc _).drew) hgrow (fun k hk=>.inl (by simp[hk]));have z1:=kk.cell HDV.out cv;have z2:=(kk.frozen (o:=1) HDV.out (World.block_lt_of_cell? _ _ cv)).trans f1))
  all_goals
   go_wp2_with fail
   go_meet
   exact⟨g,cap,w1,kk,ho1,hat.imp id (fun e=>by omega),rfl⟩
 case rest =>
  obtain⟨g,cap,w5,kk,ho5,hat,rfl⟩:=hcut;have hxY:RSL Y x.2.1 x.1.a0e:=HX.out.1.off YY.out.2.1 HX.out.2.1;have hxl:x.2.1<Y.heap.size:=zL HX.out.2.2 YY.out.2.1.size;obtain⟨rz,oz⟩:=RD.a5d (x:=({ x.1 with id:=given+1 },x.2)) YY.out.1 cv HOW.out.1 HOW.out.2 kk ho5 hat hxY HX.out.2.1 hxl
  have hNd:N ∉ d :: v.ownBlock.toList:=by
   intro e;rcases List.mem_cons.1 e with e|e
   ·exact hdN e.symm
   ·exact hNF (HOW.out.2 N (by simpa using e)).1
  have hN1:N+1 ∉ d :: v.ownBlock.toList:=by
   intro e;have h2:=HN.out;rcases List.mem_cons.1 e with e|e
   ·have:=hF d H.out.dF;omega
   ·have:=hF (N+1) (HOW.out.2 (N+1) (by simpa using e)).1;omega
  have n0:=oz.cell hNd b0
  have hlt1:N+1<Y.heap.size:=by
   by_cases hx:N+1<Y.heap.size
   ·exact hx
   ·have:=YY.out.2.2.2;rw[Array.getElem?_eq_none (by omega)] at this;cases this
  have hr1:=(oz.block (N+1) hlt1 hN1).trans YY.out.2.2.2;have ZZ:=a0b (And.intro rz (And.intro oz hr1));clear rz oz hr1 kk ho5 hxY hxl b0 b1 b2 b3 b4 b5 f1 cv hdY hNY HDV;have HG:Hid (g∈g :: F):=List.mem_cons_self ..;generalize (World.setCell w5 ⟨d,1,none⟩ (.slice (some ⟨g,0,none⟩) (xs.length+1) cap))=Z at ZZ n0 ⊢;have q0:Z.cell? ⟨N+1,0,none⟩=some (.int .i64 0):=by simp[World.cell?,ZZ.out.2.2]
  have q1:Z.cell? ⟨N+1,1,none⟩=some (.int .i64 0):=by simp[World.cell?,ZZ.out.2.2]
  have q2:Z.cell? ⟨N+1,2,none⟩=some (.int .i64 0):=by simp[World.cell?,ZZ.out.2.2]
  have q3:Z.cell? ⟨N+1,3,none⟩=some (.slice none 0 0):=by simp[World.cell?,ZZ.out.2.2]
  have q4:Z.cell? ⟨N+1,4,none⟩=some (.slice none 0 0):=by simp[World.cell?,ZZ.out.2.2]
  have q5:Z.cell? ⟨N+1,5,none⟩=some (.slice none 0 0):=by simp[World.cell?,ZZ.out.2.2]
  have q6:Z.cell? ⟨N+1,6,none⟩=some (.slice none 0 0):=by simp[World.cell?,ZZ.out.2.2]
  have fq:∀ o,Z.frozen? ⟨N+1,o,none⟩=false:=fun o=>by simp[World.frozen?,ZZ.out.2.2]
  have hfin:Off [N+1] Z (((((((Z.setCell ⟨N+1,0,none⟩ (.int .i64 0)).setCell ⟨N+1,1,none⟩ (.int .i64 0)).setCell ⟨N+1,2,none⟩ (.int .i64 (given+1))).setCell ⟨N+1,3,none⟩ (.slice none 0 0)).setCell ⟨N+1,4,none⟩ (.slice none 0 0)).setCell ⟨N+1,5,none⟩ (.slice none 0 0)).setCell ⟨N+1,6,none⟩ (.slice none 0 0)) :=
   (((((((Off.refl [N+1] Z).setCell (.inl (by simp)) _ _).setCell (.inl (by simp)) _ _).setCell (.inl (by simp)) _ _).setCell (.inl (by simp)) _ _).setCell (.inl (by simp)) _ _).setCell (.inl (by simp)) _ _).setCell (.inl (by simp)) _ _
  have hgF:∀ k∈g :: F,k∈F\/w.heap.size<=k:=by
   intro k hk;rcases List.mem_cons.1 hk with rfl|hk
   ·rcases hat with e|e
    ·exact .inl (HOW.out.2 k e).1
    ·have:=YY.out.2.1.size;exact .inr (by omega)
   ·exact .inl hk
  have hFIN:Hid (g3V w d ts (xs++[({ x.1 with id:=given+1 },x.2)]) (given+1) now F (((((((Z.setCell ⟨N+1,0,none⟩ (.int .i64 0)).setCell ⟨N+1,1,none⟩ (.int .i64 0)).setCell ⟨N+1,2,none⟩ (.int .i64 (given+1))).setCell ⟨N+1,3,none⟩ (.slice none 0 0)).setCell ⟨N+1,4,none⟩ (.slice none 0 0)).setCell ⟨N+1,5,none⟩ (.slice none 0 0)).setCell ⟨N+1,6,none⟩ (.slice none 0 0))):=by
   have hNw:=HN.out;refine⟨g :: F,ZZ.out.1.off hfin (fun y hy=>?_) (fun y hy=>?_),hgF,?_⟩
   ·simp;rintro rfl;rcases List.mem_cons.1 hy with e|e
    ·rcases hat with e2|e2
     ·have:=hF g (HOW.out.2 g e2).1;omega
     ·omega
    ·have:=hF _ e;omega
   ·simp;intro e;rcases List.mem_append.1 hy with hy|hy
    ·have:=(H.out.sp y hy).2.2;omega
    ·have:y=({ x.1 with id:=given+1 },x.2):=by simpa using hy
     subst this;have:=HX.out.2.2;have e':x.2.1=N+1:=e;omega
   ·refine (YY.out.2.1.trans' ZZ.out.2.1 (fun k hk=>?_)).trans' hfin (fun k hk=>by simp at hk;exact .inr (by omega));rcases List.mem_cons.1 hk with rfl|hk
    ·exact .inl H.out.dF
    ·exact .inl (HOW.out.2 k (by simpa using hk)).1
  clear hfin hgF HG ZZ HOW YY H HX
  go_wp2_with fail
  exact bodyPost_ret (v:=e3T 0 (given+1)) (by simp[results,Tryz.results232,go_sem,e3T,q0,q1,q2,q3,q4,q5,q6]) rfl ⟨rfl,hFIN.out⟩
open Desk (Ent St Mid a0h a1e a0S)
structure EB(e:Ent):Prop where
 u0:1<=e.a0c
 u1:e.a0c<=9
 sl:e.a0e.length<=40
 s0:e.a0e≠[]
 so:∀ s∈e.a0e,0<=s.2/\s.2<=2000000
theorem EB.small{e:Ent}(h:EB e):Desk.Small e:=⟨by have:=h.u0;omega,h.u1,by have:=h.sl;omega⟩
theorem EB.book{e:Ent}(h:EB e):EB (Desk.a0Q e):=⟨h.u0,h.u1,h.sl,h.s0,h.so⟩
structure DD(w:World)(d:Nat)(s:St)(xs:List (Ent × Nat × Nat))(F:List Nat):Prop where
 rd:RD w d s.ts xs s.given s.now F
 es:xs.map (·.1)=s.es
 lt:∀ k∈F,k<w.heap.size
 tl:s.ts.length<=4
 el:s.es.length<=60
 en:∀ e∈s.es,EB e
variable {w w':World}{d:Nat}{s:St}{xs:List (Ent × Nat × Nat)}{F:List Nat}
theorem DD.len(h:DD w d s xs F):xs.length=s.es.length:=by rw[<- h.es,List.length_map]
theorem DD.off(h:DD w d s xs F)(k:Off G w w')(hF:∀ x∈F,x ∉ G)(hS:∀ x∈xs,x.2.1 ∉ G):DD w' d s xs F :=
 ⟨h.rd.off k hF hS,h.es,fun x hx=>zL (h.lt x hx) k.size,h.tl,h.el,h.en⟩
theorem DD.later(h:DD w d s xs F)(k:Below w.heap.size w w'):DD w' d s xs F:=h.off (G:=[]) (Off.of_below k) (by simp) (by simp)
theorem DD.de(h:DD w d s xs F):∃ a cap E,RDE w d a cap E s.es:=by
 obtain⟨a,cap,E,k⟩:=h.rd.dx;exact⟨a,cap,E,h.es ▸ k.de⟩
theorem DD.small(h:DD w d s xs F):∀ e∈s.es,Desk.Small e:=fun e he=>(h.en e he).small
theorem DD.a0c(h:DD w d s xs F)(name:ByteArray):
  Calls Tryz.prog 229 #[.pointer (some ⟨d,0,none⟩),.string name] w fun e w'=>e=.returned (.int .i64 (a0h name s.ts))/\w'=w:=by
 obtain⟨a,c,G,ht⟩:=h.rd.dt;exact d7R d a c G s.ts name w ht (by have:=h.tl;omega)
theorem DD.asked(h:DD w d s xs F)(name:ByteArray)(u:Int):
  Calls Tryz.prog 230 #[.pointer (some ⟨d,0,none⟩),.string name,.int .i64 u] w fun e w'=>e=.returned (.int .i64 (a0S s.ts name u))/\w'=w:=by
 obtain⟨a,c,G,ht⟩:=h.rd.dt;exact f1o d a c G s.ts name u w ht (by have:=h.tl;omega)
theorem DD.fits(h:DD w d s xs F)(name:ByteArray){u:Int}{cb:Nat}{L:List (Int × Int)}(hL:RSL w B L)(hl:L.length<=100)(h0:0<=u)(h1:u<=9):
  Calls Tryz.prog 182 #[.pointer (some ⟨d,0,none⟩),.string name,.int .i64 u,.slice (some ⟨B,0,none⟩) L.length cb] w fun e w'=>e=.returned (.bool (a1e s.ts s.es name u L))/\Below w.heap.size w w':=by
 obtain⟨a,c,G,ht⟩:=h.rd.dt;obtain⟨b,q,E,he⟩:=h.de;exact f0u d b q E s.es a c G s.ts name u B cb L w he ht hL (by have:=h.el;omega) (by have:=h.tl;omega) h.small hl h0 h1
theorem DD.peak(h:DD w d s xs F)(name:ByteArray)(fr til:Int):
  Calls Tryz.prog 236 #[.pointer (some ⟨d,0,none⟩),.string name,.int .i64 fr,.int .i64 til] w fun e w'=>e=.returned (.int .i64 (Desk.a1Q name s.es fr til))/\Below w.heap.size w w':=by
 obtain⟨b,q,E,he⟩:=h.de;exact f9U d b q E s.es name fr til w he (by have:=h.el;omega) h.small
theorem DD.find(h:DD w d s xs F)(name:ByteArray)(u long fr til:Int)(hu0:0<=u)(hu1:u<=9)(hl0:0<=long)(hl1:long<=2000000)(hf0:0<=fr)(hf1:fr<=2000000):
  Calls Tryz.prog 237 #[.pointer (some ⟨d,0,none⟩),.string name,.int .i64 u,.int .i64 long,.int .i64 fr,.int .i64 til] w fun e w'=>e=.returned (.int .i64 (Desk.a9A s.ts s.es name u long fr til))/\Below w.heap.size w w':=by
 obtain⟨a,c,G,ht⟩:=h.rd.dt;obtain⟨b,q,E,he⟩:=h.de;exact f9W d b q E s.es a c G s.ts name u long fr til w he ht (by have:=h.el;omega) (by have:=h.tl;omega) h.small (fun e h1=>(h.en e h1).so) hu0 hu1 hl0 hl1 hf0 hf1
theorem DD.place(h:DD w d s xs F)(id:Int):
  Calls Tryz.prog 233 #[.pointer (some ⟨d,0,none⟩),.int .i64 id] w fun e w'=>e=.returned (.int .i64 (Desk.d0u id s.es 0))/\w'=w:=by
 obtain⟨b,q,E,he⟩:=h.de;exact f4h d b q E s.es id w he (by have:=h.el;omega)
theorem DD.waiting(h:DD w d s xs F):
  Calls Tryz.prog 231 #[.pointer (some ⟨d,0,none⟩)] w fun e w'=>e=.returned (.int .i64 (Desk.a1Y s.es))/\w'=w:=by
 obtain⟨b,q,E,he⟩:=h.de;exact e5Y d b q E s.es w he (by have:=h.el;omega)
theorem DD.without(h:DD w d s xs F)(id:Int):
  Calls Tryz.prog 234 #[.pointer (some ⟨d,0,none⟩),.int .i64 id] w fun e w'=>∃ v,e=.returned v/\w'.ownsRow w.heap.size 58 6 v (d2z id xs).length ((d2z id xs).flatMap c7a)/\Below w.heap.size w w':=by
 obtain⟨a,c,E,k⟩:=h.rd.dx;exact e5V d a c E xs id w k (by have:=h.el;have:=h.len;omega)
structure ER(w:World)(d E cap:Nat)(a:Option Addr)(xs:List (Ent × Nat × Nat)):Prop where
 c:w.cell? ⟨d,1,none⟩=some (.slice a xs.length cap)
 a:∀ i,i<xs.length->a=some ⟨E,0,none⟩
 r:∀ (i:Nat) (h:i<xs.length),RE w E i xs[i].1 xs[i].2.1 xs[i].2.2
 f:∀ o,0<xs.length->w.frozen? ⟨E,o,none⟩=false
theorem DD.er(h:DD w d s xs F):∃ a cap E,ER w d E cap a xs:=by
 obtain⟨v,c,ho,_⟩:=h.rd.ev;obtain⟨a,cap,g,rfl,hn,ha,hr⟩:=e1F ho (fun x hx=>(h.rd.sp x hx).1);refine⟨a,cap,g,c,fun i hi=>ha (by intro e;simp[e] at hi),hr,fun o hl=>?_⟩;obtain rfl:=ha (by intro e;simp[e] at hl);rcases ho.2 with ⟨hv,_⟩|⟨g',cp,cur,hv,_,hh,_⟩
 ·cases hv
 ·simp only[Value.slice.injEq,Option.some.injEq,Addr.mk.injEq] at hv;obtain⟨⟨rfl,_⟩,_⟩:=hv;simp[World.frozen?,hh]
theorem ER.later{a:Option Addr}(h:ER w d E cap a xs)(k:Below w.heap.size w w'):ER w' d E cap a xs :=
 ⟨a0a k h.c,h.a,fun i hi=>(h.r i hi).later k,fun o hl=>((Off.of_below (F:=[]) k).frozen (by simp) (World.block_lt_of_cell? _ _ (h.r 0 hl).c0)).trans (h.f o hl)⟩
theorem c9y{size:Nat}{l:List Value}(h:w.ownsRow B e size v n l):∃ a cap,v=.slice a n cap:=by
 rcases h.2 with ⟨rfl,rfl⟩|⟨g,cap,_,rfl,_⟩
 ·exact⟨none,0,rfl⟩
 ·exact⟨_,cap,rfl⟩
theorem g3H{ops:Array Oper}{rest:List Oper}{o:Oper}{a:Act}{Q:Exit->Act->World->Prop}(hgd:o.guard=none)(x y:Operand)(ho:o.op=.call { callee:=.builtin .append,args:=#[x,y],argTypes:=#[38,38] }){l:List Int}(hown:W.ownsRow B 3 1 v l.length (l.map (Value.int .i64)))(z:Int){ty:TypeId}{mk:Nat × Nat}(hs:a.eval x=v)(hx:a.eval y=.slice (some ⟨W.heap.size,0,none⟩) 1 1)(hl:l.length<=1000000)(hB:B<=W.heap.size)
  (h:∀ v' w',w'.ownsRow B 3 1 v' (l++[z]).length ((l++[z]).map (Value.int .i64))->Off v.ownBlock.toList W w'->wpList Tryz.prog ops Q rest (a.put o.dst v') w'):
  wpList Tryz.prog ops Q (o :: rest) a (W.alloc (.cells #[.int .i64 z] ty mk)):=by
 obtain⟨i0,hi0,hz0,hz1,hz2⟩:=info_parts b1S;refine wpList_append_own _ hgd x y 38 ho B 3 i0 (.int .i64 0) 1 8 Tryz.underlying38 hi0 hz0 hz1 hz2 rfl (by decide) v l.length (l.map (Value.int .i64)) hs (hown.alloc _) ⟨W.heap.size,0,none⟩ 1 1 [.int .i64 z] hx rfl (World.news_of_block (cs:=#[.int .i64 z]) (a0p W _)) (by simp[Value.oneCell']) (by unfold maxLen;omega) (by omega) (by simp;omega) ?_;intro v' w' h1 h2 _;refine h v' w' (by simpa using h1) (((Off.refl _ W).alloc _).grown h2 (fun k hk=>.inl (by simp[hk])))
theorem d1X{cs:Array Value}{t:TypeId}{q:Nat × Nat}(h:W.heap[b]?=some (.cells cs t q))(v:Value):(W.setCell ⟨b,i,none⟩ v).heap[b]?=some (.cells (cs.setIfInBounds i v) t q):=by
 obtain⟨hlt,hk⟩:=Array.getElem?_eq_some_iff.1 h;show (W.heap.modify b _)[b]?=_;rw[Array.getElem?_eq_getElem (by rw[Array.size_modify];exact hlt),Array.getElem_modify_self,hk];rfl
theorem d1L{z:Nat}{xs:List Value}(h:W.ownsRow B e z v n xs)(hb:v.ownBlock=some b)(o:Nat)(x:Value):(W.setCell ⟨b,o,none⟩ x).ownsRow B e z v n (xs.set o x):=by
 obtain⟨hlen,h2⟩:=h;rcases h2 with ⟨rfl,rfl⟩|⟨g,cap,cur,rfl,hB,hg,hnc,hcm,hcs,htk⟩
 ·cases hb
 ·have e1:g=b:=by simpa[Value.ownBlock] using hb
  subst e1;refine⟨by rw[List.length_set];exact hlen,.inr ⟨g,cap,cur.setIfInBounds o x,rfl,hB,d1X hg x,hnc,hcm,by rw[Array.size_setIfInBounds];exact hcs,?_⟩⟩;rw[Array.toList_setIfInBounds,List.take_set,htk]
theorem e9D:∀ (xs:List (Desk.Ent × Nat × Nat))(k:Nat)(hk:k<xs.length),((xs.flatMap c7a).set (k*6+1) (.int .i64 1)).set (k*6+5) (.int .i64 0)=(xs.set k (Desk.a0Q xs[k].1,xs[k].2)).flatMap c7a
 |[],k,hk=>absurd hk (by simp)
 |x :: r,0,_=>by simp[c7a,Desk.a0Q]
 |x :: r,k+1,hk=>by
  have ih:=e9D r k (by simpa using hk);have e1:(k+1)*6+1=(c7a x).length+(k*6+1):=by rw[d5V];omega
  have e2:(k+1)*6+5=(c7a x).length+(k*6+5):=by rw[d5V];omega
  rw[List.flatMap_cons,e1,e2,List.set_append,if_neg (by omega),Nat.add_sub_cancel_left,List.set_append,if_neg (by omega),Nat.add_sub_cancel_left,ih];rfl
theorem RD.a0C{xs:List (Desk.Ent × Nat × Nat)}{now:Int}(h:RD w d ts xs given now F)(hc:w.cell? ⟨d,1,none⟩=some (.slice (some ⟨E,0,none⟩) xs.length cap))(k:Nat)(hk:k<xs.length):
  RD ((w.setCell ⟨E,k*6+1,none⟩ (.int .i64 1)).setCell ⟨E,k*6+5,none⟩ (.int .i64 0)) d ts (xs.set k (Desk.a0Q xs[k].1,xs[k].2)) given now F/\E∈F/\E≠d:=by
 obtain⟨v1,a1,a2,a3⟩:=h.tv;obtain⟨v2,b1,b2,b3⟩:=h.ev;obtain rfl:v2=.slice (some ⟨E,0,none⟩) xs.length cap:=Option.some.inj (b1.symm.trans hc);obtain⟨hE,hEd⟩:=b3 E rfl;have k1:Off [E] w (w.setCell ⟨E,k*6+1,none⟩ (.int .i64 1)):=Off.set0 ..;have k2:Off [E] (w.setCell ⟨E,k*6+1,none⟩ (.int .i64 1)) ((w.setCell ⟨E,k*6+1,none⟩ (.int .i64 1)).setCell ⟨E,k*6+5,none⟩ (.int .i64 0)):=Off.set0 ..;have kk:=k1.trans k2;have hd:d ∉ [E]:=by simp;exact fun e=>hEd e.symm
 have p1:=d1L b2 (b:=E) rfl (k*6+1) (.int .i64 1);have p2:=d1L p1 (b:=E) rfl (k*6+5) (.int .i64 0);rw[e9D xs k hk] at p2
 have hne:v1.ownBlock≠some E:=by
  intro e;rcases b2.2 with ⟨hv,_⟩|⟨g,cp,cur,hv,_,hh,_⟩
  ·cases hv
  ·simp only[Value.slice.injEq,Option.some.injEq,Addr.mk.injEq] at hv;obtain⟨⟨rfl,_⟩,_⟩:=hv;exact c8L a2 hh (by decide) e
 refine⟨⟨⟨v1,kk.cell hd a1,a1i a2 kk (fun b hb=>by simp;intro e;subst e;exact hne hb),a3⟩,⟨_,kk.cell hd hc,by rw[List.length_set];exact p2,fun b hb=>b3 b hb⟩,kk.cell hd h.c2,kk.cell hd h.c3,fun o=>(kk.frozen hd (World.block_lt_of_cell? _ _ h.c2)).trans (h.fz o),h.dF,fun x hx=>?_⟩,hE,hEd⟩;obtain⟨j,hj,rfl⟩:=List.getElem_of_mem hx;rw[List.length_set] at hj;have key:∀ y∈xs,RSL ((w.setCell ⟨E,k*6+1,none⟩ (.int .i64 1)).setCell ⟨E,k*6+5,none⟩ (.int .i64 0)) y.2.1 y.1.a0e/\y.2.1 ∉ F/\y.2.1<((w.setCell ⟨E,k*6+1,none⟩ (.int .i64 1)).setCell ⟨E,k*6+5,none⟩ (.int .i64 0)).heap.size:=fun y hy=>⟨(h.sp y hy).1.off kk (by simp;intro e;exact (h.sp y hy).2.1 (e ▸ hE)),(h.sp y hy).2.1,Nat.lt_of_lt_of_le (h.sp y hy).2.2 kk.size⟩
 rw[List.getElem_set]
 split
 ·exact key xs[k] (zg hk)
 ·exact key xs[j] (zg hj)
theorem DD.a0C{s:Desk.St}{xs:List (Desk.Ent × Nat × Nat)}(h:DD w d s xs F){a:Option Addr}(hr:ER w d E cap a xs){k:Nat}(hk:k<xs.length){es':List Desk.Ent}(he:s.es.set k (Desk.a0Q xs[k].1)=es'):
  DD ((w.setCell ⟨E,k*6+1,none⟩ (.int .i64 1)).setCell ⟨E,k*6+5,none⟩ (.int .i64 0)) d { s with es:=es' } (xs.set k (Desk.a0Q xs[k].1,xs[k].2)) F/\E∈F/\E≠d:=by
 obtain rfl:=hr.a k hk;obtain⟨h1,h2⟩:=h.rd.a0C hr.c k hk;refine⟨⟨h1,?_,fun x hx=>zL (h.lt x hx) (Nat.le_trans (Off.set0 E w _ _).size (Off.set0 E _ _ _).size),h.tl,?_,?_⟩,h2⟩
 ·show _=es';rw[List.map_set,h.es,he]
 ·show es'.length<=60;rw[<- he,List.length_set];exact h.el
 ·intro e hx;rw[<- he] at hx;rcases List.mem_or_eq_of_mem_set hx with hx|rfl
  ·exact h.en e hx
  ·exact (h.en _ (h.es ▸ List.mem_map.2 ⟨_,List.getElem_mem hk,rfl⟩)).book
def f5U(x:Desk.Ent × Nat × Nat):Obj:=.cells #[.int .i64 x.1.id,.int .i64 x.1.kind,.string x.1.a0k,.int .i64 x.1.a0c,.slice (some ⟨x.2.1,0,none⟩) x.1.a0e.length x.2.2,.int .i64 x.1.a0Z] 58
def g0c(ys xs:List (Desk.Ent × Nat × Nat)):Prop:=∀ x∈ys,∃ z∈xs,x.2.1=z.2.1
theorem a6g(ts:List (ByteArray × Int)):∀ (r d:List Desk.Ent),(Desk.a0O ts d r).1.length=d.length+r.length/\(Desk.a0O ts d r).2.length<=r.length
 |[],d=>by simp[Desk.a0O]
 |e :: r,d=>by
  have a:=a6g ts r (d++[Desk.a0Q e]);have b:=a6g ts r (d++[e]);rw[Desk.a0O];simp only[List.length_append,List.length_cons,List.length_nil] at a b ⊢
  split
  ·simp only[List.length_cons];omega
  ·omega
theorem f2a{s:Desk.St}{xs:List (Desk.Ent × Nat × Nat)}(h:DD w d s xs F):
  Calls Tryz.prog 118 #[.pointer (some ⟨d,0,none⟩)] w fun e w'=>∃ v,e=.returned v/\w'.ownsRow w.heap.size 3 1 v (Desk.a0R s.ts s.es).2.length ((Desk.a0R s.ts s.es).2.map (Value.int .i64))/\(∃ xs',DD w' d { s with es:=(Desk.a0R s.ts s.es).1 } xs' F/\g0c xs' xs)/\Off F w w':=by
 obtain⟨i0,hi0,hz0,hz1,hz2⟩:=info_parts b1S;have H:=a0b h;have hel:=h.el;clear h
 go_enter Tryz.func118,Tryz.ntmps118
 go_wp2_with fail
 go_loopw [3,4,5,6] (fun v i _ _ wx=>∃ k:Nat,k<=s.es.length/\i=.int .i64 k/\∃ (done:List Desk.Ent) (got:List Int) (ys:List (Desk.Ent × Nat × Nat)),done.length=k/\(∀ y∈ys,∃ z∈xs,y.2.1=z.2.1)/\DD wx d { s with es:=done++s.es.drop k } ys F/\wx.ownsRow w.heap.size 3 1 v got.length (got.map (Value.int .i64))/\got.length<=k/\Desk.a0R s.ts s.es=((Desk.a0O s.ts done (s.es.drop k)).1,got++(Desk.a0O s.ts done (s.es.drop k)).2)/\Off F w wx) (fun _ i _ _ _=>s.es.length-(intOf i).toNat)
 case atStart=>exact⟨0,Nat.zero_le _,rfl,[],[],xs,rfl,fun y hy=>⟨y,hy,rfl⟩,H.out,World.ownsRow_nil _ _ _ _,Nat.zero_le _,by simp[Desk.a0R],Off.refl _ _⟩
 case round =>
  obtain⟨k,hk,rfl,done,got,ys,hdl,hsp,hd,hown,hgl,hgs,hof⟩:=hrel;obtain⟨a,cap,E,hr⟩:=hd.er;have cc:=hr.c;have hyl:ys.length=s.es.length:=by have:=hd.len;simp only[List.length_append,List.length_drop] at this;omega
  rw[hyl] at cc;have HD:=a0b (And.intro hd (And.intro hr (And.intro hown (And.intro hgs hof))));have hsz:=hof.size
  by_cases hlt:k<s.es.length
  ·have hky:k<ys.length:=by omega
   obtain rfl:=hr.a k hky;have r0:=hr.r k hky;have c0:=r0.c0;have c1:=r0.c1;have c2:=r0.c2;have c3:=r0.c3;have c4:=r0.c4;have c5:=r0.c5;have hi:(k:Int)<(s.es.length:Int):=by omega
   have hdr:=List.drop_eq_getElem_cons hlt
   have hye:ys[k].1=s.es[k]:=by
    have e1:(ys.map (·.1))[k]'(by simpa using hky)=ys[k].1:=List.getElem_map ..
    have e2:(ys.map (·.1))[k]?=some s.es[k]:=by rw[hd.es];show (done++s.es.drop k)[k]?=_;rw[List.getElem?_append_right (by omega),hdl,Nat.sub_self,hdr];rfl
    rw[List.getElem?_eq_getElem (by simpa using hky),Option.some.injEq] at e2;exact e1.symm.trans e2
   have heb:=hd.en s.es[k] (by show _∈done++s.es.drop k;rw[hdr];exact List.mem_append_right _ (List.mem_cons_self ..));have HY:=a0b (And.intro hye (And.intro hdr heb));have fE:=fun o=>hr.f o (by omega)
   clear hd hr hown hgs hof r0 hye hdr heb
   have hnext:∀ (e:Desk.Ent) (g2:List Int),Desk.a0O s.ts done (s.es[k] :: s.es.drop (k+1))=((Desk.a0O s.ts (done++[e]) (s.es.drop (k+1))).1,g2++(Desk.a0O s.ts (done++[e]) (s.es.drop (k+1))).2)->Desk.a0R s.ts s.es=((Desk.a0O s.ts (done++[e]) (s.es.drop (k+1))).1,(got++g2)++(Desk.a0O s.ts (done++[e]) (s.es.drop (k+1))).2):=by
    intro e g2 h1;have h2:=HD.out.2.2.2.1;rw[HY.out.2.1,h1] at h2;rw[h2];simp
   have NX:=a0b hnext;clear hnext
   have hstay:Desk.a0O s.ts done (s.es[k] :: s.es.drop (k+1))=Desk.a0O s.ts (done++[s.es[k]]) (s.es.drop (k+1))->∀ wx,Below wr.heap.size wr wx->∃ k_1:Nat,k_1<=s.es.length/\(Value.int .i64 ((k:Int)+1))=.int .i64 k_1/\∃ (done:List Desk.Ent) (got:List Int) (ys:List (Desk.Ent × Nat × Nat)),done.length=k_1/\(∀ y∈ys,∃ z∈xs,y.2.1=z.2.1)/\DD wx d { s with es:=done++s.es.drop k_1 } ys F/\wx.ownsRow w.heap.size 3 1 u3 got.length (got.map (Value.int .i64))/\got.length<=k_1/\Desk.a0R s.ts s.es=((Desk.a0O s.ts done (s.es.drop k_1)).1,got++(Desk.a0O s.ts done (s.es.drop k_1)).2)/\Off F w wx:=by
    intro h1 wx hb;refine⟨k+1,by omega,rfl,done++[s.es[k]],got,ys,by simp[hdl],hsp,?_,a1g HD.out.2.2.1 hb,by omega,by have:=NX.out s.es[k] [] (by rw[h1];simp);simpa using this,HD.out.2.2.2.2.trans (Off.of_below hb)⟩;have:=HD.out.1.later hb;rw[HY.out.2.1] at this
    simpa using this
   have ST:=a0b hstay;clear hstay
   by_cases hk3:s.es[k].kind=3
   ·have hq:(ys[k].1.kind != 3)=false:=by rw[HY.out.1];simp[hk3]
    have hX:Below wr.heap.size wr (wr.alloc (f5U ys[k])):=(zr _ _).alloc (zq _) _;have hE:(wr.alloc (f5U ys[k])).heap[wr.heap.size]?=some (f5U ys[k]):=a0p _ _;have RS:=a0b (HD.out.2.1.r k hky).sl;have K3:=a0b hk3;clear hk3
    go_upto_region 7 with fail
    change Code.wp _ _ _ _ (wr.alloc (f5U ys[k]));have HX:=a0b (And.intro hX hE);have f0:=e0T hE;have f2:=e0S hE;have f3:=e0R hE;have f4:=e0P hE;have cX:=a0a hX cc;have x1:=a0a hX c1;have x5:=a0a hX c5;clear hX hE c0 c2 c3 c4 c5 cc;generalize wr.alloc (f5U ys[k])=X at *;have DX:=a0b (HD.out.1.later HX.out.1);have FT:=a0b (DX.out.fits (u:=ys[k].1.a0c) (cb:=ys[k].2.2) ys[k].1.a0k (RS.out.later HX.out.1) (by rw[HY.out.1];have:=HY.out.2.2.sl;omega) (by rw[HY.out.1];have:=HY.out.2.2.u0;omega) (by rw[HY.out.1];exact HY.out.2.2.u1))
    go_wp2_with fail
    refine FT.out.mono ?_;rintro e w4 ⟨rfl,hb4⟩;have HB:=a0b hb4;have B4:=a0b (a0j HX.out.1 hb4 (zq _));have e4:Hid (s.ts=s.ts/\done++s.es.drop k=done++s.es[k] :: s.es.drop (k+1)):=⟨rfl,by rw[HY.out.2.1]⟩
    cases hf:Desk.a1e s.ts (done++s.es.drop k) ys[k].1.a0k ys[k].1.a0c ys[k].1.a0e
    ·have hg:Hid (Desk.a0O s.ts done (s.es[k] :: s.es.drop (k+1))=Desk.a0O s.ts (done++[s.es[k]]) (s.es.drop (k+1))):=by
      show _=_;rw[Desk.a0O,if_neg];rintro ⟨_,h2⟩;rw[HY.out.1,e4.out.2,h2] at hf
      cases hf
     clear hf hb4
     go_wp2_with fail
     go_roundw
     case rel=>exact ST.out hg.out _ B4.out
     case measure=>simp[intOf];omega
    ·have hg:Hid (Desk.a0O s.ts done (s.es[k] :: s.es.drop (k+1))=((Desk.a0O s.ts (done++[Desk.a0Q s.es[k]]) (s.es.drop (k+1))).1,[s.es[k].id]++(Desk.a0O s.ts (done++[Desk.a0Q s.es[k]]) (s.es.drop (k+1))).2)):=by
      show _=_;rw[Desk.a0O,if_pos ⟨K3.out,by rw[HY.out.1,e4.out.2] at hf;exact hf⟩];rfl
     have f0:=a0a hb4 f0;have cX:=a0a hb4 cX;have x1:=a0a hb4 x1;have x5:=a0a hb4 x5;have hN:wr.heap.size<w4.heap.size:=World.block_lt_of_cell? _ _ f0;have R4:=a0b (HD.out.2.1.later B4.out);have gE:=fun o=>R4.out.f o (by omega)
     have hEw:E<wr.heap.size:=World.block_lt_of_cell? _ _ c1;have hEN:E≠wr.heap.size:=by omega
     clear hf hb4 fE
     have bk:=(HD.out.1.later B4.out).a0C R4.out hky (es':=(done++[Desk.a0Q s.es[k]])++s.es.drop (k+1)) (by
      show (done++s.es.drop k).set k _=_
      rw[e4.out.2,HY.out.1,List.set_append,if_neg (by omega),hdl,Nat.sub_self,List.append_assoc];rfl)
     have BK:=a0b bk;clear bk;have hEd:=BK.out.2.2;have kE:Off F w4 ((w4.setCell ⟨E,k*6+1,none⟩ (.int .i64 1)).setCell ⟨E,k*6+5,none⟩ (.int .i64 0)):=((Off.refl F w4).setCell (.inl BK.out.2.1) _ _).setCell (.inl BK.out.2.1) _ _;have g0:=(zS _ ⟨E,k*6+5,none⟩ ⟨wr.heap.size,0,none⟩ (.int .i64 0) (by simp)).trans ((zS w4 ⟨E,k*6+1,none⟩ ⟨wr.heap.size,0,none⟩ (.int .i64 1) (by simp)).trans f0);have oz:=a1i (a1g HD.out.2.2.1 B4.out) kE (fun b hb hF=>by have:=H.out.lt b hF;have:=d0G HD.out.2.2.1 hb;omega);have fz:=(HD.out.2.2.2.2.trans (Off.of_below B4.out)).trans kE;have HZ:=a0b (And.intro BK.out.1 (And.intro oz fz));have hZ:=fz.size;clear kE oz fz BK
     go_upto_region 11 with fail
     generalize (World.setCell (World.setCell w4 _ _) _ _)=Z at *
     go_wp2_with (first|(at_builtin;refine g3H rfl _ _ rfl HZ.out.2.1 ys[k].1.id rfl rfl (by omega) hZ ?_;intro v' w' ho1 hk1))
     go_roundw
     case rel =>
      have h1:∀ b,u3.ownBlock=some b->w.heap.size<=b:=fun b hb=>d0G HD.out.2.2.1 hb
      refine⟨k+1,by omega,by go_num,done++[Desk.a0Q s.es[k]],got++[ys[k].1.id],_,by simp[hdl],fun y hy=>?_,HZ.out.1.off hk1 (fun x hx e=>?_) (fun y hy e=>?_),ho1,by simp;omega,by rw[HY.out.1];exact NX.out _ _ hg.out,HZ.out.2.2.trans' hk1 (fun x hx=>.inr (h1 x (by simpa using hx)))⟩
      ·rcases List.mem_or_eq_of_mem_set hy with hy|rfl
       ·exact hsp y hy
       ·exact hsp ys[k] (zg hky)
      ·have:=h1 x (by simpa using e);have:=H.out.lt x hx;omega
      ·have:=h1 y.2.1 (by simpa using e)
       have:∃ z∈xs,y.2.1=z.2.1:=by
        rcases List.mem_or_eq_of_mem_set hy with hy|rfl
        ·exact hsp y hy
        ·exact hsp ys[k] (zg hky)
       obtain⟨z,hz,e⟩:=this;have:=(H.out.rd.sp z hz).2.2;omega
     case measure=>simp[intOf];omega
   ·have hq:(ys[k].1.kind != 3)=true:=by rw[HY.out.1];simp[hk3]
    have hg:Hid (Desk.a0O s.ts done (s.es[k] :: s.es.drop (k+1))=Desk.a0O s.ts (done++[s.es[k]]) (s.es.drop (k+1))):=by
     show _=_;rw[Desk.a0O,if_neg (fun h=>hk3 h.1)]
    clear hk3
    go_wp2_with fail
    go_roundw
    case rel=>exact ST.out hg.out _ ((zr _ _).alloc (zq _) _)
    case measure=>simp[intOf];omega
  ·have hi:¬ (k:Int)<(s.es.length:Int):=by omega
   have e:s.es.drop k=[]:=List.drop_eq_nil_of_le (by omega)
   have HG:Hid (Desk.a0R s.ts s.es=(done,got)):=by
    have:=HD.out.2.2.2.1;rw[e] at this;exact this.trans (by simp[Desk.a0O])
   have HF:Hid (DD wr d { s with es:=done } ys F):=by
    have:=HD.out.1;rw[e,List.append_nil] at this;exact this
   clear hd hr hown hgs hof
   go_wp2_with fail
   go_ret;rw[HG.out];exact⟨u3,rfl,HD.out.2.2.1,⟨ys,HF.out,hsp⟩,HD.out.2.2.2.2⟩
open Desk (Ent St Rep a0g)
structure e2L(w:World)(v1 v2 v4:Value)(p:Rep):Prop where
 en:∃ l,EV w v1 l/\l.map (·.1)=p.entries
 da:NV w v2 p.days
 ed:NV w v4 p.ended
def d1S(w:World)(d:Nat)(F:List Nat)(xs:List (Ent × Nat × Nat))(q:St × Rep)(e:Ending)(w':World):Prop :=
 ∃ (v1 v2 v3 v4:Value) (xs':List (Ent × Nat × Nat)) (F' G:List Nat),e=.returned (a0s q.2.err 0 q.2.n v1 v2 v3 v4)/\(∀ w2,(∀ b∈G,w2.heap[b]?=w'.heap[b]?)->e2L w2 v1 v2 v4 q.2) /\
  w'.ownsRow w.heap.size 3 1 v3 q.2.granted.length (q.2.granted.map (Value.int .i64))/\DD w' d q.1 xs' F'/\(∀ k∈F',k∈F\/w.heap.size<=k)/\Off F w w' /\
  (∀ b∈G,w.heap.size<=b/\b<w'.heap.size/\b ∉ F'/\v3.ownBlock≠some b)/\(∀ b,v3.ownBlock=some b->b ∉ F'/\∀ x∈xs',x.2.1≠b)/\∀ x∈xs',(∃ y∈xs,x.2.1=y.2.1)\/w.heap.size<=x.2.1
abbrev c7N:Value:=.slice none 0 0
theorem NV.nil(w:World):NV w c7N []:=⟨⟨_,_,rfl⟩,fun k hk=>by simp at hk⟩
theorem EV.nil(w:World):EV w c7N []:=⟨⟨_,_,rfl⟩,fun k hk=>by simp at hk,by simp⟩
theorem e2L.nil(w:World){e a n:Int}{g:List Int}:e2L w c7N c7N c7N ⟨e,a,n,[],[],g,[]⟩:=⟨⟨[],EV.nil w,rfl⟩,NV.nil w,NV.nil w⟩
variable {w Z:World}{d:Nat}{s s':St}{xs:List (Ent × Nat × Nat)}{F F':List Nat}
theorem DD.plain(h:DD Z d s' xs' F')(hF:∀ k∈F',k∈F\/w.heap.size<=k)(k:Off F w Z)(hs:∀ x∈xs',(∃ y∈xs,x.2.1=y.2.1)\/w.heap.size<=x.2.1)(er n:Int):d1S w d F xs (s',⟨er,0,n,[],[],[],[]⟩) (.returned (a0s er 0 n c7N c7N c7N c7N)) Z :=
 ⟨c7N,c7N,c7N,c7N,xs',F',[],rfl,fun w2 _=>e2L.nil w2,World.ownsRow_nil _ _ _ _,h,hF,k,by simp,fun b hb=>by simp[Value.ownBlock] at hb,hs⟩
theorem DD.put7(h:DD Z d s' xs' F')(hF:∀ k∈F',k∈F\/w.heap.size<=k)(k:Off F w Z){Q:Nat}(hQ:w.heap.size<=Q)(hQF:Q ∉ F')(hQs:∀ x∈xs',x.2.1≠Q)(hs:∀ x∈xs',(∃ y∈xs,x.2.1=y.2.1)\/w.heap.size<=x.2.1)(er n:Int)(a b c e f g i:Value):d1S w d F xs (s',⟨er,0,n,[],[],[],[]⟩) (.returned (a0s er 0 n c7N c7N c7N c7N)) (a2w Z Q a b c e f g i) :=
 (h.off (a2R Z Q a b c e f g i) (fun x hx e=>hQF (by simp at e;exact e ▸ hx)) (fun x hx e=>hQs x hx (by simpa using e))).plain hF (k.trans' (a2R ..) (fun x hx=>by simp at hx;exact .inr (hx ▸ hQ))) hs er n
theorem DD.said(h:DD w d s xs F)(k:Below w.heap.size w Z){Q:Nat}(hQ:w.heap.size<=Q)(er n:Int)(a b c e f g i:Value):d1S w d F xs (s,⟨er,0,n,[],[],[],[]⟩) (.returned (a0s er 0 n c7N c7N c7N c7N)) (a2w Z Q a b c e f g i) :=
 (h.later k).put7 (fun _ hx=>.inl hx) (Off.of_below k) hQ (fun hx=>by have:=h.lt Q hx;omega) (fun x hx e=>by have:=(h.rd.sp x hx).2.2;omega) (fun x hx=>.inl ⟨x,hx,rfl⟩) er n a b c e f g i
theorem DD.fresh(h:DD w d s xs F){ys:List (Ent × Nat × Nat)}{es':List Ent}(ho:Z.ownsRow B 58 6 v ys.length (ys.flatMap c7a))(hB:w.heap.size<=B)(k:Below w.heap.size w Z)(hs:∀ y∈ys,y∈xs)(hl:ys.length<=xs.length)(he:ys.map (·.1)=es'):
  DD (Z.setCell ⟨d,1,none⟩ v) d { s with es:=es' } ys (v.ownBlock.toList++F):=by
 have hZ:=h.later k;have hb:∀ b,v.ownBlock=some b->w.heap.size<=b/\b<Z.heap.size:=fun b hb=>⟨Nat.le_trans hB (d0G ho hb),c7O ho hb⟩
 have hd:d<w.heap.size:=h.lt d h.rd.dF;have kd:Off [d] Z (Z.setCell ⟨d,1,none⟩ v):=Off.set0 ..;obtain⟨v1,a1,a2,a3⟩:=hZ.rd.tv;obtain⟨v2,b1,b2,b3⟩:=hZ.rd.ev
 refine⟨⟨⟨v1,(zS _ _ _ _ (by simp)).trans a1,a1i a2 kd (fun b hb e=>(a3 b hb).2 (by simpa using e)),fun b hb=>⟨List.mem_append_right _ (a3 b hb).1,(a3 b hb).2⟩⟩,⟨v,World.cell?_setCell_same _ _ _ b1,d7F (a1i ho kd (fun b hq e=>by have:=(hb b hq).1;simp at e;omega)) (zN _),fun b hq=>⟨by simp[hq],fun e=>by have:=(hb b hq).1;omega⟩⟩,
  (zS _ _ _ _ (by simp)).trans hZ.rd.c2,(zS _ _ _ _ (by simp)).trans hZ.rd.c3,fun o=>(zF ..).trans (hZ.rd.fz o),List.mem_append_right _ h.rd.dF,fun x hx=>?_⟩,he,fun x hx=>?_,h.tl,?_,fun e hx=>?_⟩
 ·obtain⟨x1,x2,x3⟩:=h.rd.sp x (hs x hx);refine⟨((x1.later k).off kd (by simp;rintro rfl;exact x2 h.rd.dF)),fun e=>?_,Nat.lt_of_lt_of_le (zL x3 k.size) kd.size⟩;rcases List.mem_append.1 e with e|e
  ·have:=(hb _ (by simpa using e)).1;omega
  ·exact x2 e
 ·refine Nat.lt_of_lt_of_le ?_ kd.size;rcases List.mem_append.1 hx with e|e
  ·exact (hb x (by simpa using e)).2
  ·exact hZ.lt x e
 ·show es'.length<=60;have:=h.len;have:=h.el;rw[<- he,List.length_map];omega
 ·rw[<- he] at hx;obtain⟨y,hy,rfl⟩:=List.mem_map.1 hx;exact h.en _ (h.es ▸ List.mem_map.2 ⟨y,hs y hy,rfl⟩)
theorem Off.blw(h:Off [] w w'):Below w.heap.size w w':=⟨h.os,h.tape,h.output,h.size,fun k hk=>h.block k hk (by simp)⟩
theorem g2l{ops:Array Oper}{rest:List Oper}{o:Oper}{a:Act}{Q:Exit->Act->World->Prop}(hgd:o.guard=none)(x y:Operand)(ho:o.op=.call { callee:=.builtin .append,args:=#[x,y],argTypes:=#[56,56] }){l:List (Int × Int)}(hown:W.ownsRow B 60 2 v l.length (l.flatMap d0k))(z1 z2:Int){ty:TypeId}{mk:Nat × Nat}(hs:a.eval x=v)(hx:a.eval y=.slice (some ⟨W.heap.size,0,none⟩) 1 1)(hl:l.length<=1000000)(hB:B<=W.heap.size)
  (h:∀ g cap w',w'.ownsRow B 60 2 (.slice (some ⟨g,0,none⟩) (l.length+1) cap) (l.length+1) ((l++[(z1,z2)]).flatMap d0k)->Off v.ownBlock.toList W w'->wpList Tryz.prog ops Q rest (a.put o.dst (.slice (some ⟨g,0,none⟩) (l.length+1) cap)) w'):
  wpList Tryz.prog ops Q (o :: rest) a (W.alloc (.cells #[.int .i64 z1,.int .i64 z2] ty mk)):=by
 obtain⟨i0,hi0,hz0,hz1,hz2⟩:=info_parts b6Q;refine wpList_append_own _ hgd x y 56 ho B 60 i0 _ 2 16 Tryz.underlying56 hi0 hz0 hz1 hz2 rfl (by decide) v l.length (l.flatMap d0k) hs (hown.alloc _) ⟨W.heap.size,0,none⟩ 1 1 [.int .i64 z1,.int .i64 z2] hx rfl (World.news_of_block (cs:=#[.int .i64 z1,.int .i64 z2]) (a0p W _)) (by simp[Value.oneCell']) (by unfold maxLen;omega) (by omega) (by simp;omega) ?_;intro v' w' h1 h2 _;rcases h1.2 with ⟨_,h0⟩|⟨g,cap,_,rfl,_⟩
 ·omega
 ·refine h g cap w' (by rw[List.flatMap_append];exact h1) (((Off.refl _ W).alloc _).grown h2 (fun k hk=>.inl (by simp[hk])))
theorem RD.trim{now:Int}(h:RD w d ts xs given now F):RD w d ts xs given now (F.filter fun k=>decide (k<w.heap.size)):=by
 obtain⟨v1,a1,a2,a3⟩:=h.tv;obtain⟨v2,b1,b2,b3⟩:=h.ev;refine⟨⟨v1,a1,a2,fun k hk=>⟨List.mem_filter.2 ⟨(a3 k hk).1,by simpa using c7O a2 hk⟩,(a3 k hk).2⟩⟩,⟨v2,b1,b2,fun k hk=>⟨List.mem_filter.2 ⟨(b3 k hk).1,by simpa using c7O b2 hk⟩,(b3 k hk).2⟩⟩,h.c2,h.c3,h.fz,List.mem_filter.2 ⟨h.dF,?_⟩,fun x hx=>⟨(h.sp x hx).1,fun e=>(h.sp x hx).2.1 (List.mem_filter.1 e).1,(h.sp x hx).2.2⟩⟩;have:=World.block_lt_of_cell? _ _ h.c2
 simpa using this
theorem DD.a5d{Y:World}(h:DD Y d s xs F){x:Ent × Nat × Nat}(hx:EB x.1)(hl:s.es.length<60)(k:g3V Y d s.ts (xs++[({ x.1 with id:=s.given+1 },x.2)]) (s.given+1) s.now F Z):
  ∃ F',DD Z d (Desk.a2t s x.1).1 (xs++[({ x.1 with id:=s.given+1 },x.2)]) F'/\(∀ k∈F',k∈F\/Y.heap.size<=k)/\Off F Y Z:=by
 obtain⟨F',h1,h2,h3⟩:=k;refine⟨_,⟨h1.trim,?_,fun k hk=>by simpa using (List.mem_filter.1 hk).2,h.tl,?_,fun e he=>?_⟩,fun k hk=>h2 k (List.mem_filter.1 hk).1,h3⟩
 ·simp[Desk.a2t,h.es]
 ·simp[Desk.a2t];omega
 ·simp only[Desk.a2t,List.mem_append,List.mem_singleton] at he;rcases he with he|rfl
  ·exact h.en e he
  ·exact⟨hx.u0,hx.u1,hx.sl,hx.s0,hx.so⟩
structure KP(w wx:World)(L:List (Nat × Obj)):Prop where
 bl:Below w.heap.size w wx
 kb:∀ q∈L,wx.heap[q.1]?=some q.2
 lo:∀ q∈L,w.heap.size<=q.1
 nd:(L.map (·.1)).Nodup
variable {w wx wy:World}{L L':List (Nat × Obj)}{b:Nat}{o:Obj}{cs:Array Value}{t:TypeId}{m:Nat × Nat}
theorem KP.nil(w:World):KP w w []:=⟨zr _ _,by simp,by simp,by simp⟩
theorem KP.lt(h:KP w wx L){q:Nat × Obj}(hq:q∈L):q.1<wx.heap.size:=(Array.getElem?_eq_some_iff.1 (h.kb q hq)).1
theorem KP.later(h:KP w wx L)(k:Below wx.heap.size wx wy):KP w wy L:=⟨a0j h.bl k (zq _),fun q hq=>(k.block _ (h.lt hq)).trans (h.kb q hq),h.lo,h.nd⟩
theorem KP.alloc(h:KP w wx L)(o:Obj):KP w (wx.alloc o) ((wx.heap.size,o) :: L):=by
 have k:=h.later ((zr _ _).alloc (zq _) o);refine⟨k.bl,fun q hq=>?_,fun q hq=>?_,?_⟩
 ·rcases List.mem_cons.1 hq with rfl|hq
  ·exact a0p _ _
  ·exact k.kb q hq
 ·rcases List.mem_cons.1 hq with rfl|hq
  ·exact h.bl.size
  ·exact h.lo q hq
 ·rw[List.map_cons,List.nodup_cons];refine⟨fun e=>?_,h.nd⟩;obtain⟨q,hq,e⟩:=List.mem_map.1 e;have:=h.lt hq;omega
theorem KP.put(h:KP w wx ((b,.cells cs t m) :: L))(i:Nat)(v:Value):KP w (wx.setCell ⟨b,i,none⟩ v) ((b,.cells (cs.setIfInBounds i v) t m) :: L):=by
 have k:Off [b] wx (wx.setCell ⟨b,i,none⟩ v):=Off.set0 ..;have hb:=h.lo _ (List.mem_cons_self ..);have nd:=h.nd;rw[List.map_cons,List.nodup_cons] at nd;refine⟨h.bl.setCell hb v,fun q hq=>?_,fun q hq=>?_,h.nd⟩
 ·rcases List.mem_cons.1 hq with rfl|hq
  ·exact d1X (h.kb _ (List.mem_cons_self ..)) v
  ·refine (k.block _ (h.lt (List.mem_cons_of_mem _ hq)) (fun e=>nd.1 (List.mem_map.2 ⟨q,hq,?_⟩))).trans (h.kb q (List.mem_cons_of_mem _ hq))
   simpa using e
 ·rcases List.mem_cons.1 hq with rfl|hq
  ·exact hb
  ·exact h.lo q (List.mem_cons_of_mem _ hq)
theorem KP.perm(h:KP w wx L)(p:L.Perm L'):KP w wx L':=⟨h.bl,fun q hq=>h.kb q (p.mem_iff.2 hq),fun q hq=>h.lo q (p.mem_iff.2 hq),(p.map _).nodup_iff.1 h.nd⟩
theorem KP.less(h:KP w wx L)(p:L'.Sublist L):KP w wx L':=⟨h.bl,fun q hq=>h.kb q (p.subset hq),fun q hq=>h.lo q (p.subset hq),h.nd.sublist (p.map _)⟩
theorem KP.swap{q r:Nat × Obj}(h:KP w wx (q :: r :: L)):KP w wx (r :: q :: L):=h.perm (List.Perm.swap ..)
theorem KP.cell(h:KP w wx L)(hq:(b,Obj.cells cs t m)∈L)(i:Nat)(hv:cs[i]?=some v):wx.cell? ⟨b,i,none⟩=some v:=by
 have:=h.kb _ hq;simp only at this;simp[World.cell?,this,hv]
theorem KP.frozen(h:KP w wx L)(hq:(b,Obj.cells cs t)∈L)(i:Nat):wx.frozen? ⟨b,i,none⟩=false:=by
 have:=h.kb _ hq;simp only at this;simp[World.frozen?,this]
theorem KP.g0s(h:KP w wx ((b,.cells #[a0,a1,a2,a3,a4,a5] t m) :: L))(v0 v1 v2 v3 v4 v5:Value):KP w ((((((wx.setCell ⟨b,0,none⟩ v0).setCell ⟨b,1,none⟩ v1).setCell ⟨b,2,none⟩ v2).setCell ⟨b,3,none⟩ v3).setCell ⟨b,4,none⟩ v4).setCell ⟨b,5,none⟩ v5) ((b,.cells #[v0,v1,v2,v3,v4,v5] t m) :: L):=by
 have:=(((((h.put 0 v0).put 1 v1).put 2 v2).put 3 v3).put 4 v4).put 5 v5
 simpa using this
theorem KP.hc(h:KP w wx ((b,.cells cs t m) :: L))(i:Nat)(hv:cs[i]?=some v):wx.cell? ⟨b,i,none⟩=some v:=h.cell (List.mem_cons_self ..) i hv
theorem KP.hf(h:KP w wx ((b,.cells cs t) :: L))(i:Nat):wx.frozen? ⟨b,i,none⟩=false:=h.frozen (List.mem_cons_self ..) i
theorem KP.six(h:KP w wx ((b,.cells #[a0,a1,a2,a3,a4,a5] t m) :: L)):wx.cell? ⟨b,0,none⟩=some a0/\wx.cell? ⟨b,1,none⟩=some a1/\wx.cell? ⟨b,2,none⟩=some a2/\wx.cell? ⟨b,3,none⟩=some a3/\wx.cell? ⟨b,4,none⟩=some a4/\wx.cell? ⟨b,5,none⟩=some a5 :=
 ⟨h.hc 0 rfl,h.hc 1 rfl,h.hc 2 rfl,h.hc 3 rfl,h.hc 4 rfl,h.hc 5 rfl⟩
theorem f9I{w4:World}{o:Obj}(h:Below (W.alloc o).drew.heap.size (W.alloc o).drew w4):w4.heap[W.heap.size]?=some o:=(h.block _ (by simp)).trans (a0p _ _)
open Desk (Ent)
theorem NV.at_{m:Int}(h:NV w u (List.replicate n m)){k:Nat}(hk:k<n):∃ g cap,u=.slice (some ⟨g,0,none⟩) n cap/\w.cell? ⟨g,k,none⟩=some (.int .i64 m):=by
 obtain⟨g,cap,e,a⟩:=h.cell k (by simpa using hk);rw[List.getElem_replicate] at a;rw[List.length_replicate] at e;exact⟨g,cap,e,a⟩
theorem SV.at_{m:Int}(h:SV w u (List.replicate n (m,m))){k:Nat}(hk:k<n):∃ g cap,u=.slice (some ⟨g,0,none⟩) n cap/\w.cell? ⟨g,k*2,none⟩=some (.int .i64 m)/\w.cell? ⟨g,k*2+1,none⟩=some (.int .i64 m):=by
 obtain⟨g,cap,e,a,b⟩:=h.cell k (by simpa using hk);rw[List.getElem_replicate] at a b;rw[List.length_replicate] at e;exact⟨g,cap,e,a,b⟩
def mkE(m:Int):Ent:={ id:=m,kind:=0,a0k:=⟨#[]⟩,a0c:=m,a0e:=[],a0Z:=0 }
theorem EV.at_{m:Int}(h:EV w u (List.replicate n (mkE m,.slice none 0 0))){k:Nat}(hk:k<n):∃ g cap,u=.slice (some ⟨g,0,none⟩) n cap/\w.cell? ⟨g,k*6,none⟩=some (.int .i64 m)/\w.cell? ⟨g,k*6+1,none⟩=some (.int .i64 0)/\w.cell? ⟨g,k*6+2,none⟩=some (.string ⟨#[]⟩)/\w.cell? ⟨g,k*6+3,none⟩=some (.int .i64 m)/\w.cell? ⟨g,k*6+4,none⟩=some (.slice none 0 0)/\w.cell? ⟨g,k*6+5,none⟩=some (.int .i64 0):=by
 obtain⟨g,cap,e,a⟩:=h.cell k (by simpa using hk);rw[List.getElem_replicate] at a;rw[List.length_replicate] at e;exact⟨g,cap,e,a⟩
theorem d2d(n:Nat)(m:Int)(u:Value)(w:World)(hu:NV w u (List.replicate n m))(hl:n<=1000000):
  Calls Tryz.prog 56 #[u,.int .i64 m] w fun e w'=>e=.returned (.bool true)/\Below w.heap.size w w':=by
 obtain⟨a,ca,rfl⟩:=hu.form;have HU:=a0b hu;clear hu;rw[List.length_replicate];rw[List.length_replicate] at HU
 go_enter Tryz.func56,Tryz.ntmps56
 go_wp2_with fail
 go_loopw [5] (fun v wr=>∃ k:Nat,k<=n/\v=.int .i64 k/\Below w.heap.size w wr) (fun v _=>n-(intOf v).toNat)
 case atStart=>exact⟨0,Nat.zero_le _,rfl,Below.refl _ _⟩
 case round =>
  obtain⟨k,hk,rfl,hbl⟩:=hrel;have HB:=a0b hbl;clear hbl
  by_cases hlt:k<n
  ·have hlt':(k:Int)<(n:Int):=by omega
   obtain⟨g,cap,e,a0⟩:=(HU.out.later HB.out).at_ hlt;simp only[Value.slice.injEq,true_and] at e;obtain⟨rfl,rfl⟩:=e;have hne:(m != m)=false:=by simp
   go_wp2_with fail
   go_roundw
   case rel=>exact⟨k+1,by omega,by go_num,HB.out⟩
   case measure=>simp[intOf];omega
  ·have hlt':¬ (k:Int)<(n:Int):=by omega
   go_wp2_with fail
   go_ret;exact⟨rfl,HB.out⟩
theorem d1s(n:Nat)(m:Int)(u:Value)(w:World)(hu:SV w u (List.replicate n (m,m)))(hl:n<=1000000):
  Calls Tryz.prog 57 #[u,.int .i64 m] w fun e w'=>e=.returned (.bool true)/\Below w.heap.size w w':=by
 obtain⟨a,ca,rfl⟩:=hu.form;have HU:=a0b hu;clear hu;rw[List.length_replicate];rw[List.length_replicate] at HU
 go_enter Tryz.func57,Tryz.ntmps57
 go_wp2_with fail
 go_loopw [5] (fun v wr=>∃ k:Nat,k<=n/\v=.int .i64 k/\Below w.heap.size w wr) (fun v _=>n-(intOf v).toNat)
 case atStart=>exact⟨0,Nat.zero_le _,rfl,Below.refl _ _⟩
 case round =>
  obtain⟨k,hk,rfl,hbl⟩:=hrel;have HB:=a0b hbl;clear hbl
  by_cases hlt:k<n
  ·have hlt':(k:Int)<(n:Int):=by omega
   obtain⟨g,cap,e,a0,a1⟩:=(HU.out.later HB.out).at_ hlt;simp only[Value.slice.injEq,true_and] at e;obtain⟨rfl,rfl⟩:=e;have hne:(m != m)=false:=by simp
   go_wp2_with fail
   go_roundw
   case rel=>exact⟨k+1,by omega,by go_num,HB.out⟩
   case measure=>simp[intOf];omega
  ·have hlt':¬ (k:Int)<(n:Int):=by omega
   go_wp2_with fail
   go_ret;exact⟨rfl,HB.out⟩
theorem d0B(n:Nat)(m:Int)(u:Value)(w:World)(hu:EV w u (List.replicate n (mkE m,.slice none 0 0)))(hl:n<=1000000):
  Calls Tryz.prog 58 #[u,.int .i64 m] w fun e w'=>e=.returned (.bool true)/\Below w.heap.size w w':=by
 obtain⟨a,ca,rfl⟩:=hu.form;have HU:=a0b hu;clear hu;rw[List.length_replicate];rw[List.length_replicate] at HU
 go_enter Tryz.func58,Tryz.ntmps58
 go_wp2_with fail
 go_loopw [5] (fun v wr=>∃ k:Nat,k<=n/\v=.int .i64 k/\Below w.heap.size w wr) (fun v _=>n-(intOf v).toNat)
 case atStart=>exact⟨0,Nat.zero_le _,rfl,Below.refl _ _⟩
 case round =>
  obtain⟨k,hk,rfl,hbl⟩:=hrel;have HB:=a0b hbl;clear hbl
  by_cases hlt:k<n
  ·have hlt':(k:Int)<(n:Int):=by omega
   obtain⟨g,cap,e,a0,a1,a2,a3,a4,a5⟩:=(HU.out.later HB.out).at_ hlt;simp only[Value.slice.injEq,true_and] at e;obtain⟨rfl,rfl⟩:=e;have hne:(m != m)=false:=by simp
   go_wp2_with fail
   go_roundw
   case rel=>exact⟨k+1,by omega,by go_num,HB.out⟩
   case measure=>simp[intOf];omega
  ·have hlt':¬ (k:Int)<(n:Int):=by omega
   go_wp2_with fail
   go_ret;exact⟨rfl,HB.out⟩
theorem d7s{P:Program}(w:World)(t ty:TypeId)(base:Nat)(e:TypeId)(i:TypeInfo)(z:Value)(size bytes:Nat)(ht:P.underlying t=some (.slice e))(hi:P.info? e=some i)(hz:i.zero=some z)
  (hsize:i.size=size) (hby:i.bytes=bytes) (hzs:z.cells.size=size) (hsz:0<size)
  (v:Value) (n:Nat) (xs:List Value) (hown:w.ownsRow base e size v n xs)
  (ad:Addr) (m c:Nat) (news:List Value) (hl:news.length=m*size) (hnews:∀ j u,news[j]?=some u->w.cell? (ad.add j)=some u) (h1:∀ u∈news,u.oneCell'=true)
  (hm:0<m) (h63:n+m<=maxLen) (hbytes:(n+m)*bytes<=140737488355328) (hbase:base<=w.heap.size):
  ∃ g cap w',(Builtin.append_ #[t,t] ty #[v,.slice (some ad) m c]).run P w=.ok (.slice (some ⟨g,0,none⟩) (n+m) cap) w' /\
   w'.ownsRow base e size (.slice (some ⟨g,0,none⟩) (n+m) cap) (n+m) (xs++news)/\w.grownBy w' v.ownBlock/\(v.ownBlock=some g\/(g=w.heap.size/\w.grownBy w' none))/\g<w'.heap.size/\w'.ownsRow base e size v n xs:=by
 obtain⟨g,cap,w',hr,h2,h3,_,hlt⟩:=run_append_lies (P:=P) w t ty base e i z size bytes ht hi hz hsize hby hzs hsz v n xs hown ad m c news hl hnews h1 hm h63 hbytes hbase _ rfl;refine⟨g,cap,w',hr,h2,h3,?_⟩;subst hsize;subst hby;have hsmall:n+m<=9223372036854775807:=by simp only[maxLen] at h63;omega
 rcases hown.2 with ⟨rfl,rfl⟩|⟨g0,cap0,cur,rfl,hbg,hg,hnc,hcm,hcs,htake⟩
 ·have hr2:=run_append_nil (P:=P) w t ty e i z ht hi hz ad m c news hl hnews (by omega) (by omega) (by have hb:=hbytes;simp only[Nat.zero_add] at hb;omega);rw[hr2] at hr
  injection hr with e1 e2
  subst e2
  injection e1 with e3 e4 e5
  injection e3 with e6
  injection e6 with e7
  exact⟨.inr ⟨e7.symm,⟨rfl,rfl,rfl,by simp,fun k hk _=>((zr w.drew.heap.size w.drew).alloc (zq _) _).block k hk⟩⟩,hlt,⟨hown.1,.inl ⟨rfl,rfl⟩⟩⟩
 ·by_cases hroom:n+m<=cap0
  ·have hfit:n*i.size+news.length<=cur.size:=by rw[hl,hcs,<- Nat.add_mul];exact Nat.mul_le_mul_right _ hroom
   have hr2:=run_append_room (P:=P) w t ty e i ht hi g0 n cap0 cur hg ad m c news hl hnews h1 hroom hfit;rw[hr2] at hr
   injection hr with e1 e2
   injection e1 with e3 e4 e5
   injection e3 with e6
   injection e6 with e7
   subst e7 e5;refine⟨.inl rfl,hlt,⟨hown.1,?_⟩⟩;rcases h2.2 with ⟨h0,_⟩|⟨g1,cap1,cur1,hv1,hb1,hg1,hn1,hc1,hs1,ht1⟩
   ·cases h0
   ·simp only[Value.slice.injEq,Option.some.injEq,Addr.mk.injEq,and_true,true_and] at hv1;obtain⟨rfl,rfl⟩:=hv1;refine .inr ⟨g0,cap0,cur1,rfl,hbg,hg1,hnc,hcm,hs1,?_⟩;have:=congrArg (List.take (n*i.size)) ht1;rw[List.take_take,Nat.min_eq_left (Nat.mul_le_mul_right _ (by omega)),<- hown.1,List.take_left] at this;rw[<- hown.1];exact this
  ·have holds:∀ j u,xs[j]?=some u->w.cell? ((⟨g0,0,none⟩:Addr).add j)=some u:=hown.cells (g:=g0) rfl;have hr2:=run_append_grow (P:=P) w t ty e i z ht hi hz ⟨g0,0,none⟩ n cap0 xs hown.1 holds ad m c news hl hnews (by omega) (by omega) (growslice_fits (by omega) hbytes);rw[hr2] at hr
   injection hr with e1 e2
   subst e2
   injection e1 with e3 e4 e5
   injection e3 with e6
   injection e6 with e7
   refine⟨.inr ⟨e7.symm,⟨rfl,rfl,rfl,by simp,fun k hk _=>((zr w.drew.heap.size w.drew).alloc (zq _) _).block k hk⟩⟩,hlt,⟨hown.1,.inr ⟨g0,cap0,cur,rfl,hbg,?_,hnc,hcm,hcs,htake⟩⟩⟩;exact (((zr w.drew.heap.size w.drew).alloc (zq _) _).block g0 (Array.getElem?_eq_some_iff.1 hg).1).trans hg
theorem f6U(g j:Nat):(⟨g,0,none⟩:Addr).add j=⟨g,j,none⟩:=by unfold Addr.add;split <;> simp_all
def rp(pat:List Value)(j:Nat):List Value:=(List.replicate j pat).flatten
theorem e6x(pat:List Value):rp pat 0=[]:=rfl
theorem d4O(pat:List Value)(j:Nat):(rp pat j).length=j*pat.length:=by simp[rp]
theorem e3Q(pat:List Value)(j k:Nat):rp pat (j+k)=rp pat j++rp pat k:=by
 unfold rp;rw[<- List.replicate_append_replicate,List.flatten_append]
theorem g0r(pat:List Value):rp pat 1=pat:=by simp[rp]
theorem e6y(pat:List Value)(j:Nat):rp pat (j+1)=rp pat j++pat:=by rw[e3Q,g0r]
theorem f8n(pat:List Value){k o:Nat}(hk:k<j)(ho:o<pat.length):(rp pat j)[k*pat.length+o]?=pat[o]?:=by
 have e:j=k+(1+(j-k-1)):=by omega
 rw[e,e3Q,e3Q,g0r,List.getElem?_append_right (by rw[d4O];omega),d4O,Nat.add_sub_cancel_left,List.getElem?_append_left ho]
theorem g2Y{pat:List Value}(h:(rp pat j)[i]?=some v)(hj:j<=n):(rp pat n)[i]?=some v:=by
 have e:n=j+(n-j):=by omega
 rw[e,e3Q,List.getElem?_append_left (List.getElem?_eq_some_iff.1 h).1];exact h
structure Fu(pat:List Value)(w:World)(u:Value)(j:Nat):Prop where
 form:∃ a cap,u=.slice a j cap
 cell:∀ i v,(rp pat j)[i]?=some v->∃ g cap,u=.slice (some ⟨g,0,none⟩) j cap/\w.cell? ⟨g,i,none⟩=some v
variable {w w':World}{pat:List Value}{u:Value}{j:Nat}
theorem Fu.of_own(h:w.ownsRow B e pat.length u j (rp pat j)):Fu pat w u j:=by
 rcases h.2 with ⟨rfl,rfl⟩|⟨g,cap,cur,rfl,_⟩
 ·exact⟨⟨_,_,rfl⟩,fun i v hv=>by simp[rp] at hv⟩
 ·exact⟨⟨_,_,rfl⟩,fun i v hv=>⟨g,cap,rfl,(f6U g i) ▸ h.cells (g:=g) rfl i v hv⟩⟩
theorem Fu.a9i(h:Fu pat w u j)(k:∀ b,u.ownBlock=some b->b<w.heap.size->w'.heap[b]?=w.heap[b]?):Fu pat w' u j :=
 ⟨h.form,fun i v hv=>by
  obtain⟨g,cap,rfl,c⟩:=h.cell i v hv
  exact⟨g,cap,rfl,(zo (k g (by simp[Value.ownBlock]) (World.block_lt_of_cell? _ _ c))).trans c⟩⟩
theorem Fu.off(h:Fu pat w u j)(k:Off G w w')(hG:∀ b,u.ownBlock=some b->b ∉ G):Fu pat w' u j:=h.a9i fun b hb hl=>k.block b hl (hG b hb)
theorem Fu.later(h:Fu pat w u j)(k:Below w.heap.size w w'):Fu pat w' u j:=h.a9i fun b _ hl=>k.block b hl
abbrev e5O(m:Int):List Value:=[.int .i64 m]
abbrev e4i(m:Int):List Value:=[.int .i64 m,.int .i64 m]
abbrev e0j(m:Int):List Value:=[.int .i64 m,.int .i64 0,.string ⟨#[]⟩,.int .i64 m,.slice none 0 0,.int .i64 0]
theorem Fu.nv{m:Int}(h:Fu (e5O m) w u j):NV w u (List.replicate j m):=by
 refine⟨by simpa using h.form,fun k hk=>?_⟩;rw[List.length_replicate] at hk;obtain⟨g,cap,rfl,c⟩:=h.cell _ _ (f8n (e5O m) hk (o:=0) (by simp));exact⟨g,cap,by simp,by simpa using c⟩
theorem Fu.sv{m:Int}(h:Fu (e4i m) w u j):SV w u (List.replicate j (m,m)):=by
 refine⟨by simpa using h.form,fun k hk=>?_⟩;rw[List.length_replicate] at hk;obtain⟨g,cap,rfl,c⟩:=h.cell _ _ (f8n (e4i m) hk (o:=0) (by simp));obtain⟨g',cap',e,c'⟩:=h.cell _ _ (f8n (e4i m) hk (o:=1) (by simp));simp only[Value.slice.injEq,Option.some.injEq,Addr.mk.injEq,and_true,true_and] at e;obtain⟨rfl,rfl⟩:=e;exact⟨g,cap,by simp,by simpa using c,by simpa using c'⟩
theorem Fu.ev{m:Int}(h:Fu (e0j m) w u j):EV w u (List.replicate j (mkE m,.slice none 0 0)):=by
 refine⟨by simpa using h.form,fun k hk=>?_,fun p hp=>?_⟩
 ·rw[List.length_replicate] at hk;have at_:∀ (o:Nat) (v:Value),(e0j m)[o]?=some v->∃ g cap,u=.slice (some ⟨g,0,none⟩) j cap/\w.cell? ⟨g,k*6+o,none⟩=some v:=fun o v hv=>h.cell _ _ ((f8n (e0j m) hk (o:=o) (List.getElem?_eq_some_iff.1 hv).1).trans hv)
  obtain⟨g,cap,rfl,c0⟩:=at_ 0 _ rfl
  have at':∀ (o:Nat) (v:Value),(e0j m)[o]?=some v->w.cell? ⟨g,k*6+o,none⟩=some v:=fun o v hv=>by
   obtain⟨g',cap',e,c'⟩:=at_ o v hv;simp only[Value.slice.injEq,Option.some.injEq,Addr.mk.injEq,and_true,true_and] at e;obtain⟨rfl,rfl⟩:=e;exact c'
  refine⟨g,cap,by simp,?_⟩;rw[List.getElem_replicate];exact⟨c0,at' 1 _ rfl,at' 2 _ rfl,at' 3 _ rfl,at' 4 _ rfl,at' 5 _ rfl⟩
 ·rw[List.eq_of_mem_replicate hp];exact⟨⟨_,_,rfl⟩,fun k hk=>by simp[mkE] at hk⟩
theorem d6c{ops:Array Oper}{rest:List Oper}{o:Oper}{a:Act}{Q:Exit->Act->World->Prop}(hgd:o.guard=none)(x y:Operand)(t:TypeId)(ho:o.op=.call { callee:=.builtin .append,args:=#[x,y],argTypes:=#[t,t] })
  (pat:List Value) {B e:Nat}{i:TypeInfo}{z:Value}(bytes:Nat) (ht:Tryz.prog.underlying t=some (.slice e)) (hi:Tryz.prog.info? e=some i) (hz:i.zero=some z) (hsize:i.size=pat.length) (hby:i.bytes=bytes) (hb72:bytes<=72) (hzs:z.cells.size=pat.length) (hp0:0<pat.length) (hp1:∀ u∈pat,u.oneCell'=true)
  {v:Value}{n:Nat}(hown:W.ownsRow B e pat.length v n (rp pat n)) {m c:Nat}{cs:Array Value}{ty:TypeId}{mk:Nat × Nat}(hcs:cs.toList=rp pat m) (hm:0<m) (hm3:m<=3) (hs:a.eval x=v) (hx:a.eval y=.slice (some ⟨W.heap.size,0,none⟩) m c) (hl:n<=1000000) (hB:B<=W.heap.size)
  (h:∀ g cap w',w'.ownsRow B e pat.length (.slice (some ⟨g,0,none⟩) (n+m) cap) (n+m) (rp pat (n+m))->w'.ownsRow B e pat.length v n (rp pat n)->(∀ u j,j<=n+m->Fu pat W u j->Fu pat w' u j)->Off v.ownBlock.toList W w'->(v.ownBlock=some g\/W.heap.size<=g)->wpList Tryz.prog ops Q rest (a.put o.dst (.slice (some ⟨g,0,none⟩) (n+m) cap)) w'):
  wpList Tryz.prog ops Q (o :: rest) a (W.alloc (.cells cs ty mk)):=by
 refine wpList_plain hgd fun K hK=>?_
 have hnews:=World.news_of_block (cs:=cs) (a0p W (.cells cs ty mk));rw[hcs] at hnews
 obtain⟨g,cap,w',hr,h2,h3,h4,_,h6⟩:=d7s (P:=Tryz.prog) (W.alloc (.cells cs ty mk)) t o.type B e i z pat.length bytes ht hi hz hsize hby hzs hp0 v n (rp pat n) (hown.alloc _) ⟨W.heap.size,0,none⟩ m c (rp pat m) (d4O ..) hnews (fun q hq=>by
  unfold rp at hq;obtain⟨q',h7,h8⟩:=List.mem_flatten.1 hq;rw[List.eq_of_mem_replicate h7] at h8
  exact hp1 q h8) hm (by unfold maxLen;omega) (Nat.le_trans (Nat.mul_le_mul (show n+m<=1000003 by omega) hb72) (by decide)) (by simp;omega)
 rw[<- e3Q] at h2;unfold Oper.wp execOp;simp only[ho,resolve,invoke,builtin,Sem.run_bind,Sem.run_pure,Result.andThen_ok,List.map_toArray,List.map_cons,List.map_nil,hs,hx,hr];refine hK _ _ (h g cap w' h2 h6 (fun u j hj hu=>?_) (((Off.refl _ W).alloc _).grown h3 (fun k hk=>.inl (by simp[hk]))) ?_)
 ·rcases h4 with h4|⟨_,h4⟩
  ·refine⟨hu.form,fun i' v' hv'=>?_⟩;obtain⟨g',cap',rfl,cc⟩:=hu.cell i' v' hv';refine⟨g',cap',rfl,?_⟩
   by_cases e1:g'=g
   ·subst e1;exact (f6U g' i') ▸ h2.cells (g:=g') rfl i' v' (g2Y hv' hj)
   ·have hlt:g'<W.heap.size:=World.block_lt_of_cell? _ _ cc;refine (zo (w:=W) ?_).trans cc;exact (h3.block g' (by rw[World.size_alloc];omega) (by rw[h4];simpa using e1)).trans (((zr W.heap.size W).alloc (zq _) _).block g' hlt)
  ·exact hu.a9i fun b _ hl=>(h4.block b (by rw[World.size_alloc];omega) (by simp)).trans (((zr W.heap.size W).alloc (zq _) _).block b hl)
 ·rcases h4 with h4|⟨h4,_⟩
  ·exact .inl h4
  ·exact .inr (by rw[h4];simp)
abbrev KL:=Value × Value × Value × Value × Int
def klV(x:KL):List Value:=[x.1,x.2.1,x.2.2.1,x.2.2.2.1,.int .i64 x.2.2.2.2]
def klB(x:KL):List Nat:=x.1.ownBlock.toList++(x.2.1.ownBlock.toList++(x.2.2.1.ownBlock.toList++x.2.2.2.1.ownBlock.toList))
def K4(P:Int->List Value)(w:World)(x:KL):Prop :=
 ∃ j,j<=900000/\Fu (P x.2.2.2.2) w x.1 j/\Fu (P x.2.2.2.2) w x.2.1 (j+1)/\Fu (P x.2.2.2.2) w x.2.2.1 (j+2)/\Fu (P x.2.2.2.2) w x.2.2.2.1 (j+3)
theorem K4.off{x:KL}(h:K4 P w x)(k:Off G w w')(hG:∀ b∈klB x,b ∉ G):K4 P w' x:=by
 obtain⟨j,hj,h1,h2,h3,h4⟩:=h;exact⟨j,hj,h1.off k fun b hb=>hG b (by simp[klB,hb]),h2.off k fun b hb=>hG b (by simp[klB,hb]),h3.off k fun b hb=>hG b (by simp[klB,hb]),h4.off k fun b hb=>hG b (by simp[klB,hb])⟩
structure e7E(P:Int->List Value)(t:TypeId)(K:List Nat)(w:World)(r:Value)(X:List KL):Prop where
 own:w.ownsRow 0 t 5 r X.length (X.flatMap klV)
 four:∀ x∈X,K4 P w x
 bl:∀ x∈X,∀ b∈klB x,b∈K
theorem e7E.off{t:TypeId}{X:List KL}(h:e7E P t K w r X)(k:Off G w w')(hr:∀ b,r.ownBlock=some b->b ∉ G)(hK:∀ b∈K,b ∉ G):e7E P t K w' r X :=
 ⟨a1i h.own k hr,fun x hx=>(h.four x hx).off k fun b hb=>hK b (h.bl x hx b hb),h.bl⟩
theorem e7E.wide{t:TypeId}{K':List Nat}{X:List KL}(h:e7E P t K w r X)(hK:∀ b∈K,b∈K'):e7E P t K' w r X :=
 ⟨h.own,h.four,fun x hx b hb=>hK b (h.bl x hx b hb)⟩
theorem e7E.snoc{t:TypeId}{r':Value}{X:List KL}{x:KL}(h:e7E P t K w r X)(hx:K4 P w x)(k:Off r.ownBlock.toList w w')(hK:∀ b∈K,r.ownBlock≠some b)(hxr:∀ b∈klB x,r.ownBlock≠some b)
  (ho:w'.ownsRow 0 t 5 r' (X.length+1) (X.flatMap klV++klV x)):e7E P t (klB x++K) w' r' (X++[x]):=by
 refine⟨by simpa using ho,fun y hy=>?_,fun y hy b hb=>?_⟩
 ·rcases List.mem_append.1 hy with hy|hy
  ·exact (h.four y hy).off k fun b hb e=>hK b (h.bl y hy b hb) (by simpa using e)
  ·rw[List.mem_singleton.1 hy];exact hx.off k fun b hb e=>hxr b hb (by simpa using e)
 ·rcases List.mem_append.1 hy with hy|hy
  ·exact List.mem_append_right _ (h.bl y hy b hb)
  ·rw[List.mem_singleton.1 hy] at hb;exact List.mem_append_left _ hb
abbrev tI:TypeId:=111
abbrev tS:TypeId:=114
abbrev tE:TypeId:=117
structure BR(w:World)(K:List Nat)(r1 r2 r3:Value)(X1 X2 X3:List KL):Prop where
 b1:e7E e5O tI K w r1 X1
 b2:e7E e4i tS K w r2 X2
 b3:e7E e0j tE K w r3 X3
 kb:∀ b∈K,b<w.heap.size/\r1.ownBlock≠some b/\r2.ownBlock≠some b/\r3.ownBlock≠some b
structure BK(w:World)(B:Nat)(v0 v1:Value)(K:List Nat)(r1 r2 r3:Value)(X1 X2 X3:List KL):Prop where
 hb:w.heap[B]?=some (.cells #[v0,v1,r1,r2,r3] 86)
 br:BR w K r1 r2 r3 X1 X2 X3
 bK:B ∉ K
variable {w w':World}{B:Nat}{v0 v1 r1 r2 r3 r':Value}{K G:List Nat}{X1 X2 X3:List KL}{x:KL}
theorem e1D{e1 e2 s1 s2 n1 n2 b1 b2:Nat}{u1 u2:Value}{l1 l2:List Value}(h1:w.ownsRow b1 e1 s1 u1 n1 l1)(h2:w.ownsRow b2 e2 s2 u2 n2 l2)(hne:e2≠e1)(hb:u1.ownBlock=some b):u2.ownBlock≠some b:=by
 intro hc;rcases h2.2 with ⟨rfl,_⟩|⟨g,cap,cur,rfl,_,hh,_⟩
 ·simp[Value.ownBlock] at hc
 ·simp[Value.ownBlock] at hc;subst hc;exact c8L h1 hh hne hb
theorem BR.off(h:BR w K r1 r2 r3 X1 X2 X3)(k:Off G w w')(h1:∀ b,r1.ownBlock=some b->b ∉ G)(h2:∀ b,r2.ownBlock=some b->b ∉ G)(h3:∀ b,r3.ownBlock=some b->b ∉ G)(hK:∀ b∈K,b ∉ G):BR w' K r1 r2 r3 X1 X2 X3 :=
 ⟨h.b1.off k h1 hK,h.b2.off k h2 hK,h.b3.off k h3 hK,fun b hb=>⟨zL (h.kb b hb).1 k.size,(h.kb b hb).2⟩⟩
def bkB(B:Nat)(r1 r2 r3:Value):List Nat:=B :: (r1.ownBlock.toList++(r2.ownBlock.toList++r3.ownBlock.toList))
theorem BK.off(h:BK w B v0 v1 K r1 r2 r3 X1 X2 X3)(k:Off G w w')(hR:∀ b∈bkB B r1 r2 r3,b ∉ G)(hK:∀ b∈K,b ∉ G):BK w' B v0 v1 K r1 r2 r3 X1 X2 X3 :=
 ⟨(k.block B (Array.getElem?_eq_some_iff.1 h.hb).1 (hR B (by simp[bkB]))).trans h.hb,h.br.off k (fun b hb=>hR b (by simp[bkB,hb])) (fun b hb=>hR b (by simp[bkB,hb])) (fun b hb=>hR b (by simp[bkB,hb])) hK,h.bK⟩
theorem BK.later(h:BK w B v0 v1 K r1 r2 r3 X1 X2 X3)(k:Below w.heap.size w w'):BK w' B v0 v1 K r1 r2 r3 X1 X2 X3:=h.off (G:=[]) (Off.of_below k) (by simp) (by simp)
theorem BK.cells(h:BK w B v0 v1 K r1 r2 r3 X1 X2 X3):w.cell? ⟨B,0,none⟩=some v0/\w.cell? ⟨B,1,none⟩=some v1/\w.cell? ⟨B,2,none⟩=some r1/\w.cell? ⟨B,3,none⟩=some r2/\w.cell? ⟨B,4,none⟩=some r3/\∀ o,w.frozen? ⟨B,o,none⟩=false:=by
 have:=h.hb;refine⟨?_,?_,?_,?_,?_,fun o=>?_⟩ <;> simp[World.cell?,World.frozen?,this]
theorem BK.forms(h:BK w B v0 v1 K r1 r2 r3 X1 X2 X3):(∃ a c,r1=.slice a X1.length c)/\(∃ a c,r2=.slice a X2.length c)/\∃ a c,r3=.slice a X3.length c:=⟨c9y h.br.b1.own,c9y h.br.b2.own,c9y h.br.b3.own⟩
def g2M(w:World)(r r':Value):Prop:=∀ b,r'.ownBlock=some b->r.ownBlock=some b\/w.heap.size<=b
theorem BK.add1(h:BK w B v0 v1 K r1 r2 r3 X1 X2 X3)(hx:K4 e5O w x)(hxl:∀ b∈klB x,b<w.heap.size/\b ∉ bkB B r1 r2 r3)(k:Off r1.ownBlock.toList w w')(ho:w'.ownsRow 0 tI 5 r' (X1.length+1) (X1.flatMap klV++klV x))(hat:g2M w r1 r'):
  BK (w'.setCell ⟨B,2,none⟩ r') B v0 v1 (klB x++K) r' r2 r3 (X1++[x]) X2 X3/\Off (bkB B r1 r2 r3) w (w'.setCell ⟨B,2,none⟩ r'):=by
 have hBl:=(Array.getElem?_eq_some_iff.1 h.hb).1;have hB1:r1.ownBlock≠some B:=c8L h.br.b1.own h.hb (by decide);have hB2:r2.ownBlock≠some B:=c8L h.br.b2.own h.hb (by decide);have hB3:r3.ownBlock≠some B:=c8L h.br.b3.own h.hb (by decide);have hb':w'.heap[B]?=some (.cells #[v0,v1,r1,r2,r3] 86):=(k.block B hBl (by simpa using hB1)).trans h.hb;have hB':r'.ownBlock≠some B:=c8L ho hb' (by decide);have n2:∀ b,r2.ownBlock=some b->b ∉ r1.ownBlock.toList:=fun b hb e=>e1D h.br.b2.own h.br.b1.own (by decide) hb (by simpa using e)
 have n3:∀ b,r3.ownBlock=some b->b ∉ r1.ownBlock.toList:=fun b hb e=>e1D h.br.b3.own h.br.b1.own (by decide) hb (by simpa using e)
 have nK:∀ b∈K,b ∉ r1.ownBlock.toList:=fun b hb e=>(h.br.kb b hb).2.1 (by simpa using e)
 have s1:=h.br.b1.snoc hx k (fun b hb=>(h.br.kb b hb).2.1) (fun b hb e=>(hxl b hb).2 (by simp[bkB,e])) ho;have s2:=(h.br.b2.off k n2 nK).wide (K':=klB x++K) (fun b hb=>List.mem_append_right _ hb);have s3:=(h.br.b3.off k n3 nK).wide (K':=klB x++K) (fun b hb=>List.mem_append_right _ hb);have kd:Off [B] w' (w'.setCell ⟨B,2,none⟩ r'):=Off.set0 ..
 have xB:∀ b∈klB x++K,b≠B:=fun b hb e=>by
  rcases List.mem_append.1 hb with hb|hb
  ·exact (hxl b hb).2 (by simp[bkB,e])
  ·exact h.bK (e ▸ hb)
 have br:BR w' (klB x++K) r' r2 r3 (X1++[x]) X2 X3:=by
  refine⟨s1,s2,s3,fun b hb=>?_⟩;rcases List.mem_append.1 hb with hb|hb
  ·refine⟨zL (hxl b hb).1 k.size,fun e=>?_,fun e=>(hxl b hb).2 (by simp[bkB,e]),fun e=>(hxl b hb).2 (by simp[bkB,e])⟩;rcases hat b e with e|e
   ·exact (hxl b hb).2 (by simp[bkB,e])
   ·have:=(hxl b hb).1;omega
  ·obtain⟨q1,q2,q3,q4⟩:=h.br.kb b hb;refine⟨zL q1 k.size,fun e=>?_,q3,q4⟩;rcases hat b e with e|e
   ·exact q2 e
   ·omega
 refine⟨⟨by rw[d1X hb'];rfl,br.off kd (fun b hb e=>hB' (by simp at e;exact e ▸ hb)) (fun b hb e=>hB2 (by simp at e;exact e ▸ hb)) (fun b hb e=>hB3 (by simp at e;exact e ▸ hb)) (fun b hb e=>xB b hb (by simpa using e)),fun e=>xB B e rfl⟩,?_⟩;exact (k.mono fun y hy=>by simp at hy;simp[bkB,hy]).setCell (.inl (by simp[bkB])) _ _
theorem BK.add2(h:BK w B v0 v1 K r1 r2 r3 X1 X2 X3)(hx:K4 e4i w x)(hxl:∀ b∈klB x,b<w.heap.size/\b ∉ bkB B r1 r2 r3)(k:Off r2.ownBlock.toList w w')(ho:w'.ownsRow 0 tS 5 r' (X2.length+1) (X2.flatMap klV++klV x))(hat:g2M w r2 r'):
  BK (w'.setCell ⟨B,3,none⟩ r') B v0 v1 (klB x++K) r1 r' r3 X1 (X2++[x]) X3/\Off (bkB B r1 r2 r3) w (w'.setCell ⟨B,3,none⟩ r'):=by
 have hBl:=(Array.getElem?_eq_some_iff.1 h.hb).1;have hB1:r1.ownBlock≠some B:=c8L h.br.b1.own h.hb (by decide);have hB2:r2.ownBlock≠some B:=c8L h.br.b2.own h.hb (by decide);have hB3:r3.ownBlock≠some B:=c8L h.br.b3.own h.hb (by decide);have hb':w'.heap[B]?=some (.cells #[v0,v1,r1,r2,r3] 86):=(k.block B hBl (by simpa using hB2)).trans h.hb;have hB':r'.ownBlock≠some B:=c8L ho hb' (by decide);have n1:∀ b,r1.ownBlock=some b->b ∉ r2.ownBlock.toList:=fun b hb e=>e1D h.br.b1.own h.br.b2.own (by decide) hb (by simpa using e)
 have n3:∀ b,r3.ownBlock=some b->b ∉ r2.ownBlock.toList:=fun b hb e=>e1D h.br.b3.own h.br.b2.own (by decide) hb (by simpa using e)
 have nK:∀ b∈K,b ∉ r2.ownBlock.toList:=fun b hb e=>(h.br.kb b hb).2.2.1 (by simpa using e)
 have s2:=h.br.b2.snoc hx k (fun b hb=>(h.br.kb b hb).2.2.1) (fun b hb e=>(hxl b hb).2 (by simp[bkB,e])) ho;have s1:=(h.br.b1.off k n1 nK).wide (K':=klB x++K) (fun b hb=>List.mem_append_right _ hb);have s3:=(h.br.b3.off k n3 nK).wide (K':=klB x++K) (fun b hb=>List.mem_append_right _ hb);have kd:Off [B] w' (w'.setCell ⟨B,3,none⟩ r'):=Off.set0 ..
 have xB:∀ b∈klB x++K,b≠B:=fun b hb e=>by
  rcases List.mem_append.1 hb with hb|hb
  ·exact (hxl b hb).2 (by simp[bkB,e])
  ·exact h.bK (e ▸ hb)
 have br:BR w' (klB x++K) r1 r' r3 X1 (X2++[x]) X3:=by
  refine⟨s1,s2,s3,fun b hb=>?_⟩;rcases List.mem_append.1 hb with hb|hb
  ·refine⟨zL (hxl b hb).1 k.size,fun e=>(hxl b hb).2 (by simp[bkB,e]),fun e=>?_,fun e=>(hxl b hb).2 (by simp[bkB,e])⟩;rcases hat b e with e|e
   ·exact (hxl b hb).2 (by simp[bkB,e])
   ·have:=(hxl b hb).1;omega
  ·obtain⟨q1,q2,q3,q4⟩:=h.br.kb b hb;refine⟨zL q1 k.size,q2,fun e=>?_,q4⟩;rcases hat b e with e|e
   ·exact q3 e
   ·omega
 refine⟨⟨by rw[d1X hb'];rfl,br.off kd (fun b hb e=>hB1 (by simp at e;exact e ▸ hb)) (fun b hb e=>hB' (by simp at e;exact e ▸ hb)) (fun b hb e=>hB3 (by simp at e;exact e ▸ hb)) (fun b hb e=>xB b hb (by simpa using e)),fun e=>xB B e rfl⟩,?_⟩;exact (k.mono fun y hy=>by simp at hy;simp[bkB,hy]).setCell (.inl (by simp[bkB])) _ _
theorem BK.add3(h:BK w B v0 v1 K r1 r2 r3 X1 X2 X3)(hx:K4 e0j w x)(hxl:∀ b∈klB x,b<w.heap.size/\b ∉ bkB B r1 r2 r3)(k:Off r3.ownBlock.toList w w')(ho:w'.ownsRow 0 tE 5 r' (X3.length+1) (X3.flatMap klV++klV x))(hat:g2M w r3 r'):
  BK (w'.setCell ⟨B,4,none⟩ r') B v0 v1 (klB x++K) r1 r2 r' X1 X2 (X3++[x])/\Off (bkB B r1 r2 r3) w (w'.setCell ⟨B,4,none⟩ r'):=by
 have hBl:=(Array.getElem?_eq_some_iff.1 h.hb).1;have hB1:r1.ownBlock≠some B:=c8L h.br.b1.own h.hb (by decide);have hB2:r2.ownBlock≠some B:=c8L h.br.b2.own h.hb (by decide);have hB3:r3.ownBlock≠some B:=c8L h.br.b3.own h.hb (by decide);have hb':w'.heap[B]?=some (.cells #[v0,v1,r1,r2,r3] 86):=(k.block B hBl (by simpa using hB3)).trans h.hb;have hB':r'.ownBlock≠some B:=c8L ho hb' (by decide);have n1:∀ b,r1.ownBlock=some b->b ∉ r3.ownBlock.toList:=fun b hb e=>e1D h.br.b1.own h.br.b3.own (by decide) hb (by simpa using e)
 have n2:∀ b,r2.ownBlock=some b->b ∉ r3.ownBlock.toList:=fun b hb e=>e1D h.br.b2.own h.br.b3.own (by decide) hb (by simpa using e)
 have nK:∀ b∈K,b ∉ r3.ownBlock.toList:=fun b hb e=>(h.br.kb b hb).2.2.2 (by simpa using e)
 have s3:=h.br.b3.snoc hx k (fun b hb=>(h.br.kb b hb).2.2.2) (fun b hb e=>(hxl b hb).2 (by simp[bkB,e])) ho;have s1:=(h.br.b1.off k n1 nK).wide (K':=klB x++K) (fun b hb=>List.mem_append_right _ hb);have s2:=(h.br.b2.off k n2 nK).wide (K':=klB x++K) (fun b hb=>List.mem_append_right _ hb);have kd:Off [B] w' (w'.setCell ⟨B,4,none⟩ r'):=Off.set0 ..
 have xB:∀ b∈klB x++K,b≠B:=fun b hb e=>by
  rcases List.mem_append.1 hb with hb|hb
  ·exact (hxl b hb).2 (by simp[bkB,e])
  ·exact h.bK (e ▸ hb)
 have br:BR w' (klB x++K) r1 r2 r' X1 X2 (X3++[x]):=by
  refine⟨s1,s2,s3,fun b hb=>?_⟩;rcases List.mem_append.1 hb with hb|hb
  ·refine⟨zL (hxl b hb).1 k.size,fun e=>(hxl b hb).2 (by simp[bkB,e]),fun e=>(hxl b hb).2 (by simp[bkB,e]),fun e=>?_⟩;rcases hat b e with e|e
   ·exact (hxl b hb).2 (by simp[bkB,e])
   ·have:=(hxl b hb).1;omega
  ·obtain⟨q1,q2,q3,q4⟩:=h.br.kb b hb;refine⟨zL q1 k.size,q2,q3,fun e=>?_⟩;rcases hat b e with e|e
   ·exact q4 e
   ·omega
 refine⟨⟨by rw[d1X hb'];rfl,br.off kd (fun b hb e=>hB1 (by simp at e;exact e ▸ hb)) (fun b hb e=>hB2 (by simp at e;exact e ▸ hb)) (fun b hb e=>hB' (by simp at e;exact e ▸ hb)) (fun b hb e=>xB b hb (by simpa using e)),fun e=>xB B e rfl⟩,?_⟩;exact (k.mono fun y hy=>by simp at hy;simp[bkB,hy]).setCell (.inl (by simp[bkB])) _ _
theorem d5e(l:List Int)(u v:Value)(w:World)(hu:NV w u l)(hv:NV w v l)(hl:l.length<=1000000):
  Calls Tryz.prog 120 #[u,v] w fun e w'=>e=.returned (.bool true)/\Below w.heap.size w w':=by
 obtain⟨a,ca,rfl⟩:=hu.form;obtain⟨b,cb,rfl⟩:=hv.form;have HU:=a0b hu;have HV:=a0b hv;clear hu hv;have hb:((l.length:Int) != (l.length:Int))=false:=by simp
 go_enter Tryz.func120,Tryz.ntmps120
 go_wp2_with fail
 go_loopw [5] (fun v wr=>∃ k:Nat,k<=l.length/\v=.int .i64 k/\Below w.heap.size w wr) (fun v _=>l.length-(intOf v).toNat)
 case atStart=>exact⟨0,Nat.zero_le _,rfl,Below.refl _ _⟩
 case round =>
  obtain⟨k,hk,rfl,hbl⟩:=hrel;have HB:=a0b hbl;clear hbl
  by_cases hlt:k<l.length
  ·have hlt':(k:Int)<(l.length:Int):=by omega
   obtain⟨g,cap,e,a0⟩:=(HU.out.later HB.out).cell k hlt;simp only[Value.slice.injEq,true_and] at e;obtain⟨rfl,rfl⟩:=e;obtain⟨g2,cap2,e,b0⟩:=(HV.out.later HB.out).cell k hlt;simp only[Value.slice.injEq,true_and] at e;obtain⟨rfl,rfl⟩:=e;generalize l[k]=x at *
   go_upto_region 6 with fail
   go_big_region
   have HBd:=a0b (HB.out.drew);clear HB
   go_wp2_with fail
   go_roundw
   case rel=>exact⟨k+1,by omega,by go_num,HBd.out⟩
   case measure=>simp[intOf];omega
  ·have hlt':¬ (k:Int)<(l.length:Int):=by omega
   go_wp2_with fail
   go_ret;exact⟨rfl,HB.out⟩
theorem e4x(L:List (Int × Int))(u v:Value)(w:World)(hu:SV w u L)(hv:SV w v L)(hl:L.length<=1000000):
  Calls Tryz.prog 183 #[u,v] w fun e w'=>e=.returned (.bool true)/\Below w.heap.size w w':=by
 obtain⟨a,ca,rfl⟩:=hu.form;obtain⟨b,cb,rfl⟩:=hv.form;have HU:=a0b hu;have HV:=a0b hv;clear hu hv;have hb:((L.length:Int) != (L.length:Int))=false:=by simp
 go_enter Tryz.func183,Tryz.ntmps183
 go_wp2_with fail
 go_loopw [5] (fun v wr=>∃ k:Nat,k<=L.length/\v=.int .i64 k/\Below w.heap.size w wr) (fun v _=>L.length-(intOf v).toNat)
 case atStart=>exact⟨0,Nat.zero_le _,rfl,Below.refl _ _⟩
 case round =>
  obtain⟨k,hk,rfl,hbl⟩:=hrel;have HB:=a0b hbl;clear hbl
  by_cases hlt:k<L.length
  ·have hlt':(k:Int)<(L.length:Int):=by omega
   obtain⟨g,cap,e,a0,a1⟩:=(HU.out.later HB.out).cell k hlt;simp only[Value.slice.injEq,true_and] at e;obtain⟨rfl,rfl⟩:=e;obtain⟨g2,cap2,e,b0,b1⟩:=(HV.out.later HB.out).cell k hlt;simp only[Value.slice.injEq,true_and] at e;obtain⟨rfl,rfl⟩:=e;generalize L[k].1=x at *;generalize L[k].2=y at *
   go_upto_region 6 with fail
   go_big_region
   have HBd:=a0b (HB.out.drew);clear HB
   go_wp2_with fail
   go_roundw
   case rel=>exact⟨k+1,by omega,by go_num,HBd.out⟩
   case measure=>simp[intOf];omega
  ·have hlt':¬ (k:Int)<(L.length:Int):=by omega
   go_wp2_with fail
   go_ret;exact⟨rfl,HB.out⟩
theorem d7M(h:Below B w w')(n:Nat):Below B w (w'.drewN n):=⟨h.os,h.tape,h.output,h.size,h.block⟩
theorem d9N(l m:List (Ent × Value))(u v:Value)(w:World)(hu:EV w u l)(hv:EV w v m)(he:l.map (·.1)=m.map (·.1))(hl:l.length<=1000)(hs:∀ p∈l,p.1.a0e.length<=1000):
  Calls Tryz.prog 119 #[u,v] w fun e w'=>e=.returned (.bool true)/\Below w.heap.size w w':=by
 obtain⟨a,ca,rfl⟩:=hu.form;obtain⟨b,cb,rfl⟩:=hv.form;have hlen:m.length=l.length:=by have:=congrArg List.length he;simpa using this.symm
 have AT:Hid (∀ (k:Nat) (h:k<l.length) (h':k<m.length),m[k].1=l[k].1):=fun k h h'=>by
  have:=congrArg (fun x=>x[k]?) he;simp only[List.getElem?_map,List.getElem?_eq_getElem h,List.getElem?_eq_getElem h',Option.map_some] at this;exact (Option.some.inj this).symm
 have HU:=a0b hu;have HV:=a0b hv;have HS:=a0b hs;rw[hlen];clear hu hv he hs;have hb:((l.length:Int) != (l.length:Int))=false:=by simp
 go_enter Tryz.func119,Tryz.ntmps119
 go_wp2_with fail
 go_loopw [5,6] (fun v _ wr=>∃ k:Nat,k<=l.length/\v=.int .i64 k/\Below w.heap.size w wr) (fun v _ _=>l.length-(intOf v).toNat)
 case atStart=>exact⟨0,Nat.zero_le _,rfl,Below.refl _ _⟩
 case round =>
  obtain⟨k,hk,rfl,hbl⟩:=hrel;have HB:=a0b hbl;clear hbl
  by_cases hlt:k<l.length
  ·have hlt':(k:Int)<(l.length:Int):=by omega
   have hmt:k<m.length:=by omega
   obtain⟨g,cap,e,a0,a1,a2,a3,a4,a5⟩:=(HU.out.later HB.out).cell k hlt;simp only[Value.slice.injEq,true_and] at e;obtain⟨rfl,rfl⟩:=e;obtain⟨g2,cap2,e,b0,b1,b2,b3,b4,b5⟩:=(HV.out.later HB.out).cell k hmt;simp only[Value.slice.injEq,true_and] at e;obtain⟨rfl,rfl⟩:=e;have s1:=(HU.out.later HB.out).sp l[k] (zg hlt);have s2:=(HV.out.later HB.out).sp m[k] (zg hmt);rw[AT.out k hlt hmt] at b0 b1 b2 b3 b5 s2;have SP:=a0b (fun W' (q:Below wr.heap.size wr W')=>e4x l[k].1.a0e l[k].2 m[k].2 W' (s1.later q) (s2.later q) (by have:=HS.out l[k] (zg hlt);omega));obtain⟨f1,f2,e1⟩:=s1.form;obtain⟨f3,f4,e2⟩:=s2.form;rw[e1] at a4 SP;rw[e2] at b4 SP;clear s1 s2 e1 e2;generalize l[k].1=x at *;have n0:(x.id != x.id)=false:=by simp
   have n1:(x.kind != x.kind)=false:=by simp
   have n3:(x.a0c != x.a0c)=false:=by simp
   have n5:(x.a0Z != x.a0Z)=false:=by simp
   have HBd:=a0b (HB.out.drew);have SS:Hid (∀ W',Below wr.drew.heap.size wr.drew W'->W'.cell? ⟨g,k*6,none⟩=some (.int .i64 x.id)/\W'.cell? ⟨g,k*6+1,none⟩=some (.int .i64 x.kind)/\W'.cell? ⟨g,k*6+2,none⟩=some (.string x.a0k)/\W'.cell? ⟨g,k*6+3,none⟩=some (.int .i64 x.a0c)/\W'.cell? ⟨g,k*6+4,none⟩=some (.slice f1 x.a0e.length f2)/\W'.cell? ⟨g,k*6+5,none⟩=some (.int .i64 x.a0Z)/\W'.cell? ⟨g2,k*6,none⟩=some (.int .i64 x.id)/\W'.cell? ⟨g2,k*6+1,none⟩=some (.int .i64 x.kind)/\W'.cell? ⟨g2,k*6+2,none⟩=some (.string x.a0k)/\W'.cell? ⟨g2,k*6+3,none⟩=some (.int .i64 x.a0c)/\W'.cell? ⟨g2,k*6+4,none⟩=some (.slice f3 x.a0e.length f4)/\W'.cell? ⟨g2,k*6+5,none⟩=some (.int .i64 x.a0Z)):=fun W' q=>⟨a0a q a0,a0a q a1,a0a q a2,a0a q a3,a0a q a4,a0a q a5,a0a q b0,a0a q b1,a0a q b2,a0a q b3,a0a q b4,a0a q b5⟩
   clear HB
   go_upto_region 6 with fail
   go_region_held3 (fun W'=>W'.cell? ⟨g,k*6,none⟩=some (.int .i64 x.id)/\W'.cell? ⟨g,k*6+1,none⟩=some (.int .i64 x.kind)/\W'.cell? ⟨g,k*6+2,none⟩=some (.string x.a0k)/\W'.cell? ⟨g,k*6+3,none⟩=some (.int .i64 x.a0c)/\W'.cell? ⟨g,k*6+4,none⟩=some (.slice f1 x.a0e.length f2)/\W'.cell? ⟨g,k*6+5,none⟩=some (.int .i64 x.a0Z)/\W'.cell? ⟨g2,k*6,none⟩=some (.int .i64 x.id)/\W'.cell? ⟨g2,k*6+1,none⟩=some (.int .i64 x.kind)/\W'.cell? ⟨g2,k*6+2,none⟩=some (.string x.a0k)/\W'.cell? ⟨g2,k*6+3,none⟩=some (.int .i64 x.a0c)/\W'.cell? ⟨g2,k*6+4,none⟩=some (.slice f3 x.a0e.length f4)/\W'.cell? ⟨g2,k*6+5,none⟩=some (.int .i64 x.a0Z))
    (first
     |with_reducible exact SS.out _ HB6.out
     |exact⟨a0,a1,a2,a3,a4,a5,b0,b1,b2,b3,b4,b5⟩)
    (first
     |(go_at_call 183;refine (SP.out _ (a0q _)).mono ?_;rintro e w6 ⟨rfl,hb6⟩;have HB6:=a0b hb6;clear hb6))
   have HF:Hid (Below w.heap.size w w6):=a0j HBd.out HB6.out (zq _);obtain⟨c0,c1,c2,c3,c4,c5,d0,d1,d2,d3,d4,d5⟩:=SS.out _ HB6.out;clear HB6 HBd SS SP a0 a1 a2 a3 a4 a5 b0 b1 b2 b3 b4 b5;have n2:(x.a0k.toList != x.a0k.toList)=false:=by simp
   have n2':(x.a0k.toList==x.a0k.toList)=true:=by simp
   go_upto_region 7 with fail
   go_quiet (fail)
   go_wp2_with fail
   go_roundw
   case rel=>exact⟨k+1,by omega,by go_num,d7M HF.out _⟩
   case measure=>simp[intOf];omega
  ·have hlt':¬ (k:Int)<(l.length:Int):=by omega
   go_wp2_with fail
   go_ret;exact⟨rfl,HB.out⟩
variable {w:World}{B:Nat}{v0 v1 r1 r2 r3:Value}{K:List Nat}{X1 X2 X3:List KL}
abbrev f8N(X1 X2 X3:List KL):Int:=-1000-(X1.length:Int)-X2.length-X3.length
theorem e1W(h:BK w B v0 v1 K r1 r2 r3 X1 X2 X3)(h1:X1.length<=1000000000)(h2:X2.length<=1000000000)(h3:X3.length<=1000000000):
  Calls Tryz.prog 184 #[.pointer (some ⟨B,2,none⟩)] w fun e w'=>e=.returned (.int .i64 (f8N X1 X2 X3))/\Below w.heap.size w w':=by
 obtain⟨_,_,c2,c3,c4,_⟩:=h.cells;obtain⟨⟨a1,p1,rfl⟩,⟨a2,p2,rfl⟩,a3,p3,rfl⟩:=h.forms;have HB:=a0b h;clear h;have k1:IntKind.i64.wrap (-1000-(X1.length:Int))=-1000-(X1.length:Int):=a0G (by omega) (by omega);have k2:IntKind.i64.wrap (-1000-(X1.length:Int)-X2.length)=-1000-(X1.length:Int)-X2.length:=a0G (by omega) (by omega);have k3:IntKind.i64.wrap (-1000-(X1.length:Int)-X2.length-X3.length)=-1000-(X1.length:Int)-X2.length-X3.length:=a0G (by omega) (by omega)
 go_enter Tryz.func184,Tryz.ntmps184
 go_upto_region 1 with fail
 go_quiet (fail)
 go_wp2_with fail
 go_ret;exact⟨rfl,d7M (zr _ _) _⟩
end Go.Proofs.YtfigmlfdnickmaaGreatDoor
