import Derived.Test.YtfigmlfdnickmaaGreatDoorL19
set_option maxRecDepth 100000
set_option maxHeartbeats 8000000
variable{nm o r s t wE wF wK wT wU x y z:ByteArray}{d fr h k m n til u:Int}{A ps ws xs:List ByteArray}{acc:List Int}{F g:Nat}{v:Go.Value}{W w w0:Go.World}
namespace Go.Proofs.YtfigmlfdnickmaaGreatDoor
open Go.RowKit
theorem f3N:∀ L:List (List UInt8),Lib.join L [32]=Txt.jb L
 |[]=>rfl
 |[x]=>by rw[Lib.join_one,Txt.b3k]
 |x :: y :: r=>by
  rw[Txt.a6Q,<- f3N (y :: r)];simp[Lib.join,List.intercalate,List.intersperse]
theorem d5Q(xs:List ByteArray):(jn xs).data.toList=Txt.jb (xs.map (·.data.toList)):=by
 unfold jn;rw[List.toList_toArray,f3N]
theorem f7c(h:∀ x∈xs,Txt.a3V x.data.toList=true):Txt.a1v (jn xs)=xs:=Txt.a5p (d5Q xs) h
structure e3n(t:ByteArray)(ws xs:List ByteArray)(v:Value):Prop where
 wd:Txt.a1v t=ws
 sz:t.size<=78
 ln:a2H ws v (ws.length,false)
 pw:PW v xs
 lx:a2H xs v (xs.length,false)
 wx:∀ x∈xs,Txt.a3V x.data.toList=true
 x0:0<xs.length
 x1:xs.length<=20
 js:(jn xs).size<=160
 tg:c2h v∈d2B
def Made(t:ByteArray):Prop:=∃ ws xs v,e3n t ws xs v
theorem e3n.odd(h:e3n t ws xs v)(ho:e3l t.data.toList o.data.toList):Reads o v :=
 a5G ((e3l.words ho).trans h.wd) (by
  have:=ho.len;rw[Txt.a1l,Txt.a1l] at this;have:=h.sz
  omega) h.ln rfl
theorem e3n.plain(h:e3n t ws xs v):Reads (jn xs) v:=a5G (f7c h.wx) h.js h.lx rfl
theorem e3n.line(h:e3n t ws xs v):∃ l,LV v l/\Desk.a1O l:=c0v h.ln rfl
theorem e3n.some(h:e3n t ws xs v):0<(jn xs).size:=by
 rw[<- Txt.a1l,d5Q];have:=h.x0
 match xs,this,h.wx with
 |x :: r,_,hw =>
  have hx:=(Txt.a8C.1 (hw x (by simp))).1;have:0<x.data.toList.length:=List.length_pos_iff.2 hx;simp only[List.map_cons,Txt.jb,List.length_append];omega
theorem d9k(ht:t.data.toList=Txt.jb (ws.map (·.data.toList)))(hw:∀ x∈ws,Txt.a3V x.data.toList=true)(hs:t.size<=78)(hl:a2H ws v (ws.length,false))(hp:PW v ws)(h0:0<ws.length)(h1:ws.length<=20)(tg:c2h v∈d2B):Made t :=
 ⟨ws,ws,v,Txt.a5p ht hw,hs,hl,hp,hl,hw,h0,h1,by
  have e:jn ws=t:=Txt.a7x ((d5Q ws).trans ht.symm);rw[e]
  omega,tg⟩
theorem e5h(hW:ws=[a9P,nm,wU,wF,wT])(hn:nmB nm=true)(hu:unB wU=true)(hf:a0n wF=true)(ht:a0n wT=true):
  a2H ws (.iface 154 (.agg #[.string nm,.int .i64 (nvF wU),.int .i64 (a1J wF),.int .i64 (a1J wT)])) (5,false):=by
 have t1:=takes (ws:=ws) (n:=1) (x:=nm) (B:=nmB) (by rw[hW];rfl) hn;have t2:=takes (ws:=ws) (n:=2) (x:=wU) (B:=unB) (by rw[hW];rfl) hu;have t3:=takes (ws:=ws) (n:=3) (x:=wF) (B:=a0n) (by rw[hW];rfl) hf;have t4:=takes (ws:=ws) (n:=4) (x:=wT) (B:=a0n) (by rw[hW];rfl) ht;have h:=a2H.book (ws:=ws) (b1P (by rw[hW];rfl));simp only[a4T,a6y,t1.1,t2.1,t2.2,t3.1,t3.2,t4.1,t4.2,a8A (ws:=ws) (n:=1) (by rw[hW];rfl) hn] at h;exact h
theorem e4E(hW:ws=[b5f,nm,wU,wF,wT,wK])(hn:nmB nm=true)(hu:unB wU=true)(hf:a0n wF=true)(ht:a0n wT=true)(hk:miB wK=true):
  a2H ws (.iface 156 (.agg #[.string nm,.int .i64 (nvF wU),.int .i64 (a1J wF),.int .i64 (a1J wT),.int .i64 (nvF wK)])) (6,false):=by
 have t1:=takes (ws:=ws) (n:=1) (x:=nm) (B:=nmB) (by rw[hW];rfl) hn;have t2:=takes (ws:=ws) (n:=2) (x:=wU) (B:=unB) (by rw[hW];rfl) hu;have t3:=takes (ws:=ws) (n:=3) (x:=wF) (B:=a0n) (by rw[hW];rfl) hf;have t4:=takes (ws:=ws) (n:=4) (x:=wT) (B:=a0n) (by rw[hW];rfl) ht;have t5:=takes (ws:=ws) (n:=5) (x:=wK) (B:=miB) (by rw[hW];rfl) hk;have h:=a2H.hold (ws:=ws) (b1P (by rw[hW];rfl));simp only[a4T,a6y,t1.1,t2.1,t2.2,t3.1,t3.2,t4.1,t4.2,t5.1,t5.2,a8A (ws:=ws) (n:=1) (by rw[hW];rfl) hn] at h;exact h
theorem e3x(hW:ws=[b4k,nm,wU,wF,wT,wK])(hn:nmB nm=true)(hu:unB wU=true)(hf:a0n wF=true)(ht:a0n wT=true)(hk:miB wK=true):
  a2H ws (.iface 157 (.agg #[.string nm,.int .i64 (nvF wU),.int .i64 (a1J wF),.int .i64 (a1J wT),.int .i64 (nvF wK)])) (6,false):=by
 have t1:=takes (ws:=ws) (n:=1) (x:=nm) (B:=nmB) (by rw[hW];rfl) hn;have t2:=takes (ws:=ws) (n:=2) (x:=wU) (B:=unB) (by rw[hW];rfl) hu;have t3:=takes (ws:=ws) (n:=3) (x:=wF) (B:=a0n) (by rw[hW];rfl) hf;have t4:=takes (ws:=ws) (n:=4) (x:=wT) (B:=a0n) (by rw[hW];rfl) ht;have t5:=takes (ws:=ws) (n:=5) (x:=wK) (B:=miB) (by rw[hW];rfl) hk;have h:=a2H.wait (ws:=ws) (b1P (by rw[hW];rfl));simp only[a4T,a6y,t1.1,t2.1,t2.2,t3.1,t3.2,t4.1,t4.2,t5.1,t5.2,a8A (ws:=ws) (n:=1) (by rw[hW];rfl) hn] at h;exact h
theorem f8T(h:b8U nm u fr til):Nm nm:=by
 rcases h.n with rfl|rfl|rfl
 ·exact c7k
 ·exact c7j
 ·exact g3c
theorem f3E(h:b8U nm u fr til):Made ((⟨#[98,111,111,107,32]⟩:ByteArray)++c5B nm u fr til):=by
 have a1:=h.u1;have a2:=h.u3;have a3:=h.f0;have a4:=h.f1;have a5:=h.t0;have a6:=h.t1;have hn:=f8T h;obtain⟨u1,u2,u3⟩:=c5P (n:=u) (by omega) (by omega);obtain⟨f1,f2,f3⟩:=b1q a3 a4;obtain⟨l1,l2,l3⟩:=b1q a5 a6;obtain⟨g1,g2,g3,g4⟩:=d8q a3 a4;obtain⟨m1,m2,m3,m4⟩:=d8q a5 a6;have hs:=b3U (nm:=nm) (u:=u) (fr:=fr) (til:=til) (by rw[hn.s];omega) ⟨by omega,by omega⟩ ⟨by omega,by omega⟩ ⟨by omega,by omega⟩;have b1:=e5h (ws:=[a9P,nm,Txt.a0x u,Txt.a0x fr,Txt.a0x til]) rfl hn.b u1 f1 l1;have b2:=e5h (ws:=[a9P,nm,Txt.a0x u,c8H fr,c8H til]) rfl hn.b u1 g1 m1;rw[u2,f2,l2] at b1;rw[u2,g2,m2] at b2;refine⟨_,_,_,Txt.a5p ?_ ?_,?_,b1,PW.book nm u fr til (by omega) (by omega) a3 a4 a5 a6,b2,?_,by simp,by simp,?_,show (154:Nat)∈d2B by decide⟩
 ·rw[c3J];simp only[List.map_cons,List.map_nil,Txt.a6Q,Txt.b3k];rfl
 ·intro x hx;simp only[List.mem_cons,List.not_mem_nil,or_false] at hx;rcases hx with rfl|rfl|rfl|rfl|rfl
  ·exact a8t.2.1
  ·exact hn.w
  ·exact u3
  ·exact f3
  ·exact l3
 ·rw[ByteArray.size_append];show 5+_<=78;omega
 ·intro x hx;simp only[List.mem_cons,List.not_mem_nil,or_false] at hx;rcases hx with rfl|rfl|rfl|rfl|rfl
  ·exact a8t.2.1
  ·exact hn.w
  ·exact u3
  ·exact g3
  ·exact m3
 ·rw[<- Txt.a1l,d5Q];simp only[List.map_cons,List.map_nil,Txt.a6Q,Txt.b3k,List.length_append,List.length_cons,Txt.a1l];have:=Txt.a0I u (by omega) (by omega);have:=hn.s;have:a9P.size=4:=rfl;omega
theorem e9Q(x:ByteArray)(nm:ByteArray)(u fr til k:Int):(((x++c5B nm u fr til)++(⟨#[32]⟩:ByteArray))++Txt.a0x k).data.toList=x.data.toList++(nm.data.toList++32 :: ((Txt.a0x u).data.toList++32 :: ((Txt.a0x fr).data.toList++32 :: ((Txt.a0x til).data.toList++32 :: (Txt.a0x k).data.toList)))):=by
 rw[Txt.a1X,Txt.a1X,c3J];simp only[List.append_assoc,List.cons_append,List.nil_append]
theorem e4f(h:b8U nm u fr til)(k0:1<=k)(k1:k<=90):Made ((((⟨#[104,111,108,100,32]⟩:ByteArray)++c5B nm u fr til)++(⟨#[32]⟩:ByteArray))++Txt.a0x k)/\Made ((((⟨#[119,97,105,116,32]⟩:ByteArray)++c5B nm u fr til)++(⟨#[32]⟩:ByteArray))++Txt.a0x k):=by
 have a1:=h.u1;have a2:=h.u3;have a3:=h.f0;have a4:=h.f1;have a5:=h.t0;have a6:=h.t1;have hn:=f8T h;obtain⟨u1,u2,u3⟩:=c5P (n:=u) (by omega) (by omega);obtain⟨f1,f2,f3⟩:=b1q a3 a4;obtain⟨l1,l2,l3⟩:=b1q a5 a6;obtain⟨g1,g2,g3,g4⟩:=d8q a3 a4;obtain⟨m1,m2,m3,m4⟩:=d8q a5 a6;obtain⟨q1,q2,q3⟩:=f5w (n:=k) k0 (by omega);have zk:=Txt.a0I k (by omega) (by omega);have zu:=Txt.a0I u (by omega) (by omega);have hs:=b3U (nm:=nm) (u:=u) (fr:=fr) (til:=til) (by rw[hn.s];omega) ⟨by omega,by omega⟩ ⟨by omega,by omega⟩ ⟨by omega,by omega⟩;constructor
 ·have b1:=e4E (ws:=[b5f,nm,Txt.a0x u,Txt.a0x fr,Txt.a0x til,Txt.a0x k]) rfl hn.b u1 f1 l1 q1;have b2:=e4E (ws:=[b5f,nm,Txt.a0x u,c8H fr,c8H til,Txt.a0x k]) rfl hn.b u1 g1 m1 q1;rw[u2,f2,l2,q2] at b1;rw[u2,g2,m2,q2] at b2;refine⟨_,_,_,Txt.a5p ?_ ?_,?_,b1,PW.hold nm u fr til k (by omega) (by omega) a3 a4 a5 a6 (by omega) (by omega),b2,?_,by simp,by simp,?_,show (156:Nat)∈d2B by decide⟩
  ·rw[e9Q];simp only[List.map_cons,List.map_nil,Txt.a6Q,Txt.b3k];rfl
  ·intro x hx;simp only[List.mem_cons,List.not_mem_nil,or_false] at hx;rcases hx with rfl|rfl|rfl|rfl|rfl|rfl
   ·exact a8t.2.2.1
   ·exact hn.w
   ·exact u3
   ·exact f3
   ·exact l3
   ·exact q3
  ·simp only[ByteArray.size_append];show 5+_+1+_<=78;omega
  ·intro x hx;simp only[List.mem_cons,List.not_mem_nil,or_false] at hx;rcases hx with rfl|rfl|rfl|rfl|rfl|rfl
   ·exact a8t.2.2.1
   ·exact hn.w
   ·exact u3
   ·exact g3
   ·exact m3
   ·exact q3
  ·rw[<- Txt.a1l,d5Q];simp only[List.map_cons,List.map_nil,Txt.a6Q,Txt.b3k,List.length_append,List.length_cons,Txt.a1l];have:=hn.s;have:b5f.size=4:=rfl;omega
 ·have b1:=e3x (ws:=[b4k,nm,Txt.a0x u,Txt.a0x fr,Txt.a0x til,Txt.a0x k]) rfl hn.b u1 f1 l1 q1;have b2:=e3x (ws:=[b4k,nm,Txt.a0x u,c8H fr,c8H til,Txt.a0x k]) rfl hn.b u1 g1 m1 q1;rw[u2,f2,l2,q2] at b1;rw[u2,g2,m2,q2] at b2;refine⟨_,_,_,Txt.a5p ?_ ?_,?_,b1,PW.wait nm u fr til k (by omega) (by omega) a3 a4 a5 a6 (by omega) (by omega),b2,?_,by simp,by simp,?_,show (157:Nat)∈d2B by decide⟩
  ·rw[e9Q];simp only[List.map_cons,List.map_nil,Txt.a6Q,Txt.b3k];rfl
  ·intro x hx;simp only[List.mem_cons,List.not_mem_nil,or_false] at hx;rcases hx with rfl|rfl|rfl|rfl|rfl|rfl
   ·exact a8t.2.2.2.1
   ·exact hn.w
   ·exact u3
   ·exact f3
   ·exact l3
   ·exact q3
  ·simp only[ByteArray.size_append];show 5+_+1+_<=78;omega
  ·intro x hx;simp only[List.mem_cons,List.not_mem_nil,or_false] at hx;rcases hx with rfl|rfl|rfl|rfl|rfl|rfl
   ·exact a8t.2.2.2.1
   ·exact hn.w
   ·exact u3
   ·exact g3
   ·exact m3
   ·exact q3
  ·rw[<- Txt.a1l,d5Q];simp only[List.map_cons,List.map_nil,Txt.a6Q,Txt.b3k,List.length_append,List.length_cons,Txt.a1l];have:=hn.s;have:b4k.size=4:=rfl;omega
theorem d9g(h:t.data.toList=x.data.toList++32 :: y.data.toList):t.data.toList=Txt.jb ([x,y].map (·.data.toList)):=by
 rw[h];simp only[List.map_cons,List.map_nil,Txt.a6Q,Txt.b3k]
theorem e6o(h0:1<=n)(h1:n<=12):Made ((⟨#[99,97,110,99,101,108,32]⟩:ByteArray)++Txt.a0x n):=by
 obtain⟨u1,u2,u3⟩:=f6A (n:=n) (by omega) (by omega);have zn:=Txt.a0I n (by omega) (by omega);have t1:=takes (ws:=[a6m,Txt.a0x n]) (n:=1) (x:=Txt.a0x n) (B:=idB) rfl u1;have h:=a2H.cancel (ws:=[a6m,Txt.a0x n]) (b1P rfl);simp only[a4T,a6y,t1.1,t1.2,u2] at h;refine d9k (ws:=[a6m,Txt.a0x n]) (d9g (by rw[Txt.a1X];rfl)) ?_ ?_ h (PW.cancel n (by omega) (by omega)) (by simp) (by simp) (show (168:Nat)∈d2B by decide)
 ·intro x hx;simp only[List.mem_cons,List.not_mem_nil,or_false] at hx;rcases hx with rfl|rfl
  ·exact a8t.2.2.2.2.1
  ·exact u3
 ·rw[ByteArray.size_append];show 7+_<=78;omega
theorem e4g(h0:1<=n)(h1:n<=12):Made ((⟨#[99,111,110,102,105,114,109,32]⟩:ByteArray)++Txt.a0x n):=by
 obtain⟨u1,u2,u3⟩:=f6A (n:=n) (by omega) (by omega);have zn:=Txt.a0I n (by omega) (by omega);have t1:=takes (ws:=[a4z,Txt.a0x n]) (n:=1) (x:=Txt.a0x n) (B:=idB) rfl u1;have h:=a2H.confirm (ws:=[a4z,Txt.a0x n]) (b1P rfl);simp only[a4T,a6y,t1.1,t1.2,u2] at h;refine d9k (ws:=[a4z,Txt.a0x n]) (d9g (by rw[Txt.a1X];rfl)) ?_ ?_ h (PW.confirm n (by omega) (by omega)) (by simp) (by simp) (show (167:Nat)∈d2B by decide)
 ·intro x hx;simp only[List.mem_cons,List.not_mem_nil,or_false] at hx;rcases hx with rfl|rfl
  ·exact a8t.2.2.2.2.2.1
  ·exact u3
 ·rw[ByteArray.size_append];show 8+_<=78;omega
theorem f3D(h0:1<=n)(h1:n<=40):Made ((⟨#[116,105,99,107,32]⟩:ByteArray)++Txt.a0x n):=by
 obtain⟨u1,u2,u3⟩:=f5w (n:=n) (by omega) (by omega);have zn:=Txt.a0I n (by omega) (by omega);have t1:=takes (ws:=[b4n,Txt.a0x n]) (n:=1) (x:=Txt.a0x n) (B:=miB) rfl u1;have h:=a2H.tick (ws:=[b4n,Txt.a0x n]) (b1P rfl);simp only[a4T,a6y,t1.1,t1.2,u2] at h;refine d9k (ws:=[b4n,Txt.a0x n]) (d9g (by rw[Txt.a1X];rfl)) ?_ ?_ h (PW.tick n (by omega) (by omega)) (by simp) (by simp) (show (182:Nat)∈d2B by decide)
 ·intro x hx;simp only[List.mem_cons,List.not_mem_nil,or_false] at hx;rcases hx with rfl|rfl
  ·exact a8t.2.2.2.2.2.2.2.2.2
  ·exact u3
 ·rw[ByteArray.size_append];show 5+_<=78;omega
theorem e9m{n:Nat}(h:ws[n]?=some x)(hxy:x≠y):isB ws n false y=false:=by
 cases hb:isB ws n false y
 ·rfl
 ·exact absurd (f4i h hb) hxy
theorem d2w:a8D≠b0Y/\a8w≠b0Y/\a8w≠a8D/\b5O≠b2z:=by
 refine⟨?_,?_,?_,?_⟩ <;> (intro h;exact absurd (congrArg (fun b=>b.data.toList) h) (by decide +kernel))
theorem g0Y{c:Nat}(h0:ws[c]?=some b0Y)(h1:ws[c+1]?=some wE)(hb:evB wE=true):b0n ws (c,false) 1 (nvF wE) [] (c+2,false):=by
 obtain⟨s1,v1⟩:=takes h1 hb;have h:=b0n.daily (ws:=ws) (st:=(c,false)) (b1P h0);have e1:nxt (c,false)=(c+1,false):=rfl;rw[e1,v1] at h;simp only[a4T,a6y,s1] at h;exact h
theorem g0X{c:Nat}(h0:ws[c]?=some a8w)(h1:ws[c+1]?=some wE)(hb:evB wE=true):b0n ws (c,false) 3 (nvF wE) [] (c+2,false):=by
 obtain⟨s1,v1⟩:=takes h1 hb;have h:=b0n.monthly (ws:=ws) (st:=(c,false)) (e9m h0 d2w.2.1) (e9m h0 d2w.2.2.1) (b1P h0);have e1:nxt (c,false)=(c+1,false):=rfl;rw[e1,v1] at h;simp only[a4T,a6y,s1] at h;exact h
theorem f8B{c:Nat}{wO:ByteArray}(h0:ws[c]?=some a8D)(h1:ws[c+1]?=some wE)(h2:ws[c+2]?=some wO)(hb:evB wE=true)(ho:Txt.onW wO=some acc):b0n ws (c,false) 2 (nvF wE) acc (c+3,false):=by
 obtain⟨s1,v1⟩:=takes h1 hb;obtain⟨s2,_⟩:=takes (B:=Txt.onB) h2 (by unfold Txt.onB;rw[ho];rfl);have e1:nxt (c,false)=(c+1,false):=rfl;have e2:a0M ws [evB] (nxt (c,false))=(c+2,false):=by rw[e1];simp only[a4T,a6y,s1]
 have h:=b0n.weekly (ws:=ws) (st:=(c,false)) (e9m h0 d2w.1) (b1P h0) acc (fun _=>by
  rw[e2,List.getD_eq_getElem?_getD,h2]
  exact ho)
 rw[e1,v1] at h;simp only[a4T,a6y,s1,s2] at h;exact h
theorem g2F{c:Nat}(h0:ws[c]?=some b2z)(h1:ws[c+1]?=some wT)(hb:evB wT=true):c3M ws (c,false) (nvF wT) 0 (c+2,false):=by
 obtain⟨s1,v1⟩:=takes h1 hb;have h:=c3M.times (ws:=ws) (st:=(c,false)) (b1P h0);have e1:nxt (c,false)=(c+1,false):=rfl;rw[e1,v1] at h;simp only[a4T,a6y,s1] at h;exact h
theorem g2E{c:Nat}(h0:ws[c]?=some b5O)(h1:ws[c+1]?=some wT)(hb:Txt.a2y wT=true):c3M ws (c,false) 0 (b0a wT) (c+2,false):=by
 obtain⟨s1,v1⟩:=takes h1 hb;have h:=c3M.til (ws:=ws) (st:=(c,false)) (e9m h0 d2w.2.2.2) (b1P h0);have e1:nxt (c,false)=(c+1,false):=rfl;rw[e1,v1] at h;simp only[a4T,a6y,s1] at h;exact h
theorem f6h{wD wM wI:ByteArray}{pc ev:Int}{c n:Nat}{ti un:Int}(h0:ws[0]?=some a7l)(h1:ws[1]?=some nm)(hn:nmB nm=true)(h2:ws[2]?=some wU)(hu:unB wU=true)(hp:b0n ws (3,false) pc ev acc (c,false))
  (f0:ws[c]?=some a1t) (f1:ws[c+1]?=some wD) (f2:ws[c+2]?=some atW) (f3:ws[c+3]?=some wM) (f4:ws[c+4]?=some b3z) (f5:ws[c+5]?=some wI) (b1:Txt.a2y wD=true) (b3:Txt.a3a wM=true) (b5:miB wI=true) (he:c3M ws (c+6,false) ti un (n,false)):
  a2H ws (.iface 165 (.agg #[.string nm,.int .i64 (nvF wU),.int .i64 pc,.int .i64 ev,.bool (isd acc 0),.bool (isd acc 1),.bool (isd acc 2),.bool (isd acc 3),.bool (isd acc 4),.bool (isd acc 5),.bool (isd acc 6),.int .i64 (b0a wD),.int .i64 (Txt.a6J wM),.int .i64 (nvF wI),.int .i64 ti,.int .i64 un])) (n,false):=by
 obtain⟨s0,_⟩:=takes f0 (e2u a1t);obtain⟨s1,v1⟩:=takes f1 b1;obtain⟨s2,_⟩:=takes f2 (e2u atW);obtain⟨s3,v3⟩:=takes f3 b3;obtain⟨s4,_⟩:=takes f4 (e2u b3z);obtain⟨s5,v5⟩:=takes f5 b5;obtain⟨t1,_⟩:=takes h1 hn;obtain⟨t2,v2⟩:=takes h2 hu;have em:c4Y ws (c,false)=(c+6,false):=by unfold c4Y;simp only[a4T,a6y,s0,s1,s2,s3,s4,s5]
 have hr:=b0m.mk (ws:=ws) (st:=(3,false)) pc ev acc (c,false) ti un (n,false) hp (by rw[em];exact he);simp only[a4T,a6y,s0,s1,s2,s3,s4,v1,v3,v5] at hr;have e2:a0M ws [nmB,unB] (1,false)=(3,false):=by simp only[a4T,a6y,t1,t2]
 have h:=a2H.series (ws:=ws) (b1P h0) pc ev acc _ _ _ ti un (n,false) (by rw[e2];exact hr);simp only[a4T,a6y,t1,v2,a8A (ws:=ws) (n:=1) h1 hn] at h;exact h
def d2Y(late:Bool)(d:Int):ByteArray:=b1O late++b8V (1+d)
def e5x(h m:Int):ByteArray:=((((⟨#[48]⟩:ByteArray)++Txt.a0x h)++(⟨#[58]⟩:ByteArray))++Txt.a0x m)++(⟨#[48]⟩:ByteArray)
theorem f4u:∀ (late:Bool)(d:Fin 28),Txt.a2y (d2Y late d.1)=true/\Txt.a3V (d2Y late d.1).data.toList=true/\(d2Y late d.1).size=10:=by decide +kernel
theorem f6O:∀ (h:Fin 3)(m:Fin 5),1<=m.1->Txt.a3a (e5x h.1 m.1)=true/\Txt.a3V (e5x h.1 m.1).data.toList=true/\(e5x h.1 m.1).size=5:=by decide +kernel
theorem e9k:∀ k:Fin 101,(Txt.a0x (k.1:Int)).size<=3/\(k.1<10->(Txt.a0x (k.1:Int)).size=1):=by decide +kernel
theorem e3a(late:Bool)(h0:0<=d)(h1:d<=27):Txt.a2y (d2Y late d)=true/\Txt.a3V (d2Y late d).data.toList=true/\(d2Y late d).size=10:=by
 obtain⟨k,rfl⟩:=Int.eq_ofNat_of_zero_le h0;exact f4u late ⟨k,by omega⟩
theorem f3w(h0:0<=h)(h1:h<=2)(m0:1<=m)(m1:m<=4):Txt.a3a (e5x h m)=true/\Txt.a3V (e5x h m).data.toList=true/\(e5x h m).size=5:=by
 obtain⟨a,rfl⟩:=Int.eq_ofNat_of_zero_le h0;obtain⟨b,rfl⟩:=Int.eq_ofNat_of_zero_le (show 0<=m by omega);exact f6O ⟨a,by omega⟩ ⟨b,by omega⟩ (by show 1<=b;omega)
theorem d3I(h0:0<=k)(h1:k<=100):(Txt.a0x k).size<=3/\(k<=9->(Txt.a0x k).size=1):=by
 obtain⟨a,rfl⟩:=Int.eq_ofNat_of_zero_le h0;exact⟨(e9k ⟨a,by omega⟩).1,fun h=>(e9k ⟨a,by omega⟩).2 (by show a<10;omega)⟩
def onK:List ByteArray:=[⟨#[109,111]⟩,⟨#[116,117,44,119,101]⟩,⟨#[115,117,44,102,114,44,109,111]⟩]
inductive PaK:List ByteArray->Prop where
 |daily (k:Int) (h0:1<=k) (h1:k<=5):PaK [b0Y,Txt.a0x k]
 |monthly (k:Int) (h0:1<=k) (h1:k<=5):PaK [a8w,Txt.a0x k]
 |weekly (k:Int) (o:ByteArray) (h0:1<=k) (h1:k<=5) (ho:o∈onK):PaK [a8D,Txt.a0x k,o]
inductive EnK:List ByteArray->Prop where
 |times (k:Int) (h0:1<=k) (h1:k<=6):EnK [b2z,Txt.a0x k]
 |til (late:Bool) (d:Int) (h0:0<=d) (h1:d<=27):EnK [b5O,d2Y late d]
def e3j(r:ByteArray):Prop:=∃ (ps es:List ByteArray)(late:Bool)(d h m k:Int),PaK ps/\EnK es/\(0<=d/\d<=27)/\(0<=h/\h<=2)/\(1<=m/\m<=4)/\(1<=k/\k<=100)/\r.data.toList=Txt.jb ((ps++[a1t,d2Y late d,atW,e5x h m,b3z,Txt.a0x k]++es).map (·.data.toList))
theorem d4E:∀ (A B:List (List UInt8)),A≠[]->B≠[]->Txt.jb (A++B)=Txt.jb A++32 :: Txt.jb B
 |[],_,h,_=>absurd rfl h
 |[x],[],_,h=>absurd rfl h
 |[x],y :: r,_,_=>by rw[Txt.b3k];rfl
 |x :: y :: r,B,_,hB=>by
  have:=d4E (y :: r) B (by simp) hB;show Txt.jb (x :: y :: (r++B))=_;rw[Txt.a6Q,Txt.a6Q];have e:y :: (r++B)=(y :: r)++B:=rfl;rw[e,this,List.append_assoc];rfl
theorem e0e{S:List ByteArray}(j:Nat):(A++S)[A.length+j]?=S[j]?:=by
 rw[List.getElem?_append_right (by omega),Nat.add_sub_cancel_left]
theorem f9D:∀ o∈onK,Txt.a3V o.data.toList=true/\o.size<=8:=by decide +kernel
theorem f3h:Txt.onW ⟨#[109,111]⟩=some [0]/\onJ [0]=⟨#[109,111]⟩:=by decide +kernel
theorem f3g:Txt.onW ⟨#[116,117,44,119,101]⟩=some [2,1]/\onJ [2,1]=⟨#[116,117,44,119,101]⟩:=by decide +kernel
theorem f0I:Txt.onW ⟨#[115,117,44,102,114,44,109,111]⟩=some [0,4,6]/\onJ [0,4,6]=⟨#[109,111,44,102,114,44,115,117]⟩/\Txt.onW ⟨#[109,111,44,102,114,44,115,117]⟩=some [6,4,0]/\Txt.a3V (⟨#[109,111,44,102,114,44,115,117]⟩:ByteArray).data.toList=true:=by decide +kernel
theorem g1g(h:o∈onK):∃ acc acc',Txt.onW o=some acc/\Txt.onW (onJ acc)=some acc'/\(∀ j:Fin 7,isd acc' (j.1:Int)=isd acc (j.1:Int))/\Txt.a3V (onJ acc).data.toList=true/\(onJ acc).size<=8:=by
 unfold onK at h;simp only[List.mem_cons,List.not_mem_nil,or_false] at h;rcases h with rfl|rfl|rfl
 ·exact⟨[0],[0],f3h.1,by rw[f3h.2];exact f3h.1,by decide,by rw[f3h.2];decide +kernel,by rw[f3h.2];decide⟩
 ·exact⟨[2,1],[2,1],f3g.1,by rw[f3g.2];exact f3g.1,by decide,by rw[f3g.2];decide +kernel,by rw[f3g.2];decide⟩
 ·exact⟨[0,4,6],[6,4,0],f0I.1,by rw[f0I.2.1];exact f0I.2.2.1,by decide,by rw[f0I.2.1];exact f0I.2.2.2,by rw[f0I.2.1];decide⟩
structure PaU(ps qs:List ByteArray)(pc ev:Int)(acc acc':List Int):Prop where
 l:qs.length=ps.length
 n:ps.length<=3
 n0:0<ps.length
 rd:∀ (a b c:ByteArray) (S:List ByteArray),b0n ([a,b,c]++ps++S) (3,false) pc ev acc (3+ps.length,false)
 rq:∀ (a b c:ByteArray) (S:List ByteArray),b0n ([a,b,c]++qs++S) (3,false) pc ev acc' (3+ps.length,false)
 same:∀ j:Fin 7,isd acc' (j.1:Int)=isd acc (j.1:Int)
 pw:PaW pc ev acc qs
 wp:∀ x∈ps,Txt.a3V x.data.toList=true
 wq:∀ x∈qs,Txt.a3V x.data.toList=true
 sp:(Txt.jb (ps.map (·.data.toList))).length<=17
 sq:(Txt.jb (qs.map (·.data.toList))).length<=17
theorem PaK.use(h:PaK ps):∃ qs pc ev acc acc',PaU ps qs pc ev acc acc':=by
 obtain⟨l1,l2,l3,l4,l5,l6,l7,l8⟩:=e6p
 cases h with
 |daily k h0 h1 =>
  obtain⟨a,b,c⟩:=f7Q (n:=k) h0 (by omega);have z:=(d3I (k:=k) (by omega) (by omega)).2 (by omega)
  have w:∀ x∈[b0Y,Txt.a0x k],Txt.a3V x.data.toList=true:=by
   intro x hx;simp only[List.mem_cons,List.not_mem_nil,or_false] at hx;rcases hx with rfl|rfl
   ·exact l2
   ·exact c
  have s:(Txt.jb ([b0Y,Txt.a0x k].map (·.data.toList))).length<=17:=by
   simp only[List.map_cons,List.map_nil,Txt.a6Q,Txt.b3k,List.length_append,List.length_cons,Txt.a1l];have:b0Y.size=5:=rfl;omega
  have r:∀ (x y z:ByteArray) (S:List ByteArray),b0n ([x,y,z]++[b0Y,Txt.a0x k]++S) (3,false) 1 k [] (3+2,false):=fun x y z S=>by
   have:=g0Y (ws:=[x,y,z]++[b0Y,Txt.a0x k]++S) (c:=3) (wE:=Txt.a0x k) rfl rfl a;rw[b] at this;exact this
  exact⟨_,1,k,[],[],rfl,by simp,by simp,r,r,fun _=>rfl,PaW.daily k [] (by omega) (by omega),w,w,s,s⟩
 |monthly k h0 h1 =>
  obtain⟨a,b,c⟩:=f7Q (n:=k) h0 (by omega);have z:=(d3I (k:=k) (by omega) (by omega)).2 (by omega)
  have w:∀ x∈[a8w,Txt.a0x k],Txt.a3V x.data.toList=true:=by
   intro x hx;simp only[List.mem_cons,List.not_mem_nil,or_false] at hx;rcases hx with rfl|rfl
   ·exact l4
   ·exact c
  have s:(Txt.jb ([a8w,Txt.a0x k].map (·.data.toList))).length<=17:=by
   simp only[List.map_cons,List.map_nil,Txt.a6Q,Txt.b3k,List.length_append,List.length_cons,Txt.a1l];have:a8w.size=7:=rfl;omega
  have r:∀ (x y z:ByteArray) (S:List ByteArray),b0n ([x,y,z]++[a8w,Txt.a0x k]++S) (3,false) 3 k [] (3+2,false):=fun x y z S=>by
   have:=g0X (ws:=[x,y,z]++[a8w,Txt.a0x k]++S) (c:=3) (wE:=Txt.a0x k) rfl rfl a;rw[b] at this;exact this
  exact⟨_,3,k,[],[],rfl,by simp,by simp,r,r,fun _=>rfl,PaW.monthly k [] (by omega) (by omega),w,w,s,s⟩
 |weekly k o h0 h1 ho =>
  obtain⟨a,b,c⟩:=f7Q (n:=k) h0 (by omega);have z:=(d3I (k:=k) (by omega) (by omega)).2 (by omega);obtain⟨acc,acc',e1,e2,e3,e4,e5⟩:=g1g ho;obtain⟨o1,o2⟩:=f9D o ho;refine⟨[a8D,Txt.a0x k,onJ acc],2,k,acc,acc',rfl,by simp,by simp,?_,?_,e3,PaW.weekly k acc (by omega) (by omega) (g1f e1) (f3e acc),?_,?_,?_,?_⟩
  ·intro x y z S;have:=f8B (ws:=[x,y,z]++[a8D,Txt.a0x k,o]++S) (c:=3) (wE:=Txt.a0x k) (wO:=o) rfl rfl rfl a e1;rw[b] at this;exact this
  ·intro x y z S;have:=f8B (ws:=[x,y,z]++[a8D,Txt.a0x k,onJ acc]++S) (c:=3) (wE:=Txt.a0x k) (wO:=onJ acc) rfl rfl rfl a e2;rw[b] at this;exact this
  ·intro x hx;simp only[List.mem_cons,List.not_mem_nil,or_false] at hx;rcases hx with rfl|rfl|rfl
   ·exact l3
   ·exact c
   ·exact o1
  ·intro x hx;simp only[List.mem_cons,List.not_mem_nil,or_false] at hx;rcases hx with rfl|rfl|rfl
   ·exact l3
   ·exact c
   ·exact e4
  ·simp only[List.map_cons,List.map_nil,Txt.a6Q,Txt.b3k,List.length_append,List.length_cons,Txt.a1l];have:a8D.size=6:=rfl;omega
  ·simp only[List.map_cons,List.map_nil,Txt.a6Q,Txt.b3k,List.length_append,List.length_cons,Txt.a1l];have:a8D.size=6:=rfl;omega
structure EnU(es:List ByteArray)(ti un:Int):Prop where
 n:es.length=2
 rd:∀ P:List ByteArray,c3M (P++es) (P.length,false) ti un (P.length+2,false)
 pw:EnW ti un es
 wd:∀ x∈es,Txt.a3V x.data.toList=true
 sz:(Txt.jb (es.map (·.data.toList))).length<=16
theorem EnK.use{es:List ByteArray}(h:EnK es):∃ ti un,EnU es ti un:=by
 obtain⟨l1,l2,l3,l4,l5,l6,l7,l8⟩:=e6p
 cases h with
 |times k h0 h1 =>
  obtain⟨a,b,c⟩:=f7Q (n:=k) h0 (by omega);have z:=(d3I (k:=k) (by omega) (by omega)).2 (by omega);refine⟨k,0,rfl,fun P=>?_,EnW.times k 0 (by omega) (by omega),?_,?_⟩
  ·have:=g2F (ws:=P++[b2z,Txt.a0x k]) (c:=P.length) (wT:=Txt.a0x k) (e0e 0) (e0e 1) a;rw[b] at this;exact this
  ·intro x hx;simp only[List.mem_cons,List.not_mem_nil,or_false] at hx;rcases hx with rfl|rfl
   ·exact l8
   ·exact c
  ·simp only[List.map_cons,List.map_nil,Txt.a6Q,Txt.b3k,List.length_append,List.length_cons,Txt.a1l];have:b2z.size=5:=rfl;omega
 |til late d h0 h1 =>
  obtain⟨a,b,c⟩:=e3a late h0 h1;have hd:=c1g a;have hb:=e5c _ a;refine⟨0,b0a (d2Y late d),rfl,fun P=>?_,?_,?_,?_⟩
  ·exact g2E (ws:=P++[b5O,d2Y late d]) (c:=P.length) (wT:=d2Y late d) (e0e 0) (e0e 1) a
  ·have:=EnW.til (b0a (d2Y late d)) (by omega) (by omega);rw[hb] at this;exact this
  ·intro x hx;simp only[List.mem_cons,List.not_mem_nil,or_false] at hx;rcases hx with rfl|rfl
   ·decide +kernel
   ·exact b
  ·simp only[List.map_cons,List.map_nil,Txt.a6Q,Txt.b3k,List.length_append,List.length_cons,Txt.a1l];have:b5O.size=5:=rfl;omega
theorem d8A{B:List ByteArray}(ha:∀ x∈A,Txt.a3V x.data.toList=true)(hb:∀ x∈B,Txt.a3V x.data.toList=true):∀ x∈A++B,Txt.a3V x.data.toList=true:=fun x hx=>by
 rcases List.mem_append.1 hx with hx|hx
 ·exact ha x hx
 ·exact hb x hx
theorem e6n(hz:z=⟨#[97,32,49,32]⟩\/z=⟨#[98,32,50,32]⟩)(hr:e3j r):Made (((⟨#[115,101,114,105,101,115,32]⟩:ByteArray)++z)++r):=by
 obtain⟨l1,l2,l3,l4,l5,l6,l7,l8⟩:=e6p;obtain⟨ps,es,late,d,h,m,k,hp,he,⟨d0,d1⟩,⟨h0,h1⟩,⟨m0,m1⟩,⟨k0,k1⟩,ht⟩:=hr;obtain⟨qs,pc,ev,acc,acc',P⟩:=hp.use;obtain⟨ti,un,E⟩:=he.use;obtain⟨da,db,dc⟩:=e3a late d0 d1;obtain⟨ma,mb,mc⟩:=f3w h0 h1 m0 m1;obtain⟨ka,kb,kc⟩:=f5w (n:=k) k0 (by omega);have kz:=(d3I (k:=k) (by omega) k1).1
 obtain⟨nm,u,hn,u0,u1,ez⟩:∃ (nm:ByteArray) (u:Int),Nm nm/\1<=u/\u<=2/\z.data.toList=nm.data.toList++32 :: ((Txt.a0x u).data.toList++[32]):=by
  rcases hz with rfl|rfl
  ·exact⟨⟨#[97]⟩,1,c7k,by omega,by omega,by decide +kernel⟩
  ·exact⟨⟨#[98]⟩,2,c7j,by omega,by omega,by decide +kernel⟩
 obtain⟨ua,ub,uc⟩:=c5P (n:=u) u0 (by omega);have uz:=(d3I (k:=u) (by omega) (by omega)).2 (by omega);generalize hsix:[a1t,d2Y late d,atW,e5x h m,b3z,Txt.a0x k]=six at ht
 have six_w:∀ x∈six,Txt.a3V x.data.toList=true:=by
  rw[<- hsix];intro x hx;simp only[List.mem_cons,List.not_mem_nil,or_false] at hx;rcases hx with rfl|rfl|rfl|rfl|rfl|rfl
  ·exact l5
  ·exact db
  ·exact l6
  ·exact mb
  ·exact l7
  ·exact kc
 have six_s:(Txt.jb (six.map (·.data.toList))).length<=32:=by
  rw[<- hsix];simp only[List.map_cons,List.map_nil,Txt.a6Q,Txt.b3k,List.length_append,List.length_cons,Txt.a1l];have:a1t.size=4:=rfl;have:atW.size=2:=rfl;have:b3z.size=3:=rfl;omega
 have six_n:six≠[]:=by rw[<- hsix];simp
 have six_l:six.length=6:=by rw[<- hsix];rfl
 have es_n:es≠[]:=by intro e;have:=E.n;rw[e] at this;simp at this
 have line:∀ (A:List ByteArray) (acc:List Int),A.length=ps.length->(∀ (S:List ByteArray),b0n ([a7l,nm,Txt.a0x u]++A++S) (3,false) pc ev acc (3+ps.length,false))->a2H ([a7l,nm,Txt.a0x u]++A++six++es) (.iface 165 (.agg #[.string nm,.int .i64 u,.int .i64 pc,.int .i64 ev,.bool (isd acc 0),.bool (isd acc 1),.bool (isd acc 2),.bool (isd acc 3),.bool (isd acc 4),.bool (isd acc 5),.bool (isd acc 6),.int .i64 (b0a (d2Y late d)),.int .i64 (Txt.a6J (e5x h m)),.int .i64 k,.int .i64 ti,.int .i64 un])) (([a7l,nm,Txt.a0x u]++A++six++es).length,false):=by
  intro A acc hA hPa;have hl:([a7l,nm,Txt.a0x u]++A).length=3+ps.length:=by rw[List.length_append,hA];rfl
  have hat:∀ j,j<6->([a7l,nm,Txt.a0x u]++A++six++es)[3+ps.length+j]?=six[j]?:=fun j hj=>by
   rw[List.append_assoc,<- hl,e0e,List.getElem?_append_left (by omega)]
  have hend:=E.rd ([a7l,nm,Txt.a0x u]++A++six);have hl2:([a7l,nm,Txt.a0x u]++A++six).length=3+ps.length+6:=by rw[List.length_append,hl,six_l]
  rw[hl2] at hend;have hpc:=hPa (six++es);rw[<- List.append_assoc] at hpc;have hl3:([a7l,nm,Txt.a0x u]++A++six++es).length=3+ps.length+6+2:=by rw[List.length_append,hl2,E.n]
  rw[hl3]
  have:=f6h (ws:=[a7l,nm,Txt.a0x u]++A++six++es) (nm:=nm) (wU:=Txt.a0x u) (wD:=d2Y late d) (wM:=e5x h m) (wI:=Txt.a0x k) rfl rfl hn.b rfl ua hpc
   (by rw[<- Nat.add_zero (3+ps.length),hat 0 (by omega),<- hsix];rfl) (by rw[hat 1 (by omega),<- hsix];rfl) (by rw[hat 2 (by omega),<- hsix];rfl) (by rw[hat 3 (by omega),<- hsix];rfl) (by rw[hat 4 (by omega),<- hsix];rfl) (by rw[hat 5 (by omega),<- hsix];rfl) da ma ka hend
  rw[ub,kb] at this;exact this
 have hd:=c1g da;have hmb:=c6h ma
 have wds:∀ A:List ByteArray,(∀ x∈A,Txt.a3V x.data.toList=true)->∀ x∈[a7l,nm,Txt.a0x u]++A++six++es,Txt.a3V x.data.toList=true:=fun A hA=>by
  refine d8A (d8A (d8A ?_ hA) six_w) E.wd;intro x hx;simp only[List.mem_cons,List.not_mem_nil,or_false] at hx;rcases hx with rfl|rfl|rfl
  ·decide +kernel
  ·exact hn.w
  ·exact uc
 have txt:∀ A:List ByteArray,0<A.length->Txt.jb (([a7l,nm,Txt.a0x u]++A++six++es).map (·.data.toList))=a7l.data.toList++32 :: (nm.data.toList++32 :: ((Txt.a0x u).data.toList++32 :: (Txt.jb (A.map (·.data.toList))++32 :: (Txt.jb (six.map (·.data.toList))++32 :: Txt.jb (es.map (·.data.toList)))))):=fun A hA=>by
  have hAn:A.map (·.data.toList)≠[]:=by intro e;rw[List.map_eq_nil_iff] at e;rw[e] at hA;simp at hA
  rw[List.map_append,List.map_append,List.map_append,d4E _ _ (by simp) (by simpa using es_n),d4E _ _ (by simp) (by simpa using six_n),d4E _ _ (by simp) hAn];simp only[List.map_cons,List.map_nil,Txt.a6Q,Txt.b3k,List.append_assoc,List.cons_append]
 have hps:0<ps.length:=P.n0;have e1:=line ps acc rfl (fun S=>P.rd _ _ _ S);have e2:=line qs acc' P.l (fun S=>P.rq _ _ _ S);rw[show isd acc' 0=isd acc 0 from P.same 0,show isd acc' 1=isd acc 1 from P.same 1,show isd acc' 2=isd acc 2 from P.same 2,show isd acc' 3=isd acc 3 from P.same 3,show isd acc' 4=isd acc 4 from P.same 4,show isd acc' 5=isd acc 5 from P.same 5,show isd acc' 6=isd acc 6 from P.same 6] at e2
 have pw:PW (.iface 165 (.agg #[.string nm,.int .i64 u,.int .i64 pc,.int .i64 ev,.bool (isd acc 0),.bool (isd acc 1),.bool (isd acc 2),.bool (isd acc 3),.bool (isd acc 4),.bool (isd acc 5),.bool (isd acc 6),.int .i64 (b0a (d2Y late d)),.int .i64 (Txt.a6J (e5x h m)),.int .i64 k,.int .i64 ti,.int .i64 un])) ([a7l,nm,Txt.a0x u]++qs++six++es):=by
  have hrw:=RW.mk pc ev acc (b0a (d2Y late d)) (Txt.a6J (e5x h m)) k ti un qs es P.pw E.pw (by omega) (by omega) (by omega) (by omega) (by omega) (by omega)
  have e6:e7C (b0a (d2Y late d)) (Txt.a6J (e5x h m)) k=six:=by
   unfold e7C;rw[e5c _ da,f6M _ ma,hsix]
  rw[e6] at hrw;have:=PW.series nm u pc ev acc _ _ k ti un _ (by omega) (by omega) hrw;rw[List.append_assoc,List.append_assoc,<- List.append_assoc qs];exact this
 have eT:((((⟨#[115,101,114,105,101,115,32]⟩:ByteArray)++z)++r)).data.toList=Txt.jb (([a7l,nm,Txt.a0x u]++ps++six++es).map (·.data.toList)):=by
  have hpn:ps.map (·.data.toList)≠[]:=by intro e;rw[List.map_eq_nil_iff] at e;rw[e] at hps;simp at hps
  rw[Txt.a1X,Txt.a1X,ez,ht,txt ps hps,List.map_append,List.map_append,d4E _ _ (by simp[hsix.symm]) (by simpa using es_n),d4E _ _ hpn (by simpa using six_n)];have es7:(⟨#[115,101,114,105,101,115,32]⟩:ByteArray).data.toList=a7l.data.toList++[32]:=by decide +kernel
  rw[es7];simp only[List.append_assoc,List.cons_append,List.nil_append]
 refine⟨_,_,_,Txt.a5p eT (wds ps P.wp),?_,e1,pw,e2,wds qs P.wq,?_,?_,?_,show (165:Nat)∈d2B by decide⟩
 ·rw[<- Txt.a1l,eT,txt ps hps];simp only[List.length_append,List.length_cons,Txt.a1l];have:=P.sp;have:=E.sz;have:=hn.s;have:a7l.size=6:=rfl;omega
 ·simp only[List.length_append,List.length_cons,List.length_nil];omega
 ·simp only[List.length_append,List.length_cons,List.length_nil];have:=P.l;have:=P.n;have:=E.n;omega
 ·rw[<- Txt.a1l,d5Q,txt qs (by rw[P.l];exact hps)];simp only[List.length_append,List.length_cons,Txt.a1l];have:=P.sq;have:=E.sz;have:=hn.s;have:a7l.size=6:=rfl;omega
def g2S(v:Int)(x:ByteArray):Prop:=(v=1/\x=⟨#[119,101,101,107,108,121,32]⟩)\/(v≠1/\(x=⟨#[100,97,105,108,121,32]⟩\/x=⟨#[109,111,110,116,104,108,121,32]⟩))
def PTx(x:ByteArray):Prop:=∃ ps,PaK ps/\x.data.toList=Txt.jb (ps.map (·.data.toList))
def YK(v:Int)(y:ByteArray):Prop:=(v=1->∃ k,1<=k/\k<=5/\y.data.toList=a8D.data.toList++32 :: (Txt.a0x k).data.toList)/\(v≠1->PTx y)
theorem g2i{v:Int}(h:g2S v x)(h0:1<=k)(h1:k<=5):YK v (x++Txt.a0x k):=by
 rcases h with ⟨e,rfl⟩|⟨e,rfl|rfl⟩
 ·exact⟨fun _=>⟨k,h0,h1,by rw[Txt.a1X];rfl⟩,fun h=>absurd e h⟩
 ·exact⟨fun h=>absurd h e,fun _=>⟨_,PaK.daily k h0 h1,by rw[Txt.a1X];simp only[List.map_cons,List.map_nil,Txt.a6Q,Txt.b3k];rfl⟩⟩
 ·exact⟨fun h=>absurd h e,fun _=>⟨_,PaK.monthly k h0 h1,by rw[Txt.a1X];simp only[List.map_cons,List.map_nil,Txt.a6Q,Txt.b3k];rfl⟩⟩
theorem f6y(h:YK 1 y)(hz:∃ o,o∈onK/\z.data.toList=32 :: o.data.toList):PTx (y++z):=by
 obtain⟨k,h0,h1,e⟩:=h.1 rfl;obtain⟨o,ho,ez⟩:=hz;refine⟨_,PaK.weekly k o h0 h1 ho,?_⟩;rw[Txt.a1X,e,ez];simp only[List.map_cons,List.map_nil,Txt.a6Q,Txt.b3k,List.append_assoc,List.cons_append]
def g2g(y:ByteArray):Prop:=∃ (ps:List ByteArray)(late:Bool)(d h m k:Int),PaK ps/\(0<=d/\d<=27)/\(0<=h/\h<=2)/\(1<=m/\m<=4)/\(1<=k/\k<=100)/\y.data.toList=Txt.jb ((ps++[a1t,d2Y late d,atW,e5x h m,b3z,Txt.a0x k]).map (·.data.toList))
theorem f8A(h:PaK ps):ps.map (·.data.toList)≠[]:=by
 cases h <;> simp
theorem g2w{dS:ByteArray}{late:Bool}(hx:PTx x)(hd:b1O late++b8V (1+d)=dS)(d0:0<=d)(d1:d<=27)(h0:0<=h)(h1:h<=2)(m0:1<=m)(m1:m<=4)(k0:1<=k)(k1:k<=100):
  g2g ((((((((x++(⟨#[32,102,114,111,109,32]⟩:ByteArray))++dS)++(⟨#[32,97,116,32,48]⟩:ByteArray))++Txt.a0x h)++(⟨#[58]⟩:ByteArray))++Txt.a0x m)++(⟨#[48,32,102,111,114,32]⟩:ByteArray))++Txt.a0x k):=by
 obtain⟨ps,hp,e⟩:=hx;refine⟨ps,late,d,h,m,k,hp,⟨d0,d1⟩,⟨h0,h1⟩,⟨m0,m1⟩,⟨k0,k1⟩,?_⟩
 have e4:(e5x h m).data.toList=48 :: ((Txt.a0x h).data.toList++58 :: ((Txt.a0x m).data.toList++[48])):=by
  unfold e5x;simp only[Txt.a1X];simp only[List.append_assoc];rfl
 rw[List.map_append,d4E _ _ (f8A hp) (by simp),<- e,<- hd];simp only[Txt.a1X,List.map_cons,List.map_nil,Txt.a6Q,Txt.b3k,e4,List.append_assoc,List.cons_append,List.nil_append,d2Y];rfl
theorem f6i(h:g2g y){late:Bool}(d0:0<=d)(d1:d<=27):e3j ((y++(⟨#[32,117,110,116,105,108,32]⟩:ByteArray))++(b1O late++b8V (1+d))):=by
 obtain⟨ps,late',d',h,m,k,hp,a1,a2,a3,a4,e⟩:=h;refine⟨ps,_,late',d',h,m,k,hp,EnK.til late d d0 d1,a1,a2,a3,a4,?_⟩;have e1:(⟨#[32,117,110,116,105,108,32]⟩:ByteArray).data.toList=32 :: (b5O.data.toList++[32]):=by decide +kernel
 rw[List.map_append,d4E _ _ (by simp) (by simp),<- e,Txt.a1X,Txt.a1X,e1];simp only[List.map_cons,List.map_nil,Txt.a6Q,Txt.b3k,List.append_assoc,List.cons_append,List.nil_append,d2Y]
theorem f0B(h:g2g y)(n0:1<=n)(n1:n<=6):e3j ((y++(⟨#[32,116,105,109,101,115,32]⟩:ByteArray))++Txt.a0x n):=by
 obtain⟨ps,late',d',h,m,k,hp,a1,a2,a3,a4,e⟩:=h;refine⟨ps,_,late',d',h,m,k,hp,EnK.times n n0 n1,a1,a2,a3,a4,?_⟩;have e1:(⟨#[32,116,105,109,101,115,32]⟩:ByteArray).data.toList=32 :: (b2z.data.toList++[32]):=by decide +kernel
 rw[List.map_append,d4E _ _ (by simp) (by simp),<- e,Txt.a1X,Txt.a1X,e1];simp only[List.map_cons,List.map_nil,Txt.a6Q,Txt.b3k,List.append_assoc,List.cons_append,List.nil_append]
theorem f1e(h:FW w0 F s w):
  Calls Tryz.prog 49 #[.pointer (some ⟨F,0,none⟩)] w fun e w'=>∃ t,e=.returned (.string t)/\e3j t/\FW w0 F s w':=by
 have HA:=a0b h;clear h
 go_enter Tryz.func49,Tryz.ntmps49
 go_upto_region 4 with (first
  |(go_at_call 26;refine (a1h HA.out 4 (by omega) (by omega)).mono ?_;rintro e w1 ⟨v1,rfl,a1,b1,ha1⟩;have HA1:=a0b ha1;clear ha1))
 replace HA:=HA1;clear HA1
 rename_i K8 h8 K5 h5
 have KK8:∀ (t8 t9 t10 t11 t12 t13 t14:Value) (x:ByteArray) (W:World),x.size<=8->g2S v1 x->FW w0 F s W->K8 { tmps:=#[.pointer (some ⟨F,0,none⟩),undef,.string ⟨#[]⟩,.string x,.int .i64 v1,undef,undef,undef,t8,t9,t10,t11,t12,t13,t14,undef,undef,undef,undef,undef,undef,undef,undef,undef,undef,undef,undef,undef,undef,undef,undef,undef,undef,undef,undef,undef,undef,undef,undef,undef,undef,undef,undef,undef,undef,undef,undef,undef,undef,undef,undef,undef,undef,undef,undef,undef,undef,undef,undef,undef,undef,undef,undef,undef,undef,undef,undef,undef,undef,undef,undef,undef,undef,undef,undef,undef,undef,undef,undef,undef],defers:=[] } W:=by
  intro t8 t9 t10 t11 t12 t13 t14 x W hz8 hx hW;refine h8 _ _ ?_;clear h8 h5 HA;have HA:=a0b hW;have HX:=a0b hx;clear hW hx
  go_upto_region 9 with (first
   |(go_at_call 26;refine (a1h HA.out 5 (by omega) (by omega)).mono ?_;rintro e w2 ⟨v2,rfl,a2,b2,ha⟩;replace HA:=a0b ha;clear ha;have k2:IntKind.i64.wrap (1+v2)=1+v2:=a0G (by omega) (by omega))
   |(go_at_call 22;refine (a3L HA.out (1+v2) (by omega) (by omega)).mono ?_;rintro e w3 ⟨rfl,ha⟩;replace HA:=a0b ha;clear ha;have z2:=Txt.a0I (1+v2) (by omega) (by omega)))
  have zx:(x++Txt.a0x (1+v2)).size<=15:=by rw[ByteArray.size_append];omega
  have HY:Hid (YK v1 (x++Txt.a0x (1+v2))):=g2i HX.out (by omega) (by omega);generalize x++Txt.a0x (1+v2)=y at HY zx ⊢;generalize Txt.a0x (1+v2)=y2;clear k2 HX z2 hz8
  rename_i K12 h12 K9 h9
  have KK12:∀ (t5 t8 t9 t10 t11 t12 t13 t14 t15 t16 t17 t18 t19 t20 t21 t22 t23 t24 t25 t26 t27 t28 t29 t30:Value) (x:ByteArray) (W:World),x.size<=24->PTx x->FW w0 F s W->K12 { tmps:=#[.pointer (some ⟨F,0,none⟩),undef,.string ⟨#[]⟩,.string x,.int .i64 v1,t5,undef,undef,t8,t9,t10,t11,t12,t13,t14,t15,t16,t17,t18,t19,t20,t21,t22,t23,t24,t25,t26,t27,t28,t29,t30,undef,undef,undef,undef,undef,undef,undef,undef,undef,undef,undef,undef,undef,undef,undef,undef,undef,undef,undef,undef,undef,undef,undef,undef,undef,undef,undef,undef,undef,undef,undef,undef,undef,undef,undef,undef,undef,undef,undef,undef,undef,undef,undef,undef,undef,undef,undef,undef,undef],defers:=[] } W:=by
   intro t5 t8 t9 t10 t11 t12 t13 t14 t15 t16 t17 t18 t19 t20 t21 t22 t23 t24 t25 t26 t27 t28 t29 t30 x W hz24 hx hW;refine h12 _ _ ?_;clear h12 h9 HA;have HA:=a0b hW;have HX:=a0b hx;clear hW hx HY zx
   go_upto_region 13 with (first
    |(go_at_call 26;refine (a1h HA.out 6 (by omega) (by omega)).mono ?_;rintro e w4 ⟨v4,rfl,a4,b4,ha⟩;replace HA:=a0b ha;clear ha))
   go_upto_region 14 with (first
    |(go_at_call 26;refine (a1h HA.out 28 (by omega) (by omega)).mono ?_;rintro e w5 ⟨v5,rfl,a5,b5,ha⟩;replace HA:=a0b ha;clear ha))
   generalize (v4==1)=late;have DT:=a0b (fun W (hW:FW w0 F s W)=>b3j hW v5 late (by omega) (by omega))
   have zl:(b1O late++b8V (1+v5)).size<=15:=by
    have:=b2V (n:=1+v5) (by omega) (by omega);have:(b1O late).size=8:=by cases late <;> rfl
    rw[ByteArray.size_append];omega
   have DT2:=a0b (fun W n (hn:0<=n/\n<=60) (hW:FW w0 F s W)=>b3j hW n late (by omega) (by omega));generalize hD:b1O late++b8V (1+v5)=dS at DT zl;have HD:=a0b hD;clear hD
   go_upto_region 15 with (first
    |(go_at_call 68;refine (DT.out _ HA.out).mono ?_;rintro e w6 ⟨rfl,ha⟩;replace HA:=a0b ha;clear ha DT)
    |(go_at_call 26;refine (a1h HA.out _ (by first|exact (by decide:(1:Int)<=3)|exact (by decide:(1:Int)<=4)|exact (by decide:(1:Int)<=100)) (by first|exact (by decide:(3:Int)<=1000)|exact (by decide:(4:Int)<=1000)|exact (by decide:(100:Int)<=1000))).mono ?_;rintro e w7 ⟨v7,rfl,a7,b7,ha⟩;replace HA:=a0b ha;clear ha;have k7:IntKind.i64.wrap (1+v7)=1+v7:=a0G (by omega) (by omega);have z7:=Txt.a0I v7 (by omega) (by omega);have z8:=Txt.a0I (1+v7) (by omega) (by omega))
    |(go_at_call 22;refine (a3L HA.out _ (by omega) (by omega)).mono ?_;rintro e w8 ⟨rfl,ha⟩;replace HA:=a0b ha;clear ha))
   rename_i wa va a7a b7a k7a z7a z8a wb wc vc a7c b7c k7c z7c z8c wd K17 h17 K16 h16
   have zz:((((((((x++(⟨#[32,102,114,111,109,32]⟩:ByteArray))++dS)++(⟨#[32,97,116,32,48]⟩:ByteArray))++Txt.a0x va)++(⟨#[58]⟩:ByteArray))++Txt.a0x (1+vc))++(⟨#[48,32,102,111,114,32]⟩:ByteArray))++Txt.a0x (1+v7)).size<=90:=by
    simp only[ByteArray.size_append];show x.size+6+dS.size+5+_+1+_+6+_<=90;omega
   have HM:Hid (g2g ((((((((x++(⟨#[32,102,114,111,109,32]⟩:ByteArray))++dS)++(⟨#[32,97,116,32,48]⟩:ByteArray))++Txt.a0x va)++(⟨#[58]⟩:ByteArray))++Txt.a0x (1+vc))++(⟨#[48,32,102,111,114,32]⟩:ByteArray))++Txt.a0x (1+v7))):=g2w HX.out HD.out (by omega) (by omega) (by omega) (by omega) (by omega) (by omega) (by omega) (by omega);generalize (((((((x++(⟨#[32,102,114,111,109,32]⟩:ByteArray))++dS)++(⟨#[32,97,116,32,48]⟩:ByteArray))++Txt.a0x va)++(⟨#[58]⟩:ByteArray))++Txt.a0x (1+vc))++(⟨#[48,32,102,111,114,32]⟩:ByteArray))++Txt.a0x (1+v7)=y at HM zz ⊢;clear k7a z7a z8a k7c z7c z8c k7 z7 z8 zl HX HD;have k5:IntKind.i64.wrap (28-v5)=28-v5:=a0G (by omega) (by omega);have H17:=a0b h17;clear h17
   go_upto_region 16 with (first
    |(go_at_call 26;refine (a1h HA.out 2 (by omega) (by omega)).mono ?_;rintro e w9 ⟨v8,rfl,a8,b8,ha⟩;replace HA:=a0b ha;clear ha))
   ·clear H17
    go_wp2_with (first
     |(go_at_call 26;refine (a1h HA.out (28-v5) (by omega) (by omega)).mono ?_;rintro e w9 ⟨v9,rfl,a9,b9,ha⟩;replace HA:=a0b ha;clear ha;have k9:IntKind.i64.wrap (v5+v9)=v5+v9:=a0G (by omega) (by omega))
     |(go_at_call 68;refine (DT2.out _ (v5+v9) (by omega) HA.out).mono ?_;rintro e w10 ⟨rfl,ha⟩;replace HA:=a0b ha;clear ha;have zl:(b1O late++b8V (1+(v5+v9))).size<=15:=(by
       have:=b2V (n:=1+(v5+v9)) (by omega) (by omega);have:(b1O late).size=8:=by cases late <;> rfl
       rw[ByteArray.size_append];omega);generalize hD2:b1O late++b8V (1+(v5+v9))=dS2 at zl ⊢;have HD2:=a0b hD2;clear hD2))
    go_ret;exact⟨_,rfl,by rw[<- HD2.out];exact f6i HM.out (by omega) (by omega),HA.out⟩
   ·refine H17.out _ _ ?_;clear H17
    go_wp2_with (first
     |(go_at_call 26;refine (a1h HA.out 6 (by omega) (by omega)).mono ?_;rintro e w9 ⟨v9,rfl,a9,b9,ha⟩;replace HA:=a0b ha;clear ha;have k9:IntKind.i64.wrap (1+v9)=1+v9:=a0G (by omega) (by omega);have z9:=Txt.a0I (1+v9) (by omega) (by omega))
     |(go_at_call 22;refine (a3L HA.out _ (by omega) (by omega)).mono ?_;rintro e w8 ⟨rfl,ha⟩;replace HA:=a0b ha;clear ha))
    go_ret;exact⟨_,rfl,f0B HM.out (by omega) (by omega),HA.out⟩
  clear h12
  by_cases hv1:v1=1
  ·subst hv1
   go_upto_region 11 with fail
   have HZ:=a0b (HA.out.alloc (.cells #[.string ⟨#[32,109,111]⟩,.string ⟨#[32,116,117,44,119,101]⟩,.string ⟨#[32,115,117,44,102,114,44,109,111]⟩] 9))
   have hcl:∀ n:Nat,n<3->∃ z:ByteArray,z.size<=9/\(∃ o,o∈onK/\z.data.toList=32 :: o.data.toList)/\(w3.alloc (.cells #[.string ⟨#[32,109,111]⟩,.string ⟨#[32,116,117,44,119,101]⟩,.string ⟨#[32,115,117,44,102,114,44,109,111]⟩] 9)).cell? ⟨w3.heap.size,n,none⟩=some (.string z):=fun n hn=>by
    have hb:=a0p w3 (.cells #[.string ⟨#[32,109,111]⟩,.string ⟨#[32,116,117,44,119,101]⟩,.string ⟨#[32,115,117,44,102,114,44,109,111]⟩] 9)
    match n,hn with
    |0,_=>exact⟨⟨#[32,109,111]⟩,by decide,⟨⟨#[109,111]⟩,by simp[onK],rfl⟩,by simp only[World.cell?,hb];rfl⟩
    |1,_=>exact⟨⟨#[32,116,117,44,119,101]⟩,by decide,⟨⟨#[116,117,44,119,101]⟩,by simp[onK],rfl⟩,by simp only[World.cell?,hb];rfl⟩
    |2,_=>exact⟨⟨#[32,115,117,44,102,114,44,109,111]⟩,by decide,⟨⟨#[115,117,44,102,114,44,109,111]⟩,by simp[onK],rfl⟩,by simp only[World.cell?,hb];rfl⟩
    |n+3,hn=>omega
   have HC:=a0b hcl;clear hcl;have hne:w3.heap.size≠F:=by have:=HA.out.lt;omega
   have HNE:=a0b hne;clear hne;generalize w3.alloc (.cells #[.string ⟨#[32,109,111]⟩,.string ⟨#[32,116,117,44,119,101]⟩,.string ⟨#[32,115,117,44,102,114,44,109,111]⟩] 9)=Z at HZ HC ⊢
   have NZ:Hid (Calls Tryz.prog 26 #[.pointer (some ⟨F,0,none⟩),.int .i64 3] Z fun e w'=>∃ (n:Nat) (z:ByteArray),e=.returned (.int .i64 (n:Int))/\(n:Int)<3/\z.size<=9/\(∃ o,o∈onK/\z.data.toList=32 :: o.data.toList)/\w'.cell? ⟨w3.heap.size,n,none⟩=some (.string z)/\FW w0 F s w'):=by
    refine (a1h (w0:=Z) (w:=Z) (F:=F) (s:=s) ⟨HZ.out.fd,HZ.out.env,Off.refl _ _,HZ.out.ten⟩ 3 (by omega) (by omega)).mono ?_;rintro e w' ⟨v,rfl,v0,v1,k⟩;obtain⟨n,rfl⟩:=Int.eq_ofNat_of_zero_le v0;obtain⟨z,hz,hzo,hc⟩:=HC.out n (by omega);exact⟨n,z,rfl,v1,hz,hzo,k.off.cell (by simp;exact HNE.out) hc,k.fd,k.env,HZ.out.off.trans k.off,k.ten⟩
   clear HC HNE HZ HA
   go_wp2_with (first
    |(go_at_call 26;refine NZ.out.mono ?_;rintro e w4 ⟨n4,z4,rfl,n3,hz9,hz4,hc4,ha4⟩;have HA:=a0b ha4;have HZ4:=a0b hz4;clear ha4 hz4))
   exact KK12 _ _ _ _ _ _ _ _ _ _ _ _ _ _ _ _ _ _ _ _ _ _ _ _ _ _ (by rw[ByteArray.size_append];omega) (f6y HY.out HZ4.out) HA.out
  ·have hb:(v1==1)=false:=by simpa using hv1
   have HV1:=a0b hv1
   go_wp2_with fail
   exact KK12 _ _ _ _ _ _ _ _ _ _ _ _ _ _ _ _ _ _ _ _ _ _ _ _ _ _ (by omega) (HY.out.2 HV1.out) HA.out
 clear h8
 by_cases hv1:v1=1
 ·have hb:(v1==1)=true:=by simpa using hv1
  have HV1:=a0b hv1;clear hv1
  go_wp2_with fail
  exact KK8 _ _ _ _ _ _ _ ⟨#[119,101,101,107,108,121,32]⟩ _ (by decide) (.inl ⟨HV1.out,rfl⟩) HA.out
 ·have hb:(v1==1)=false:=by simpa using hv1
  by_cases hv2:v1=2
  ·have hb2:(v1==2)=true:=by simpa using hv2
   have HV1:=a0b hv1;clear hv1 hv2
   go_wp2_with fail
   exact KK8 _ _ _ _ _ _ _ ⟨#[109,111,110,116,104,108,121,32]⟩ _ (by decide) (.inr ⟨HV1.out,.inr rfl⟩) HA.out
  ·have hb2:(v1==2)=false:=by simpa using hv2
   have HV1:=a0b hv1
   go_wp2_with fail
   exact KK8 _ _ _ _ _ _ _ ⟨#[100,97,105,108,121,32]⟩ _ (by decide) (.inr ⟨HV1.out,.inl rfl⟩) HA.out
def g0A(z:ByteArray):Prop:=z=⟨#[97,32,49,32]⟩\/z=⟨#[98,32,50,32]⟩
theorem d8S(h:g0A z):z.size<=4:=by
 rcases h with rfl|rfl <;> decide
theorem e0M(h:e3j r):r.size<=120:=by
 obtain⟨ps,es,late,d,h,m,k,hp,he,⟨d0,d1⟩,⟨h0,h1⟩,⟨m0,m1⟩,⟨k0,k1⟩,ht⟩:=h;obtain⟨qs,pc,ev,acc,acc',P⟩:=hp.use;obtain⟨ti,un,E⟩:=he.use;have dc:=(e3a late d0 d1).2.2;have mc:=(f3w h0 h1 m0 m1).2.2;have kz:=(d3I (k:=k) (by omega) k1).1
 have es_n:es.map (·.data.toList)≠[]:=by
  intro e;rw[List.map_eq_nil_iff] at e;have:=E.n;rw[e] at this;simp at this
 have:=P.sp;have:=E.sz;have:a1t.size=4:=rfl;have:atW.size=2:=rfl;have:b3z.size=3:=rfl;rw[<- Txt.a1l,ht,List.map_append,List.map_append,d4E _ _ (by simp) es_n,d4E _ _ (f8A hp) (by simp)];simp only[List.map_cons,List.map_nil,Txt.a6Q,Txt.b3k,List.length_append,List.length_cons,Txt.a1l];omega
structure f5j(g F:Nat)(W:World):Prop where
 ne:g≠F
 c:∀ n:Nat,n<2->∃ z:ByteArray,g0A z/\W.cell? ⟨g,n,none⟩=some (.string z)
theorem f5j.off{W':World}(h:f5j g F W)(k:Off [F] W W'):f5j g F W':=⟨h.ne,fun n hn=>by
 obtain⟨z,hz,hc⟩:=h.c n hn
 exact⟨z,hz,k.cell (by simp;exact h.ne) hc⟩⟩
theorem f5j.alloc(h:f5j g F W)(o:Obj):f5j g F (W.alloc o):=h.off (Off.of_below ((zr _ _).alloc (zq _) _))
theorem f5j.new(h:FW w0 F s W):f5j W.heap.size F (W.alloc (.cells #[.string ⟨#[97,32,49,32]⟩,.string ⟨#[98,32,50,32]⟩] 9)):=⟨by have:=h.lt;omega,fun n hn=>by
 have hb:=a0p W (.cells #[.string ⟨#[97,32,49,32]⟩,.string ⟨#[98,32,50,32]⟩] 9)
 match n,hn with
 |0,_=>exact⟨⟨#[97,32,49,32]⟩,.inl rfl,by simp only[World.cell?,hb];rfl⟩
 |1,_=>exact⟨⟨#[98,32,50,32]⟩,.inr rfl,by simp only[World.cell?,hb];rfl⟩
 |n+2,hn=>omega⟩
structure g2K(w0:World)(F:Nat)(s:ByteArray)(L:Nat->Bool)(u2 u56 u57 u58 u59 u60 u61 u62 u63 u64:Value)(W:World):Prop where
 fw:FW w0 F s W
 f0:L 0=true->∃ g,u56=.slice (some ⟨g,0,none⟩) 2 2/\f5j g F W
 f1:L 1=true->u57=.pointer (some ⟨F,0,none⟩)
 f2:L 2=true->∃ n:Nat,n<2/\u58=.int .i64 (n:Int)
 f3:L 3=true->∃ (g n:Nat),n<2/\u59=.pointer (some ⟨g,n,none⟩)/\f5j g F W
 f4:L 4=true->∃ z:ByteArray,g0A z/\u60=.string z
 f5:L 5=true->∃ z:ByteArray,g0A z/\u61=.string ((⟨#[115,101,114,105,101,115,32]⟩:ByteArray)++z)
 f6:L 6=true->u62=.pointer (some ⟨F,0,none⟩)
 f7:L 7=true->∃ t:ByteArray,e3j t/\u63=.string t
 f8:L 8=true->∃ (z t:ByteArray),g0A z/\e3j t/\u64=.string (((⟨#[115,101,114,105,101,115,32]⟩:ByteArray)++z)++t)
 f9:L 9=true->∃ (z t:ByteArray),g0A z/\e3j t/\u2=.string (((⟨#[115,101,114,105,101,115,32]⟩:ByteArray)++z)++t)
theorem f9N{t3 t4 t5 t6 t7 t8 t9 t10 t11 t12 t13 t14 t15 t16 t17 t18 t19 t20 t21 t22 t23 t24 t25 t26 t27 t28 t29 t30 t31 t32 t33 t34 t35 t36 t37 t38 t39 t40 t41 t42 t43 t44 t45 t46 t47 t48 t49 t50 t51 t52 t53 t54 t55:Value}{Q:Exit->Act->World->Prop}{Y:World}(hY:FW w0 F s Y)(KK:∀ (u56 u57 u58 u59 u60 u61 u62 u63 u64:Value)(z t:ByteArray)(W:World),g0A z->e3j t->FW w0 F s W->Q .normal { tmps:=#[.pointer (some ⟨F,0,none⟩),undef,(.string (((⟨#[115,101,114,105,101,115,32]⟩:ByteArray)++z)++t)),t3,t4,t5,t6,t7,t8,t9,t10,t11,t12,t13,t14,t15,t16,t17,t18,t19,t20,t21,t22,t23,t24,t25,t26,t27,t28,t29,t30,t31,t32,t33,t34,t35,t36,t37,t38,t39,t40,t41,t42,t43,t44,t45,t46,t47,t48,t49,t50,t51,t52,t53,t54,t55,u56,u57,u58,u59,u60,u61,u62,u63,u64,undef,undef,undef,undef,undef],defers:=[] } W):
  (Code.region 18 c3W true).wp Tryz.prog Q { tmps:=#[.pointer (some ⟨F,0,none⟩),undef,.string ⟨#[]⟩,t3,t4,t5,t6,t7,t8,t9,t10,t11,t12,t13,t14,t15,t16,t17,t18,t19,t20,t21,t22,t23,t24,t25,t26,t27,t28,t29,t30,t31,t32,t33,t34,t35,t36,t37,t38,t39,t40,t41,t42,t43,t44,t45,t46,t47,t48,t49,t50,t51,t52,t53,t54,t55,undef,undef,undef,undef,undef,undef,undef,undef,undef,undef,undef,undef,undef,undef],defers:=[] } Y:=by
 refine a6t (by kernel_rfl) ?ord (fun L a W=>∃ u2 u56 u57 u58 u59 u60 u61 u62 u63 u64:Value,a={ tmps:=#[.pointer (some ⟨F,0,none⟩),undef,u2,t3,t4,t5,t6,t7,t8,t9,t10,t11,t12,t13,t14,t15,t16,t17,t18,t19,t20,t21,t22,t23,t24,t25,t26,t27,t28,t29,t30,t31,t32,t33,t34,t35,t36,t37,t38,t39,t40,t41,t42,t43,t44,t45,t46,t47,t48,t49,t50,t51,t52,t53,t54,t55,u56,u57,u58,u59,u60,u61,u62,u63,u64,undef,undef,undef,undef,undef],defers:=[] }/\g2K w0 F s L u2 u56 u57 u58 u59 u60 u61 u62 u63 u64 W) ?start ?step ?done
 case ord =>
  have hall:((List.range 10).all fun j=>match c3W[j]? with|some o=>(o.after.all fun e=>!Region.binds .any e || decide (e.on<j))|none=>true)=true:=by decide +kernel
  intro j o ho;have hj:j<10:=(Array.getElem?_eq_some_iff.1 ho).1;have:=List.all_eq_true.1 hall j (List.mem_range.2 hj);rw[ho] at this;exact this
 case start =>
  exact⟨_,_,_,_,_,_,_,_,_,_,rfl,⟨hY.drew,fun e=>(nomatch e),fun e=>(nomatch e),fun e=>(nomatch e),fun e=>(nomatch e),fun e=>(nomatch e),fun e=>(nomatch e),fun e=>(nomatch e),fun e=>(nomatch e),fun e=>(nomatch e),fun e=>(nomatch e)⟩⟩
 case done =>
  rintro L a W hall ⟨u2,u56,u57,u58,u59,u60,u61,u62,u63,u64,rfl,h⟩;obtain⟨z,t,hz,ht,rfl⟩:=h.f9 (hall 9 (by decide));exact KK u56 u57 u58 u59 u60 u61 u62 u63 u64 z t W hz ht h.fw
 case step =>
  rintro L a W j o hcl ⟨u2,u56,u57,u58,u59,u60,u61,u62,u63,u64,rfl,h⟩ ho hL hd K hK;have hj:j<10:=(Array.getElem?_eq_some_iff.1 ho).1
  match j,hj,ho,hL,hd,hK with
  |0,_,ho,hL,hd,hK =>
   obtain rfl:c0h=o:=Option.some.inj ho;clear hd hcl;unfold c0h
   go_simp
   exact hK _ _ ⟨_,_,_,_,_,_,_,_,_,_,rfl,⟨h.fw.alloc _,fun _=>⟨W.heap.size,rfl,f5j.new h.fw⟩,h.f1,h.f2,fun e=>(h.f3 e).imp fun g hg=>hg.imp fun n hn=>⟨hn.1,hn.2.1,hn.2.2.alloc _⟩,h.f4,h.f5,h.f6,h.f7,h.f8,h.f9⟩⟩
  |1,_,ho,hL,hd,hK =>
   obtain rfl:c0g=o:=Option.some.inj ho;clear hd hcl;unfold c0g
   go_simp
   exact hK _ _ ⟨_,_,_,_,_,_,_,_,_,_,rfl,⟨h.fw,h.f0,fun _=>rfl,h.f2,h.f3,h.f4,h.f5,h.f6,h.f7,h.f8,h.f9⟩⟩
  |2,_,ho,hL,hd,hK =>
   obtain rfl:b6x=o:=Option.some.inj ho;have dd_:L 1=true:=by simpa[Region.binds,b6x] using hd
   have d1:=dd_;clear dd_;clear hd hcl;unfold b6x;obtain rfl:=h.f1 d1;refine a2k (by rfl) 26 _ _ (by rfl) _ (by simp[Act.eval]) (c5s _ _) (a1h h.fw.self 2 (by omega) (by omega)) ?_;rintro e w7 ⟨v,rfl,v0,v1,k7⟩;refine⟨_,rfl,?_⟩;have ho7:=k7.off;obtain⟨n,rfl⟩:=Int.eq_ofNat_of_zero_le v0;exact hK _ _ ⟨_,_,_,_,_,_,_,_,_,_,rfl,⟨h.fw.back k7,fun e=>(h.f0 e).imp fun g hg=>⟨hg.1,hg.2.off ho7⟩,fun _=>rfl,fun _=>⟨n,by omega,rfl⟩,fun e=>(h.f3 e).imp fun g hg=>hg.imp fun n hn=>⟨hn.1,hn.2.1,hn.2.2.off ho7⟩,h.f4,h.f5,h.f6,h.f7,h.f8,h.f9⟩⟩
  |3,_,ho,hL,hd,hK =>
   obtain rfl:b6w=o:=Option.some.inj ho;have dd_:L 0=true/\L 2=true:=by simpa[Region.binds,b6w] using hd
   have d0:=dd_.1;have d2:=dd_.2;clear dd_;clear hd hcl;unfold b6w;obtain⟨g,rfl,hg⟩:=h.f0 d0;obtain⟨n,hn,rfl⟩:=h.f2 d2;have hn':(n:Int)<2:=by omega
   go_simp
   exact hK _ _ ⟨_,_,_,_,_,_,_,_,_,_,rfl,⟨h.fw,fun _=>⟨g,rfl,hg⟩,h.f1,fun _=>⟨n,hn,rfl⟩,fun _=>⟨g,n,hn,rfl,hg⟩,h.f4,h.f5,h.f6,h.f7,h.f8,h.f9⟩⟩
  |4,_,ho,hL,hd,hK =>
   obtain rfl:b6v=o:=Option.some.inj ho;have dd_:L 3=true:=by simpa[Region.binds,b6v] using hd
   have d3:=dd_;clear dd_;clear hd hcl;unfold b6v;obtain⟨g,n,hn,rfl,hg⟩:=h.f3 d3;obtain⟨z,hz,hc⟩:=hg.c n hn
   go_simp
   exact hK _ _ ⟨_,_,_,_,_,_,_,_,_,_,rfl,⟨h.fw,h.f0,h.f1,h.f2,fun _=>⟨g,n,hn,rfl,hg⟩,fun _=>⟨z,hz,rfl⟩,h.f5,h.f6,h.f7,h.f8,h.f9⟩⟩
  |5,_,ho,hL,hd,hK =>
   obtain rfl:b6u=o:=Option.some.inj ho;have dd_:L 4=true:=by simpa[Region.binds,b6u] using hd
   have d4:=dd_;clear dd_;clear hd hcl;unfold b6u;obtain⟨z,hz,rfl⟩:=h.f4 d4;have hz4:=d8S hz;have sz:¬ (9223372036854775807<7+z.size):=by omega
   go_simp
   exact hK _ _ ⟨_,_,_,_,_,_,_,_,_,_,rfl,⟨h.fw,h.f0,h.f1,h.f2,h.f3,fun _=>⟨z,hz,rfl⟩,fun _=>⟨z,hz,rfl⟩,h.f6,h.f7,h.f8,h.f9⟩⟩
  |6,_,ho,hL,hd,hK =>
   obtain rfl:c0f=o:=Option.some.inj ho;clear hd hcl;unfold c0f
   go_simp
   exact hK _ _ ⟨_,_,_,_,_,_,_,_,_,_,rfl,⟨h.fw,h.f0,h.f1,h.f2,h.f3,h.f4,h.f5,fun _=>rfl,h.f7,h.f8,h.f9⟩⟩
  |7,_,ho,hL,hd,hK =>
   obtain rfl:b6t=o:=Option.some.inj ho;have dd_:L 6=true/\L 2=true:=by simpa[Region.binds,b6t] using hd
   have d6:=dd_.1;clear dd_;clear hd hcl;unfold b6t;obtain rfl:=h.f6 d6;refine a2k (by rfl) 49 _ _ (by rfl) _ (by simp[Act.eval]) (c5q _ _) (f1e h.fw.self) ?_;rintro e w7 ⟨t,rfl,ht,k7⟩;refine⟨_,rfl,?_⟩;have ho7:=k7.off;exact hK _ _ ⟨_,_,_,_,_,_,_,_,_,_,rfl,⟨h.fw.back k7,fun e=>(h.f0 e).imp fun g hg=>⟨hg.1,hg.2.off ho7⟩,h.f1,h.f2,fun e=>(h.f3 e).imp fun g hg=>hg.imp fun n hn=>⟨hn.1,hn.2.1,hn.2.2.off ho7⟩,h.f4,h.f5,fun _=>rfl,fun _=>⟨t,ht,rfl⟩,h.f8,h.f9⟩⟩
  |8,_,ho,hL,hd,hK =>
   obtain rfl:b6s=o:=Option.some.inj ho;have dd_:L 5=true/\L 7=true:=by simpa[Region.binds,b6s] using hd
   have d5:=dd_.1;have d7:=dd_.2;clear dd_;clear hd hcl;unfold b6s;obtain⟨z,hz,rfl⟩:=h.f5 d5;have hz4:=d8S hz;obtain⟨t,ht,rfl⟩:=h.f7 d7;have ht4:=e0M ht;have sz:¬ (9223372036854775807<7+z.size+t.size):=by omega
   go_simp
   exact hK _ _ ⟨_,_,_,_,_,_,_,_,_,_,rfl,⟨h.fw,h.f0,h.f1,h.f2,h.f3,h.f4,fun _=>⟨z,hz,rfl⟩,h.f6,fun _=>⟨t,ht,rfl⟩,fun _=>⟨z,t,hz,ht,rfl⟩,h.f9⟩⟩
  |9,_,ho,hL,hd,hK =>
   obtain rfl:b6r=o:=Option.some.inj ho
   have dd_:L 0=true/\L 1=true/\L 2=true/\L 3=true/\L 4=true/\L 5=true/\L 6=true/\L 7=true/\L 8=true:=by
    simp[Region.binds,b6r] at hd;simp[hd]
   have d8:=dd_.2.2.2.2.2.2.2.2;clear dd_;clear hd hcl;unfold b6r;obtain⟨z,t,hz,ht,rfl⟩:=h.f8 d8
   go_simp
   exact hK _ _ ⟨_,_,_,_,_,_,_,_,_,_,rfl,⟨h.fw,h.f0,h.f1,h.f2,h.f3,h.f4,h.f5,h.f6,h.f7,fun _=>⟨z,t,hz,ht,rfl⟩,fun _=>⟨z,t,hz,ht,rfl⟩⟩⟩
  |n+10,hj,_,_,_,_=>exact absurd hj (by omega)
theorem d7x(h:FW w0 F s w)(ha:b8U nm u fr til):
  Calls Tryz.prog 28 #[.agg #[.string nm,.int .i64 u,.int .i64 fr,.int .i64 til]] w fun e w'=>∃ x,e=.returned (.string x)/\x=c5B nm u fr til/\x.size<=40/\FW w0 F s w':=by
 have b:=ha.u1;have c:=ha.u3;have d:=ha.f0;have e:=ha.f1;have f:=ha.t0;have g:=ha.t1;refine (b5S w h.env nm u fr til ha.size ⟨by omega,by omega⟩ ⟨by omega,by omega⟩ ⟨by omega,by omega⟩).mono ?_;rintro e w' ⟨rfl,k⟩;exact⟨_,rfl,rfl,b3U ha.size ⟨by omega,by omega⟩ ⟨by omega,by omega⟩ ⟨by omega,by omega⟩,h.later k⟩
theorem f1f(h:FW w0 F s w):
  Calls Tryz.prog 32 #[.pointer (some ⟨F,0,none⟩)] w fun e w'=>∃ t,e=.returned (.string t)/\Made t/\FW w0 F s w':=by
 have HA:=a0b h;clear h
 go_enter Tryz.func32,Tryz.ntmps32
 go_upto_region 2 with (first
  |(go_at_call 26;refine (a1h HA.out 12 (by omega) (by omega)).mono ?_;rintro e w1 ⟨v1,rfl,a1,b1,ha1⟩;replace HA:=a0b ha1;clear ha1))
 have hv:v1=0\/v1=1\/v1=2\/v1=3\/v1=4\/v1=5\/v1=6\/v1=7\/v1=8\/v1=9\/v1=11\/v1=10:=by omega
 clear a1 b1;rcases hv with rfl|rfl|rfl|rfl|rfl|rfl|rfl|rfl|rfl|rfl|rfl|rfl
 iterate 3
  ·go_wp2_with (first
    |(go_at_call 25;refine (a7L HA.out).mono ?_;rintro e w2 ⟨nm,u,fr,til,rfl,hok,ha⟩;replace HA:=a0b ha;have HK:=a0b hok;clear ha hok)
    |(go_at_call 28;refine (d7x HA.out HK.out).mono ?_;rintro e w3 ⟨tx,rfl,htx,ht,ha⟩;replace HA:=a0b ha;have HTX:=a0b htx;clear ha htx))
   go_ret;exact⟨_,rfl,by rw[HTX.out];exact f3E HK.out,HA.out⟩
 iterate 2
  ·go_wp2_with (first
    |(go_at_call 25;refine (a7L HA.out).mono ?_;rintro e w2 ⟨nm,u,fr,til,rfl,hok,ha⟩;replace HA:=a0b ha;have HK:=a0b hok;clear ha hok)
    |(go_at_call 28;refine (d7x HA.out HK.out).mono ?_;rintro e w3 ⟨tx,rfl,htx,ht,ha⟩;replace HA:=a0b ha;have HTX:=a0b htx;clear ha htx)
    |(go_at_call 26;refine (a1h HA.out 60 (by omega) (by omega)).mono ?_;rintro e w1 ⟨v1,rfl,a1,b1,ha1⟩;replace HA:=a0b ha1;clear ha1;have k1:IntKind.i64.wrap (1+v1)=1+v1:=a0G (by omega) (by omega);have z1:=Txt.a0I (1+v1) (by omega) (by omega))
    |(go_at_call 22;refine (a3L HA.out (1+v1) (by omega) (by omega)).mono ?_;rintro e w8 ⟨rfl,ha⟩;replace HA:=a0b ha;clear ha))
   go_ret;exact⟨_,rfl,by rw[HTX.out];exact (e4f HK.out (by omega) (by omega)).1,HA.out⟩
 iterate 3
  ·go_wp2_with (first
    |(go_at_call 25;refine (a7L HA.out).mono ?_;rintro e w2 ⟨nm,u,fr,til,rfl,hok,ha⟩;replace HA:=a0b ha;have HK:=a0b hok;clear ha hok)
    |(go_at_call 28;refine (d7x HA.out HK.out).mono ?_;rintro e w3 ⟨tx,rfl,htx,ht,ha⟩;replace HA:=a0b ha;have HTX:=a0b htx;clear ha htx)
    |(go_at_call 26;refine (a1h HA.out 90 (by omega) (by omega)).mono ?_;rintro e w1 ⟨v1,rfl,a1,b1,ha1⟩;replace HA:=a0b ha1;clear ha1;have k1:IntKind.i64.wrap (1+v1)=1+v1:=a0G (by omega) (by omega);have z1:=Txt.a0I (1+v1) (by omega) (by omega))
    |(go_at_call 22;refine (a3L HA.out (1+v1) (by omega) (by omega)).mono ?_;rintro e w8 ⟨rfl,ha⟩;replace HA:=a0b ha;clear ha))
   go_ret;exact⟨_,rfl,by rw[HTX.out];exact (e4f HK.out (by omega) (by omega)).2,HA.out⟩
 iterate 2
  ·go_wp2_with (first
    |(go_at_call 26;refine (a1h HA.out 12 (by omega) (by omega)).mono ?_;rintro e w1 ⟨v1,rfl,a1,b1,ha1⟩;replace HA:=a0b ha1;clear ha1;have k1:IntKind.i64.wrap (1+v1)=1+v1:=a0G (by omega) (by omega);have z1:=Txt.a0I (1+v1) (by omega) (by omega))
    |(go_at_call 22;refine (a3L HA.out (1+v1) (by omega) (by omega)).mono ?_;rintro e w8 ⟨rfl,ha⟩;replace HA:=a0b ha;clear ha))
   go_ret
   first|exact⟨_,rfl,e6o (by omega) (by omega),HA.out⟩|exact⟨_,rfl,e4g (by omega) (by omega),HA.out⟩
 ·go_wp2_with (first
   |(go_at_call 26;refine (a1h HA.out 40 (by omega) (by omega)).mono ?_;rintro e w1 ⟨v1,rfl,a1,b1,ha1⟩;replace HA:=a0b ha1;clear ha1;have k1:IntKind.i64.wrap (1+v1)=1+v1:=a0G (by omega) (by omega);have z1:=Txt.a0I (1+v1) (by omega) (by omega))
   |(go_at_call 22;refine (a3L HA.out (1+v1) (by omega) (by omega)).mono ?_;rintro e w8 ⟨rfl,ha⟩;replace HA:=a0b ha;clear ha))
  go_ret;exact⟨_,rfl,f3D (by omega) (by omega),HA.out⟩
 ·go_upto_region 18 with fail
  refine f9N HA.out ?_;intro u56 u57 u58 u59 u60 u61 u62 u63 u64 z t W hz ht hW;have hz4:=d8S hz;have ht4:=e0M ht;have HZ:=a0b hz;have HT:=a0b ht;clear hz ht;have HW:=a0b hW;clear hW
  go_wp2_with fail
  go_ret;exact⟨_,rfl,e6n HZ.out HT.out,HW.out⟩
end Go.Proofs.YtfigmlfdnickmaaGreatDoor
