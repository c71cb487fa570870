import Derived.Test.YtfigmlfdnickmaaGreatDoorL11
import Derived.Deep.CutRange
set_option maxRecDepth 100000
set_option maxHeartbeats 8000000
variable{B Q d i m n' p:Nat}{c1 col col':Nat->Option Go.Proofs.YtfigmlfdnickmaaGreatDoor.Col}{r:Go.Proofs.YtfigmlfdnickmaaGreatDoor.Raw}{s:Go.Proofs.YtfigmlfdnickmaaGreatDoor.Desk.St}{Y w w' w1:Go.World}
namespace Go.Proofs.YtfigmlfdnickmaaGreatDoor
open Go.RowKit
theorem b9H(R A:Nat)(ws:List ByteArray)(st:Nat × Bool)(w:World)(h:RS w R A ws st.1 st.2)(hm:a1b ws.length (a0M ws [nmB] st).1 (a0M ws [nmB] st).2=false):
  Calls Tryz.prog 89 #[.pointer (some ⟨R,0,none⟩)] w fun e w' =>
   e=.returned (.agg #[.string (a2F ws st),.bool false,.int .i64 0,.int .i64 0])/\RS w' R A ws (a0M ws [nmB] st).1 (a0M ws [nmB] st).2/\Kept R w w':=by
 go_enter Tryz.func89,Tryz.ntmps89
 go_wp2_with fail
 obtain⟨hRl,hAl⟩:=h.lt;obtain⟨X,hX⟩:∃ X,X=w.alloc (.cells #[.string ⟨#[]⟩,.bool false,.int .i64 0,.int .i64 0] 170):=⟨_,rfl⟩;rw[<- hX];have hb:Below w.heap.size w X:=by rw[hX];exact (zr _ _).alloc (zq _) _
 have x0:X.cell? ⟨w.heap.size,0,none⟩=some (.string ⟨#[]⟩):=by rw[hX];simp
 have x1:X.cell? ⟨w.heap.size,1,none⟩=some (.bool false):=by rw[hX];simp
 have x2:X.cell? ⟨w.heap.size,2,none⟩=some (.int .i64 0):=by rw[hX];simp
 have x3:X.cell? ⟨w.heap.size,3,none⟩=some (.int .i64 0):=by rw[hX];simp
 have xf:∀ j:Nat,X.frozen? ⟨w.heap.size,j,none⟩=false:=fun j=>by rw[hX];simp
 have xs:w.heap.size<X.heap.size:=by rw[hX];simp
 clear hX;refine (a3v R A ws st.1 st.2 X (h.of_below hb)).mono ?_;rintro e w1 ⟨rfl,h1,k1⟩;have z1:=k1.size
 go_wp2_with fail
 obtain⟨Y,hY⟩:∃ Y,Y=w1.alloc (.cells #[.string (tkS ws st.1 st.2),.bool false,.int .i64 0,.int .i64 0] 170):=⟨_,rfl⟩;rw[<- hY];have hbY:Below w1.heap.size w1 Y:=by rw[hY];exact (zr _ _).alloc (zq _) _
 have v0:Y.cell? ⟨w1.heap.size,0,none⟩=some (.string (tkS ws st.1 st.2)):=by rw[hY];simp
 have v1:Y.cell? ⟨w1.heap.size,1,none⟩=some (.bool false):=by rw[hY];simp
 have v2:Y.cell? ⟨w1.heap.size,2,none⟩=some (.int .i64 0):=by rw[hY];simp
 have v3:Y.cell? ⟨w1.heap.size,3,none⟩=some (.int .i64 0):=by rw[hY];simp
 have ys:w1.heap.size<Y.heap.size:=by rw[hY];simp
 clear hY;have kY:=k1.trans (Kept.of_below (R:=R) hbY);have y0:=kY.cell (b:=w.heap.size) (o:=0) (by omega) x0;have y1:=kY.cell (b:=w.heap.size) (o:=1) (by omega) x1;have y2:=kY.cell (b:=w.heap.size) (o:=2) (by omega) x2;have y3:=kY.cell (b:=w.heap.size) (o:=3) (by omega) x3;have yf:∀ j:Nat,Y.frozen? ⟨w.heap.size,j,none⟩=false:=fun j=>(kY.frozen (by omega) xs).trans (xf j)
 have hY1:=h1.of_below hbY;refine (a0X R A ws _ _ Y hY1).mono ?_;rintro e w2 ⟨rfl,n,rfl⟩;have HM:Hid (a1b ws.length (tkN ws st.1 st.2 fun s=>Txt.a1j s.data.toList) (tkW ws st.1 st.2 fun s=>Txt.a1j s.data.toList)=false):=hm;rw[HM.out];have kk:=(Kept.of_below (R:=R) hb).trans kY;have H1:=hide hY1;clear h1 hY1 x0 x1 x2 x3 xf hm;go_wp2;refine bodyPost_ret (v:=.agg #[.string (a2F ws st),.bool false,.int .i64 0,.int .i64 0]) (by simp[results,Tryz.results89,go_sem,y0,y1,y2,y3];rfl) rfl ⟨rfl,?_,?_⟩
 ·exact (((((a0d H1).drewN _).other (by omega) (fun hl=>by have:=hAl hl;omega)).other (by omega) (fun hl=>by have:=hAl hl;omega)).other (by omega) (fun hl=>by have:=hAl hl;omega)).other (by omega) (fun hl=>by have:=hAl hl;omega)
 ·exact ((((kk.drewN _).setNew (zq _) _).setNew (zq _) _).setNew (zq _) _).setNew (zq _) _
theorem b7W(R A:Nat)(ws:List ByteArray)(st:Nat × Bool)(w:World)(h:RS w R A ws st.1 st.2)(he:Env w)(hR:10<=R)(hm:a1b ws.length (a0M ws [nmB] st).1 (a0M ws [nmB] st).2=true):
  Calls Tryz.prog 89 #[.pointer (some ⟨R,0,none⟩)] w fun e w' =>
   e=.returned (.agg #[.string (a2F ws st),.bool true,.int .i64 (a0v ws (a0M ws [nmB] st) a0n a1J),.int .i64 (a0v ws (a0M ws [nmB,a0n] st) a0n a1J)])/\RS w' R A ws (a0M ws [nmB,a0n,a0n] st).1 (a0M ws [nmB,a0n,a0n] st).2/\Kept R w w':=by
 have HE:=hide he;clear he
 go_enter Tryz.func89,Tryz.ntmps89
 go_wp2_with fail
 obtain⟨hRl,hAl⟩:=h.lt;obtain⟨X,hX⟩:∃ X,X=w.alloc (.cells #[.string ⟨#[]⟩,.bool false,.int .i64 0,.int .i64 0] 170):=⟨_,rfl⟩;rw[<- hX];have hb:Below w.heap.size w X:=by rw[hX];exact (zr _ _).alloc (zq _) _
 have x0:X.cell? ⟨w.heap.size,0,none⟩=some (.string ⟨#[]⟩):=by rw[hX];simp
 have x1:X.cell? ⟨w.heap.size,1,none⟩=some (.bool false):=by rw[hX];simp
 have x2:X.cell? ⟨w.heap.size,2,none⟩=some (.int .i64 0):=by rw[hX];simp
 have x3:X.cell? ⟨w.heap.size,3,none⟩=some (.int .i64 0):=by rw[hX];simp
 have xf:∀ j:Nat,X.frozen? ⟨w.heap.size,j,none⟩=false:=fun j=>by rw[hX];simp
 have xs:w.heap.size<X.heap.size:=by rw[hX];simp
 clear hX;have eX:=(a0d HE).later hb;refine (a3v R A ws st.1 st.2 X (h.of_below hb)).mono ?_;rintro e w1 ⟨rfl,h1,k1⟩;have z1:=k1.size;have e1:=eX.kept k1 hR
 go_wp2_with fail
 obtain⟨Y,hY⟩:∃ Y,Y=w1.alloc (.cells #[.string (tkS ws st.1 st.2),.bool false,.int .i64 0,.int .i64 0] 170):=⟨_,rfl⟩;rw[<- hY];have hbY:Below w1.heap.size w1 Y:=by rw[hY];exact (zr _ _).alloc (zq _) _
 have v0:Y.cell? ⟨w1.heap.size,0,none⟩=some (.string (tkS ws st.1 st.2)):=by rw[hY];simp
 have v1:Y.cell? ⟨w1.heap.size,1,none⟩=some (.bool false):=by rw[hY];simp
 have v2:Y.cell? ⟨w1.heap.size,2,none⟩=some (.int .i64 0):=by rw[hY];simp
 have v3:Y.cell? ⟨w1.heap.size,3,none⟩=some (.int .i64 0):=by rw[hY];simp
 have vf:∀ j:Nat,Y.frozen? ⟨w1.heap.size,j,none⟩=false:=fun j=>by rw[hY];simp
 have ys:w1.heap.size<Y.heap.size:=by rw[hY];simp
 clear hY;have kY:=k1.trans (Kept.of_below (R:=R) hbY);have eY:=e1.later hbY;have hY1:=h1.of_below hbY;refine (a0X R A ws _ _ Y hY1).mono ?_;rintro e w2 ⟨rfl,n,hw2⟩;have HM:Hid (a1b ws.length (tkN ws st.1 st.2 fun s=>Txt.a1j s.data.toList) (tkW ws st.1 st.2 fun s=>Txt.a1j s.data.toList)=true):=hm;rw[HM.out];have h2:=hY1.drewN n;rw[<- hw2] at h2;have k2:Kept R X w2:=by rw[hw2];exact kY.drewN n
 have e2:Env w2:=by rw[hw2];exact eY.drewN n
 have v0:w2.cell? ⟨w1.heap.size,0,none⟩=some (.string (tkS ws st.1 st.2)):=by rw[hw2];exact v0
 have v1:w2.cell? ⟨w1.heap.size,1,none⟩=some (.bool false):=by rw[hw2];exact v1
 have v2:w2.cell? ⟨w1.heap.size,2,none⟩=some (.int .i64 0):=by rw[hw2];exact v2
 have v3:w2.cell? ⟨w1.heap.size,3,none⟩=some (.int .i64 0):=by rw[hw2];exact v3
 have vf:∀ j:Nat,w2.frozen? ⟨w1.heap.size,j,none⟩=false:=fun j=>by rw[hw2];exact vf j
 have ys2:w1.heap.size<w2.heap.size:=by rw[hw2];exact ys
 have HHM:=hide hm;clear hw2 hY1 eY kY hbY ys h1 hm;have H2:=hide h2;have HE2:=hide e2;clear h2 e2 eX e1
 go_wp2_with fail
 have ne:w1.heap.size≠R:=by omega
 have hs1:=(a0d H2).other (b:=w1.heap.size) (o:=1) (v:=.bool true) ne (fun hl=>by have:=hAl hl;omega);obtain⟨Z,hZ⟩:∃ Z,Z=w2.setCell ⟨w1.heap.size,1,none⟩ (.bool true):=⟨_,rfl⟩;rw[<- hZ] at hs1 ⊢;have u0:Z.cell? ⟨w1.heap.size,0,none⟩=some (.string (tkS ws st.1 st.2)):=by rw[hZ];exact (zS _ _ _ _ (by simp)).trans v0
 have u1:Z.cell? ⟨w1.heap.size,1,none⟩=some (.bool true):=by rw[hZ];exact zm _ _ _ v1
 have u2:Z.cell? ⟨w1.heap.size,2,none⟩=some (.int .i64 0):=by rw[hZ];exact (zS _ _ _ _ (by simp)).trans v2
 have u3:Z.cell? ⟨w1.heap.size,3,none⟩=some (.int .i64 0):=by rw[hZ];exact (zS _ _ _ _ (by simp)).trans v3
 have uf:∀ j:Nat,Z.frozen? ⟨w1.heap.size,j,none⟩=false:=fun j=>by rw[hZ];exact (zF ..).trans (vf j)
 have kZ:Kept R X Z:=by rw[hZ];exact k2.setNew (by omega) _
 have zs:w1.heap.size<Z.heap.size:=by rw[hZ];simpa using ys2
 have eZ:Env Z:=(a0d HE).kept (((Kept.of_below (R:=R) hb)).trans kZ) hR;clear hZ v0 v1 v2 v3 vf;refine (a6F R A ws _ _ Z hs1 eZ hR).mono ?_;rintro e w3 ⟨rfl,h3,k3⟩;have kk:=kZ.trans k3;have y0:=kk.cell (b:=w.heap.size) (o:=0) (by omega) x0;have y1:=kk.cell (b:=w.heap.size) (o:=1) (by omega) x1;have y2:=kk.cell (b:=w.heap.size) (o:=2) (by omega) x2;have y3:=kk.cell (b:=w.heap.size) (o:=3) (by omega) x3;have yf:∀ j:Nat,w3.frozen? ⟨w.heap.size,j,none⟩=false:=fun j=>(kk.frozen (by omega) xs).trans (xf j)
 have q0:=k3.cell (b:=w1.heap.size) (o:=0) ne u0;have q1:=k3.cell (b:=w1.heap.size) (o:=1) ne u1;have q2:=k3.cell (b:=w1.heap.size) (o:=2) ne u2;have q3:=k3.cell (b:=w1.heap.size) (o:=3) ne u3;have qf:∀ j:Nat,w3.frozen? ⟨w1.heap.size,j,none⟩=false:=fun j=>(k3.frozen ne zs).trans (uf j)
 have kt:=(Kept.of_below (R:=R) hb).trans kk;have H3:=hide h3;have n12:w.heap.size≠w1.heap.size:=by omega
 have n21:w1.heap.size≠w.heap.size:=by omega
 clear h3 hs1 eZ x0 x1 x2 x3 xf u0 u1 u2 u3 uf;go_wp2;refine bodyPost_ret (v:=.agg #[.string (a2F ws st),.bool true,.int .i64 (a0v ws (a0M ws [nmB] st) a0n a1J),.int .i64 (a0v ws (a0M ws [nmB,a0n] st) a0n a1J)]) (by simp[results,Tryz.results89,go_sem,y0,y1,y2,y3];exact⟨rfl,rfl,rfl⟩) rfl ⟨rfl,?_,?_⟩
 ·exact ((((((a0d H3).other (by omega) (fun hl=>by have:=hAl hl;omega)).other (by omega) (fun hl=>by have:=hAl hl;omega)).other (by omega) (fun hl=>by have:=hAl hl;omega)).other (by omega) (fun hl=>by have:=hAl hl;omega)).other (by omega) (fun hl=>by have:=hAl hl;omega)).other (by omega) (fun hl=>by have:=hAl hl;omega)
 ·exact (((((kt.setNew (by omega) _).setNew (by omega) _).setNew (zq _) _).setNew (zq _) _).setNew (zq _) _).setNew (zq _) _
def b0Y:ByteArray:=⟨#[100,97,105,108,121]⟩
def a8D:ByteArray:=⟨#[119,101,101,107,108,121]⟩
def a8w:ByteArray:=⟨#[109,111,110,116,104,108,121]⟩
def b2z:ByteArray:=⟨#[116,105,109,101,115]⟩
def b5O:ByteArray:=⟨#[117,110,116,105,108]⟩
def a1t:ByteArray:=⟨#[102,114,111,109]⟩
def atW:ByteArray:=⟨#[97,116]⟩
def b3z:ByteArray:=⟨#[102,111,114]⟩
def evB(s:ByteArray):Bool:=a0K s 1 99
def miB(s:ByteArray):Bool:=a0K s 1 1048320
def a1s(x s:ByteArray):Bool:=s.toList==x.toList
def nxt(st:Nat × Bool):Nat × Bool:=(st.1+1,st.2)
inductive b0n (ws:List ByteArray) (st:Nat × Bool):Int->Int->List Int->Nat × Bool->Prop where
 |daily (h:isB ws st.1 st.2 b0Y=true):b0n ws st 1 (a0v ws (nxt st) evB nvF) [] (a0M ws [evB] (nxt st))
 |weekly (h1:isB ws st.1 st.2 b0Y=false) (h:isB ws st.1 st.2 a8D=true) (acc:List Int) (ha:tkB ws (a0M ws [evB] (nxt st)).1 (a0M ws [evB] (nxt st)).2 Txt.onB=true->Txt.onW (ws.getD (a0M ws [evB] (nxt st)).1 ByteArray.empty)=some acc):
   b0n ws st 2 (a0v ws (nxt st) evB nvF) acc (a0M ws [evB,Txt.onB] (nxt st))
 |monthly (h1:isB ws st.1 st.2 b0Y=false) (h2:isB ws st.1 st.2 a8D=false) (h:isB ws st.1 st.2 a8w=true):b0n ws st 3 (a0v ws (nxt st) evB nvF) [] (a0M ws [evB] (nxt st))
 |none (h1:isB ws st.1 st.2 b0Y=false) (h2:isB ws st.1 st.2 a8D=false) (h:isB ws st.1 st.2 a8w=false):b0n ws st 0 0 [] (st.1,true)
inductive c3M (ws:List ByteArray) (st:Nat × Bool):Int->Int->Nat × Bool->Prop where
 |times (h:isB ws st.1 st.2 b2z=true):c3M ws st (a0v ws (nxt st) evB nvF) 0 (a0M ws [evB] (nxt st))
 |til (h1:isB ws st.1 st.2 b2z=false) (h:isB ws st.1 st.2 b5O=true):c3M ws st 0 (a0v ws (nxt st) Txt.a2y b0a) (a0M ws [Txt.a2y] (nxt st))
 |none (h1:isB ws st.1 st.2 b2z=false) (h:isB ws st.1 st.2 b5O=false):c3M ws st 0 0 (st.1,true)
def c4Y(ws:List ByteArray)(s:Nat × Bool):Nat × Bool:=a0M ws [a1s a1t,Txt.a2y,a1s atW,Txt.a3a,a1s b3z,miB] s
inductive b0m (ws:List ByteArray) (st:Nat × Bool):Int->Int->List Int->Int->Int->Int->Int->Int->Nat × Bool->Prop where
 |mk (pc ev:Int) (acc:List Int) (s:Nat × Bool) (ti un:Int) (s':Nat × Bool) (hp:b0n ws st pc ev acc s) (he:c3M ws (c4Y ws s) ti un s'):
   b0m ws st pc ev acc (a0v ws (a0M ws [a1s a1t] s) Txt.a2y b0a) (a0v ws (a0M ws [a1s a1t,Txt.a2y,a1s atW] s) Txt.a3a Txt.a6J) (a0v ws (a0M ws [a1s a1t,Txt.a2y,a1s atW,Txt.a3a,a1s b3z] s) miB nvF) ti un s'
def b9E(pc ev:Int)(acc:List Int)(fr mn mi ti un:Int):Value :=
 .agg #[.int .i64 pc,.int .i64 ev,.bool (isd acc 0),.bool (isd acc 1),.bool (isd acc 2),.bool (isd acc 3),.bool (isd acc 4),.bool (isd acc 5),.bool (isd acc 6),.int .i64 fr,.int .i64 mn,.int .i64 mi,.int .i64 ti,.int .i64 un]
def g3M(ws:List ByteArray):Prop:=∀ (R A:Nat)(st:Nat × Bool)(w:World),RS w R A ws st.1 st.2->Env w->10<=R ->
  Calls Tryz.prog 87 #[.pointer (some ⟨R,0,none⟩)] w fun e w' =>
   ∃ (pc ev:Int) (acc:List Int) (fr mn mi ti un:Int) (s:Nat × Bool),e=.returned (b9E pc ev acc fr mn mi ti un)/\b0m ws st pc ev acc fr mn mi ti un s/\RS w' R A ws s.1 s.2/\Kept R w w'
def a3F:ByteArray:=⟨#[116,104,105,110,103]⟩
def a9P:ByteArray:=⟨#[98,111,111,107]⟩
def b5f:ByteArray:=⟨#[104,111,108,100]⟩
def b4k:ByteArray:=⟨#[119,97,105,116]⟩
def a7l:ByteArray:=⟨#[115,101,114,105,101,115]⟩
def a4z:ByteArray:=⟨#[99,111,110,102,105,114,109]⟩
def a6m:ByteArray:=⟨#[99,97,110,99,101,108]⟩
def a5Q:ByteArray:=⟨#[108,105,115,116]⟩
def a5q:ByteArray:=⟨#[119,97,105,116,105,110,103]⟩
def a9a:ByteArray:=⟨#[112,101,97,107]⟩
def b5h:ByteArray:=⟨#[102,105,110,100]⟩
def a7M:ByteArray:=⟨#[101,120,112,97,110,100]⟩
def b4n:ByteArray:=⟨#[116,105,99,107]⟩
def b1c:ByteArray:=⟨#[99,108,111,99,107]⟩
def idB(s:ByteArray):Bool:=Txt.isNum s.data.toList
inductive a2H (ws:List ByteArray):Value->Nat × Bool->Prop where
 |a0k (h:isB ws 0 false a3F=true):a2H ws (.iface 149 (.agg #[.string (a2F ws (1,false)),.int .i64 (a0v ws (a0M ws [nmB] (1,false)) unB nvF)])) (a0M ws [nmB,unB] (1,false))
 |book (h:isB ws 0 false a9P=true):a2H ws (.iface 154 (.agg #[.string (a2F ws (1,false)),.int .i64 (a0v ws (a0M ws [nmB] (1,false)) unB nvF),.int .i64 (a0v ws (a0M ws [nmB,unB] (1,false)) a0n a1J),.int .i64 (a0v ws (a0M ws [nmB,unB,a0n] (1,false)) a0n a1J)])) (a0M ws [nmB,unB,a0n,a0n] (1,false))
 |hold (h:isB ws 0 false b5f=true):a2H ws (.iface 156 (.agg #[.string (a2F ws (1,false)),.int .i64 (a0v ws (a0M ws [nmB] (1,false)) unB nvF),.int .i64 (a0v ws (a0M ws [nmB,unB] (1,false)) a0n a1J),.int .i64 (a0v ws (a0M ws [nmB,unB,a0n] (1,false)) a0n a1J),.int .i64 (a0v ws (a0M ws [nmB,unB,a0n,a0n] (1,false)) miB nvF)])) (a0M ws [nmB,unB,a0n,a0n,miB] (1,false))
 |wait (h:isB ws 0 false b4k=true):a2H ws (.iface 157 (.agg #[.string (a2F ws (1,false)),.int .i64 (a0v ws (a0M ws [nmB] (1,false)) unB nvF),.int .i64 (a0v ws (a0M ws [nmB,unB] (1,false)) a0n a1J),.int .i64 (a0v ws (a0M ws [nmB,unB,a0n] (1,false)) a0n a1J),.int .i64 (a0v ws (a0M ws [nmB,unB,a0n,a0n] (1,false)) miB nvF)])) (a0M ws [nmB,unB,a0n,a0n,miB] (1,false))
 |series (h:isB ws 0 false a7l=true) (pc ev:Int) (acc:List Int) (fr mn mi ti un:Int) (s:Nat × Bool) (hr:b0m ws (a0M ws [nmB,unB] (1,false)) pc ev acc fr mn mi ti un s):a2H ws (.iface 165 (.agg #[.string (a2F ws (1,false)),.int .i64 (a0v ws (a0M ws [nmB] (1,false)) unB nvF),.int .i64 pc,.int .i64 ev,.bool (isd acc 0),.bool (isd acc 1),.bool (isd acc 2),.bool (isd acc 3),.bool (isd acc 4),.bool (isd acc 5),.bool (isd acc 6),.int .i64 fr,.int .i64 mn,.int .i64 mi,.int .i64 ti,.int .i64 un])) s
 |confirm (h:isB ws 0 false a4z=true):a2H ws (.iface 167 (.agg #[.int .i64 (a0v ws (1,false) idB nvF)])) (a0M ws [idB] (1,false))
 |cancel (h:isB ws 0 false a6m=true):a2H ws (.iface 168 (.agg #[.int .i64 (a0v ws (1,false) idB nvF)])) (a0M ws [idB] (1,false))
 |list0 (h:isB ws 0 false a5Q=true) (hm:a1b ws.length (a0M ws [nmB] (1,false)).1 (a0M ws [nmB] (1,false)).2=false):a2H ws (.iface 170 (.agg #[.string (a2F ws (1,false)),.bool false,.int .i64 0,.int .i64 0])) (a0M ws [nmB] (1,false))
 |list1 (h:isB ws 0 false a5Q=true) (hm:a1b ws.length (a0M ws [nmB] (1,false)).1 (a0M ws [nmB] (1,false)).2=true):a2H ws (.iface 170 (.agg #[.string (a2F ws (1,false)),.bool true,.int .i64 (a0v ws (a0M ws [nmB] (1,false)) a0n a1J),.int .i64 (a0v ws (a0M ws [nmB,a0n] (1,false)) a0n a1J)])) (a0M ws [nmB,a0n,a0n] (1,false))
 |waiting (h:isB ws 0 false a5q=true):a2H ws (.iface 173 (.agg #[])) (1,false)
 |peak (h:isB ws 0 false a9a=true):a2H ws (.iface 176 (.agg #[.string (a2F ws (1,false)),.int .i64 (a0v ws (a0M ws [nmB] (1,false)) a0n a1J),.int .i64 (a0v ws (a0M ws [nmB,a0n] (1,false)) a0n a1J)])) (a0M ws [nmB,a0n,a0n] (1,false))
 |find (h:isB ws 0 false b5h=true):a2H ws (.iface 178 (.agg #[.string (a2F ws (1,false)),.int .i64 (a0v ws (a0M ws [nmB] (1,false)) unB nvF),.int .i64 (a0v ws (a0M ws [nmB,unB] (1,false)) miB nvF),.int .i64 (a0v ws (a0M ws [nmB,unB,miB] (1,false)) a0n a1J),.int .i64 (a0v ws (a0M ws [nmB,unB,miB,a0n] (1,false)) a0n a1J)])) (a0M ws [nmB,unB,miB,a0n,a0n] (1,false))
 |expand (h:isB ws 0 false a7M=true) (pc ev:Int) (acc:List Int) (fr mn mi ti un:Int) (s:Nat × Bool) (hr:b0m ws (1,false) pc ev acc fr mn mi ti un s):a2H ws (.iface 180 (.agg #[.int .i64 pc,.int .i64 ev,.bool (isd acc 0),.bool (isd acc 1),.bool (isd acc 2),.bool (isd acc 3),.bool (isd acc 4),.bool (isd acc 5),.bool (isd acc 6),.int .i64 fr,.int .i64 mn,.int .i64 mi,.int .i64 ti,.int .i64 un])) s
 |tick (h:isB ws 0 false b4n=true):a2H ws (.iface 182 (.agg #[.int .i64 (a0v ws (1,false) miB nvF)])) (a0M ws [miB] (1,false))
 |clock (h:isB ws 0 false b1c=true):a2H ws (.iface 183 (.agg #[])) (1,false)
 |none (h0:isB ws 0 false a3F=false) (h1:isB ws 0 false a9P=false) (h2:isB ws 0 false b5f=false) (h3:isB ws 0 false b4k=false) (h4:isB ws 0 false a7l=false) (h5:isB ws 0 false a4z=false) (h6:isB ws 0 false a6m=false) (h7:isB ws 0 false a5Q=false) (h8:isB ws 0 false a5q=false) (h9:isB ws 0 false a9a=false) (h10:isB ws 0 false b5h=false) (h11:isB ws 0 false a7M=false) (h12:isB ws 0 false b4n=false) (h13:isB ws 0 false b1c=false):a2H ws .nilIface (0,true)
theorem f1j(R A:Nat)(ws:List ByteArray)(w:World)(h:RS w R A ws 0 false)(he:Env w)(hR:10<=R)(hP:isB ws 0 false a7l=true\/isB ws 0 false a7M=true->g3M ws):
  Calls Tryz.prog 62 #[.pointer (some ⟨R,0,none⟩)] w fun e w' =>
   ∃ (v:Value) (s:Nat × Bool),e=.returned v/\a2H ws v s/\RS w' R A ws s.1 s.2/\Kept R w w':=by
 have HE:=hide he;have HPP:=hide hP;clear he hP;have k0:=Kept.refl R w;have h0:=h;clear h
 go_enter Tryz.func62,Tryz.ntmps62
 go_wp2_with fail
 refine (a2n R A ws 0 false a3F w h0).mono ?_;rintro e w1 ⟨rfl,h1,kq⟩;have k1:=k0.trans kq;clear kq k0 h0;rcases Bool.eq_false_or_eq_true (isB ws 0 false a3F) with hb0|hb0
 ·rw[hb0,if_pos rfl] at h1;have E1:=hide ((a0d HE).kept k1 hR)
  go_wp2_with fail
  refine (a3v R A ws _ _ w1 h1).mono ?_;rintro e w1a ⟨rfl,h1a,kq⟩;have k1a:=k1.trans kq;have E1a:=hide ((a0d E1).kept kq hR);clear kq k1 h1 E1
  go_wp2_with fail
  refine (a5v R A ws _ _ w1a h1a).mono ?_;rintro e w1b ⟨rfl,h1b,kq⟩;have k1b:=k1a.trans kq;have E1b:=hide ((a0d E1a).kept kq hR);clear kq k1a h1a E1a;have HK:=hide k1b;have HH:=hide h1b;go_wp2;go_ret;exact⟨_,(a0M ws [nmB,unB] (1,false)),rfl,.a0k hb0,HH.out,HK.out⟩
 rw[hb0] at h1 ⊢
 go_wp2_with fail
 refine (a2n R A ws 0 false a9P w1 h1).mono ?_;rintro e w2 ⟨rfl,h2,kq⟩;have k2:=k1.trans kq;clear kq k1 h1;rcases Bool.eq_false_or_eq_true (isB ws 0 false a9P) with hb1|hb1
 ·rw[hb1,if_pos rfl] at h2;have E2:=hide ((a0d HE).kept k2 hR)
  go_wp2_with fail
  refine (a7w R A ws (1,false) w2 h2 (a0d E2) hR).mono ?_;rintro e w2a ⟨rfl,h2a,kq⟩;have k2a:=k2.trans kq;have E2a:=hide ((a0d E2).kept kq hR);clear kq k2 h2 E2;have HK:=hide k2a;have HH:=hide h2a;go_wp2;go_ret;exact⟨_,(a0M ws [nmB,unB,a0n,a0n] (1,false)),rfl,.book hb1,HH.out,HK.out⟩
 rw[hb1] at h2 ⊢
 go_wp2_with fail
 refine (a2n R A ws 0 false b5f w2 h2).mono ?_;rintro e w3 ⟨rfl,h3,kq⟩;have k3:=k2.trans kq;clear kq k2 h2;rcases Bool.eq_false_or_eq_true (isB ws 0 false b5f) with hb2|hb2
 ·rw[hb2,if_pos rfl] at h3;have E3:=hide ((a0d HE).kept k3 hR)
  go_wp2_with fail
  refine (a7w R A ws (1,false) w3 h3 (a0d E3) hR).mono ?_;rintro e w3a ⟨rfl,h3a,kq⟩;have k3a:=k3.trans kq;have E3a:=hide ((a0d E3).kept kq hR);clear kq k3 h3 E3
  go_wp2_with fail
  refine (a2S R A ws _ _ w3a h3a).mono ?_;rintro e w3b ⟨rfl,h3b,kq⟩;have k3b:=k3a.trans kq;have E3b:=hide ((a0d E3a).kept kq hR);clear kq k3a h3a E3a;have HK:=hide k3b;have HH:=hide h3b;go_wp2;go_ret;exact⟨_,(a0M ws [nmB,unB,a0n,a0n,miB] (1,false)),rfl,.hold hb2,HH.out,HK.out⟩
 rw[hb2] at h3 ⊢
 go_wp2_with fail
 refine (a2n R A ws 0 false b4k w3 h3).mono ?_;rintro e w4 ⟨rfl,h4,kq⟩;have k4:=k3.trans kq;clear kq k3 h3;rcases Bool.eq_false_or_eq_true (isB ws 0 false b4k) with hb3|hb3
 ·rw[hb3,if_pos rfl] at h4;have E4:=hide ((a0d HE).kept k4 hR)
  go_wp2_with fail
  refine (a7w R A ws (1,false) w4 h4 (a0d E4) hR).mono ?_;rintro e w4a ⟨rfl,h4a,kq⟩;have k4a:=k4.trans kq;have E4a:=hide ((a0d E4).kept kq hR);clear kq k4 h4 E4
  go_wp2_with fail
  refine (a2S R A ws _ _ w4a h4a).mono ?_;rintro e w4b ⟨rfl,h4b,kq⟩;have k4b:=k4a.trans kq;have E4b:=hide ((a0d E4a).kept kq hR);clear kq k4a h4a E4a;have HK:=hide k4b;have HH:=hide h4b;go_wp2;go_ret;exact⟨_,(a0M ws [nmB,unB,a0n,a0n,miB] (1,false)),rfl,.wait hb3,HH.out,HK.out⟩
 rw[hb3] at h4 ⊢
 go_wp2_with fail
 refine (a2n R A ws 0 false a7l w4 h4).mono ?_;rintro e w5 ⟨rfl,h5,kq⟩;have k5:=k4.trans kq;clear kq k4 h4;rcases Bool.eq_false_or_eq_true (isB ws 0 false a7l) with hb4|hb4
 ·rw[hb4,if_pos rfl] at h5;have E5:=hide ((a0d HE).kept k5 hR)
  go_wp2_with fail
  refine (a3v R A ws _ _ w5 h5).mono ?_;rintro e w5a ⟨rfl,h5a,kq⟩;have k5a:=k5.trans kq;have E5a:=hide ((a0d E5).kept kq hR);clear kq k5 h5 E5
  go_wp2_with fail
  refine (a5v R A ws _ _ w5a h5a).mono ?_;rintro e w5b ⟨rfl,h5b,kq⟩;have k5b:=k5a.trans kq;have E5b:=hide ((a0d E5a).kept kq hR);clear kq k5a h5a E5a
  go_wp2_with fail
  refine (a0d HPP (.inl hb4) R A (a0M ws [nmB,unB] (1,false)) w5b h5b (a0d E5b) hR).mono ?_;rintro e w5c ⟨pc,ev,acc,fr,mn,mi,ti,un,s,rfl,hr,h5c,kq⟩;have HR:=hide hr;clear hr;simp only[b9E];have k5c:=k5b.trans kq;have E5c:=hide ((a0d E5b).kept kq hR);clear kq k5b h5b E5b;have HK:=hide k5c;have HH:=hide h5c;go_wp2;go_ret;exact⟨_,s,rfl,.series hb4 pc ev acc fr mn mi ti un s HR.out,HH.out,HK.out⟩
 rw[hb4] at h5 ⊢
 go_wp2_with fail
 refine (a2n R A ws 0 false a4z w5 h5).mono ?_;rintro e w6 ⟨rfl,h6,kq⟩;have k6:=k5.trans kq;clear kq k5 h5;rcases Bool.eq_false_or_eq_true (isB ws 0 false a4z) with hb5|hb5
 ·rw[hb5,if_pos rfl] at h6;have E6:=hide ((a0d HE).kept k6 hR)
  go_wp2_with fail
  refine (b9J R A ws _ _ w6 h6).mono ?_;rintro e w6a ⟨rfl,h6a,kq⟩;have k6a:=k6.trans kq;have E6a:=hide ((a0d E6).kept kq hR);clear kq k6 h6 E6;have HK:=hide k6a;have HH:=hide h6a;go_wp2;go_ret;exact⟨_,(a0M ws [idB] (1,false)),rfl,.confirm hb5,HH.out,HK.out⟩
 rw[hb5] at h6 ⊢
 go_wp2_with fail
 refine (a2n R A ws 0 false a6m w6 h6).mono ?_;rintro e w7 ⟨rfl,h7,kq⟩;have k7:=k6.trans kq;clear kq k6 h6;rcases Bool.eq_false_or_eq_true (isB ws 0 false a6m) with hb6|hb6
 ·rw[hb6,if_pos rfl] at h7;have E7:=hide ((a0d HE).kept k7 hR)
  go_wp2_with fail
  refine (b9J R A ws _ _ w7 h7).mono ?_;rintro e w7a ⟨rfl,h7a,kq⟩;have k7a:=k7.trans kq;have E7a:=hide ((a0d E7).kept kq hR);clear kq k7 h7 E7;have HK:=hide k7a;have HH:=hide h7a;go_wp2;go_ret;exact⟨_,(a0M ws [idB] (1,false)),rfl,.cancel hb6,HH.out,HK.out⟩
 rw[hb6] at h7 ⊢
 go_wp2_with fail
 refine (a2n R A ws 0 false a5Q w7 h7).mono ?_;rintro e w8 ⟨rfl,h8,kq⟩;have k8:=k7.trans kq;clear kq k7 h7;rcases Bool.eq_false_or_eq_true (isB ws 0 false a5Q) with hb7|hb7
 ·rw[hb7,if_pos rfl] at h8;have E8:=hide ((a0d HE).kept k8 hR)
  cases hm:a1b ws.length (a0M ws [nmB] (1,false)).1 (a0M ws [nmB] (1,false)).2
  ·go_wp2_with fail
   refine (b9H R A ws (1,false) w8 h8 hm).mono ?_;rintro e wz ⟨rfl,hz,kz⟩;have HK:=hide (k8.trans kz);have HH:=hide hz;have HM:=hide hm;clear hz kz hm k8 h8;go_wp2;go_ret;exact⟨_,(a0M ws [nmB] (1,false)),rfl,.list0 hb7 HM.out,HH.out,HK.out⟩
  ·go_wp2_with fail
   refine (b7W R A ws (1,false) w8 h8 (a0d E8) hR hm).mono ?_;rintro e wz ⟨rfl,hz,kz⟩;have HK:=hide (k8.trans kz);have HH:=hide hz;have HM:=hide hm;clear hz kz hm k8 h8;go_wp2;go_ret;exact⟨_,(a0M ws [nmB,a0n,a0n] (1,false)),rfl,.list1 hb7 HM.out,HH.out,HK.out⟩
 rw[hb7] at h8 ⊢
 go_wp2_with fail
 refine (a2n R A ws 0 false a5q w8 h8).mono ?_;rintro e w9 ⟨rfl,h9,kq⟩;have k9:=k8.trans kq;clear kq k8 h8;rcases Bool.eq_false_or_eq_true (isB ws 0 false a5q) with hb8|hb8
 ·rw[hb8,if_pos rfl] at h9;have E9:=hide ((a0d HE).kept k9 hR);have HK:=hide k9;have HH:=hide h9;go_wp2;go_ret;exact⟨_,(1,false),rfl,.waiting hb8,HH.out,HK.out⟩
 rw[hb8] at h9 ⊢
 go_wp2_with fail
 refine (a2n R A ws 0 false a9a w9 h9).mono ?_;rintro e w10 ⟨rfl,h10,kq⟩;have k10:=k9.trans kq;clear kq k9 h9;rcases Bool.eq_false_or_eq_true (isB ws 0 false a9a) with hb9|hb9
 ·rw[hb9,if_pos rfl] at h10;have E10:=hide ((a0d HE).kept k10 hR)
  go_wp2_with fail
  refine (a3v R A ws _ _ w10 h10).mono ?_;rintro e w10a ⟨rfl,h10a,kq⟩;have k10a:=k10.trans kq;have E10a:=hide ((a0d E10).kept kq hR);clear kq k10 h10 E10
  go_wp2_with fail
  refine (a6F R A ws _ _ w10a h10a (a0d E10a) hR).mono ?_;rintro e w10b ⟨rfl,h10b,kq⟩;have k10b:=k10a.trans kq;have E10b:=hide ((a0d E10a).kept kq hR);clear kq k10a h10a E10a;have HK:=hide k10b;have HH:=hide h10b;go_wp2;go_ret;exact⟨_,(a0M ws [nmB,a0n,a0n] (1,false)),rfl,.peak hb9,HH.out,HK.out⟩
 rw[hb9] at h10 ⊢
 go_wp2_with fail
 refine (a2n R A ws 0 false b5h w10 h10).mono ?_;rintro e w11 ⟨rfl,h11,kq⟩;have k11:=k10.trans kq;clear kq k10 h10;rcases Bool.eq_false_or_eq_true (isB ws 0 false b5h) with hb10|hb10
 ·rw[hb10,if_pos rfl] at h11;have E11:=hide ((a0d HE).kept k11 hR)
  go_wp2_with fail
  refine (a3v R A ws _ _ w11 h11).mono ?_;rintro e w11a ⟨rfl,h11a,kq⟩;have k11a:=k11.trans kq;have E11a:=hide ((a0d E11).kept kq hR);clear kq k11 h11 E11
  go_wp2_with fail
  refine (a5v R A ws _ _ w11a h11a).mono ?_;rintro e w11b ⟨rfl,h11b,kq⟩;have k11b:=k11a.trans kq;have E11b:=hide ((a0d E11a).kept kq hR);clear kq k11a h11a E11a
  go_wp2_with fail
  refine (a2S R A ws _ _ w11b h11b).mono ?_;rintro e w11c ⟨rfl,h11c,kq⟩;have k11c:=k11b.trans kq;have E11c:=hide ((a0d E11b).kept kq hR);clear kq k11b h11b E11b
  go_wp2_with fail
  refine (a6F R A ws _ _ w11c h11c (a0d E11c) hR).mono ?_;rintro e w11d ⟨rfl,h11d,kq⟩;have k11d:=k11c.trans kq;have E11d:=hide ((a0d E11c).kept kq hR);clear kq k11c h11c E11c;have HK:=hide k11d;have HH:=hide h11d;go_wp2;go_ret;exact⟨_,(a0M ws [nmB,unB,miB,a0n,a0n] (1,false)),rfl,.find hb10,HH.out,HK.out⟩
 rw[hb10] at h11 ⊢
 go_wp2_with fail
 refine (a2n R A ws 0 false a7M w11 h11).mono ?_;rintro e w12 ⟨rfl,h12,kq⟩;have k12:=k11.trans kq;clear kq k11 h11;rcases Bool.eq_false_or_eq_true (isB ws 0 false a7M) with hb11|hb11
 ·rw[hb11,if_pos rfl] at h12;have E12:=hide ((a0d HE).kept k12 hR)
  go_wp2_with fail
  refine (a0d HPP (.inr hb11) R A (1,false) w12 h12 (a0d E12) hR).mono ?_;rintro e w12a ⟨pc,ev,acc,fr,mn,mi,ti,un,s,rfl,hr,h12a,kq⟩;have HR:=hide hr;clear hr;simp only[b9E];have k12a:=k12.trans kq;have E12a:=hide ((a0d E12).kept kq hR);clear kq k12 h12 E12;have HK:=hide k12a;have HH:=hide h12a;go_wp2;go_ret;exact⟨_,s,rfl,.expand hb11 pc ev acc fr mn mi ti un s HR.out,HH.out,HK.out⟩
 rw[hb11] at h12 ⊢
 go_wp2_with fail
 refine (a2n R A ws 0 false b4n w12 h12).mono ?_;rintro e w13 ⟨rfl,h13,kq⟩;have k13:=k12.trans kq;clear kq k12 h12;rcases Bool.eq_false_or_eq_true (isB ws 0 false b4n) with hb12|hb12
 ·rw[hb12,if_pos rfl] at h13;have E13:=hide ((a0d HE).kept k13 hR)
  go_wp2_with fail
  refine (a2S R A ws _ _ w13 h13).mono ?_;rintro e w13a ⟨rfl,h13a,kq⟩;have k13a:=k13.trans kq;have E13a:=hide ((a0d E13).kept kq hR);clear kq k13 h13 E13;have HK:=hide k13a;have HH:=hide h13a;go_wp2;go_ret;exact⟨_,(a0M ws [miB] (1,false)),rfl,.tick hb12,HH.out,HK.out⟩
 rw[hb12] at h13 ⊢
 go_wp2_with fail
 refine (a2n R A ws 0 false b1c w13 h13).mono ?_;rintro e w14 ⟨rfl,h14,kq⟩;have k14:=k13.trans kq;clear kq k13 h13;rcases Bool.eq_false_or_eq_true (isB ws 0 false b1c) with hb13|hb13
 ·rw[hb13,if_pos rfl] at h14;have E14:=hide ((a0d HE).kept k14 hR);have HK:=hide k14;have HH:=hide h14;go_wp2;go_ret;exact⟨_,(1,false),rfl,.clock hb13,HH.out,HK.out⟩
 rw[hb13] at h14 ⊢;have c2:=h14.c2;have f2:=h14.f2;go_wp2;go_ret;exact⟨_,(0,true),rfl,.none hb0 hb1 hb2 hb3 hb4 hb5 hb6 hb7 hb8 hb9 hb10 hb11 hb12 hb13,h14.bad,k14.setCell _ _⟩
theorem b4i(s:ByteArray):∀ x∈Txt.a1v s,x.size<=s.size:=by
 intro x hx;unfold Txt.a1v at hx;simp only[List.mem_map] at hx;obtain⟨y,_,rfl⟩:=hx;have:(s.extract y.1 y.2).size=min y.2 s.size-y.1:=ByteArray.size_extract ..;omega
inductive a7T (s:ByteArray):Ending->Prop where
 |long (h:160<s.size):a7T s (.returned (.tuple #[.nilIface,.int .i64 1,.int .i64 0]))
 |bad (h:s.size<=160) (v:Value) (st:Nat × Bool) (hl:a2H (Txt.a1v s) v st) (hb:st.2=true\/a1b (Txt.a1v s).length st.1 st.2=true):a7T s (.returned (.tuple #[.nilIface,.int .i64 2,.int .i64 st.1]))
 |e6J (h:s.size<=160) (v:Value) (st:Nat × Bool) (hl:a2H (Txt.a1v s) v st) (h2:st.2=false) (hb:a1b (Txt.a1v s).length st.1 st.2=false):a7T s (.returned (.tuple #[v,.int .i64 0,.int .i64 0]))
theorem b7v(s:ByteArray):∀ k:Nat,k<=s.size->(Txt.b7w s k).length+(if (Txt.a8z s k).size=0 then 0 else 1)<=k
 |0,_=>by
  have:=Txt.b5J s 0;have:=Txt.b7k s 0;rw[if_pos (by omega)];omega
 |k+1,hk=>by
  have ih:=b7v s k (by omega)
  by_cases hb:Txt.a0V s k=32
  ·obtain⟨h1,h2⟩:=Txt.b3O s k (by omega) hb;have e:(if (⟨#[]⟩:ByteArray).size=0 then (0:Nat) else 1)=0:=if_pos rfl;rw[h1,h2,e,List.length_append]
   by_cases hc:(Txt.a8z s k).size=0
   ·rw[if_pos hc] at ih ⊢;simp;omega
   ·rw[if_neg hc] at ih ⊢;simp;omega
  ·obtain⟨_,h2⟩:=Txt.b7l s k hb;rw[h2]
   split at ih <;> split <;> omega
theorem b7C(s:ByteArray):(Txt.a1v s).length<=s.size:=by
 have:=b7v s s.size (zq _);rw[Txt.b2t,List.length_append]
 split <;> rename_i hc <;> simp[hc] at this ⊢ <;> omega
theorem b9Q{base g n cap:Nat}{xs:List ByteArray}(h:w.ownsRow base 9 1 (.slice (some ⟨g,0,none⟩) n cap) n (xs.map Value.string)):g<w.heap.size/\∀ (i:Nat)(hi:i<xs.length),w.cell? ⟨g,i,none⟩=some (.string xs[i]):=by
 rcases h.2 with ⟨h0,_⟩|⟨g',cap',cur,hv,hg,hh,hc,_,hs,ht⟩
 ·cases h0
 ·cases hv
  have hl:g<w.heap.size:=by
   by_cases hl:g<w.heap.size
   ·exact hl
   ·rw[Array.getElem?_eq_none (by omega)] at hh;cases hh
  refine⟨hl,fun i hi=>?_⟩;have h1:=h.1;have hlen:(xs.map Value.string).length=xs.length:=by simp
  have hcur:cur[i]?=some (.string xs[i]):=by
   have hx:(xs.map Value.string)[i]?=some (.string xs[i]):=by simp[hi]
   rw[<- ht,List.getElem?_take,if_pos (by omega)] at hx
   simpa using hx
  simp[World.cell?,hh,hcur]
theorem f3Y(s:ByteArray)(w:World)(he:Env w)(hP:isB (Txt.a1v s) 0 false a7l=true\/isB (Txt.a1v s) 0 false a7M=true->g3M (Txt.a1v s)):
  Calls Tryz.prog 45 #[.string s] w fun e w'=>a7T s e/\Below w.heap.size w w':=by
 have HE:=hide he;have h10:=he.size;clear he
 by_cases hs:s.size<=160
 ·have hs2:(s.size:Int)<=160:=by omega
  go_enter Tryz.func45,Tryz.ntmps45
  go_wp2_with fail
  refine (b9v s w hs).mono ?_;rintro e w1 ⟨A,rfl,hA,ho,hb⟩;obtain⟨hAl,hrow⟩:=b9Q ho;have hwl:=b7C s;have hsm:=b4i s;obtain⟨ws,hws⟩:∃ ws,ws=Txt.a1v s:=⟨_,rfl⟩;have HWS:=hide hws;rw[<- hws] at hrow hwl hsm hP ⊢;have HPP:=hide hP;clear hws ho hP;have HROW:=hide hrow;have HSM:=hide hsm;clear hrow hsm
  go_wp2_with fail
  obtain⟨X,hX⟩:∃ X,X=w1.alloc (.cells #[.slice (some ⟨A,0,none⟩) ws.length ws.length,.int .i64 0,.bool false] 123):=⟨_,rfl⟩;rw[<- hX];have hbX:Below w1.heap.size w1 X:=by rw[hX];exact (zr _ _).alloc (zq _) _
  have hrs:RS X w1.heap.size A ws 0 false:=by
   refine⟨?_,?_,?_,?_,?_,by omega,fun i hi=>cell_later hbX (a0d HROW i hi),by omega,Nat.zero_le _,fun x hx=>Nat.le_trans (a0d HSM x hx) hs⟩ <;> (rw[hX];simp)
  clear hX;have eX:=((a0d HE).later hb).later hbX;have hz1:=hb.size;refine (f1j w1.heap.size A ws X hrs eX (by omega) (a0d HPP)).mono ?_;rintro e w2 ⟨v,st,rfl,hl,h2,k2⟩;have c1:=h2.c1;have c2:=h2.c2;have HL:=hide hl;have hbW:Below w.heap.size w w2:=(hb.trans (hbX.mono hz1)).trans (k2.below hz1 (Nat.le_trans hz1 hbX.size));have hnx:=h2.c6c;clear hl eX hrs hbX;obtain⟨nx,wr⟩:=st;dsimp only at c1 c2 h2 hnx;have hmo:a1b ws.length nx wr=false\/a1b ws.length nx wr=true:=by cases a1b ws.length nx wr <;> simp
  cases wr
  ·rcases hmo with hmo|hmo
   ·have HM:=hide hmo
    go_wp2_with fail
    refine (a0X w1.heap.size A ws nx false w2 h2).mono ?_;rintro e w3 ⟨rfl,n,hw3⟩;have hb3:Below w.heap.size w w3:=by rw[hw3];exact⟨hbW.os,hbW.tape,hbW.output,hbW.size,hbW.block⟩
    clear hw3 h2;rw[hmo];go_wp2;go_ret3;have hws:=HWS.out;subst hws;exact⟨.e6J hs v (nx,false) HL.out rfl HM.out,hb3⟩
   ·have HM:=hide hmo
    go_wp2_with fail
    refine (a0X w1.heap.size A ws nx false w2 h2).mono ?_;rintro e w3 ⟨rfl,n,hw3⟩;have hb3:Below w.heap.size w w3:=by rw[hw3];exact⟨hbW.os,hbW.tape,hbW.output,hbW.size,hbW.block⟩
    have d1:w3.cell? ⟨w1.heap.size,1,none⟩=some (.int .i64 nx):=by rw[hw3];exact c1
    clear hw3 h2 c1 c2;rw[hmo];go_wp2
    go_quiet (fail)
    go_wp2;go_ret3;have hws:=HWS.out;subst hws;exact⟨.bad hs v (nx,false) HL.out (.inr HM.out),⟨hb3.os,hb3.tape,hb3.output,hb3.size,hb3.block⟩⟩
  ·clear h2 hmo;go_wp2
   go_quiet (fail)
   go_wp2;go_ret3;have hws:=HWS.out;subst hws;exact⟨.bad hs v (nx,true) HL.out (.inl rfl),⟨hbW.os,hbW.tape,hbW.output,hbW.size,hbW.block⟩⟩
 ·have hs2:¬ (s.size:Int)<=160:=by omega
  go_enter Tryz.func45,Tryz.ntmps45
  go_wp2;go_ret3;exact⟨.long (by omega),Below.refl _ _⟩
open Desk (Ent St Ids kept a0C a0Q a1C a2e ofB a0y a2c Mid a1H a0z Inv)
theorem Env.ten{wx:World}(h:Env w)(hb:Below 10 w wx):Env wx:=by
 obtain⟨m,hm⟩:=h.c5L;have c:∀ {b:Nat}{o:Nat}{v:Value},b<10->w.cell? ⟨b,o,none⟩=some v->wx.cell? ⟨b,o,none⟩=some v:=fun hb' hv=>(hb.cell (p:=⟨_,_,none⟩) hb').trans hv
 have ht:=h.tab;obtain⟨a0,a1,a2,a3,a4,a5,a6,a7,a8,a9,a10,a11⟩:=ht;refine⟨⟨c (by decide) a0,c (by decide) a1,c (by decide) a2,c (by decide) a3,c (by decide) a4,c (by decide) a5,c (by decide) a6,c (by decide) a7,c (by decide) a8,c (by decide) a9,c (by decide) a10,c (by decide) a11⟩,⟨m,c (by decide) hm⟩,?_,Nat.le_trans h.size hb.size,c (by decide) h.mo,c (by decide) h.tu,c (by decide) h.we,c (by decide) h.th,c (by decide) h.fr,c (by decide) h.sa,c (by decide) h.su⟩;have hp:=h.pow;unfold Lib.TabIs World.var? at hp ⊢;simp only[c6q,Option.bind_some] at hp ⊢;rw[hb.block 0 (by decide)];exact hp
theorem Step.ten{S:Col->Prop}(h:Step S B col col' w w')(hB:10<=B)(hs:10<=w.heap.size)(hc:∀ b,b<10->col b=none):Below 10 w w'/\∀ b,b<10->col' b=none:=by
 obtain⟨G,h1,h2⟩:=h.off;refine⟨⟨h1.os,h1.tape,h1.output,h1.size,fun b hb=>h1.block b (by omega) (fun hx=>?_)⟩,fun b hb=>?_⟩
 ·rcases h2 b hx with ⟨c,e,_⟩|⟨_,e⟩
  ·rw[hc b hb] at e;cases e
  ·omega
 ·cases e:col' b with
  |none=>rfl
  |some c =>
   rcases h.new b c e with e1|e1
   ·rw[hc b hb] at e1;cases e1
   ·omega
structure BD(w:World)(p d:Nat)(s:St)(r:Raw)(col:Nat->Option Col):Prop where
 pc:w.heap[p]?=some (.cells #[.pointer (some ⟨d,0,none⟩)] 99 (0,0))
 pn:col p=none
 ds:DSt w d s r col
 env:Env w
 gl:∀ b,b<10->col b=none
def b5M(w:World)(p d:Nat)(col:Nat->Option Col)(q:St × Desk.Rep)(v:Value)(w':World):Prop :=
 ∃ (r':Raw) (col':Nat->Option Col),BD w' p d q.1 r' col'/\Step anyS w.heap.size col col' w w'/\a5m w' w.heap.size col' v q.2
def f9T(t:ByteArray):Prop:=∀ X,Env X->Calls Tryz.prog 45 #[.string t] X fun e w'=>a7T t e/\Below X.heap.size X w'
theorem f6L(h:BD w p d s r col)(t:ByteArray)(line:Value)(l:Desk.a7U)(hRD:f9T t)(hr:∀ e,a7T t e->e=.returned (.tuple #[line,.int .i64 0,.int .i64 0]))(hmd:Desk.Mid (Desk.a0g s l).1)(hin:Desk.Inv (Desk.a1q s l).1)(hgl:(Desk.a0g s l).2.granted.length<=50000)
  (hans:∀ X,Tab X->10<=X.heap.size->DSt X d s r col->Calls Tryz.prog 64 #[.pointer (some ⟨d,0,none⟩),line] X fun e w'=>∃ v,e=.returned v/\a0l X d col (Desk.a0g s l) v w'):
  Calls Tryz.prog 21 #[.pointer (some ⟨p,0,none⟩),.string t] w fun e w'=>∃ v,e=.returned v/\b5M w p d col (Desk.a1q s l) v w':=by
 have hX:Below w.heap.size w (w.alloc a0f):=(zr _ _).alloc (zq _) _;have hq:=a0p w a0f;have hs:w.heap.size<(w.alloc a0f).heap.size:=by simp
 have RD:=a0b (hRD (w.alloc a0f) (h.env.later hX));have HX:=a0b (zA hX (zA (Q7.of hq) (zA (h.ds.dk.none (zq _)) hs)));have HH:=a0b h;have HR:=a0b hr;have HD:Hid (∀ w1,Below w.heap.size w w1->Calls Tryz.prog 46 #[.pointer (some ⟨d,0,none⟩),line] w1 fun e w'=>∃ v,e=.returned v/\a0l w1 d col (Desk.a1q s l) v w'):=fun w1 k=>c6E ⟨h.ds.dk.later k,h.ds.of,h.ds.wl,h.ds.hl,h.ds.inv⟩ line l hmd hgl (fun X kX hds=>hans X (((h.env.later k).later kX).tab) (Nat.le_trans (Nat.le_trans h.env.size k.size) kX.size) hds)
 have HI:=a0b hin;have hpl:p<w.heap.size:=(Array.getElem?_eq_some_iff.1 h.pc).1;clear h hr hans hX hq hs hgl hmd hin;generalize Desk.a1q s l=q at *
 go_enter Tryz.func21,Tryz.ntmps21
 go_upto_region 1 with fail
 change Code.wp _ _ _ _ (w.alloc a0f);generalize w.alloc a0f=X at *
 go_upto_region 2 with (first
  |(go_at_call 45;refine RD.out.mono ?_;rintro e w1 ⟨hrr,hb⟩;obtain rfl:=HR.out _ hrr))
 have BW:Hid (Below w.heap.size w w1):=HX.out.1.trans (hb.mono HX.out.1.size)
 have pc:w1.cell? ⟨p,0,none⟩=some (.pointer (some ⟨d,0,none⟩)):=by
  have:=(BW.out.block p hpl).trans HH.out.pc;simp[World.cell?,this]
 have DD:=a0b (HD.out w1 BW.out);have QX:Hid (Q7 w1 w.heap.size/\w.heap.size<w1.heap.size):=⟨HX.out.2.1.later (hb.block _ HX.out.2.2.2),Nat.lt_of_lt_of_le HX.out.2.2.2 hb.size⟩;clear HD RD HR hb hrr
 go_wp2_with fail
 refine DD.out.mono ?_;rintro e w2 ⟨v,rfl,ap⟩;obtain⟨er,at_,nn,a1,a2,a3,a4,n1,n2,n3,n4,c1,c2,c3,c4,rfl,q7,hf⟩:=ap.up BW.out (zq _) QX.out.2 HX.out.2.2.1 QX.out.1
 have HF:Hid (b5M w p d col q (a0s er at_ nn (.slice a1 n1 c1) (.slice a2 n2 c2) (.slice a3 n3 c3) (.slice a4 n4 c4)) (a2w w2 w.heap.size (.int .i64 er) (.int .i64 at_) (.int .i64 nn) (.slice a1 n1 c1) (.slice a2 n2 c2) (.slice a3 n3 c3) (.slice a4 n4 c4))):=by
  obtain⟨r',col',k1,k2,k3,k4,k5,k6⟩:=hf (.int .i64 er) (.int .i64 at_) (.int .i64 nn) (.slice a1 n1 c1) (.slice a2 n2 c2) (.slice a3 n3 c3) (.slice a4 n4 c4);have h0:=HH.out;obtain⟨t1,t2⟩:=k5.ten h0.env.size h0.env.size h0.gl;exact⟨r',col',⟨(k5.blockN hpl h0.pn hpl).trans h0.pc,k5.keepN h0.pn hpl,⟨k1,k2,k3,k4,HI.out⟩,h0.env.ten t1,t2⟩,k5,k6⟩
 clear ap hf DD pc;obtain⟨q0,q1,q2,q3,q4,q5,q6,fq⟩:=q7;simp only[a0s]
 go_wp2_with fail
 exact bodyPost_ret (v:=a0s er at_ nn (.slice a1 n1 c1) (.slice a2 n2 c2) (.slice a3 n3 c3) (.slice a4 n4 c4)) (by simp[results,Tryz.results21,go_sem,a0s,q0,q1,q2,q3,q4,q5,q6]) rfl ⟨_,rfl,HF.out⟩
theorem f9O(h:BD w p d s r col)(t:ByteArray)(er at_:Int)(hRD:f9T t)(he:er≠0)(hr:∀ e,a7T t e->e=.returned (.tuple #[.nilIface,.int .i64 er,.int .i64 at_])):
  Calls Tryz.prog 21 #[.pointer (some ⟨p,0,none⟩),.string t] w fun e w'=>∃ v,e=.returned v/\b5M w p d col (s,⟨er,at_,0,[],[],[],[]⟩) v w':=by
 have hX:Below w.heap.size w (w.alloc a0f):=(zr _ _).alloc (zq _) _;have hq:=a0p w a0f;have hs:w.heap.size<(w.alloc a0f).heap.size:=by simp
 have RD:=a0b (hRD (w.alloc a0f) (h.env.later hX));have HX:=a0b (zA hX (zA (Q7.of hq) (zA (h.ds.dk.none (zq _)) hs)));have HH:=a0b h;have HR:=a0b hr;have hpl:p<w.heap.size:=(Array.getElem?_eq_some_iff.1 h.pc).1;have hb1:(er != 0)=true:=by simpa using he
 clear h hr hX hq hs he
 go_enter Tryz.func21,Tryz.ntmps21
 go_upto_region 1 with fail
 change Code.wp _ _ _ _ (w.alloc a0f);generalize w.alloc a0f=X at *
 go_upto_region 2 with (first
  |(go_at_call 45;refine RD.out.mono ?_;rintro e w1 ⟨hrr,hb⟩;obtain rfl:=HR.out _ hrr))
 have BW:Hid (Below w.heap.size w w1):=HX.out.1.trans (hb.mono HX.out.1.size);have QX:Hid (Q7 w1 w.heap.size):=HX.out.2.1.later (hb.block _ HX.out.2.2.2)
 have HF:Hid (∀ a b c e f g i,b5M w p d col (s,⟨er,at_,0,[],[],[],[]⟩) (a0s er at_ 0 (.slice none 0 0) (.slice none 0 0) (.slice none 0 0) (.slice none 0 0)) (a2w w1 w.heap.size a b c e f g i)):=fun a b c e f g i=>by
  have h0:=HH.out;have ko:=a2R w1 w.heap.size a b c e f g i;have nq:=h0.ds.dk.none (zq w.heap.size);have st:Step anyS w.heap.size col col w (a2w w1 w.heap.size a b c e f g i):=(Step.below BW.out).trans ⟨⟨_,ko,fun x hx=>.inr (by have:x=w.heap.size:=List.mem_singleton.1 hx;subst this;exact⟨nq,Nat.le_refl _⟩)⟩,fun _ _ h=>h,fun _ _ h=>.inl h⟩;obtain⟨t1,t2⟩:=st.ten h0.env.size h0.env.size h0.gl;exact⟨r,col,⟨(st.blockN hpl h0.pn hpl).trans h0.pc,h0.pn,⟨(h0.ds.dk.later BW.out).off ko (fun x hx=>by have:x=w.heap.size:=List.mem_singleton.1 hx;subst this;exact nq),h0.ds.of,h0.ds.wl,h0.ds.hl,h0.ds.inv⟩,h0.env.ten t1,t2⟩,st,⟨_,_,_,_,[],rfl,rfl,a3j.nil _ _ _,a2I.nil _ _ _,a2I.nil _ _ _,a2I.nil _ _ _,(fun b hb=>by cases hb),fun b hb=>by cases hb⟩⟩
 clear RD HR hb hrr HX;obtain⟨q0,q1,q2,q3,q4,q5,q6,fq⟩:=QX.out
 go_wp2_with fail
 exact bodyPost_ret (v:=a0s er at_ 0 (.slice none 0 0) (.slice none 0 0) (.slice none 0 0) (.slice none 0 0)) (by simp[results,Tryz.results21,go_sem,a0s,q0,q1,q2,q3,q4,q5,q6]) rfl ⟨_,rfl,HF.out _ _ _ _ _ _ _⟩
theorem d0q(t:TypeId)(h:t≠149)(xT:TypeId)(v:Value)(w:World):(Instr.typeAssert (.iface t v) xT 149 true).run Tryz.prog w=.ok (.tuple #[.agg #[.string ⟨#[]⟩,.int .i64 0],.bool false]) w:=by
 simp[Instr.typeAssert,go_sem,Result.andThen,run_underlying Tryz.underlying149,h]
theorem d2o(t:TypeId)(h:t≠154)(xT:TypeId)(v:Value)(w:World):(Instr.typeAssert (.iface t v) xT 154 true).run Tryz.prog w=.ok (.tuple #[.agg #[.string ⟨#[]⟩,.int .i64 0,.int .i64 0,.int .i64 0],.bool false]) w:=by
 simp[Instr.typeAssert,go_sem,Result.andThen,run_underlying Tryz.underlying154,h]
theorem d2F(t:TypeId)(h:t≠156)(xT:TypeId)(v:Value)(w:World):(Instr.typeAssert (.iface t v) xT 156 true).run Tryz.prog w=.ok (.tuple #[.agg #[.string ⟨#[]⟩,.int .i64 0,.int .i64 0,.int .i64 0,.int .i64 0],.bool false]) w:=by
 simp[Instr.typeAssert,go_sem,Result.andThen,run_underlying Tryz.underlying156,h]
theorem d3H(t:TypeId)(h:t≠157)(xT:TypeId)(v:Value)(w:World):(Instr.typeAssert (.iface t v) xT 157 true).run Tryz.prog w=.ok (.tuple #[.agg #[.string ⟨#[]⟩,.int .i64 0,.int .i64 0,.int .i64 0,.int .i64 0],.bool false]) w:=by
 simp[Instr.typeAssert,go_sem,Result.andThen,run_underlying Tryz.underlying157,h]
theorem d0K(t:TypeId)(h:t≠165)(xT:TypeId)(v:Value)(w:World):(Instr.typeAssert (.iface t v) xT 165 true).run Tryz.prog w=.ok (.tuple #[.agg #[.string ⟨#[]⟩,.int .i64 0,.int .i64 0,.int .i64 0,.bool false,.bool false,.bool false,.bool false,.bool false,.bool false,.bool false,.int .i64 0,.int .i64 0,.int .i64 0,.int .i64 0,.int .i64 0],.bool false]) w:=by
 simp[Instr.typeAssert,go_sem,Result.andThen,run_underlying Tryz.underlying165,h]
theorem d0y(t:TypeId)(h:t≠167)(xT:TypeId)(v:Value)(w:World):(Instr.typeAssert (.iface t v) xT 167 true).run Tryz.prog w=.ok (.tuple #[.agg #[.int .i64 0],.bool false]) w:=by
 simp[Instr.typeAssert,go_sem,Result.andThen,run_underlying Tryz.underlying167,h]
theorem d1Q(t:TypeId)(h:t≠168)(xT:TypeId)(v:Value)(w:World):(Instr.typeAssert (.iface t v) xT 168 true).run Tryz.prog w=.ok (.tuple #[.agg #[.int .i64 0],.bool false]) w:=by
 simp[Instr.typeAssert,go_sem,Result.andThen,run_underlying Tryz.underlying168,h]
theorem d8g(t:TypeId)(h:t≠170)(xT:TypeId)(v:Value)(w:World):(Instr.typeAssert (.iface t v) xT 170 true).run Tryz.prog w=.ok (.tuple #[.agg #[.string ⟨#[]⟩,.bool false,.int .i64 0,.int .i64 0],.bool false]) w:=by
 simp[Instr.typeAssert,go_sem,Result.andThen,run_underlying Tryz.underlying170,h]
theorem d2E(t:TypeId)(h:t≠173)(xT:TypeId)(v:Value)(w:World):(Instr.typeAssert (.iface t v) xT 173 true).run Tryz.prog w=.ok (.tuple #[.agg #[],.bool false]) w:=by
 simp[Instr.typeAssert,go_sem,Result.andThen,run_underlying Tryz.underlying173,h]
theorem e3J(t:TypeId)(h:t≠176)(xT:TypeId)(v:Value)(w:World):(Instr.typeAssert (.iface t v) xT 176 true).run Tryz.prog w=.ok (.tuple #[.agg #[.string ⟨#[]⟩,.int .i64 0,.int .i64 0],.bool false]) w:=by
 simp[Instr.typeAssert,go_sem,Result.andThen,run_underlying Tryz.underlying176,h]
theorem e7l(t:TypeId)(h:t≠178)(xT:TypeId)(v:Value)(w:World):(Instr.typeAssert (.iface t v) xT 178 true).run Tryz.prog w=.ok (.tuple #[.agg #[.string ⟨#[]⟩,.int .i64 0,.int .i64 0,.int .i64 0,.int .i64 0],.bool false]) w:=by
 simp[Instr.typeAssert,go_sem,Result.andThen,run_underlying Tryz.underlying178,h]
theorem e3K(t:TypeId)(h:t≠180)(xT:TypeId)(v:Value)(w:World):(Instr.typeAssert (.iface t v) xT 180 true).run Tryz.prog w=.ok (.tuple #[.agg #[.int .i64 0,.int .i64 0,.bool false,.bool false,.bool false,.bool false,.bool false,.bool false,.bool false,.int .i64 0,.int .i64 0,.int .i64 0,.int .i64 0,.int .i64 0],.bool false]) w:=by
 simp[Instr.typeAssert,go_sem,Result.andThen,run_underlying Tryz.underlying180,h]
theorem f3K(t:TypeId)(h:t≠182)(xT:TypeId)(v:Value)(w:World):(Instr.typeAssert (.iface t v) xT 182 true).run Tryz.prog w=.ok (.tuple #[.agg #[.int .i64 0],.bool false]) w:=by
 simp[Instr.typeAssert,go_sem,Result.andThen,run_underlying Tryz.underlying182,h]
theorem b8L(h:DSt w d s r col)(id:Int)(hid:0<=id/\id<=9999999):
  Calls Tryz.prog 97 #[.pointer (some ⟨d,0,none⟩),.agg #[.int .i64 id]] w fun e w'=>∃ v,e=.returned v/\a0l w d col (Desk.a0g s (.cancel id)) v w':=by
 obtain⟨hX,hXQ⟩:=a2q (w:=w) (.cells #[.int .i64 id] 168);have xi:((w.alloc (.cells #[.int .i64 id] 168)).alloc a0f).cell? ⟨w.heap.size,0,none⟩=some (.int .i64 id):=by simp[a0f]
 have HH:=a0b h;have HX:=a0b (zA hX hXQ);clear h hX hXQ
 go_enter Tryz.func97,Tryz.ntmps97
 go_upto_region 1 with fail
 change Code.wp _ _ _ _ ((w.alloc (.cells #[.int .i64 id] 168)).alloc a0f);generalize (w.alloc (.cells #[.int .i64 id] 168)).alloc a0f=X at HX xi ⊢;have hx:=HH.out.dk.later HX.out.1;obtain⟨m,f,a1,a2,a3,a4⟩:=hx.me;have kk:=a9g (n:=id) (by omega) (by omega);have hlook:=(a3.block (w':=X.drew) rfl).look b3h Tryz.underlying138 (c3P X.drew) kk;rw[a4 id] at hlook;have QX:Hid (Q7 X.drew (w.heap.size+1)):=Q7.of HX.out.2;have BX:Hid (Below w.heap.size w X.drew):=HX.out.1.drew
 cases he:a6U r.eg id with
 |none =>
  rw[he] at hlook;have hlook':(Instr.lookup 138 (.map (some m)) (.int .i64 id) false).run Tryz.prog X.drew=.ok (.pointer none) X.drew:=hlook;have HD:Hid (Desk.a0g s (.cancel id)=(s,Desk.Rep.error 9)):=by have e:=a7K HH.out.of he;simp only[Hid,Desk.a0g,e]
  clear hlook a3 a4 he hx HX
  go_big_region
  clear hlook' xi a1
  go_wp2_with fail
  refine (a0D 9 X.drew).mono ?_;rintro e w1 ⟨rfl,hb⟩;have hq:=hb.block (w.heap.size+1) (World.block_lt_of_cell? _ _ QX.out.q0)
  have HF:Hid (a0l w d col (Desk.a0g s (.cancel id)) (a0s 9 0 0 (.slice none 0 0) (.slice none 0 0) (.slice none 0 0) (.slice none 0 0)) (a2w w1 (w.heap.size+1) (.int .i64 9) (.int .i64 0) (.int .i64 0) (.slice none 0 0) (.slice none 0 0) (.slice none 0 0) (.slice none 0 0))):=by
   rw[HD.out];exact HH.out.said (BX.out.trans (hb.mono BX.out.size)) (by omega) 9 0 _ _ _ _ _ _ _
  obtain⟨q0,q1,q2,q3,q4,q5,q6,fq⟩:=QX.out.later hq;simp only[a0s]
  go_wp2_with fail
  exact bodyPost_ret (v:=a0s 9 0 0 (.slice none 0 0) (.slice none 0 0) (.slice none 0 0) (.slice none 0 0)) (by simp[results,Tryz.results97,go_sem,a0s,q0,q1,q2,q3,q4,q5,q6]) rfl ⟨_,rfl,HF.out⟩
 |some b =>
  rw[he] at hlook;obtain⟨g,hg,rfl,rfl⟩:=b2b he;have hlook':(Instr.lookup 138 (.map (some m)) (.int .i64 g.e.id) false).run Tryz.prog X.drew=.ok (.pointer (some ⟨g.eb,0,none⟩)) X.drew:=hlook;have hf:=a5I HH.out.of hx.ni hg;have ck:X.drew.cell? ⟨g.eb,1,none⟩=some (.int .i64 g.e.kind):=(hx.en g hg).1.k;have hd:=hx.later (a0q X);have HD:Hid (Desk.a0g s (.cancel g.e.id)=({ s with es:=kept g.e.id s.es },Desk.Rep.num 0)):=by simp only[Hid,Desk.a0g,hf]
  have hQ:w.heap.size+1<X.drew.heap.size:=World.block_lt_of_cell? _ _ QX.out.q0;have hcQ:col (w.heap.size+1)=none:=HH.out.dk.none (by omega)
  by_cases hk:g.e.kind=1
  ·have hkb:(g.e.kind != 1)=false:=by simpa using hk
   have LV:=a0b (a9f hd HH.out.of HH.out.wl HH.out.mid hg (HH.out.hl.goes1 hx.ni hg hk));have ST:Hid (Step anyS w.heap.size col col w X.drew):=Step.below BX.out;have Q2:=QX;have hQ2:=hQ;have hcQ2:=hcQ;clear hlook a3 a4 he hx HX hf hk hd hg
   go_big_region
   clear hlook' xi a1
   go_wp2_with fail
   refine LV.out.mono ?_;rintro e w2 ⟨rfl,r2,col2,k5,k6,k7,k8,k9⟩;have hq:=k9.blockN hQ2 hcQ2 hQ2
   have HF:Hid (a0l w d col (Desk.a0g s (.cancel g.e.id)) (a0s 0 0 0 (.slice none 0 0) (.slice none 0 0) (.slice none 0 0) (.slice none 0 0)) (a2w w2 (w.heap.size+1) (.int .i64 0) (.int .i64 0) (.int .i64 0) (.slice none 0 0) (.slice none 0 0) (.slice none 0 0) (.slice none 0 0))):=by
    rw[HD.out];exact a5O k5 k6 k7 k8 (ST.out.trans (k9.any ST.out.size)) (by omega) (k9.keepN hcQ2 hQ2) 0 0 _ _ _ _ _ _ _
   clear k5 k6 k7 k8 k9 LV;obtain⟨q0,q1,q2,q3,q4,q5,q6,fq⟩:=Q2.out.later hq
   go_wp2_with fail
   exact bodyPost_ret (v:=a0s 0 0 0 (.slice none 0 0) (.slice none 0 0) (.slice none 0 0) (.slice none 0 0)) (by simp[results,Tryz.results97,go_sem,a0s,q0,q1,q2,q3,q4,q5,q6]) rfl ⟨_,rfl,HF.out⟩
  ·have hkb:(g.e.kind != 1)=true:=by simpa using hk
   have hcnt:r.hl.length<=1000:=by
    have h1:=HH.out.hl.len;have h2:r.eg.length=s.es.length:=by rw[<- HH.out.of.es];simp
    have h3:=a1x HH.out.mid;omega
   have DR:=a0b (fun wx (k:Below X.drew.heap.size X.drew wx)=>b3L (hd.later k) HH.out.hl.1 hcnt g.e.a0Z g.e.id ⟨_,HH.out.hl.has hg hk,rfl,rfl⟩);have c0:X.drew.cell? ⟨g.eb,0,none⟩=some (.int .i64 g.e.id):=(hx.en g hg).1.en.c0;have c5:X.drew.cell? ⟨g.eb,5,none⟩=some (.int .i64 g.e.a0Z):=(hx.en g hg).1.u;have HG:=a0b (zA hg (zA hk hx.ni));clear hlook a3 a4 he hx HX hf hk hd hg hcnt
   go_big_region
   clear hlook' xi a1
   go_upto_region 5 with fail
   generalize hW:X.drew=W at *
   go_region_held3 (fun w'=>w'.cell? ⟨g.eb,0,none⟩=some (.int .i64 g.e.id)/\w'.cell? ⟨g.eb,5,none⟩=some (.int .i64 g.e.a0Z))
    (first
     |exact⟨c0,c5⟩
     |exact⟨((k5.en g HG.out.1).1).en.c0,((k5.en g HG.out.1).1).u⟩)
    (first
     |(go_at_call 149;refine (DR.out _ (a0q W)).mono ?_;rintro e w4 ⟨rfl,x,l',col1,k1,k2,k3,k4,k5,k6⟩))
   have LV:=a0b (a9f k5 (s:=s) ⟨HH.out.of.now,HH.out.of.given,HH.out.of.ts,HH.out.of.es,HH.out.of.th,HH.out.of.tb⟩ HH.out.wl HH.out.mid HG.out.1 (HH.out.hl.goes HG.out.2.2 HG.out.1 HG.out.2.1 k2 k3 k4));have ST:Hid (Step anyS w.heap.size col col1 w w4):=(Step.below BX.out).trans ((Step.below (a0q W)).trans (k6.any BX.out.size));have Q2:Hid (Q7 w4 (w.heap.size+1)):=QX.out.later (k6.blockN (b:=w.heap.size+1) hQ hcQ hQ);have hQ2:w.heap.size+1<w4.heap.size:=World.block_lt_of_cell? _ _ Q2.out.q0;have hcQ2:col1 (w.heap.size+1)=none:=k6.keepN hcQ hQ;clear k1 k2 k3 k4 k5 k6 DR c0 c5 ck hW
   go_wp2_with fail
   refine LV.out.mono ?_;rintro e w2 ⟨rfl,r2,col2,k5,k6,k7,k8,k9⟩;have hq:=k9.blockN hQ2 hcQ2 hQ2
   have HF:Hid (a0l w d col (Desk.a0g s (.cancel g.e.id)) (a0s 0 0 0 (.slice none 0 0) (.slice none 0 0) (.slice none 0 0) (.slice none 0 0)) (a2w w2 (w.heap.size+1) (.int .i64 0) (.int .i64 0) (.int .i64 0) (.slice none 0 0) (.slice none 0 0) (.slice none 0 0) (.slice none 0 0))):=by
    rw[HD.out];exact a5O k5 k6 k7 k8 (ST.out.trans (k9.any ST.out.size)) (by omega) (k9.keepN hcQ2 hQ2) 0 0 _ _ _ _ _ _ _
   clear k5 k6 k7 k8 k9 LV;obtain⟨q0,q1,q2,q3,q4,q5,q6,fq⟩:=Q2.out.later hq
   go_wp2_with fail
   exact bodyPost_ret (v:=a0s 0 0 0 (.slice none 0 0) (.slice none 0 0) (.slice none 0 0) (.slice none 0 0)) (by simp[results,Tryz.results97,go_sem,a0s,q0,q1,q2,q3,q4,q5,q6]) rfl ⟨_,rfl,HF.out⟩
def a1N(s:St)(e:Ent):St × Desk.Rep :=
 if s.given=60\/e.kind=3/\Desk.a1Y s.es=6 then (s,.error 5)
 else if e.kind≠3/\Desk.a1e s.ts s.es e.a0k e.a0c e.a0e=false then (s,.error 8)
 else Desk.a2t s e
def a1n(w:World)(B:Nat)(d:Nat)(col:Nat->Option Col)(q:St × Desk.Rep)(v:Value)(w':World):Prop :=
 ∃ (er n:Int) (r':Raw) (col':Nat->Option Col),v=a0s er 0 n (.slice none 0 0) (.slice none 0 0) (.slice none 0 0) (.slice none 0 0)/\q.2=⟨er,0,n,[],[],[],[]⟩/\DK w' d r' col'/\Of q.1 r'/\Wl r'/\Hl r'/\Step anyS B col col' w w'
theorem a4v{Z:World}{s':St}{r':Raw}(h1:DK Z d r' col')(h2:Of s' r')(h3:Wl r')(h4:Hl r')(h5:Step anyS B col col' w Z)(hQ:B<=Q)(hn:col' Q=none)(er n:Int)(a b c e f g i:Value):
  a1n w B d col (s',⟨er,0,n,[],[],[],[]⟩) (a0s er 0 n (.slice none 0 0) (.slice none 0 0) (.slice none 0 0) (.slice none 0 0)) (a2w Z Q a b c e f g i):=by
 have k:=a2R Z Q a b c e f g i;have st:Step anyS B col' col' Z (a2w Z Q a b c e f g i):=⟨⟨_,k,fun x hx=>.inr (by have:x=Q:=List.mem_singleton.1 hx;subst this;exact⟨hn,hQ⟩)⟩,fun _ _ h=>h,fun _ _ h=>.inl h⟩;exact⟨er,n,r',col',rfl,rfl,h1.off k (fun x hx=>by have:x=Q:=List.mem_singleton.1 hx;subst this;exact hn),h2,h3,h4,h5.trans st⟩
def EG.num(g:EG)(n:Int):EG:={ g with e:={ g.e with id:=n } }
theorem ENK.num{g:EG}(h:ENK w g)(hne:g.eb≠g.B)(n:Int):ENK (w.setCell ⟨g.eb,0,none⟩ (.int .i64 n)) (g.num n):=by
 have k:=Off.set0 g.eb w 0 (.int .i64 n);have hlt:=h.lt;refine⟨⟨zm _ _ _ h.en.c0,(zS _ _ _ _ (by simp)).trans h.en.c1,(zS _ _ _ _ (by simp)).trans h.en.c2,(zS _ _ _ _ (by simp)).trans h.en.c3,h.en.sl.off k (by simpa using Ne.symm hne),Nat.lt_of_lt_of_le h.en.lt k.size⟩,(zS _ _ _ _ (by simp)).trans h.k,(zS _ _ _ _ (by simp)).trans h.u,fun o=>(zF ..).trans (h.fz o),?_⟩;obtain⟨cs,e⟩:=h.bl;exact⟨_,heap_setCell_same _ _ _ _ _ _ e⟩
theorem Wl.a1Y(h:Wl r)(ho:Of s r):Desk.a1Y s.es=(r.wl.length:Int):=by
 unfold Desk.a1Y;rw[h,List.length_map,<- ho.es,List.filter_map,List.length_map];rfl
theorem b8G(h:DSt w d s r col){g:EG}(hg:ENK w g)(hB:B<=w.heap.size)(hf:s.given=60\/g.e.kind=3/\Desk.a1Y s.es=6):
  Calls Tryz.prog 144 #[.pointer (some ⟨d,0,none⟩),.pointer (some ⟨g.eb,0,none⟩)] w fun e w'=>∃ v,e=.returned v/\a1n w B d col (a1N s g.e) v w':=by
 have hX:Below w.heap.size w (w.alloc a0f):=(zr _ _).alloc (zq _) _;have QX:Hid (Q7 (w.alloc a0f) w.heap.size):=Q7.of (a0p w a0f);have cg:=(h.dk.later hX).c1;rw[h.of.given] at cg;have ck:=(hg.off (G:=[]) (Off.of_below hX) (by simp) (by simp)).k;have HD:Hid (a1N s g.e=(s,Desk.Rep.error 5)):=if_pos hf;obtain⟨v4,c4,own4,hc4⟩:=(h.dk.later hX).wa;obtain⟨a,cap,rfl⟩:=a0B own4;have hwn:=h.wl.a1Y h.of;have HH:=a0b h;have BX:=a0b hX;clear own4 hc4 h hX hg
 go_enter Tryz.func144,Tryz.ntmps144
 go_upto_region 1 with fail
 change Code.wp _ _ _ _ (w.alloc a0f);generalize w.alloc a0f=X at *;rcases hf with hf|⟨hf,hw⟩
 ·rw[hf] at cg
  go_wp2_with fail
  refine (a0D 5 X).mono ?_;rintro e w1 ⟨rfl,hb⟩;have hq:=hb.block w.heap.size (World.block_lt_of_cell? _ _ QX.out.q0)
  have HF:Hid (a1n w B d col (a1N s g.e) (a0s 5 0 0 (.slice none 0 0) (.slice none 0 0) (.slice none 0 0) (.slice none 0 0)) (a2w w1 w.heap.size (.int .i64 5) (.int .i64 0) (.int .i64 0) (.slice none 0 0) (.slice none 0 0) (.slice none 0 0) (.slice none 0 0))):=by
   rw[HD.out];exact a4v (HH.out.dk.later (BX.out.trans (hb.mono BX.out.size))) HH.out.of HH.out.wl HH.out.hl (Step.below (BX.out.trans (hb.mono BX.out.size))) hB (HH.out.dk.none (zq _)) 5 0 _ _ _ _ _ _ _
  obtain⟨q0,q1,q2,q3,q4,q5,q6,fq⟩:=QX.out.later hq;simp only[a0s]
  go_wp2_with fail
  exact bodyPost_ret (v:=a0s 5 0 0 (.slice none 0 0) (.slice none 0 0) (.slice none 0 0) (.slice none 0 0)) (by simp[results,Tryz.results144,go_sem,a0s,q0,q1,q2,q3,q4,q5,q6]) rfl ⟨_,rfl,HF.out⟩
 ·by_cases hg0:s.given<60
  ·rw[hf] at ck;rw[show r.wl.length=6 by omega] at c4
   go_wp2_with fail
   refine (a0D 5 X).mono ?_;rintro e w1 ⟨rfl,hb⟩;have hq:=hb.block w.heap.size (World.block_lt_of_cell? _ _ QX.out.q0)
   have HF:Hid (a1n w B d col (a1N s g.e) (a0s 5 0 0 (.slice none 0 0) (.slice none 0 0) (.slice none 0 0) (.slice none 0 0)) (a2w w1 w.heap.size (.int .i64 5) (.int .i64 0) (.int .i64 0) (.slice none 0 0) (.slice none 0 0) (.slice none 0 0) (.slice none 0 0))):=by
    rw[HD.out];exact a4v (HH.out.dk.later (BX.out.trans (hb.mono BX.out.size))) HH.out.of HH.out.wl HH.out.hl (Step.below (BX.out.trans (hb.mono BX.out.size))) hB (HH.out.dk.none (zq _)) 5 0 _ _ _ _ _ _ _
   obtain⟨q0,q1,q2,q3,q4,q5,q6,fq⟩:=QX.out.later hq;simp only[a0s]
   go_wp2_with fail
   exact bodyPost_ret (v:=a0s 5 0 0 (.slice none 0 0) (.slice none 0 0) (.slice none 0 0) (.slice none 0 0)) (by simp[results,Tryz.results144,go_sem,a0s,q0,q1,q2,q3,q4,q5,q6]) rfl ⟨_,rfl,HF.out⟩
  ·go_wp2_with fail
   refine (a0D 5 X).mono ?_;rintro e w1 ⟨rfl,hb⟩;have hq:=hb.block w.heap.size (World.block_lt_of_cell? _ _ QX.out.q0)
   have HF:Hid (a1n w B d col (a1N s g.e) (a0s 5 0 0 (.slice none 0 0) (.slice none 0 0) (.slice none 0 0) (.slice none 0 0)) (a2w w1 w.heap.size (.int .i64 5) (.int .i64 0) (.int .i64 0) (.slice none 0 0) (.slice none 0 0) (.slice none 0 0) (.slice none 0 0))):=by
    rw[HD.out];exact a4v (HH.out.dk.later (BX.out.trans (hb.mono BX.out.size))) HH.out.of HH.out.wl HH.out.hl (Step.below (BX.out.trans (hb.mono BX.out.size))) hB (HH.out.dk.none (zq _)) 5 0 _ _ _ _ _ _ _
   obtain⟨q0,q1,q2,q3,q4,q5,q6,fq⟩:=QX.out.later hq;simp only[a0s]
   go_wp2_with fail
   exact bodyPost_ret (v:=a0s 5 0 0 (.slice none 0 0) (.slice none 0 0) (.slice none 0 0) (.slice none 0 0)) (by simp[results,Tryz.results144,go_sem,a0s,q0,q1,q2,q3,q4,q5,q6]) rfl ⟨_,rfl,HF.out⟩
theorem DK.insEn(h:DK w d r col){f:Lit->Option Nat}(hc:w.cell? ⟨d,3,Option.none⟩=some (.map (some m)))(hm:col m=some .me)(hf:∀ id,f (b1K id)=a6U r.eg id){g:EG}(hg:ENK w g)(h1:col g.eb=Option.none)(h2:col g.B=Option.none)(h3:B<=g.eb)(h4:B<=g.B)(h5:g.eb≠g.B)(hno:∀ x∈r.eg,x.e.id≠g.e.id)(p:a4N Tryz.prog 3 w' m n' (Go.Proofs.YtfigmlfdnickmaaGreatDoor.upd f (b1K g.e.id) (some g.eb)) (if (f (b1K g.e.id)).isSome then r.eg.length else r.eg.length+1))(hgr:w.grownBy w' (some m)):
  ∃ col',DK w' d { r with eg:=r.eg++[g] } col'/\Step (·=.me) B col col' w w'/\∀ k,col k=Option.none->k≠g.eb->k≠g.B->col' k=Option.none:=by
 have k:Off [m] w w':=⟨hgr.os,hgr.tape,hgr.output,hgr.size,fun i hi hn=>hgr.block i hi (by simpa using hn)⟩;have st1:Step (·=.me) B col (a2Z col [g.eb] .ent) w w':=a3l k (fun x hx=>.inl ⟨_,by simp at hx;subst hx;exact hm,rfl⟩) (fun x hx _=>by simp at hx;omega)
 have hB1:a2Z col [g.eb] .ent g.B=Option.none:=by
  unfold a2Z;rw[h2];simp only;rw[if_neg (by simpa using Ne.symm h5)]
 have st2:Step (·=.me) B (a2Z col [g.eb] .ent) (a2Z (a2Z col [g.eb] .ent) [g.B] .span) w' w':=a3l (G:=[]) (Off.refl _ _) (by simp) (fun x hx _=>by simp at hx;omega);have st:=st1.trans st2;obtain⟨b1,b2,b3,b4,b5⟩:=h.base st (by simp);have hge:a2Z (a2Z col [g.eb] .ent) [g.B] .span g.eb=some .ent:=a9b (a5z (by simp) (fun c' hc=>by rw[h1] at hc;cases hc));have hgB:a2Z (a2Z col [g.eb] .ent) [g.B] .span g.B=some .span:=a5z (by simp) (fun c' hc=>by rw[hB1] at hc;cases hc);have hmne:g.eb≠m/\g.B≠m:=⟨fun e=>(by rw[e,hm] at h1;cases h1),fun e=>(by rw[e,hm] at h2;cases h2)⟩;refine⟨_,⟨b1,b2,h.mtC st (b5 2) (by simp),⟨m,upd f (b1K g.e.id) (some g.eb),(b5 3).trans hc,st.a9i _ _ hm,?_,fun x=>?_⟩,h.waC st (b5 4) (by simp),h.heC st (b5 5) (b3 5) (by simp),fun i hi=>h.thS st i hi (by simp),fun x hx=>?_,?_,?_,b3,b4,fun x c hx=>?_⟩,st,fun x hx n1 n2=>?_⟩
 ·rw[hf,a9D hno] at p;show a4N _ _ _ _ (r.eg++[g]).length _ (r.eg++[g]).length;rw[List.length_append];exact p.tight
 ·show upd f (b1K g.e.id) (some g.eb) (b1K x)=a6U (r.eg++[g]) x;rw[b5W hno]
  by_cases e:x=g.e.id
  ·rw[e,a4f,if_pos rfl]
  ·rw[a3n f _ (fun e2=>e (b6H e2)),if_neg e,hf]
 ·rcases List.mem_append.1 hx with hx|hx
  ·exact h.enS st (by simp) (by simp) x hx
  ·have:x=g:=by simpa using hx
   subst this;exact⟨hg.off k (by simpa using hmne.1) (by simpa using hmne.2),hge,hgB⟩
 ·show ((r.eg++[g]).map (·.eb)).Nodup;rw[List.map_append,List.nodup_append];refine⟨h.nd,by simp,fun a ha b hb e=>?_⟩;obtain⟨x,hx,rfl⟩:=List.mem_map.1 ha;have:=(h.en x hx).2.1;simp at hb;rw[e,hb,h1] at this;cases this
 ·show ((r.eg++[g]).map (·.e.id)).Nodup;rw[List.map_append,List.nodup_append];refine⟨h.ni,by simp,fun a ha b hb e=>?_⟩;obtain⟨x,hx,rfl⟩:=List.mem_map.1 ha;simp at hb;exact hno x hx (by rw[e,hb])
 ·rcases a1I hx with e|⟨_,e,_⟩
  ·rcases a1I e with e|⟨_,e,_⟩
   ·exact zL (h.lt x c e) st.size
   ·simp at e;subst e;exact zL hg.lt st.size
  ·simp at e;subst e;exact zL hg.en.lt st.size
 ·cases e:a2Z (a2Z col [g.eb] .ent) [g.B] .span x with
  |none=>rfl
  |some c =>
   rcases a1I e with e|⟨_,e,_⟩
   ·rcases a1I e with e|⟨_,e,_⟩
    ·rw[hx] at e;cases e
    ·exact absurd (List.mem_singleton.1 e) n1
   ·exact absurd (List.mem_singleton.1 e) n2
theorem DK.insTn(h:DK w d r col){f:Lit->Option Nat}(hc:w.cell? ⟨d,2,Option.none⟩=some (.map (some m)))(hm:col m=some .mt)(hf:∀ n,f (b8f n)=b2r r.tg n){t:TG}(ht:TH w t.tb t.name t.a0c t.A t.T Option.none Option.none [] [])(h1:col t.tb=Option.none)(h3:B<=t.tb)(hno:∀ x∈r.tg,x.name≠t.name)(p:a4N Tryz.prog 9 w' m n' (Go.Proofs.YtfigmlfdnickmaaGreatDoor.upd f (b8f t.name) (some t.tb)) (if (f (b8f t.name)).isSome then r.tg.length else r.tg.length+1))(hgr:w.grownBy w' (some m)):
  ∃ col',DK w' d { r with tg:=r.tg++[t] } col'/\Step (·=.mt) B col col' w w'/\∀ k,col k=Option.none->k≠t.tb->col' k=Option.none:=by
 have k:Off [m] w w':=⟨hgr.os,hgr.tape,hgr.output,hgr.size,fun i hi hn=>hgr.block i hi (by simpa using hn)⟩;have st:Step (·=.mt) B col (a2Z col [t.tb] (.a0k r.tg.length)) w w':=a3l k (fun x hx=>.inl ⟨_,by simp at hx;subst hx;exact hm,rfl⟩) (fun x hx _=>by simp at hx;omega);obtain⟨b1,b2,b3,b4,b5⟩:=h.base st (by simp);have hmne:t.tb≠m:=fun e=>by rw[e,hm] at h1;cases h1
 have hte:a2Z col [t.tb] (.a0k r.tg.length) t.tb=some (.a0k r.tg.length):=a5z (by simp) (fun c' hc=>by rw[h1] at hc;cases hc)
 have hnone:b2r r.tg t.name=Option.none:=by
  rw[a3r];have:r.tg.find? (fun y=>Desk.a0y y.name t.name)=Option.none:=List.find?_eq_none.2 (fun y hy=>by rw[Bool.not_eq_true,a3d];exact hno y hy);rw[this];rfl
 refine⟨_,⟨b1,b2,⟨m,upd f (b8f t.name) (some t.tb),(b5 2).trans hc,st.a9i _ _ hm,?_,fun x=>?_⟩,h.meC st (b5 3) (by simp),h.waC st (b5 4) (by simp),h.heC st (b5 5) (b3 5) (by simp),fun i hi=>?_,h.enS st (by simp) (by simp),h.nd,h.ni,b3,b4,fun x c hx=>?_⟩,st,fun x hx n1=>?_⟩
 ·rw[hf,hnone] at p;show a4N _ _ _ _ (r.tg++[t]).length _ (r.tg++[t]).length;rw[List.length_append];exact p.tight
 ·show upd f (b8f t.name) (some t.tb) (b8f x)=b2r (r.tg++[t]) x;rw[b9k hno]
  by_cases e:x=t.name
  ·rw[e,a4f,if_pos rfl]
  ·rw[a3n f _ (fun e2=>e (c2N e2)),if_neg e,hf]
 ·have hi':i<r.tg.length+1:=by simpa using hi
  by_cases e:i<r.tg.length
  ·have e2:(r.tg++[t])[i]'(by simpa using hi')=r.tg[i]:=List.getElem_append_left e;show ∃ ul us Fl Fs,TH w' (r.tg++[t])[i].tb _ _ _ _ ul us Fl Fs/\_;rw[e2];exact h.thS st i e (by simp)
  ·have e3:i=r.tg.length:=by omega
   subst e3;have e2:(r.tg++[t])[r.tg.length]'(by simp)=t:=by simp
   show ∃ ul us Fl Fs,TH w' (r.tg++[t])[r.tg.length].tb _ _ _ _ ul us Fl Fs/\_;rw[e2];refine⟨Option.none,Option.none,[],[],ht.off k (fun x hx=>by simp at hx;subst hx;simpa using hmne),fun x hx=>by simp at hx;subst hx;exact hte⟩
 ·rcases a1I hx with e|⟨_,e,_⟩
  ·exact zL (h.lt x c e) st.size
  ·simp at e;subst e;exact zL (ht.lt _ (by simp)) st.size
 ·cases e:a2Z col [t.tb] (.a0k r.tg.length) x with
  |none=>rfl
  |some c =>
   rcases a1I e with e|⟨_,e,_⟩
   ·rw[hx] at e;cases e
   ·exact absurd (List.mem_singleton.1 e) n1
structure TLs(w T:World)(B d Q:Nat)(s:St)(r:Raw)(col:Nat->Option Col)(g:EG)(r1:Raw)(c1:Nat->Option Col):Prop where
 dk:DK T d r1 c1
 en:ENK T (g.num (s.given+1))
 ce:c1 g.eb=none
 cb:c1 g.B=none
 st:Step anyS B col c1 w T
 q7:Q7 T Q
 qc:c1 Q=none
 of:Of (Desk.a2t s g.e).1 { r1 with given:=s.given+1,eg:=r1.eg++[g.num (s.given+1)] }
 wl:Wl { r1 with given:=s.given+1,eg:=r1.eg++[g.num (s.given+1)] }
 eg:r1.eg=r.eg
 hl:r1.hl=r.hl
def TL(w T:World)(B d Q:Nat)(s:St)(r:Raw)(col:Nat->Option Col)(g:EG):Prop:=∃ r1 c1,TLs w T B d Q s r col g r1 c1
structure b4h(w:World)(B d:Nat)(s:St)(r:Raw)(col:Nat->Option Col)(g:EG)(i:Nat):Prop where
 ds:DSt w d s r col
 en:ENK w g
 ce:col g.eb=none
 cb:col g.B=none
 be:B<=g.eb
 bb:B<=g.B
 ne:g.eb≠g.B
 hB:B<=w.heap.size
 hi:i<r.tg.length
 name:r.tg[i].name=g.e.a0k
 tb:g.tb=r.tg[i].tb
 ok:a1H s.now g.e
theorem b4h.num{g:EG}(h:b4h w B d s r col g i)(n:Int):a1H s.now (g.num n).e:=⟨h.ok.u1,h.ok.u9,h.ok.sl,h.ok.s0,h.ok.sp,h.ok.ri,h.ok.kd⟩
theorem b4h.fresh{g:EG}(h:b4h w B d s r col g i):∀ x∈r.eg,x.e.id≠(g.num (s.given+1)).e.id:=fun x hx e=>by
 have:=(h.ds.inv.idb _ (h.ds.of.mem hx)).2;simp only[EG.num] at e;omega
structure c7g(w Y:World)(B d Q:Nat)(s:St)(r:Raw)(col:Nat->Option Col)(g:EG):Prop where
 dk:DK Y d r col
 en:ENK Y (g.num (s.given+1))
 st:Step anyS B col col w Y
 q7:Q7 Y Q
 ql:Q<Y.heap.size
 qc:col Q=none
theorem b4h.numd{g:EG}(h:b4h w B d s r col g i):c7g w ((w.alloc a0f).setCell ⟨g.eb,0,none⟩ (.int .i64 (s.given+1))) B d w.heap.size s r col g:=by
 have hX:Below w.heap.size w (w.alloc a0f):=(zr _ _).alloc (zq _) _;have hg:=(h.en.off (G:=[]) (Off.of_below hX) (by simp) (by simp));have k:=Off.set0 g.eb (w.alloc a0f) 0 (.int .i64 (s.given+1));have hlt:=h.en.lt;refine⟨(h.ds.dk.later hX).off k (fun x hx=>?_),hg.num h.ne _,(Step.below hX).trans ⟨⟨_,k,fun x hx=>.inr ?_⟩,fun _ _ h=>h,fun _ _ h=>.inl h⟩,(Q7.of (a0p w a0f)).later (k.block _ (by simp) (by simp;omega)),Nat.lt_of_lt_of_le (by simp) k.size,h.ds.dk.none (zq _)⟩
 ·have:x=g.eb:=List.mem_singleton.1 hx;subst this;exact h.ce
 ·have:x=g.eb:=List.mem_singleton.1 hx;subst this;exact⟨h.ce,h.be⟩
theorem b4h.took{g:EG}(h:b4h w B d s r col g i)(y:c7g w Y B d Q s r col g)(hk:g.e.kind≠3)(q1:DK w1 d (r.setT i ((r.tg[i]'h.hi).with (a1z (r.tg[i]'h.hi).A g.e.a0e g.e.a0c) (a7e (s.given+1) g.eb (r.tg[i]'h.hi).T g.e.a0e))) c1)(q2:Step (·=.a0k i) Y.heap.size col c1 Y w1):TL w w1 B d Q s r col g:=by
 have hlt:=y.en.lt;have hltB:=y.en.en.lt;have o:=(h.ds.of.comes h.ds.inv.tn (g:=g.num (s.given+1)) h.fresh hk h.ok.ri h.hi h.name h.tb (s.given+1)).1;refine⟨_,c1,q1,q2.enk y.en (.inr ⟨h.ce,hlt⟩) (.inr ⟨h.cb,hltB⟩),q2.keepN h.ce hlt,q2.keepN h.cb hltB,y.st.trans (q2.any (Nat.le_trans h.hB y.st.size)),y.q7.later (q2.blockN y.ql y.qc y.ql),q2.keepN y.qc y.ql,?_,?_,rfl,rfl⟩
 ·exact⟨o.now,o.given,o.ts,o.es,o.th,o.tb⟩
 ·exact h.ds.wl.comes (g:=g.num (s.given+1)) hk
theorem b4h.waits{g:EG}(h:b4h w B d s r col g i)(y:c7g w Y B d Q s r col g)(hk:g.e.kind=3)(q1:DK w1 d { r with wl:=r.wl++[g.eb] } c1)(q2:Step (fun c=>c=.wa\/c=.desk) Y.heap.size col c1 Y w1):TL w w1 B d Q s r col g:=by
 have hlt:=y.en.lt;have hltB:=y.en.en.lt;have o:=h.ds.of.comesW (g:=g.num (s.given+1)) h.fresh hk h.hi h.name h.tb (s.given+1);refine⟨_,c1,q1,q2.enk y.en (.inr ⟨h.ce,hlt⟩) (.inr ⟨h.cb,hltB⟩),q2.keepN h.ce hlt,q2.keepN h.cb hltB,y.st.trans (q2.any (Nat.le_trans h.hB y.st.size)),y.q7.later (q2.blockN y.ql y.qc y.ql),q2.keepN y.qc y.ql,?_,?_,rfl,rfl⟩
 ·exact⟨o.now,o.given,o.ts,o.es,o.th,o.tb⟩
 ·exact h.ds.wl.comesW (g:=g.num (s.given+1)) hk
structure TL2(w T:World)(B d Q:Nat)(s:St)(r:Raw)(col:Nat->Option Col)(g:EG)(r2:Raw)(c2:Nat->Option Col):Prop where
 dk:DK T d r2 c2
 mem:g.num (s.given+1)∈r2.eg
 st:Step anyS B col c2 w T
 q7:Q7 T Q
 ql:Q<T.heap.size
 qc:c2 Q=none
 of:Of (Desk.a2t s g.e).1 r2
 wl:Wl r2
 eg:r2.eg=r.eg++[g.num (s.given+1)]
 hl:r2.hl=r.hl
theorem TLs.store{T:World}{g:EG}{r1:Raw}(t:TLs w T B d w.heap.size s r col g r1 c1)(a:b4h w B d s r col g i):
  ∃ m,(T.setCell ⟨d,1,none⟩ (.int .i64 (s.given+1))).cell? ⟨d,3,none⟩=some (.map (some m))/\(T.setCell ⟨d,1,none⟩ (.int .i64 (s.given+1))).cell? ⟨g.eb,0,none⟩=some (.int .i64 (s.given+1)) /\
   ∃ w3,(Instr.mapUpdate 138 (.map (some m)) (.int .i64 (s.given+1)) (.pointer (some ⟨g.eb,0,none⟩))).run Tryz.prog (T.setCell ⟨d,1,none⟩ (.int .i64 (s.given+1))).drew=.ok () w3/\∃ r2 c2,TL2 w w3 B d w.heap.size s r col g r2 c2:=by
 obtain⟨sg1,sg2⟩:=t.dk.setGiven (s.given+1);have hdB:=t.dk.dc;have hne:g.eb≠d:=fun e=>by have:=t.ce;rw[e,hdB] at this;cases this
 have hnB:g.B≠d:=fun e=>by have:=t.cb;rw[e,hdB] at this;cases this
 have k0:=Off.set0 d T 1 (.int .i64 (s.given+1));have en1:ENK (T.setCell ⟨d,1,none⟩ (.int .i64 (s.given+1))) (g.num (s.given+1)):=t.en.off k0 (by simpa[EG.num] using hne) (by simpa[EG.num] using hnB);have hq1:Q7 (T.setCell ⟨d,1,none⟩ (.int .i64 (s.given+1))) w.heap.size:=t.q7.later (sg2.blockN (World.block_lt_of_cell? _ _ t.q7.q0) t.qc (World.block_lt_of_cell? _ _ t.q7.q0));have hst1:Step anyS B col c1 w (T.setCell ⟨d,1,none⟩ (.int .i64 (s.given+1))):=t.st.trans (sg2.any (Nat.le_trans a.hB t.st.size));generalize T.setCell ⟨d,1,none⟩ (.int .i64 (s.given+1))=T1 at *;obtain⟨m,f,a1,a2,a3,a4⟩:=sg1.me;have hg0:=a.ds.inv.g0;have hg1:=a.ds.inv.g1;have kk:=a9g (n:=s.given+1) (by omega) (by omega)
 have hlen:r1.eg.length<=60:=by
  have h2:r.eg.length=s.es.length:=by rw[<- a.ds.of.es];simp
  have h3:=a1x a.ds.mid;rw[t.eg];omega
 obtain⟨w3,hrun,p1,p2⟩:=(a3.block (w':=T1.drew) rfl).storeRun b3h Tryz.underlying138 (by unfold maxLen;show r1.eg.length<_;omega) kk (by unfold b1K;trivial) g.eb;have d1:=sg1.later (a0q T1);have en2:ENK T1.drew (g.num (s.given+1)):=en1.off (G:=[]) (Off.of_below (a0q T1)) (by simp) (by simp);obtain⟨c2,e1,e2,e3⟩:=d1.insEn (g:=g.num (s.given+1)) (B:=B) a1 a2 a4 en2 t.ce t.cb a.be a.bb a.ne (fun x hx=>a.fresh x (by rw[<- t.eg];exact hx)) p1 p2;have hql:w.heap.size<T1.drew.heap.size:=World.block_lt_of_cell? _ _ hq1.q0;have hmq:w.heap.size≠m:=fun e=>by have:=t.qc;rw[e,a2] at this;cases this
 have hb:w3.heap[w.heap.size]?=T1.heap[w.heap.size]?:=p2.block _ hql (fun e=>hmq (Option.some.inj e));have hq3:=hq1.later hb;refine⟨m,a1,en1.en.c0,w3,hrun,_,c2,e1,List.mem_append_right _ (List.mem_singleton.2 rfl),(hst1.trans (Step.below (a0q T1))).trans (e2.mono (fun _ _=>trivial) (zq _)),hq3,World.block_lt_of_cell? _ _ hq3.q0,?_,t.of,t.wl,?_,t.hl⟩
 ·exact e3 _ t.qc (fun e=>by have:=a.en.lt;rw[show (g.num (s.given+1)).eb=g.eb from rfl] at e;omega) (fun e=>by have:=a.en.en.lt;rw[show (g.num (s.given+1)).B=g.B from rfl] at e;omega)
 ·show r1.eg++[_]=_;rw[t.eg]
end Go.Proofs.YtfigmlfdnickmaaGreatDoor
