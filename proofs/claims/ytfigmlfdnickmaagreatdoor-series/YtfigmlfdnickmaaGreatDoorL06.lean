import Derived.Test.YtfigmlfdnickmaaGreatDoorL05
import Derived.Deep.RegionHeld
import Derived.Deep.CutRange
set_option maxRecDepth 100000
set_option maxHeartbeats 8000000
open Go.Proofs.Tryz
open _root_ renaming ByteArray->U3,List->U4,Option->U5,Bool->U6,Nat->U7,Int->U8,if_neg->U9,if_pos->Va,absurd->Vb
open Option renaming none->Vc,some->Vd,bind_some->YS,none->Zc,mem_toList->WV
open Bool renaming false->Ve,true->Vf,eq_false_or_eq_true->Y7
open Go renaming World->Vg,Value->Vh,Calls->Vj,TypeId->Vl
open Go.RowKit renaming Below->Vi
open Go.World renaming cell?_setCell_far->Y6,block_lt_of_cell?->Vq,frozen?_of_block->WS,var?->YR,cell?->VK
open Nat renaming le_trans->Vp,le_refl->Vm,lt_of_lt_of_le->Wj,le_succ->Ze
open Ne renaming symm->Ye
open ByteArray renaming empty->YM
open List renaming mem_map->Wk,length_append->V4,mem_singleton->YC,length_map->WK,map_append->Wq,nodup_append->VI
open Go.Value renaming string->YZ,slice->Zd
open Array renaming getElem?_eq_some_iff->Y8
open Go.Code renaming wp->Y9
open Go.Instr renaming typeAssert->Za,lookup->YI
open Go.Result renaming andThen->Zb
open Go.IntKind renaming i64->Vo
namespace Go.Proofs.YtfigmlfdnickmaaGreatDoor
variable{wr:U6}{name:U3}{a fr k long mi mn pc ti til u un:U8}{ws:U4 U3}{acc:U4 U8}{A B P Q R b d i m n' nx o p:U7}{c1 aM col':U7->U5 aW}{v:U7->Vh}{r:Raw}{s:aA.St}{Y Z w w' w1 w2 wx:Vg}
open Go.RowKit
theorem yr(c f:U8)(R A:U7)(ws:U4 U3)(nx:U7)(wr:U6)(w:Vg)(h:RS w R A ws nx wr):
  Vj prog 132 #[.pointer (Vd ⟨R,0,Vc⟩),.int .i64 c,.int .i64 f] w fun e w'=>e=.returned (.int .i64 (fg ws nx wr (fun s=>eL s c f) (fun s=>aB.cF s.data.toList)))/\RS w' R A ws (ek ws nx wr (fun s=>eL s c f)) (ei ws nx wr (fun s=>eL s c f))/\Kept R w w':=by
 go_in
 go_wp2_with fail
 obtain⟨X,g⟩:∃ X,X=(w.alloc (.cells #[.int .i64 c] 3)).alloc (.cells #[.int .i64 f] 3):=⟨_,rfl⟩;rw[<- g];have j:Vi w.heap.size w X:=by rw[g];exact ((zr _ _).alloc (zq _) _).alloc UU _
 have x:X.cell? ⟨w.heap.size,0,Vc⟩=Vd (.int .i64 c):=by rw[g];simp
 have t:X.cell? ⟨w.heap.size+1,0,Vc⟩=Vd (.int .i64 f):=by rw[g];simp
 clear g;refine (Us w.heap.size (w.heap.size+1) c f R A ws nx wr X (h.aD j) x t).mono ?_;rintro e w1 ⟨rfl,q,n⟩;have l:=(Kept.aD (R:=R) j).trans n;go_wp2;go_ret;exact⟨rfl,q,l⟩
theorem sP(R A:U7)(ws:U4 U3)(nx:U7)(wr:U6)(w:Vg)(h:RS w R A ws nx wr):
  Vj prog 83 #[.pointer (Vd ⟨R,0,Vc⟩)] w fun e w'=>e=.returned (.string (mj ws nx wr))/\RS w' R A ws (ek ws nx wr (fun s=>aB.fa s.data.toList)) (ei ws nx wr (fun s=>aB.fa s.data.toList))/\Kept R w w':=by
 go_in
 go_wp2_with fail
 refine (Ub R A ws nx wr w h).mono ?_;rintro e w1 ⟨rfl,f,c⟩;go_wp2;go_ret;exact⟨rfl,f,c⟩
theorem Gd(R A:U7)(ws:U4 U3)(nx:U7)(wr:U6)(w:Vg)(h:RS w R A ws nx wr):
  Vj prog 88 #[.pointer (Vd ⟨R,0,Vc⟩)] w fun e w'=>e=.returned (.int .i64 (fg ws nx wr (fun s=>aB.isNum s.data.toList) (fun s=>aB.cF s.data.toList)))/\RS w' R A ws (ek ws nx wr (fun s=>aB.isNum s.data.toList)) (ei ws nx wr (fun s=>aB.isNum s.data.toList))/\Kept R w w':=by
 go_in
 go_wp2_with fail
 refine (Tn R A ws nx wr w h).mono ?_;rintro e w1 ⟨rfl,f,c⟩;go_wp2;go_ret;exact⟨rfl,f,c⟩
theorem yg(R A:U7)(ws:U4 U3)(nx:U7)(wr:U6)(w:Vg)(h:RS w R A ws nx wr):
  Vj prog 84 #[.pointer (Vd ⟨R,0,Vc⟩)] w fun e w'=>e=.returned (.int .i64 (fg ws nx wr (fun s=>eL s 1 9) (fun s=>aB.cF s.data.toList)))/\RS w' R A ws (ek ws nx wr (fun s=>eL s 1 9)) (ei ws nx wr (fun s=>eL s 1 9))/\Kept R w w':=by
 go_in
 go_wp2_with fail
 refine (yr 1 9 R A ws nx wr w h).mono ?_;rintro e w1 ⟨rfl,f,c⟩;go_wp2;go_ret;exact⟨rfl,f,c⟩
theorem wg(R A:U7)(ws:U4 U3)(nx:U7)(wr:U6)(w:Vg)(h:RS w R A ws nx wr):
  Vj prog 86 #[.pointer (Vd ⟨R,0,Vc⟩)] w fun e w'=>e=.returned (.int .i64 (fg ws nx wr (fun s=>eL s 1 1048320) (fun s=>aB.cF s.data.toList)))/\RS w' R A ws (ek ws nx wr (fun s=>eL s 1 1048320)) (ei ws nx wr (fun s=>eL s 1 1048320))/\Kept R w w':=by
 go_in
 go_wp2_with fail
 refine (yr 1 1048320 R A ws nx wr w h).mono ?_;rintro e w1 ⟨rfl,f,c⟩;go_wp2;go_ret;exact⟨rfl,f,c⟩
theorem Ce(R A:U7)(ws:U4 U3)(nx:U7)(wr:U6)(w:Vg)(h:RS w R A ws nx wr):
  Vj prog 192 #[.pointer (Vd ⟨R,0,Vc⟩)] w fun e w'=>e=.returned (.int .i64 (fg ws nx wr (fun s=>eL s 1 99) (fun s=>aB.cF s.data.toList)))/\RS w' R A ws (ek ws nx wr (fun s=>eL s 1 99)) (ei ws nx wr (fun s=>eL s 1 99))/\Kept R w w':=by
 go_in
 go_wp2_with fail
 refine (yr 1 99 R A ws nx wr w h).mono ?_;rintro e w1 ⟨rfl,f,c⟩;go_wp2;go_ret;exact⟨rfl,f,c⟩
theorem RS.other{v:Vh}(h:RS w R A ws nx wr)(f:b≠R)(l:0<ws.length->b≠A):RS (w.setCell ⟨b,o,Vc⟩ v) R A ws nx wr:=by
 have g:∀ j:U7,(w.setCell ⟨b,o,Vc⟩ v).cell? ⟨R,j,Vc⟩=w.cell? ⟨R,j,Vc⟩:=fun j=>Y6 w ⟨b,o,Vc⟩ ⟨R,j,Vc⟩ v f
 refine⟨(g 0).trans h.c0,(g 1).trans h.c1,(g 2).trans h.c2,(zF ..).trans h.f1,(zF ..).trans h.f2,h.ne,fun i c=>?_,h.len,h.vd,h.short⟩;exact (Y6 w ⟨b,o,Vc⟩ ⟨A,i,Vc⟩ v (l UT)).trans (h.rows i c)
theorem RS.lt(h:RS w R A ws nx wr):R<w.heap.size/\(0<ws.length->A<w.heap.size) :=
 ⟨Vq _ ⟨R,0,Vc⟩ h.c0,fun c=>Vq _ ⟨A,0,Vc⟩ (h.rows 0 c)⟩
theorem Kept.aO(h:Kept R w w')(g:w.heap.size<=b)(v:Vh):Kept R w (w'.setCell ⟨b,o,Vc⟩ v) :=
 ⟨(Below.setCell (B:=0) (Below.refl 0 w') (p:=⟨b,o,Vc⟩) (zN _) v).os.trans h.os,(Below.setCell (B:=0) (Below.refl 0 w') (p:=⟨b,o,Vc⟩) (zN _) v).tape.trans h.tape,(Below.setCell (B:=0) (Below.refl 0 w') (p:=⟨b,o,Vc⟩) (zN _) v).output.trans h.output,Vp h.size (Below.setCell (B:=0) (Below.refl 0 w') (p:=⟨b,o,Vc⟩) (zN _) v).size,fun k f c=>(Below.heap_setCell w' ⟨b,o,Vc⟩ v k (show k≠b by omega)).trans (h.block k f c)⟩
theorem Kept.frozen(h:Kept R w w')(c:b≠R)(f:b<w.heap.size):w'.frozen? ⟨b,o,Vc⟩=w.frozen? ⟨b,o,Vc⟩:=WS (w:=w) (h.block b f c)
def JH(ws:U4 U3)(nx:U7)(wr:U6)(B C:U3->U6):U7:=ek ws (ek ws nx wr B) (ei ws nx wr B) C
def JG(ws:U4 U3)(nx:U7)(wr:U6)(B C:U3->U6):U6:=ei ws (ek ws nx wr B) (ei ws nx wr B) C
theorem ye(R A:U7)(ws:U4 U3)(nx:U7)(wr:U6)(w:Vg)(h:RS w R A ws nx wr)(C:Env w)(M:10<=R):
  Vj prog 90 #[.pointer (Vd ⟨R,0,Vc⟩)] w fun e w'=>e=.returned (.agg #[.int .i64 (fg ws nx wr bB dL),.int .i64 (fg ws (ek ws nx wr bB) (ei ws nx wr bB) bB dL)])/\RS w' R A ws (JH ws nx wr bB bB) (JG ws nx wr bB bB)/\Kept R w w':=by
 have N:=hide C;clear C
 go_in
 go_wp2_with fail
 obtain⟨L,g⟩:=h.lt;obtain⟨X,f⟩:∃ X,X=w.alloc (.cells #[.int .i64 0,.int .i64 0] 60):=⟨_,rfl⟩;rw[<- f];have n:Vi w.heap.size w X:=by rw[f];exact (zr _ _).alloc (zq _) _
 have y:X.cell? ⟨w.heap.size,0,Vc⟩=Vd (.int .i64 0):=by rw[f];simp
 have x:X.cell? ⟨w.heap.size,1,Vc⟩=Vd (.int .i64 0):=by rw[f];simp
 have t:∀ j:U7,X.frozen? ⟨w.heap.size,j,Vc⟩=Ve:=fun j=>by rw[f];simp
 have I:w.heap.size<X.heap.size:=by rw[f];simp
 clear f;have q:=(aJ N).later n;refine (Jn R A ws nx wr X (h.aD n) q).mono ?_;rintro e w1 ⟨rfl,E,z⟩;have F:=q.kept z M
 go_wp2_with fail
 refine (Jn R A ws _ _ w1 E F).mono ?_;rintro e w2 ⟨rfl,D,K⟩;have c:=z.trans K;have H:=c.cell (b:=w.heap.size) (o:=0) UT y;have G:=c.cell (b:=w.heap.size) (o:=1) UT x;have S:∀ j:U7,w2.frozen? ⟨w.heap.size,j,Vc⟩=Ve:=fun j=>(c.frozen UT I).trans (t j)
 have J:=(Kept.aD (R:=R) n).trans c;have O:=hide D;clear E D F q y x t;go_wp2;refine bodyPost_ret (v:=.agg #[.int .i64 (fg ws nx wr bB dL),.int .i64 (fg ws (ek ws nx wr bB) (ei ws nx wr bB) bB dL)]) (by simp[results,results90,go_sem,H,G]) rfl ⟨rfl,?_,?_⟩
 ·exact ((aJ O).other UT (fun l=>by have:=g l;omega)).other UT (fun l=>by have:=g l;omega)
 ·exact (J.aO (zq _) _).aO (zq _) _
def bI(s:U3):U6:=aB.fa s.data.toList
def dE(s:U3):U6:=eL s 1 9
def cL(s:U3):U8:=aB.cF s.data.toList
def dI(ws:U4 U3)(B:U3->U6)(st:U7 × U6):U7 × U6:=(ek ws st.1 st.2 B,ei ws st.1 st.2 B)
def aQ(ws:U4 U3)(c:U4 (U3->U6))(st:U7 × U6):U7 × U6:=c.foldl (fun st B=>dI ws B st) st
def gU(ws:U4 U3)(st:U7 × U6):U3:=mj ws st.1 st.2
def bT(ws:U4 U3)(st:U7 × U6)(B:U3->U6)(V:U3->U8):U8:=fg ws st.1 st.2 B V
theorem Cd(R A:U7)(ws:U4 U3)(st:U7 × U6)(w:Vg)(h:RS w R A ws st.1 st.2)(F:Env w)(q:10<=R):
  Vj prog 85 #[.pointer (Vd ⟨R,0,Vc⟩)] w fun e w' =>
   e=.returned (.agg #[.string (gU ws st),.int .i64 (bT ws (aQ ws [bI] st) dE cL),.int .i64 (bT ws (aQ ws [bI,dE] st) bB dL),.int .i64 (bT ws (aQ ws [bI,dE,bB] st) bB dL)]) /\
   RS w' R A ws (aQ ws [bI,dE,bB,bB] st).1 (aQ ws [bI,dE,bB,bB] st).2/\Kept R w w':=by
 have HE:=hide F;clear F
 go_in
 go_wp2_with fail
 obtain⟨W,g⟩:=h.lt;obtain⟨X,f⟩:∃ X,X=w.alloc (.cells #[.string ⟨#[]⟩,.int .i64 0,.int .i64 0,.int .i64 0] 151):=⟨_,rfl⟩;rw[<- f];have n:Vi w.heap.size w X:=by rw[f];exact (zr _ _).alloc (zq _) _
 have C:X.cell? ⟨w.heap.size,0,Vc⟩=Vd (.string ⟨#[]⟩):=by rw[f];simp
 have z:X.cell? ⟨w.heap.size,1,Vc⟩=Vd (.int .i64 0):=by rw[f];simp
 have y:X.cell? ⟨w.heap.size,2,Vc⟩=Vd (.int .i64 0):=by rw[f];simp
 have x:X.cell? ⟨w.heap.size,3,Vc⟩=Vd (.int .i64 0):=by rw[f];simp
 have t:∀ j:U7,X.frozen? ⟨w.heap.size,j,Vc⟩=Ve:=fun j=>by rw[f];simp
 have T:w.heap.size<X.heap.size:=by rw[f];simp
 clear f;have J:=(aJ HE).later n;refine (sP R A ws st.1 st.2 X (h.aD n)).mono ?_;rintro e w1 ⟨rfl,I,E⟩;have L:=J.kept E q
 go_wp2_with fail
 refine (yg R A ws _ _ w1 I).mono ?_;rintro e w2 ⟨rfl,H,D⟩;have K:=L.kept D q
 go_wp2_with fail
 refine (ye R A ws _ _ w2 H K q).mono ?_;rintro e w3 ⟨rfl,G,V⟩;have c:=(E.trans D).trans V;have S:=c.cell (b:=w.heap.size) (o:=0) UT C;have O:=c.cell (b:=w.heap.size) (o:=1) UT z;have N:=c.cell (b:=w.heap.size) (o:=2) UT y;have M:=c.cell (b:=w.heap.size) (o:=3) UT x;have yf:∀ j:U7,w3.frozen? ⟨w.heap.size,j,Vc⟩=Ve:=fun j=>(c.frozen UT T).trans (t j)
 have U:=(Kept.aD (R:=R) n).trans c;have H3:=hide G;clear I H G L K J C z y x t;go_wp2;refine bodyPost_ret (v:=.agg #[.string (gU ws st),.int .i64 (bT ws (aQ ws [bI] st) dE cL),.int .i64 (bT ws (aQ ws [bI,dE] st) bB dL),.int .i64 (bT ws (aQ ws [bI,dE,bB] st) bB dL)]) (by simp[results,results85,go_sem,S,O,N,M];exact⟨rfl,rfl,rfl,rfl⟩) rfl ⟨rfl,?_,?_⟩
 ·exact ((((aJ H3).other UT (fun l=>by have:=g l;omega)).other UT (fun l=>by have:=g l;omega)).other UT (fun l=>by have:=g l;omega)).other UT (fun l=>by have:=g l;omega)
 ·exact (((U.aO (zq _) _).aO (zq _) _).aO (zq _) _).aO (zq _) _
theorem Rt(R A:U7)(ws:U4 U3)(st:U7 × U6)(w:Vg)(h:RS w R A ws st.1 st.2)(G:cB ws.length (aQ ws [bI] st).1 (aQ ws [bI] st).2=Ve):
  Vj prog 89 #[.pointer (Vd ⟨R,0,Vc⟩)] w fun e w' =>
   e=.returned (.agg #[.string (gU ws st),.bool Ve,.int .i64 0,.int .i64 0])/\RS w' R A ws (aQ ws [bI] st).1 (aQ ws [bI] st).2/\Kept R w w':=by
 go_in
 go_wp2_with fail
 obtain⟨S,f⟩:=h.lt;obtain⟨X,c⟩:∃ X,X=w.alloc (.cells #[.string ⟨#[]⟩,.bool Ve,.int .i64 0,.int .i64 0] 170):=⟨_,rfl⟩;rw[<- c];have H:Vi w.heap.size w X:=by rw[c];exact (zr _ _).alloc (zq _) _
 have E:X.cell? ⟨w.heap.size,0,Vc⟩=Vd (.string ⟨#[]⟩):=by rw[c];simp
 have D:X.cell? ⟨w.heap.size,1,Vc⟩=Vd (.bool Ve):=by rw[c];simp
 have C:X.cell? ⟨w.heap.size,2,Vc⟩=Vd (.int .i64 0):=by rw[c];simp
 have z:X.cell? ⟨w.heap.size,3,Vc⟩=Vd (.int .i64 0):=by rw[c];simp
 have y:∀ j:U7,X.frozen? ⟨w.heap.size,j,Vc⟩=Ve:=fun j=>by rw[c];simp
 have N:w.heap.size<X.heap.size:=by rw[c];simp
 clear c;refine (sP R A ws st.1 st.2 X (h.aD H)).mono ?_;rintro e w1 ⟨rfl,I,F⟩;have V:=F.size
 go_wp2_with fail
 obtain⟨Y,g⟩:∃ Y,Y=w1.alloc (.cells #[.string (mj ws st.1 st.2),.bool Ve,.int .i64 0,.int .i64 0] 170):=⟨_,rfl⟩;rw[<- g];have x:Vi w1.heap.size w1 Y:=by rw[g];exact (zr _ _).alloc (zq _) _
 have v0:Y.cell? ⟨w1.heap.size,0,Vc⟩=Vd (.string (mj ws st.1 st.2)):=by rw[g];simp
 have v1:Y.cell? ⟨w1.heap.size,1,Vc⟩=Vd (.bool Ve):=by rw[g];simp
 have v2:Y.cell? ⟨w1.heap.size,2,Vc⟩=Vd (.int .i64 0):=by rw[g];simp
 have v3:Y.cell? ⟨w1.heap.size,3,Vc⟩=Vd (.int .i64 0):=by rw[g];simp
 have ys:w1.heap.size<Y.heap.size:=by rw[g];simp
 clear g;have t:=F.trans (Kept.aD (R:=R) x);have M:=t.cell (b:=w.heap.size) (o:=0) UT E;have L:=t.cell (b:=w.heap.size) (o:=1) UT D;have K:=t.cell (b:=w.heap.size) (o:=2) UT C;have J:=t.cell (b:=w.heap.size) (o:=3) UT z;have W:∀ j:U7,Y.frozen? ⟨w.heap.size,j,Vc⟩=Ve:=fun j=>(t.frozen UT N).trans (y j)
 have q:=I.aD x;refine (il R A ws _ _ Y q).mono ?_;rintro e w2 ⟨rfl,n,rfl⟩;have T:Hid (cB ws.length (ek ws st.1 st.2 fun s=>aB.fa s.data.toList) (ei ws st.1 st.2 fun s=>aB.fa s.data.toList)=Ve):=G;rw[T.out];have O:=(Kept.aD (R:=R) H).trans t;have U:=hide q;clear I q E D C z y G;go_wp2;refine bodyPost_ret (v:=.agg #[.string (gU ws st),.bool Ve,.int .i64 0,.int .i64 0]) (by simp[results,results89,go_sem,M,L,K,J];rfl) rfl ⟨rfl,?_,?_⟩
 ·exact (((((aJ U).drewN _).other UT (fun l=>by have:=f l;omega)).other UT (fun l=>by have:=f l;omega)).other UT (fun l=>by have:=f l;omega)).other UT (fun l=>by have:=f l;omega)
 ·exact ((((O.drewN _).aO (zq _) _).aO (zq _) _).aO (zq _) _).aO (zq _) _
theorem Su(R A:U7)(ws:U4 U3)(st:U7 × U6)(w:Vg)(h:RS w R A ws st.1 st.2)(he:Env w)(N:10<=R)(M:cB ws.length (aQ ws [bI] st).1 (aQ ws [bI] st).2=Vf):
  Vj prog 89 #[.pointer (Vd ⟨R,0,Vc⟩)] w fun e w' =>
   e=.returned (.agg #[.string (gU ws st),.bool Vf,.int .i64 (bT ws (aQ ws [bI] st) bB dL),.int .i64 (bT ws (aQ ws [bI,bB] st) bB dL)])/\RS w' R A ws (aQ ws [bI,bB,bB] st).1 (aQ ws [bI,bB,bB] st).2/\Kept R w w':=by
 have HE:=hide he;clear he
 go_in
 go_wp2_with fail
 obtain⟨ac,f⟩:=h.lt;obtain⟨X,x⟩:∃ X,X=w.alloc (.cells #[.string ⟨#[]⟩,.bool Ve,.int .i64 0,.int .i64 0] 170):=⟨_,rfl⟩;rw[<- x];have J:Vi w.heap.size w X:=by rw[x];exact (zr _ _).alloc (zq _) _
 have W:X.cell? ⟨w.heap.size,0,Vc⟩=Vd (.string ⟨#[]⟩):=by rw[x];simp
 have V:X.cell? ⟨w.heap.size,1,Vc⟩=Vd (.bool Ve):=by rw[x];simp
 have U:X.cell? ⟨w.heap.size,2,Vc⟩=Vd (.int .i64 0):=by rw[x];simp
 have T:X.cell? ⟨w.heap.size,3,Vc⟩=Vd (.int .i64 0):=by rw[x];simp
 have S:∀ j:U7,X.frozen? ⟨w.heap.size,j,Vc⟩=Ve:=fun j=>by rw[x];simp
 have xs:w.heap.size<X.heap.size:=by rw[x];simp
 clear x;have eX:=(aJ HE).later J;refine (sP R A ws st.1 st.2 X (h.aD J)).mono ?_;rintro e w1 ⟨rfl,h1,L⟩;have z1:=L.size;have e1:=eX.kept L N
 go_wp2_with fail
 obtain⟨Y,t⟩:∃ Y,Y=w1.alloc (.cells #[.string (mj ws st.1 st.2),.bool Ve,.int .i64 0,.int .i64 0] 170):=⟨_,rfl⟩;rw[<- t];have l:Vi w1.heap.size w1 Y:=by rw[t];exact (zr _ _).alloc (zq _) _
 have I:Y.cell? ⟨w1.heap.size,0,Vc⟩=Vd (.string (mj ws st.1 st.2)):=by rw[t];simp
 have H:Y.cell? ⟨w1.heap.size,1,Vc⟩=Vd (.bool Ve):=by rw[t];simp
 have v2:Y.cell? ⟨w1.heap.size,2,Vc⟩=Vd (.int .i64 0):=by rw[t];simp
 have G:Y.cell? ⟨w1.heap.size,3,Vc⟩=Vd (.int .i64 0):=by rw[t];simp
 have F:∀ j:U7,Y.frozen? ⟨w1.heap.size,j,Vc⟩=Ve:=fun j=>by rw[t];simp
 have ys:w1.heap.size<Y.heap.size:=by rw[t];simp
 clear t;have kY:=L.trans (Kept.aD (R:=R) l);have eY:=e1.later l;have z:=h1.aD l;refine (il R A ws _ _ Y z).mono ?_;rintro e w2 ⟨rfl,n,c⟩;have HM:Hid (cB ws.length (ek ws st.1 st.2 fun s=>aB.fa s.data.toList) (ei ws st.1 st.2 fun s=>aB.fa s.data.toList)=Vf):=M;rw[HM.out];have O:=z.drewN n;rw[<- c] at O;have k2:Kept R X w2:=by rw[c];exact kY.drewN n
 have e2:Env w2:=by rw[c];exact eY.drewN n
 have I:w2.cell? ⟨w1.heap.size,0,Vc⟩=Vd (.string (mj ws st.1 st.2)):=by rw[c];exact I
 have H:w2.cell? ⟨w1.heap.size,1,Vc⟩=Vd (.bool Ve):=by rw[c];exact H
 have v2:w2.cell? ⟨w1.heap.size,2,Vc⟩=Vd (.int .i64 0):=by rw[c];exact v2
 have G:w2.cell? ⟨w1.heap.size,3,Vc⟩=Vd (.int .i64 0):=by rw[c];exact G
 have F:∀ j:U7,w2.frozen? ⟨w1.heap.size,j,Vc⟩=Ve:=fun j=>by rw[c];exact F j
 have K:w1.heap.size<w2.heap.size:=by rw[c];exact ys
 have ad:=hide M;clear c z eY kY l ys h1 M;have H2:=hide O;have ae:=hide e2;clear O e2 eX e1
 go_wp2_with fail
 have C:w1.heap.size≠R:=UT
 have y:=(aJ H2).other (b:=w1.heap.size) (o:=1) (v:=.bool Vf) C (fun g=>by have:=f g;omega);obtain⟨Z,q⟩:∃ Z,Z=w2.setCell ⟨w1.heap.size,1,Vc⟩ (.bool Vf):=⟨_,rfl⟩;rw[<- q] at y ⊢;have u0:Z.cell? ⟨w1.heap.size,0,Vc⟩=Vd (.string (mj ws st.1 st.2)):=by rw[q];exact (zS _ _ _ _ UU).trans I
 have u1:Z.cell? ⟨w1.heap.size,1,Vc⟩=Vd (.bool Vf):=by rw[q];exact zm _ _ _ H
 have u2:Z.cell? ⟨w1.heap.size,2,Vc⟩=Vd (.int .i64 0):=by rw[q];exact (zS _ _ _ _ UU).trans v2
 have u3:Z.cell? ⟨w1.heap.size,3,Vc⟩=Vd (.int .i64 0):=by rw[q];exact (zS _ _ _ _ UU).trans G
 have uf:∀ j:U7,Z.frozen? ⟨w1.heap.size,j,Vc⟩=Ve:=fun j=>by rw[q];exact (zF ..).trans (F j)
 have kZ:Kept R X Z:=by rw[q];exact k2.aO UT _
 have zs:w1.heap.size<Z.heap.size:=by rw[q];simpa using K
 have eZ:Env Z:=(aJ HE).kept (((Kept.aD (R:=R) J)).trans kZ) N;clear q I H v2 G F;refine (ye R A ws _ _ Z y eZ N).mono ?_;rintro e w3 ⟨rfl,h3,E⟩;have D:=kZ.trans E;have y0:=D.cell (b:=w.heap.size) (o:=0) UT W;have y1:=D.cell (b:=w.heap.size) (o:=1) UT V;have y2:=D.cell (b:=w.heap.size) (o:=2) UT U;have y3:=D.cell (b:=w.heap.size) (o:=3) UT T;have yf:∀ j:U7,w3.frozen? ⟨w.heap.size,j,Vc⟩=Ve:=fun j=>(D.frozen UT xs).trans (S j)
 have q0:=E.cell (b:=w1.heap.size) (o:=0) C u0;have q1:=E.cell (b:=w1.heap.size) (o:=1) C u1;have q2:=E.cell (b:=w1.heap.size) (o:=2) C u2;have q3:=E.cell (b:=w1.heap.size) (o:=3) C u3;have qf:∀ j:U7,w3.frozen? ⟨w1.heap.size,j,Vc⟩=Ve:=fun j=>(E.frozen C zs).trans (uf j)
 have kt:=(Kept.aD (R:=R) J).trans D;have H3:=hide h3;have ab:w.heap.size≠w1.heap.size:=UT
 have aa:w1.heap.size≠w.heap.size:=UT
 clear h3 y eZ W V U T S u0 u1 u2 u3 uf;go_wp2;refine bodyPost_ret (v:=.agg #[.string (gU ws st),.bool Vf,.int .i64 (bT ws (aQ ws [bI] st) bB dL),.int .i64 (bT ws (aQ ws [bI,bB] st) bB dL)]) (by simp[results,results89,go_sem,y0,y1,y2,y3];exact⟨rfl,rfl,rfl⟩) rfl ⟨rfl,?_,?_⟩
 ·exact ((((((aJ H3).other UT (fun g=>by have:=f g;omega)).other UT (fun g=>by have:=f g;omega)).other UT (fun g=>by have:=f g;omega)).other UT (fun g=>by have:=f g;omega)).other UT (fun g=>by have:=f g;omega)).other UT (fun g=>by have:=f g;omega)
 ·exact (((((kt.aO UT _).aO UT _).aO (zq _) _).aO (zq _) _).aO (zq _) _).aO (zq _) _
theorem SA(f:Vh)(R A:U7)(ws:U4 U3)(nx:U7)(wr:U6)(w:Vg)(h:RS w R A ws nx wr)(hm:cB ws.length nx wr=Ve):
  Vj prog 193 #[.pointer (Vd ⟨R,0,Vc⟩),f] w fun e w'=>e=.returned (e9 [])/\RS w' R A ws nx Vf/\Kept R w w':=by
 go_in
 go_wp2_with fail
 obtain⟨X,z⟩:∃ X,X=(w.alloc (.cells #[.bool Ve,.bool Ve,.bool Ve,.bool Ve,.bool Ve,.bool Ve,.bool Ve] 160)).alloc (.cells #[.bool Ve,.bool Ve,.bool Ve,.bool Ve,.bool Ve,.bool Ve,.bool Ve] 160):=⟨_,rfl⟩;rw[<- z];obtain⟨M,l⟩:=h.lt;have C:Vi w.heap.size w X:=by rw[z];exact ((zr _ _).alloc (zq _) _).alloc UU _
 have hZ:w.heap.size+2=X.heap.size:=by rw[z];simp
 have t:DS X w.heap.size []:=by
  rw[z];refine⟨?_,?_,?_,?_,?_,?_,?_,fun j=>?_⟩ <;> simp[aI]
 have x:DS X (w.heap.size+1) []:=by
  rw[z];refine⟨?_,?_,?_,?_,?_,?_,?_,fun j=>?_⟩ <;> simp[aI]
 clear z;refine (il R A ws nx wr X (h.aD C)).mono ?_;rintro e w1 ⟨rfl,n,y⟩;have D:RS w1 R A ws nx wr:=by rw[y];exact (h.aD C).drewN n
 have L:Kept R w w1:=by rw[y];exact (Kept.aD C).drewN n
 have c:DS w1 w.heap.size []:=by rw[y];exact⟨t.c0,t.c1,t.c2,t.c3,t.c4,t.c5,t.c6,t.f⟩
 have g:DS w1 (w.heap.size+1) []:=by rw[y];exact⟨x.c0,x.c1,x.c2,x.c3,x.c4,x.c5,x.c6,x.f⟩
 have N:X.heap.size=w1.heap.size:=by rw[y];rfl
 have c2:=D.c2;have f2:=D.f2;clear y t x;have q0:=g.c0;have W:=g.c1;have V:=g.c2;have U:=g.c3;have T:=g.c4;have S:=g.c5;have O:=g.c6;have K:=c.c0;have J:=c.c1;have I:=c.c2;have H:=c.c3;have G:=c.c4;have F:=c.c5;have E:=c.c6;have fR:=c.f;have fD:=g.f;have n1:R≠w.heap.size:=UT
 have n2:R≠w.heap.size+1:=UT
 go_wp2;refine bodyPost_ret (v:=e9 []) (by simp[results,results193,go_sem,e9,aI,K,J,I,H,G,F,E]) rfl ⟨rfl,?_,?_⟩
 ·exact (((((((D.bad.other UT (fun q=>by have:=l q;omega)).other UT (fun q=>by have:=l q;omega)).other UT (fun q=>by have:=l q;omega)).other UT (fun q=>by have:=l q;omega)).other UT (fun q=>by have:=l q;omega)).other UT (fun q=>by have:=l q;omega)).other UT (fun q=>by have:=l q;omega))
 ·exact (((((((L.setCell _ _).aO (zq _) _).aO (zq _) _).aO (zq _) _).aO (zq _) _).aO (zq _) _).aO (zq _) _).aO (zq _) _
theorem Pm{acc0:U4 U8}(acc:U4 U8)(h:DS w b acc0):DS (((((((w.setCell ⟨b,0,Vc⟩ (.bool (aI acc 0))).setCell ⟨b,1,Vc⟩ (.bool (aI acc 1))).setCell ⟨b,2,Vc⟩ (.bool (aI acc 2))).setCell ⟨b,3,Vc⟩ (.bool (aI acc 3))).setCell ⟨b,4,Vc⟩ (.bool (aI acc 4))).setCell ⟨b,5,Vc⟩ (.bool (aI acc 5))).setCell ⟨b,6,Vc⟩ (.bool (aI acc 6))) b acc:=by
 have s:∀ (x:Vg) (o:U7) (v u:Vh),x.cell? ⟨b,o,Vc⟩=Vd u->(x.setCell ⟨b,o,Vc⟩ v).cell? ⟨b,o,Vc⟩=Vd v:=fun x o v u c=>zm x ⟨b,o,Vc⟩ v c
 have o:∀ (x:Vg) (i j:U7) (v:Vh),i≠j->(x.setCell ⟨b,i,Vc⟩ v).cell? ⟨b,j,Vc⟩=x.cell? ⟨b,j,Vc⟩:=fun x i j v _=>zS _ _ _ _ UU
 refine⟨?_,?_,?_,?_,?_,?_,?_,fun j=>?_⟩
 ·rw[o _ 6 0 _ UV,o _ 5 0 _ UV,o _ 4 0 _ UV,o _ 3 0 _ UV,o _ 2 0 _ UV,o _ 1 0 _ UV];refine s _ _ _ (.bool (aI acc0 0)) ?_;exact h.c0
 ·rw[o _ 6 1 _ UV,o _ 5 1 _ UV,o _ 4 1 _ UV,o _ 3 1 _ UV,o _ 2 1 _ UV];refine s _ _ _ (.bool (aI acc0 1)) ?_;rw[o _ 0 1 _ UV];exact h.c1
 ·rw[o _ 6 2 _ UV,o _ 5 2 _ UV,o _ 4 2 _ UV,o _ 3 2 _ UV];refine s _ _ _ (.bool (aI acc0 2)) ?_;rw[o _ 1 2 _ UV,o _ 0 2 _ UV];exact h.c2
 ·rw[o _ 6 3 _ UV,o _ 5 3 _ UV,o _ 4 3 _ UV];refine s _ _ _ (.bool (aI acc0 3)) ?_;rw[o _ 2 3 _ UV,o _ 1 3 _ UV,o _ 0 3 _ UV];exact h.c3
 ·rw[o _ 6 4 _ UV,o _ 5 4 _ UV];refine s _ _ _ (.bool (aI acc0 4)) ?_;rw[o _ 3 4 _ UV,o _ 2 4 _ UV,o _ 1 4 _ UV,o _ 0 4 _ UV];exact h.c4
 ·rw[o _ 6 5 _ UV];refine s _ _ _ (.bool (aI acc0 5)) ?_;rw[o _ 4 5 _ UV,o _ 3 5 _ UV,o _ 2 5 _ UV,o _ 1 5 _ UV,o _ 0 5 _ UV];exact h.c5
 ·refine s _ _ _ (.bool (aI acc0 6)) ?_;rw[o _ 5 6 _ UV,o _ 4 6 _ UV,o _ 3 6 _ UV,o _ 2 6 _ UV,o _ 1 6 _ UV,o _ 0 6 _ UV];exact h.c6
 ·simp only[World.frozen?_setCell];exact h.f j
def JE(b:U6)(s:U3)(e:Ending):Prop:=∃ acc,e=.returned (e9 acc)/\(b=Vf->aB.im s=Vd acc)
theorem NF(w:Vg)(b:U7)(y t v2 q n l f:U6)(c o:U7)(h:c≠b):(((((((w.setCell ⟨b,0,Vc⟩ (.bool y)).setCell ⟨b,1,Vc⟩ (.bool t)).setCell ⟨b,2,Vc⟩ (.bool v2)).setCell ⟨b,3,Vc⟩ (.bool q)).setCell ⟨b,4,Vc⟩ (.bool n)).setCell ⟨b,5,Vc⟩ (.bool l)).setCell ⟨b,6,Vc⟩ (.bool f)).cell? ⟨c,o,Vc⟩=w.cell? ⟨c,o,Vc⟩:=by
 have g:∀ (x:Vg) (j:U7) (v:Vh),(x.setCell ⟨b,j,Vc⟩ v).cell? ⟨c,o,Vc⟩=x.cell? ⟨c,o,Vc⟩:=fun x j v=>Y6 x ⟨b,j,Vc⟩ ⟨c,o,Vc⟩ v (Ye h)
 rw[g,g,g,g,g,g,g]
theorem To(b:U6)(R A:U7)(ws:U4 U3)(nx:U7)(wr:U6)(w:Vg)(h:RS w R A ws nx wr)(he:Env w)(hm:cB ws.length nx wr=Vf)(J:nx<ws.length)(hb:aB.dU ws[nx]=b):
  Vj prog 193 #[.pointer (Vd ⟨R,0,Vc⟩),.func (.func 194) #[] #[]] w fun e w'=>JE b ws[nx] e/\RS w' R A ws (if b then nx+1 else nx) (if b then wr else Vf)/\Kept R w w':=by
 have hi:(nx:U8)<(ws.length:U8):=UT
 have af:(0:U8)<=(nx:U8):=Int.natCast_nonneg _;have aa:ws[nx].size<=160:=h.short _ (zg J);have ac:=hide aa;have HE:=hide he;clear aa he
 go_in
 go_wp2_with fail
 obtain⟨X,T⟩:∃ X,X=(w.alloc (.cells #[.bool Ve,.bool Ve,.bool Ve,.bool Ve,.bool Ve,.bool Ve,.bool Ve] 160)).alloc (.cells #[.bool Ve,.bool Ve,.bool Ve,.bool Ve,.bool Ve,.bool Ve,.bool Ve] 160):=⟨_,rfl⟩;rw[<- T];obtain⟨ag,c⟩:=h.lt;have hB:Vi w.heap.size w X:=by rw[T];exact ((zr _ _).alloc (zq _) _).alloc UU _
 have hZ:w.heap.size+2=X.heap.size:=by rw[T];simp
 have H:DS X w.heap.size []:=by
  rw[T];refine⟨?_,?_,?_,?_,?_,?_,?_,fun j=>?_⟩ <;> simp[aI]
 have I:DS X (w.heap.size+1) []:=by
  rw[T];refine⟨?_,?_,?_,?_,?_,?_,?_,fun j=>?_⟩ <;> simp[aI]
 clear T;refine (il R A ws nx wr X (h.aD hB)).mono ?_;rintro e w1 ⟨rfl,n,O⟩;have G:RS w1 R A ws nx wr:=by rw[O];exact (h.aD hB).drewN n
 have k1:Kept R w w1:=by rw[O];exact (Kept.aD hB).drewN n
 have L:DS w1 w.heap.size []:=by rw[O];exact⟨H.c0,H.c1,H.c2,H.c3,H.c4,H.c5,H.c6,H.f⟩
 have M:DS w1 (w.heap.size+1) []:=by rw[O];exact⟨I.c0,I.c1,I.c2,I.c3,I.c4,I.c5,I.c6,I.f⟩
 have z1:X.heap.size=w1.heap.size:=by rw[O];rfl
 have ad:Hid (Env w1):=by show Env w1;rw[O];exact ((aJ HE).later hB).drewN n
 have c0:=G.c0;have c1:=G.c1;have cr:=G.rows nx J;have g:=G.len;clear O
 go_wp2_with fail
 have ab:w1.heap.size≠R:=by have:=G.lt.1;omega
 have ae:w1.heap.size≠A:=by have:=G.lt.2 UT;omega
 go_region_held3 (fun w'=>w'.cell? ⟨R,0,Vc⟩=Vd (.slice (Vd ⟨A,0,Vc⟩) ws.length ws.length)/\w'.cell? ⟨R,1,Vc⟩=Vd (.int .i64 nx)/\w'.cell? ⟨A,nx,Vc⟩=Vd (.string ws[nx]))
  (first
   |go_keep
   |(
    go_split_ands
    refine⟨?_,?_,?_⟩
    ·exact cell_later l UW
    ·exact cell_later l UW
    ·exact cell_later l UW)
   |(
    refine⟨?_,?_,?_⟩
    ·exact cell_later ((zr _ _).alloc (zq _) _) (cell_later l c0)
    ·exact cell_later ((zr _ _).alloc (zq _) _) (cell_later l c1)
    ·exact cell_later ((zr _ _).alloc (zq _) _) (cell_later l cr))
   |(
    refine⟨?_,?_,?_⟩
    ·exact (kq _ _ ab.symm).trans (cell_later l (cell_later ((zr _ _).alloc (zq _) _) c0))
    ·exact (kq _ _ ab.symm).trans (cell_later l (cell_later ((zr _ _).alloc (zq _) _) c1))
    ·exact (kq _ _ ae.symm).trans (cell_later l (cell_later ((zr _ _).alloc (zq _) _) cr))))
  ((go_at_call 194;first
   |(
    refine (Iv _ _ ?_ (aJ ac)).mono ?_
    ·exact (aJ ad).later ⟨rfl,rfl,rfl,Vm _,fun _ _=>rfl⟩
    rintro e w4 ⟨⟨acc,rfl,y⟩,l⟩
    simp only[e9])
   |(
    refine (Iv _ _ ?_ (aJ ac)).mono ?_
    ·exact ((aJ ad).later ((zr _ _).alloc (zq _) _)).later ⟨rfl,rfl,rfl,Vm _,fun _ _=>rfl⟩
    rintro e w4 ⟨⟨acc,rfl,y⟩,l⟩;have K:DS w4 w1.heap.size []:=DS.later (by refine⟨?_,?_,?_,?_,?_,?_,?_,fun j=>?_⟩ <;> simp[aI]) l;have t0:=K.c0;have t1:=K.c1;have t2:=K.c2;have t3:=K.c3;have t4:=K.c4;have t5:=K.c5;have t6:=K.c6;have tf:=K.f;have kq:=NF w4 w1.heap.size (aI acc 0) (aI acc 1) (aI acc 2) (aI acc 3) (aI acc 4) (aI acc 5) (aI acc 6);clear K
    simp only[e9])))
 ·obtain⟨Z,C⟩:∃ Z,Z=w4.alloc (.cells #[.bool (aI acc 0),.bool (aI acc 1),.bool (aI acc 2),.bool (aI acc 3),.bool (aI acc 4),.bool (aI acc 5),.bool (aI acc 6)] 160):=⟨_,rfl⟩;rw[<- C];have x:Vi w1.heap.size w1 w4:=⟨l.os,l.tape,l.output,l.size,l.block⟩;have t:Vi w1.heap.size w1 Z:=by rw[C];exact x.trans ((zr _ _).alloc x.size _)
  have D:DS Z w4.heap.size acc:=by
   rw[C];refine⟨?_,?_,?_,?_,?_,?_,?_,fun j=>?_⟩ <;> simp
  have S:w.heap.size+1<w4.heap.size:=by have:=x.size;omega
  have q:=G.aD t;have kZ:=k1.trans (Kept.aD (R:=R) t);have z:=L.later t;have zD:=M.later t;obtain⟨V,hV⟩:∃ V,V=w4.heap.size:=⟨_,rfl⟩;rw[<- hV] at S D ⊢;clear C x t l hV L M H I;rw[hb] at y;have F:=hide y;clear c0 c1 cr y G k1 h;have x1:=q.c1;have x2:=q.c2;have x3:=q.f1;have x4:=q.f2;have q0:=zD.c0;have q1:=zD.c1;have q2:=zD.c2;have q3:=zD.c3;have q4:=zD.c4;have q5:=zD.c5;have q6:=zD.c6;have r0:=z.c0;have r1:=z.c1;have r2:=z.c2;have r3:=z.c3;have r4:=z.c4;have W:=z.c5;have U:=z.c6;have fR:=z.f;have s0:=D.c0;have s1:=D.c1;have s2:=D.c2;have s3:=D.c3;have s4:=D.c4;have s5:=D.c5;have s6:=D.c6;have n1:R≠w.heap.size:=UT
  have n2:R≠w.heap.size+1:=UT
  have n3:R≠V:=UT
  have E:=hide q;clear q z zD D
  cases b
  ·go_wp2;refine bodyPost_ret (v:=e9 []) (by simp[results,results193,go_sem,e9,aI,r0,r1,r2,r3,r4,W,U]) rfl ⟨⟨[],rfl,fun h=>Vb h UV⟩,?_,?_⟩
   ·exact ((((((((aJ E).bad.other UT (fun g=>by have:=c g;omega)).other UT (fun g=>by have:=c g;omega)).other UT (fun g=>by have:=c g;omega)).other UT (fun g=>by have:=c g;omega)).other UT (fun g=>by have:=c g;omega)).other UT (fun g=>by have:=c g;omega)).other UT (fun g=>by have:=c g;omega))
   ·exact (((((((kZ.setCell _ _).aO (zq _) _).aO (zq _) _).aO (zq _) _).aO (zq _) _).aO (zq _) _).aO (zq _) _).aO (zq _) _
  ·go_wp2;refine bodyPost_ret (v:=e9 acc) (by simp[results,results193,go_sem,e9,r0,r1,r2,r3,r4,W,U]) rfl ⟨⟨acc,rfl,fun _=>aJ F trivial⟩,?_,?_⟩
   ·exact (((((((((aJ E).step J).other UT (fun g=>by have:=c g;omega)).other UT (fun g=>by have:=c g;omega)).other UT (fun g=>by have:=c g;omega)).other UT (fun g=>by have:=c g;omega)).other UT (fun g=>by have:=c g;omega)).other UT (fun g=>by have:=c g;omega)).other UT (fun g=>by have:=c g;omega))
   ·exact (((((((kZ.setCell _ _).aO (zq _) _).aO (zq _) _).aO (zq _) _).aO (zq _) _).aO (zq _) _).aO (zq _) _).aO (zq _) _
 ·obtain⟨Z,C⟩:∃ Z,Z=((((((w4.setCell ⟨w1.heap.size,0,Vc⟩ (.bool (aI acc 0))).setCell ⟨w1.heap.size,1,Vc⟩ (.bool (aI acc 1))).setCell ⟨w1.heap.size,2,Vc⟩ (.bool (aI acc 2))).setCell ⟨w1.heap.size,3,Vc⟩ (.bool (aI acc 3))).setCell ⟨w1.heap.size,4,Vc⟩ (.bool (aI acc 4))).setCell ⟨w1.heap.size,5,Vc⟩ (.bool (aI acc 5))).setCell ⟨w1.heap.size,6,Vc⟩ (.bool (aI acc 6)):=⟨_,rfl⟩;rw[<- C];have N:Vi w1.heap.size (w1.alloc (.cells #[.bool Ve,.bool Ve,.bool Ve,.bool Ve,.bool Ve,.bool Ve,.bool Ve] 160)) w4:=⟨l.os,l.tape,l.output,l.size,fun k hk=>l.block k UZ⟩;have x:Vi w1.heap.size w1 w4:=((zr w1.heap.size w1).alloc (zq _) _).trans N;clear N;have t:Vi w1.heap.size w1 Z:=by rw[C];exact ((((((x.setCell (zq _) _).setCell (zq _) _).setCell (zq _) _).setCell (zq _) _).setCell (zq _) _).setCell (zq _) _).setCell (zq _) _
  have D:DS Z w1.heap.size acc:=by
   rw[C];exact Pm acc (acc0:=[]) ⟨t0,t1,t2,t3,t4,t5,t6,tf⟩
  have S:w.heap.size+1<w1.heap.size:=UT
  have q:=G.aD t;have kZ:=k1.trans (Kept.aD (R:=R) t);have z:=L.later t;have zD:=M.later t;obtain⟨V,hV⟩:∃ V,V=w1.heap.size:=⟨_,rfl⟩;rw[<- hV] at S D ⊢;clear C x t l hV L M H I t0 t1 t2 t3 t4 t5 t6 tf kq;rw[hb] at y;have F:=hide y;clear c0 c1 cr y G k1 h;have x1:=q.c1;have x2:=q.c2;have x3:=q.f1;have x4:=q.f2;have q0:=zD.c0;have q1:=zD.c1;have q2:=zD.c2;have q3:=zD.c3;have q4:=zD.c4;have q5:=zD.c5;have q6:=zD.c6;have r0:=z.c0;have r1:=z.c1;have r2:=z.c2;have r3:=z.c3;have r4:=z.c4;have W:=z.c5;have U:=z.c6;have fR:=z.f;have s0:=D.c0;have s1:=D.c1;have s2:=D.c2;have s3:=D.c3;have s4:=D.c4;have s5:=D.c5;have s6:=D.c6;have n1:R≠w.heap.size:=UT
  have n2:R≠w.heap.size+1:=UT
  have n3:R≠V:=UT
  have E:=hide q;clear q z zD D
  cases b
  ·go_wp2;refine bodyPost_ret (v:=e9 []) (by simp[results,results193,go_sem,e9,aI,r0,r1,r2,r3,r4,W,U]) rfl ⟨⟨[],rfl,fun h=>Vb h UV⟩,?_,?_⟩
   ·exact ((((((((aJ E).bad.other UT (fun g=>by have:=c g;omega)).other UT (fun g=>by have:=c g;omega)).other UT (fun g=>by have:=c g;omega)).other UT (fun g=>by have:=c g;omega)).other UT (fun g=>by have:=c g;omega)).other UT (fun g=>by have:=c g;omega)).other UT (fun g=>by have:=c g;omega))
   ·exact (((((((kZ.setCell _ _).aO (zq _) _).aO (zq _) _).aO (zq _) _).aO (zq _) _).aO (zq _) _).aO (zq _) _).aO (zq _) _
  ·go_wp2;refine bodyPost_ret (v:=e9 acc) (by simp[results,results193,go_sem,e9,r0,r1,r2,r3,r4,W,U]) rfl ⟨⟨acc,rfl,fun _=>aJ F trivial⟩,?_,?_⟩
   ·exact (((((((((aJ E).step J).other UT (fun g=>by have:=c g;omega)).other UT (fun g=>by have:=c g;omega)).other UT (fun g=>by have:=c g;omega)).other UT (fun g=>by have:=c g;omega)).other UT (fun g=>by have:=c g;omega)).other UT (fun g=>by have:=c g;omega)).other UT (fun g=>by have:=c g;omega))
   ·exact (((((((kZ.setCell _ _).aO (zq _) _).aO (zq _) _).aO (zq _) _).aO (zq _) _).aO (zq _) _).aO (zq _) _).aO (zq _) _
theorem Sz(R A:U7)(ws:U4 U3)(nx:U7)(wr:U6)(w:Vg)(h:RS w R A ws nx wr)(l:Env w):
  Vj prog 193 #[.pointer (Vd ⟨R,0,Vc⟩),.func (.func 194) #[] #[]] w fun e w'=>JE (eA ws nx wr aB.dU) (ws.getD nx YM) e/\RS w' R A ws (ek ws nx wr aB.dU) (ei ws nx wr aB.dU)/\Kept R w w':=by
 cases f:cB ws.length nx wr
 ·have t:=sC (B:=aB.dU) f;rw[ek,ei,t];refine (SA _ R A ws nx wr w h f).mono ?_;rintro e w' ⟨rfl,n,j⟩;exact⟨⟨[],rfl,fun h=>Vb h UV⟩,n,j⟩
 ·have c:=pO f;obtain⟨b,g⟩:∃ b,aB.dU ws[nx]=b:=⟨_,rfl⟩;have t:=mI (B:=aB.dU) f c g;rw[ek,ei,t,pI ws nx c];exact To b R A ws nx wr w h l f c g
def rv(pc ev:U8)(acc:U4 U8)(fr mn mi ti un:U8):U7->Vh
 |0=>.int .i64 pc
 |1=>.int .i64 ev
 |2=>.bool (aI acc 0)
 |3=>.bool (aI acc 1)
 |4=>.bool (aI acc 2)
 |5=>.bool (aI acc 3)
 |6=>.bool (aI acc 4)
 |7=>.bool (aI acc 5)
 |8=>.bool (aI acc 6)
 |9=>.int .i64 fr
 |10=>.int .i64 mn
 |11=>.int .i64 mi
 |12=>.int .i64 ti
 |_=>.int .i64 un
structure RL(w:Vg)(P:U7)(v:U7->Vh):Prop where
 c:∀ j:U7,j<14->w.cell? ⟨P,j,Vc⟩=Vd (v j)
 f:∀ j:U7,w.frozen? ⟨P,j,Vc⟩=Ve
theorem ox{p:U7->Prop}(G:p 0)(F:p 1)(E:p 2)(D:p 3)(C:p 4)(z:p 5)(y:p 6)(x:p 7)(t:p 8)(q:p 9)(l:p 10)(g:p 11)(f:p 12)(c:p 13):∀ j:U7,j<14->p j
 |0,_=>G
 |1,_=>F
 |2,_=>E
 |3,_=>D
 |4,_=>C
 |5,_=>z
 |6,_=>y
 |7,_=>x
 |8,_=>t
 |9,_=>q
 |10,_=>l
 |11,_=>g
 |12,_=>f
 |13,_=>c
 |n+14,h=>Vb h UT
theorem RL.lt(h:RL w P v):P<w.heap.size:=Vq _ ⟨P,0,Vc⟩ (h.c 0 UT)
theorem RL.set(h:RL w P v)(j:U7)(l:j<14)(x:Vh):RL (w.setCell ⟨P,j,Vc⟩ x) P (fun i=>if i=j then x else v i):=by
 refine⟨fun i g=>?_,fun i=>(zF ..).trans (h.f i)⟩
 by_cases e:i=j
 ·subst e;rw[Va rfl];exact zm _ ⟨P,i,Vc⟩ _ (h.c i g)
 ·rw[U9 e];exact (zS _ _ _ _ UU).trans (h.c i g)
theorem RL.congr{v':U7->Vh}(h:RL w P v)(e:∀ j:U7,j<14->v j=v' j):RL w P v':=⟨fun j g=>by rw[<- e j g];exact h.c j g,h.f⟩
theorem RL.other{x:Vh}(h:RL w P v)(l:b≠P):RL (w.setCell ⟨b,o,Vc⟩ x) P v :=
 ⟨fun j g=>(Y6 w ⟨b,o,Vc⟩ ⟨P,j,Vc⟩ x l).trans (h.c j g),fun i=>(zF ..).trans (h.f i)⟩
theorem RL.kept(h:RL w P v)(k:Kept R w w')(g:P≠R):RL w' P v :=
 ⟨fun j l=>k.cell g (h.c j l),fun j=>(k.frozen g h.lt).trans (h.f j)⟩
structure jx(R P:U7)(w w':Vg):Prop where
 os:w'.os=w.os
 tape:w'.tape=w.tape
 output:w'.output=w.output
 size:w.heap.size<=w'.heap.size
 block:∀ k,k<w.heap.size->k≠R->k≠P->w'.heap[k]?=w.heap[k]?
theorem Kept.two(P:U7)(k:Kept R w w'):jx R P w w':=⟨k.os,k.tape,k.output,k.size,fun i f c _=>k.block i f c⟩
theorem jx.trans{a b c:Vg}(h:jx R P a b)(k:jx R P b c):jx R P a c :=
 ⟨k.os.trans h.os,k.tape.trans h.tape,k.output.trans h.output,Vp h.size k.size,fun i j f g=>(k.block i (zL j h.size) f g).trans (h.block i j f g)⟩
theorem jx.fH(h:jx R P w w')(o:U7)(v:Vh):jx R P w (w'.setCell ⟨P,o,Vc⟩ v) :=
 ⟨(Below.setCell (B:=0) (Below.refl 0 w') (p:=⟨P,o,Vc⟩) (zN _) v).os.trans h.os,(Below.setCell (B:=0) (Below.refl 0 w') (p:=⟨P,o,Vc⟩) (zN _) v).tape.trans h.tape,(Below.setCell (B:=0) (Below.refl 0 w') (p:=⟨P,o,Vc⟩) (zN _) v).output.trans h.output,Vp h.size (Below.setCell (B:=0) (Below.refl 0 w') (p:=⟨P,o,Vc⟩) (zN _) v).size,fun k g f c=>(Below.heap_setCell w' ⟨P,o,Vc⟩ v k c).trans (h.block k g f c)⟩
theorem jx.uo(h:jx R P w w')(o:U7)(v:Vh):jx R P w (w'.setCell ⟨R,o,Vc⟩ v) :=
 ⟨(Below.setCell (B:=0) (Below.refl 0 w') (p:=⟨R,o,Vc⟩) (zN _) v).os.trans h.os,(Below.setCell (B:=0) (Below.refl 0 w') (p:=⟨R,o,Vc⟩) (zN _) v).tape.trans h.tape,(Below.setCell (B:=0) (Below.refl 0 w') (p:=⟨R,o,Vc⟩) (zN _) v).output.trans h.output,Vp h.size (Below.setCell (B:=0) (Below.refl 0 w') (p:=⟨R,o,Vc⟩) (zN _) v).size,fun k g c f=>(Below.heap_setCell w' ⟨R,o,Vc⟩ v k c).trans (h.block k g c f)⟩
theorem jx.one{x:Vg}(k:Kept R w x)(h:jx R P x w')(g:w.heap.size<=P):Kept R w w' :=
 ⟨h.os.trans k.os,h.tape.trans k.tape,h.output.trans k.output,Vp k.size h.size,fun i f c=>(h.block i (zL f k.size) c UT).trans (k.block i f c)⟩
theorem Env.fY(h:Env w)(k:jx R P w w')(I:10<=R)(J:10<=P):Env w':=by
 have n:Vi 10 w w':=⟨k.os,k.tape,k.output,k.size,fun i t=>k.block i (zL t h.size) UT UT⟩;have c:∀ (b o:U7) (v:Vh),b<10->w.cell? ⟨b,o,Vc⟩=Vd v->w'.cell? ⟨b,o,Vc⟩=Vd v:=fun b o v g e=>(n.cell (p:=⟨b,o,Vc⟩) g).trans e
 obtain⟨m,q⟩:=h.tC;obtain⟨H,c1,G,F,E,D,C,z,y,x,l,j⟩:=h.iK;refine⟨⟨c _ _ _ UT H,c _ _ _ UT c1,c _ _ _ UT G,c _ _ _ UT F,c _ _ _ UT E,c _ _ _ UT D,c _ _ _ UT C,c _ _ _ UT z,c _ _ _ UT y,c _ _ _ UT x,c _ _ _ UT l,c _ _ _ UT j⟩,⟨m,c _ _ _ UT q⟩,?_,Vp h.size k.size,c _ _ _ UT h.mo,c _ _ _ UT h.tu,c _ _ _ UT h.we,c _ _ _ UT h.th,c _ _ _ UT h.fr,c _ _ _ UT h.sa,c _ _ _ UT h.su⟩;have f:=h.pow;unfold Lib.TabIs YR at f ⊢;simp only[vb,YS] at f ⊢;rw[n.block 0 UT];exact f
def iV:U3:=⟨#[100,97,105,108,121]⟩
def iw:U3:=⟨#[119,101,101,107,108,121]⟩
def jH:U3:=⟨#[109,111,110,116,104,108,121]⟩
def iS:U3:=⟨#[116,105,109,101,115]⟩
def jr:U3:=⟨#[117,110,116,105,108]⟩
def cV:U3:=⟨#[102,114,111,109]⟩
def ej:U3:=⟨#[97,116]⟩
def fQ:U3:=⟨#[102,111,114]⟩
def eo(s:U3):U6:=eL s 1 99
def eJ(s:U3):U6:=eL s 1 1048320
def bE(x s:U3):U6:=s.toList==x.toList
def dV(st:U7 × U6):U7 × U6:=(st.1+1,st.2)
inductive nV (ws:U4 U3) (st:U7 × U6):U8->U8->U4 U8->U7 × U6->Prop where
 |daily (h:bD ws st.1 st.2 iV=Vf):nV ws st 1 (bT ws (dV st) eo cL) [] (aQ ws [eo] (dV st))
 |weekly (h1:bD ws st.1 st.2 iV=Ve) (h:bD ws st.1 st.2 iw=Vf) (acc:U4 U8) (ha:eA ws (aQ ws [eo] (dV st)).1 (aQ ws [eo] (dV st)).2 aB.dU=Vf->aB.im (ws.getD (aQ ws [eo] (dV st)).1 YM)=Vd acc):
   nV ws st 2 (bT ws (dV st) eo cL) acc (aQ ws [eo,aB.dU] (dV st))
 |monthly (h1:bD ws st.1 st.2 iV=Ve) (h2:bD ws st.1 st.2 iw=Ve) (h:bD ws st.1 st.2 jH=Vf):nV ws st 3 (bT ws (dV st) eo cL) [] (aQ ws [eo] (dV st))
 |none (h1:bD ws st.1 st.2 iV=Ve) (h2:bD ws st.1 st.2 iw=Ve) (h:bD ws st.1 st.2 jH=Ve):nV ws st 0 0 [] (st.1,Vf)
theorem Bh{ev:U8}(h:RL w P (rv pc ev acc fr mn mi ti un))(x:U8):RL (w.setCell ⟨P,0,Vc⟩ (.int .i64 x)) P (rv x ev acc fr mn mi ti un):=(h.set 0 UT _).congr (ox rfl rfl rfl rfl rfl rfl rfl rfl rfl rfl rfl rfl rfl rfl)
theorem Bi{ev:U8}(h:RL w P (rv pc ev acc fr mn mi ti un))(x:U8):RL (w.setCell ⟨P,1,Vc⟩ (.int .i64 x)) P (rv pc x acc fr mn mi ti un):=(h.set 1 UT _).congr (ox rfl rfl rfl rfl rfl rfl rfl rfl rfl rfl rfl rfl rfl rfl)
theorem Pa{ev:U8}(h:RL w P (rv pc ev acc fr mn mi ti un))(x:U8):RL (w.setCell ⟨P,9,Vc⟩ (.int .i64 x)) P (rv pc ev acc x mn mi ti un):=(h.set 9 UT _).congr (ox rfl rfl rfl rfl rfl rfl rfl rfl rfl rfl rfl rfl rfl rfl)
theorem PM{ev:U8}(h:RL w P (rv pc ev acc fr mn mi ti un))(x:U8):RL (w.setCell ⟨P,10,Vc⟩ (.int .i64 x)) P (rv pc ev acc fr x mi ti un):=(h.set 10 UT _).congr (ox rfl rfl rfl rfl rfl rfl rfl rfl rfl rfl rfl rfl rfl rfl)
theorem PN{ev:U8}(h:RL w P (rv pc ev acc fr mn mi ti un))(x:U8):RL (w.setCell ⟨P,11,Vc⟩ (.int .i64 x)) P (rv pc ev acc fr mn x ti un):=(h.set 11 UT _).congr (ox rfl rfl rfl rfl rfl rfl rfl rfl rfl rfl rfl rfl rfl rfl)
theorem PO{ev:U8}(h:RL w P (rv pc ev acc fr mn mi ti un))(x:U8):RL (w.setCell ⟨P,12,Vc⟩ (.int .i64 x)) P (rv pc ev acc fr mn mi x un):=(h.set 12 UT _).congr (ox rfl rfl rfl rfl rfl rfl rfl rfl rfl rfl rfl rfl rfl rfl)
theorem PP{ev:U8}(h:RL w P (rv pc ev acc fr mn mi ti un))(x:U8):RL (w.setCell ⟨P,13,Vc⟩ (.int .i64 x)) P (rv pc ev acc fr mn mi ti x):=(h.set 13 UT _).congr (ox rfl rfl rfl rfl rfl rfl rfl rfl rfl rfl rfl rfl rfl rfl)
theorem PQ{ev:U8}(h:RL w P (rv pc ev acc fr mn mi ti un))(x:U4 U8):
  RL (((((((w.setCell ⟨P,2,Vc⟩ (.bool (aI x 0))).setCell ⟨P,3,Vc⟩ (.bool (aI x 1))).setCell ⟨P,4,Vc⟩ (.bool (aI x 2))).setCell ⟨P,5,Vc⟩ (.bool (aI x 3))).setCell ⟨P,6,Vc⟩ (.bool (aI x 4))).setCell ⟨P,7,Vc⟩ (.bool (aI x 5))).setCell ⟨P,8,Vc⟩ (.bool (aI x 6))) P (rv pc ev x fr mn mi ti un) :=
 (((((((h.set 2 UT _).set 3 UT _).set 4 UT _).set 5 UT _).set 6 UT _).set 7 UT _).set 8 UT _).congr (ox rfl rfl rfl rfl rfl rfl rfl rfl rfl rfl rfl rfl rfl rfl)
theorem Rv(R A P:U7)(ws:U4 U3)(st:U7 × U6)(w:Vg)(h:RS w R A ws st.1 st.2)(he:Env w)(H:10<=R)(X:10<=P)(g:P≠R)(j:0<ws.length->P≠A)(hl:RL w P (rv 0 0 [] 0 0 0 0 0)):
  Vj prog 133 #[.pointer (Vd ⟨R,0,Vc⟩),.pointer (Vd ⟨P,0,Vc⟩)] w fun e w' =>
   ∃ (pc ev:U8) (acc:U4 U8) (s:U7 × U6),e=.returned (.tuple #[])/\nV ws st pc ev acc s/\RS w' R A ws s.1 s.2/\RL w' P (rv pc ev acc 0 0 0 0 0)/\jx R P w w':=by
 have HE:=hide he;clear he
 go_in
 go_wp2_with fail
 refine (iI R A ws st.1 st.2 iV w h).mono ?_;rintro e w1 ⟨rfl,N,k1⟩;have C:=k1.two P;have l1:=hl.kept k1 g;clear h hl k1
 cases K:bD ws st.1 st.2 iV
 ·rw[K] at N
  go_wp2_with fail
  refine (iI R A ws st.1 st.2 iw w1 N).mono ?_;rintro e w2 ⟨rfl,M,k2⟩;have z:=C.trans (k2.two P);have J:=l1.kept k2 g;clear N C l1 k2
  cases T:bD ws st.1 st.2 iw
  ·rw[T] at M
   go_wp2_with fail
   refine (iI R A ws st.1 st.2 jH w2 M).mono ?_;rintro e w3 ⟨rfl,I,k3⟩;have G:=z.trans (k3.two P);have S:=J.kept k3 g;clear M z J k3
   cases W:bD ws st.1 st.2 jH
   ·rw[W] at I;have c2:=I.c2;have f2:=I.f2;go_wp2
    go_end0
    exact⟨0,0,[],(st.1,Vf),rfl,.none K T W,I.bad,S.other g.symm,G.uo _ _⟩
   ·rw[W,Va rfl] at I;have O:=S.c 0 UT;have x:=S.f
    go_wp2_with fail
    have E:=I.other (b:=P) (o:=0) (v:=.int .i64 3) g j;have D:=Bh S 3;have t:=G.fH 0 (.int .i64 3);have V:=hide ((aJ HE).fY t H X);clear O x I S G;refine (Ce R A ws (st.1+1) st.2 _ E).mono ?_;rintro e w5 ⟨rfl,L,l⟩;have n:=t.trans (l.two P);have q:=D.kept l g;have E5:=hide ((aJ V).kept l H);clear E D t l;have p1:=q.c 1 UT;have x:=q.f;go_wp2
    go_end0
    exact⟨3,bT ws (dV st) eo cL,[],aQ ws [eo] (dV st),rfl,.monthly K T W,L.other g j,Bi q _,n.fH _ _⟩
  ·rw[T,Va rfl] at M;have O:=J.c 0 UT;have x:=J.f
   go_wp2_with fail
   have E:=M.other (b:=P) (o:=0) (v:=.int .i64 2) g j;have D:=Bh J 2;have t:=z.fH 0 (.int .i64 2);have V:=hide ((aJ HE).fY t H X);clear O x M J z;refine (Ce R A ws (st.1+1) st.2 _ E).mono ?_;rintro e w5 ⟨rfl,L,l⟩;have n:=t.trans (l.two P);have q:=D.kept l g;have E5:=hide ((aJ V).kept l H);clear E D t l;have p1:=q.c 1 UT;have x:=q.f
   go_wp2_with fail
   have h6:=L.other (b:=P) (o:=1) (v:=.int .i64 (fg ws (st.1+1) st.2 (fun s=>eL s 1 99) (fun s=>aB.cF s.data.toList))) g j;have l6:=Bi q (fg ws (st.1+1) st.2 (fun s=>eL s 1 99) (fun s=>aB.cF s.data.toList));have k6:=n.fH 1 (.int .i64 (fg ws (st.1+1) st.2 (fun s=>eL s 1 99) (fun s=>aB.cF s.data.toList)));have E6:=hide ((aJ HE).fY k6 H X);clear p1 x L q n;refine (Sz R A ws _ _ _ h6 (aJ E6)).mono ?_;rintro e w7 ⟨⟨acc,rfl,F⟩,h7,k7⟩;have aa:=k6.trans (k7.two P);have y:=l6.kept k7 g;have U:=hide F;clear h6 l6 k6 k7 F;have p2:=y.c 2 UT;have p3:=y.c 3 UT;have p4:=y.c 4 UT;have p5:=y.c 5 UT;have p6:=y.c 6 UT;have p7:=y.c 7 UT;have p8:=y.c 8 UT;have x:=y.f;have H7:=hide h7;clear h7;simp only[e9];go_wp2
   go_end0
   exact⟨2,bT ws (dV st) eo cL,acc,aQ ws [eo,aB.dU] (dV st),rfl,.weekly K T acc (aJ U),((((((((aJ H7).other g j).other g j).other g j).other g j).other g j).other g j).other g j),PQ y acc,(((((((aa.fH _ _).fH _ _).fH _ _).fH _ _).fH _ _).fH _ _).fH _ _)⟩
 ·rw[K,Va rfl] at N;have O:=l1.c 0 UT;have x:=l1.f
  go_wp2_with fail
  have E:=N.other (b:=P) (o:=0) (v:=.int .i64 1) g j;have D:=Bh l1 1;have t:=C.fH 0 (.int .i64 1);have V:=hide ((aJ HE).fY t H X);clear O x N l1 C;refine (Ce R A ws (st.1+1) st.2 _ E).mono ?_;rintro e w5 ⟨rfl,L,l⟩;have n:=t.trans (l.two P);have q:=D.kept l g;have E5:=hide ((aJ V).kept l H);clear E D t l;have p1:=q.c 1 UT;have x:=q.f;go_wp2
  go_end0
  exact⟨1,bT ws (dV st) eo cL,[],aQ ws [eo] (dV st),rfl,.daily K,L.other g j,Bi q _,n.fH _ _⟩
inductive nO (ws:U4 U3) (st:U7 × U6):U8->U8->U7 × U6->Prop where
 |times (h:bD ws st.1 st.2 iS=Vf):nO ws st (bT ws (dV st) eo cL) 0 (aQ ws [eo] (dV st))
 |til (h1:bD ws st.1 st.2 iS=Ve) (h:bD ws st.1 st.2 jr=Vf):nO ws st 0 (bT ws (dV st) aB.cM fS) (aQ ws [aB.cM] (dV st))
 |none (h1:bD ws st.1 st.2 iS=Ve) (h:bD ws st.1 st.2 jr=Ve):nO ws st 0 0 (st.1,Vf)
theorem PI(R A P:U7)(ws:U4 U3)(st:U7 × U6)(w:Vg)(pc ev:U8)(acc:U4 U8)(fr mn mi:U8)(h:RS w R A ws st.1 st.2)(J:Env w)(K:10<=R)(g:P≠R)(C:0<ws.length->P≠A)(I:RL w P (rv pc ev acc fr mn mi 0 0)):
  Vj prog 138 #[.pointer (Vd ⟨R,0,Vc⟩),.pointer (Vd ⟨P,0,Vc⟩)] w fun e w' =>
   ∃ (ti un:U8) (s:U7 × U6),e=.returned (.tuple #[])/\nO ws st ti un s/\RS w' R A ws s.1 s.2/\RL w' P (rv pc ev acc fr mn mi ti un)/\jx R P w w':=by
 have O:=hide J;clear J
 go_in
 go_wp2_with fail
 refine (iI R A ws st.1 st.2 iS w h).mono ?_;rintro e w1 ⟨rfl,y,E⟩;have j:=E.two P;have l1:=I.kept E g;have T:=hide ((aJ O).kept E K);clear h I E
 cases z:bD ws st.1 st.2 iS
 ·rw[z] at y
  go_wp2_with fail
  refine (iI R A ws st.1 st.2 jr w1 y).mono ?_;rintro e w2 ⟨rfl,x,D⟩;have q:=j.trans (D.two P);have G:=l1.kept D g;have S:=hide ((aJ T).kept D K);clear y j l1 D
  cases F:bD ws st.1 st.2 jr
  ·rw[F] at x;have V:=x.c2;have U:=x.f2;go_wp2
   go_end0
   exact⟨0,0,(st.1,Vf),rfl,.none z F,x.bad,G.other g.symm,q.uo _ _⟩
  ·rw[F,Va rfl] at x
   go_wp2_with fail
   refine (Jm R A ws (st.1+1) st.2 w2 x (aJ S)).mono ?_;rintro e L ⟨rfl,H,t⟩;have n:=q.trans (t.two P);have l:=G.kept t g;clear x q G t;have N:=l.c 13 UT;have M:=l.f;go_wp2
   go_end0
   exact⟨0,bT ws (dV st) aB.cM fS,aQ ws [aB.cM] (dV st),rfl,.til z F,H.other g C,PP l _,n.fH _ _⟩
 ·rw[z,Va rfl] at y
  go_wp2_with fail
  refine (yr 1 99 R A ws (st.1+1) st.2 w1 y).mono ?_;rintro e L ⟨rfl,H,t⟩;have n:=j.trans (t.two P);have l:=l1.kept t g;clear y j l1 t;have N:=l.c 12 UT;have M:=l.f;go_wp2
  go_end0
  exact⟨bT ws (dV st) eo cL,0,aQ ws [eo] (dV st),rfl,.times z,H.other g C,PO l _,n.fH _ _⟩
def mC(ws:U4 U3)(s:U7 × U6):U7 × U6:=aQ ws [bE cV,aB.cM,bE ej,aB.dA,bE fQ,eJ] s
inductive kl (ws:U4 U3) (st:U7 × U6):U8->U8->U4 U8->U8->U8->U8->U8->U8->U7 × U6->Prop where
 |mk (pc ev:U8) (acc:U4 U8) (s:U7 × U6) (ti un:U8) (s':U7 × U6) (hp:nV ws st pc ev acc s) (he:nO ws (mC ws s) ti un s'):
   kl ws st pc ev acc (bT ws (aQ ws [bE cV] s) aB.cM fS) (bT ws (aQ ws [bE cV,aB.cM,bE ej] s) aB.dA aB.fl) (bT ws (aQ ws [bE cV,aB.cM,bE ej,aB.dA,bE fQ] s) eJ cL) ti un s'
theorem RL.fY(h:RL w P v)(k:jx R Q w w')(l:P≠R)(g:P≠Q):RL w' P v :=
 ⟨fun j n=>(zo (w:=w) (k.block P h.lt l g)).trans (h.c j n),fun j=>(WS (w:=w) (k.block P h.lt l g)).trans (h.f j)⟩
def tF(pc ev:U8)(acc:U4 U8)(fr mn mi ti un:U8):Vh :=
 .agg #[.int .i64 pc,.int .i64 ev,.bool (aI acc 0),.bool (aI acc 1),.bool (aI acc 2),.bool (aI acc 3),.bool (aI acc 4),.bool (aI acc 5),.bool (aI acc 6),.int .i64 fr,.int .i64 mn,.int .i64 mi,.int .i64 ti,.int .i64 un]
def Dm(ws:U4 U3):Prop:=∀ (R A:U7)(st:U7 × U6)(w:Vg),RS w R A ws st.1 st.2->Env w->10<=R ->
  Vj prog 87 #[.pointer (Vd ⟨R,0,Vc⟩)] w fun e w' =>
   ∃ (pc ev:U8) (acc:U4 U8) (fr mn mi ti un:U8) (s:U7 × U6),e=.returned (tF pc ev acc fr mn mi ti un)/\kl ws st pc ev acc fr mn mi ti un s/\RS w' R A ws s.1 s.2/\Kept R w w'
theorem T8(R A:U7)(ws:U4 U3)(st:U7 × U6)(w:Vg)(h:RS w R A ws st.1 st.2)(he:Env w)(D:10<=R):
  Vj prog 87 #[.pointer (Vd ⟨R,0,Vc⟩)] w fun e w' =>
   ∃ (pc ev:U8) (acc:U4 U8) (fr mn mi ti un:U8) (s:U7 × U6),e=.returned (tF pc ev acc fr mn mi ti un)/\kl ws st pc ev acc fr mn mi ti un s/\RS w' R A ws s.1 s.2/\Kept R w w':=by
 have S:=hide he;clear he
 go_in
 go_wp2_with fail
 obtain⟨bi,ad⟩:=h.lt;obtain⟨X,O⟩:∃ X,X=(w.alloc (.cells #[.int .i64 0,.int .i64 0,.bool Ve,.bool Ve,.bool Ve,.bool Ve,.bool Ve,.bool Ve,.bool Ve,.int .i64 0,.int .i64 0,.int .i64 0,.int .i64 0,.int .i64 0] 162)).alloc (.cells #[.int .i64 0,.int .i64 0,.bool Ve,.bool Ve,.bool Ve,.bool Ve,.bool Ve,.bool Ve,.bool Ve,.int .i64 0,.int .i64 0,.int .i64 0,.int .i64 0,.int .i64 0] 162):=⟨_,rfl⟩;rw[<- O];have hB:Vi w.heap.size w X:=by rw[O];exact ((zr _ _).alloc (zq _) _).alloc UU _
 have hZ:w.heap.size+2=X.heap.size:=by rw[O];simp
 have gX:RL X w.heap.size (rv 0 0 [] 0 0 0 0 0):=by
  rw[O];refine⟨ox ?_ ?_ ?_ ?_ ?_ ?_ ?_ ?_ ?_ ?_ ?_ ?_ ?_ ?_,fun j=>?_⟩ <;> simp[rv,aI]
 have lX:RL X (w.heap.size+1) (rv 0 0 [] 0 0 0 0 0):=by
  rw[O];refine⟨ox ?_ ?_ ?_ ?_ ?_ ?_ ?_ ?_ ?_ ?_ ?_ ?_ ?_ ?_,fun j=>?_⟩ <;> simp[rv,aI]
 clear O;have eX:=(aJ S).later hB;have a7:=(aJ S).size;have kX:=Kept.aD (R:=R) hB;have z:w.heap.size+1≠R:=UT
 have C:0<ws.length->w.heap.size+1≠A:=fun hq=>by have:=ad hq;omega
 have l:w.heap.size≠R:=UT
 have t:0<ws.length->w.heap.size≠A:=fun hq=>by have:=ad hq;omega
 obtain⟨P,hP⟩:∃ P,P=w.heap.size+1:=⟨_,rfl⟩;rw[<- hP] at lX z C ⊢;obtain⟨G,hG⟩:∃ G,G=w.heap.size:=⟨_,rfl⟩;rw[<- hG] at gX l t ⊢;have H:G≠P:=UT
 have F:w.heap.size<=P:=UT
 have y:w.heap.size<=G:=UT
 have ac:10<=P:=UT
 clear hP hG;refine (Rv R A P ws st X (h.aD hB) eX D ac z C lX).mono ?_;rintro e w1 ⟨pc,ev,acc,s,rfl,hp,h1,l1,k1⟩;have g1:=gX.fY k1 l H;have kt:=jx.one kX k1 F;have E1:=hide ((aJ S).kept kt D);have aq:=hide hp;clear gX lX k1 eX hp h
 go_wp2_with fail
 refine (BC R A ws _ _ cV w1 h1).mono ?_;rintro e w2 ⟨rfl,al,k2⟩;have h2:RS w2 R A ws (aQ ws [bE cV] s).1 (aQ ws [bE cV] s).2:=al;have l2:=l1.kept k2 z;have g2:=g1.kept k2 l;have aa:=kt.trans k2;have E2:=hide ((aJ E1).kept k2 D);clear h1 al l1 g1 kt k2 E1
 go_wp2_with fail
 refine (Jm R A ws _ _ w2 h2 (aJ E2)).mono ?_;rintro e w3 ⟨rfl,aj,k3⟩;have h3:RS w3 R A ws (aQ ws [bE cV,aB.cM] s).1 (aQ ws [bE cV,aB.cM] s).2:=aj;have l3:=l2.kept k3 z;have g3:=g2.kept k3 l;have a4:=aa.trans k3;have E3:=hide ((aJ E2).kept k3 D);clear h2 aj l2 g2 aa k3 E2;have p3:=l3.c 9 UT;have bh:=l3.f;have h4:=h3.other (b:=P) (o:=9) (v:=.int .i64 (bT ws (aQ ws [bE cV] s) aB.cM fS)) z C;have l4:=Pa l3 (bT ws (aQ ws [bE cV] s) aB.cM fS);have g4:=g3.other (b:=P) (o:=9) (x:=.int .i64 (bT ws (aQ ws [bE cV] s) aB.cM fS)) H.symm;have J:=a4.aO (b:=P) (o:=9) F (.int .i64 (bT ws (aQ ws [bE cV] s) aB.cM fS));have E4:=hide ((aJ S).kept J D)
 go_wp2_with fail
 refine (BC R A ws _ _ ej _ h4).mono ?_;rintro e w5 ⟨rfl,ai,k5⟩;have h5:RS w5 R A ws (aQ ws [bE cV,aB.cM,bE ej] s).1 (aQ ws [bE cV,aB.cM,bE ej] s).2:=ai;have l5:=l4.kept k5 z;have g5:=g4.kept k5 l;have V:=J.trans k5;have E5:=hide ((aJ E4).kept k5 D);clear h4 ai l4 g4 J k5 E4
 go_wp2_with fail
 refine (Ur R A ws _ _ w5 h5).mono ?_;rintro e w6 ⟨rfl,ag,k6⟩;have h6:RS w6 R A ws (aQ ws [bE cV,aB.cM,bE ej,aB.dA] s).1 (aQ ws [bE cV,aB.cM,bE ej,aB.dA] s).2:=ag;have l6:=l5.kept k6 z;have g6:=g5.kept k6 l;have a3:=V.trans k6;have E6:=hide ((aJ E5).kept k6 D);clear h5 ag l5 g5 V k6 E5;have p6:=l6.c 10 UT;have bg:=l6.f;have h7:=h6.other (b:=P) (o:=10) (v:=.int .i64 (bT ws (aQ ws [bE cV,aB.cM,bE ej] s) aB.dA aB.fl)) z C;have l7:=PM l6 (bT ws (aQ ws [bE cV,aB.cM,bE ej] s) aB.dA aB.fl);have g7:=g6.other (b:=P) (o:=10) (x:=.int .i64 (bT ws (aQ ws [bE cV,aB.cM,bE ej] s) aB.dA aB.fl)) H.symm;have I:=a3.aO (b:=P) (o:=10) F (.int .i64 (bT ws (aQ ws [bE cV,aB.cM,bE ej] s) aB.dA aB.fl));have E7:=hide ((aJ S).kept I D)
 go_wp2_with fail
 refine (BC R A ws _ _ fQ _ h7).mono ?_;rintro e w8 ⟨rfl,af,k8⟩;have h8:RS w8 R A ws (aQ ws [bE cV,aB.cM,bE ej,aB.dA,bE fQ] s).1 (aQ ws [bE cV,aB.cM,bE ej,aB.dA,bE fQ] s).2:=af;have l8:=l7.kept k8 z;have g8:=g7.kept k8 l;have U:=I.trans k8;have E8:=hide ((aJ E7).kept k8 D);clear h7 af l7 g7 I k8 E7
 go_wp2_with fail
 refine (wg R A ws _ _ w8 h8).mono ?_;rintro e w9 ⟨rfl,ae,k9⟩;have h9:RS w9 R A ws (aQ ws [bE cV,aB.cM,bE ej,aB.dA,bE fQ,eJ] s).1 (aQ ws [bE cV,aB.cM,bE ej,aB.dA,bE fQ,eJ] s).2:=ae;have l9:=l8.kept k9 z;have g9:=g8.kept k9 l;have az:=U.trans k9;have E9:=hide ((aJ E8).kept k9 D);clear h8 ae l8 g8 U k9 E8;have p9:=l9.c 11 UT;have bf:=l9.f;have an:=h9.other (b:=P) (o:=11) (v:=.int .i64 (bT ws (aQ ws [bE cV,aB.cM,bE ej,aB.dA,bE fQ] s) eJ cL)) z C;have T:=PN l9 (bT ws (aQ ws [bE cV,aB.cM,bE ej,aB.dA,bE fQ] s) eJ cL);have ao:=g9.other (b:=P) (o:=11) (x:=.int .i64 (bT ws (aQ ws [bE cV,aB.cM,bE ej,aB.dA,bE fQ] s) eJ cL)) H.symm;have E:=az.aO (b:=P) (o:=11) F (.int .i64 (bT ws (aQ ws [bE cV,aB.cM,bE ej,aB.dA,bE fQ] s) eJ cL));have au:=hide ((aJ S).kept E D)
 go_wp2_with fail
 refine (PI R A P ws (mC ws s) _ pc ev acc _ _ _ an (aJ au) D z C T).mono ?_;rintro e g ⟨ti,un,s',rfl,ab,ak,n,K⟩;have q:=ao.fY K l H;have W:=jx.one E K F;have ar:=hide ab;clear an T ao E K au ab;obtain⟨fr,N⟩:∃ fr,fr=bT ws (aQ ws [bE cV] s) aB.cM fS:=⟨_,rfl⟩;obtain⟨mn,L⟩:∃ mn,mn=bT ws (aQ ws [bE cV,aB.cM,bE ej] s) aB.dA aB.fl:=⟨_,rfl⟩;obtain⟨mi,M⟩:∃ mi,mi=bT ws (aQ ws [bE cV,aB.cM,bE ej,aB.dA,bE fQ] s) eJ cL:=⟨_,rfl⟩;rw[<- N,<- L,<- M] at n
 have a5:Hid (kl ws st pc ev acc fr mn mi ti un s'):=by
  show kl ws st pc ev acc fr mn mi ti un s';rw[N,L,M];exact .mk pc ev acc s ti un s' aq.out ar.out
 clear N L M aq ar;have q0:g.cell? ⟨P,0,Vc⟩=Vd (.int .i64 pc):=n.c 0 UT;have q1:g.cell? ⟨P,1,Vc⟩=Vd (.int .i64 ev):=n.c 1 UT;have q2:g.cell? ⟨P,2,Vc⟩=Vd (.bool (aI acc 0)):=n.c 2 UT;have q3:g.cell? ⟨P,3,Vc⟩=Vd (.bool (aI acc 1)):=n.c 3 UT;have q4:g.cell? ⟨P,4,Vc⟩=Vd (.bool (aI acc 2)):=n.c 4 UT;have q5:g.cell? ⟨P,5,Vc⟩=Vd (.bool (aI acc 3)):=n.c 5 UT;have q6:g.cell? ⟨P,6,Vc⟩=Vd (.bool (aI acc 4)):=n.c 6 UT;have q7:g.cell? ⟨P,7,Vc⟩=Vd (.bool (aI acc 5)):=n.c 7 UT;have q8:g.cell? ⟨P,8,Vc⟩=Vd (.bool (aI acc 6)):=n.c 8 UT;have q9:g.cell? ⟨P,9,Vc⟩=Vd (.int .i64 fr):=n.c 9 UT;have bc:g.cell? ⟨P,10,Vc⟩=Vd (.int .i64 mn):=n.c 10 UT;have ba:g.cell? ⟨P,11,Vc⟩=Vd (.int .i64 mi):=n.c 11 UT;have a9:g.cell? ⟨P,12,Vc⟩=Vd (.int .i64 ti):=n.c 12 UT;have a8:g.cell? ⟨P,13,Vc⟩=Vd (.int .i64 un):=n.c 13 UT;have r0:g.cell? ⟨G,0,Vc⟩=Vd (.int .i64 0):=q.c 0 UT;have r1:g.cell? ⟨G,1,Vc⟩=Vd (.int .i64 0):=q.c 1 UT;have r2:g.cell? ⟨G,2,Vc⟩=Vd (.bool Ve):=q.c 2 UT;have r3:g.cell? ⟨G,3,Vc⟩=Vd (.bool Ve):=q.c 3 UT;have r4:g.cell? ⟨G,4,Vc⟩=Vd (.bool Ve):=q.c 4 UT;have r5:g.cell? ⟨G,5,Vc⟩=Vd (.bool Ve):=q.c 5 UT;have r6:g.cell? ⟨G,6,Vc⟩=Vd (.bool Ve):=q.c 6 UT;have r7:g.cell? ⟨G,7,Vc⟩=Vd (.bool Ve):=q.c 7 UT;have r8:g.cell? ⟨G,8,Vc⟩=Vd (.bool Ve):=q.c 8 UT;have r9:g.cell? ⟨G,9,Vc⟩=Vd (.int .i64 0):=q.c 9 UT;have ay:g.cell? ⟨G,10,Vc⟩=Vd (.int .i64 0):=q.c 10 UT;have ax:g.cell? ⟨G,11,Vc⟩=Vd (.int .i64 0):=q.c 11 UT;have aw:g.cell? ⟨G,12,Vc⟩=Vd (.int .i64 0):=q.c 12 UT;have av:g.cell? ⟨G,13,Vc⟩=Vd (.int .i64 0):=q.c 13 UT;have rf:=q.f;have a6:=hide ak;clear ak n q;go_wp2;refine bodyPost_ret (v:=tF pc ev acc fr mn mi ti un) (by simp[results,results87,go_sem,tF,r0,r1,r2,r3,r4,r5,r6,r7,r8,r9,ay,ax,aw,av]) rfl ⟨pc,ev,acc,fr,mn,mi,ti,un,s',rfl,a5.out,?_,?_⟩
 ·exact (((((((((((((((aJ a6).other l t).other l t).other l t).other l t).other l t).other l t).other l t).other l t).other l t).other l t).other l t).other l t).other l t).other l t)
 ·exact ((((((((((((((W.aO y _).aO y _).aO y _).aO y _).aO y _).aO y _).aO y _).aO y _).aO y _).aO y _).aO y _).aO y _).aO y _).aO y _)
def kv:U3:=⟨#[116,104,105,110,103]⟩
def kn:U3:=⟨#[98,111,111,107]⟩
def qC:U3:=⟨#[104,111,108,100]⟩
def qF:U3:=⟨#[119,97,105,116]⟩
def ib:U3:=⟨#[115,101,114,105,101,115]⟩
def qT:U3:=⟨#[99,111,110,102,105,114,109]⟩
def kr:U3:=⟨#[99,97,110,99,101,108]⟩
def dY:U3:=⟨#[108,105,115,116]⟩
def qO:U3:=⟨#[119,97,105,116,105,110,103]⟩
def km:U3:=⟨#[112,101,97,107]⟩
def ki:U3:=⟨#[102,105,110,100]⟩
def iY:U3:=⟨#[101,120,112,97,110,100]⟩
def qE:U3:=⟨#[116,105,99,107]⟩
def kL:U3:=⟨#[99,108,111,99,107]⟩
def oh(s:U3):U6:=aB.isNum s.data.toList
inductive gJ (ws:U4 U3):Vh->U7 × U6->Prop where
 |aT (h:bD ws 0 Ve kv=Vf):gJ ws (.iface 149 (.agg #[.string (gU ws (1,Ve)),.int .i64 (bT ws (aQ ws [bI] (1,Ve)) dE cL)])) (aQ ws [bI,dE] (1,Ve))
 |book (h:bD ws 0 Ve kn=Vf):gJ ws (.iface 154 (.agg #[.string (gU ws (1,Ve)),.int .i64 (bT ws (aQ ws [bI] (1,Ve)) dE cL),.int .i64 (bT ws (aQ ws [bI,dE] (1,Ve)) bB dL),.int .i64 (bT ws (aQ ws [bI,dE,bB] (1,Ve)) bB dL)])) (aQ ws [bI,dE,bB,bB] (1,Ve))
 |hold (h:bD ws 0 Ve qC=Vf):gJ ws (.iface 156 (.agg #[.string (gU ws (1,Ve)),.int .i64 (bT ws (aQ ws [bI] (1,Ve)) dE cL),.int .i64 (bT ws (aQ ws [bI,dE] (1,Ve)) bB dL),.int .i64 (bT ws (aQ ws [bI,dE,bB] (1,Ve)) bB dL),.int .i64 (bT ws (aQ ws [bI,dE,bB,bB] (1,Ve)) eJ cL)])) (aQ ws [bI,dE,bB,bB,eJ] (1,Ve))
 |wait (h:bD ws 0 Ve qF=Vf):gJ ws (.iface 157 (.agg #[.string (gU ws (1,Ve)),.int .i64 (bT ws (aQ ws [bI] (1,Ve)) dE cL),.int .i64 (bT ws (aQ ws [bI,dE] (1,Ve)) bB dL),.int .i64 (bT ws (aQ ws [bI,dE,bB] (1,Ve)) bB dL),.int .i64 (bT ws (aQ ws [bI,dE,bB,bB] (1,Ve)) eJ cL)])) (aQ ws [bI,dE,bB,bB,eJ] (1,Ve))
 |series (h:bD ws 0 Ve ib=Vf) (pc ev:U8) (acc:U4 U8) (fr mn mi ti un:U8) (s:U7 × U6) (hr:kl ws (aQ ws [bI,dE] (1,Ve)) pc ev acc fr mn mi ti un s):gJ ws (.iface 165 (.agg #[.string (gU ws (1,Ve)),.int .i64 (bT ws (aQ ws [bI] (1,Ve)) dE cL),.int .i64 pc,.int .i64 ev,.bool (aI acc 0),.bool (aI acc 1),.bool (aI acc 2),.bool (aI acc 3),.bool (aI acc 4),.bool (aI acc 5),.bool (aI acc 6),.int .i64 fr,.int .i64 mn,.int .i64 mi,.int .i64 ti,.int .i64 un])) s
 |confirm (h:bD ws 0 Ve qT=Vf):gJ ws (.iface 167 (.agg #[.int .i64 (bT ws (1,Ve) oh cL)])) (aQ ws [oh] (1,Ve))
 |cancel (h:bD ws 0 Ve kr=Vf):gJ ws (.iface 168 (.agg #[.int .i64 (bT ws (1,Ve) oh cL)])) (aQ ws [oh] (1,Ve))
 |list0 (h:bD ws 0 Ve dY=Vf) (hm:cB ws.length (aQ ws [bI] (1,Ve)).1 (aQ ws [bI] (1,Ve)).2=Ve):gJ ws (.iface 170 (.agg #[.string (gU ws (1,Ve)),.bool Ve,.int .i64 0,.int .i64 0])) (aQ ws [bI] (1,Ve))
 |list1 (h:bD ws 0 Ve dY=Vf) (hm:cB ws.length (aQ ws [bI] (1,Ve)).1 (aQ ws [bI] (1,Ve)).2=Vf):gJ ws (.iface 170 (.agg #[.string (gU ws (1,Ve)),.bool Vf,.int .i64 (bT ws (aQ ws [bI] (1,Ve)) bB dL),.int .i64 (bT ws (aQ ws [bI,bB] (1,Ve)) bB dL)])) (aQ ws [bI,bB,bB] (1,Ve))
 |waiting (h:bD ws 0 Ve qO=Vf):gJ ws (.iface 173 (.agg #[])) (1,Ve)
 |cY (h:bD ws 0 Ve km=Vf):gJ ws (.iface 176 (.agg #[.string (gU ws (1,Ve)),.int .i64 (bT ws (aQ ws [bI] (1,Ve)) bB dL),.int .i64 (bT ws (aQ ws [bI,bB] (1,Ve)) bB dL)])) (aQ ws [bI,bB,bB] (1,Ve))
 |find (h:bD ws 0 Ve ki=Vf):gJ ws (.iface 178 (.agg #[.string (gU ws (1,Ve)),.int .i64 (bT ws (aQ ws [bI] (1,Ve)) dE cL),.int .i64 (bT ws (aQ ws [bI,dE] (1,Ve)) eJ cL),.int .i64 (bT ws (aQ ws [bI,dE,eJ] (1,Ve)) bB dL),.int .i64 (bT ws (aQ ws [bI,dE,eJ,bB] (1,Ve)) bB dL)])) (aQ ws [bI,dE,eJ,bB,bB] (1,Ve))
 |expand (h:bD ws 0 Ve iY=Vf) (pc ev:U8) (acc:U4 U8) (fr mn mi ti un:U8) (s:U7 × U6) (hr:kl ws (1,Ve) pc ev acc fr mn mi ti un s):gJ ws (.iface 180 (.agg #[.int .i64 pc,.int .i64 ev,.bool (aI acc 0),.bool (aI acc 1),.bool (aI acc 2),.bool (aI acc 3),.bool (aI acc 4),.bool (aI acc 5),.bool (aI acc 6),.int .i64 fr,.int .i64 mn,.int .i64 mi,.int .i64 ti,.int .i64 un])) s
 |tick (h:bD ws 0 Ve qE=Vf):gJ ws (.iface 182 (.agg #[.int .i64 (bT ws (1,Ve) eJ cL)])) (aQ ws [eJ] (1,Ve))
 |clock (h:bD ws 0 Ve kL=Vf):gJ ws (.iface 183 (.agg #[])) (1,Ve)
 |none (h0:bD ws 0 Ve kv=Ve) (h1:bD ws 0 Ve kn=Ve) (h2:bD ws 0 Ve qC=Ve) (h3:bD ws 0 Ve qF=Ve) (h4:bD ws 0 Ve ib=Ve) (h5:bD ws 0 Ve qT=Ve) (h6:bD ws 0 Ve kr=Ve) (h7:bD ws 0 Ve dY=Ve) (h8:bD ws 0 Ve qO=Ve) (h9:bD ws 0 Ve km=Ve) (h10:bD ws 0 Ve ki=Ve) (h11:bD ws 0 Ve iY=Ve) (h12:bD ws 0 Ve qE=Ve) (h13:bD ws 0 Ve kL=Ve):gJ ws .nilIface (0,Vf)
theorem MT(R A:U7)(ws:U4 U3)(w:Vg)(h:RS w R A ws 0 Ve)(he:Env w)(f:10<=R)(hP:bD ws 0 Ve ib=Vf\/bD ws 0 Ve iY=Vf->Dm ws):
  Vj prog 62 #[.pointer (Vd ⟨R,0,Vc⟩)] w fun e w' =>
   ∃ (v:Vh) (s:U7 × U6),e=.returned v/\gJ ws v s/\RS w' R A ws s.1 s.2/\Kept R w w':=by
 have x:=hide he;have bs:=hide hP;clear he hP;have k0:=Kept.refl R w;have h0:=h;clear h
 go_in
 go_wp2_with fail
 refine (iI R A ws 0 Ve kv w h0).mono ?_;rintro e w1 ⟨rfl,h1,c⟩;have k1:=k0.trans c;clear c k0 h0;rcases Y7 (bD ws 0 Ve kv) with V|V
 ·rw[V,Va rfl] at h1;have E1:=hide ((aJ x).kept k1 f)
  go_wp2_with fail
  refine (sP R A ws _ _ w1 h1).mono ?_;rintro e cg ⟨rfl,bj,c⟩;have a7:=k1.trans c;have b4:=hide ((aJ E1).kept c f);clear c k1 h1 E1
  go_wp2_with fail
  refine (yg R A ws _ _ cg bj).mono ?_;rintro e dv ⟨rfl,cw,c⟩;have cp:=a7.trans c;have d5:=hide ((aJ b4).kept c f);clear c a7 bj b4;have g:=hide cp;have j:=hide cw;go_wp2;go_ret;exact⟨_,(aQ ws [bI,dE] (1,Ve)),rfl,.aT V,j.out,g.out⟩
 rw[V] at h1 ⊢
 go_wp2_with fail
 refine (iI R A ws 0 Ve kn w1 h1).mono ?_;rintro e w2 ⟨rfl,h2,c⟩;have k2:=k1.trans c;clear c k1 h1;rcases Y7 (bD ws 0 Ve kn) with U|U
 ·rw[U,Va rfl] at h2;have E2:=hide ((aJ x).kept k2 f)
  go_wp2_with fail
  refine (Cd R A ws (1,Ve) w2 h2 (aJ E2) f).mono ?_;rintro e du ⟨rfl,cv,c⟩;have cn:=k2.trans c;have d4:=hide ((aJ E2).kept c f);clear c k2 h2 E2;have g:=hide cn;have j:=hide cv;go_wp2;go_ret;exact⟨_,(aQ ws [bI,dE,bB,bB] (1,Ve)),rfl,.book U,j.out,g.out⟩
 rw[U] at h2 ⊢
 go_wp2_with fail
 refine (iI R A ws 0 Ve qC w2 h2).mono ?_;rintro e w3 ⟨rfl,h3,c⟩;have k3:=k2.trans c;clear c k2 h2;rcases Y7 (bD ws 0 Ve qC) with T|T
 ·rw[T,Va rfl] at h3;have E3:=hide ((aJ x).kept k3 f)
  go_wp2_with fail
  refine (Cd R A ws (1,Ve) w3 h3 (aJ E3) f).mono ?_;rintro e cf ⟨rfl,bi,c⟩;have a6:=k3.trans c;have bz:=hide ((aJ E3).kept c f);clear c k3 h3 E3
  go_wp2_with fail
  refine (wg R A ws _ _ cf bi).mono ?_;rintro e dr ⟨rfl,cu,c⟩;have cm:=a6.trans c;have d2:=hide ((aJ bz).kept c f);clear c a6 bi bz;have g:=hide cm;have j:=hide cu;go_wp2;go_ret;exact⟨_,(aQ ws [bI,dE,bB,bB,eJ] (1,Ve)),rfl,.hold T,j.out,g.out⟩
 rw[T] at h3 ⊢
 go_wp2_with fail
 refine (iI R A ws 0 Ve qF w3 h3).mono ?_;rintro e w4 ⟨rfl,h4,c⟩;have k4:=k3.trans c;clear c k3 h3;rcases Y7 (bD ws 0 Ve qF) with S|S
 ·rw[S,Va rfl] at h4;have E4:=hide ((aJ x).kept k4 f)
  go_wp2_with fail
  refine (Cd R A ws (1,Ve) w4 h4 (aJ E4) f).mono ?_;rintro e cd ⟨rfl,bh,c⟩;have a5:=k4.trans c;have bv:=hide ((aJ E4).kept c f);clear c k4 h4 E4
  go_wp2_with fail
  refine (wg R A ws _ _ cd bh).mono ?_;rintro e dq ⟨rfl,ct,c⟩;have cl:=a5.trans c;have d1:=hide ((aJ bv).kept c f);clear c a5 bh bv;have g:=hide cl;have j:=hide ct;go_wp2;go_ret;exact⟨_,(aQ ws [bI,dE,bB,bB,eJ] (1,Ve)),rfl,.wait S,j.out,g.out⟩
 rw[S] at h4 ⊢
 go_wp2_with fail
 refine (iI R A ws 0 Ve ib w4 h4).mono ?_;rintro e w5 ⟨rfl,h5,c⟩;have k5:=k4.trans c;clear c k4 h4;rcases Y7 (bD ws 0 Ve ib) with z|z
 ·rw[z,Va rfl] at h5;have E5:=hide ((aJ x).kept k5 f)
  go_wp2_with fail
  refine (sP R A ws _ _ w5 h5).mono ?_;rintro e cc ⟨rfl,bg,c⟩;have a4:=k5.trans c;have bu:=hide ((aJ E5).kept c f);clear c k5 h5 E5
  go_wp2_with fail
  refine (yg R A ws _ _ cc bg).mono ?_;rintro e ca ⟨rfl,bf,c⟩;have a3:=a4.trans c;have an:=hide ((aJ bu).kept c f);clear c a4 bg bu
  go_wp2_with fail
  refine (aJ bs (.inl z) R A (aQ ws [bI,dE] (1,Ve)) ca bf (aJ an) f).mono ?_;rintro e dp ⟨pc,ev,acc,fr,mn,mi,ti,un,s,rfl,hr,cs,c⟩;have HR:=hide hr;clear hr;simp only[tF];have ck:=a3.trans c;have d0:=hide ((aJ an).kept c f);clear c a3 bf an;have g:=hide ck;have j:=hide cs;go_wp2;go_ret;exact⟨_,s,rfl,.series z pc ev acc fr mn mi ti un s HR.out,j.out,g.out⟩
 rw[z] at h5 ⊢
 go_wp2_with fail
 refine (iI R A ws 0 Ve qT w5 h5).mono ?_;rintro e w6 ⟨rfl,h6,c⟩;have k6:=k5.trans c;clear c k5 h5;rcases Y7 (bD ws 0 Ve qT) with O|O
 ·rw[O,Va rfl] at h6;have E6:=hide ((aJ x).kept k6 f)
  go_wp2_with fail
  refine (Gd R A ws _ _ w6 h6).mono ?_;rintro e dn ⟨rfl,cr,c⟩;have cj:=k6.trans c;have dz:=hide ((aJ E6).kept c f);clear c k6 h6 E6;have g:=hide cj;have j:=hide cr;go_wp2;go_ret;exact⟨_,(aQ ws [oh] (1,Ve)),rfl,.confirm O,j.out,g.out⟩
 rw[O] at h6 ⊢
 go_wp2_with fail
 refine (iI R A ws 0 Ve kr w6 h6).mono ?_;rintro e w7 ⟨rfl,h7,c⟩;have k7:=k6.trans c;clear c k6 h6;rcases Y7 (bD ws 0 Ve kr) with N|N
 ·rw[N,Va rfl] at h7;have E7:=hide ((aJ x).kept k7 f)
  go_wp2_with fail
  refine (Gd R A ws _ _ w7 h7).mono ?_;rintro e dm ⟨rfl,cq,c⟩;have ch:=k7.trans c;have dy:=hide ((aJ E7).kept c f);clear c k7 h7 E7;have g:=hide ch;have j:=hide cq;go_wp2;go_ret;exact⟨_,(aQ ws [oh] (1,Ve)),rfl,.cancel N,j.out,g.out⟩
 rw[N] at h7 ⊢
 go_wp2_with fail
 refine (iI R A ws 0 Ve dY w7 h7).mono ?_;rintro e w8 ⟨rfl,h8,c⟩;have k8:=k7.trans c;clear c k7 h7;rcases Y7 (bD ws 0 Ve dY) with y|y
 ·rw[y,Va rfl] at h8;have E8:=hide ((aJ x).kept k8 f)
  cases hm:cB ws.length (aQ ws [bI] (1,Ve)).1 (aQ ws [bI] (1,Ve)).2
  ·go_wp2_with fail
   refine (Rt R A ws (1,Ve) w8 h8 hm).mono ?_;rintro e wz ⟨rfl,hz,kz⟩;have g:=hide (k8.trans kz);have j:=hide hz;have HM:=hide hm;clear hz kz hm k8 h8;go_wp2;go_ret;exact⟨_,(aQ ws [bI] (1,Ve)),rfl,.list0 y HM.out,j.out,g.out⟩
  ·go_wp2_with fail
   refine (Su R A ws (1,Ve) w8 h8 (aJ E8) f hm).mono ?_;rintro e wz ⟨rfl,hz,kz⟩;have g:=hide (k8.trans kz);have j:=hide hz;have HM:=hide hm;clear hz kz hm k8 h8;go_wp2;go_ret;exact⟨_,(aQ ws [bI,bB,bB] (1,Ve)),rfl,.list1 y HM.out,j.out,g.out⟩
 rw[y] at h8 ⊢
 go_wp2_with fail
 refine (iI R A ws 0 Ve qO w8 h8).mono ?_;rintro e w9 ⟨rfl,h9,c⟩;have k9:=k8.trans c;clear c k8 h8;rcases Y7 (bD ws 0 Ve qO) with M|M
 ·rw[M,Va rfl] at h9;have E9:=hide ((aJ x).kept k9 f);have g:=hide k9;have j:=hide h9;go_wp2;go_ret;exact⟨_,(1,Ve),rfl,.waiting M,j.out,g.out⟩
 rw[M] at h9 ⊢
 go_wp2_with fail
 refine (iI R A ws 0 Ve km w9 h9).mono ?_;rintro e az ⟨rfl,G,c⟩;have K:=k9.trans c;clear c k9 h9;rcases Y7 (bD ws 0 Ve km) with L|L
 ·rw[L,Va rfl] at G;have b9:=hide ((aJ x).kept K f)
  go_wp2_with fail
  refine (sP R A ws _ _ az G).mono ?_;rintro e ay ⟨rfl,ai,c⟩;have ad:=K.trans c;have X:=hide ((aJ b9).kept c f);clear c K G b9
  go_wp2_with fail
  refine (ye R A ws _ _ ay ai (aJ X) f).mono ?_;rintro e c8 ⟨rfl,bq,c⟩;have bc:=ad.trans c;have di:=hide ((aJ X).kept c f);clear c ad ai X;have g:=hide bc;have j:=hide bq;go_wp2;go_ret;exact⟨_,(aQ ws [bI,bB,bB] (1,Ve)),rfl,.cY L,j.out,g.out⟩
 rw[L] at G ⊢
 go_wp2_with fail
 refine (iI R A ws 0 Ve ki az G).mono ?_;rintro e ax ⟨rfl,F,c⟩;have J:=K.trans c;clear c K G;rcases Y7 (bD ws 0 Ve ki) with t|t
 ·rw[t,Va rfl] at F;have b8:=hide ((aJ x).kept J f)
  go_wp2_with fail
  refine (sP R A ws _ _ ax F).mono ?_;rintro e aw ⟨rfl,ag,c⟩;have ac:=J.trans c;have ak:=hide ((aJ b8).kept c f);clear c J F b8
  go_wp2_with fail
  refine (yg R A ws _ _ aw ag).mono ?_;rintro e av ⟨rfl,af,c⟩;have ab:=ac.trans c;have aj:=hide ((aJ ak).kept c f);clear c ac ag ak
  go_wp2_with fail
  refine (wg R A ws _ _ av af).mono ?_;rintro e au ⟨rfl,ae,c⟩;have aa:=ab.trans c;have W:=hide ((aJ aj).kept c f);clear c ab af aj
  go_wp2_with fail
  refine (ye R A ws _ _ au ae (aJ W) f).mono ?_;rintro e cz ⟨rfl,bo,c⟩;have ba:=aa.trans c;have dh:=hide ((aJ W).kept c f);clear c aa ae W;have g:=hide ba;have j:=hide bo;go_wp2;go_ret;exact⟨_,(aQ ws [bI,dE,eJ,bB,bB] (1,Ve)),rfl,.find t,j.out,g.out⟩
 rw[t] at F ⊢
 go_wp2_with fail
 refine (iI R A ws 0 Ve iY ax F).mono ?_;rintro e ar ⟨rfl,E,c⟩;have I:=J.trans c;clear c J F;rcases Y7 (bD ws 0 Ve iY) with l|l
 ·rw[l,Va rfl] at E;have ao:=hide ((aJ x).kept I f)
  go_wp2_with fail
  refine (aJ bs (.inr l) R A (1,Ve) ar E (aJ ao) f).mono ?_;rintro e cy ⟨pc,ev,acc,fr,mn,mi,ti,un,s,rfl,hr,bn,c⟩;have HR:=hide hr;clear hr;simp only[tF];have a9:=I.trans c;have db:=hide ((aJ ao).kept c f);clear c I E ao;have g:=hide a9;have j:=hide bn;go_wp2;go_ret;exact⟨_,s,rfl,.expand l pc ev acc fr mn mi ti un s HR.out,j.out,g.out⟩
 rw[l] at E ⊢
 go_wp2_with fail
 refine (iI R A ws 0 Ve qE ar E).mono ?_;rintro e aq ⟨rfl,D,c⟩;have H:=I.trans c;clear c I E;rcases Y7 (bD ws 0 Ve qE) with q|q
 ·rw[q,Va rfl] at D;have b6:=hide ((aJ x).kept H f)
  go_wp2_with fail
  refine (wg R A ws _ _ aq D).mono ?_;rintro e cx ⟨rfl,bm,c⟩;have a8:=H.trans c;have c9:=hide ((aJ b6).kept c f);clear c H D b6;have g:=hide a8;have j:=hide bm;go_wp2;go_ret;exact⟨_,(aQ ws [eJ] (1,Ve)),rfl,.tick q,j.out,g.out⟩
 rw[q] at D ⊢
 go_wp2_with fail
 refine (iI R A ws 0 Ve kL aq D).mono ?_;rintro e dw ⟨rfl,C,c⟩;have al:=H.trans c;clear c H D;rcases Y7 (bD ws 0 Ve kL) with n|n
 ·rw[n,Va rfl] at C;have d6:=hide ((aJ x).kept al f);have g:=hide al;have j:=hide C;go_wp2;go_ret;exact⟨_,(1,Ve),rfl,.clock n,j.out,g.out⟩
 rw[n] at C ⊢;have c2:=C.c2;have f2:=C.f2;go_wp2;go_ret;exact⟨_,(0,Vf),rfl,.none V U T S z O N y M L t l q n,C.bad,al.setCell _ _⟩
theorem xF(s:U3):∀ x∈aB.aP s,x.size<=s.size:=by
 intro x c;unfold aB.aP at c;simp only[Wk] at c;obtain⟨y,_,rfl⟩:=c;have:(s.extract y.1 y.2).size=min y.2 s.size-y.1:=ByteArray.size_extract ..;omega
inductive na (s:U3):Ending->Prop where
 |long (h:160<s.size):na s (.returned (.tuple #[.nilIface,.int .i64 1,.int .i64 0]))
 |bad (h:s.size<=160) (v:Vh) (st:U7 × U6) (hl:gJ (aB.aP s) v st) (hb:st.2=Vf\/cB (aB.aP s).length st.1 st.2=Vf):na s (.returned (.tuple #[.nilIface,.int .i64 2,.int .i64 st.1]))
 |qm (h:s.size<=160) (v:Vh) (st:U7 × U6) (hl:gJ (aB.aP s) v st) (h2:st.2=Ve) (hb:cB (aB.aP s).length st.1 st.2=Ve):na s (.returned (.tuple #[v,.int .i64 0,.int .i64 0]))
theorem Gj(s:U3):∀ k:U7,k<=s.size->(aB.jE s k).length+(if (aB.eG s k).size=0 then 0 else 1)<=k
 |0,_=>by
  have:=aB.qD s 0;have:=aB.xy s 0;rw[Va UT];omega
 |k+1,hk=>by
  have ih:=Gj s k UT
  by_cases g:aB.dP s k=32
  ·obtain⟨h,c⟩:=aB.xJ s k UT g;have e:(if (⟨#[]⟩:U3).size=0 then (0:U7) else 1)=0:=Va rfl;rw[h,c,e,V4]
   by_cases f:(aB.eG s k).size=0
   ·rw[Va f] at ih ⊢;simp;omega
   ·rw[U9 f] at ih ⊢;simp;omega
  ·obtain⟨_,c⟩:=aB.xx s k g;rw[c]
   split at ih <;> split <;> omega
theorem SI(s:U3):(aB.aP s).length<=s.size:=by
 have:=Gj s s.size (zq _);rw[aB.vp,V4]
 split <;> rename_i hc <;> simp[hc] at this ⊢ <;> omega
theorem Rq{j g n cap:U7}{c:U4 U3}(h:w.ownsRow j 9 1 (.slice (Vd ⟨g,0,Vc⟩) n cap) n (c.map YZ)):g<w.heap.size/\∀ (i:U7)(z:i<c.length),w.cell? ⟨g,i,Vc⟩=Vd (.string c[i]):=by
 rcases h.2 with ⟨E,_⟩|⟨J,C,t,D,G,q,H,_,F,ht⟩
 ·cases E
 ·cases D
  have l:g<w.heap.size:=by
   by_cases l:g<w.heap.size
   ·exact l
   ·rw[Array.getElem?_eq_none UT] at q;cases q
  refine⟨l,fun i z=>?_⟩;have I:=h.1;have y:(c.map YZ).length=c.length:=UU
  have f:t[i]?=Vd (.string c[i]):=by
   have x:(c.map YZ)[i]?=Vd (.string c[i]):=by simp[z]
   rw[<- ht,List.getElem?_take,Va UT] at x
   simpa using x
  simp[VK,q,f]
theorem Mx(s:U3)(w:Vg)(K:Env w)(M:bD (aB.aP s) 0 Ve ib=Vf\/bD (aB.aP s) 0 Ve iY=Vf->Dm (aB.aP s)):
  Vj prog 45 #[.string s] w fun e w'=>na s e/\Vi w.heap.size w w':=by
 have HE:=hide K;have ab:=K.size;clear K
 by_cases D:s.size<=160
 ·have I:(s.size:U8)<=160:=UT
  go_in
  go_wp2_with fail
  refine (Rc s w D).mono ?_;rintro e w1 ⟨A,rfl,hA,U,L⟩;obtain⟨aa,l⟩:=Rq U;have H:=SI s;have z:=xF s;obtain⟨ws,f⟩:∃ ws,ws=aB.aP s:=⟨_,rfl⟩;have C:=hide f;rw[<- f] at l H z M ⊢;have O:=hide M;clear f U M;have F:=hide l;have N:=hide z;clear l z
  go_wp2_with fail
  obtain⟨X,G⟩:∃ X,X=w1.alloc (.cells #[.slice (Vd ⟨A,0,Vc⟩) ws.length ws.length,.int .i64 0,.bool Ve] 123):=⟨_,rfl⟩;rw[<- G];have q:Vi w1.heap.size w1 X:=by rw[G];exact (zr _ _).alloc (zq _) _
  have E:RS X w1.heap.size A ws 0 Ve:=by
   refine⟨?_,?_,?_,?_,?_,by omega,fun i hi=>cell_later q (aJ F i hi),by omega,Nat.zero_le _,fun x hx=>Vp (aJ N x hx) D⟩ <;> (rw[G];simp)
  clear G;have W:=((aJ HE).later L).later q;have y:=L.size;refine (MT w1.heap.size A ws X E W UT (aJ O)).mono ?_;rintro e w2 ⟨v,st,rfl,V,t,k2⟩;have c1:=t.c1;have c2:=t.c2;have T:=hide V;have c:Vi w.heap.size w w2:=(L.trans (q.mono y)).trans (k2.below y (Vp y q.size));have J:=t.vd;clear V W E q;obtain⟨nx,wr⟩:=st;dsimp only at c1 c2 t J;have g:cB ws.length nx wr=Ve\/cB ws.length nx wr=Vf:=by cases cB ws.length nx wr <;> simp
  cases wr
  ·rcases g with g|g
   ·have S:=hide g
    go_wp2_with fail
    refine (il w1.heap.size A ws nx Ve w2 t).mono ?_;rintro e w3 ⟨rfl,n,j⟩;have h:Vi w.heap.size w w3:=by rw[j];exact⟨c.os,c.tape,c.output,c.size,c.block⟩
    clear j t;rw[g];go_wp2;go_ret3;have f:=C.out;subst f;exact⟨.qm D v (nx,Ve) T.out rfl S.out,h⟩
   ·have S:=hide g
    go_wp2_with fail
    refine (il w1.heap.size A ws nx Ve w2 t).mono ?_;rintro e w3 ⟨rfl,n,j⟩;have h:Vi w.heap.size w w3:=by rw[j];exact⟨c.os,c.tape,c.output,c.size,c.block⟩
    have d1:w3.cell? ⟨w1.heap.size,1,Vc⟩=Vd (.int .i64 nx):=by rw[j];exact c1
    clear j t c1 c2;rw[g];go_wp2
    go_quiet (fail)
    go_wp2;go_ret3;have f:=C.out;subst f;exact⟨.bad D v (nx,Ve) T.out (.inr S.out),⟨h.os,h.tape,h.output,h.size,h.block⟩⟩
  ·clear t g;go_wp2
   go_quiet (fail)
   go_wp2;go_ret3;have f:=C.out;subst f;exact⟨.bad D v (nx,Vf) T.out (.inl rfl),⟨c.os,c.tape,c.output,c.size,c.block⟩⟩
 ·have I:¬ (s.size:U8)<=160:=UT
  go_in
  go_wp2;go_ret3;exact⟨.long UT,Below.refl _ _⟩
theorem SQ(s:U3)(w:Vg)(c:Env w):
  Vj prog 45 #[.string s] w fun e w'=>na s e/\Vi w.heap.size w w':=Mx s w c (fun _ R A st w h c f=>T8 R A _ st w h c f)
open aA (aL St dB kept dZ cS cN gC cA bW gI ec gv nj Inv)
theorem Env.ob(h:Env w)(j:Vi 10 w wx):Env wx:=by
 obtain⟨m,t⟩:=h.tC;have c:∀ {b:U7}{o:U7}{v:Vh},b<10->w.cell? ⟨b,o,Vc⟩=Vd v->wx.cell? ⟨b,o,Vc⟩=Vd v:=fun g q=>(j.cell (p:=⟨_,_,Vc⟩) g).trans q
 have ht:=h.iK;obtain⟨I,H,G,F,E,D,C,z,y,x,n,l⟩:=ht;refine⟨⟨c UV I,c UV H,c UV G,c UV F,c UV E,c UV D,c UV C,c UV z,c UV y,c UV x,c UV n,c UV l⟩,⟨m,c UV t⟩,?_,Vp h.size j.size,c UV h.mo,c UV h.tu,c UV h.we,c UV h.th,c UV h.fr,c UV h.sa,c UV h.su⟩;have f:=h.pow;unfold Lib.TabIs YR at f ⊢;simp only[vb,YS] at f ⊢;rw[j.block 0 UV];exact f
theorem Step.ob{S:aW->Prop}(h:Step S B aM col' w w')(x:10<=B)(t:10<=w.heap.size)(l:∀ b,b<10->aM b=Vc):Vi 10 w w'/\∀ b,b<10->col' b=Vc:=by
 obtain⟨G,f,q⟩:=h.off;refine⟨⟨f.os,f.tape,f.output,f.size,fun b g=>f.block b UT (fun n=>?_)⟩,fun b g=>?_⟩
 ·rcases q b n with ⟨c,e,_⟩|⟨_,e⟩
  ·rw[l b g] at e;cases e
  ·omega
 ·cases e:col' b with
  |none=>rfl
  |some c =>
   rcases h.new b c e with j|j
   ·rw[l b g] at j;cases j
   ·omega
structure BD(w:Vg)(p d:U7)(s:St)(r:Raw)(aM:U7->U5 aW):Prop where
 pc:w.heap[p]?=Vd (.cells #[.pointer (Vd ⟨d,0,Vc⟩)] 99 (0,0))
 pn:aM p=Vc
 ds:dS w d s r aM
 env:Env w
 gl:∀ b,b<10->aM b=Vc
def lS(w:Vg)(p d:U7)(aM:U7->U5 aW)(q:St × aA.bO)(v:Vh)(w':Vg):Prop :=
 ∃ (c:Raw) (col':U7->U5 aW),BD w' p d q.1 c col'/\Step anyS w.heap.size aM col' w w'/\ku w' w.heap.size col' v q.2
def wE(t:U3):Prop:=∀ X,Env X->Vj prog 45 #[.string t] X fun e w'=>na t e/\Vi X.heap.size X w'
theorem L6(h:BD w p d s r aM)(t:U3)(c:Vh)(l:aA.fI)(M:wE t)(hr:∀ e,na t e->e=.returned (.tuple #[c,.int .i64 0,.int .i64 0]))(y:aA.ec (aA.aU s l).1)(z:aA.Inv (aA.ie s l).1)(C:(aA.aU s l).2.granted.length<=50000)
  (g:∀ X,gy X->10<=X.heap.size->dS X d s r aM->Vj prog 64 #[.pointer (Vd ⟨d,0,Vc⟩),c] X fun e w'=>∃ v,e=.returned v/\dX X d aM (aA.aU s l) v w'):
  Vj prog 21 #[.pointer (Vd ⟨p,0,Vc⟩),.string t] w fun e w'=>∃ v,e=.returned v/\lS w p d aM (aA.ie s l) v w':=by
 have L:Vi w.heap.size w (w.alloc aX):=(zr _ _).alloc (zq _) _;have hq:=cC w aX;have hs:w.heap.size<(w.alloc aX).heap.size:=UU
 have RD:=aC (M (w.alloc aX) (h.env.later L));have n:=aC (zA L (zA (Q7.of hq) (zA (h.ds.dk.none (zq _)) hs)));have HH:=aC h;have HR:=aC hr;have HD:Hid (∀ w1,Vi w.heap.size w w1->Vj prog 46 #[.pointer (Vd ⟨d,0,Vc⟩),c] w1 fun e w'=>∃ v,e=.returned v/\dX w1 d aM (aA.ie s l) v w'):=fun w1 k=>Ox ⟨h.ds.dk.later k,h.ds.of,h.ds.wl,h.ds.hl,h.ds.inv⟩ c l y C (fun X kX K=>g X (((h.env.later k).later kX).iK) (Vp (Vp h.env.size k.size) kX.size) K)
 have HI:=aC z;have f:p<w.heap.size:=(Y8.1 h.pc).1;clear h hr g L hq hs C y z;generalize aA.ie s l=q at *
 go_in
 go_upto_region 1 with fail
 change Y9 _ _ _ _ (w.alloc aX);generalize w.alloc aX=X at *
 go_upto_region 2 with (first
  |(go_at_call 45;refine RD.out.mono ?_;rintro e w1 ⟨x,E⟩;obtain rfl:=HR.out _ x))
 have BW:Hid (Vi w.heap.size w w1):=n.out.1.trans (E.mono n.out.1.size)
 have pc:w1.cell? ⟨p,0,Vc⟩=Vd (.pointer (Vd ⟨d,0,Vc⟩)):=by
  have:=(BW.out.block p f).trans HH.out.pc;simp[VK,this]
 have DD:=aC (HD.out w1 BW.out);have QX:Hid (Q7 w1 w.heap.size/\w.heap.size<w1.heap.size):=⟨n.out.2.1.later (E.block _ n.out.2.2.2),Wj n.out.2.2.2 E.size⟩;clear HD RD HR E x
 go_wp2_with fail
 refine DD.out.mono ?_;rintro e w2 ⟨v,rfl,ap⟩;obtain⟨N,at_,F,a1,W,V,U,J,I,H,G,c1,T,S,O,rfl,q7,hf⟩:=ap.up BW.out (zq _) QX.out.2 n.out.2.2.1 QX.out.1
 have HF:Hid (lS w p d aM q (bC N at_ F (.slice a1 J c1) (.slice W I T) (.slice V H S) (.slice U G O)) (cK w2 w.heap.size (.int .i64 N) (.int .i64 at_) (.int .i64 F) (.slice a1 J c1) (.slice W I T) (.slice V H S) (.slice U G O))):=by
  obtain⟨r',col',k1,k2,k3,k4,D,k6⟩:=hf (.int .i64 N) (.int .i64 at_) (.int .i64 F) (.slice a1 J c1) (.slice W I T) (.slice V H S) (.slice U G O);have j:=HH.out;obtain⟨t1,t2⟩:=D.ob j.env.size j.env.size j.gl;exact⟨r',col',⟨(D.bV f j.pn f).trans j.pc,D.cU j.pn f,⟨k1,k2,k3,k4,HI.out⟩,j.env.ob t1,t2⟩,D,k6⟩
 clear ap hf DD pc;obtain⟨q0,q1,q2,q3,q4,q5,q6,fq⟩:=q7;simp only[bC]
 go_wp2_with fail
 exact cO results21 ⟨q0,q1,q2,q3,q4,q5,q6,fq⟩ ⟨_,rfl,HF.out⟩
theorem Lw(h:BD w p d s r aM)(t:U3)(n at_:U8)(E:wE t)(J:n≠0)(H:∀ e,na t e->e=.returned (.tuple #[.nilIface,.int .i64 n,.int .i64 at_])):
  Vj prog 21 #[.pointer (Vd ⟨p,0,Vc⟩),.string t] w fun e w'=>∃ v,e=.returned v/\lS w p d aM (s,⟨n,at_,0,[],[],[],[]⟩) v w':=by
 have D:Vi w.heap.size w (w.alloc aX):=(zr _ _).alloc (zq _) _;have I:=cC w aX;have G:w.heap.size<(w.alloc aX).heap.size:=UU
 have RD:=aC (E (w.alloc aX) (h.env.later D));have z:=aC (zA D (zA (Q7.of I) (zA (h.ds.dk.none (zq _)) G)));have HH:=aC h;have K:=aC H;have y:p<w.heap.size:=(Y8.1 h.pc).1;have aa:(n != 0)=Vf:=by simpa using J
 clear h H D I G J
 go_in
 go_upto_region 1 with fail
 change Y9 _ _ _ _ (w.alloc aX);generalize w.alloc aX=X at *
 go_upto_region 2 with (first
  |(go_at_call 45;refine RD.out.mono ?_;rintro e w1 ⟨q,l⟩;obtain rfl:=K.out _ q))
 have L:Hid (Vi w.heap.size w w1):=z.out.1.trans (l.mono z.out.1.size);have QX:Hid (Q7 w1 w.heap.size):=z.out.2.1.later (l.block _ z.out.2.2.2)
 have HF:Hid (∀ a b c e f g i,lS w p d aM (s,⟨n,at_,0,[],[],[],[]⟩) (bC n at_ 0 (.slice Vc 0 0) (.slice Vc 0 0) (.slice Vc 0 0) (.slice Vc 0 0)) (cK w1 w.heap.size a b c e f g i)):=fun a b c e f g i=>by
  have j:=HH.out;have F:=lE w1 w.heap.size a b c e f g i;have nq:=j.ds.dk.none (zq w.heap.size);have st:Step anyS w.heap.size aM aM w (cK w1 w.heap.size a b c e f g i):=(Step.below L.out).trans ⟨⟨_,F,fun x C=>.inr (by have:x=w.heap.size:=YC.1 C;subst this;exact⟨nq,Vm _⟩)⟩,fun _ _ h=>h,fun _ _ h=>.inl h⟩;obtain⟨N,M⟩:=st.ob j.env.size j.env.size j.gl;exact⟨r,aM,⟨(st.bV y j.pn y).trans j.pc,j.pn,⟨(j.ds.dk.later L.out).off F (fun x C=>by have:x=w.heap.size:=YC.1 C;subst this;exact nq),j.ds.of,j.ds.wl,j.ds.hl,j.ds.inv⟩,j.env.ob N,M⟩,st,⟨_,_,_,_,[],rfl,rfl,gH.nil _ _ _,eD.nil _ _ _,eD.nil _ _ _,eD.nil _ _ _,(fun b l=>by cases l),fun b l=>by cases l⟩⟩
 clear RD K l q z;obtain⟨q0,W,V,U,T,S,O,fq⟩:=QX.out
 go_wp2_with fail
 exact cO results21 ⟨q0,W,V,U,T,S,O,fq⟩ ⟨_,rfl,HF.out _ _ _ _ _ _ _⟩
theorem pg{T:Vl}{fs:Array Field}(f:prog.underlying T=Vd (.struct fs))(c:Vl)(v:Vh)(w:Vg):(Za (.iface T v) c T Vf).run prog w=.ok (.tuple #[v,.bool Vf]) w:=by
 simp[Za,go_sem,Zb,run_underlying f]
theorem dS.pZ{s:aA.St}(h:dS w d s r aM)(o:Obj):dS ((w.alloc aX).alloc o) d s r aM/\Vi w.heap.size w ((w.alloc aX).alloc o)/\Q7 ((w.alloc aX).alloc o) w.heap.size/\aM w.heap.size=Vc/\w.heap.size<((w.alloc aX).alloc o).heap.size:=by
 have c:Vi w.heap.size w ((w.alloc aX).alloc o):=((zr _ _).alloc (zq _) _).alloc UU _;exact⟨⟨h.dk.later c,h.of,h.wl,h.hl,h.inv⟩,c,Q7.of ((Below.heap_alloc _ _ _ UU).trans (cC w aX)),h.dk.none (zq _),by simp;omega⟩
theorem dX.pV{X:Vg}{q:aA.St × aA.bO}{v:Vh}(h:dX X d aM q v w2)(k:Vi w.heap.size w X/\Q7 X w.heap.size/\aM w.heap.size=Vc/\w.heap.size<X.heap.size):
  ∃ (l at_ n:U8) (E D C z:U5 Addr) (j g f c c1 y x t:U7),v=bC l at_ n (.slice E j c1) (.slice D g y) (.slice C f x) (.slice z c t)/\Q7 w2 w.heap.size/\dX w d aM q v (cK w2 w.heap.size (.int .i64 l) (.int .i64 at_) (.int .i64 n) (.slice E j c1) (.slice D g y) (.slice C f x) (.slice z c t)):=by
 obtain⟨l,at_,n,E,D,C,z,j,g,f,c,c1,y,x,t,e,F,G⟩:=h.up k.1 (zq _) k.2.2.2 k.2.2.1 k.2.1;exact⟨l,at_,n,E,D,C,z,j,g,f,c,c1,y,x,t,e,F,G _ _ _ _ _ _ _⟩
theorem qt(t:Vl)(h:t≠149)(c:Vl)(v:Vh)(w:Vg):(Za (.iface t v) c 149 Vf).run prog w=.ok (.tuple #[.agg #[.string ⟨#[]⟩,.int .i64 0],.bool Ve]) w:=by
 simp[Za,go_sem,Zb,run_underlying underlying149,h]
theorem rZ(t:Vl)(h:t≠154)(c:Vl)(v:Vh)(w:Vg):(Za (.iface t v) c 154 Vf).run prog w=.ok (.tuple #[.agg #[.string ⟨#[]⟩,.int .i64 0,.int .i64 0,.int .i64 0],.bool Ve]) w:=by
 simp[Za,go_sem,Zb,run_underlying underlying154,h]
theorem sb(t:Vl)(h:t≠156)(c:Vl)(v:Vh)(w:Vg):(Za (.iface t v) c 156 Vf).run prog w=.ok (.tuple #[.agg #[.string ⟨#[]⟩,.int .i64 0,.int .i64 0,.int .i64 0,.int .i64 0],.bool Ve]) w:=by
 simp[Za,go_sem,Zb,run_underlying underlying156,h]
theorem rW(t:Vl)(h:t≠157)(c:Vl)(v:Vh)(w:Vg):(Za (.iface t v) c 157 Vf).run prog w=.ok (.tuple #[.agg #[.string ⟨#[]⟩,.int .i64 0,.int .i64 0,.int .i64 0,.int .i64 0],.bool Ve]) w:=by
 simp[Za,go_sem,Zb,run_underlying underlying157,h]
theorem tw(t:Vl)(h:t≠165)(c:Vl)(v:Vh)(w:Vg):(Za (.iface t v) c 165 Vf).run prog w=.ok (.tuple #[.agg #[.string ⟨#[]⟩,.int .i64 0,.int .i64 0,.int .i64 0,.bool Ve,.bool Ve,.bool Ve,.bool Ve,.bool Ve,.bool Ve,.bool Ve,.int .i64 0,.int .i64 0,.int .i64 0,.int .i64 0,.int .i64 0],.bool Ve]) w:=by
 simp[Za,go_sem,Zb,run_underlying underlying165,h]
theorem tj(t:Vl)(h:t≠167)(c:Vl)(v:Vh)(w:Vg):(Za (.iface t v) c 167 Vf).run prog w=.ok (.tuple #[.agg #[.int .i64 0],.bool Ve]) w:=by
 simp[Za,go_sem,Zb,run_underlying underlying167,h]
theorem uZ(t:Vl)(h:t≠168)(c:Vl)(v:Vh)(w:Vg):(Za (.iface t v) c 168 Vf).run prog w=.ok (.tuple #[.agg #[.int .i64 0],.bool Ve]) w:=by
 simp[Za,go_sem,Zb,run_underlying underlying168,h]
theorem wS(t:Vl)(h:t≠170)(c:Vl)(v:Vh)(w:Vg):(Za (.iface t v) c 170 Vf).run prog w=.ok (.tuple #[.agg #[.string ⟨#[]⟩,.bool Ve,.int .i64 0,.int .i64 0],.bool Ve]) w:=by
 simp[Za,go_sem,Zb,run_underlying underlying170,h]
theorem xe(t:Vl)(h:t≠173)(c:Vl)(v:Vh)(w:Vg):(Za (.iface t v) c 173 Vf).run prog w=.ok (.tuple #[.agg #[],.bool Ve]) w:=by
 simp[Za,go_sem,Zb,run_underlying underlying173,h]
theorem Aa(t:Vl)(h:t≠176)(c:Vl)(v:Vh)(w:Vg):(Za (.iface t v) c 176 Vf).run prog w=.ok (.tuple #[.agg #[.string ⟨#[]⟩,.int .i64 0,.int .i64 0],.bool Ve]) w:=by
 simp[Za,go_sem,Zb,run_underlying underlying176,h]
theorem Eh(t:Vl)(h:t≠178)(c:Vl)(v:Vh)(w:Vg):(Za (.iface t v) c 178 Vf).run prog w=.ok (.tuple #[.agg #[.string ⟨#[]⟩,.int .i64 0,.int .i64 0,.int .i64 0,.int .i64 0],.bool Ve]) w:=by
 simp[Za,go_sem,Zb,run_underlying underlying178,h]
theorem Nq(t:Vl)(h:t≠180)(c:Vl)(v:Vh)(w:Vg):(Za (.iface t v) c 180 Vf).run prog w=.ok (.tuple #[.agg #[.int .i64 0,.int .i64 0,.bool Ve,.bool Ve,.bool Ve,.bool Ve,.bool Ve,.bool Ve,.bool Ve,.int .i64 0,.int .i64 0,.int .i64 0,.int .i64 0,.int .i64 0],.bool Ve]) w:=by
 simp[Za,go_sem,Zb,run_underlying underlying180,h]
theorem MA(t:Vl)(h:t≠182)(c:Vl)(v:Vh)(w:Vg):(Za (.iface t v) c 182 Vf).run prog w=.ok (.tuple #[.agg #[.int .i64 0],.bool Ve]) w:=by
 simp[Za,go_sem,Zb,run_underlying underlying182,h]
theorem Sg(h:dS w d s r aM)(id:U8)(ae:0<=id/\id<=9999999):
  Vj prog 97 #[.pointer (Vd ⟨d,0,Vc⟩),.agg #[.int .i64 id]] w fun e w'=>∃ v,e=.returned v/\dX w d aM (aA.aU s (.cancel id)) v w':=by
 obtain⟨hX,ab,aa,_⟩:=uP w (.cells #[.int .i64 id] 168);have xi:=aZ aa 0 rfl;have l:=aC h;have K:=aC (zA hX ab);clear h hX ab aa
 go_in
 go_upto_region 1 with fail
 change Y9 _ _ _ _ ((w.alloc (.cells #[.int .i64 id] 168)).alloc aX);generalize (w.alloc (.cells #[.int .i64 id] 168)).alloc aX=X at K xi ⊢;have y:=l.out.dk.later K.out.1;obtain⟨m,f,a1,a2,a3,a4⟩:=y.me;have kk:=xR (n:=id) UT UT;have c:=(a3.block (w':=X.drew) rfl).look xH underlying138 (Pw X.drew) kk;rw[a4 id] at c;have QX:Hid (Q7 X.drew (w.heap.size+1)):=Q7.of K.out.2;have BX:Hid (Vi w.heap.size w X.drew):=K.out.1.drew
 cases I:gu r.eg id with
 |none =>
  rw[I] at c;have j:(YI 138 (.map (Vd m)) (.int .i64 id) Ve).run prog X.drew=.ok (.pointer Vc) X.drew:=c;have HD:Hid (aA.aU s (.cancel id)=(s,aA.bO.error 9)):=by have e:=UE l.out.of I;simp only[Hid,aA.aU,e]
  clear c a3 a4 I y K
  go_big_region
  clear j xi a1
  go_wp2_with fail
  refine (lH 9 X.drew).mono ?_;rintro e w1 ⟨rfl,hb⟩;have M:=aC (l.out.refuse BX.out QX.out hb HD.out);obtain⟨q0,V,U,T,S,O,N,fq⟩:=M.out.1;simp only[bC]
  go_wp2_with fail
  exact cO results97 ⟨q0,V,U,T,S,O,N,fq⟩ ⟨_,rfl,M.out.2⟩
 |some b =>
  rw[I] at c;obtain⟨g,D,rfl,rfl⟩:=Ib I;have j:(YI 138 (.map (Vd m)) (.int .i64 g.e.id) Ve).run prog X.drew=.ok (.pointer (Vd ⟨g.eb,0,Vc⟩)) X.drew:=c;have hf:=UJ l.out.of y.ni D;have ck:X.drew.cell? ⟨g.eb,1,Vc⟩=Vd (.int .i64 g.e.kind):=(y.en g D).1.k;have hd:=y.later (dM X);have HD:Hid (aA.aU s (.cancel g.e.id)=({ s with es:=kept g.e.id s.es },aA.bO.num 0)):=by simp only[Hid,aA.aU,hf]
  have hQ:w.heap.size+1<X.drew.heap.size:=Vq _ _ QX.out.q0;have J:aM (w.heap.size+1)=Vc:=l.out.dk.none UT
  by_cases H:g.e.kind=1
  ·have ad:(g.e.kind != 1)=Ve:=by simpa using H
   have LV:=aC (IZ hd l.out.of l.out.wl l.out.aS D (l.out.hl.nz y.ni D H));have ST:Hid (Step anyS w.heap.size aM aM w X.drew):=Step.below BX.out;have Q2:=QX;have t:=hQ;have q:=J;clear c a3 a4 I y K hf H hd D
   go_big_region
   clear j xi a1
   go_wp2_with fail
   refine LV.out.mono ?_;rintro e w2 ⟨rfl,r2,ac,C,z,k7,k8,E⟩;have hq:=E.bV t q t
   have M:Hid (dX w d aM (aA.aU s (.cancel g.e.id)) (bC 0 0 0 (.slice Vc 0 0) (.slice Vc 0 0) (.slice Vc 0 0) (.slice Vc 0 0)) (cK w2 (w.heap.size+1) (.int .i64 0) (.int .i64 0) (.int .i64 0) (.slice Vc 0 0) (.slice Vc 0 0) (.slice Vc 0 0) (.slice Vc 0 0))):=by
    rw[HD.out];exact vQ C z k7 k8 (ST.out.trans (E.any ST.out.size)) UT (E.cU q t) 0 0 _ _ _ _ _ _ _
   clear C z k7 k8 E LV;obtain⟨q0,V,U,T,S,O,N,fq⟩:=Q2.out.later hq
   go_wp2_with fail
   exact cO results97 ⟨q0,V,U,T,S,O,N,fq⟩ ⟨_,rfl,M.out⟩
  ·have ad:(g.e.kind != 1)=Vf:=by simpa using H
   have F:r.hl.length<=1000:=by
    have h1:=l.out.hl.len;have h2:r.eg.length=s.es.length:=by rw[<- l.out.of.es];simp
    have h3:=ma l.out.aS;omega
   have DR:=aC (fun wx (k:Vi X.drew.heap.size X.drew wx)=>Hx (hd.later k) l.out.hl.1 F g.e.bY g.e.id ⟨_,l.out.hl.has D H,rfl,rfl⟩);have c0:X.drew.cell? ⟨g.eb,0,Vc⟩=Vd (.int .i64 g.e.id):=(y.en g D).1.en.c0;have c5:X.drew.cell? ⟨g.eb,5,Vc⟩=Vd (.int .i64 g.e.bY):=(y.en g D).1.u;have L:=aC (zA D (zA H y.ni));clear c a3 a4 I y K hf H hd D F
   go_big_region
   clear j xi a1
   go_upto_region 5 with fail
   generalize hW:X.drew=W at *
   go_region_held3 (fun w'=>w'.cell? ⟨g.eb,0,Vc⟩=Vd (.int .i64 g.e.id)/\w'.cell? ⟨g.eb,5,Vc⟩=Vd (.int .i64 g.e.bY))
    (first
     |exact⟨c0,c5⟩
     |exact⟨((C.en g L.out.1).1).en.c0,((C.en g L.out.1).1).u⟩)
    (first
     |(go_at_call 149;refine (DR.out _ (dM W)).mono ?_;rintro e w4 ⟨rfl,x,l',G,k1,k2,k3,k4,C,z⟩))
   have LV:=aC (IZ C (s:=s) ⟨l.out.of.now,l.out.of.given,l.out.of.ts,l.out.of.es,l.out.of.th,l.out.of.tb⟩ l.out.wl l.out.aS L.out.1 (l.out.hl.goes L.out.2.2 L.out.1 L.out.2.1 k2 k3 k4));have ST:Hid (Step anyS w.heap.size aM G w w4):=(Step.below BX.out).trans ((Step.below (dM W)).trans (z.any BX.out.size));have Q2:Hid (Q7 w4 (w.heap.size+1)):=QX.out.later (z.bV (b:=w.heap.size+1) hQ J hQ);have t:w.heap.size+1<w4.heap.size:=Vq _ _ Q2.out.q0;have q:G (w.heap.size+1)=Vc:=z.cU J hQ;clear k1 k2 k3 k4 C z DR c0 c5 ck hW
   go_wp2_with fail
   refine LV.out.mono ?_;rintro e w2 ⟨rfl,r2,ac,C,z,k7,k8,E⟩;have hq:=E.bV t q t
   have M:Hid (dX w d aM (aA.aU s (.cancel g.e.id)) (bC 0 0 0 (.slice Vc 0 0) (.slice Vc 0 0) (.slice Vc 0 0) (.slice Vc 0 0)) (cK w2 (w.heap.size+1) (.int .i64 0) (.int .i64 0) (.int .i64 0) (.slice Vc 0 0) (.slice Vc 0 0) (.slice Vc 0 0) (.slice Vc 0 0))):=by
    rw[HD.out];exact vQ C z k7 k8 (ST.out.trans (E.any ST.out.size)) UT (E.cU q t) 0 0 _ _ _ _ _ _ _
   clear C z k7 k8 E LV;obtain⟨q0,V,U,T,S,O,N,fq⟩:=Q2.out.later hq
   go_wp2_with fail
   exact cO results97 ⟨q0,V,U,T,S,O,N,fq⟩ ⟨_,rfl,M.out⟩
def ik(s:St)(e:aL):St × aA.bO :=
 if s.given=60\/e.kind=3/\aA.eh s.es=6 then (s,.error 5)
 else if e.kind≠3/\aA.dG s.ts s.es e.aT e.aH e.aK=Ve then (s,.error 8)
 else aA.jy s e
def lF(w:Vg)(B:U7)(d:U7)(aM:U7->U5 aW)(q:St × aA.bO)(v:Vh)(w':Vg):Prop :=
 ∃ (f n:U8) (c:Raw) (col':U7->U5 aW),v=bC f 0 n (.slice Vc 0 0) (.slice Vc 0 0) (.slice Vc 0 0) (.slice Vc 0 0)/\q.2=⟨f,0,n,[],[],[],[]⟩/\DK w' d c col'/\Of q.1 c/\Wl c/\Hl c/\Step anyS B aM col' w w'
theorem sI{t:St}{j:Raw}(G:DK Z d j col')(F:Of t j)(E:Wl j)(D:Hl j)(C:Step anyS B aM col' w Z)(z:B<=Q)(y:col' Q=Vc)(q n:U8)(a b c e f g i:Vh):
  lF w B d aM (t,⟨q,0,n,[],[],[],[]⟩) (bC q 0 n (.slice Vc 0 0) (.slice Vc 0 0) (.slice Vc 0 0) (.slice Vc 0 0)) (cK Z Q a b c e f g i):=by
 have k:=lE Z Q a b c e f g i;have st:Step anyS B col' col' Z (cK Z Q a b c e f g i):=⟨⟨_,k,fun x l=>.inr (by have:x=Q:=YC.1 l;subst this;exact⟨y,z⟩)⟩,fun _ _ h=>h,fun _ _ h=>.inl h⟩;exact⟨q,n,j,col',rfl,rfl,G.off k (fun x l=>by have:x=Q:=YC.1 l;subst this;exact y),F,E,D,C.trans st⟩
def EG.num(g:EG)(n:U8):EG:={ g with e:={ g.e with id:=n } }
theorem gQ.num{g:EG}(h:gQ w g)(c:g.eb≠g.B)(n:U8):gQ (w.setCell ⟨g.eb,0,Vc⟩ (.int .i64 n)) (g.num n):=by
 have k:=aF.aY g.eb w 0 (.int .i64 n);have f:=h.lt;refine⟨⟨zm _ _ _ h.en.c0,(zS _ _ _ _ UU).trans h.en.c1,(zS _ _ _ _ UU).trans h.en.c2,(zS _ _ _ _ UU).trans h.en.c3,h.en.sl.off k (by simpa using Ye c),Wj h.en.lt k.size⟩,(zS _ _ _ _ UU).trans h.k,(zS _ _ _ _ UU).trans h.u,fun o=>(zF ..).trans (h.fz o),?_⟩;obtain⟨cs,e⟩:=h.bl;exact⟨_,heap_setCell_same _ _ _ _ _ _ e⟩
theorem Wl.eh(h:Wl r)(c:Of s r):aA.eh s.es=(r.wl.length:U8):=by
 unfold aA.eh;rw[h,WK,<- c.es,List.filter_map,WK];rfl
theorem Sj(h:dS w d s r aM){g:EG}(N:gQ w g)(L:B<=w.heap.size)(n:s.given=60\/g.e.kind=3/\aA.eh s.es=6):
  Vj prog 144 #[.pointer (Vd ⟨d,0,Vc⟩),.pointer (Vd ⟨g.eb,0,Vc⟩)] w fun e w'=>∃ v,e=.returned v/\lF w B d aM (ik s g.e) v w':=by
 have H:Vi w.heap.size w (w.alloc aX):=(zr _ _).alloc (zq _) _;have q:Hid (Q7 (w.alloc aX) w.heap.size):=Q7.of (cC w aX);have O:=(h.dk.later H).c1;rw[h.of.given] at O;have U:=(N.off (G:=[]) (aF.aD H) UU UU).k;have M:Hid (ik s g.e=(s,aA.bO.error 5)):=Va n;obtain⟨W,V,l,K⟩:=(h.dk.later H).wa;obtain⟨a,cap,rfl⟩:=ix l;have S:=h.wl.eh h.of;have c:=aC h;have f:=aC H;clear l K h H N
 go_in
 go_upto_region 1 with fail
 change Y9 _ _ _ _ (w.alloc aX);generalize w.alloc aX=X at *;rcases n with n|⟨n,hw⟩
 ·rw[n] at O
  go_wp2_with fail
  refine (lH 5 X).mono ?_;rintro e w1 ⟨rfl,j⟩;have F:=j.block w.heap.size (Vq _ _ q.out.q0)
  have J:Hid (lF w B d aM (ik s g.e) (bC 5 0 0 (.slice Vc 0 0) (.slice Vc 0 0) (.slice Vc 0 0) (.slice Vc 0 0)) (cK w1 w.heap.size (.int .i64 5) (.int .i64 0) (.int .i64 0) (.slice Vc 0 0) (.slice Vc 0 0) (.slice Vc 0 0) (.slice Vc 0 0))):=by
   rw[M.out];exact sI (c.out.dk.later (f.out.trans (j.mono f.out.size))) c.out.of c.out.wl c.out.hl (Step.below (f.out.trans (j.mono f.out.size))) L (c.out.dk.none (zq _)) 5 0 _ _ _ _ _ _ _
  obtain⟨E,D,C,z,y,x,t,I⟩:=q.out.later F;simp only[bC]
  go_wp2_with fail
  exact cO results144 ⟨E,D,C,z,y,x,t,I⟩ ⟨_,rfl,J.out⟩
 ·by_cases T:s.given<60
  ·rw[n] at U;rw[show r.wl.length=6 by omega] at V
   go_wp2_with fail
   refine (lH 5 X).mono ?_;rintro e w1 ⟨rfl,j⟩;have F:=j.block w.heap.size (Vq _ _ q.out.q0)
   have J:Hid (lF w B d aM (ik s g.e) (bC 5 0 0 (.slice Vc 0 0) (.slice Vc 0 0) (.slice Vc 0 0) (.slice Vc 0 0)) (cK w1 w.heap.size (.int .i64 5) (.int .i64 0) (.int .i64 0) (.slice Vc 0 0) (.slice Vc 0 0) (.slice Vc 0 0) (.slice Vc 0 0))):=by
    rw[M.out];exact sI (c.out.dk.later (f.out.trans (j.mono f.out.size))) c.out.of c.out.wl c.out.hl (Step.below (f.out.trans (j.mono f.out.size))) L (c.out.dk.none (zq _)) 5 0 _ _ _ _ _ _ _
   obtain⟨E,D,C,z,y,x,t,I⟩:=q.out.later F;simp only[bC]
   go_wp2_with fail
   exact cO results144 ⟨E,D,C,z,y,x,t,I⟩ ⟨_,rfl,J.out⟩
  ·go_wp2_with fail
   refine (lH 5 X).mono ?_;rintro e w1 ⟨rfl,j⟩;have F:=j.block w.heap.size (Vq _ _ q.out.q0)
   have J:Hid (lF w B d aM (ik s g.e) (bC 5 0 0 (.slice Vc 0 0) (.slice Vc 0 0) (.slice Vc 0 0) (.slice Vc 0 0)) (cK w1 w.heap.size (.int .i64 5) (.int .i64 0) (.int .i64 0) (.slice Vc 0 0) (.slice Vc 0 0) (.slice Vc 0 0) (.slice Vc 0 0))):=by
    rw[M.out];exact sI (c.out.dk.later (f.out.trans (j.mono f.out.size))) c.out.of c.out.wl c.out.hl (Step.below (f.out.trans (j.mono f.out.size))) L (c.out.dk.none (zq _)) 5 0 _ _ _ _ _ _ _
   obtain⟨E,D,C,z,y,x,t,I⟩:=q.out.later F;simp only[bC]
   go_wp2_with fail
   exact cO results144 ⟨E,D,C,z,y,x,t,I⟩ ⟨_,rfl,J.out⟩
theorem DK.ux(h:DK w d r aM){f:Lit->U5 U7}(t:w.cell? ⟨d,3,Zc⟩=Vd (.map (Vd m)))(z:aM m=Vd .me)(N:∀ id,f (jt id)=gu r.eg id){g:EG}(J:gQ w g)(C:aM g.eb=Zc)(M:aM g.B=Zc)(h3:B<=g.eb)(h4:B<=g.B)(V:g.eb≠g.B)(q:∀ x∈r.eg,x.e.id≠g.e.id)(p:eW prog 3 w' m n' (Go.Proofs.YtfigmlfdnickmaaGreatDoor.lf f (jt g.e.id) (Vd g.eb)) (if (f (jt g.e.id)).isSome then r.eg.length else r.eg.length+1))(l:w.grownBy w' (Vd m)):
  ∃ col',DK w' d { r with eg:=r.eg++[g] } col'/\Step (·=.me) B aM col' w w'/\∀ k,aM k=Zc->k≠g.eb->k≠g.B->col' k=Zc:=by
 have k:aF [m] w w':=⟨l.os,l.tape,l.output,l.size,fun i F U=>l.block i F (by simpa using U)⟩;have kB:Step (·=.me) B aM (gM aM [g.eb] .ent) w w':=ug k (fun x j=>.inl ⟨_,by simp at j;subst j;exact z,rfl⟩) (fun x j _=>by simp at j;omega)
 have L:gM aM [g.eb] .ent g.B=Zc:=by
  unfold gM;rw[M];simp only;rw[U9 (by simpa using Ye V)]
 have E:Step (·=.me) B (gM aM [g.eb] .ent) (gM (gM aM [g.eb] .ent) [g.B] .span) w' w':=ug (G:=[]) (aF.refl _ _) UU (fun x j _=>by simp at j;omega);have st:=kB.trans E;obtain⟨b1,b2,O,b4,D⟩:=h.base st UU;have H:gM (gM aM [g.eb] .ent) [g.B] .span g.eb=Vd .ent:=B2 (tZ UU (fun X t=>by rw[C] at t;cases t));have I:gM (gM aM [g.eb] .ent) [g.B] .span g.B=Vd .span:=tZ UU (fun X t=>by rw[L] at t;cases t);have n:g.eb≠m/\g.B≠m:=⟨fun e=>(by rw[e,z] at C;cases C),fun e=>(by rw[e,z] at M;cases M)⟩;refine⟨_,⟨b1,b2,h.rD st (D 2) UU,⟨m,lf f (jt g.e.id) (Vd g.eb),(D 3).trans t,st.gj _ _ z,?_,fun x=>?_⟩,h.rn st (D 4) UU,h.rF st (D 5) (O 5) UU,fun i F=>h.pW st i F UU,fun x j=>?_,?_,?_,O,b4,fun x c j=>?_⟩,st,fun x j T S=>?_⟩
 ·rw[N,B7 q] at p;show eW _ _ _ _ (r.eg++[g]).length _ (r.eg++[g]).length;rw[V4];exact p.tight
 ·show lf f (jt g.e.id) (Vd g.eb) (jt x)=gu (r.eg++[g]) x;rw[GY q]
  by_cases e:x=g.e.id
  ·rw[e,sN,Va rfl]
  ·rw[sR f _ (fun W=>e (GL W)),U9 e,N]
 ·rcases List.mem_append.1 j with j|j
  ·exact h.rM st UU UU x j
  ·have:x=g:=by simpa using j
   subst this;exact⟨J.off k (by simpa using n.1) (by simpa using n.2),H,I⟩
 ·show ((r.eg++[g]).map (·.eb)).Nodup;rw[Wq,VI];refine⟨h.nd,by simp,fun a K b y e=>?_⟩;obtain⟨x,j,rfl⟩:=Wk.1 K;have:=(h.en x j).2.1;simp at y;rw[e,y,C] at this;cases this
 ·show ((r.eg++[g]).map (·.e.id)).Nodup;rw[Wq,VI];refine⟨h.ni,by simp,fun a K b y e=>?_⟩;obtain⟨x,j,rfl⟩:=Wk.1 K;simp at y;exact q x j (by rw[e,y])
 ·rcases oK j with e|⟨_,e,_⟩
  ·rcases oK e with e|⟨_,e,_⟩
   ·exact zL (h.lt x c e) st.size
   ·simp at e;subst e;exact zL J.lt st.size
  ·simp at e;subst e;exact zL J.en.lt st.size
 ·cases e:gM (gM aM [g.eb] .ent) [g.B] .span x with
  |none=>rfl
  |some c =>
   rcases oK e with e|⟨_,e,_⟩
   ·rcases oK e with e|⟨_,e,_⟩
    ·rw[j] at e;cases e
    ·exact Vb (YC.1 e) T
   ·exact Vb (YC.1 e) S
theorem DK.uw(h:DK w d r aM){f:Lit->U5 U7}(D:w.cell? ⟨d,2,Zc⟩=Vd (.map (Vd m)))(I:aM m=Vd .mt)(O:∀ n,f (mE n)=jG r.tg n){t:TG}(ht:TH w t.tb t.name t.aH t.A t.T Zc Zc [] [])(L:aM t.tb=Zc)(h3:B<=t.tb)(q:∀ x∈r.tg,x.name≠t.name)(p:eW prog 9 w' m n' (Go.Proofs.YtfigmlfdnickmaaGreatDoor.lf f (mE t.name) (Vd t.tb)) (if (f (mE t.name)).isSome then r.tg.length else r.tg.length+1))(j:w.grownBy w' (Vd m)):
  ∃ col',DK w' d { r with tg:=r.tg++[t] } col'/\Step (·=.mt) B aM col' w w'/\∀ k,aM k=Zc->k≠t.tb->col' k=Zc:=by
 have k:aF [m] w w':=⟨j.os,j.tape,j.output,j.size,fun i K W=>j.block i K (by simpa using W)⟩;have st:Step (·=.mt) B aM (gM aM [t.tb] (.aT r.tg.length)) w w':=ug k (fun x g=>.inl ⟨_,by simp at g;subst g;exact I,rfl⟩) (fun x g _=>by simp at g;omega);obtain⟨b1,b2,S,b4,E⟩:=h.base st UU;have z:t.tb≠m:=fun e=>by rw[e,I] at L;cases L
 have H:gM aM [t.tb] (.aT r.tg.length) t.tb=Vd (.aT r.tg.length):=tZ UU (fun c' D=>by rw[L] at D;cases D)
 have l:jG r.tg t.name=Zc:=by
  rw[sQ];have:r.tg.find? (fun y=>aA.bW y.name t.name)=Zc:=List.find?_eq_none.2 (fun y V=>by rw[Bool.not_eq_true,pS];exact q y V);rw[this];rfl
 refine⟨_,⟨b1,b2,⟨m,lf f (mE t.name) (Vd t.tb),(E 2).trans D,st.gj _ _ I,?_,fun x=>?_⟩,h.sW st (E 3) UU,h.rn st (E 4) UU,h.rF st (E 5) (S 5) UU,fun i K=>?_,h.rM st UU UU,h.nd,h.ni,S,b4,fun x c g=>?_⟩,st,fun x g U=>?_⟩
 ·rw[O,l] at p;show eW _ _ _ _ (r.tg++[t]).length _ (r.tg++[t]).length;rw[V4];exact p.tight
 ·show lf f (mE t.name) (Vd t.tb) (mE x)=jG (r.tg++[t]) x;rw[Rj q]
  by_cases e:x=t.name
  ·rw[e,sN,Va rfl]
  ·rw[sR f _ (fun C=>e (Qg C)),U9 e,O]
 ·have J:i<r.tg.length+1:=by simpa using K
  by_cases e:i<r.tg.length
  ·have C:(r.tg++[t])[i]'(by simpa using J)=r.tg[i]:=List.getElem_append_left e;show ∃ G F N M,TH w' (r.tg++[t])[i].tb _ _ _ _ G F N M/\_;rw[C];exact h.pW st i e UU
  ·have X:i=r.tg.length:=UT
   subst X;have C:(r.tg++[t])[r.tg.length]'UU=t:=UU
   show ∃ G F N M,TH w' (r.tg++[t])[r.tg.length].tb _ _ _ _ G F N M/\_;rw[C];refine⟨Zc,Zc,[],[],ht.off k (fun x g=>by simp at g;subst g;simpa using z),fun x g=>by simp at g;subst g;exact H⟩
 ·rcases oK g with e|⟨_,e,_⟩
  ·exact zL (h.lt x c e) st.size
  ·simp at e;subst e;exact zL (ht.lt _ UU) st.size
 ·cases e:gM aM [t.tb] (.aT r.tg.length) x with
  |none=>rfl
  |some c =>
   rcases oK e with e|⟨_,e,_⟩
   ·rw[g] at e;cases e
   ·exact Vb (YC.1 e) U
structure CU(w T:Vg)(B d Q:U7)(s:St)(r:Raw)(aM:U7->U5 aW)(g:EG)(r1:Raw)(c1:U7->U5 aW):Prop where
 dk:DK T d r1 c1
 en:gQ T (g.num (s.given+1))
 ce:c1 g.eb=Vc
 cb:c1 g.B=Vc
 st:Step anyS B aM c1 w T
 q7:Q7 T Q
 qc:c1 Q=Vc
 of:Of (aA.jy s g.e).1 { r1 with given:=s.given+1,eg:=r1.eg++[g.num (s.given+1)] }
 wl:Wl { r1 with given:=s.given+1,eg:=r1.eg++[g.num (s.given+1)] }
 eg:r1.eg=r.eg
 hl:r1.hl=r.hl
def TL(w T:Vg)(B d Q:U7)(s:St)(r:Raw)(aM:U7->U5 aW)(g:EG):Prop:=∃ c c1,CU w T B d Q s r aM g c c1
structure kK(w:Vg)(B d:U7)(s:St)(r:Raw)(aM:U7->U5 aW)(g:EG)(i:U7):Prop where
 ds:dS w d s r aM
 en:gQ w g
 ce:aM g.eb=Vc
 cb:aM g.B=Vc
 be:B<=g.eb
 bb:B<=g.B
 ne:g.eb≠g.B
 hB:B<=w.heap.size
 hi:i<r.tg.length
 name:r.tg[i].name=g.e.aT
 tb:g.tb=r.tg[i].tb
 ok:gv s.now g.e
theorem kK.num{g:EG}(h:kK w B d s r aM g i)(n:U8):gv s.now (g.num n).e:=⟨h.ok.u1,h.ok.u9,h.ok.sl,h.ok.s0,h.ok.sp,h.ok.ri,h.ok.kd⟩
theorem kK.fresh{g:EG}(h:kK w B d s r aM g i):∀ x∈r.eg,x.e.id≠(g.num (s.given+1)).e.id:=fun x c e=>by
 have:=(h.ds.inv.mO _ (h.ds.of.mem c)).2;simp only[EG.num] at e;omega
structure Ax(w Y:Vg)(B d Q:U7)(s:St)(r:Raw)(aM:U7->U5 aW)(g:EG):Prop where
 dk:DK Y d r aM
 en:gQ Y (g.num (s.given+1))
 st:Step anyS B aM aM w Y
 q7:Q7 Y Q
 ql:Q<Y.heap.size
 qc:aM Q=Vc
theorem kK.oU{g:EG}(h:kK w B d s r aM g i):Ax w ((w.alloc aX).setCell ⟨g.eb,0,Vc⟩ (.int .i64 (s.given+1))) B d w.heap.size s r aM g:=by
 have f:Vi w.heap.size w (w.alloc aX):=(zr _ _).alloc (zq _) _;have l:=(h.en.off (G:=[]) (aF.aD f) UU UU);have k:=aF.aY g.eb (w.alloc aX) 0 (.int .i64 (s.given+1));have j:=h.en.lt;refine⟨(h.ds.dk.later f).off k (fun x c=>?_),l.num h.ne _,(Step.below f).trans ⟨⟨_,k,fun x c=>.inr ?_⟩,fun _ _ h=>h,fun _ _ h=>.inl h⟩,(Q7.of (cC w aX)).later (k.block _ UU UZ),Wj UU k.size,h.ds.dk.none (zq _)⟩
 ·have:x=g.eb:=YC.1 c;subst this;exact h.ce
 ·have:x=g.eb:=YC.1 c;subst this;exact⟨h.ce,h.be⟩
theorem kK.yN{g:EG}(h:kK w B d s r aM g i)(y:Ax w Y B d Q s r aM g)(l:g.e.kind≠3)(n:DK w1 d (r.cW i ((r.tg[i]'h.hi).with (bZ (r.tg[i]'h.hi).A g.e.aK g.e.aH) (gk (s.given+1) g.eb (r.tg[i]'h.hi).T g.e.aK))) c1)(f:Step (·=.aT i) Y.heap.size aM c1 Y w1):TL w w1 B d Q s r aM g:=by
 have j:=y.en.lt;have c:=y.en.en.lt;have o:=(h.ds.of.comes h.ds.inv.tn (g:=g.num (s.given+1)) h.fresh l h.ok.ri h.hi h.name h.tb (s.given+1)).1;refine⟨_,c1,n,f.uI y.en (.inr ⟨h.ce,j⟩) (.inr ⟨h.cb,c⟩),f.cU h.ce j,f.cU h.cb c,y.st.trans (f.any (Vp h.hB y.st.size)),y.q7.later (f.bV y.ql y.qc y.ql),f.cU y.qc y.ql,?_,?_,rfl,rfl⟩
 ·exact⟨o.now,o.given,o.ts,o.es,o.th,o.tb⟩
 ·exact h.ds.wl.comes (g:=g.num (s.given+1)) l
theorem kK.waits{g:EG}(h:kK w B d s r aM g i)(y:Ax w Y B d Q s r aM g)(n:g.e.kind=3)(q:DK w1 d { r with wl:=r.wl++[g.eb] } c1)(j:Step (fun c=>c=.wa\/c=.desk) Y.heap.size aM c1 Y w1):TL w w1 B d Q s r aM g:=by
 have l:=y.en.lt;have f:=y.en.en.lt;have o:=h.ds.of.lr (g:=g.num (s.given+1)) h.fresh n h.hi h.name h.tb (s.given+1);refine⟨_,c1,q,j.uI y.en (.inr ⟨h.ce,l⟩) (.inr ⟨h.cb,f⟩),j.cU h.ce l,j.cU h.cb f,y.st.trans (j.any (Vp h.hB y.st.size)),y.q7.later (j.bV y.ql y.qc y.ql),j.cU y.qc y.ql,?_,?_,rfl,rfl⟩
 ·exact⟨o.now,o.given,o.ts,o.es,o.th,o.tb⟩
 ·exact h.ds.wl.lr (g:=g.num (s.given+1)) n
structure UM(w T:Vg)(B d Q:U7)(s:St)(r:Raw)(aM:U7->U5 aW)(g:EG)(r2:Raw)(c2:U7->U5 aW):Prop where
 dk:DK T d r2 c2
 mem:g.num (s.given+1)∈r2.eg
 st:Step anyS B aM c2 w T
 q7:Q7 T Q
 ql:Q<T.heap.size
 qc:c2 Q=Vc
 of:Of (aA.jy s g.e).1 r2
 wl:Wl r2
 eg:r2.eg=r.eg++[g.num (s.given+1)]
 hl:r2.hl=r.hl
theorem CU.store{T:Vg}{g:EG}{D:Raw}(t:CU w T B d w.heap.size s r aM g D c1)(a:kK w B d s r aM g i):
  ∃ m,(T.setCell ⟨d,1,Vc⟩ (.int .i64 (s.given+1))).cell? ⟨d,3,Vc⟩=Vd (.map (Vd m))/\(T.setCell ⟨d,1,Vc⟩ (.int .i64 (s.given+1))).cell? ⟨g.eb,0,Vc⟩=Vd (.int .i64 (s.given+1)) /\
   ∃ w3,(Instr.mapUpdate 138 (.map (Vd m)) (.int .i64 (s.given+1)) (.pointer (Vd ⟨g.eb,0,Vc⟩))).run prog (T.setCell ⟨d,1,Vc⟩ (.int .i64 (s.given+1))).drew=.ok () w3/\∃ O c2,UM w w3 B d w.heap.size s r aM g O c2:=by
 obtain⟨h,c⟩:=t.dk.nm (s.given+1);have z:=t.dk.dc;have F:g.eb≠d:=fun e=>by have:=t.ce;rw[e,z] at this;cases this
 have H:g.B≠d:=fun e=>by have:=t.cb;rw[e,z] at this;cases this
 have V:=aF.aY d T 1 (.int .i64 (s.given+1));have C:gQ (T.setCell ⟨d,1,Vc⟩ (.int .i64 (s.given+1))) (g.num (s.given+1)):=t.en.off V (by simpa[EG.num] using F) (by simpa[EG.num] using H);have y:Q7 (T.setCell ⟨d,1,Vc⟩ (.int .i64 (s.given+1))) w.heap.size:=t.q7.later (c.bV (Vq _ _ t.q7.q0) t.qc (Vq _ _ t.q7.q0));have j:Step anyS B aM c1 w (T.setCell ⟨d,1,Vc⟩ (.int .i64 (s.given+1))):=t.st.trans (c.any (Vp a.hB t.st.size));generalize T.setCell ⟨d,1,Vc⟩ (.int .i64 (s.given+1))=T1 at *;obtain⟨m,f,N,M,a3,a4⟩:=h.me;have aa:=a.ds.inv.g0;have X:=a.ds.inv.g1;have U:=xR (n:=s.given+1) UT UT
 have L:D.eg.length<=60:=by
  have h2:r.eg.length=s.es.length:=by rw[<- a.ds.of.es];simp
  have h3:=ma a.ds.aS;rw[t.eg];omega
 obtain⟨w3,l,S,K⟩:=(a3.block (w':=T1.drew) rfl).jS xH underlying138 (by unfold maxLen;show D.eg.length<_;omega) U (by unfold jt;trivial) g.eb;have d1:=h.later (dM T1);have J:gQ T1.drew (g.num (s.given+1)):=C.off (G:=[]) (aF.aD (dM T1)) UU UU;obtain⟨c2,e1,e2,e3⟩:=d1.ux (g:=g.num (s.given+1)) (B:=B) N M a4 J t.ce t.cb a.be a.bb a.ne (fun x W=>a.fresh x (by rw[<- t.eg];exact W)) S K;have E:w.heap.size<T1.drew.heap.size:=Vq _ _ y.q0;have I:w.heap.size≠m:=fun e=>by have:=t.qc;rw[e,M] at this;cases this
 have hb:w3.heap[w.heap.size]?=T1.heap[w.heap.size]?:=K.block _ E (fun e=>I (Option.some.inj e));have q:=y.later hb;refine⟨m,N,C.en.c0,w3,l,_,c2,e1,List.mem_append_right _ (YC.2 rfl),(j.trans (Step.below (dM T1))).trans (e2.mono (fun _ _=>trivial) (zq _)),q,Vq _ _ q.q0,?_,t.of,t.wl,?_,t.hl⟩
 ·exact e3 _ t.qc (fun e=>by have:=a.en.lt;rw[show (g.num (s.given+1)).eb=g.eb from rfl] at e;omega) (fun e=>by have:=a.en.en.lt;rw[show (g.num (s.given+1)).B=g.B from rfl] at e;omega)
 ·show D.eg++[_]=_;rw[t.eg]
theorem Gp(h:DK w d r aM)(n:Hp.gG r.hl)(hl:r.hl.length<=900)(g:EG):
  Vj prog 198 #[.pointer (Vd ⟨d,5,Vc⟩),.int .i64 g.e.bY,.int .i64 g.e.id,.pointer (Vd ⟨g.eb,0,Vc⟩)] w fun e w'=>e=.returned (.tuple #[])/\∃ (f:U4 Hp.Hi) (col':U7->U5 aW),Hp.gG f/\f.Perm (r.hl++[kM g])/\DK w' d { r with hl:=f } col'/\Step (fun c=>c=.he\/c=.desk) w.heap.size aM col' w w':=by
 obtain⟨v,y,x⟩:=h.he;refine (Pu d 5 v r.hl (kM g) w y n hl).mono ?_;rintro e w' ⟨rfl,f,p,t,q⟩;obtain⟨col',l,j⟩:=h.heap x p;exact⟨rfl,f,col',t,q,l,j⟩
theorem Sk{g:EG}(h:kK w B d s r aM g i)(ad:s.given<60)(hk:g.e.kind≠3):
  Vj prog 144 #[.pointer (Vd ⟨d,0,Vc⟩),.pointer (Vd ⟨g.eb,0,Vc⟩)] w fun e w'=>∃ v,e=.returned v/\lF w B d aM (ik s g.e) v w':=by
 have hX:Vi w.heap.size w (w.alloc aX):=(zr _ _).alloc (zq _) _;have q:=aC h.oU;have cg:=(h.ds.dk.later hX).c1;rw[h.ds.of.given] at cg;have D:=(h.en.off (G:=[]) (aF.aD hX) UU UU);have ck:=D.k;have ci:=D.en.c0;have fi:=D.fz 0;have ct:=D.en.c1;have ae:=h.ds.inv.g0;have ab:Vo.wrap (s.given+1)=s.given+1:=cG UT UT
 have HN:Hid (r.hl.length<=900):=by
  have h1:=h.ds.hl.len;have h2:r.eg.length=s.es.length:=by rw[<- h.ds.of.es];simp
  have h3:=ma h.ds.aS;show _<=_;omega
 have f:=aC h;have ac:(g.e.kind==3)=Ve:=by simpa using hk
 have hm:=h.ds.aS;have hi:=h.hi;have C:=Hq hm h.ds.of (e:=(g.num (s.given+1)).e) h.ok.sp h.ok.u1 hi h.name;have c:=Bd hm h.ds.of (h.num (s.given+1)) hi;have z:=BA hm h.ds.of hi;have E:=(h.ds.of.comes h.ds.inv.tn (g:=g.num (s.given+1)) h.fresh hk h.ok.ri hi h.name h.tb (s.given+1)).2;have K:=aC (zA C (zA c (zA z E)));clear h hX D hm C c z E
 go_in
 go_upto_region 1 with fail
 change Y9 _ _ _ _ (w.alloc aX);generalize w.alloc aX=X at *
 go_upto_region 6 with fail
 have cy:(X.setCell ⟨g.eb,0,Vc⟩ (.int .i64 (s.given+1))).cell? ⟨g.eb,2,Vc⟩=Vd (.pointer (Vd ⟨g.tb,0,Vc⟩)):=q.out.en.en.c1;generalize X.setCell ⟨g.eb,0,Vc⟩ (.int .i64 (s.given+1))=Y at q cy ⊢;clear cg ck ci fi ct
 cases c:aA.dG s.ts s.es g.e.aT g.e.aH g.e.aK with
 |false =>
  have HD:Hid (ik s g.e=(s,aA.bO.error 8)):=by
   unfold ik;rw[U9 UT,Va ⟨hk,c⟩];rfl
  have TA:=aC (Gq q.out.dk i f.out.hi q.out.en f.out.tb (by show aM g.eb≠_;rw[f.out.ce];simp) (by show aM g.B≠_;rw[f.out.cb];simp) K.out.2.1 (by rw[K.out.1];exact c));clear c
  go_wp2_with fail
  refine TA.out.mono ?_;rintro e F ⟨rfl,J,y,t⟩;have Q1:Hid (Q7 F w.heap.size/\J w.heap.size=Vc):=⟨q.out.q7.later (t.bV q.out.ql q.out.qc q.out.ql),t.cU q.out.qc q.out.ql⟩;have P1:Hid (DK F d r J/\Step anyS B aM J w F):=⟨y,q.out.st.trans (t.any (Vp f.out.hB q.out.st.size))⟩;clear y t TA cy
  go_wp2_with fail
  refine (lH 8 F).mono ?_;rintro e w1 ⟨rfl,hb⟩;have hq:=hb.block w.heap.size (Vq _ _ Q1.out.1.q0)
  have HF:Hid (lF w B d aM (ik s g.e) (bC 8 0 0 (.slice Vc 0 0) (.slice Vc 0 0) (.slice Vc 0 0) (.slice Vc 0 0)) (cK w1 w.heap.size (.int .i64 8) (.int .i64 0) (.int .i64 0) (.slice Vc 0 0) (.slice Vc 0 0) (.slice Vc 0 0) (.slice Vc 0 0))):=by
   rw[HD.out];exact sI (P1.out.1.later hb) f.out.ds.of f.out.ds.wl f.out.ds.hl (P1.out.2.trans (Step.below hb)) f.out.hB Q1.out.2 8 0 _ _ _ _ _ _ _
  obtain⟨U,y,t,T,S,O,N,fq⟩:=Q1.out.1.later hq;simp only[bC]
  go_wp2_with fail
  exact cO results144 ⟨U,y,t,T,S,O,N,fq⟩ ⟨_,rfl,HF.out⟩
 |true =>
  have HD:Hid (ik s g.e=aA.jy s g.e):=by
   unfold ik;rw[U9 UT,U9 (by rw[c];simp)];rfl
  have TA:=aC (Hz q.out.dk i f.out.hi q.out.en f.out.tb (by show aM g.eb≠_;rw[f.out.ce];simp) (by show aM g.B≠_;rw[f.out.cb];simp) K.out.2.1 ⟨K.out.2.2.1.1,K.out.2.2.1.2,K.out.2.2.2,Cv f.out.ok.ri⟩ (by rw[K.out.1];exact c));clear c
  go_wp2_with fail
  refine TA.out.mono ?_;rintro e F ⟨rfl,J,y,t⟩;have TT:Hid (TL w F B d w.heap.size s r aM g):=f.out.yN q.out hk y t;clear y t TA cy J
  by_cases H:g.e.kind=1
  ·obtain⟨r1,c1,x⟩:=TT.out;have J:F.cell? ⟨g.eb,0,Vc⟩=Vd (.int .i64 (s.given+1)):=x.en.en.c0;have d1:=x.dk.c1;have f1:=x.dk.fz 1;obtain⟨m,s1,M,w3,l,r2,c2,L⟩:=x.store f.out;have j:=aC L;clear x L
   go_upto_region 9 with fail
   generalize F.setCell ⟨d,1,Vc⟩ (.int .i64 (s.given+1))=T1 at s1 M l ⊢;clear J d1 f1
   go_big_region
   clear l s1 M;obtain⟨I,e2,e3⟩:=j.out.dk.en _ j.out.mem;have k0:w3.cell? ⟨g.eb,0,Vc⟩=Vd (.int .i64 (s.given+1)):=I.en.c0;have k1:w3.cell? ⟨g.eb,1,Vc⟩=Vd (.int .i64 g.e.kind):=I.k;have k5:w3.cell? ⟨g.eb,5,Vc⟩=Vd (.int .i64 g.e.bY):=I.u;clear I e2 e3;have W:(g.e.kind != 1)=Ve:=by simpa using H
   have HF:Hid (lF w B d aM (ik s g.e) (bC 0 0 (s.given+1) (.slice Vc 0 0) (.slice Vc 0 0) (.slice Vc 0 0) (.slice Vc 0 0)) (cK w3 w.heap.size (.int .i64 0) (.int .i64 0) (.int .i64 (s.given+1)) (.slice Vc 0 0) (.slice Vc 0 0) (.slice Vc 0 0) (.slice Vc 0 0))):=by
    rw[HD.out];have n:=j.out;refine sI n.dk n.of n.wl ?_ n.st f.out.hB n.qc 0 (s.given+1) _ _ _ _ _ _ _;have hh:=f.out.ds.hl.sd (g:=g.num (s.given+1)) H;unfold Hl at hh ⊢;rw[n.eg,n.hl];exact hh
   obtain⟨U,y,t,T,S,O,N,fq⟩:=j.out.q7
   go_wp2_with fail
   exact cO results144 ⟨U,y,t,T,S,O,N,fq⟩ ⟨_,rfl,HF.out⟩
  ·obtain⟨r1,c1,x⟩:=TT.out;have J:F.cell? ⟨g.eb,0,Vc⟩=Vd (.int .i64 (s.given+1)):=x.en.en.c0;have d1:=x.dk.c1;have f1:=x.dk.fz 1;obtain⟨m,s1,M,w3,l,r2,c2,L⟩:=x.store f.out;have j:=aC L;clear x L
   go_upto_region 9 with fail
   generalize F.setCell ⟨d,1,Vc⟩ (.int .i64 (s.given+1))=T1 at s1 M l ⊢;clear J d1 f1
   go_big_region
   clear l s1 M;obtain⟨I,e2,e3⟩:=j.out.dk.en _ j.out.mem;have k0:w3.cell? ⟨g.eb,0,Vc⟩=Vd (.int .i64 (s.given+1)):=I.en.c0;have k1:w3.cell? ⟨g.eb,1,Vc⟩=Vd (.int .i64 g.e.kind):=I.k;have k5:w3.cell? ⟨g.eb,5,Vc⟩=Vd (.int .i64 g.e.bY):=I.u;clear I e2 e3;have W:(g.e.kind != 1)=Vf:=by simpa using H
   have PU:=aC (fun wx (k:Vi w3.heap.size w3 wx)=>Gp (j.out.dk.later k) (by rw[j.out.hl];exact f.out.ds.hl.1) (by rw[j.out.hl];exact HN.out) (g.num (s.given+1)))
   go_upto_region 11 with fail
   go_region_held3 (fun w'=>w'.cell? ⟨g.eb,0,Vc⟩=Vd (.int .i64 (s.given+1))/\w'.cell? ⟨g.eb,5,Vc⟩=Vd (.int .i64 g.e.bY))
    (first
     |exact⟨k0,k5⟩
     |exact⟨((V.en _ j.out.mem).1).en.c0,((V.en _ j.out.mem).1).u⟩)
    (first
     |(go_at_call 198;refine (PU.out _ (dM w3)).mono ?_;rintro e w4 ⟨rfl,l',c3,p1,p2,V,p4⟩))
   have aa:w4.cell? ⟨g.eb,0,Vc⟩=Vd (.int .i64 (s.given+1)):=((V.en _ j.out.mem).1).en.c0;have hq:=p4.bV j.out.ql j.out.qc j.out.ql
   have HF:Hid (lF w B d aM (ik s g.e) (bC 0 0 (s.given+1) (.slice Vc 0 0) (.slice Vc 0 0) (.slice Vc 0 0) (.slice Vc 0 0)) (cK w4 w.heap.size (.int .i64 0) (.int .i64 0) (.int .i64 (s.given+1)) (.slice Vc 0 0) (.slice Vc 0 0) (.slice Vc 0 0) (.slice Vc 0 0))):=by
    rw[HD.out];have n:=j.out;have o:=n.of;refine sI V ⟨o.now,o.given,o.ts,o.es,o.th,o.tb⟩ n.wl ?_ ((n.st.trans (Step.below (dM w3))).trans (p4.any (Vp f.out.hB n.st.size))) f.out.hB (p4.cU n.qc n.ql) 0 (s.given+1) _ _ _ _ _ _ _;have hh:=f.out.ds.hl.comes (g:=g.num (s.given+1)) H p1 (by rw[<- n.hl];exact p2);unfold Hl at hh ⊢;show _/\List.Perm l' ((r2.eg.filter _).map _);rw[n.eg];exact hh
   clear p1 p2 V p4 PU k0 k1 k5;obtain⟨U,y,t,T,S,O,N,fq⟩:=j.out.q7.later hq
   go_wp2_with fail
   exact cO results144 ⟨U,y,t,T,S,O,N,fq⟩ ⟨_,rfl,HF.out⟩
theorem N5:(prog.info? 197).map (fun i=>(i.zero,i.size,i.bytes))=Vd (Vd (.pointer Vc),1,8):=UY
theorem Sl{g:EG}(h:kK w B d s r aM g i)(al:s.given<60)(J:g.e.kind=3)(ai:r.wl.length<6):
  Vj prog 144 #[.pointer (Vd ⟨d,0,Vc⟩),.pointer (Vd ⟨g.eb,0,Vc⟩)] w fun e w'=>∃ v,e=.returned v/\lF w B d aM (ik s g.e) v w':=by
 have hX:Vi w.heap.size w (w.alloc aX):=(zr _ _).alloc (zq _) _;have YY:=aC h.oU;have cg:=(h.ds.dk.later hX).c1;rw[h.ds.of.given] at cg;have l:=(h.en.off (G:=[]) (aF.aD hX) UU UU);have ck:=l.k;have ci:=l.en.c0;have fi:=l.fz 0;have ct:=l.en.c1;have an:=h.ds.inv.g0;have aj:Vo.wrap (s.given+1)=s.given+1:=cG UT UT
 have HN:Hid (r.hl.length<=900):=by
  have h1:=h.ds.hl.len;have h2:r.eg.length=s.es.length:=by rw[<- h.ds.of.es];simp
  have h3:=ma h.ds.aS;show _<=_;omega
 have E:=aC h;obtain⟨i0,ac,ab,aa,W⟩:=info_parts N5;obtain⟨v4,T,f,C⟩:=h.oU.dk.wa
 have ad:(w.alloc aX).cell? ⟨d,4,Vc⟩=Vd v4:=by
  rw[<- T];exact (zS _ _ _ _ UU).symm
 obtain⟨a,cap,rfl⟩:=ix f;have ag:=h.ds.wl.eh h.ds.of;have M:=h.oU.dk.fz 4;have O4:=aC (zA f C);have K:=Vq _ _ T;have z:d ∉ (Zd a r.wl.length cap).ownBlock.toList:=fun e=>by have:=C _ (WV.1 e);rw[h.ds.dk.dc] at this;cases this
 rw[J] at ck;clear h hX l f C
 go_in
 go_upto_region 1 with fail
 change Y9 _ _ _ _ (w.alloc aX);generalize w.alloc aX=X at *
 have HD:Hid (ik s g.e=aA.jy s g.e):=by
  unfold ik;rw[U9 UT,U9 (by simp[J])];rfl
 go_upto_region 5 with fail
 generalize X.setCell ⟨g.eb,0,Vc⟩ (.int .i64 (s.given+1))=Y at *;clear cg ck ci fi ct ad
 go_upto_region 8 with (first
  |(at_builtin;refine wpList_append_lies _ rfl _ _ 139 rfl 0 197 i0 _ 1 8 underlying139 ac ab aa W rfl UV _ _ _ rfl (O4.out.1.alloc _) ⟨Y.heap.size,0,Vc⟩ 1 1 [jv g.eb] rfl rfl (World.news_of_block (cs:=#[jv g.eb]) (cC Y _)) (by simp[jv,Value.oneCell']) UT U0 UT UU (Y.heap.size+1) UU ?_;intro D n w1 t j L ak;have O:aF ((Zd a r.wl.length cap).ownBlock.toList) Y w1:=aF.grown ((aF.refl _ Y).alloc _) j (fun k J=>.inl (WV.2 J));have z1:=O.cell z T;have z2:=(O.frozen (o:=4) z K).trans M;clear j))
 have x:(Zd a r.wl.length cap).ownBlock=Vd D\/D=Y.heap.size+1:=L
 have SW:=aC (YY.out.dk.jf (wl':=r.wl++[g.eb]) (v':=.slice (Vd ⟨D,0,Vc⟩) (r.wl.length+1) n) O4.out.2 O (by rw[V4,Wq];exact t) (fun b hb=>by
  have:D=b:=by simpa[Value.ownBlock] using hb
  subst this;rcases x with e|e
  ·exact .inl e
  ·exact .inr UT))
 have TT:Hid (TL w (w1.setCell ⟨d,4,Vc⟩ (.slice (Vd ⟨D,0,Vc⟩) (r.wl.length+1) n)) B d w.heap.size s r aM g):=by
  obtain⟨c1,V,U⟩:=SW.out;exact E.out.waits YY.out J V U
 clear t O L x z1 z2 SW O4 T M;have I:g.e.kind≠1:=UT
 clear z K;generalize w1.setCell ⟨d,4,Vc⟩ (.slice (Vd ⟨D,0,Vc⟩) (r.wl.length+1) n)=w0 at TT ⊢;obtain⟨r1,c1,F⟩:=TT.out;have c0:w0.cell? ⟨g.eb,0,Vc⟩=Vd (.int .i64 (s.given+1)):=F.en.en.c0;have d1:=F.dk.c1;have f1:=F.dk.fz 1;obtain⟨m,s1,s2,w3,q,r2,c2,t2⟩:=F.store E.out;have c:=aC t2;clear F t2
 go_upto_region 9 with fail
 generalize w0.setCell ⟨d,1,Vc⟩ (.int .i64 (s.given+1))=T1 at s1 s2 q ⊢;clear c0 d1 f1
 go_big_region
 clear q s1 s2;obtain⟨S,e2,e3⟩:=c.out.dk.en _ c.out.mem;have k0:w3.cell? ⟨g.eb,0,Vc⟩=Vd (.int .i64 (s.given+1)):=S.en.c0;have k1:w3.cell? ⟨g.eb,1,Vc⟩=Vd (.int .i64 g.e.kind):=S.k;have k5:w3.cell? ⟨g.eb,5,Vc⟩=Vd (.int .i64 g.e.bY):=S.u;clear S e2 e3;have ae:(g.e.kind != 1)=Vf:=by simpa using I
 have PU:=aC (fun wx (k:Vi w3.heap.size w3 wx)=>Gp (c.out.dk.later k) (by rw[c.out.hl];exact E.out.ds.hl.1) (by rw[c.out.hl];exact HN.out) (g.num (s.given+1)))
 go_upto_region 11 with fail
 go_region_held3 (fun w'=>w'.cell? ⟨g.eb,0,Vc⟩=Vd (.int .i64 (s.given+1))/\w'.cell? ⟨g.eb,5,Vc⟩=Vd (.int .i64 g.e.bY))
  (first
   |exact⟨k0,k5⟩
   |exact⟨((H.en _ c.out.mem).1).en.c0,((H.en _ c.out.mem).1).u⟩)
  (first
   |(go_at_call 198;refine (PU.out _ (dM w3)).mono ?_;rintro e w4 ⟨rfl,l',c3,p1,p2,H,N⟩))
 have af:w4.cell? ⟨g.eb,0,Vc⟩=Vd (.int .i64 (s.given+1)):=((H.en _ c.out.mem).1).en.c0;have hq:=N.bV c.out.ql c.out.qc c.out.ql
 have HF:Hid (lF w B d aM (ik s g.e) (bC 0 0 (s.given+1) (.slice Vc 0 0) (.slice Vc 0 0) (.slice Vc 0 0) (.slice Vc 0 0)) (cK w4 w.heap.size (.int .i64 0) (.int .i64 0) (.int .i64 (s.given+1)) (.slice Vc 0 0) (.slice Vc 0 0) (.slice Vc 0 0) (.slice Vc 0 0))):=by
  rw[HD.out];have y:=c.out;have o:=y.of;refine sI H ⟨o.now,o.given,o.ts,o.es,o.th,o.tb⟩ y.wl ?_ ((y.st.trans (Step.below (dM w3))).trans (N.any (Vp E.out.hB y.st.size))) E.out.hB (N.cU y.qc y.ql) 0 (s.given+1) _ _ _ _ _ _ _;have hh:=E.out.ds.hl.comes (g:=g.num (s.given+1)) I p1 (by rw[<- y.hl];exact p2);unfold Hl at hh ⊢;show _/\List.Perm l' ((r2.eg.filter _).map _);rw[y.eg];exact hh
 clear p1 p2 H N PU k0 k1 k5;obtain⟨q0,V,U,q3,q4,q5,q6,fq⟩:=c.out.q7.later hq
 go_wp2_with fail
 exact cO results144 ⟨q0,V,U,q3,q4,q5,q6,fq⟩ ⟨_,rfl,HF.out⟩
theorem I7{g:EG}(h:kK w B d s r aM g i):
  Vj prog 144 #[.pointer (Vd ⟨d,0,Vc⟩),.pointer (Vd ⟨g.eb,0,Vc⟩)] w fun e w'=>∃ v,e=.returned v/\lF w B d aM (ik s g.e) v w':=by
 by_cases n:s.given=60\/g.e.kind=3/\aA.eh s.es=6
 ·exact Sj h.ds h.en h.hB n
 ·have l:=h.ds.inv.g1;have j:=h.ds.inv.wa;have f:=h.ds.wl.eh h.ds.of
  by_cases c:g.e.kind=3
  ·exact Sl h UT c UT
  ·exact Sk h UT c
theorem UI(h:fw s name u fr til≠0):aA.aU s (.enter k name u fr til long)=(s,aA.bO.error (fw s name u fr til)):=by
 have e:aA.rj s k name u fr til long=fw s name u fr til:=by
  unfold aA.rj fw at *
  by_cases c:aA.dH s.ts name u≠0
  ·rw[Va c,Va c]
  ·rw[U9 c] at h ⊢;rw[U9 c]
   by_cases f:til<=fr
   ·rw[Va f,Va (.inl f)]
   ·rw[U9 f] at h;omega
 simp only[aA.aU,e];rw[Va h]
theorem sU(h:fw s name u fr til=0):aA.dH s.ts name u=0/\fr<til:=by
 unfold fw at h
 by_cases c:aA.dH s.ts name u≠0
 ·rw[Va c] at h;omega
 ·rw[U9 c] at h
  by_cases f:til<=fr
  ·rw[Va f] at h;omega
  ·omega
theorem Ut(h:fw s name u fr til=0)(t:s.now+long<=1048320):aA.aU s (.enter k name u fr til long)=ik s (aA.nW s k name u fr til long):=by
 obtain⟨y,x⟩:=sU h;simp only[aA.aU];unfold aA.rj ik;rw[U9 (c:=aA.dH s.ts name u≠0) UT,U9 (c:=til<=fr\/1048320<s.now+long) UT];have q:(aA.nW s k name u fr til long).kind=k:=rfl;have n:(aA.nW s k name u fr til long).aT=name:=rfl;have l:(aA.nW s k name u fr til long).aH=u:=rfl;have es:(aA.nW s k name u fr til long).aK=[(fr,til)]:=rfl;rw[q,n,l,es]
 by_cases f:s.given=60
 ·simp[f]
 ·by_cases g:k=3
  ·by_cases j:aA.eh s.es=6
   ·simp[f,g,j]
   ·simp[f,g,j]
  ·cases aA.dG s.ts s.es name u [(fr,til)] <;> simp[f,g]
def Fi(k:U8)(name:U3)(u fr til un:U8)(N c:U7):EG:=⟨⟨0,k,name,u,[(fr,til)],un⟩,N+1,N,1,c⟩
theorem dS.asks(h:dS w d s r aM)(q:Vi w.heap.size w w1)(x:i<r.tg.length)(c:r.tg[i].name=name)(ok:gv s.now ⟨0,k,name,u,[(fr,til)],un⟩):
  kK ((w1.alloc (.cells #[.int .i64 fr,.int .i64 til] 60)).alloc (.cells #[.int .i64 0,.int .i64 k,.pointer (Vd ⟨r.tg[i].tb,0,Vc⟩),.int .i64 u,.slice (Vd ⟨w1.heap.size,0,Vc⟩) 1 1,.int .i64 un] 200)) w1.heap.size d s r aM (Fi k name u fr til un w1.heap.size r.tg[i].tb) i:=by
 have n:Vi w1.heap.size w1 ((w1.alloc (.cells #[.int .i64 fr,.int .i64 til] 60)).alloc (.cells #[.int .i64 0,.int .i64 k,.pointer (Vd ⟨r.tg[i].tb,0,Vc⟩),.int .i64 u,.slice (Vd ⟨w1.heap.size,0,Vc⟩) 1 1,.int .i64 un] 200)):=((zr _ _).alloc (zq _) _).alloc UU _;have g:=h.dk.later q
 have eb:((w1.alloc (.cells #[.int .i64 fr,.int .i64 til] 60)).alloc (.cells #[.int .i64 0,.int .i64 k,.pointer (Vd ⟨r.tg[i].tb,0,Vc⟩),.int .i64 u,.slice (Vd ⟨w1.heap.size,0,Vc⟩) 1 1,.int .i64 un] 200)).heap[w1.heap.size+1]?=Vd (.cells #[.int .i64 0,.int .i64 k,.pointer (Vd ⟨r.tg[i].tb,0,Vc⟩),.int .i64 u,.slice (Vd ⟨w1.heap.size,0,Vc⟩) 1 1,.int .i64 un] 200 (0,0)):=by
  have:=cC (w1.alloc (.cells #[.int .i64 fr,.int .i64 til] 60)) (.cells #[.int .i64 0,.int .i64 k,.pointer (Vd ⟨r.tg[i].tb,0,Vc⟩),.int .i64 u,.slice (Vd ⟨w1.heap.size,0,Vc⟩) 1 1,.int .i64 un] 200)
  rwa [World.size_alloc] at this
 have l:((w1.alloc (.cells #[.int .i64 fr,.int .i64 til] 60)).alloc (.cells #[.int .i64 0,.int .i64 k,.pointer (Vd ⟨r.tg[i].tb,0,Vc⟩),.int .i64 u,.slice (Vd ⟨w1.heap.size,0,Vc⟩) 1 1,.int .i64 un] 200)).heap[w1.heap.size]?=Vd (.cells #[.int .i64 fr,.int .i64 til] 60 (0,0)) :=
  (Below.heap_alloc _ _ _ UU).trans (cC w1 _)
 have y:((w1.alloc (.cells #[.int .i64 fr,.int .i64 til] 60)).alloc (.cells #[.int .i64 0,.int .i64 k,.pointer (Vd ⟨r.tg[i].tb,0,Vc⟩),.int .i64 u,.slice (Vd ⟨w1.heap.size,0,Vc⟩) 1 1,.int .i64 un] 200)).heap.size=w1.heap.size+2:=UU
 generalize (w1.alloc (.cells #[.int .i64 fr,.int .i64 til] 60)).alloc (.cells #[.int .i64 0,.int .i64 k,.pointer (Vd ⟨r.tg[i].tb,0,Vc⟩),.int .i64 u,.slice (Vd ⟨w1.heap.size,0,Vc⟩) 1 1,.int .i64 un] 200)=Z at *;refine⟨⟨g.later n,h.of,h.wl,h.hl,h.inv⟩,⟨⟨?_,?_,?_,?_,fun j t=>?_,?_⟩,?_,?_,fun o=>frozen_of_row _ _ _ _ _ eb,⟨_,eb⟩⟩,g.none (Ze _),g.none (zq _),Ze _,Vm _,(by show w1.heap.size+1≠w1.heap.size;omega),n.size,x,c,rfl,ok⟩
 ·show Z.cell? ⟨w1.heap.size+1,0,Vc⟩=_;simp only[VK,eb];rfl
 ·show Z.cell? ⟨w1.heap.size+1,2,Vc⟩=_;simp only[VK,eb];rfl
 ·show Z.cell? ⟨w1.heap.size+1,3,Vc⟩=_;simp only[VK,eb];rfl
 ·show Z.cell? ⟨w1.heap.size+1,4,Vc⟩=_;simp only[VK,eb];rfl
 ·have f:j=0:=by simp[Fi] at t;omega
  subst f;constructor
  ·show Z.cell? ⟨w1.heap.size,0,Vc⟩=_;simp only[VK,l];rfl
  ·show Z.cell? ⟨w1.heap.size,1,Vc⟩=_;simp only[VK,l];rfl
 ·show w1.heap.size<_;omega
 ·show Z.cell? ⟨w1.heap.size+1,1,Vc⟩=_;simp only[VK,eb];rfl
 ·show Z.cell? ⟨w1.heap.size+1,5,Vc⟩=_;simp only[VK,eb];rfl
theorem lF.IU{q:St × aA.bO}{v:Vh}(h:lF Z B d aM q v w2)(st:Step anyS w.heap.size aM aM w Z)(H:w.heap.size<=B)(G:w.heap.size<=Q)(l:Q<B)(x:aM Q=Vc)(y:Q7 Z Q):
  ∃ j n:U8,v=bC j 0 n (.slice Vc 0 0) (.slice Vc 0 0) (.slice Vc 0 0) (.slice Vc 0 0)/\Q7 w2 Q/\∀ a b c e f g i,dX w d aM q (bC j 0 n (.slice Vc 0 0) (.slice Vc 0 0) (.slice Vc 0 0) (.slice Vc 0 0)) (cK w2 Q a b c e f g i):=by
 obtain⟨j,n,J,col',rfl,I,E,D,C,z,t⟩:=h;have F:=Vq _ _ y.q0;refine⟨j,n,rfl,y.later (t.bV F x l),fun a b c e f g i=>?_⟩;have:q=(q.1,⟨j,0,n,[],[],[],[]⟩):=by rw[<- I]
 rw[this];exact vQ E D C z (st.trans (t.any H)) G (t.cU x l) j n a b c e f g i
theorem PA(h:dS w d s r aM)(name:U3)(hn:name.size<=1000)(u fr til:U8)(y:aA.jz (.enter 1 name u fr til 0)):
  Vj prog 92 #[.pointer (Vd ⟨d,0,Vc⟩),.agg #[.string name,.int .i64 u,.int .i64 fr,.int .i64 til]] w fun e w'=>∃ v,e=.returned v/\dX w d aM (aA.aU s (.enter 1 name u fr til 0)) v w':=by
 obtain⟨O,j,c,S⟩:=uP w (.cells #[.string name,.int .i64 u,.int .i64 fr,.int .i64 til] 154);have W:=aC (vR (h.dk.later O) h.of h.aS name hn u fr til);have z:=aC h;have t:=aC (zA O j);have xa:=aZ c 0 rfl;have F:=aZ c 1 rfl;have E:=aZ c 2 rfl;have D:=aZ c 3 rfl;clear h O j c
 go_in
 go_upto_region 1 with fail
 change Y9 _ _ _ _ ((w.alloc (.cells #[.string name,.int .i64 u,.int .i64 fr,.int .i64 til] 154)).alloc aX);generalize (w.alloc (.cells #[.string name,.int .i64 u,.int .i64 fr,.int .i64 til] 154)).alloc aX=X at *
 go_wp2_with fail
 refine W.out.mono ?_;rintro e w1 ⟨hp,f⟩;have x:Hid (Vi w.heap.size w w1):=t.out.1.trans (f.mono t.out.1.size);have U:Hid (Q7 w1 (w.heap.size+1)):=(Q7.of t.out.2).later (f.block _ S);rcases hp with ⟨g,rfl⟩|⟨g,i,hi,e1,e2,rfl⟩
 ·have V:=aC (UI (k:=1) (long:=0) g);generalize fw s name u fr til=l at *;have aa:(l != 0)=Vf:=by simpa using g
  clear g W t f xa F E D
  go_wp2_with fail
  refine (lH l w1).mono ?_;rintro e w2 ⟨rfl,N⟩;have C:=aC (z.out.refuse x.out U.out N V.out);obtain⟨M,L,K,J,I,H,G,T⟩:=C.out.1;simp only[bC]
  go_wp2_with fail
  exact cO results92 ⟨M,L,K,J,I,H,G,T⟩ ⟨_,rfl,C.out.2⟩
 ·have V:=aC (Ut (k:=1) (long:=0) g (by have:=z.out.inv.n1;omega));have y1:=(zo (w:=X) (a:=⟨w.heap.size,1,Vc⟩) (f.block w.heap.size UT)).trans F;have y2:=(zo (w:=X) (a:=⟨w.heap.size,2,Vc⟩) (f.block w.heap.size UT)).trans E;have y3:=(zo (w:=X) (a:=⟨w.heap.size,3,Vc⟩) (f.block w.heap.size UT)).trans D;have EN:=aC (I7 (z.out.asks x.out (k:=1) (u:=u) (fr:=fr) (til:=til) (un:=0) hi e1 ⟨y.2.1,y.2.2.1,(by show 1<=40;omega),UU,(by intro q hq;have:q=(fr,til):=YC.1 hq;subst this;have:=(sU g).2;exact⟨y.2.2.2.1,this,y.2.2.2.2.2.2⟩),List.pairwise_singleton _ _,.inl ⟨rfl,rfl⟩⟩));have AL:Hid (Vi w1.heap.size w1 ((w1.alloc (.cells #[.int .i64 fr,.int .i64 til] 60)).alloc (.cells #[.int .i64 0,.int .i64 1,.pointer (Vd ⟨r.tg[i].tb,0,Vc⟩),.int .i64 u,.slice (Vd ⟨w1.heap.size,0,Vc⟩) 1 1,.int .i64 0] 200))):=((zr _ _).alloc (zq _) _).alloc UU _;have QL:Hid (w.heap.size+1<w1.heap.size):=Vq _ _ U.out.q0;clear g W t f xa F E D e1 e2
  go_wp2_with fail
  refine EN.out.mono ?_;rintro e w2 ⟨v,rfl,ep⟩;obtain⟨l,n,rfl,q7,hf⟩:=ep.IU (Q:=(w.heap.size+1)) (Step.below (x.out.trans (AL.out.mono x.out.size))) x.out.size UT QL.out (z.out.dk.none UT) (U.out.later (AL.out.block _ QL.out))
  have C:Hid (dX w d aM (aA.aU s (.enter 1 name u fr til 0)) (bC l 0 n (.slice Vc 0 0) (.slice Vc 0 0) (.slice Vc 0 0) (.slice Vc 0 0)) (cK w2 (w.heap.size+1) (.int .i64 l) (.int .i64 0) (.int .i64 n) (.slice Vc 0 0) (.slice Vc 0 0) (.slice Vc 0 0) (.slice Vc 0 0))):=by
   rw[V.out];exact hf _ _ _ _ _ _ _
  clear ep hf EN;obtain⟨M,L,K,J,I,H,G,T⟩:=q7;simp only[bC]
  go_wp2_with fail
  exact cO results92 ⟨M,L,K,J,I,H,G,T⟩ ⟨_,rfl,C.out⟩
theorem dS.levels(h:dS w d s r aM)(c:i<r.tg.length):∀ p,0<=cN r.tg[i].name s.es p/\cN r.tg[i].name s.es p<=1000000:=fun p=>by
 have g:=aA.tU r.tg[i].name p s.es h.aS.small;have f:=ma h.aS;omega
theorem Qz(h:dS w d s r aM)(k:Vi w.heap.size w wx)(c:i<r.tg.length){b:U8}(x:0<=a)(l:a<b)(t:b<=1048320):
  Vj prog 153 #[.pointer (Vd ⟨r.tg[i].tb,2,Vc⟩),.agg #[.int .i64 a,.int .i64 b]] wx fun e w'=>e=.returned (.int .i64 (aA.lG r.tg[i].name s.es a b))/\Vi wx.heap.size wx w':=by
 obtain⟨n,z,y,E,f,C⟩:=(h.dk.later k).th i c;have j:=h.levels c;have e:=aA.QP (name:=r.tg[i].name) h.aS.small (Cu h.aS) x l t;unfold sq at e;have g:=f.lv;rw[(h.of.th i c).1] at g;refine (Gi (js (cN r.tg[i].name s.es)) _ 2 n y a b wx f.c2 g (vw j) (yb (fun p=>(j p).1)) l).mono ?_;rintro D w' ⟨rfl,q⟩;exact⟨by rw[<- e],q⟩
theorem QA(h:dS w d s r aM)(k:Vi w.heap.size w wx)(c:i<r.tg.length){b:U8}(y:0<=a)(G:a<b)(x:b<=1048320)(t:1<=long)(F:long<=1048320)(D:0<=u):
  Vj prog 154 #[.pointer (Vd ⟨r.tg[i].tb,2,Vc⟩),.agg #[.int .i64 a,.int .i64 b],.int .i64 long,.int .i64 (r.tg[i].aH-u)] wx fun e w'=>∃ q:U5 U8,e=.returned (iM q)/\aA.iX s.ts s.es r.tg[i].name u long a b=aA.FC q/\Vi wx.heap.size wx w':=by
 obtain⟨C,I,H,L,g,J⟩:=(h.dk.later k).th i c;have n:=h.levels c;have j:=g.lv;rw[(h.of.th i c).1] at j
 have f:aA.bJ r.tg[i].name s.ts=r.tg[i].aH:=by
  have z:=Cc h.aS.tn (i:=i) (by rw[<- h.of.len];exact c);rw[h.of.jR c] at z;exact z
 refine (Py (js (cN r.tg[i].name s.es)) _ 2 C H a b long (r.tg[i].aH-u) wx g.c2 j (vw n) (yb (fun p=>(n p).1)) y G x t F).mono ?_;rintro K w' ⟨q,rfl,l,E⟩;rw[<- f] at l;exact⟨q,rfl,aA.Ru h.aS.small (Cu h.aS) y x D t l,E⟩
theorem T4(g:ec s)(h:fw s name 0 fr til≠0):aA.aU s (.cY name fr til)=(s,aA.bO.error (fw s name 0 fr til)):=by
 have l:=aA.CG g.tu name;simp only[aA.aU];unfold fw aA.dH at *
 by_cases c:aA.bJ name s.ts=0
 ·rw[Va c];simp[c]
 ·have j:¬ (aA.bJ name s.ts<0):=UT
  simp only[c,j] at h ⊢
  by_cases f:til<=fr
  ·simp[f]
  ·simp[f] at h
theorem QE(h:fw s name 0 fr til=0):aA.aU s (.cY name fr til)=(s,aA.bO.num (aA.lG name s.es fr til)):=by
 obtain⟨c,g⟩:=sU h;have f:aA.bJ name s.ts≠0:=fun e=>by unfold aA.dH at c;rw[Va e] at c;omega
 simp only[aA.aU];rw[U9 f,U9 UT]
theorem Oz(c:Array Vh)(w:Vg):(callFunc 153 c).run prog w=.ok (.enter 153 c) w:=UY
theorem Qp(h:dS w d s r aM)(name:U3)(hn:name.size<=1000)(fr til:U8)(T:aA.jz (.cY name fr til)):
  Vj prog 100 #[.pointer (Vd ⟨d,0,Vc⟩),.agg #[.string name,.int .i64 fr,.int .i64 til]] w fun e w'=>∃ v,e=.returned v/\dX w d aM (aA.aU s (.cY name fr til)) v w':=by
 obtain⟨J,l,f,K⟩:=uP w (.cells #[.string name,.int .i64 fr,.int .i64 til] 176);have O:=aZ f 0 rfl;have z:=aZ f 1 rfl;have y:=aZ f 2 rfl;have N:=aC (vR (h.dk.later J) h.of h.aS name hn 0 fr til);have q:=aC h;have n:=aC (zA J l);clear h J l f
 go_in
 go_upto_region 1 with fail
 change Y9 _ _ _ _ ((w.alloc (.cells #[.string name,.int .i64 fr,.int .i64 til] 176)).alloc aX);generalize (w.alloc (.cells #[.string name,.int .i64 fr,.int .i64 til] 176)).alloc aX=X at *
 go_wp2_with fail
 refine N.out.mono ?_;rintro e w1 ⟨hp,j⟩;have x:Hid (Vi w.heap.size w w1):=n.out.1.trans (j.mono n.out.1.size);have M:Hid (Q7 w1 (w.heap.size+1)):=(Q7.of n.out.2).later (j.block _ K);rcases hp with ⟨g,rfl⟩|⟨g,i,hi,U,e2,rfl⟩
 ·have t:=aC (T4 q.out.aS g);generalize fw s name 0 fr til=er at *;have aa:(er != 0)=Vf:=by simpa using g
  clear g N n j O z y
  go_wp2_with fail
  refine (lH er w1).mono ?_;rintro e w2 ⟨rfl,c⟩;have W:=aC (q.out.refuse x.out M.out c t.out);obtain⟨I,H,G,F,E,D,C,L⟩:=W.out.1;simp only[bC]
  go_wp2_with fail
  exact cO results100 ⟨I,H,G,F,E,D,C,L⟩ ⟨_,rfl,W.out.2⟩
 ·have t:=aC (QE g);have y1:=(zo (w:=X) (a:=⟨w.heap.size,1,Vc⟩) (j.block w.heap.size UT)).trans z;have y2:=(zo (w:=X) (a:=⟨w.heap.size,2,Vc⟩) (j.block w.heap.size UT)).trans y;have V:=aC (Qz q.out (wx:=w1.drew) x.out.drew hi T.1 (sU g).2 T.2.2.2);rw[U] at V;have AF:Hid (∀ w2,Vi w1.drew.heap.size w1.drew w2->Q7 w2 (w.heap.size+1)/\dX w d aM (aA.aU s (.cY name fr til)) (bC 0 0 (aA.lG name s.es fr til) (.slice Vc 0 0) (.slice Vc 0 0) (.slice Vc 0 0) (.slice Vc 0 0)) (cK w2 (w.heap.size+1) (.int .i64 0) (.int .i64 0) (.int .i64 (aA.lG name s.es fr til)) (.slice Vc 0 0) (.slice Vc 0 0) (.slice Vc 0 0) (.slice Vc 0 0))):=fun w2 S=>⟨M.out.later (S.block _ (Vq _ _ M.out.q0)),by rw[t.out];exact q.out.said (x.out.drew.trans (S.mono x.out.size)) UT 0 (aA.lG name s.es fr til) _ _ _ _ _ _ _⟩
  clear g N n j O z y U e2 t;generalize (aA.lG name s.es fr til)=nn at *
  go_upto_region 4 with fail
  go_region_law (first
   |(refine qY (by rfl) 153 _ _ (by rfl) _ (by simp[Act.eval]) (Oz _ _) V.out ?_;rintro e w2 ⟨rfl,c⟩;refine⟨_,rfl,?_⟩;have FF:=aC (AF.out w2 c);obtain⟨⟨I,H,G,F,E,D,C,L⟩,_⟩:=AF.out w2 c))
  all_goals
   go_wp2_with fail
   exact cO results100 ⟨I,H,G,F,E,D,C,L⟩ ⟨_,rfl,FF.out.2⟩
theorem T3(h:fw s name u fr til≠0):aA.aU s (.find name u long fr til)=(s,aA.bO.error (fw s name u fr til)):=by
 simp only[aA.aU];unfold fw at *
 by_cases c:aA.dH s.ts name u≠0
 ·rw[Va c,Va c]
 ·rw[U9 c] at h ⊢;rw[U9 c]
  by_cases f:til<=fr
  ·rw[Va f,Va f]
  ·rw[U9 f] at h;omega
theorem QD(h:fw s name u fr til=0):aA.aU s (.find name u long fr til)=(s,aA.bO.num (aA.iX s.ts s.es name u long fr til)):=by
 obtain⟨f,c⟩:=sU h;simp only[aA.aU];rw[U9 UT,U9 UT]
theorem Pq(h:dS w d s r aM)(name:U3)(hn:name.size<=1000)(u long fr til:U8)(g:aA.jz (.find name u long fr til)):
  Vj prog 101 #[.pointer (Vd ⟨d,0,Vc⟩),.agg #[.string name,.int .i64 u,.int .i64 long,.int .i64 fr,.int .i64 til]] w fun e w'=>∃ v,e=.returned v/\dX w d aM (aA.aU s (.find name u long fr til)) v w':=by
 obtain⟨hX,I,f,ac⟩:=uP w (.cells #[.string name,.int .i64 u,.int .i64 long,.int .i64 fr,.int .i64 til] 178);have x0:=aZ f 0 rfl;have x1:=aZ f 1 rfl;have x2:=aZ f 2 rfl;have x3:=aZ f 3 rfl;have x4:=aZ f 4 rfl;have AK:=aC (vR (h.dk.later hX) h.of h.aS name hn u fr til);have n:=aC h;have K:=aC (zA hX I);clear h hX I f
 go_in
 go_upto_region 1 with fail
 change Y9 _ _ _ _ ((w.alloc (.cells #[.string name,.int .i64 u,.int .i64 long,.int .i64 fr,.int .i64 til] 178)).alloc aX);generalize (w.alloc (.cells #[.string name,.int .i64 u,.int .i64 long,.int .i64 fr,.int .i64 til] 178)).alloc aX=X at *
 go_wp2_with fail
 refine AK.out.mono ?_;rintro e w1 ⟨hp,j⟩;have L:Hid (Vi w.heap.size w w1):=K.out.1.trans (j.mono K.out.1.size);have QX:Hid (Q7 w1 (w.heap.size+1)):=(Q7.of K.out.2).later (j.block _ ac);rcases hp with ⟨l,rfl⟩|⟨l,i,hi,e1,e2,rfl⟩
 ·have S:=aC (T3 (long:=long) l);generalize fw s name u fr til=er at *;have ae:(er != 0)=Vf:=by simpa using l
  clear l AK K j x0 x1 x2 x3 x4
  go_wp2_with fail
  refine (lH er w1).mono ?_;rintro e w2 ⟨rfl,c⟩;have HF:=aC (n.out.refuse L.out QX.out c S.out);obtain⟨G,F,E,D,C,z,y,J⟩:=HF.out.1;simp only[bC]
  go_wp2_with fail
  exact cO results101 ⟨G,F,E,D,C,z,y,J⟩ ⟨_,rfl,HF.out.2⟩
 ·have S:=aC (QD (long:=long) l);have y1:=(zo (w:=X) (a:=⟨w.heap.size,1,Vc⟩) (j.block w.heap.size UT)).trans x1;have W:=(zo (w:=X) (a:=⟨w.heap.size,2,Vc⟩) (j.block w.heap.size UT)).trans x2;have V:=(zo (w:=X) (a:=⟨w.heap.size,3,Vc⟩) (j.block w.heap.size UT)).trans x3;have U:=(zo (w:=X) (a:=⟨w.heap.size,4,Vc⟩) (j.block w.heap.size UT)).trans x4;obtain⟨ul,us,Fl,Fs,t1,t2⟩:=(n.out.dk.later L.out).th i hi;have cu:=t1.c1
  have aa:1<=r.tg[i].aH/\r.tg[i].aH<=9:=by
   have ab:(r.tg[i].name,r.tg[i].aH)∈s.ts:=by rw[<- n.out.of.jR hi];exact zg _
   exact n.out.inv.tu _ ab
  have ad:Vo.wrap (r.tg[i].aH-u)=r.tg[i].aH-u:=cG (by have:=g.1;have:=g.2.1;omega) (by have:=g.1;omega);have RC:=aC (QA n.out (wx:=w1.drew) L.out.drew (u:=u) hi g.2.2.2.2.1 (sU l).2 g.2.2.2.2.2.2.2 g.2.2.1 g.2.2.2.1 (by have:=g.1;omega));rw[e1] at RC
  have RD:Hid (Vj prog 154 #[.pointer (Vd ⟨r.tg[i].tb,2,Vc⟩),.agg #[.int .i64 fr,.int .i64 til],.int .i64 long,.int .i64 (r.tg[i].aH-u)] w1.drew fun e w'=>∃ (x:U8) (N:U6),e=.returned (.tuple #[.int .i64 x,.bool N])/\aA.iX s.ts s.es name u long fr til=(if N then x else -1)/\Vi w1.drew.heap.size w1.drew w'):=by
   refine RC.out.mono ?_;rintro e w' ⟨q,rfl,H,c⟩
   cases q with
   |none=>exact⟨0,Ve,rfl,H,c⟩
   |some x=>exact⟨x,Vf,rfl,H,c⟩
  have t:Hid (∀ w2 M,Vi w1.drew.heap.size w1.drew w2->(aA.iX s.ts s.es name u long fr til)=M->Q7 w2 (w.heap.size+1)/\dX w d aM (aA.aU s (.find name u long fr til)) (bC 0 0 M (.slice Vc 0 0) (.slice Vc 0 0) (.slice Vc 0 0) (.slice Vc 0 0)) (cK w2 (w.heap.size+1) (.int .i64 0) (.int .i64 0) (.int .i64 M) (.slice Vc 0 0) (.slice Vc 0 0) (.slice Vc 0 0) (.slice Vc 0 0))):=fun w2 M k2 e=>⟨QX.out.later (k2.block _ (Vq _ _ QX.out.q0)),by rw[S.out,<- e];exact n.out.said (L.out.drew.trans (k2.mono L.out.size)) UT 0 (aA.iX s.ts s.es name u long fr til) _ _ _ _ _ _ _⟩
  clear l AK K j x0 x1 x2 x3 x4 e1 e2 S t1 t2 aa RC;generalize r.tg[i].aH=un at *;generalize r.tg[i].tb=tb at *
  go_upto_region 4 with fail
  have AC:Hid (∀ w2,Vi w1.drew.heap.size w1.drew w2->w2.cell? ⟨w.heap.size,1,Vc⟩=Vd (.int .i64 u)/\w2.cell? ⟨w.heap.size,2,Vc⟩=Vd (.int .i64 long)/\w2.cell? ⟨w.heap.size,3,Vc⟩=Vd (.int .i64 fr)/\w2.cell? ⟨w.heap.size,4,Vc⟩=Vd (.int .i64 til)/\w2.cell? ⟨tb,1,Vc⟩=Vd (.int .i64 un)):=fun w2 k=>⟨aN k y1,aN k W,aN k V,aN k U,aN k cu⟩
  go_region_held3 (fun w'=>w'.cell? ⟨w.heap.size,1,Vc⟩=Vd (.int .i64 u)/\w'.cell? ⟨w.heap.size,2,Vc⟩=Vd (.int .i64 long)/\w'.cell? ⟨w.heap.size,3,Vc⟩=Vd (.int .i64 fr)/\w'.cell? ⟨w.heap.size,4,Vc⟩=Vd (.int .i64 til)/\w'.cell? ⟨tb,1,Vc⟩=Vd (.int .i64 un))
   (first
    |exact⟨y1,W,V,U,cu⟩
    |exact AC.out _ c)
   (first
    |(go_at_call 154;refine RD.out.mono ?_;rintro e w2 ⟨x,N,rfl,H,c⟩))
  have T:=aC c
  cases N
  all_goals
   have O:=aC H;clear H c AC y1 W V U cu
  ·have FF:=aC (t.out w2 (-1) T.out O.out);obtain⟨⟨G,F,E,D,C,z,y,J⟩,_⟩:=t.out w2 (-1) T.out O.out;clear t RD
   go_wp2_with fail
   exact cO results101 ⟨G,F,E,D,C,z,y,J⟩ ⟨_,rfl,FF.out.2⟩
  ·have FF:=aC (t.out w2 x T.out O.out);obtain⟨⟨G,F,E,D,C,z,y,J⟩,_⟩:=t.out w2 x T.out O.out;clear t RD
   go_wp2_with fail
   exact cO results101 ⟨G,F,E,D,C,z,y,J⟩ ⟨_,rfl,FF.out.2⟩
end Go.Proofs.YtfigmlfdnickmaaGreatDoor
