import Derived.Test.YtfigmlfdnickmaaGreatDoorL05
import Derived.Deep.RegionHeld
import Derived.Deep.CutRange
set_option maxRecDepth 100000
set_option maxHeartbeats 8000000
open Go.Proofs.Tryz
open _root_ renaming ByteArray->U4,List->U5,Option->U6,Bool->U7,Nat->U8,Int->U9,if_neg->Va,if_pos->Vb,absurd->Vc
open Option renaming none->Vd,some->Ve,bind_some->YT,none->Zd,mem_toList->WW
open Bool renaming false->Vf,true->Vg,eq_false_or_eq_true->Y8
open Go renaming World->Vh,Value->Vi,Calls->Vk,TypeId->Vm
open Go.RowKit renaming Below->Vj
open Go.World renaming cell?_setCell_far->Y7,block_lt_of_cell?->Vr,frozen?_of_block->WU,var?->YS,cell?->VL
open Nat renaming le_trans->Vq,le_refl->Vn,lt_of_lt_of_le->Wk,le_succ->Zf
open Ne renaming symm->Yf
open ByteArray renaming empty->YN
open List renaming mem_map->Wm,length_append->V5,mem_singleton->YD,length_map->WL,map_append->Wr,nodup_append->VJ
open Go.Value renaming string->Y0,slice->Ze
open Array renaming getElem?_eq_some_iff->Y9
open Go.Code renaming wp->Za
open Go.Instr renaming typeAssert->Zb,lookup->YJ
open Go.Result renaming andThen->Zc
open Go.IntKind renaming i64->Vp
namespace Go.Proofs.YtfigmlfdnickmaaGreatDoor
variable{wr:U7}{name:U4}{a fr k long mi mn pc ti til u un:U9}{ws:U5 U4}{acc:U5 U9}{A B P Q R b d i m n' nx o p:U8}{c1 aM col':U8->U6 aW}{v:U8->Vi}{r:Raw}{s:aA.St}{Y Z w w' w1 w2 wx:Vh}
open Go.RowKit
theorem yt(c f:U9)(R A:U8)(ws:U5 U4)(nx:U8)(wr:U7)(w:Vh)(h:RS w R A ws nx wr):
  Vk prog 132 #[.pointer (Ve ⟨R,0,Vd⟩),.int .i64 c,.int .i64 f] w fun e w'=>e=.returned (.int .i64 (fg ws nx wr (fun s=>eL s c f) (fun s=>aB.cF s.data.toList)))/\RS w' R A ws (ek ws nx wr (fun s=>eL s c f)) (ei ws nx wr (fun s=>eL s c f))/\Kept R w w':=by
 go_in
 go_wp2_with fail
 obtain⟨X,g⟩:∃ X,X=(w.alloc (.cells #[.int .i64 c] 3)).alloc (.cells #[.int .i64 f] 3):=⟨_,rfl⟩;rw[<- g];have j:Vj w.heap.size w X:=by rw[g];exact ((zr _ _).alloc (zq _) _).alloc UV _
 have x:X.cell? ⟨w.heap.size,0,Vd⟩=Ve (.int .i64 c):=by rw[g];simp
 have t:X.cell? ⟨w.heap.size+1,0,Vd⟩=Ve (.int .i64 f):=by rw[g];simp
 clear g;refine (Ut w.heap.size (w.heap.size+1) c f R A ws nx wr X (h.aD j) x t).mono ?_;rintro e w1 ⟨rfl,q,n⟩;have l:=(Kept.aD (R:=R) j).trans n;go_wp2;go_ret;exact⟨rfl,q,l⟩
theorem sQ(R A:U8)(ws:U5 U4)(nx:U8)(wr:U7)(w:Vh)(h:RS w R A ws nx wr):
  Vk prog 83 #[.pointer (Ve ⟨R,0,Vd⟩)] w fun e w'=>e=.returned (.string (mq ws nx wr))/\RS w' R A ws (ek ws nx wr (fun s=>aB.fa s.data.toList)) (ei ws nx wr (fun s=>aB.fa s.data.toList))/\Kept R w w':=by
 go_in
 go_wp2_with fail
 refine (Uc R A ws nx wr w h).mono ?_;rintro e w1 ⟨rfl,f,c⟩;go_wp2;go_ret;exact⟨rfl,f,c⟩
theorem Ge(R A:U8)(ws:U5 U4)(nx:U8)(wr:U7)(w:Vh)(h:RS w R A ws nx wr):
  Vk prog 88 #[.pointer (Ve ⟨R,0,Vd⟩)] w fun e w'=>e=.returned (.int .i64 (fg ws nx wr (fun s=>aB.isNum s.data.toList) (fun s=>aB.cF s.data.toList)))/\RS w' R A ws (ek ws nx wr (fun s=>aB.isNum s.data.toList)) (ei ws nx wr (fun s=>aB.isNum s.data.toList))/\Kept R w w':=by
 go_in
 go_wp2_with fail
 refine (To R A ws nx wr w h).mono ?_;rintro e w1 ⟨rfl,f,c⟩;go_wp2;go_ret;exact⟨rfl,f,c⟩
theorem yh(R A:U8)(ws:U5 U4)(nx:U8)(wr:U7)(w:Vh)(h:RS w R A ws nx wr):
  Vk prog 84 #[.pointer (Ve ⟨R,0,Vd⟩)] w fun e w'=>e=.returned (.int .i64 (fg ws nx wr (fun s=>eL s 1 9) (fun s=>aB.cF s.data.toList)))/\RS w' R A ws (ek ws nx wr (fun s=>eL s 1 9)) (ei ws nx wr (fun s=>eL s 1 9))/\Kept R w w':=by
 go_in
 go_wp2_with fail
 refine (yt 1 9 R A ws nx wr w h).mono ?_;rintro e w1 ⟨rfl,f,c⟩;go_wp2;go_ret;exact⟨rfl,f,c⟩
theorem wh(R A:U8)(ws:U5 U4)(nx:U8)(wr:U7)(w:Vh)(h:RS w R A ws nx wr):
  Vk prog 86 #[.pointer (Ve ⟨R,0,Vd⟩)] w fun e w'=>e=.returned (.int .i64 (fg ws nx wr (fun s=>eL s 1 1048320) (fun s=>aB.cF s.data.toList)))/\RS w' R A ws (ek ws nx wr (fun s=>eL s 1 1048320)) (ei ws nx wr (fun s=>eL s 1 1048320))/\Kept R w w':=by
 go_in
 go_wp2_with fail
 refine (yt 1 1048320 R A ws nx wr w h).mono ?_;rintro e w1 ⟨rfl,f,c⟩;go_wp2;go_ret;exact⟨rfl,f,c⟩
theorem Cf(R A:U8)(ws:U5 U4)(nx:U8)(wr:U7)(w:Vh)(h:RS w R A ws nx wr):
  Vk prog 192 #[.pointer (Ve ⟨R,0,Vd⟩)] w fun e w'=>e=.returned (.int .i64 (fg ws nx wr (fun s=>eL s 1 99) (fun s=>aB.cF s.data.toList)))/\RS w' R A ws (ek ws nx wr (fun s=>eL s 1 99)) (ei ws nx wr (fun s=>eL s 1 99))/\Kept R w w':=by
 go_in
 go_wp2_with fail
 refine (yt 1 99 R A ws nx wr w h).mono ?_;rintro e w1 ⟨rfl,f,c⟩;go_wp2;go_ret;exact⟨rfl,f,c⟩
theorem RS.other{v:Vi}(h:RS w R A ws nx wr)(f:b≠R)(l:0<ws.length->b≠A):RS (w.setCell ⟨b,o,Vd⟩ v) R A ws nx wr:=by
 have g:∀ j:U8,(w.setCell ⟨b,o,Vd⟩ v).cell? ⟨R,j,Vd⟩=w.cell? ⟨R,j,Vd⟩:=fun j=>Y7 w ⟨b,o,Vd⟩ ⟨R,j,Vd⟩ v f
 refine⟨(g 0).trans h.c0,(g 1).trans h.c1,(g 2).trans h.c2,(zF ..).trans h.f1,(zF ..).trans h.f2,h.ne,fun i c=>?_,h.len,h.ve,h.short⟩;exact (Y7 w ⟨b,o,Vd⟩ ⟨A,i,Vd⟩ v (l UU)).trans (h.rows i c)
theorem RS.lt(h:RS w R A ws nx wr):R<w.heap.size/\(0<ws.length->A<w.heap.size) :=
 ⟨Vr _ ⟨R,0,Vd⟩ h.c0,fun c=>Vr _ ⟨A,0,Vd⟩ (h.rows 0 c)⟩
theorem Kept.aO(h:Kept R w w')(g:w.heap.size<=b)(v:Vi):Kept R w (w'.setCell ⟨b,o,Vd⟩ v) :=
 ⟨(Below.setCell (B:=0) (Below.refl 0 w') (p:=⟨b,o,Vd⟩) (zN _) v).os.trans h.os,(Below.setCell (B:=0) (Below.refl 0 w') (p:=⟨b,o,Vd⟩) (zN _) v).tape.trans h.tape,(Below.setCell (B:=0) (Below.refl 0 w') (p:=⟨b,o,Vd⟩) (zN _) v).output.trans h.output,Vq h.size (Below.setCell (B:=0) (Below.refl 0 w') (p:=⟨b,o,Vd⟩) (zN _) v).size,fun k f c=>(Below.heap_setCell w' ⟨b,o,Vd⟩ v k (show k≠b by omega)).trans (h.block k f c)⟩
theorem Kept.frozen(h:Kept R w w')(c:b≠R)(f:b<w.heap.size):w'.frozen? ⟨b,o,Vd⟩=w.frozen? ⟨b,o,Vd⟩:=WU (w:=w) (h.block b f c)
def JI(ws:U5 U4)(nx:U8)(wr:U7)(B C:U4->U7):U8:=ek ws (ek ws nx wr B) (ei ws nx wr B) C
def JH(ws:U5 U4)(nx:U8)(wr:U7)(B C:U4->U7):U7:=ei ws (ek ws nx wr B) (ei ws nx wr B) C
theorem yg(R A:U8)(ws:U5 U4)(nx:U8)(wr:U7)(w:Vh)(h:RS w R A ws nx wr)(C:Env w)(M:10<=R):
  Vk prog 90 #[.pointer (Ve ⟨R,0,Vd⟩)] w fun e w'=>e=.returned (.agg #[.int .i64 (fg ws nx wr bB dL),.int .i64 (fg ws (ek ws nx wr bB) (ei ws nx wr bB) bB dL)])/\RS w' R A ws (JI ws nx wr bB bB) (JH ws nx wr bB bB)/\Kept R w w':=by
 have N:=hide C;clear C
 go_in
 go_wp2_with fail
 obtain⟨L,g⟩:=h.lt;obtain⟨X,f⟩:∃ X,X=w.alloc (.cells #[.int .i64 0,.int .i64 0] 60):=⟨_,rfl⟩;rw[<- f];have n:Vj w.heap.size w X:=by rw[f];exact (zr _ _).alloc (zq _) _
 have y:X.cell? ⟨w.heap.size,0,Vd⟩=Ve (.int .i64 0):=by rw[f];simp
 have x:X.cell? ⟨w.heap.size,1,Vd⟩=Ve (.int .i64 0):=by rw[f];simp
 have t:∀ j:U8,X.frozen? ⟨w.heap.size,j,Vd⟩=Vf:=fun j=>by rw[f];simp
 have I:w.heap.size<X.heap.size:=by rw[f];simp
 clear f;have q:=(aJ N).later n;refine (Jo R A ws nx wr X (h.aD n) q).mono ?_;rintro e w1 ⟨rfl,E,z⟩;have F:=q.kept z M
 go_wp2_with fail
 refine (Jo R A ws _ _ w1 E F).mono ?_;rintro e w2 ⟨rfl,D,K⟩;have c:=z.trans K;have H:=c.cell (b:=w.heap.size) (o:=0) UU y;have G:=c.cell (b:=w.heap.size) (o:=1) UU x;have S:∀ j:U8,w2.frozen? ⟨w.heap.size,j,Vd⟩=Vf:=fun j=>(c.frozen UU I).trans (t j)
 have J:=(Kept.aD (R:=R) n).trans c;have O:=hide D;clear E D F q y x t;go_wp2;refine bodyPost_ret (v:=.agg #[.int .i64 (fg ws nx wr bB dL),.int .i64 (fg ws (ek ws nx wr bB) (ei ws nx wr bB) bB dL)]) (by simp[results,results90,go_sem,H,G]) rfl ⟨rfl,?_,?_⟩
 ·exact ((aJ O).other UU (fun l=>by have:=g l;omega)).other UU (fun l=>by have:=g l;omega)
 ·exact (J.aO (zq _) _).aO (zq _) _
def bI(s:U4):U7:=aB.fa s.data.toList
def dE(s:U4):U7:=eL s 1 9
def cL(s:U4):U9:=aB.cF s.data.toList
def dI(ws:U5 U4)(B:U4->U7)(st:U8 × U7):U8 × U7:=(ek ws st.1 st.2 B,ei ws st.1 st.2 B)
def aQ(ws:U5 U4)(c:U5 (U4->U7))(st:U8 × U7):U8 × U7:=c.foldl (fun st B=>dI ws B st) st
def gV(ws:U5 U4)(st:U8 × U7):U4:=mq ws st.1 st.2
def bT(ws:U5 U4)(st:U8 × U7)(B:U4->U7)(V:U4->U9):U9:=fg ws st.1 st.2 B V
theorem Ce(R A:U8)(ws:U5 U4)(st:U8 × U7)(w:Vh)(h:RS w R A ws st.1 st.2)(F:Env w)(q:10<=R):
  Vk prog 85 #[.pointer (Ve ⟨R,0,Vd⟩)] w fun e w' =>
   e=.returned (.agg #[.string (gV ws st),.int .i64 (bT ws (aQ ws [bI] st) dE cL),.int .i64 (bT ws (aQ ws [bI,dE] st) bB dL),.int .i64 (bT ws (aQ ws [bI,dE,bB] st) bB dL)]) /\
   RS w' R A ws (aQ ws [bI,dE,bB,bB] st).1 (aQ ws [bI,dE,bB,bB] st).2/\Kept R w w':=by
 have HE:=hide F;clear F
 go_in
 go_wp2_with fail
 obtain⟨W,g⟩:=h.lt;obtain⟨X,f⟩:∃ X,X=w.alloc (.cells #[.string ⟨#[]⟩,.int .i64 0,.int .i64 0,.int .i64 0] 151):=⟨_,rfl⟩;rw[<- f];have n:Vj w.heap.size w X:=by rw[f];exact (zr _ _).alloc (zq _) _
 have C:X.cell? ⟨w.heap.size,0,Vd⟩=Ve (.string ⟨#[]⟩):=by rw[f];simp
 have z:X.cell? ⟨w.heap.size,1,Vd⟩=Ve (.int .i64 0):=by rw[f];simp
 have y:X.cell? ⟨w.heap.size,2,Vd⟩=Ve (.int .i64 0):=by rw[f];simp
 have x:X.cell? ⟨w.heap.size,3,Vd⟩=Ve (.int .i64 0):=by rw[f];simp
 have t:∀ j:U8,X.frozen? ⟨w.heap.size,j,Vd⟩=Vf:=fun j=>by rw[f];simp
 have T:w.heap.size<X.heap.size:=by rw[f];simp
 clear f;have J:=(aJ HE).later n;refine (sQ R A ws st.1 st.2 X (h.aD n)).mono ?_;rintro e w1 ⟨rfl,I,E⟩;have L:=J.kept E q
 go_wp2_with fail
 refine (yh R A ws _ _ w1 I).mono ?_;rintro e w2 ⟨rfl,H,D⟩;have K:=L.kept D q
 go_wp2_with fail
 refine (yg R A ws _ _ w2 H K q).mono ?_;rintro e w3 ⟨rfl,G,V⟩;have c:=(E.trans D).trans V;have S:=c.cell (b:=w.heap.size) (o:=0) UU C;have O:=c.cell (b:=w.heap.size) (o:=1) UU z;have N:=c.cell (b:=w.heap.size) (o:=2) UU y;have M:=c.cell (b:=w.heap.size) (o:=3) UU x;have yf:∀ j:U8,w3.frozen? ⟨w.heap.size,j,Vd⟩=Vf:=fun j=>(c.frozen UU T).trans (t j)
 have U:=(Kept.aD (R:=R) n).trans c;have H3:=hide G;clear I H G L K J C z y x t;go_wp2;refine bodyPost_ret (v:=.agg #[.string (gV ws st),.int .i64 (bT ws (aQ ws [bI] st) dE cL),.int .i64 (bT ws (aQ ws [bI,dE] st) bB dL),.int .i64 (bT ws (aQ ws [bI,dE,bB] st) bB dL)]) (by simp[results,results85,go_sem,S,O,N,M];exact⟨rfl,rfl,rfl,rfl⟩) rfl ⟨rfl,?_,?_⟩
 ·exact ((((aJ H3).other UU (fun l=>by have:=g l;omega)).other UU (fun l=>by have:=g l;omega)).other UU (fun l=>by have:=g l;omega)).other UU (fun l=>by have:=g l;omega)
 ·exact (((U.aO (zq _) _).aO (zq _) _).aO (zq _) _).aO (zq _) _
theorem Ru(R A:U8)(ws:U5 U4)(st:U8 × U7)(w:Vh)(h:RS w R A ws st.1 st.2)(G:cB ws.length (aQ ws [bI] st).1 (aQ ws [bI] st).2=Vf):
  Vk prog 89 #[.pointer (Ve ⟨R,0,Vd⟩)] w fun e w' =>
   e=.returned (.agg #[.string (gV ws st),.bool Vf,.int .i64 0,.int .i64 0])/\RS w' R A ws (aQ ws [bI] st).1 (aQ ws [bI] st).2/\Kept R w w':=by
 go_in
 go_wp2_with fail
 obtain⟨S,f⟩:=h.lt;obtain⟨X,c⟩:∃ X,X=w.alloc (.cells #[.string ⟨#[]⟩,.bool Vf,.int .i64 0,.int .i64 0] 170):=⟨_,rfl⟩;rw[<- c];have H:Vj w.heap.size w X:=by rw[c];exact (zr _ _).alloc (zq _) _
 have E:X.cell? ⟨w.heap.size,0,Vd⟩=Ve (.string ⟨#[]⟩):=by rw[c];simp
 have D:X.cell? ⟨w.heap.size,1,Vd⟩=Ve (.bool Vf):=by rw[c];simp
 have C:X.cell? ⟨w.heap.size,2,Vd⟩=Ve (.int .i64 0):=by rw[c];simp
 have z:X.cell? ⟨w.heap.size,3,Vd⟩=Ve (.int .i64 0):=by rw[c];simp
 have y:∀ j:U8,X.frozen? ⟨w.heap.size,j,Vd⟩=Vf:=fun j=>by rw[c];simp
 have N:w.heap.size<X.heap.size:=by rw[c];simp
 clear c;refine (sQ R A ws st.1 st.2 X (h.aD H)).mono ?_;rintro e w1 ⟨rfl,I,F⟩;have V:=F.size
 go_wp2_with fail
 obtain⟨Y,g⟩:∃ Y,Y=w1.alloc (.cells #[.string (mq ws st.1 st.2),.bool Vf,.int .i64 0,.int .i64 0] 170):=⟨_,rfl⟩;rw[<- g];have x:Vj w1.heap.size w1 Y:=by rw[g];exact (zr _ _).alloc (zq _) _
 have v0:Y.cell? ⟨w1.heap.size,0,Vd⟩=Ve (.string (mq ws st.1 st.2)):=by rw[g];simp
 have v1:Y.cell? ⟨w1.heap.size,1,Vd⟩=Ve (.bool Vf):=by rw[g];simp
 have v2:Y.cell? ⟨w1.heap.size,2,Vd⟩=Ve (.int .i64 0):=by rw[g];simp
 have v3:Y.cell? ⟨w1.heap.size,3,Vd⟩=Ve (.int .i64 0):=by rw[g];simp
 have ys:w1.heap.size<Y.heap.size:=by rw[g];simp
 clear g;have t:=F.trans (Kept.aD (R:=R) x);have M:=t.cell (b:=w.heap.size) (o:=0) UU E;have L:=t.cell (b:=w.heap.size) (o:=1) UU D;have K:=t.cell (b:=w.heap.size) (o:=2) UU C;have J:=t.cell (b:=w.heap.size) (o:=3) UU z;have W:∀ j:U8,Y.frozen? ⟨w.heap.size,j,Vd⟩=Vf:=fun j=>(t.frozen UU N).trans (y j)
 have q:=I.aD x;refine (im R A ws _ _ Y q).mono ?_;rintro e w2 ⟨rfl,n,rfl⟩;have T:Hid (cB ws.length (ek ws st.1 st.2 fun s=>aB.fa s.data.toList) (ei ws st.1 st.2 fun s=>aB.fa s.data.toList)=Vf):=G;rw[T.out];have O:=(Kept.aD (R:=R) H).trans t;have U:=hide q;clear I q E D C z y G;go_wp2;refine bodyPost_ret (v:=.agg #[.string (gV ws st),.bool Vf,.int .i64 0,.int .i64 0]) (by simp[results,results89,go_sem,M,L,K,J];rfl) rfl ⟨rfl,?_,?_⟩
 ·exact (((((aJ U).drewN _).other UU (fun l=>by have:=f l;omega)).other UU (fun l=>by have:=f l;omega)).other UU (fun l=>by have:=f l;omega)).other UU (fun l=>by have:=f l;omega)
 ·exact ((((O.drewN _).aO (zq _) _).aO (zq _) _).aO (zq _) _).aO (zq _) _
theorem Sv(R A:U8)(ws:U5 U4)(st:U8 × U7)(w:Vh)(h:RS w R A ws st.1 st.2)(he:Env w)(N:10<=R)(M:cB ws.length (aQ ws [bI] st).1 (aQ ws [bI] st).2=Vg):
  Vk prog 89 #[.pointer (Ve ⟨R,0,Vd⟩)] w fun e w' =>
   e=.returned (.agg #[.string (gV ws st),.bool Vg,.int .i64 (bT ws (aQ ws [bI] st) bB dL),.int .i64 (bT ws (aQ ws [bI,bB] st) bB dL)])/\RS w' R A ws (aQ ws [bI,bB,bB] st).1 (aQ ws [bI,bB,bB] st).2/\Kept R w w':=by
 have HE:=hide he;clear he
 go_in
 go_wp2_with fail
 obtain⟨ac,f⟩:=h.lt;obtain⟨X,x⟩:∃ X,X=w.alloc (.cells #[.string ⟨#[]⟩,.bool Vf,.int .i64 0,.int .i64 0] 170):=⟨_,rfl⟩;rw[<- x];have J:Vj w.heap.size w X:=by rw[x];exact (zr _ _).alloc (zq _) _
 have W:X.cell? ⟨w.heap.size,0,Vd⟩=Ve (.string ⟨#[]⟩):=by rw[x];simp
 have V:X.cell? ⟨w.heap.size,1,Vd⟩=Ve (.bool Vf):=by rw[x];simp
 have U:X.cell? ⟨w.heap.size,2,Vd⟩=Ve (.int .i64 0):=by rw[x];simp
 have T:X.cell? ⟨w.heap.size,3,Vd⟩=Ve (.int .i64 0):=by rw[x];simp
 have S:∀ j:U8,X.frozen? ⟨w.heap.size,j,Vd⟩=Vf:=fun j=>by rw[x];simp
 have xs:w.heap.size<X.heap.size:=by rw[x];simp
 clear x;have eX:=(aJ HE).later J;refine (sQ R A ws st.1 st.2 X (h.aD J)).mono ?_;rintro e w1 ⟨rfl,h1,L⟩;have z1:=L.size;have e1:=eX.kept L N
 go_wp2_with fail
 obtain⟨Y,t⟩:∃ Y,Y=w1.alloc (.cells #[.string (mq ws st.1 st.2),.bool Vf,.int .i64 0,.int .i64 0] 170):=⟨_,rfl⟩;rw[<- t];have l:Vj w1.heap.size w1 Y:=by rw[t];exact (zr _ _).alloc (zq _) _
 have I:Y.cell? ⟨w1.heap.size,0,Vd⟩=Ve (.string (mq ws st.1 st.2)):=by rw[t];simp
 have H:Y.cell? ⟨w1.heap.size,1,Vd⟩=Ve (.bool Vf):=by rw[t];simp
 have v2:Y.cell? ⟨w1.heap.size,2,Vd⟩=Ve (.int .i64 0):=by rw[t];simp
 have G:Y.cell? ⟨w1.heap.size,3,Vd⟩=Ve (.int .i64 0):=by rw[t];simp
 have F:∀ j:U8,Y.frozen? ⟨w1.heap.size,j,Vd⟩=Vf:=fun j=>by rw[t];simp
 have ys:w1.heap.size<Y.heap.size:=by rw[t];simp
 clear t;have kY:=L.trans (Kept.aD (R:=R) l);have eY:=e1.later l;have z:=h1.aD l;refine (im R A ws _ _ Y z).mono ?_;rintro e w2 ⟨rfl,n,c⟩;have HM:Hid (cB ws.length (ek ws st.1 st.2 fun s=>aB.fa s.data.toList) (ei ws st.1 st.2 fun s=>aB.fa s.data.toList)=Vg):=M;rw[HM.out];have O:=z.drewN n;rw[<- c] at O;have k2:Kept R X w2:=by rw[c];exact kY.drewN n
 have e2:Env w2:=by rw[c];exact eY.drewN n
 have I:w2.cell? ⟨w1.heap.size,0,Vd⟩=Ve (.string (mq ws st.1 st.2)):=by rw[c];exact I
 have H:w2.cell? ⟨w1.heap.size,1,Vd⟩=Ve (.bool Vf):=by rw[c];exact H
 have v2:w2.cell? ⟨w1.heap.size,2,Vd⟩=Ve (.int .i64 0):=by rw[c];exact v2
 have G:w2.cell? ⟨w1.heap.size,3,Vd⟩=Ve (.int .i64 0):=by rw[c];exact G
 have F:∀ j:U8,w2.frozen? ⟨w1.heap.size,j,Vd⟩=Vf:=fun j=>by rw[c];exact F j
 have K:w1.heap.size<w2.heap.size:=by rw[c];exact ys
 have ad:=hide M;clear c z eY kY l ys h1 M;have H2:=hide O;have ae:=hide e2;clear O e2 eX e1
 go_wp2_with fail
 have C:w1.heap.size≠R:=UU
 have y:=(aJ H2).other (b:=w1.heap.size) (o:=1) (v:=.bool Vg) C (fun g=>by have:=f g;omega);obtain⟨Z,q⟩:∃ Z,Z=w2.setCell ⟨w1.heap.size,1,Vd⟩ (.bool Vg):=⟨_,rfl⟩;rw[<- q] at y ⊢;have u0:Z.cell? ⟨w1.heap.size,0,Vd⟩=Ve (.string (mq ws st.1 st.2)):=by rw[q];exact (zS _ _ _ _ UV).trans I
 have u1:Z.cell? ⟨w1.heap.size,1,Vd⟩=Ve (.bool Vg):=by rw[q];exact zm _ _ _ H
 have u2:Z.cell? ⟨w1.heap.size,2,Vd⟩=Ve (.int .i64 0):=by rw[q];exact (zS _ _ _ _ UV).trans v2
 have u3:Z.cell? ⟨w1.heap.size,3,Vd⟩=Ve (.int .i64 0):=by rw[q];exact (zS _ _ _ _ UV).trans G
 have uf:∀ j:U8,Z.frozen? ⟨w1.heap.size,j,Vd⟩=Vf:=fun j=>by rw[q];exact (zF ..).trans (F j)
 have kZ:Kept R X Z:=by rw[q];exact k2.aO UU _
 have zs:w1.heap.size<Z.heap.size:=by rw[q];simpa using K
 have eZ:Env Z:=(aJ HE).kept (((Kept.aD (R:=R) J)).trans kZ) N;clear q I H v2 G F;refine (yg R A ws _ _ Z y eZ N).mono ?_;rintro e w3 ⟨rfl,h3,E⟩;have D:=kZ.trans E;have y0:=D.cell (b:=w.heap.size) (o:=0) UU W;have y1:=D.cell (b:=w.heap.size) (o:=1) UU V;have y2:=D.cell (b:=w.heap.size) (o:=2) UU U;have y3:=D.cell (b:=w.heap.size) (o:=3) UU T;have yf:∀ j:U8,w3.frozen? ⟨w.heap.size,j,Vd⟩=Vf:=fun j=>(D.frozen UU xs).trans (S j)
 have q0:=E.cell (b:=w1.heap.size) (o:=0) C u0;have q1:=E.cell (b:=w1.heap.size) (o:=1) C u1;have q2:=E.cell (b:=w1.heap.size) (o:=2) C u2;have q3:=E.cell (b:=w1.heap.size) (o:=3) C u3;have qf:∀ j:U8,w3.frozen? ⟨w1.heap.size,j,Vd⟩=Vf:=fun j=>(E.frozen C zs).trans (uf j)
 have kt:=(Kept.aD (R:=R) J).trans D;have H3:=hide h3;have ab:w.heap.size≠w1.heap.size:=UU
 have aa:w1.heap.size≠w.heap.size:=UU
 clear h3 y eZ W V U T S u0 u1 u2 u3 uf;go_wp2;refine bodyPost_ret (v:=.agg #[.string (gV ws st),.bool Vg,.int .i64 (bT ws (aQ ws [bI] st) bB dL),.int .i64 (bT ws (aQ ws [bI,bB] st) bB dL)]) (by simp[results,results89,go_sem,y0,y1,y2,y3];exact⟨rfl,rfl,rfl⟩) rfl ⟨rfl,?_,?_⟩
 ·exact ((((((aJ H3).other UU (fun g=>by have:=f g;omega)).other UU (fun g=>by have:=f g;omega)).other UU (fun g=>by have:=f g;omega)).other UU (fun g=>by have:=f g;omega)).other UU (fun g=>by have:=f g;omega)).other UU (fun g=>by have:=f g;omega)
 ·exact (((((kt.aO UU _).aO UU _).aO (zq _) _).aO (zq _) _).aO (zq _) _).aO (zq _) _
theorem SC(f:Vi)(R A:U8)(ws:U5 U4)(nx:U8)(wr:U7)(w:Vh)(h:RS w R A ws nx wr)(hm:cB ws.length nx wr=Vf):
  Vk prog 193 #[.pointer (Ve ⟨R,0,Vd⟩),f] w fun e w'=>e=.returned (e9 [])/\RS w' R A ws nx Vg/\Kept R w w':=by
 go_in
 go_wp2_with fail
 obtain⟨X,z⟩:∃ X,X=(w.alloc (.cells #[.bool Vf,.bool Vf,.bool Vf,.bool Vf,.bool Vf,.bool Vf,.bool Vf] 160)).alloc (.cells #[.bool Vf,.bool Vf,.bool Vf,.bool Vf,.bool Vf,.bool Vf,.bool Vf] 160):=⟨_,rfl⟩;rw[<- z];obtain⟨M,l⟩:=h.lt;have C:Vj w.heap.size w X:=by rw[z];exact ((zr _ _).alloc (zq _) _).alloc UV _
 have hZ:w.heap.size+2=X.heap.size:=by rw[z];simp
 have t:DS X w.heap.size []:=by
  rw[z];refine⟨?_,?_,?_,?_,?_,?_,?_,fun j=>?_⟩ <;> simp[aI]
 have x:DS X (w.heap.size+1) []:=by
  rw[z];refine⟨?_,?_,?_,?_,?_,?_,?_,fun j=>?_⟩ <;> simp[aI]
 clear z;refine (im R A ws nx wr X (h.aD C)).mono ?_;rintro e w1 ⟨rfl,n,y⟩;have D:RS w1 R A ws nx wr:=by rw[y];exact (h.aD C).drewN n
 have L:Kept R w w1:=by rw[y];exact (Kept.aD C).drewN n
 have c:DS w1 w.heap.size []:=by rw[y];exact⟨t.c0,t.c1,t.c2,t.c3,t.c4,t.c5,t.c6,t.f⟩
 have g:DS w1 (w.heap.size+1) []:=by rw[y];exact⟨x.c0,x.c1,x.c2,x.c3,x.c4,x.c5,x.c6,x.f⟩
 have N:X.heap.size=w1.heap.size:=by rw[y];rfl
 have c2:=D.c2;have f2:=D.f2;clear y t x;have q0:=g.c0;have W:=g.c1;have V:=g.c2;have U:=g.c3;have T:=g.c4;have S:=g.c5;have O:=g.c6;have K:=c.c0;have J:=c.c1;have I:=c.c2;have H:=c.c3;have G:=c.c4;have F:=c.c5;have E:=c.c6;have fR:=c.f;have fD:=g.f;have n1:R≠w.heap.size:=UU
 have n2:R≠w.heap.size+1:=UU
 go_wp2;refine bodyPost_ret (v:=e9 []) (by simp[results,results193,go_sem,e9,aI,K,J,I,H,G,F,E]) rfl ⟨rfl,?_,?_⟩
 ·exact (((((((D.bad.other UU (fun q=>by have:=l q;omega)).other UU (fun q=>by have:=l q;omega)).other UU (fun q=>by have:=l q;omega)).other UU (fun q=>by have:=l q;omega)).other UU (fun q=>by have:=l q;omega)).other UU (fun q=>by have:=l q;omega)).other UU (fun q=>by have:=l q;omega))
 ·exact (((((((L.setCell _ _).aO (zq _) _).aO (zq _) _).aO (zq _) _).aO (zq _) _).aO (zq _) _).aO (zq _) _).aO (zq _) _
theorem Pn{acc0:U5 U9}(acc:U5 U9)(h:DS w b acc0):DS (((((((w.setCell ⟨b,0,Vd⟩ (.bool (aI acc 0))).setCell ⟨b,1,Vd⟩ (.bool (aI acc 1))).setCell ⟨b,2,Vd⟩ (.bool (aI acc 2))).setCell ⟨b,3,Vd⟩ (.bool (aI acc 3))).setCell ⟨b,4,Vd⟩ (.bool (aI acc 4))).setCell ⟨b,5,Vd⟩ (.bool (aI acc 5))).setCell ⟨b,6,Vd⟩ (.bool (aI acc 6))) b acc:=by
 have s:∀ (x:Vh) (o:U8) (v u:Vi),x.cell? ⟨b,o,Vd⟩=Ve u->(x.setCell ⟨b,o,Vd⟩ v).cell? ⟨b,o,Vd⟩=Ve v:=fun x o v u c=>zm x ⟨b,o,Vd⟩ v c
 have o:∀ (x:Vh) (i j:U8) (v:Vi),i≠j->(x.setCell ⟨b,i,Vd⟩ v).cell? ⟨b,j,Vd⟩=x.cell? ⟨b,j,Vd⟩:=fun x i j v _=>zS _ _ _ _ UV
 refine⟨?_,?_,?_,?_,?_,?_,?_,fun j=>?_⟩
 ·rw[o _ 6 0 _ UW,o _ 5 0 _ UW,o _ 4 0 _ UW,o _ 3 0 _ UW,o _ 2 0 _ UW,o _ 1 0 _ UW];refine s _ _ _ (.bool (aI acc0 0)) ?_;exact h.c0
 ·rw[o _ 6 1 _ UW,o _ 5 1 _ UW,o _ 4 1 _ UW,o _ 3 1 _ UW,o _ 2 1 _ UW];refine s _ _ _ (.bool (aI acc0 1)) ?_;rw[o _ 0 1 _ UW];exact h.c1
 ·rw[o _ 6 2 _ UW,o _ 5 2 _ UW,o _ 4 2 _ UW,o _ 3 2 _ UW];refine s _ _ _ (.bool (aI acc0 2)) ?_;rw[o _ 1 2 _ UW,o _ 0 2 _ UW];exact h.c2
 ·rw[o _ 6 3 _ UW,o _ 5 3 _ UW,o _ 4 3 _ UW];refine s _ _ _ (.bool (aI acc0 3)) ?_;rw[o _ 2 3 _ UW,o _ 1 3 _ UW,o _ 0 3 _ UW];exact h.c3
 ·rw[o _ 6 4 _ UW,o _ 5 4 _ UW];refine s _ _ _ (.bool (aI acc0 4)) ?_;rw[o _ 3 4 _ UW,o _ 2 4 _ UW,o _ 1 4 _ UW,o _ 0 4 _ UW];exact h.c4
 ·rw[o _ 6 5 _ UW];refine s _ _ _ (.bool (aI acc0 5)) ?_;rw[o _ 4 5 _ UW,o _ 3 5 _ UW,o _ 2 5 _ UW,o _ 1 5 _ UW,o _ 0 5 _ UW];exact h.c5
 ·refine s _ _ _ (.bool (aI acc0 6)) ?_;rw[o _ 5 6 _ UW,o _ 4 6 _ UW,o _ 3 6 _ UW,o _ 2 6 _ UW,o _ 1 6 _ UW,o _ 0 6 _ UW];exact h.c6
 ·simp only[World.frozen?_setCell];exact h.f j
def JF(b:U7)(s:U4)(e:Ending):Prop:=∃ acc,e=.returned (e9 acc)/\(b=Vg->aB.iq s=Ve acc)
theorem NG(w:Vh)(b:U8)(y t v2 q n l f:U7)(c o:U8)(h:c≠b):(((((((w.setCell ⟨b,0,Vd⟩ (.bool y)).setCell ⟨b,1,Vd⟩ (.bool t)).setCell ⟨b,2,Vd⟩ (.bool v2)).setCell ⟨b,3,Vd⟩ (.bool q)).setCell ⟨b,4,Vd⟩ (.bool n)).setCell ⟨b,5,Vd⟩ (.bool l)).setCell ⟨b,6,Vd⟩ (.bool f)).cell? ⟨c,o,Vd⟩=w.cell? ⟨c,o,Vd⟩:=by
 have g:∀ (x:Vh) (j:U8) (v:Vi),(x.setCell ⟨b,j,Vd⟩ v).cell? ⟨c,o,Vd⟩=x.cell? ⟨c,o,Vd⟩:=fun x j v=>Y7 x ⟨b,j,Vd⟩ ⟨c,o,Vd⟩ v (Yf h)
 rw[g,g,g,g,g,g,g]
theorem Tp(b:U7)(R A:U8)(ws:U5 U4)(nx:U8)(wr:U7)(w:Vh)(h:RS w R A ws nx wr)(he:Env w)(hm:cB ws.length nx wr=Vg)(J:nx<ws.length)(hb:aB.dU ws[nx]=b):
  Vk prog 193 #[.pointer (Ve ⟨R,0,Vd⟩),.func (.func 194) #[] #[]] w fun e w'=>JF b ws[nx] e/\RS w' R A ws (if b then nx+1 else nx) (if b then wr else Vg)/\Kept R w w':=by
 have hi:(nx:U9)<(ws.length:U9):=UU
 have af:(0:U9)<=(nx:U9):=Int.natCast_nonneg _;have aa:ws[nx].size<=160:=h.short _ (zg J);have ac:=hide aa;have HE:=hide he;clear aa he
 go_in
 go_wp2_with fail
 obtain⟨X,T⟩:∃ X,X=(w.alloc (.cells #[.bool Vf,.bool Vf,.bool Vf,.bool Vf,.bool Vf,.bool Vf,.bool Vf] 160)).alloc (.cells #[.bool Vf,.bool Vf,.bool Vf,.bool Vf,.bool Vf,.bool Vf,.bool Vf] 160):=⟨_,rfl⟩;rw[<- T];obtain⟨ag,c⟩:=h.lt;have hB:Vj w.heap.size w X:=by rw[T];exact ((zr _ _).alloc (zq _) _).alloc UV _
 have hZ:w.heap.size+2=X.heap.size:=by rw[T];simp
 have H:DS X w.heap.size []:=by
  rw[T];refine⟨?_,?_,?_,?_,?_,?_,?_,fun j=>?_⟩ <;> simp[aI]
 have I:DS X (w.heap.size+1) []:=by
  rw[T];refine⟨?_,?_,?_,?_,?_,?_,?_,fun j=>?_⟩ <;> simp[aI]
 clear T;refine (im R A ws nx wr X (h.aD hB)).mono ?_;rintro e w1 ⟨rfl,n,O⟩;have G:RS w1 R A ws nx wr:=by rw[O];exact (h.aD hB).drewN n
 have k1:Kept R w w1:=by rw[O];exact (Kept.aD hB).drewN n
 have L:DS w1 w.heap.size []:=by rw[O];exact⟨H.c0,H.c1,H.c2,H.c3,H.c4,H.c5,H.c6,H.f⟩
 have M:DS w1 (w.heap.size+1) []:=by rw[O];exact⟨I.c0,I.c1,I.c2,I.c3,I.c4,I.c5,I.c6,I.f⟩
 have z1:X.heap.size=w1.heap.size:=by rw[O];rfl
 have ad:Hid (Env w1):=by show Env w1;rw[O];exact ((aJ HE).later hB).drewN n
 have c0:=G.c0;have c1:=G.c1;have cr:=G.rows nx J;have g:=G.len;clear O
 go_wp2_with fail
 have ab:w1.heap.size≠R:=by have:=G.lt.1;omega
 have ae:w1.heap.size≠A:=by have:=G.lt.2 UU;omega
 go_region_held3 (fun w'=>w'.cell? ⟨R,0,Vd⟩=Ve (.slice (Ve ⟨A,0,Vd⟩) ws.length ws.length)/\w'.cell? ⟨R,1,Vd⟩=Ve (.int .i64 nx)/\w'.cell? ⟨A,nx,Vd⟩=Ve (.string ws[nx]))
  (first
   |go_keep
   |(
    go_split_ands
    refine⟨?_,?_,?_⟩
    ·exact cell_later l UX
    ·exact cell_later l UX
    ·exact cell_later l UX)
   |(
    refine⟨?_,?_,?_⟩
    ·exact cell_later ((zr _ _).alloc (zq _) _) (cell_later l c0)
    ·exact cell_later ((zr _ _).alloc (zq _) _) (cell_later l c1)
    ·exact cell_later ((zr _ _).alloc (zq _) _) (cell_later l cr))
   |(
    refine⟨?_,?_,?_⟩
    ·exact (kq _ _ ab.symm).trans (cell_later l (cell_later ((zr _ _).alloc (zq _) _) c0))
    ·exact (kq _ _ ab.symm).trans (cell_later l (cell_later ((zr _ _).alloc (zq _) _) c1))
    ·exact (kq _ _ ae.symm).trans (cell_later l (cell_later ((zr _ _).alloc (zq _) _) cr))))
  ((go_at_call 194;first
   |(
    refine (Iw _ _ ?_ (aJ ac)).mono ?_
    ·exact (aJ ad).later ⟨rfl,rfl,rfl,Vn _,fun _ _=>rfl⟩
    rintro e w4 ⟨⟨acc,rfl,y⟩,l⟩
    simp only[e9])
   |(
    refine (Iw _ _ ?_ (aJ ac)).mono ?_
    ·exact ((aJ ad).later ((zr _ _).alloc (zq _) _)).later ⟨rfl,rfl,rfl,Vn _,fun _ _=>rfl⟩
    rintro e w4 ⟨⟨acc,rfl,y⟩,l⟩;have K:DS w4 w1.heap.size []:=DS.later (by refine⟨?_,?_,?_,?_,?_,?_,?_,fun j=>?_⟩ <;> simp[aI]) l;have t0:=K.c0;have t1:=K.c1;have t2:=K.c2;have t3:=K.c3;have t4:=K.c4;have t5:=K.c5;have t6:=K.c6;have tf:=K.f;have kq:=NG w4 w1.heap.size (aI acc 0) (aI acc 1) (aI acc 2) (aI acc 3) (aI acc 4) (aI acc 5) (aI acc 6);clear K
    simp only[e9])))
 ·obtain⟨Z,C⟩:∃ Z,Z=w4.alloc (.cells #[.bool (aI acc 0),.bool (aI acc 1),.bool (aI acc 2),.bool (aI acc 3),.bool (aI acc 4),.bool (aI acc 5),.bool (aI acc 6)] 160):=⟨_,rfl⟩;rw[<- C];have x:Vj w1.heap.size w1 w4:=⟨l.os,l.tape,l.output,l.size,l.block⟩;have t:Vj w1.heap.size w1 Z:=by rw[C];exact x.trans ((zr _ _).alloc x.size _)
  have D:DS Z w4.heap.size acc:=by
   rw[C];refine⟨?_,?_,?_,?_,?_,?_,?_,fun j=>?_⟩ <;> simp
  have S:w.heap.size+1<w4.heap.size:=by have:=x.size;omega
  have q:=G.aD t;have kZ:=k1.trans (Kept.aD (R:=R) t);have z:=L.later t;have zD:=M.later t;obtain⟨V,hV⟩:∃ V,V=w4.heap.size:=⟨_,rfl⟩;rw[<- hV] at S D ⊢;clear C x t l hV L M H I;rw[hb] at y;have F:=hide y;clear c0 c1 cr y G k1 h;have x1:=q.c1;have x2:=q.c2;have x3:=q.f1;have x4:=q.f2;have q0:=zD.c0;have q1:=zD.c1;have q2:=zD.c2;have q3:=zD.c3;have q4:=zD.c4;have q5:=zD.c5;have q6:=zD.c6;have r0:=z.c0;have r1:=z.c1;have r2:=z.c2;have r3:=z.c3;have r4:=z.c4;have W:=z.c5;have U:=z.c6;have fR:=z.f;have s0:=D.c0;have s1:=D.c1;have s2:=D.c2;have s3:=D.c3;have s4:=D.c4;have s5:=D.c5;have s6:=D.c6;have n1:R≠w.heap.size:=UU
  have n2:R≠w.heap.size+1:=UU
  have n3:R≠V:=UU
  have E:=hide q;clear q z zD D
  cases b
  ·go_wp2;refine bodyPost_ret (v:=e9 []) (by simp[results,results193,go_sem,e9,aI,r0,r1,r2,r3,r4,W,U]) rfl ⟨⟨[],rfl,fun h=>Vc h UW⟩,?_,?_⟩
   ·exact ((((((((aJ E).bad.other UU (fun g=>by have:=c g;omega)).other UU (fun g=>by have:=c g;omega)).other UU (fun g=>by have:=c g;omega)).other UU (fun g=>by have:=c g;omega)).other UU (fun g=>by have:=c g;omega)).other UU (fun g=>by have:=c g;omega)).other UU (fun g=>by have:=c g;omega))
   ·exact (((((((kZ.setCell _ _).aO (zq _) _).aO (zq _) _).aO (zq _) _).aO (zq _) _).aO (zq _) _).aO (zq _) _).aO (zq _) _
  ·go_wp2;refine bodyPost_ret (v:=e9 acc) (by simp[results,results193,go_sem,e9,r0,r1,r2,r3,r4,W,U]) rfl ⟨⟨acc,rfl,fun _=>aJ F trivial⟩,?_,?_⟩
   ·exact (((((((((aJ E).step J).other UU (fun g=>by have:=c g;omega)).other UU (fun g=>by have:=c g;omega)).other UU (fun g=>by have:=c g;omega)).other UU (fun g=>by have:=c g;omega)).other UU (fun g=>by have:=c g;omega)).other UU (fun g=>by have:=c g;omega)).other UU (fun g=>by have:=c g;omega))
   ·exact (((((((kZ.setCell _ _).aO (zq _) _).aO (zq _) _).aO (zq _) _).aO (zq _) _).aO (zq _) _).aO (zq _) _).aO (zq _) _
 ·obtain⟨Z,C⟩:∃ Z,Z=((((((w4.setCell ⟨w1.heap.size,0,Vd⟩ (.bool (aI acc 0))).setCell ⟨w1.heap.size,1,Vd⟩ (.bool (aI acc 1))).setCell ⟨w1.heap.size,2,Vd⟩ (.bool (aI acc 2))).setCell ⟨w1.heap.size,3,Vd⟩ (.bool (aI acc 3))).setCell ⟨w1.heap.size,4,Vd⟩ (.bool (aI acc 4))).setCell ⟨w1.heap.size,5,Vd⟩ (.bool (aI acc 5))).setCell ⟨w1.heap.size,6,Vd⟩ (.bool (aI acc 6)):=⟨_,rfl⟩;rw[<- C];have N:Vj w1.heap.size (w1.alloc (.cells #[.bool Vf,.bool Vf,.bool Vf,.bool Vf,.bool Vf,.bool Vf,.bool Vf] 160)) w4:=⟨l.os,l.tape,l.output,l.size,fun k hk=>l.block k U0⟩;have x:Vj w1.heap.size w1 w4:=((zr w1.heap.size w1).alloc (zq _) _).trans N;clear N;have t:Vj w1.heap.size w1 Z:=by rw[C];exact ((((((x.setCell (zq _) _).setCell (zq _) _).setCell (zq _) _).setCell (zq _) _).setCell (zq _) _).setCell (zq _) _).setCell (zq _) _
  have D:DS Z w1.heap.size acc:=by
   rw[C];exact Pn acc (acc0:=[]) ⟨t0,t1,t2,t3,t4,t5,t6,tf⟩
  have S:w.heap.size+1<w1.heap.size:=UU
  have q:=G.aD t;have kZ:=k1.trans (Kept.aD (R:=R) t);have z:=L.later t;have zD:=M.later t;obtain⟨V,hV⟩:∃ V,V=w1.heap.size:=⟨_,rfl⟩;rw[<- hV] at S D ⊢;clear C x t l hV L M H I t0 t1 t2 t3 t4 t5 t6 tf kq;rw[hb] at y;have F:=hide y;clear c0 c1 cr y G k1 h;have x1:=q.c1;have x2:=q.c2;have x3:=q.f1;have x4:=q.f2;have q0:=zD.c0;have q1:=zD.c1;have q2:=zD.c2;have q3:=zD.c3;have q4:=zD.c4;have q5:=zD.c5;have q6:=zD.c6;have r0:=z.c0;have r1:=z.c1;have r2:=z.c2;have r3:=z.c3;have r4:=z.c4;have W:=z.c5;have U:=z.c6;have fR:=z.f;have s0:=D.c0;have s1:=D.c1;have s2:=D.c2;have s3:=D.c3;have s4:=D.c4;have s5:=D.c5;have s6:=D.c6;have n1:R≠w.heap.size:=UU
  have n2:R≠w.heap.size+1:=UU
  have n3:R≠V:=UU
  have E:=hide q;clear q z zD D
  cases b
  ·go_wp2;refine bodyPost_ret (v:=e9 []) (by simp[results,results193,go_sem,e9,aI,r0,r1,r2,r3,r4,W,U]) rfl ⟨⟨[],rfl,fun h=>Vc h UW⟩,?_,?_⟩
   ·exact ((((((((aJ E).bad.other UU (fun g=>by have:=c g;omega)).other UU (fun g=>by have:=c g;omega)).other UU (fun g=>by have:=c g;omega)).other UU (fun g=>by have:=c g;omega)).other UU (fun g=>by have:=c g;omega)).other UU (fun g=>by have:=c g;omega)).other UU (fun g=>by have:=c g;omega))
   ·exact (((((((kZ.setCell _ _).aO (zq _) _).aO (zq _) _).aO (zq _) _).aO (zq _) _).aO (zq _) _).aO (zq _) _).aO (zq _) _
  ·go_wp2;refine bodyPost_ret (v:=e9 acc) (by simp[results,results193,go_sem,e9,r0,r1,r2,r3,r4,W,U]) rfl ⟨⟨acc,rfl,fun _=>aJ F trivial⟩,?_,?_⟩
   ·exact (((((((((aJ E).step J).other UU (fun g=>by have:=c g;omega)).other UU (fun g=>by have:=c g;omega)).other UU (fun g=>by have:=c g;omega)).other UU (fun g=>by have:=c g;omega)).other UU (fun g=>by have:=c g;omega)).other UU (fun g=>by have:=c g;omega)).other UU (fun g=>by have:=c g;omega))
   ·exact (((((((kZ.setCell _ _).aO (zq _) _).aO (zq _) _).aO (zq _) _).aO (zq _) _).aO (zq _) _).aO (zq _) _).aO (zq _) _
theorem SA(R A:U8)(ws:U5 U4)(nx:U8)(wr:U7)(w:Vh)(h:RS w R A ws nx wr)(l:Env w):
  Vk prog 193 #[.pointer (Ve ⟨R,0,Vd⟩),.func (.func 194) #[] #[]] w fun e w'=>JF (eA ws nx wr aB.dU) (ws.getD nx YN) e/\RS w' R A ws (ek ws nx wr aB.dU) (ei ws nx wr aB.dU)/\Kept R w w':=by
 cases f:cB ws.length nx wr
 ·have t:=sD (B:=aB.dU) f;rw[ek,ei,t];refine (SC _ R A ws nx wr w h f).mono ?_;rintro e w' ⟨rfl,n,j⟩;exact⟨⟨[],rfl,fun h=>Vc h UW⟩,n,j⟩
 ·have c:=pP f;obtain⟨b,g⟩:∃ b,aB.dU ws[nx]=b:=⟨_,rfl⟩;have t:=mJ (B:=aB.dU) f c g;rw[ek,ei,t,pJ ws nx c];exact Tp b R A ws nx wr w h l f c g
def rv(pc ev:U9)(acc:U5 U9)(fr mn mi ti un:U9):U8->Vi
 |0=>.int .i64 pc
 |1=>.int .i64 ev
 |2=>.bool (aI acc 0)
 |3=>.bool (aI acc 1)
 |4=>.bool (aI acc 2)
 |5=>.bool (aI acc 3)
 |6=>.bool (aI acc 4)
 |7=>.bool (aI acc 5)
 |8=>.bool (aI acc 6)
 |9=>.int .i64 fr
 |10=>.int .i64 mn
 |11=>.int .i64 mi
 |12=>.int .i64 ti
 |_=>.int .i64 un
structure RL(w:Vh)(P:U8)(v:U8->Vi):Prop where
 c:∀ j:U8,j<14->w.cell? ⟨P,j,Vd⟩=Ve (v j)
 f:∀ j:U8,w.frozen? ⟨P,j,Vd⟩=Vf
theorem oy{p:U8->Prop}(G:p 0)(F:p 1)(E:p 2)(D:p 3)(C:p 4)(z:p 5)(y:p 6)(x:p 7)(t:p 8)(q:p 9)(l:p 10)(g:p 11)(f:p 12)(c:p 13):∀ j:U8,j<14->p j
 |0,_=>G
 |1,_=>F
 |2,_=>E
 |3,_=>D
 |4,_=>C
 |5,_=>z
 |6,_=>y
 |7,_=>x
 |8,_=>t
 |9,_=>q
 |10,_=>l
 |11,_=>g
 |12,_=>f
 |13,_=>c
 |n+14,h=>Vc h UU
theorem RL.lt(h:RL w P v):P<w.heap.size:=Vr _ ⟨P,0,Vd⟩ (h.c 0 UU)
theorem RL.set(h:RL w P v)(j:U8)(l:j<14)(x:Vi):RL (w.setCell ⟨P,j,Vd⟩ x) P (fun i=>if i=j then x else v i):=by
 refine⟨fun i g=>?_,fun i=>(zF ..).trans (h.f i)⟩
 by_cases e:i=j
 ·subst e;rw[Vb rfl];exact zm _ ⟨P,i,Vd⟩ _ (h.c i g)
 ·rw[Va e];exact (zS _ _ _ _ UV).trans (h.c i g)
theorem RL.congr{v':U8->Vi}(h:RL w P v)(e:∀ j:U8,j<14->v j=v' j):RL w P v':=⟨fun j g=>by rw[<- e j g];exact h.c j g,h.f⟩
theorem RL.other{x:Vi}(h:RL w P v)(l:b≠P):RL (w.setCell ⟨b,o,Vd⟩ x) P v :=
 ⟨fun j g=>(Y7 w ⟨b,o,Vd⟩ ⟨P,j,Vd⟩ x l).trans (h.c j g),fun i=>(zF ..).trans (h.f i)⟩
theorem RL.kept(h:RL w P v)(k:Kept R w w')(g:P≠R):RL w' P v :=
 ⟨fun j l=>k.cell g (h.c j l),fun j=>(k.frozen g h.lt).trans (h.f j)⟩
structure jy(R P:U8)(w w':Vh):Prop where
 os:w'.os=w.os
 tape:w'.tape=w.tape
 output:w'.output=w.output
 size:w.heap.size<=w'.heap.size
 block:∀ k,k<w.heap.size->k≠R->k≠P->w'.heap[k]?=w.heap[k]?
theorem Kept.two(P:U8)(k:Kept R w w'):jy R P w w':=⟨k.os,k.tape,k.output,k.size,fun i f c _=>k.block i f c⟩
theorem jy.trans{a b c:Vh}(h:jy R P a b)(k:jy R P b c):jy R P a c :=
 ⟨k.os.trans h.os,k.tape.trans h.tape,k.output.trans h.output,Vq h.size k.size,fun i j f g=>(k.block i (zL j h.size) f g).trans (h.block i j f g)⟩
theorem jy.fI(h:jy R P w w')(o:U8)(v:Vi):jy R P w (w'.setCell ⟨P,o,Vd⟩ v) :=
 ⟨(Below.setCell (B:=0) (Below.refl 0 w') (p:=⟨P,o,Vd⟩) (zN _) v).os.trans h.os,(Below.setCell (B:=0) (Below.refl 0 w') (p:=⟨P,o,Vd⟩) (zN _) v).tape.trans h.tape,(Below.setCell (B:=0) (Below.refl 0 w') (p:=⟨P,o,Vd⟩) (zN _) v).output.trans h.output,Vq h.size (Below.setCell (B:=0) (Below.refl 0 w') (p:=⟨P,o,Vd⟩) (zN _) v).size,fun k g f c=>(Below.heap_setCell w' ⟨P,o,Vd⟩ v k c).trans (h.block k g f c)⟩
theorem jy.ur(h:jy R P w w')(o:U8)(v:Vi):jy R P w (w'.setCell ⟨R,o,Vd⟩ v) :=
 ⟨(Below.setCell (B:=0) (Below.refl 0 w') (p:=⟨R,o,Vd⟩) (zN _) v).os.trans h.os,(Below.setCell (B:=0) (Below.refl 0 w') (p:=⟨R,o,Vd⟩) (zN _) v).tape.trans h.tape,(Below.setCell (B:=0) (Below.refl 0 w') (p:=⟨R,o,Vd⟩) (zN _) v).output.trans h.output,Vq h.size (Below.setCell (B:=0) (Below.refl 0 w') (p:=⟨R,o,Vd⟩) (zN _) v).size,fun k g c f=>(Below.heap_setCell w' ⟨R,o,Vd⟩ v k c).trans (h.block k g c f)⟩
theorem jy.one{x:Vh}(k:Kept R w x)(h:jy R P x w')(g:w.heap.size<=P):Kept R w w' :=
 ⟨h.os.trans k.os,h.tape.trans k.tape,h.output.trans k.output,Vq k.size h.size,fun i f c=>(h.block i (zL f k.size) c UU).trans (k.block i f c)⟩
theorem Env.fZ(h:Env w)(k:jy R P w w')(I:10<=R)(J:10<=P):Env w':=by
 have n:Vj 10 w w':=⟨k.os,k.tape,k.output,k.size,fun i t=>k.block i (zL t h.size) UU UU⟩;have c:∀ (b o:U8) (v:Vi),b<10->w.cell? ⟨b,o,Vd⟩=Ve v->w'.cell? ⟨b,o,Vd⟩=Ve v:=fun b o v g e=>(n.cell (p:=⟨b,o,Vd⟩) g).trans e
 obtain⟨m,q⟩:=h.tD;obtain⟨H,c1,G,F,E,D,C,z,y,x,l,j⟩:=h.iL;refine⟨⟨c _ _ _ UU H,c _ _ _ UU c1,c _ _ _ UU G,c _ _ _ UU F,c _ _ _ UU E,c _ _ _ UU D,c _ _ _ UU C,c _ _ _ UU z,c _ _ _ UU y,c _ _ _ UU x,c _ _ _ UU l,c _ _ _ UU j⟩,⟨m,c _ _ _ UU q⟩,?_,Vq h.size k.size,c _ _ _ UU h.mo,c _ _ _ UU h.tu,c _ _ _ UU h.we,c _ _ _ UU h.th,c _ _ _ UU h.fr,c _ _ _ UU h.sa,c _ _ _ UU h.su⟩;have f:=h.pow;unfold Lib.TabIs YS at f ⊢;simp only[vd,YT] at f ⊢;rw[n.block 0 UU];exact f
def iW:U4:=⟨#[100,97,105,108,121]⟩
def ix:U4:=⟨#[119,101,101,107,108,121]⟩
def jI:U4:=⟨#[109,111,110,116,104,108,121]⟩
def iT:U4:=⟨#[116,105,109,101,115]⟩
def js:U4:=⟨#[117,110,116,105,108]⟩
def cV:U4:=⟨#[102,114,111,109]⟩
def ej:U4:=⟨#[97,116]⟩
def fS:U4:=⟨#[102,111,114]⟩
def eo(s:U4):U7:=eL s 1 99
def eJ(s:U4):U7:=eL s 1 1048320
def bE(x s:U4):U7:=s.toList==x.toList
def dV(st:U8 × U7):U8 × U7:=(st.1+1,st.2)
inductive nW (ws:U5 U4) (st:U8 × U7):U9->U9->U5 U9->U8 × U7->Prop where
 |daily (h:bD ws st.1 st.2 iW=Vg):nW ws st 1 (bT ws (dV st) eo cL) [] (aQ ws [eo] (dV st))
 |weekly (h1:bD ws st.1 st.2 iW=Vf) (h:bD ws st.1 st.2 ix=Vg) (acc:U5 U9) (ha:eA ws (aQ ws [eo] (dV st)).1 (aQ ws [eo] (dV st)).2 aB.dU=Vg->aB.iq (ws.getD (aQ ws [eo] (dV st)).1 YN)=Ve acc):
   nW ws st 2 (bT ws (dV st) eo cL) acc (aQ ws [eo,aB.dU] (dV st))
 |monthly (h1:bD ws st.1 st.2 iW=Vf) (h2:bD ws st.1 st.2 ix=Vf) (h:bD ws st.1 st.2 jI=Vg):nW ws st 3 (bT ws (dV st) eo cL) [] (aQ ws [eo] (dV st))
 |none (h1:bD ws st.1 st.2 iW=Vf) (h2:bD ws st.1 st.2 ix=Vf) (h:bD ws st.1 st.2 jI=Vf):nW ws st 0 0 [] (st.1,Vg)
theorem Bi{ev:U9}(h:RL w P (rv pc ev acc fr mn mi ti un))(x:U9):RL (w.setCell ⟨P,0,Vd⟩ (.int .i64 x)) P (rv x ev acc fr mn mi ti un):=(h.set 0 UU _).congr (oy rfl rfl rfl rfl rfl rfl rfl rfl rfl rfl rfl rfl rfl rfl)
theorem Bj{ev:U9}(h:RL w P (rv pc ev acc fr mn mi ti un))(x:U9):RL (w.setCell ⟨P,1,Vd⟩ (.int .i64 x)) P (rv pc x acc fr mn mi ti un):=(h.set 1 UU _).congr (oy rfl rfl rfl rfl rfl rfl rfl rfl rfl rfl rfl rfl rfl rfl)
theorem Pb{ev:U9}(h:RL w P (rv pc ev acc fr mn mi ti un))(x:U9):RL (w.setCell ⟨P,9,Vd⟩ (.int .i64 x)) P (rv pc ev acc x mn mi ti un):=(h.set 9 UU _).congr (oy rfl rfl rfl rfl rfl rfl rfl rfl rfl rfl rfl rfl rfl rfl)
theorem PN{ev:U9}(h:RL w P (rv pc ev acc fr mn mi ti un))(x:U9):RL (w.setCell ⟨P,10,Vd⟩ (.int .i64 x)) P (rv pc ev acc fr x mi ti un):=(h.set 10 UU _).congr (oy rfl rfl rfl rfl rfl rfl rfl rfl rfl rfl rfl rfl rfl rfl)
theorem PO{ev:U9}(h:RL w P (rv pc ev acc fr mn mi ti un))(x:U9):RL (w.setCell ⟨P,11,Vd⟩ (.int .i64 x)) P (rv pc ev acc fr mn x ti un):=(h.set 11 UU _).congr (oy rfl rfl rfl rfl rfl rfl rfl rfl rfl rfl rfl rfl rfl rfl)
theorem PP{ev:U9}(h:RL w P (rv pc ev acc fr mn mi ti un))(x:U9):RL (w.setCell ⟨P,12,Vd⟩ (.int .i64 x)) P (rv pc ev acc fr mn mi x un):=(h.set 12 UU _).congr (oy rfl rfl rfl rfl rfl rfl rfl rfl rfl rfl rfl rfl rfl rfl)
theorem PQ{ev:U9}(h:RL w P (rv pc ev acc fr mn mi ti un))(x:U9):RL (w.setCell ⟨P,13,Vd⟩ (.int .i64 x)) P (rv pc ev acc fr mn mi ti x):=(h.set 13 UU _).congr (oy rfl rfl rfl rfl rfl rfl rfl rfl rfl rfl rfl rfl rfl rfl)
theorem PS{ev:U9}(h:RL w P (rv pc ev acc fr mn mi ti un))(x:U5 U9):
  RL (((((((w.setCell ⟨P,2,Vd⟩ (.bool (aI x 0))).setCell ⟨P,3,Vd⟩ (.bool (aI x 1))).setCell ⟨P,4,Vd⟩ (.bool (aI x 2))).setCell ⟨P,5,Vd⟩ (.bool (aI x 3))).setCell ⟨P,6,Vd⟩ (.bool (aI x 4))).setCell ⟨P,7,Vd⟩ (.bool (aI x 5))).setCell ⟨P,8,Vd⟩ (.bool (aI x 6))) P (rv pc ev x fr mn mi ti un) :=
 (((((((h.set 2 UU _).set 3 UU _).set 4 UU _).set 5 UU _).set 6 UU _).set 7 UU _).set 8 UU _).congr (oy rfl rfl rfl rfl rfl rfl rfl rfl rfl rfl rfl rfl rfl rfl)
theorem Rw(R A P:U8)(ws:U5 U4)(st:U8 × U7)(w:Vh)(h:RS w R A ws st.1 st.2)(he:Env w)(H:10<=R)(X:10<=P)(g:P≠R)(j:0<ws.length->P≠A)(hl:RL w P (rv 0 0 [] 0 0 0 0 0)):
  Vk prog 133 #[.pointer (Ve ⟨R,0,Vd⟩),.pointer (Ve ⟨P,0,Vd⟩)] w fun e w' =>
   ∃ (pc ev:U9) (acc:U5 U9) (s:U8 × U7),e=.returned (.tuple #[])/\nW ws st pc ev acc s/\RS w' R A ws s.1 s.2/\RL w' P (rv pc ev acc 0 0 0 0 0)/\jy R P w w':=by
 have HE:=hide he;clear he
 go_in
 go_wp2_with fail
 refine (iJ R A ws st.1 st.2 iW w h).mono ?_;rintro e w1 ⟨rfl,N,k1⟩;have C:=k1.two P;have l1:=hl.kept k1 g;clear h hl k1
 cases K:bD ws st.1 st.2 iW
 ·rw[K] at N
  go_wp2_with fail
  refine (iJ R A ws st.1 st.2 ix w1 N).mono ?_;rintro e w2 ⟨rfl,M,k2⟩;have z:=C.trans (k2.two P);have J:=l1.kept k2 g;clear N C l1 k2
  cases T:bD ws st.1 st.2 ix
  ·rw[T] at M
   go_wp2_with fail
   refine (iJ R A ws st.1 st.2 jI w2 M).mono ?_;rintro e w3 ⟨rfl,I,k3⟩;have G:=z.trans (k3.two P);have S:=J.kept k3 g;clear M z J k3
   cases W:bD ws st.1 st.2 jI
   ·rw[W] at I;have c2:=I.c2;have f2:=I.f2;go_wp2
    go_end0
    exact⟨0,0,[],(st.1,Vg),rfl,.none K T W,I.bad,S.other g.symm,G.ur _ _⟩
   ·rw[W,Vb rfl] at I;have O:=S.c 0 UU;have x:=S.f
    go_wp2_with fail
    have E:=I.other (b:=P) (o:=0) (v:=.int .i64 3) g j;have D:=Bi S 3;have t:=G.fI 0 (.int .i64 3);have V:=hide ((aJ HE).fZ t H X);clear O x I S G;refine (Cf R A ws (st.1+1) st.2 _ E).mono ?_;rintro e w5 ⟨rfl,L,l⟩;have n:=t.trans (l.two P);have q:=D.kept l g;have E5:=hide ((aJ V).kept l H);clear E D t l;have p1:=q.c 1 UU;have x:=q.f;go_wp2
    go_end0
    exact⟨3,bT ws (dV st) eo cL,[],aQ ws [eo] (dV st),rfl,.monthly K T W,L.other g j,Bj q _,n.fI _ _⟩
  ·rw[T,Vb rfl] at M;have O:=J.c 0 UU;have x:=J.f
   go_wp2_with fail
   have E:=M.other (b:=P) (o:=0) (v:=.int .i64 2) g j;have D:=Bi J 2;have t:=z.fI 0 (.int .i64 2);have V:=hide ((aJ HE).fZ t H X);clear O x M J z;refine (Cf R A ws (st.1+1) st.2 _ E).mono ?_;rintro e w5 ⟨rfl,L,l⟩;have n:=t.trans (l.two P);have q:=D.kept l g;have E5:=hide ((aJ V).kept l H);clear E D t l;have p1:=q.c 1 UU;have x:=q.f
   go_wp2_with fail
   have h6:=L.other (b:=P) (o:=1) (v:=.int .i64 (fg ws (st.1+1) st.2 (fun s=>eL s 1 99) (fun s=>aB.cF s.data.toList))) g j;have l6:=Bj q (fg ws (st.1+1) st.2 (fun s=>eL s 1 99) (fun s=>aB.cF s.data.toList));have k6:=n.fI 1 (.int .i64 (fg ws (st.1+1) st.2 (fun s=>eL s 1 99) (fun s=>aB.cF s.data.toList)));have E6:=hide ((aJ HE).fZ k6 H X);clear p1 x L q n;refine (SA R A ws _ _ _ h6 (aJ E6)).mono ?_;rintro e w7 ⟨⟨acc,rfl,F⟩,h7,k7⟩;have aa:=k6.trans (k7.two P);have y:=l6.kept k7 g;have U:=hide F;clear h6 l6 k6 k7 F;have p2:=y.c 2 UU;have p3:=y.c 3 UU;have p4:=y.c 4 UU;have p5:=y.c 5 UU;have p6:=y.c 6 UU;have p7:=y.c 7 UU;have p8:=y.c 8 UU;have x:=y.f;have H7:=hide h7;clear h7;simp only[e9];go_wp2
   go_end0
   exact⟨2,bT ws (dV st) eo cL,acc,aQ ws [eo,aB.dU] (dV st),rfl,.weekly K T acc (aJ U),((((((((aJ H7).other g j).other g j).other g j).other g j).other g j).other g j).other g j),PS y acc,(((((((aa.fI _ _).fI _ _).fI _ _).fI _ _).fI _ _).fI _ _).fI _ _)⟩
 ·rw[K,Vb rfl] at N;have O:=l1.c 0 UU;have x:=l1.f
  go_wp2_with fail
  have E:=N.other (b:=P) (o:=0) (v:=.int .i64 1) g j;have D:=Bi l1 1;have t:=C.fI 0 (.int .i64 1);have V:=hide ((aJ HE).fZ t H X);clear O x N l1 C;refine (Cf R A ws (st.1+1) st.2 _ E).mono ?_;rintro e w5 ⟨rfl,L,l⟩;have n:=t.trans (l.two P);have q:=D.kept l g;have E5:=hide ((aJ V).kept l H);clear E D t l;have p1:=q.c 1 UU;have x:=q.f;go_wp2
  go_end0
  exact⟨1,bT ws (dV st) eo cL,[],aQ ws [eo] (dV st),rfl,.daily K,L.other g j,Bj q _,n.fI _ _⟩
inductive nP (ws:U5 U4) (st:U8 × U7):U9->U9->U8 × U7->Prop where
 |times (h:bD ws st.1 st.2 iT=Vg):nP ws st (bT ws (dV st) eo cL) 0 (aQ ws [eo] (dV st))
 |til (h1:bD ws st.1 st.2 iT=Vf) (h:bD ws st.1 st.2 js=Vg):nP ws st 0 (bT ws (dV st) aB.cM fT) (aQ ws [aB.cM] (dV st))
 |none (h1:bD ws st.1 st.2 iT=Vf) (h:bD ws st.1 st.2 js=Vf):nP ws st 0 0 (st.1,Vg)
theorem PJ(R A P:U8)(ws:U5 U4)(st:U8 × U7)(w:Vh)(pc ev:U9)(acc:U5 U9)(fr mn mi:U9)(h:RS w R A ws st.1 st.2)(J:Env w)(K:10<=R)(g:P≠R)(C:0<ws.length->P≠A)(I:RL w P (rv pc ev acc fr mn mi 0 0)):
  Vk prog 138 #[.pointer (Ve ⟨R,0,Vd⟩),.pointer (Ve ⟨P,0,Vd⟩)] w fun e w' =>
   ∃ (ti un:U9) (s:U8 × U7),e=.returned (.tuple #[])/\nP ws st ti un s/\RS w' R A ws s.1 s.2/\RL w' P (rv pc ev acc fr mn mi ti un)/\jy R P w w':=by
 have O:=hide J;clear J
 go_in
 go_wp2_with fail
 refine (iJ R A ws st.1 st.2 iT w h).mono ?_;rintro e w1 ⟨rfl,y,E⟩;have j:=E.two P;have l1:=I.kept E g;have T:=hide ((aJ O).kept E K);clear h I E
 cases z:bD ws st.1 st.2 iT
 ·rw[z] at y
  go_wp2_with fail
  refine (iJ R A ws st.1 st.2 js w1 y).mono ?_;rintro e w2 ⟨rfl,x,D⟩;have q:=j.trans (D.two P);have G:=l1.kept D g;have S:=hide ((aJ T).kept D K);clear y j l1 D
  cases F:bD ws st.1 st.2 js
  ·rw[F] at x;have V:=x.c2;have U:=x.f2;go_wp2
   go_end0
   exact⟨0,0,(st.1,Vg),rfl,.none z F,x.bad,G.other g.symm,q.ur _ _⟩
  ·rw[F,Vb rfl] at x
   go_wp2_with fail
   refine (Jn R A ws (st.1+1) st.2 w2 x (aJ S)).mono ?_;rintro e L ⟨rfl,H,t⟩;have n:=q.trans (t.two P);have l:=G.kept t g;clear x q G t;have N:=l.c 13 UU;have M:=l.f;go_wp2
   go_end0
   exact⟨0,bT ws (dV st) aB.cM fT,aQ ws [aB.cM] (dV st),rfl,.til z F,H.other g C,PQ l _,n.fI _ _⟩
 ·rw[z,Vb rfl] at y
  go_wp2_with fail
  refine (yt 1 99 R A ws (st.1+1) st.2 w1 y).mono ?_;rintro e L ⟨rfl,H,t⟩;have n:=j.trans (t.two P);have l:=l1.kept t g;clear y j l1 t;have N:=l.c 12 UU;have M:=l.f;go_wp2
  go_end0
  exact⟨bT ws (dV st) eo cL,0,aQ ws [eo] (dV st),rfl,.times z,H.other g C,PP l _,n.fI _ _⟩
def mD(ws:U5 U4)(s:U8 × U7):U8 × U7:=aQ ws [bE cV,aB.cM,bE ej,aB.dA,bE fS,eJ] s
inductive km (ws:U5 U4) (st:U8 × U7):U9->U9->U5 U9->U9->U9->U9->U9->U9->U8 × U7->Prop where
 |mk (pc ev:U9) (acc:U5 U9) (s:U8 × U7) (ti un:U9) (s':U8 × U7) (hp:nW ws st pc ev acc s) (he:nP ws (mD ws s) ti un s'):
   km ws st pc ev acc (bT ws (aQ ws [bE cV] s) aB.cM fT) (bT ws (aQ ws [bE cV,aB.cM,bE ej] s) aB.dA aB.fo) (bT ws (aQ ws [bE cV,aB.cM,bE ej,aB.dA,bE fS] s) eJ cL) ti un s'
theorem RL.fZ(h:RL w P v)(k:jy R Q w w')(l:P≠R)(g:P≠Q):RL w' P v :=
 ⟨fun j n=>(zo (w:=w) (k.block P h.lt l g)).trans (h.c j n),fun j=>(WU (w:=w) (k.block P h.lt l g)).trans (h.f j)⟩
def tG(pc ev:U9)(acc:U5 U9)(fr mn mi ti un:U9):Vi :=
 .agg #[.int .i64 pc,.int .i64 ev,.bool (aI acc 0),.bool (aI acc 1),.bool (aI acc 2),.bool (aI acc 3),.bool (aI acc 4),.bool (aI acc 5),.bool (aI acc 6),.int .i64 fr,.int .i64 mn,.int .i64 mi,.int .i64 ti,.int .i64 un]
def Dn(ws:U5 U4):Prop:=∀ (R A:U8)(st:U8 × U7)(w:Vh),RS w R A ws st.1 st.2->Env w->10<=R ->
  Vk prog 87 #[.pointer (Ve ⟨R,0,Vd⟩)] w fun e w' =>
   ∃ (pc ev:U9) (acc:U5 U9) (fr mn mi ti un:U9) (s:U8 × U7),e=.returned (tG pc ev acc fr mn mi ti un)/\km ws st pc ev acc fr mn mi ti un s/\RS w' R A ws s.1 s.2/\Kept R w w'
theorem T9(R A:U8)(ws:U5 U4)(st:U8 × U7)(w:Vh)(h:RS w R A ws st.1 st.2)(he:Env w)(D:10<=R):
  Vk prog 87 #[.pointer (Ve ⟨R,0,Vd⟩)] w fun e w' =>
   ∃ (pc ev:U9) (acc:U5 U9) (fr mn mi ti un:U9) (s:U8 × U7),e=.returned (tG pc ev acc fr mn mi ti un)/\km ws st pc ev acc fr mn mi ti un s/\RS w' R A ws s.1 s.2/\Kept R w w':=by
 have S:=hide he;clear he
 go_in
 go_wp2_with fail
 obtain⟨bi,ad⟩:=h.lt;obtain⟨X,O⟩:∃ X,X=(w.alloc (.cells #[.int .i64 0,.int .i64 0,.bool Vf,.bool Vf,.bool Vf,.bool Vf,.bool Vf,.bool Vf,.bool Vf,.int .i64 0,.int .i64 0,.int .i64 0,.int .i64 0,.int .i64 0] 162)).alloc (.cells #[.int .i64 0,.int .i64 0,.bool Vf,.bool Vf,.bool Vf,.bool Vf,.bool Vf,.bool Vf,.bool Vf,.int .i64 0,.int .i64 0,.int .i64 0,.int .i64 0,.int .i64 0] 162):=⟨_,rfl⟩;rw[<- O];have hB:Vj w.heap.size w X:=by rw[O];exact ((zr _ _).alloc (zq _) _).alloc UV _
 have hZ:w.heap.size+2=X.heap.size:=by rw[O];simp
 have gX:RL X w.heap.size (rv 0 0 [] 0 0 0 0 0):=by
  rw[O];refine⟨oy ?_ ?_ ?_ ?_ ?_ ?_ ?_ ?_ ?_ ?_ ?_ ?_ ?_ ?_,fun j=>?_⟩ <;> simp[rv,aI]
 have lX:RL X (w.heap.size+1) (rv 0 0 [] 0 0 0 0 0):=by
  rw[O];refine⟨oy ?_ ?_ ?_ ?_ ?_ ?_ ?_ ?_ ?_ ?_ ?_ ?_ ?_ ?_,fun j=>?_⟩ <;> simp[rv,aI]
 clear O;have eX:=(aJ S).later hB;have a7:=(aJ S).size;have kX:=Kept.aD (R:=R) hB;have z:w.heap.size+1≠R:=UU
 have C:0<ws.length->w.heap.size+1≠A:=fun hq=>by have:=ad hq;omega
 have l:w.heap.size≠R:=UU
 have t:0<ws.length->w.heap.size≠A:=fun hq=>by have:=ad hq;omega
 obtain⟨P,hP⟩:∃ P,P=w.heap.size+1:=⟨_,rfl⟩;rw[<- hP] at lX z C ⊢;obtain⟨G,hG⟩:∃ G,G=w.heap.size:=⟨_,rfl⟩;rw[<- hG] at gX l t ⊢;have H:G≠P:=UU
 have F:w.heap.size<=P:=UU
 have y:w.heap.size<=G:=UU
 have ac:10<=P:=UU
 clear hP hG;refine (Rw R A P ws st X (h.aD hB) eX D ac z C lX).mono ?_;rintro e w1 ⟨pc,ev,acc,s,rfl,hp,h1,l1,k1⟩;have g1:=gX.fZ k1 l H;have kt:=jy.one kX k1 F;have E1:=hide ((aJ S).kept kt D);have aq:=hide hp;clear gX lX k1 eX hp h
 go_wp2_with fail
 refine (BE R A ws _ _ cV w1 h1).mono ?_;rintro e w2 ⟨rfl,al,k2⟩;have h2:RS w2 R A ws (aQ ws [bE cV] s).1 (aQ ws [bE cV] s).2:=al;have l2:=l1.kept k2 z;have g2:=g1.kept k2 l;have aa:=kt.trans k2;have E2:=hide ((aJ E1).kept k2 D);clear h1 al l1 g1 kt k2 E1
 go_wp2_with fail
 refine (Jn R A ws _ _ w2 h2 (aJ E2)).mono ?_;rintro e w3 ⟨rfl,aj,k3⟩;have h3:RS w3 R A ws (aQ ws [bE cV,aB.cM] s).1 (aQ ws [bE cV,aB.cM] s).2:=aj;have l3:=l2.kept k3 z;have g3:=g2.kept k3 l;have a4:=aa.trans k3;have E3:=hide ((aJ E2).kept k3 D);clear h2 aj l2 g2 aa k3 E2;have p3:=l3.c 9 UU;have bh:=l3.f;have h4:=h3.other (b:=P) (o:=9) (v:=.int .i64 (bT ws (aQ ws [bE cV] s) aB.cM fT)) z C;have l4:=Pb l3 (bT ws (aQ ws [bE cV] s) aB.cM fT);have g4:=g3.other (b:=P) (o:=9) (x:=.int .i64 (bT ws (aQ ws [bE cV] s) aB.cM fT)) H.symm;have J:=a4.aO (b:=P) (o:=9) F (.int .i64 (bT ws (aQ ws [bE cV] s) aB.cM fT));have E4:=hide ((aJ S).kept J D)
 go_wp2_with fail
 refine (BE R A ws _ _ ej _ h4).mono ?_;rintro e w5 ⟨rfl,ai,k5⟩;have h5:RS w5 R A ws (aQ ws [bE cV,aB.cM,bE ej] s).1 (aQ ws [bE cV,aB.cM,bE ej] s).2:=ai;have l5:=l4.kept k5 z;have g5:=g4.kept k5 l;have V:=J.trans k5;have E5:=hide ((aJ E4).kept k5 D);clear h4 ai l4 g4 J k5 E4
 go_wp2_with fail
 refine (Us R A ws _ _ w5 h5).mono ?_;rintro e w6 ⟨rfl,ag,k6⟩;have h6:RS w6 R A ws (aQ ws [bE cV,aB.cM,bE ej,aB.dA] s).1 (aQ ws [bE cV,aB.cM,bE ej,aB.dA] s).2:=ag;have l6:=l5.kept k6 z;have g6:=g5.kept k6 l;have a3:=V.trans k6;have E6:=hide ((aJ E5).kept k6 D);clear h5 ag l5 g5 V k6 E5;have p6:=l6.c 10 UU;have bg:=l6.f;have h7:=h6.other (b:=P) (o:=10) (v:=.int .i64 (bT ws (aQ ws [bE cV,aB.cM,bE ej] s) aB.dA aB.fo)) z C;have l7:=PN l6 (bT ws (aQ ws [bE cV,aB.cM,bE ej] s) aB.dA aB.fo);have g7:=g6.other (b:=P) (o:=10) (x:=.int .i64 (bT ws (aQ ws [bE cV,aB.cM,bE ej] s) aB.dA aB.fo)) H.symm;have I:=a3.aO (b:=P) (o:=10) F (.int .i64 (bT ws (aQ ws [bE cV,aB.cM,bE ej] s) aB.dA aB.fo));have E7:=hide ((aJ S).kept I D)
 go_wp2_with fail
 refine (BE R A ws _ _ fS _ h7).mono ?_;rintro e w8 ⟨rfl,af,k8⟩;have h8:RS w8 R A ws (aQ ws [bE cV,aB.cM,bE ej,aB.dA,bE fS] s).1 (aQ ws [bE cV,aB.cM,bE ej,aB.dA,bE fS] s).2:=af;have l8:=l7.kept k8 z;have g8:=g7.kept k8 l;have U:=I.trans k8;have E8:=hide ((aJ E7).kept k8 D);clear h7 af l7 g7 I k8 E7
 go_wp2_with fail
 refine (wh R A ws _ _ w8 h8).mono ?_;rintro e w9 ⟨rfl,ae,k9⟩;have h9:RS w9 R A ws (aQ ws [bE cV,aB.cM,bE ej,aB.dA,bE fS,eJ] s).1 (aQ ws [bE cV,aB.cM,bE ej,aB.dA,bE fS,eJ] s).2:=ae;have l9:=l8.kept k9 z;have g9:=g8.kept k9 l;have az:=U.trans k9;have E9:=hide ((aJ E8).kept k9 D);clear h8 ae l8 g8 U k9 E8;have p9:=l9.c 11 UU;have bf:=l9.f;have an:=h9.other (b:=P) (o:=11) (v:=.int .i64 (bT ws (aQ ws [bE cV,aB.cM,bE ej,aB.dA,bE fS] s) eJ cL)) z C;have T:=PO l9 (bT ws (aQ ws [bE cV,aB.cM,bE ej,aB.dA,bE fS] s) eJ cL);have ao:=g9.other (b:=P) (o:=11) (x:=.int .i64 (bT ws (aQ ws [bE cV,aB.cM,bE ej,aB.dA,bE fS] s) eJ cL)) H.symm;have E:=az.aO (b:=P) (o:=11) F (.int .i64 (bT ws (aQ ws [bE cV,aB.cM,bE ej,aB.dA,bE fS] s) eJ cL));have au:=hide ((aJ S).kept E D)
 go_wp2_with fail
 refine (PJ R A P ws (mD ws s) _ pc ev acc _ _ _ an (aJ au) D z C T).mono ?_;rintro e g ⟨ti,un,s',rfl,ab,ak,n,K⟩;have q:=ao.fZ K l H;have W:=jy.one E K F;have ar:=hide ab;clear an T ao E K au ab;obtain⟨fr,N⟩:∃ fr,fr=bT ws (aQ ws [bE cV] s) aB.cM fT:=⟨_,rfl⟩;obtain⟨mn,L⟩:∃ mn,mn=bT ws (aQ ws [bE cV,aB.cM,bE ej] s) aB.dA aB.fo:=⟨_,rfl⟩;obtain⟨mi,M⟩:∃ mi,mi=bT ws (aQ ws [bE cV,aB.cM,bE ej,aB.dA,bE fS] s) eJ cL:=⟨_,rfl⟩;rw[<- N,<- L,<- M] at n
 have a5:Hid (km ws st pc ev acc fr mn mi ti un s'):=by
  show km ws st pc ev acc fr mn mi ti un s';rw[N,L,M];exact .mk pc ev acc s ti un s' aq.out ar.out
 clear N L M aq ar;have q0:g.cell? ⟨P,0,Vd⟩=Ve (.int .i64 pc):=n.c 0 UU;have q1:g.cell? ⟨P,1,Vd⟩=Ve (.int .i64 ev):=n.c 1 UU;have q2:g.cell? ⟨P,2,Vd⟩=Ve (.bool (aI acc 0)):=n.c 2 UU;have q3:g.cell? ⟨P,3,Vd⟩=Ve (.bool (aI acc 1)):=n.c 3 UU;have q4:g.cell? ⟨P,4,Vd⟩=Ve (.bool (aI acc 2)):=n.c 4 UU;have q5:g.cell? ⟨P,5,Vd⟩=Ve (.bool (aI acc 3)):=n.c 5 UU;have q6:g.cell? ⟨P,6,Vd⟩=Ve (.bool (aI acc 4)):=n.c 6 UU;have q7:g.cell? ⟨P,7,Vd⟩=Ve (.bool (aI acc 5)):=n.c 7 UU;have q8:g.cell? ⟨P,8,Vd⟩=Ve (.bool (aI acc 6)):=n.c 8 UU;have q9:g.cell? ⟨P,9,Vd⟩=Ve (.int .i64 fr):=n.c 9 UU;have bc:g.cell? ⟨P,10,Vd⟩=Ve (.int .i64 mn):=n.c 10 UU;have ba:g.cell? ⟨P,11,Vd⟩=Ve (.int .i64 mi):=n.c 11 UU;have a9:g.cell? ⟨P,12,Vd⟩=Ve (.int .i64 ti):=n.c 12 UU;have a8:g.cell? ⟨P,13,Vd⟩=Ve (.int .i64 un):=n.c 13 UU;have r0:g.cell? ⟨G,0,Vd⟩=Ve (.int .i64 0):=q.c 0 UU;have r1:g.cell? ⟨G,1,Vd⟩=Ve (.int .i64 0):=q.c 1 UU;have r2:g.cell? ⟨G,2,Vd⟩=Ve (.bool Vf):=q.c 2 UU;have r3:g.cell? ⟨G,3,Vd⟩=Ve (.bool Vf):=q.c 3 UU;have r4:g.cell? ⟨G,4,Vd⟩=Ve (.bool Vf):=q.c 4 UU;have r5:g.cell? ⟨G,5,Vd⟩=Ve (.bool Vf):=q.c 5 UU;have r6:g.cell? ⟨G,6,Vd⟩=Ve (.bool Vf):=q.c 6 UU;have r7:g.cell? ⟨G,7,Vd⟩=Ve (.bool Vf):=q.c 7 UU;have r8:g.cell? ⟨G,8,Vd⟩=Ve (.bool Vf):=q.c 8 UU;have r9:g.cell? ⟨G,9,Vd⟩=Ve (.int .i64 0):=q.c 9 UU;have ay:g.cell? ⟨G,10,Vd⟩=Ve (.int .i64 0):=q.c 10 UU;have ax:g.cell? ⟨G,11,Vd⟩=Ve (.int .i64 0):=q.c 11 UU;have aw:g.cell? ⟨G,12,Vd⟩=Ve (.int .i64 0):=q.c 12 UU;have av:g.cell? ⟨G,13,Vd⟩=Ve (.int .i64 0):=q.c 13 UU;have rf:=q.f;have a6:=hide ak;clear ak n q;go_wp2;refine bodyPost_ret (v:=tG pc ev acc fr mn mi ti un) (by simp[results,results87,go_sem,tG,r0,r1,r2,r3,r4,r5,r6,r7,r8,r9,ay,ax,aw,av]) rfl ⟨pc,ev,acc,fr,mn,mi,ti,un,s',rfl,a5.out,?_,?_⟩
 ·exact (((((((((((((((aJ a6).other l t).other l t).other l t).other l t).other l t).other l t).other l t).other l t).other l t).other l t).other l t).other l t).other l t).other l t)
 ·exact ((((((((((((((W.aO y _).aO y _).aO y _).aO y _).aO y _).aO y _).aO y _).aO y _).aO y _).aO y _).aO y _).aO y _).aO y _).aO y _)
def ky:U4:=⟨#[116,104,105,110,103]⟩
def kr:U4:=⟨#[98,111,111,107]⟩
def qD:U4:=⟨#[104,111,108,100]⟩
def qG:U4:=⟨#[119,97,105,116]⟩
def ic:U4:=⟨#[115,101,114,105,101,115]⟩
def qU:U4:=⟨#[99,111,110,102,105,114,109]⟩
def ku:U4:=⟨#[99,97,110,99,101,108]⟩
def dY:U4:=⟨#[108,105,115,116]⟩
def qP:U4:=⟨#[119,97,105,116,105,110,103]⟩
def kn:U4:=⟨#[112,101,97,107]⟩
def kl:U4:=⟨#[102,105,110,100]⟩
def iZ:U4:=⟨#[101,120,112,97,110,100]⟩
def qF:U4:=⟨#[116,105,99,107]⟩
def kM:U4:=⟨#[99,108,111,99,107]⟩
def oi(s:U4):U7:=aB.isNum s.data.toList
inductive gK (ws:U5 U4):Vi->U8 × U7->Prop where
 |aT (h:bD ws 0 Vf ky=Vg):gK ws (.iface 149 (.agg #[.string (gV ws (1,Vf)),.int .i64 (bT ws (aQ ws [bI] (1,Vf)) dE cL)])) (aQ ws [bI,dE] (1,Vf))
 |book (h:bD ws 0 Vf kr=Vg):gK ws (.iface 154 (.agg #[.string (gV ws (1,Vf)),.int .i64 (bT ws (aQ ws [bI] (1,Vf)) dE cL),.int .i64 (bT ws (aQ ws [bI,dE] (1,Vf)) bB dL),.int .i64 (bT ws (aQ ws [bI,dE,bB] (1,Vf)) bB dL)])) (aQ ws [bI,dE,bB,bB] (1,Vf))
 |hold (h:bD ws 0 Vf qD=Vg):gK ws (.iface 156 (.agg #[.string (gV ws (1,Vf)),.int .i64 (bT ws (aQ ws [bI] (1,Vf)) dE cL),.int .i64 (bT ws (aQ ws [bI,dE] (1,Vf)) bB dL),.int .i64 (bT ws (aQ ws [bI,dE,bB] (1,Vf)) bB dL),.int .i64 (bT ws (aQ ws [bI,dE,bB,bB] (1,Vf)) eJ cL)])) (aQ ws [bI,dE,bB,bB,eJ] (1,Vf))
 |wait (h:bD ws 0 Vf qG=Vg):gK ws (.iface 157 (.agg #[.string (gV ws (1,Vf)),.int .i64 (bT ws (aQ ws [bI] (1,Vf)) dE cL),.int .i64 (bT ws (aQ ws [bI,dE] (1,Vf)) bB dL),.int .i64 (bT ws (aQ ws [bI,dE,bB] (1,Vf)) bB dL),.int .i64 (bT ws (aQ ws [bI,dE,bB,bB] (1,Vf)) eJ cL)])) (aQ ws [bI,dE,bB,bB,eJ] (1,Vf))
 |series (h:bD ws 0 Vf ic=Vg) (pc ev:U9) (acc:U5 U9) (fr mn mi ti un:U9) (s:U8 × U7) (hr:km ws (aQ ws [bI,dE] (1,Vf)) pc ev acc fr mn mi ti un s):gK ws (.iface 165 (.agg #[.string (gV ws (1,Vf)),.int .i64 (bT ws (aQ ws [bI] (1,Vf)) dE cL),.int .i64 pc,.int .i64 ev,.bool (aI acc 0),.bool (aI acc 1),.bool (aI acc 2),.bool (aI acc 3),.bool (aI acc 4),.bool (aI acc 5),.bool (aI acc 6),.int .i64 fr,.int .i64 mn,.int .i64 mi,.int .i64 ti,.int .i64 un])) s
 |confirm (h:bD ws 0 Vf qU=Vg):gK ws (.iface 167 (.agg #[.int .i64 (bT ws (1,Vf) oi cL)])) (aQ ws [oi] (1,Vf))
 |cancel (h:bD ws 0 Vf ku=Vg):gK ws (.iface 168 (.agg #[.int .i64 (bT ws (1,Vf) oi cL)])) (aQ ws [oi] (1,Vf))
 |list0 (h:bD ws 0 Vf dY=Vg) (hm:cB ws.length (aQ ws [bI] (1,Vf)).1 (aQ ws [bI] (1,Vf)).2=Vf):gK ws (.iface 170 (.agg #[.string (gV ws (1,Vf)),.bool Vf,.int .i64 0,.int .i64 0])) (aQ ws [bI] (1,Vf))
 |list1 (h:bD ws 0 Vf dY=Vg) (hm:cB ws.length (aQ ws [bI] (1,Vf)).1 (aQ ws [bI] (1,Vf)).2=Vg):gK ws (.iface 170 (.agg #[.string (gV ws (1,Vf)),.bool Vg,.int .i64 (bT ws (aQ ws [bI] (1,Vf)) bB dL),.int .i64 (bT ws (aQ ws [bI,bB] (1,Vf)) bB dL)])) (aQ ws [bI,bB,bB] (1,Vf))
 |waiting (h:bD ws 0 Vf qP=Vg):gK ws (.iface 173 (.agg #[])) (1,Vf)
 |cY (h:bD ws 0 Vf kn=Vg):gK ws (.iface 176 (.agg #[.string (gV ws (1,Vf)),.int .i64 (bT ws (aQ ws [bI] (1,Vf)) bB dL),.int .i64 (bT ws (aQ ws [bI,bB] (1,Vf)) bB dL)])) (aQ ws [bI,bB,bB] (1,Vf))
 |find (h:bD ws 0 Vf kl=Vg):gK ws (.iface 178 (.agg #[.string (gV ws (1,Vf)),.int .i64 (bT ws (aQ ws [bI] (1,Vf)) dE cL),.int .i64 (bT ws (aQ ws [bI,dE] (1,Vf)) eJ cL),.int .i64 (bT ws (aQ ws [bI,dE,eJ] (1,Vf)) bB dL),.int .i64 (bT ws (aQ ws [bI,dE,eJ,bB] (1,Vf)) bB dL)])) (aQ ws [bI,dE,eJ,bB,bB] (1,Vf))
 |expand (h:bD ws 0 Vf iZ=Vg) (pc ev:U9) (acc:U5 U9) (fr mn mi ti un:U9) (s:U8 × U7) (hr:km ws (1,Vf) pc ev acc fr mn mi ti un s):gK ws (.iface 180 (.agg #[.int .i64 pc,.int .i64 ev,.bool (aI acc 0),.bool (aI acc 1),.bool (aI acc 2),.bool (aI acc 3),.bool (aI acc 4),.bool (aI acc 5),.bool (aI acc 6),.int .i64 fr,.int .i64 mn,.int .i64 mi,.int .i64 ti,.int .i64 un])) s
 |tick (h:bD ws 0 Vf qF=Vg):gK ws (.iface 182 (.agg #[.int .i64 (bT ws (1,Vf) eJ cL)])) (aQ ws [eJ] (1,Vf))
 |clock (h:bD ws 0 Vf kM=Vg):gK ws (.iface 183 (.agg #[])) (1,Vf)
 |none (h0:bD ws 0 Vf ky=Vf) (h1:bD ws 0 Vf kr=Vf) (h2:bD ws 0 Vf qD=Vf) (h3:bD ws 0 Vf qG=Vf) (h4:bD ws 0 Vf ic=Vf) (h5:bD ws 0 Vf qU=Vf) (h6:bD ws 0 Vf ku=Vf) (h7:bD ws 0 Vf dY=Vf) (h8:bD ws 0 Vf qP=Vf) (h9:bD ws 0 Vf kn=Vf) (h10:bD ws 0 Vf kl=Vf) (h11:bD ws 0 Vf iZ=Vf) (h12:bD ws 0 Vf qF=Vf) (h13:bD ws 0 Vf kM=Vf):gK ws .nilIface (0,Vg)
theorem MU(R A:U8)(ws:U5 U4)(w:Vh)(h:RS w R A ws 0 Vf)(he:Env w)(f:10<=R)(hP:bD ws 0 Vf ic=Vg\/bD ws 0 Vf iZ=Vg->Dn ws):
  Vk prog 62 #[.pointer (Ve ⟨R,0,Vd⟩)] w fun e w' =>
   ∃ (v:Vi) (s:U8 × U7),e=.returned v/\gK ws v s/\RS w' R A ws s.1 s.2/\Kept R w w':=by
 have x:=hide he;have bs:=hide hP;clear he hP;have k0:=Kept.refl R w;have h0:=h;clear h
 go_in
 go_wp2_with fail
 refine (iJ R A ws 0 Vf ky w h0).mono ?_;rintro e w1 ⟨rfl,h1,c⟩;have k1:=k0.trans c;clear c k0 h0;rcases Y8 (bD ws 0 Vf ky) with V|V
 ·rw[V,Vb rfl] at h1;have E1:=hide ((aJ x).kept k1 f)
  go_wp2_with fail
  refine (sQ R A ws _ _ w1 h1).mono ?_;rintro e cg ⟨rfl,bj,c⟩;have a7:=k1.trans c;have b4:=hide ((aJ E1).kept c f);clear c k1 h1 E1
  go_wp2_with fail
  refine (yh R A ws _ _ cg bj).mono ?_;rintro e dv ⟨rfl,cw,c⟩;have cp:=a7.trans c;have d5:=hide ((aJ b4).kept c f);clear c a7 bj b4;have g:=hide cp;have j:=hide cw;go_wp2;go_ret;exact⟨_,(aQ ws [bI,dE] (1,Vf)),rfl,.aT V,j.out,g.out⟩
 rw[V] at h1 ⊢
 go_wp2_with fail
 refine (iJ R A ws 0 Vf kr w1 h1).mono ?_;rintro e w2 ⟨rfl,h2,c⟩;have k2:=k1.trans c;clear c k1 h1;rcases Y8 (bD ws 0 Vf kr) with U|U
 ·rw[U,Vb rfl] at h2;have E2:=hide ((aJ x).kept k2 f)
  go_wp2_with fail
  refine (Ce R A ws (1,Vf) w2 h2 (aJ E2) f).mono ?_;rintro e du ⟨rfl,cv,c⟩;have cn:=k2.trans c;have d4:=hide ((aJ E2).kept c f);clear c k2 h2 E2;have g:=hide cn;have j:=hide cv;go_wp2;go_ret;exact⟨_,(aQ ws [bI,dE,bB,bB] (1,Vf)),rfl,.book U,j.out,g.out⟩
 rw[U] at h2 ⊢
 go_wp2_with fail
 refine (iJ R A ws 0 Vf qD w2 h2).mono ?_;rintro e w3 ⟨rfl,h3,c⟩;have k3:=k2.trans c;clear c k2 h2;rcases Y8 (bD ws 0 Vf qD) with T|T
 ·rw[T,Vb rfl] at h3;have E3:=hide ((aJ x).kept k3 f)
  go_wp2_with fail
  refine (Ce R A ws (1,Vf) w3 h3 (aJ E3) f).mono ?_;rintro e cf ⟨rfl,bi,c⟩;have a6:=k3.trans c;have bz:=hide ((aJ E3).kept c f);clear c k3 h3 E3
  go_wp2_with fail
  refine (wh R A ws _ _ cf bi).mono ?_;rintro e dr ⟨rfl,cu,c⟩;have cm:=a6.trans c;have d2:=hide ((aJ bz).kept c f);clear c a6 bi bz;have g:=hide cm;have j:=hide cu;go_wp2;go_ret;exact⟨_,(aQ ws [bI,dE,bB,bB,eJ] (1,Vf)),rfl,.hold T,j.out,g.out⟩
 rw[T] at h3 ⊢
 go_wp2_with fail
 refine (iJ R A ws 0 Vf qG w3 h3).mono ?_;rintro e w4 ⟨rfl,h4,c⟩;have k4:=k3.trans c;clear c k3 h3;rcases Y8 (bD ws 0 Vf qG) with S|S
 ·rw[S,Vb rfl] at h4;have E4:=hide ((aJ x).kept k4 f)
  go_wp2_with fail
  refine (Ce R A ws (1,Vf) w4 h4 (aJ E4) f).mono ?_;rintro e cd ⟨rfl,bh,c⟩;have a5:=k4.trans c;have bv:=hide ((aJ E4).kept c f);clear c k4 h4 E4
  go_wp2_with fail
  refine (wh R A ws _ _ cd bh).mono ?_;rintro e dq ⟨rfl,ct,c⟩;have cl:=a5.trans c;have d1:=hide ((aJ bv).kept c f);clear c a5 bh bv;have g:=hide cl;have j:=hide ct;go_wp2;go_ret;exact⟨_,(aQ ws [bI,dE,bB,bB,eJ] (1,Vf)),rfl,.wait S,j.out,g.out⟩
 rw[S] at h4 ⊢
 go_wp2_with fail
 refine (iJ R A ws 0 Vf ic w4 h4).mono ?_;rintro e w5 ⟨rfl,h5,c⟩;have k5:=k4.trans c;clear c k4 h4;rcases Y8 (bD ws 0 Vf ic) with z|z
 ·rw[z,Vb rfl] at h5;have E5:=hide ((aJ x).kept k5 f)
  go_wp2_with fail
  refine (sQ R A ws _ _ w5 h5).mono ?_;rintro e cc ⟨rfl,bg,c⟩;have a4:=k5.trans c;have bu:=hide ((aJ E5).kept c f);clear c k5 h5 E5
  go_wp2_with fail
  refine (yh R A ws _ _ cc bg).mono ?_;rintro e ca ⟨rfl,bf,c⟩;have a3:=a4.trans c;have an:=hide ((aJ bu).kept c f);clear c a4 bg bu
  go_wp2_with fail
  refine (aJ bs (.inl z) R A (aQ ws [bI,dE] (1,Vf)) ca bf (aJ an) f).mono ?_;rintro e dp ⟨pc,ev,acc,fr,mn,mi,ti,un,s,rfl,hr,cs,c⟩;have HR:=hide hr;clear hr;simp only[tG];have ck:=a3.trans c;have d0:=hide ((aJ an).kept c f);clear c a3 bf an;have g:=hide ck;have j:=hide cs;go_wp2;go_ret;exact⟨_,s,rfl,.series z pc ev acc fr mn mi ti un s HR.out,j.out,g.out⟩
 rw[z] at h5 ⊢
 go_wp2_with fail
 refine (iJ R A ws 0 Vf qU w5 h5).mono ?_;rintro e w6 ⟨rfl,h6,c⟩;have k6:=k5.trans c;clear c k5 h5;rcases Y8 (bD ws 0 Vf qU) with O|O
 ·rw[O,Vb rfl] at h6;have E6:=hide ((aJ x).kept k6 f)
  go_wp2_with fail
  refine (Ge R A ws _ _ w6 h6).mono ?_;rintro e dn ⟨rfl,cr,c⟩;have cj:=k6.trans c;have dz:=hide ((aJ E6).kept c f);clear c k6 h6 E6;have g:=hide cj;have j:=hide cr;go_wp2;go_ret;exact⟨_,(aQ ws [oi] (1,Vf)),rfl,.confirm O,j.out,g.out⟩
 rw[O] at h6 ⊢
 go_wp2_with fail
 refine (iJ R A ws 0 Vf ku w6 h6).mono ?_;rintro e w7 ⟨rfl,h7,c⟩;have k7:=k6.trans c;clear c k6 h6;rcases Y8 (bD ws 0 Vf ku) with N|N
 ·rw[N,Vb rfl] at h7;have E7:=hide ((aJ x).kept k7 f)
  go_wp2_with fail
  refine (Ge R A ws _ _ w7 h7).mono ?_;rintro e dm ⟨rfl,cq,c⟩;have ch:=k7.trans c;have dy:=hide ((aJ E7).kept c f);clear c k7 h7 E7;have g:=hide ch;have j:=hide cq;go_wp2;go_ret;exact⟨_,(aQ ws [oi] (1,Vf)),rfl,.cancel N,j.out,g.out⟩
 rw[N] at h7 ⊢
 go_wp2_with fail
 refine (iJ R A ws 0 Vf dY w7 h7).mono ?_;rintro e w8 ⟨rfl,h8,c⟩;have k8:=k7.trans c;clear c k7 h7;rcases Y8 (bD ws 0 Vf dY) with y|y
 ·rw[y,Vb rfl] at h8;have E8:=hide ((aJ x).kept k8 f)
  cases hm:cB ws.length (aQ ws [bI] (1,Vf)).1 (aQ ws [bI] (1,Vf)).2
  ·go_wp2_with fail
   refine (Ru R A ws (1,Vf) w8 h8 hm).mono ?_;rintro e wz ⟨rfl,hz,kz⟩;have g:=hide (k8.trans kz);have j:=hide hz;have HM:=hide hm;clear hz kz hm k8 h8;go_wp2;go_ret;exact⟨_,(aQ ws [bI] (1,Vf)),rfl,.list0 y HM.out,j.out,g.out⟩
  ·go_wp2_with fail
   refine (Sv R A ws (1,Vf) w8 h8 (aJ E8) f hm).mono ?_;rintro e wz ⟨rfl,hz,kz⟩;have g:=hide (k8.trans kz);have j:=hide hz;have HM:=hide hm;clear hz kz hm k8 h8;go_wp2;go_ret;exact⟨_,(aQ ws [bI,bB,bB] (1,Vf)),rfl,.list1 y HM.out,j.out,g.out⟩
 rw[y] at h8 ⊢
 go_wp2_with fail
 refine (iJ R A ws 0 Vf qP w8 h8).mono ?_;rintro e w9 ⟨rfl,h9,c⟩;have k9:=k8.trans c;clear c k8 h8;rcases Y8 (bD ws 0 Vf qP) with M|M
 ·rw[M,Vb rfl] at h9;have E9:=hide ((aJ x).kept k9 f);have g:=hide k9;have j:=hide h9;go_wp2;go_ret;exact⟨_,(1,Vf),rfl,.waiting M,j.out,g.out⟩
 rw[M] at h9 ⊢
 go_wp2_with fail
 refine (iJ R A ws 0 Vf kn w9 h9).mono ?_;rintro e az ⟨rfl,G,c⟩;have K:=k9.trans c;clear c k9 h9;rcases Y8 (bD ws 0 Vf kn) with L|L
 ·rw[L,Vb rfl] at G;have b9:=hide ((aJ x).kept K f)
  go_wp2_with fail
  refine (sQ R A ws _ _ az G).mono ?_;rintro e ay ⟨rfl,ai,c⟩;have ad:=K.trans c;have X:=hide ((aJ b9).kept c f);clear c K G b9
  go_wp2_with fail
  refine (yg R A ws _ _ ay ai (aJ X) f).mono ?_;rintro e c8 ⟨rfl,bq,c⟩;have bc:=ad.trans c;have di:=hide ((aJ X).kept c f);clear c ad ai X;have g:=hide bc;have j:=hide bq;go_wp2;go_ret;exact⟨_,(aQ ws [bI,bB,bB] (1,Vf)),rfl,.cY L,j.out,g.out⟩
 rw[L] at G ⊢
 go_wp2_with fail
 refine (iJ R A ws 0 Vf kl az G).mono ?_;rintro e ax ⟨rfl,F,c⟩;have J:=K.trans c;clear c K G;rcases Y8 (bD ws 0 Vf kl) with t|t
 ·rw[t,Vb rfl] at F;have b8:=hide ((aJ x).kept J f)
  go_wp2_with fail
  refine (sQ R A ws _ _ ax F).mono ?_;rintro e aw ⟨rfl,ag,c⟩;have ac:=J.trans c;have ak:=hide ((aJ b8).kept c f);clear c J F b8
  go_wp2_with fail
  refine (yh R A ws _ _ aw ag).mono ?_;rintro e av ⟨rfl,af,c⟩;have ab:=ac.trans c;have aj:=hide ((aJ ak).kept c f);clear c ac ag ak
  go_wp2_with fail
  refine (wh R A ws _ _ av af).mono ?_;rintro e au ⟨rfl,ae,c⟩;have aa:=ab.trans c;have W:=hide ((aJ aj).kept c f);clear c ab af aj
  go_wp2_with fail
  refine (yg R A ws _ _ au ae (aJ W) f).mono ?_;rintro e cz ⟨rfl,bo,c⟩;have ba:=aa.trans c;have dh:=hide ((aJ W).kept c f);clear c aa ae W;have g:=hide ba;have j:=hide bo;go_wp2;go_ret;exact⟨_,(aQ ws [bI,dE,eJ,bB,bB] (1,Vf)),rfl,.find t,j.out,g.out⟩
 rw[t] at F ⊢
 go_wp2_with fail
 refine (iJ R A ws 0 Vf iZ ax F).mono ?_;rintro e ar ⟨rfl,E,c⟩;have I:=J.trans c;clear c J F;rcases Y8 (bD ws 0 Vf iZ) with l|l
 ·rw[l,Vb rfl] at E;have ao:=hide ((aJ x).kept I f)
  go_wp2_with fail
  refine (aJ bs (.inr l) R A (1,Vf) ar E (aJ ao) f).mono ?_;rintro e cy ⟨pc,ev,acc,fr,mn,mi,ti,un,s,rfl,hr,bn,c⟩;have HR:=hide hr;clear hr;simp only[tG];have a9:=I.trans c;have db:=hide ((aJ ao).kept c f);clear c I E ao;have g:=hide a9;have j:=hide bn;go_wp2;go_ret;exact⟨_,s,rfl,.expand l pc ev acc fr mn mi ti un s HR.out,j.out,g.out⟩
 rw[l] at E ⊢
 go_wp2_with fail
 refine (iJ R A ws 0 Vf qF ar E).mono ?_;rintro e aq ⟨rfl,D,c⟩;have H:=I.trans c;clear c I E;rcases Y8 (bD ws 0 Vf qF) with q|q
 ·rw[q,Vb rfl] at D;have b6:=hide ((aJ x).kept H f)
  go_wp2_with fail
  refine (wh R A ws _ _ aq D).mono ?_;rintro e cx ⟨rfl,bm,c⟩;have a8:=H.trans c;have c9:=hide ((aJ b6).kept c f);clear c H D b6;have g:=hide a8;have j:=hide bm;go_wp2;go_ret;exact⟨_,(aQ ws [eJ] (1,Vf)),rfl,.tick q,j.out,g.out⟩
 rw[q] at D ⊢
 go_wp2_with fail
 refine (iJ R A ws 0 Vf kM aq D).mono ?_;rintro e dw ⟨rfl,C,c⟩;have al:=H.trans c;clear c H D;rcases Y8 (bD ws 0 Vf kM) with n|n
 ·rw[n,Vb rfl] at C;have d6:=hide ((aJ x).kept al f);have g:=hide al;have j:=hide C;go_wp2;go_ret;exact⟨_,(1,Vf),rfl,.clock n,j.out,g.out⟩
 rw[n] at C ⊢;have c2:=C.c2;have f2:=C.f2;go_wp2;go_ret;exact⟨_,(0,Vg),rfl,.none V U T S z O N y M L t l q n,C.bad,al.setCell _ _⟩
theorem xG(s:U4):∀ x∈aB.aP s,x.size<=s.size:=by
 intro x c;unfold aB.aP at c;simp only[Wm] at c;obtain⟨y,_,rfl⟩:=c;have:(s.extract y.1 y.2).size=min y.2 s.size-y.1:=ByteArray.size_extract ..;omega
inductive nc (s:U4):Ending->Prop where
 |long (h:160<s.size):nc s (.returned (.tuple #[.nilIface,.int .i64 1,.int .i64 0]))
 |bad (h:s.size<=160) (v:Vi) (st:U8 × U7) (hl:gK (aB.aP s) v st) (hb:st.2=Vg\/cB (aB.aP s).length st.1 st.2=Vg):nc s (.returned (.tuple #[.nilIface,.int .i64 2,.int .i64 st.1]))
 |qn (h:s.size<=160) (v:Vi) (st:U8 × U7) (hl:gK (aB.aP s) v st) (h2:st.2=Vf) (hb:cB (aB.aP s).length st.1 st.2=Vf):nc s (.returned (.tuple #[v,.int .i64 0,.int .i64 0]))
theorem Gk(s:U4):∀ k:U8,k<=s.size->(aB.jF s k).length+(if (aB.eG s k).size=0 then 0 else 1)<=k
 |0,_=>by
  have:=aB.qE s 0;have:=aB.xz s 0;rw[Vb UU];omega
 |k+1,hk=>by
  have ih:=Gk s k UU
  by_cases g:aB.dP s k=32
  ·obtain⟨h,c⟩:=aB.xK s k UU g;have e:(if (⟨#[]⟩:U4).size=0 then (0:U8) else 1)=0:=Vb rfl;rw[h,c,e,V5]
   by_cases f:(aB.eG s k).size=0
   ·rw[Vb f] at ih ⊢;simp;omega
   ·rw[Va f] at ih ⊢;simp;omega
  ·obtain⟨_,c⟩:=aB.xy s k g;rw[c]
   split at ih <;> split <;> omega
theorem SJ(s:U4):(aB.aP s).length<=s.size:=by
 have:=Gk s s.size (zq _);rw[aB.vq,V5]
 split <;> rename_i hc <;> simp[hc] at this ⊢ <;> omega
theorem Rr{j g n cap:U8}{c:U5 U4}(h:w.ownsRow j 9 1 (.slice (Ve ⟨g,0,Vd⟩) n cap) n (c.map Y0)):g<w.heap.size/\∀ (i:U8)(z:i<c.length),w.cell? ⟨g,i,Vd⟩=Ve (.string c[i]):=by
 rcases h.2 with ⟨E,_⟩|⟨J,C,t,D,G,q,H,_,F,ht⟩
 ·cases E
 ·cases D
  have l:g<w.heap.size:=by
   by_cases l:g<w.heap.size
   ·exact l
   ·rw[Array.getElem?_eq_none UU] at q;cases q
  refine⟨l,fun i z=>?_⟩;have I:=h.1;have y:(c.map Y0).length=c.length:=UV
  have f:t[i]?=Ve (.string c[i]):=by
   have x:(c.map Y0)[i]?=Ve (.string c[i]):=by simp[z]
   rw[<- ht,List.getElem?_take,Vb UU] at x
   simpa using x
  simp[VL,q,f]
theorem My(s:U4)(w:Vh)(K:Env w)(M:bD (aB.aP s) 0 Vf ic=Vg\/bD (aB.aP s) 0 Vf iZ=Vg->Dn (aB.aP s)):
  Vk prog 45 #[.string s] w fun e w'=>nc s e/\Vj w.heap.size w w':=by
 have HE:=hide K;have ab:=K.size;clear K
 by_cases D:s.size<=160
 ·have I:(s.size:U9)<=160:=UU
  go_in
  go_wp2_with fail
  refine (Re s w D).mono ?_;rintro e w1 ⟨A,rfl,hA,U,L⟩;obtain⟨aa,l⟩:=Rr U;have H:=SJ s;have z:=xG s;obtain⟨ws,f⟩:∃ ws,ws=aB.aP s:=⟨_,rfl⟩;have C:=hide f;rw[<- f] at l H z M ⊢;have O:=hide M;clear f U M;have F:=hide l;have N:=hide z;clear l z
  go_wp2_with fail
  obtain⟨X,G⟩:∃ X,X=w1.alloc (.cells #[.slice (Ve ⟨A,0,Vd⟩) ws.length ws.length,.int .i64 0,.bool Vf] 123):=⟨_,rfl⟩;rw[<- G];have q:Vj w1.heap.size w1 X:=by rw[G];exact (zr _ _).alloc (zq _) _
  have E:RS X w1.heap.size A ws 0 Vf:=by
   refine⟨?_,?_,?_,?_,?_,by omega,fun i hi=>cell_later q (aJ F i hi),by omega,Nat.zero_le _,fun x hx=>Vq (aJ N x hx) D⟩ <;> (rw[G];simp)
  clear G;have W:=((aJ HE).later L).later q;have y:=L.size;refine (MU w1.heap.size A ws X E W UU (aJ O)).mono ?_;rintro e w2 ⟨v,st,rfl,V,t,k2⟩;have c1:=t.c1;have c2:=t.c2;have T:=hide V;have c:Vj w.heap.size w w2:=(L.trans (q.mono y)).trans (k2.below y (Vq y q.size));have J:=t.ve;clear V W E q;obtain⟨nx,wr⟩:=st;dsimp only at c1 c2 t J;have g:cB ws.length nx wr=Vf\/cB ws.length nx wr=Vg:=by cases cB ws.length nx wr <;> simp
  cases wr
  ·rcases g with g|g
   ·have S:=hide g
    go_wp2_with fail
    refine (im w1.heap.size A ws nx Vf w2 t).mono ?_;rintro e w3 ⟨rfl,n,j⟩;have h:Vj w.heap.size w w3:=by rw[j];exact⟨c.os,c.tape,c.output,c.size,c.block⟩
    clear j t;rw[g];go_wp2;go_ret3;have f:=C.out;subst f;exact⟨.qn D v (nx,Vf) T.out rfl S.out,h⟩
   ·have S:=hide g
    go_wp2_with fail
    refine (im w1.heap.size A ws nx Vf w2 t).mono ?_;rintro e w3 ⟨rfl,n,j⟩;have h:Vj w.heap.size w w3:=by rw[j];exact⟨c.os,c.tape,c.output,c.size,c.block⟩
    have d1:w3.cell? ⟨w1.heap.size,1,Vd⟩=Ve (.int .i64 nx):=by rw[j];exact c1
    clear j t c1 c2;rw[g];go_wp2
    go_quiet (fail)
    go_wp2;go_ret3;have f:=C.out;subst f;exact⟨.bad D v (nx,Vf) T.out (.inr S.out),⟨h.os,h.tape,h.output,h.size,h.block⟩⟩
  ·clear t g;go_wp2
   go_quiet (fail)
   go_wp2;go_ret3;have f:=C.out;subst f;exact⟨.bad D v (nx,Vg) T.out (.inl rfl),⟨c.os,c.tape,c.output,c.size,c.block⟩⟩
 ·have I:¬ (s.size:U9)<=160:=UU
  go_in
  go_wp2;go_ret3;exact⟨.long UU,Below.refl _ _⟩
theorem SU(s:U4)(w:Vh)(c:Env w):
  Vk prog 45 #[.string s] w fun e w'=>nc s e/\Vj w.heap.size w w':=My s w c (fun _ R A st w h c f=>T9 R A _ st w h c f)
open aA (aL St dB kept dZ cS cN gD cA bW gJ ec gy nk Inv)
theorem Env.oe(h:Env w)(j:Vj 10 w wx):Env wx:=by
 obtain⟨m,t⟩:=h.tD;have c:∀ {b:U8}{o:U8}{v:Vi},b<10->w.cell? ⟨b,o,Vd⟩=Ve v->wx.cell? ⟨b,o,Vd⟩=Ve v:=fun g q=>(j.cell (p:=⟨_,_,Vd⟩) g).trans q
 have ht:=h.iL;obtain⟨I,H,G,F,E,D,C,z,y,x,n,l⟩:=ht;refine⟨⟨c UW I,c UW H,c UW G,c UW F,c UW E,c UW D,c UW C,c UW z,c UW y,c UW x,c UW n,c UW l⟩,⟨m,c UW t⟩,?_,Vq h.size j.size,c UW h.mo,c UW h.tu,c UW h.we,c UW h.th,c UW h.fr,c UW h.sa,c UW h.su⟩;have f:=h.pow;unfold Lib.TabIs YS at f ⊢;simp only[vd,YT] at f ⊢;rw[j.block 0 UW];exact f
theorem Step.oe{S:aW->Prop}(h:Step S B aM col' w w')(x:10<=B)(t:10<=w.heap.size)(l:∀ b,b<10->aM b=Vd):Vj 10 w w'/\∀ b,b<10->col' b=Vd:=by
 obtain⟨G,f,q⟩:=h.off;refine⟨⟨f.os,f.tape,f.output,f.size,fun b g=>f.block b UU (fun n=>?_)⟩,fun b g=>?_⟩
 ·rcases q b n with ⟨c,e,_⟩|⟨_,e⟩
  ·rw[l b g] at e;cases e
  ·omega
 ·cases e:col' b with
  |none=>rfl
  |some c =>
   rcases h.new b c e with j|j
   ·rw[l b g] at j;cases j
   ·omega
structure BD(w:Vh)(p d:U8)(s:St)(r:Raw)(aM:U8->U6 aW):Prop where
 pc:w.heap[p]?=Ve (.cells #[.pointer (Ve ⟨d,0,Vd⟩)] 99 (0,0))
 pn:aM p=Vd
 ds:dS w d s r aM
 env:Env w
 gl:∀ b,b<10->aM b=Vd
def lT(w:Vh)(p d:U8)(aM:U8->U6 aW)(q:St × aA.bO)(v:Vi)(w':Vh):Prop :=
 ∃ (c:Raw) (col':U8->U6 aW),BD w' p d q.1 c col'/\Step anyS w.heap.size aM col' w w'/\kv w' w.heap.size col' v q.2
def wF(t:U4):Prop:=∀ X,Env X->Vk prog 45 #[.string t] X fun e w'=>nc t e/\Vj X.heap.size X w'
theorem L7(h:BD w p d s r aM)(t:U4)(c:Vi)(l:aA.fJ)(M:wF t)(hr:∀ e,nc t e->e=.returned (.tuple #[c,.int .i64 0,.int .i64 0]))(y:aA.ec (aA.aU s l).1)(z:aA.Inv (aA.ig s l).1)(C:(aA.aU s l).2.granted.length<=50000)
  (g:∀ X,gA X->10<=X.heap.size->dS X d s r aM->Vk prog 64 #[.pointer (Ve ⟨d,0,Vd⟩),c] X fun e w'=>∃ v,e=.returned v/\dX X d aM (aA.aU s l) v w'):
  Vk prog 21 #[.pointer (Ve ⟨p,0,Vd⟩),.string t] w fun e w'=>∃ v,e=.returned v/\lT w p d aM (aA.ig s l) v w':=by
 have L:Vj w.heap.size w (w.alloc aX):=(zr _ _).alloc (zq _) _;have hq:=cC w aX;have hs:w.heap.size<(w.alloc aX).heap.size:=UV
 have RD:=aC (M (w.alloc aX) (h.env.later L));have n:=aC (zA L (zA (Q7.of hq) (zA (h.ds.dk.none (zq _)) hs)));have HH:=aC h;have HR:=aC hr;have HD:Hid (∀ w1,Vj w.heap.size w w1->Vk prog 46 #[.pointer (Ve ⟨d,0,Vd⟩),c] w1 fun e w'=>∃ v,e=.returned v/\dX w1 d aM (aA.ig s l) v w'):=fun w1 k=>Oy ⟨h.ds.dk.later k,h.ds.of,h.ds.wl,h.ds.hl,h.ds.inv⟩ c l y C (fun X kX K=>g X (((h.env.later k).later kX).iL) (Vq (Vq h.env.size k.size) kX.size) K)
 have HI:=aC z;have f:p<w.heap.size:=(Y9.1 h.pc).1;clear h hr g L hq hs C y z;generalize aA.ig s l=q at *
 go_in
 go_upto_region 1 with fail
 change Za _ _ _ _ (w.alloc aX);generalize w.alloc aX=X at *
 go_upto_region 2 with (first
  |(go_at_call 45;refine RD.out.mono ?_;rintro e w1 ⟨x,E⟩;obtain rfl:=HR.out _ x))
 have BW:Hid (Vj w.heap.size w w1):=n.out.1.trans (E.mono n.out.1.size)
 have pc:w1.cell? ⟨p,0,Vd⟩=Ve (.pointer (Ve ⟨d,0,Vd⟩)):=by
  have:=(BW.out.block p f).trans HH.out.pc;simp[VL,this]
 have DD:=aC (HD.out w1 BW.out);have QX:Hid (Q7 w1 w.heap.size/\w.heap.size<w1.heap.size):=⟨n.out.2.1.later (E.block _ n.out.2.2.2),Wk n.out.2.2.2 E.size⟩;clear HD RD HR E x
 go_wp2_with fail
 refine DD.out.mono ?_;rintro e w2 ⟨v,rfl,ap⟩;obtain⟨N,at_,F,a1,W,V,U,J,I,H,G,c1,T,S,O,rfl,q7,hf⟩:=ap.up BW.out (zq _) QX.out.2 n.out.2.2.1 QX.out.1
 have HF:Hid (lT w p d aM q (bC N at_ F (.slice a1 J c1) (.slice W I T) (.slice V H S) (.slice U G O)) (cK w2 w.heap.size (.int .i64 N) (.int .i64 at_) (.int .i64 F) (.slice a1 J c1) (.slice W I T) (.slice V H S) (.slice U G O))):=by
  obtain⟨r',col',k1,k2,k3,k4,D,k6⟩:=hf (.int .i64 N) (.int .i64 at_) (.int .i64 F) (.slice a1 J c1) (.slice W I T) (.slice V H S) (.slice U G O);have j:=HH.out;obtain⟨t1,t2⟩:=D.oe j.env.size j.env.size j.gl;exact⟨r',col',⟨(D.bV f j.pn f).trans j.pc,D.cU j.pn f,⟨k1,k2,k3,k4,HI.out⟩,j.env.oe t1,t2⟩,D,k6⟩
 clear ap hf DD pc;obtain⟨q0,q1,q2,q3,q4,q5,q6,fq⟩:=q7;simp only[bC]
 go_wp2_with fail
 exact cO results21 ⟨q0,q1,q2,q3,q4,q5,q6,fq⟩ ⟨_,rfl,HF.out⟩
theorem Lx(h:BD w p d s r aM)(t:U4)(n at_:U9)(E:wF t)(J:n≠0)(H:∀ e,nc t e->e=.returned (.tuple #[.nilIface,.int .i64 n,.int .i64 at_])):
  Vk prog 21 #[.pointer (Ve ⟨p,0,Vd⟩),.string t] w fun e w'=>∃ v,e=.returned v/\lT w p d aM (s,⟨n,at_,0,[],[],[],[]⟩) v w':=by
 have D:Vj w.heap.size w (w.alloc aX):=(zr _ _).alloc (zq _) _;have I:=cC w aX;have G:w.heap.size<(w.alloc aX).heap.size:=UV
 have RD:=aC (E (w.alloc aX) (h.env.later D));have z:=aC (zA D (zA (Q7.of I) (zA (h.ds.dk.none (zq _)) G)));have HH:=aC h;have K:=aC H;have y:p<w.heap.size:=(Y9.1 h.pc).1;have aa:(n != 0)=Vg:=by simpa using J
 clear h H D I G J
 go_in
 go_upto_region 1 with fail
 change Za _ _ _ _ (w.alloc aX);generalize w.alloc aX=X at *
 go_upto_region 2 with (first
  |(go_at_call 45;refine RD.out.mono ?_;rintro e w1 ⟨q,l⟩;obtain rfl:=K.out _ q))
 have L:Hid (Vj w.heap.size w w1):=z.out.1.trans (l.mono z.out.1.size);have QX:Hid (Q7 w1 w.heap.size):=z.out.2.1.later (l.block _ z.out.2.2.2)
 have HF:Hid (∀ a b c e f g i,lT w p d aM (s,⟨n,at_,0,[],[],[],[]⟩) (bC n at_ 0 (.slice Vd 0 0) (.slice Vd 0 0) (.slice Vd 0 0) (.slice Vd 0 0)) (cK w1 w.heap.size a b c e f g i)):=fun a b c e f g i=>by
  have j:=HH.out;have F:=lF w1 w.heap.size a b c e f g i;have nq:=j.ds.dk.none (zq w.heap.size);have st:Step anyS w.heap.size aM aM w (cK w1 w.heap.size a b c e f g i):=(Step.below L.out).trans ⟨⟨_,F,fun x C=>.inr (by have:x=w.heap.size:=YD.1 C;subst this;exact⟨nq,Vn _⟩)⟩,fun _ _ h=>h,fun _ _ h=>.inl h⟩;obtain⟨N,M⟩:=st.oe j.env.size j.env.size j.gl;exact⟨r,aM,⟨(st.bV y j.pn y).trans j.pc,j.pn,⟨(j.ds.dk.later L.out).off F (fun x C=>by have:x=w.heap.size:=YD.1 C;subst this;exact nq),j.ds.of,j.ds.wl,j.ds.hl,j.ds.inv⟩,j.env.oe N,M⟩,st,⟨_,_,_,_,[],rfl,rfl,gI.nil _ _ _,eD.nil _ _ _,eD.nil _ _ _,eD.nil _ _ _,(fun b l=>by cases l),fun b l=>by cases l⟩⟩
 clear RD K l q z;obtain⟨q0,W,V,U,T,S,O,fq⟩:=QX.out
 go_wp2_with fail
 exact cO results21 ⟨q0,W,V,U,T,S,O,fq⟩ ⟨_,rfl,HF.out _ _ _ _ _ _ _⟩
theorem ph{T:Vm}{fs:Array Field}(f:prog.underlying T=Ve (.struct fs))(c:Vm)(v:Vi)(w:Vh):(Zb (.iface T v) c T Vg).run prog w=.ok (.tuple #[v,.bool Vg]) w:=by
 simp[Zb,go_sem,Zc,run_underlying f]
theorem dS.qa{s:aA.St}(h:dS w d s r aM)(o:Obj):dS ((w.alloc aX).alloc o) d s r aM/\Vj w.heap.size w ((w.alloc aX).alloc o)/\Q7 ((w.alloc aX).alloc o) w.heap.size/\aM w.heap.size=Vd/\w.heap.size<((w.alloc aX).alloc o).heap.size:=by
 have c:Vj w.heap.size w ((w.alloc aX).alloc o):=((zr _ _).alloc (zq _) _).alloc UV _;exact⟨⟨h.dk.later c,h.of,h.wl,h.hl,h.inv⟩,c,Q7.of ((Below.heap_alloc _ _ _ UV).trans (cC w aX)),h.dk.none (zq _),by simp;omega⟩
theorem dX.pW{X:Vh}{q:aA.St × aA.bO}{v:Vi}(h:dX X d aM q v w2)(k:Vj w.heap.size w X/\Q7 X w.heap.size/\aM w.heap.size=Vd/\w.heap.size<X.heap.size):
  ∃ (l at_ n:U9) (E D C z:U6 Addr) (j g f c c1 y x t:U8),v=bC l at_ n (.slice E j c1) (.slice D g y) (.slice C f x) (.slice z c t)/\Q7 w2 w.heap.size/\dX w d aM q v (cK w2 w.heap.size (.int .i64 l) (.int .i64 at_) (.int .i64 n) (.slice E j c1) (.slice D g y) (.slice C f x) (.slice z c t)):=by
 obtain⟨l,at_,n,E,D,C,z,j,g,f,c,c1,y,x,t,e,F,G⟩:=h.up k.1 (zq _) k.2.2.2 k.2.2.1 k.2.1;exact⟨l,at_,n,E,D,C,z,j,g,f,c,c1,y,x,t,e,F,G _ _ _ _ _ _ _⟩
theorem qu(t:Vm)(h:t≠149)(c:Vm)(v:Vi)(w:Vh):(Zb (.iface t v) c 149 Vg).run prog w=.ok (.tuple #[.agg #[.string ⟨#[]⟩,.int .i64 0],.bool Vf]) w:=by
 simp[Zb,go_sem,Zc,run_underlying underlying149,h]
theorem sb(t:Vm)(h:t≠154)(c:Vm)(v:Vi)(w:Vh):(Zb (.iface t v) c 154 Vg).run prog w=.ok (.tuple #[.agg #[.string ⟨#[]⟩,.int .i64 0,.int .i64 0,.int .i64 0],.bool Vf]) w:=by
 simp[Zb,go_sem,Zc,run_underlying underlying154,h]
theorem sd(t:Vm)(h:t≠156)(c:Vm)(v:Vi)(w:Vh):(Zb (.iface t v) c 156 Vg).run prog w=.ok (.tuple #[.agg #[.string ⟨#[]⟩,.int .i64 0,.int .i64 0,.int .i64 0,.int .i64 0],.bool Vf]) w:=by
 simp[Zb,go_sem,Zc,run_underlying underlying156,h]
theorem rZ(t:Vm)(h:t≠157)(c:Vm)(v:Vi)(w:Vh):(Zb (.iface t v) c 157 Vg).run prog w=.ok (.tuple #[.agg #[.string ⟨#[]⟩,.int .i64 0,.int .i64 0,.int .i64 0,.int .i64 0],.bool Vf]) w:=by
 simp[Zb,go_sem,Zc,run_underlying underlying157,h]
theorem tz(t:Vm)(h:t≠165)(c:Vm)(v:Vi)(w:Vh):(Zb (.iface t v) c 165 Vg).run prog w=.ok (.tuple #[.agg #[.string ⟨#[]⟩,.int .i64 0,.int .i64 0,.int .i64 0,.bool Vf,.bool Vf,.bool Vf,.bool Vf,.bool Vf,.bool Vf,.bool Vf,.int .i64 0,.int .i64 0,.int .i64 0,.int .i64 0,.int .i64 0],.bool Vf]) w:=by
 simp[Zb,go_sem,Zc,run_underlying underlying165,h]
theorem tw(t:Vm)(h:t≠167)(c:Vm)(v:Vi)(w:Vh):(Zb (.iface t v) c 167 Vg).run prog w=.ok (.tuple #[.agg #[.int .i64 0],.bool Vf]) w:=by
 simp[Zb,go_sem,Zc,run_underlying underlying167,h]
theorem vb(t:Vm)(h:t≠168)(c:Vm)(v:Vi)(w:Vh):(Zb (.iface t v) c 168 Vg).run prog w=.ok (.tuple #[.agg #[.int .i64 0],.bool Vf]) w:=by
 simp[Zb,go_sem,Zc,run_underlying underlying168,h]
theorem wT(t:Vm)(h:t≠170)(c:Vm)(v:Vi)(w:Vh):(Zb (.iface t v) c 170 Vg).run prog w=.ok (.tuple #[.agg #[.string ⟨#[]⟩,.bool Vf,.int .i64 0,.int .i64 0],.bool Vf]) w:=by
 simp[Zb,go_sem,Zc,run_underlying underlying170,h]
theorem xf(t:Vm)(h:t≠173)(c:Vm)(v:Vi)(w:Vh):(Zb (.iface t v) c 173 Vg).run prog w=.ok (.tuple #[.agg #[],.bool Vf]) w:=by
 simp[Zb,go_sem,Zc,run_underlying underlying173,h]
theorem Ab(t:Vm)(h:t≠176)(c:Vm)(v:Vi)(w:Vh):(Zb (.iface t v) c 176 Vg).run prog w=.ok (.tuple #[.agg #[.string ⟨#[]⟩,.int .i64 0,.int .i64 0],.bool Vf]) w:=by
 simp[Zb,go_sem,Zc,run_underlying underlying176,h]
theorem Ei(t:Vm)(h:t≠178)(c:Vm)(v:Vi)(w:Vh):(Zb (.iface t v) c 178 Vg).run prog w=.ok (.tuple #[.agg #[.string ⟨#[]⟩,.int .i64 0,.int .i64 0,.int .i64 0,.int .i64 0],.bool Vf]) w:=by
 simp[Zb,go_sem,Zc,run_underlying underlying178,h]
theorem Nr(t:Vm)(h:t≠180)(c:Vm)(v:Vi)(w:Vh):(Zb (.iface t v) c 180 Vg).run prog w=.ok (.tuple #[.agg #[.int .i64 0,.int .i64 0,.bool Vf,.bool Vf,.bool Vf,.bool Vf,.bool Vf,.bool Vf,.bool Vf,.int .i64 0,.int .i64 0,.int .i64 0,.int .i64 0,.int .i64 0],.bool Vf]) w:=by
 simp[Zb,go_sem,Zc,run_underlying underlying180,h]
theorem MC(t:Vm)(h:t≠182)(c:Vm)(v:Vi)(w:Vh):(Zb (.iface t v) c 182 Vg).run prog w=.ok (.tuple #[.agg #[.int .i64 0],.bool Vf]) w:=by
 simp[Zb,go_sem,Zc,run_underlying underlying182,h]
theorem Sh(h:dS w d s r aM)(id:U9)(ae:0<=id/\id<=9999999):
  Vk prog 97 #[.pointer (Ve ⟨d,0,Vd⟩),.agg #[.int .i64 id]] w fun e w'=>∃ v,e=.returned v/\dX w d aM (aA.aU s (.cancel id)) v w':=by
 obtain⟨hX,ab,aa,_⟩:=uQ w (.cells #[.int .i64 id] 168);have xi:=aZ aa 0 rfl;have l:=aC h;have K:=aC (zA hX ab);clear h hX ab aa
 go_in
 go_upto_region 1 with fail
 change Za _ _ _ _ ((w.alloc (.cells #[.int .i64 id] 168)).alloc aX);generalize (w.alloc (.cells #[.int .i64 id] 168)).alloc aX=X at K xi ⊢;have y:=l.out.dk.later K.out.1;obtain⟨m,f,a1,a2,a3,a4⟩:=y.me;have kk:=xS (n:=id) UU UU;have c:=(a3.block (w':=X.drew) rfl).look xI underlying138 (Px X.drew) kk;rw[a4 id] at c;have QX:Hid (Q7 X.drew (w.heap.size+1)):=Q7.of K.out.2;have BX:Hid (Vj w.heap.size w X.drew):=K.out.1.drew
 cases I:gv r.eg id with
 |none =>
  rw[I] at c;have j:(YJ 138 (.map (Ve m)) (.int .i64 id) Vf).run prog X.drew=.ok (.pointer Vd) X.drew:=c;have HD:Hid (aA.aU s (.cancel id)=(s,aA.bO.error 9)):=by have e:=UF l.out.of I;simp only[Hid,aA.aU,e]
  clear c a3 a4 I y K
  go_big_region
  clear j xi a1
  go_wp2_with fail
  refine (lI 9 X.drew).mono ?_;rintro e w1 ⟨rfl,hb⟩;have M:=aC (l.out.refuse BX.out QX.out hb HD.out);obtain⟨q0,V,U,T,S,O,N,fq⟩:=M.out.1;simp only[bC]
  go_wp2_with fail
  exact cO results97 ⟨q0,V,U,T,S,O,N,fq⟩ ⟨_,rfl,M.out.2⟩
 |some b =>
  rw[I] at c;obtain⟨g,D,rfl,rfl⟩:=Ic I;have j:(YJ 138 (.map (Ve m)) (.int .i64 g.e.id) Vf).run prog X.drew=.ok (.pointer (Ve ⟨g.eb,0,Vd⟩)) X.drew:=c;have hf:=UK l.out.of y.ni D;have ck:X.drew.cell? ⟨g.eb,1,Vd⟩=Ve (.int .i64 g.e.kind):=(y.en g D).1.k;have hd:=y.later (dM X);have HD:Hid (aA.aU s (.cancel g.e.id)=({ s with es:=kept g.e.id s.es },aA.bO.num 0)):=by simp only[Hid,aA.aU,hf]
  have hQ:w.heap.size+1<X.drew.heap.size:=Vr _ _ QX.out.q0;have J:aM (w.heap.size+1)=Vd:=l.out.dk.none UU
  by_cases H:g.e.kind=1
  ·have ad:(g.e.kind != 1)=Vf:=by simpa using H
   have LV:=aC (I0 hd l.out.of l.out.wl l.out.aS D (l.out.hl.nA y.ni D H));have ST:Hid (Step anyS w.heap.size aM aM w X.drew):=Step.below BX.out;have Q2:=QX;have t:=hQ;have q:=J;clear c a3 a4 I y K hf H hd D
   go_big_region
   clear j xi a1
   go_wp2_with fail
   refine LV.out.mono ?_;rintro e w2 ⟨rfl,r2,ac,C,z,k7,k8,E⟩;have hq:=E.bV t q t
   have M:Hid (dX w d aM (aA.aU s (.cancel g.e.id)) (bC 0 0 0 (.slice Vd 0 0) (.slice Vd 0 0) (.slice Vd 0 0) (.slice Vd 0 0)) (cK w2 (w.heap.size+1) (.int .i64 0) (.int .i64 0) (.int .i64 0) (.slice Vd 0 0) (.slice Vd 0 0) (.slice Vd 0 0) (.slice Vd 0 0))):=by
    rw[HD.out];exact vR C z k7 k8 (ST.out.trans (E.any ST.out.size)) UU (E.cU q t) 0 0 _ _ _ _ _ _ _
   clear C z k7 k8 E LV;obtain⟨q0,V,U,T,S,O,N,fq⟩:=Q2.out.later hq
   go_wp2_with fail
   exact cO results97 ⟨q0,V,U,T,S,O,N,fq⟩ ⟨_,rfl,M.out⟩
  ·have ad:(g.e.kind != 1)=Vg:=by simpa using H
   have F:r.hl.length<=1000:=by
    have h1:=l.out.hl.len;have h2:r.eg.length=s.es.length:=by rw[<- l.out.of.es];simp
    have h3:=mb l.out.aS;omega
   have DR:=aC (fun wx (k:Vj X.drew.heap.size X.drew wx)=>Hy (hd.later k) l.out.hl.1 F g.e.bY g.e.id ⟨_,l.out.hl.has D H,rfl,rfl⟩);have c0:X.drew.cell? ⟨g.eb,0,Vd⟩=Ve (.int .i64 g.e.id):=(y.en g D).1.en.c0;have c5:X.drew.cell? ⟨g.eb,5,Vd⟩=Ve (.int .i64 g.e.bY):=(y.en g D).1.u;have L:=aC (zA D (zA H y.ni));clear c a3 a4 I y K hf H hd D F
   go_big_region
   clear j xi a1
   go_upto_region 5 with fail
   generalize hW:X.drew=W at *
   go_region_held3 (fun w'=>w'.cell? ⟨g.eb,0,Vd⟩=Ve (.int .i64 g.e.id)/\w'.cell? ⟨g.eb,5,Vd⟩=Ve (.int .i64 g.e.bY))
    (first
     |exact⟨c0,c5⟩
     |exact⟨((C.en g L.out.1).1).en.c0,((C.en g L.out.1).1).u⟩)
    (first
     |(go_at_call 149;refine (DR.out _ (dM W)).mono ?_;rintro e w4 ⟨rfl,x,l',G,k1,k2,k3,k4,C,z⟩))
   have LV:=aC (I0 C (s:=s) ⟨l.out.of.now,l.out.of.given,l.out.of.ts,l.out.of.es,l.out.of.th,l.out.of.tb⟩ l.out.wl l.out.aS L.out.1 (l.out.hl.goes L.out.2.2 L.out.1 L.out.2.1 k2 k3 k4));have ST:Hid (Step anyS w.heap.size aM G w w4):=(Step.below BX.out).trans ((Step.below (dM W)).trans (z.any BX.out.size));have Q2:Hid (Q7 w4 (w.heap.size+1)):=QX.out.later (z.bV (b:=w.heap.size+1) hQ J hQ);have t:w.heap.size+1<w4.heap.size:=Vr _ _ Q2.out.q0;have q:G (w.heap.size+1)=Vd:=z.cU J hQ;clear k1 k2 k3 k4 C z DR c0 c5 ck hW
   go_wp2_with fail
   refine LV.out.mono ?_;rintro e w2 ⟨rfl,r2,ac,C,z,k7,k8,E⟩;have hq:=E.bV t q t
   have M:Hid (dX w d aM (aA.aU s (.cancel g.e.id)) (bC 0 0 0 (.slice Vd 0 0) (.slice Vd 0 0) (.slice Vd 0 0) (.slice Vd 0 0)) (cK w2 (w.heap.size+1) (.int .i64 0) (.int .i64 0) (.int .i64 0) (.slice Vd 0 0) (.slice Vd 0 0) (.slice Vd 0 0) (.slice Vd 0 0))):=by
    rw[HD.out];exact vR C z k7 k8 (ST.out.trans (E.any ST.out.size)) UU (E.cU q t) 0 0 _ _ _ _ _ _ _
   clear C z k7 k8 E LV;obtain⟨q0,V,U,T,S,O,N,fq⟩:=Q2.out.later hq
   go_wp2_with fail
   exact cO results97 ⟨q0,V,U,T,S,O,N,fq⟩ ⟨_,rfl,M.out⟩
def il(s:St)(e:aL):St × aA.bO :=
 if s.given=60\/e.kind=3/\aA.eh s.es=6 then (s,.error 5)
 else if e.kind≠3/\aA.dG s.ts s.es e.aT e.aH e.aK=Vf then (s,.error 8)
 else aA.jz s e
def lG(w:Vh)(B:U8)(d:U8)(aM:U8->U6 aW)(q:St × aA.bO)(v:Vi)(w':Vh):Prop :=
 ∃ (f n:U9) (c:Raw) (col':U8->U6 aW),v=bC f 0 n (.slice Vd 0 0) (.slice Vd 0 0) (.slice Vd 0 0) (.slice Vd 0 0)/\q.2=⟨f,0,n,[],[],[],[]⟩/\DK w' d c col'/\Of q.1 c/\Wl c/\Hl c/\Step anyS B aM col' w w'
theorem sJ{t:St}{j:Raw}(G:DK Z d j col')(F:Of t j)(E:Wl j)(D:Hl j)(C:Step anyS B aM col' w Z)(z:B<=Q)(y:col' Q=Vd)(q n:U9)(a b c e f g i:Vi):
  lG w B d aM (t,⟨q,0,n,[],[],[],[]⟩) (bC q 0 n (.slice Vd 0 0) (.slice Vd 0 0) (.slice Vd 0 0) (.slice Vd 0 0)) (cK Z Q a b c e f g i):=by
 have k:=lF Z Q a b c e f g i;have st:Step anyS B col' col' Z (cK Z Q a b c e f g i):=⟨⟨_,k,fun x l=>.inr (by have:x=Q:=YD.1 l;subst this;exact⟨y,z⟩)⟩,fun _ _ h=>h,fun _ _ h=>.inl h⟩;exact⟨q,n,j,col',rfl,rfl,G.off k (fun x l=>by have:x=Q:=YD.1 l;subst this;exact y),F,E,D,C.trans st⟩
def EG.num(g:EG)(n:U9):EG:={ g with e:={ g.e with id:=n } }
theorem gR.num{g:EG}(h:gR w g)(c:g.eb≠g.B)(n:U9):gR (w.setCell ⟨g.eb,0,Vd⟩ (.int .i64 n)) (g.num n):=by
 have k:=aF.aY g.eb w 0 (.int .i64 n);have f:=h.lt;refine⟨⟨zm _ _ _ h.en.c0,(zS _ _ _ _ UV).trans h.en.c1,(zS _ _ _ _ UV).trans h.en.c2,(zS _ _ _ _ UV).trans h.en.c3,h.en.sl.off k (by simpa using Yf c),Wk h.en.lt k.size⟩,(zS _ _ _ _ UV).trans h.k,(zS _ _ _ _ UV).trans h.u,fun o=>(zF ..).trans (h.fz o),?_⟩;obtain⟨cs,e⟩:=h.bl;exact⟨_,heap_setCell_same _ _ _ _ _ _ e⟩
theorem Wl.eh(h:Wl r)(c:Of s r):aA.eh s.es=(r.wl.length:U9):=by
 unfold aA.eh;rw[h,WL,<- c.es,List.filter_map,WL];rfl
theorem Sk(h:dS w d s r aM){g:EG}(N:gR w g)(L:B<=w.heap.size)(n:s.given=60\/g.e.kind=3/\aA.eh s.es=6):
  Vk prog 144 #[.pointer (Ve ⟨d,0,Vd⟩),.pointer (Ve ⟨g.eb,0,Vd⟩)] w fun e w'=>∃ v,e=.returned v/\lG w B d aM (il s g.e) v w':=by
 have H:Vj w.heap.size w (w.alloc aX):=(zr _ _).alloc (zq _) _;have q:Hid (Q7 (w.alloc aX) w.heap.size):=Q7.of (cC w aX);have O:=(h.dk.later H).c1;rw[h.of.given] at O;have U:=(N.off (G:=[]) (aF.aD H) UV UV).k;have M:Hid (il s g.e=(s,aA.bO.error 5)):=Vb n;obtain⟨W,V,l,K⟩:=(h.dk.later H).wa;obtain⟨a,cap,rfl⟩:=iy l;have S:=h.wl.eh h.of;have c:=aC h;have f:=aC H;clear l K h H N
 go_in
 go_upto_region 1 with fail
 change Za _ _ _ _ (w.alloc aX);generalize w.alloc aX=X at *;rcases n with n|⟨n,hw⟩
 ·rw[n] at O
  go_wp2_with fail
  refine (lI 5 X).mono ?_;rintro e w1 ⟨rfl,j⟩;have F:=j.block w.heap.size (Vr _ _ q.out.q0)
  have J:Hid (lG w B d aM (il s g.e) (bC 5 0 0 (.slice Vd 0 0) (.slice Vd 0 0) (.slice Vd 0 0) (.slice Vd 0 0)) (cK w1 w.heap.size (.int .i64 5) (.int .i64 0) (.int .i64 0) (.slice Vd 0 0) (.slice Vd 0 0) (.slice Vd 0 0) (.slice Vd 0 0))):=by
   rw[M.out];exact sJ (c.out.dk.later (f.out.trans (j.mono f.out.size))) c.out.of c.out.wl c.out.hl (Step.below (f.out.trans (j.mono f.out.size))) L (c.out.dk.none (zq _)) 5 0 _ _ _ _ _ _ _
  obtain⟨E,D,C,z,y,x,t,I⟩:=q.out.later F;simp only[bC]
  go_wp2_with fail
  exact cO results144 ⟨E,D,C,z,y,x,t,I⟩ ⟨_,rfl,J.out⟩
 ·by_cases T:s.given<60
  ·rw[n] at U;rw[show r.wl.length=6 by omega] at V
   go_wp2_with fail
   refine (lI 5 X).mono ?_;rintro e w1 ⟨rfl,j⟩;have F:=j.block w.heap.size (Vr _ _ q.out.q0)
   have J:Hid (lG w B d aM (il s g.e) (bC 5 0 0 (.slice Vd 0 0) (.slice Vd 0 0) (.slice Vd 0 0) (.slice Vd 0 0)) (cK w1 w.heap.size (.int .i64 5) (.int .i64 0) (.int .i64 0) (.slice Vd 0 0) (.slice Vd 0 0) (.slice Vd 0 0) (.slice Vd 0 0))):=by
    rw[M.out];exact sJ (c.out.dk.later (f.out.trans (j.mono f.out.size))) c.out.of c.out.wl c.out.hl (Step.below (f.out.trans (j.mono f.out.size))) L (c.out.dk.none (zq _)) 5 0 _ _ _ _ _ _ _
   obtain⟨E,D,C,z,y,x,t,I⟩:=q.out.later F;simp only[bC]
   go_wp2_with fail
   exact cO results144 ⟨E,D,C,z,y,x,t,I⟩ ⟨_,rfl,J.out⟩
  ·go_wp2_with fail
   refine (lI 5 X).mono ?_;rintro e w1 ⟨rfl,j⟩;have F:=j.block w.heap.size (Vr _ _ q.out.q0)
   have J:Hid (lG w B d aM (il s g.e) (bC 5 0 0 (.slice Vd 0 0) (.slice Vd 0 0) (.slice Vd 0 0) (.slice Vd 0 0)) (cK w1 w.heap.size (.int .i64 5) (.int .i64 0) (.int .i64 0) (.slice Vd 0 0) (.slice Vd 0 0) (.slice Vd 0 0) (.slice Vd 0 0))):=by
    rw[M.out];exact sJ (c.out.dk.later (f.out.trans (j.mono f.out.size))) c.out.of c.out.wl c.out.hl (Step.below (f.out.trans (j.mono f.out.size))) L (c.out.dk.none (zq _)) 5 0 _ _ _ _ _ _ _
   obtain⟨E,D,C,z,y,x,t,I⟩:=q.out.later F;simp only[bC]
   go_wp2_with fail
   exact cO results144 ⟨E,D,C,z,y,x,t,I⟩ ⟨_,rfl,J.out⟩
theorem DK.uy(h:DK w d r aM){f:Lit->U6 U8}(t:w.cell? ⟨d,3,Zd⟩=Ve (.map (Ve m)))(z:aM m=Ve .me)(N:∀ id,f (ju id)=gv r.eg id){g:EG}(J:gR w g)(C:aM g.eb=Zd)(M:aM g.B=Zd)(h3:B<=g.eb)(h4:B<=g.B)(V:g.eb≠g.B)(q:∀ x∈r.eg,x.e.id≠g.e.id)(p:eW prog 3 w' m n' (Go.Proofs.YtfigmlfdnickmaaGreatDoor.lg f (ju g.e.id) (Ve g.eb)) (if (f (ju g.e.id)).isSome then r.eg.length else r.eg.length+1))(l:w.grownBy w' (Ve m)):
  ∃ col',DK w' d { r with eg:=r.eg++[g] } col'/\Step (·=.me) B aM col' w w'/\∀ k,aM k=Zd->k≠g.eb->k≠g.B->col' k=Zd:=by
 have k:aF [m] w w':=⟨l.os,l.tape,l.output,l.size,fun i F U=>l.block i F (by simpa using U)⟩;have kC:Step (·=.me) B aM (gN aM [g.eb] .ent) w w':=uh k (fun x j=>.inl ⟨_,by simp at j;subst j;exact z,rfl⟩) (fun x j _=>by simp at j;omega)
 have L:gN aM [g.eb] .ent g.B=Zd:=by
  unfold gN;rw[M];simp only;rw[Va (by simpa using Yf V)]
 have E:Step (·=.me) B (gN aM [g.eb] .ent) (gN (gN aM [g.eb] .ent) [g.B] .span) w' w':=uh (G:=[]) (aF.refl _ _) UV (fun x j _=>by simp at j;omega);have st:=kC.trans E;obtain⟨b1,b2,O,b4,D⟩:=h.base st UV;have H:gN (gN aM [g.eb] .ent) [g.B] .span g.eb=Ve .ent:=B5 (ua UV (fun X t=>by rw[C] at t;cases t));have I:gN (gN aM [g.eb] .ent) [g.B] .span g.B=Ve .span:=ua UV (fun X t=>by rw[L] at t;cases t);have n:g.eb≠m/\g.B≠m:=⟨fun e=>(by rw[e,z] at C;cases C),fun e=>(by rw[e,z] at M;cases M)⟩;refine⟨_,⟨b1,b2,h.rE st (D 2) UV,⟨m,lg f (ju g.e.id) (Ve g.eb),(D 3).trans t,st.gk _ _ z,?_,fun x=>?_⟩,h.ry st (D 4) UV,h.rG st (D 5) (O 5) UV,fun i F=>h.pX st i F UV,fun x j=>?_,?_,?_,O,b4,fun x c j=>?_⟩,st,fun x j T S=>?_⟩
 ·rw[N,B8 q] at p;show eW _ _ _ _ (r.eg++[g]).length _ (r.eg++[g]).length;rw[V5];exact p.tight
 ·show lg f (ju g.e.id) (Ve g.eb) (ju x)=gv (r.eg++[g]) x;rw[GZ q]
  by_cases e:x=g.e.id
  ·rw[e,sO,Vb rfl]
  ·rw[sS f _ (fun W=>e (GM W)),Va e,N]
 ·rcases List.mem_append.1 j with j|j
  ·exact h.rN st UV UV x j
  ·have:x=g:=by simpa using j
   subst this;exact⟨J.off k (by simpa using n.1) (by simpa using n.2),H,I⟩
 ·show ((r.eg++[g]).map (·.eb)).Nodup;rw[Wr,VJ];refine⟨h.nd,by simp,fun a K b y e=>?_⟩;obtain⟨x,j,rfl⟩:=Wm.1 K;have:=(h.en x j).2.1;simp at y;rw[e,y,C] at this;cases this
 ·show ((r.eg++[g]).map (·.e.id)).Nodup;rw[Wr,VJ];refine⟨h.ni,by simp,fun a K b y e=>?_⟩;obtain⟨x,j,rfl⟩:=Wm.1 K;simp at y;exact q x j (by rw[e,y])
 ·rcases oL j with e|⟨_,e,_⟩
  ·rcases oL e with e|⟨_,e,_⟩
   ·exact zL (h.lt x c e) st.size
   ·simp at e;subst e;exact zL J.lt st.size
  ·simp at e;subst e;exact zL J.en.lt st.size
 ·cases e:gN (gN aM [g.eb] .ent) [g.B] .span x with
  |none=>rfl
  |some c =>
   rcases oL e with e|⟨_,e,_⟩
   ·rcases oL e with e|⟨_,e,_⟩
    ·rw[j] at e;cases e
    ·exact Vc (YD.1 e) T
   ·exact Vc (YD.1 e) S
theorem DK.ux(h:DK w d r aM){f:Lit->U6 U8}(D:w.cell? ⟨d,2,Zd⟩=Ve (.map (Ve m)))(I:aM m=Ve .mt)(O:∀ n,f (mG n)=jH r.tg n){t:TG}(ht:TH w t.tb t.name t.aH t.A t.T Zd Zd [] [])(L:aM t.tb=Zd)(h3:B<=t.tb)(q:∀ x∈r.tg,x.name≠t.name)(p:eW prog 9 w' m n' (Go.Proofs.YtfigmlfdnickmaaGreatDoor.lg f (mG t.name) (Ve t.tb)) (if (f (mG t.name)).isSome then r.tg.length else r.tg.length+1))(j:w.grownBy w' (Ve m)):
  ∃ col',DK w' d { r with tg:=r.tg++[t] } col'/\Step (·=.mt) B aM col' w w'/\∀ k,aM k=Zd->k≠t.tb->col' k=Zd:=by
 have k:aF [m] w w':=⟨j.os,j.tape,j.output,j.size,fun i K W=>j.block i K (by simpa using W)⟩;have st:Step (·=.mt) B aM (gN aM [t.tb] (.aT r.tg.length)) w w':=uh k (fun x g=>.inl ⟨_,by simp at g;subst g;exact I,rfl⟩) (fun x g _=>by simp at g;omega);obtain⟨b1,b2,S,b4,E⟩:=h.base st UV;have z:t.tb≠m:=fun e=>by rw[e,I] at L;cases L
 have H:gN aM [t.tb] (.aT r.tg.length) t.tb=Ve (.aT r.tg.length):=ua UV (fun c' D=>by rw[L] at D;cases D)
 have l:jH r.tg t.name=Zd:=by
  rw[sR];have:r.tg.find? (fun y=>aA.bW y.name t.name)=Zd:=List.find?_eq_none.2 (fun y V=>by rw[Bool.not_eq_true,pT];exact q y V);rw[this];rfl
 refine⟨_,⟨b1,b2,⟨m,lg f (mG t.name) (Ve t.tb),(E 2).trans D,st.gk _ _ I,?_,fun x=>?_⟩,h.sX st (E 3) UV,h.ry st (E 4) UV,h.rG st (E 5) (S 5) UV,fun i K=>?_,h.rN st UV UV,h.nd,h.ni,S,b4,fun x c g=>?_⟩,st,fun x g U=>?_⟩
 ·rw[O,l] at p;show eW _ _ _ _ (r.tg++[t]).length _ (r.tg++[t]).length;rw[V5];exact p.tight
 ·show lg f (mG t.name) (Ve t.tb) (mG x)=jH (r.tg++[t]) x;rw[Rk q]
  by_cases e:x=t.name
  ·rw[e,sO,Vb rfl]
  ·rw[sS f _ (fun C=>e (Qh C)),Va e,O]
 ·have J:i<r.tg.length+1:=by simpa using K
  by_cases e:i<r.tg.length
  ·have C:(r.tg++[t])[i]'(by simpa using J)=r.tg[i]:=List.getElem_append_left e;show ∃ G F N M,TH w' (r.tg++[t])[i].tb _ _ _ _ G F N M/\_;rw[C];exact h.pX st i e UV
  ·have X:i=r.tg.length:=UU
   subst X;have C:(r.tg++[t])[r.tg.length]'UV=t:=UV
   show ∃ G F N M,TH w' (r.tg++[t])[r.tg.length].tb _ _ _ _ G F N M/\_;rw[C];refine⟨Zd,Zd,[],[],ht.off k (fun x g=>by simp at g;subst g;simpa using z),fun x g=>by simp at g;subst g;exact H⟩
 ·rcases oL g with e|⟨_,e,_⟩
  ·exact zL (h.lt x c e) st.size
  ·simp at e;subst e;exact zL (ht.lt _ UV) st.size
 ·cases e:gN aM [t.tb] (.aT r.tg.length) x with
  |none=>rfl
  |some c =>
   rcases oL e with e|⟨_,e,_⟩
   ·rw[g] at e;cases e
   ·exact Vc (YD.1 e) U
structure CV(w T:Vh)(B d Q:U8)(s:St)(r:Raw)(aM:U8->U6 aW)(g:EG)(r1:Raw)(c1:U8->U6 aW):Prop where
 dk:DK T d r1 c1
 en:gR T (g.num (s.given+1))
 ce:c1 g.eb=Vd
 cb:c1 g.B=Vd
 st:Step anyS B aM c1 w T
 q7:Q7 T Q
 qc:c1 Q=Vd
 of:Of (aA.jz s g.e).1 { r1 with given:=s.given+1,eg:=r1.eg++[g.num (s.given+1)] }
 wl:Wl { r1 with given:=s.given+1,eg:=r1.eg++[g.num (s.given+1)] }
 eg:r1.eg=r.eg
 hl:r1.hl=r.hl
def TL(w T:Vh)(B d Q:U8)(s:St)(r:Raw)(aM:U8->U6 aW)(g:EG):Prop:=∃ c c1,CV w T B d Q s r aM g c c1
structure kL(w:Vh)(B d:U8)(s:St)(r:Raw)(aM:U8->U6 aW)(g:EG)(i:U8):Prop where
 ds:dS w d s r aM
 en:gR w g
 ce:aM g.eb=Vd
 cb:aM g.B=Vd
 be:B<=g.eb
 bb:B<=g.B
 ne:g.eb≠g.B
 hB:B<=w.heap.size
 hi:i<r.tg.length
 name:r.tg[i].name=g.e.aT
 tb:g.tb=r.tg[i].tb
 ok:gy s.now g.e
theorem kL.num{g:EG}(h:kL w B d s r aM g i)(n:U9):gy s.now (g.num n).e:=⟨h.ok.u1,h.ok.u9,h.ok.sl,h.ok.s0,h.ok.sp,h.ok.ri,h.ok.kd⟩
theorem kL.fresh{g:EG}(h:kL w B d s r aM g i):∀ x∈r.eg,x.e.id≠(g.num (s.given+1)).e.id:=fun x c e=>by
 have:=(h.ds.inv.mP _ (h.ds.of.mem c)).2;simp only[EG.num] at e;omega
structure Ay(w Y:Vh)(B d Q:U8)(s:St)(r:Raw)(aM:U8->U6 aW)(g:EG):Prop where
 dk:DK Y d r aM
 en:gR Y (g.num (s.given+1))
 st:Step anyS B aM aM w Y
 q7:Q7 Y Q
 ql:Q<Y.heap.size
 qc:aM Q=Vd
theorem kL.oV{g:EG}(h:kL w B d s r aM g i):Ay w ((w.alloc aX).setCell ⟨g.eb,0,Vd⟩ (.int .i64 (s.given+1))) B d w.heap.size s r aM g:=by
 have f:Vj w.heap.size w (w.alloc aX):=(zr _ _).alloc (zq _) _;have l:=(h.en.off (G:=[]) (aF.aD f) UV UV);have k:=aF.aY g.eb (w.alloc aX) 0 (.int .i64 (s.given+1));have j:=h.en.lt;refine⟨(h.ds.dk.later f).off k (fun x c=>?_),l.num h.ne _,(Step.below f).trans ⟨⟨_,k,fun x c=>.inr ?_⟩,fun _ _ h=>h,fun _ _ h=>.inl h⟩,(Q7.of (cC w aX)).later (k.block _ UV U0),Wk UV k.size,h.ds.dk.none (zq _)⟩
 ·have:x=g.eb:=YD.1 c;subst this;exact h.ce
 ·have:x=g.eb:=YD.1 c;subst this;exact⟨h.ce,h.be⟩
theorem kL.yO{g:EG}(h:kL w B d s r aM g i)(y:Ay w Y B d Q s r aM g)(l:g.e.kind≠3)(n:DK w1 d (r.cW i ((r.tg[i]'h.hi).with (bZ (r.tg[i]'h.hi).A g.e.aK g.e.aH) (gn (s.given+1) g.eb (r.tg[i]'h.hi).T g.e.aK))) c1)(f:Step (·=.aT i) Y.heap.size aM c1 Y w1):TL w w1 B d Q s r aM g:=by
 have j:=y.en.lt;have c:=y.en.en.lt;have o:=(h.ds.of.comes h.ds.inv.tn (g:=g.num (s.given+1)) h.fresh l h.ok.ri h.hi h.name h.tb (s.given+1)).1;refine⟨_,c1,n,f.uJ y.en (.inr ⟨h.ce,j⟩) (.inr ⟨h.cb,c⟩),f.cU h.ce j,f.cU h.cb c,y.st.trans (f.any (Vq h.hB y.st.size)),y.q7.later (f.bV y.ql y.qc y.ql),f.cU y.qc y.ql,?_,?_,rfl,rfl⟩
 ·exact⟨o.now,o.given,o.ts,o.es,o.th,o.tb⟩
 ·exact h.ds.wl.comes (g:=g.num (s.given+1)) l
theorem kL.waits{g:EG}(h:kL w B d s r aM g i)(y:Ay w Y B d Q s r aM g)(n:g.e.kind=3)(q:DK w1 d { r with wl:=r.wl++[g.eb] } c1)(j:Step (fun c=>c=.wa\/c=.desk) Y.heap.size aM c1 Y w1):TL w w1 B d Q s r aM g:=by
 have l:=y.en.lt;have f:=y.en.en.lt;have o:=h.ds.of.lu (g:=g.num (s.given+1)) h.fresh n h.hi h.name h.tb (s.given+1);refine⟨_,c1,q,j.uJ y.en (.inr ⟨h.ce,l⟩) (.inr ⟨h.cb,f⟩),j.cU h.ce l,j.cU h.cb f,y.st.trans (j.any (Vq h.hB y.st.size)),y.q7.later (j.bV y.ql y.qc y.ql),j.cU y.qc y.ql,?_,?_,rfl,rfl⟩
 ·exact⟨o.now,o.given,o.ts,o.es,o.th,o.tb⟩
 ·exact h.ds.wl.lu (g:=g.num (s.given+1)) n
structure UO(w T:Vh)(B d Q:U8)(s:St)(r:Raw)(aM:U8->U6 aW)(g:EG)(r2:Raw)(c2:U8->U6 aW):Prop where
 dk:DK T d r2 c2
 mem:g.num (s.given+1)∈r2.eg
 st:Step anyS B aM c2 w T
 q7:Q7 T Q
 ql:Q<T.heap.size
 qc:c2 Q=Vd
 of:Of (aA.jz s g.e).1 r2
 wl:Wl r2
 eg:r2.eg=r.eg++[g.num (s.given+1)]
 hl:r2.hl=r.hl
theorem CV.store{T:Vh}{g:EG}{D:Raw}(t:CV w T B d w.heap.size s r aM g D c1)(a:kL w B d s r aM g i):
  ∃ m,(T.setCell ⟨d,1,Vd⟩ (.int .i64 (s.given+1))).cell? ⟨d,3,Vd⟩=Ve (.map (Ve m))/\(T.setCell ⟨d,1,Vd⟩ (.int .i64 (s.given+1))).cell? ⟨g.eb,0,Vd⟩=Ve (.int .i64 (s.given+1)) /\
   ∃ w3,(Instr.mapUpdate 138 (.map (Ve m)) (.int .i64 (s.given+1)) (.pointer (Ve ⟨g.eb,0,Vd⟩))).run prog (T.setCell ⟨d,1,Vd⟩ (.int .i64 (s.given+1))).drew=.ok () w3/\∃ O c2,UO w w3 B d w.heap.size s r aM g O c2:=by
 obtain⟨h,c⟩:=t.dk.np (s.given+1);have z:=t.dk.dc;have F:g.eb≠d:=fun e=>by have:=t.ce;rw[e,z] at this;cases this
 have H:g.B≠d:=fun e=>by have:=t.cb;rw[e,z] at this;cases this
 have V:=aF.aY d T 1 (.int .i64 (s.given+1));have C:gR (T.setCell ⟨d,1,Vd⟩ (.int .i64 (s.given+1))) (g.num (s.given+1)):=t.en.off V (by simpa[EG.num] using F) (by simpa[EG.num] using H);have y:Q7 (T.setCell ⟨d,1,Vd⟩ (.int .i64 (s.given+1))) w.heap.size:=t.q7.later (c.bV (Vr _ _ t.q7.q0) t.qc (Vr _ _ t.q7.q0));have j:Step anyS B aM c1 w (T.setCell ⟨d,1,Vd⟩ (.int .i64 (s.given+1))):=t.st.trans (c.any (Vq a.hB t.st.size));generalize T.setCell ⟨d,1,Vd⟩ (.int .i64 (s.given+1))=T1 at *;obtain⟨m,f,N,M,a3,a4⟩:=h.me;have aa:=a.ds.inv.g0;have X:=a.ds.inv.g1;have U:=xS (n:=s.given+1) UU UU
 have L:D.eg.length<=60:=by
  have h2:r.eg.length=s.es.length:=by rw[<- a.ds.of.es];simp
  have h3:=mb a.ds.aS;rw[t.eg];omega
 obtain⟨w3,l,S,K⟩:=(a3.block (w':=T1.drew) rfl).jT xI underlying138 (by unfold maxLen;show D.eg.length<_;omega) U (by unfold ju;trivial) g.eb;have d1:=h.later (dM T1);have J:gR T1.drew (g.num (s.given+1)):=C.off (G:=[]) (aF.aD (dM T1)) UV UV;obtain⟨c2,e1,e2,e3⟩:=d1.uy (g:=g.num (s.given+1)) (B:=B) N M a4 J t.ce t.cb a.be a.bb a.ne (fun x W=>a.fresh x (by rw[<- t.eg];exact W)) S K;have E:w.heap.size<T1.drew.heap.size:=Vr _ _ y.q0;have I:w.heap.size≠m:=fun e=>by have:=t.qc;rw[e,M] at this;cases this
 have hb:w3.heap[w.heap.size]?=T1.heap[w.heap.size]?:=K.block _ E (fun e=>I (Option.some.inj e));have q:=y.later hb;refine⟨m,N,C.en.c0,w3,l,_,c2,e1,List.mem_append_right _ (YD.2 rfl),(j.trans (Step.below (dM T1))).trans (e2.mono (fun _ _=>trivial) (zq _)),q,Vr _ _ q.q0,?_,t.of,t.wl,?_,t.hl⟩
 ·exact e3 _ t.qc (fun e=>by have:=a.en.lt;rw[show (g.num (s.given+1)).eb=g.eb from rfl] at e;omega) (fun e=>by have:=a.en.en.lt;rw[show (g.num (s.given+1)).B=g.B from rfl] at e;omega)
 ·show D.eg++[_]=_;rw[t.eg]
theorem Gq(h:DK w d r aM)(n:Hp.gH r.hl)(hl:r.hl.length<=900)(g:EG):
  Vk prog 198 #[.pointer (Ve ⟨d,5,Vd⟩),.int .i64 g.e.bY,.int .i64 g.e.id,.pointer (Ve ⟨g.eb,0,Vd⟩)] w fun e w'=>e=.returned (.tuple #[])/\∃ (f:U5 Hp.Hi) (col':U8->U6 aW),Hp.gH f/\f.Perm (r.hl++[kP g])/\DK w' d { r with hl:=f } col'/\Step (fun c=>c=.he\/c=.desk) w.heap.size aM col' w w':=by
 obtain⟨v,y,x⟩:=h.he;refine (Pv d 5 v r.hl (kP g) w y n hl).mono ?_;rintro e w' ⟨rfl,f,p,t,q⟩;obtain⟨col',l,j⟩:=h.heap x p;exact⟨rfl,f,col',t,q,l,j⟩
theorem Sl{g:EG}(h:kL w B d s r aM g i)(ad:s.given<60)(hk:g.e.kind≠3):
  Vk prog 144 #[.pointer (Ve ⟨d,0,Vd⟩),.pointer (Ve ⟨g.eb,0,Vd⟩)] w fun e w'=>∃ v,e=.returned v/\lG w B d aM (il s g.e) v w':=by
 have hX:Vj w.heap.size w (w.alloc aX):=(zr _ _).alloc (zq _) _;have q:=aC h.oV;have cg:=(h.ds.dk.later hX).c1;rw[h.ds.of.given] at cg;have D:=(h.en.off (G:=[]) (aF.aD hX) UV UV);have ck:=D.k;have ci:=D.en.c0;have fi:=D.fz 0;have ct:=D.en.c1;have ae:=h.ds.inv.g0;have ab:Vp.wrap (s.given+1)=s.given+1:=cG UU UU
 have HN:Hid (r.hl.length<=900):=by
  have h1:=h.ds.hl.len;have h2:r.eg.length=s.es.length:=by rw[<- h.ds.of.es];simp
  have h3:=mb h.ds.aS;show _<=_;omega
 have f:=aC h;have ac:(g.e.kind==3)=Vf:=by simpa using hk
 have hm:=h.ds.aS;have hi:=h.hi;have C:=Hr hm h.ds.of (e:=(g.num (s.given+1)).e) h.ok.sp h.ok.u1 hi h.name;have c:=Be hm h.ds.of (h.num (s.given+1)) hi;have z:=BB hm h.ds.of hi;have E:=(h.ds.of.comes h.ds.inv.tn (g:=g.num (s.given+1)) h.fresh hk h.ok.ri hi h.name h.tb (s.given+1)).2;have K:=aC (zA C (zA c (zA z E)));clear h hX D hm C c z E
 go_in
 go_upto_region 1 with fail
 change Za _ _ _ _ (w.alloc aX);generalize w.alloc aX=X at *
 go_upto_region 6 with fail
 have cy:(X.setCell ⟨g.eb,0,Vd⟩ (.int .i64 (s.given+1))).cell? ⟨g.eb,2,Vd⟩=Ve (.pointer (Ve ⟨g.tb,0,Vd⟩)):=q.out.en.en.c1;generalize X.setCell ⟨g.eb,0,Vd⟩ (.int .i64 (s.given+1))=Y at q cy ⊢;clear cg ck ci fi ct
 cases c:aA.dG s.ts s.es g.e.aT g.e.aH g.e.aK with
 |false =>
  have HD:Hid (il s g.e=(s,aA.bO.error 8)):=by
   unfold il;rw[Va UU,Vb ⟨hk,c⟩];rfl
  have TA:=aC (Gs q.out.dk i f.out.hi q.out.en f.out.tb (by show aM g.eb≠_;rw[f.out.ce];simp) (by show aM g.B≠_;rw[f.out.cb];simp) K.out.2.1 (by rw[K.out.1];exact c));clear c
  go_wp2_with fail
  refine TA.out.mono ?_;rintro e F ⟨rfl,J,y,t⟩;have Q1:Hid (Q7 F w.heap.size/\J w.heap.size=Vd):=⟨q.out.q7.later (t.bV q.out.ql q.out.qc q.out.ql),t.cU q.out.qc q.out.ql⟩;have P1:Hid (DK F d r J/\Step anyS B aM J w F):=⟨y,q.out.st.trans (t.any (Vq f.out.hB q.out.st.size))⟩;clear y t TA cy
  go_wp2_with fail
  refine (lI 8 F).mono ?_;rintro e w1 ⟨rfl,hb⟩;have hq:=hb.block w.heap.size (Vr _ _ Q1.out.1.q0)
  have HF:Hid (lG w B d aM (il s g.e) (bC 8 0 0 (.slice Vd 0 0) (.slice Vd 0 0) (.slice Vd 0 0) (.slice Vd 0 0)) (cK w1 w.heap.size (.int .i64 8) (.int .i64 0) (.int .i64 0) (.slice Vd 0 0) (.slice Vd 0 0) (.slice Vd 0 0) (.slice Vd 0 0))):=by
   rw[HD.out];exact sJ (P1.out.1.later hb) f.out.ds.of f.out.ds.wl f.out.ds.hl (P1.out.2.trans (Step.below hb)) f.out.hB Q1.out.2 8 0 _ _ _ _ _ _ _
  obtain⟨U,y,t,T,S,O,N,fq⟩:=Q1.out.1.later hq;simp only[bC]
  go_wp2_with fail
  exact cO results144 ⟨U,y,t,T,S,O,N,fq⟩ ⟨_,rfl,HF.out⟩
 |true =>
  have HD:Hid (il s g.e=aA.jz s g.e):=by
   unfold il;rw[Va UU,Va (by rw[c];simp)];rfl
  have TA:=aC (HJ q.out.dk i f.out.hi q.out.en f.out.tb (by show aM g.eb≠_;rw[f.out.ce];simp) (by show aM g.B≠_;rw[f.out.cb];simp) K.out.2.1 ⟨K.out.2.2.1.1,K.out.2.2.1.2,K.out.2.2.2,Cw f.out.ok.ri⟩ (by rw[K.out.1];exact c));clear c
  go_wp2_with fail
  refine TA.out.mono ?_;rintro e F ⟨rfl,J,y,t⟩;have TT:Hid (TL w F B d w.heap.size s r aM g):=f.out.yO q.out hk y t;clear y t TA cy J
  by_cases H:g.e.kind=1
  ·obtain⟨r1,c1,x⟩:=TT.out;have J:F.cell? ⟨g.eb,0,Vd⟩=Ve (.int .i64 (s.given+1)):=x.en.en.c0;have d1:=x.dk.c1;have f1:=x.dk.fz 1;obtain⟨m,s1,M,w3,l,r2,c2,L⟩:=x.store f.out;have j:=aC L;clear x L
   go_upto_region 9 with fail
   generalize F.setCell ⟨d,1,Vd⟩ (.int .i64 (s.given+1))=T1 at s1 M l ⊢;clear J d1 f1
   go_big_region
   clear l s1 M;obtain⟨I,e2,e3⟩:=j.out.dk.en _ j.out.mem;have k0:w3.cell? ⟨g.eb,0,Vd⟩=Ve (.int .i64 (s.given+1)):=I.en.c0;have k1:w3.cell? ⟨g.eb,1,Vd⟩=Ve (.int .i64 g.e.kind):=I.k;have k5:w3.cell? ⟨g.eb,5,Vd⟩=Ve (.int .i64 g.e.bY):=I.u;clear I e2 e3;have W:(g.e.kind != 1)=Vf:=by simpa using H
   have HF:Hid (lG w B d aM (il s g.e) (bC 0 0 (s.given+1) (.slice Vd 0 0) (.slice Vd 0 0) (.slice Vd 0 0) (.slice Vd 0 0)) (cK w3 w.heap.size (.int .i64 0) (.int .i64 0) (.int .i64 (s.given+1)) (.slice Vd 0 0) (.slice Vd 0 0) (.slice Vd 0 0) (.slice Vd 0 0))):=by
    rw[HD.out];have n:=j.out;refine sJ n.dk n.of n.wl ?_ n.st f.out.hB n.qc 0 (s.given+1) _ _ _ _ _ _ _;have hh:=f.out.ds.hl.se (g:=g.num (s.given+1)) H;unfold Hl at hh ⊢;rw[n.eg,n.hl];exact hh
   obtain⟨U,y,t,T,S,O,N,fq⟩:=j.out.q7
   go_wp2_with fail
   exact cO results144 ⟨U,y,t,T,S,O,N,fq⟩ ⟨_,rfl,HF.out⟩
  ·obtain⟨r1,c1,x⟩:=TT.out;have J:F.cell? ⟨g.eb,0,Vd⟩=Ve (.int .i64 (s.given+1)):=x.en.en.c0;have d1:=x.dk.c1;have f1:=x.dk.fz 1;obtain⟨m,s1,M,w3,l,r2,c2,L⟩:=x.store f.out;have j:=aC L;clear x L
   go_upto_region 9 with fail
   generalize F.setCell ⟨d,1,Vd⟩ (.int .i64 (s.given+1))=T1 at s1 M l ⊢;clear J d1 f1
   go_big_region
   clear l s1 M;obtain⟨I,e2,e3⟩:=j.out.dk.en _ j.out.mem;have k0:w3.cell? ⟨g.eb,0,Vd⟩=Ve (.int .i64 (s.given+1)):=I.en.c0;have k1:w3.cell? ⟨g.eb,1,Vd⟩=Ve (.int .i64 g.e.kind):=I.k;have k5:w3.cell? ⟨g.eb,5,Vd⟩=Ve (.int .i64 g.e.bY):=I.u;clear I e2 e3;have W:(g.e.kind != 1)=Vg:=by simpa using H
   have PU:=aC (fun wx (k:Vj w3.heap.size w3 wx)=>Gq (j.out.dk.later k) (by rw[j.out.hl];exact f.out.ds.hl.1) (by rw[j.out.hl];exact HN.out) (g.num (s.given+1)))
   go_upto_region 11 with fail
   go_region_held3 (fun w'=>w'.cell? ⟨g.eb,0,Vd⟩=Ve (.int .i64 (s.given+1))/\w'.cell? ⟨g.eb,5,Vd⟩=Ve (.int .i64 g.e.bY))
    (first
     |exact⟨k0,k5⟩
     |exact⟨((V.en _ j.out.mem).1).en.c0,((V.en _ j.out.mem).1).u⟩)
    (first
     |(go_at_call 198;refine (PU.out _ (dM w3)).mono ?_;rintro e w4 ⟨rfl,l',c3,p1,p2,V,p4⟩))
   have aa:w4.cell? ⟨g.eb,0,Vd⟩=Ve (.int .i64 (s.given+1)):=((V.en _ j.out.mem).1).en.c0;have hq:=p4.bV j.out.ql j.out.qc j.out.ql
   have HF:Hid (lG w B d aM (il s g.e) (bC 0 0 (s.given+1) (.slice Vd 0 0) (.slice Vd 0 0) (.slice Vd 0 0) (.slice Vd 0 0)) (cK w4 w.heap.size (.int .i64 0) (.int .i64 0) (.int .i64 (s.given+1)) (.slice Vd 0 0) (.slice Vd 0 0) (.slice Vd 0 0) (.slice Vd 0 0))):=by
    rw[HD.out];have n:=j.out;have o:=n.of;refine sJ V ⟨o.now,o.given,o.ts,o.es,o.th,o.tb⟩ n.wl ?_ ((n.st.trans (Step.below (dM w3))).trans (p4.any (Vq f.out.hB n.st.size))) f.out.hB (p4.cU n.qc n.ql) 0 (s.given+1) _ _ _ _ _ _ _;have hh:=f.out.ds.hl.comes (g:=g.num (s.given+1)) H p1 (by rw[<- n.hl];exact p2);unfold Hl at hh ⊢;show _/\List.Perm l' ((r2.eg.filter _).map _);rw[n.eg];exact hh
   clear p1 p2 V p4 PU k0 k1 k5;obtain⟨U,y,t,T,S,O,N,fq⟩:=j.out.q7.later hq
   go_wp2_with fail
   exact cO results144 ⟨U,y,t,T,S,O,N,fq⟩ ⟨_,rfl,HF.out⟩
theorem N7:(prog.info? 197).map (fun i=>(i.zero,i.size,i.bytes))=Ve (Ve (.pointer Vd),1,8):=UZ
theorem Sm{g:EG}(h:kL w B d s r aM g i)(al:s.given<60)(J:g.e.kind=3)(ai:r.wl.length<6):
  Vk prog 144 #[.pointer (Ve ⟨d,0,Vd⟩),.pointer (Ve ⟨g.eb,0,Vd⟩)] w fun e w'=>∃ v,e=.returned v/\lG w B d aM (il s g.e) v w':=by
 have hX:Vj w.heap.size w (w.alloc aX):=(zr _ _).alloc (zq _) _;have YY:=aC h.oV;have cg:=(h.ds.dk.later hX).c1;rw[h.ds.of.given] at cg;have l:=(h.en.off (G:=[]) (aF.aD hX) UV UV);have ck:=l.k;have ci:=l.en.c0;have fi:=l.fz 0;have ct:=l.en.c1;have an:=h.ds.inv.g0;have aj:Vp.wrap (s.given+1)=s.given+1:=cG UU UU
 have HN:Hid (r.hl.length<=900):=by
  have h1:=h.ds.hl.len;have h2:r.eg.length=s.es.length:=by rw[<- h.ds.of.es];simp
  have h3:=mb h.ds.aS;show _<=_;omega
 have E:=aC h;obtain⟨i0,ac,ab,aa,W⟩:=info_parts N7;obtain⟨v4,T,f,C⟩:=h.oV.dk.wa
 have ad:(w.alloc aX).cell? ⟨d,4,Vd⟩=Ve v4:=by
  rw[<- T];exact (zS _ _ _ _ UV).symm
 obtain⟨a,cap,rfl⟩:=iy f;have ag:=h.ds.wl.eh h.ds.of;have M:=h.oV.dk.fz 4;have O4:=aC (zA f C);have K:=Vr _ _ T;have z:d ∉ (Ze a r.wl.length cap).ownBlock.toList:=fun e=>by have:=C _ (WW.1 e);rw[h.ds.dk.dc] at this;cases this
 rw[J] at ck;clear h hX l f C
 go_in
 go_upto_region 1 with fail
 change Za _ _ _ _ (w.alloc aX);generalize w.alloc aX=X at *
 have HD:Hid (il s g.e=aA.jz s g.e):=by
  unfold il;rw[Va UU,Va (by simp[J])];rfl
 go_upto_region 5 with fail
 generalize X.setCell ⟨g.eb,0,Vd⟩ (.int .i64 (s.given+1))=Y at *;clear cg ck ci fi ct ad
 go_upto_region 8 with (first
  |(at_builtin;refine wpList_append_lies _ rfl _ _ 139 rfl 0 197 i0 _ 1 8 underlying139 ac ab aa W rfl UW _ _ _ rfl (O4.out.1.alloc _) ⟨Y.heap.size,0,Vd⟩ 1 1 [jw g.eb] rfl rfl (World.news_of_block (cs:=#[jw g.eb]) (cC Y _)) (by simp[jw,Value.oneCell']) UU U1 UU UV (Y.heap.size+1) UV ?_;intro D n w1 t j L ak;have O:aF ((Ze a r.wl.length cap).ownBlock.toList) Y w1:=aF.grown ((aF.refl _ Y).alloc _) j (fun k J=>.inl (WW.2 J));have z1:=O.cell z T;have z2:=(O.frozen (o:=4) z K).trans M;clear j))
 have x:(Ze a r.wl.length cap).ownBlock=Ve D\/D=Y.heap.size+1:=L
 have SW:=aC (YY.out.dk.jg (wl':=r.wl++[g.eb]) (v':=.slice (Ve ⟨D,0,Vd⟩) (r.wl.length+1) n) O4.out.2 O (by rw[V5,Wr];exact t) (fun b hb=>by
  have:D=b:=by simpa[Value.ownBlock] using hb
  subst this;rcases x with e|e
  ·exact .inl e
  ·exact .inr UU))
 have TT:Hid (TL w (w1.setCell ⟨d,4,Vd⟩ (.slice (Ve ⟨D,0,Vd⟩) (r.wl.length+1) n)) B d w.heap.size s r aM g):=by
  obtain⟨c1,V,U⟩:=SW.out;exact E.out.waits YY.out J V U
 clear t O L x z1 z2 SW O4 T M;have I:g.e.kind≠1:=UU
 clear z K;generalize w1.setCell ⟨d,4,Vd⟩ (.slice (Ve ⟨D,0,Vd⟩) (r.wl.length+1) n)=w0 at TT ⊢;obtain⟨r1,c1,F⟩:=TT.out;have c0:w0.cell? ⟨g.eb,0,Vd⟩=Ve (.int .i64 (s.given+1)):=F.en.en.c0;have d1:=F.dk.c1;have f1:=F.dk.fz 1;obtain⟨m,s1,s2,w3,q,r2,c2,t2⟩:=F.store E.out;have c:=aC t2;clear F t2
 go_upto_region 9 with fail
 generalize w0.setCell ⟨d,1,Vd⟩ (.int .i64 (s.given+1))=T1 at s1 s2 q ⊢;clear c0 d1 f1
 go_big_region
 clear q s1 s2;obtain⟨S,e2,e3⟩:=c.out.dk.en _ c.out.mem;have k0:w3.cell? ⟨g.eb,0,Vd⟩=Ve (.int .i64 (s.given+1)):=S.en.c0;have k1:w3.cell? ⟨g.eb,1,Vd⟩=Ve (.int .i64 g.e.kind):=S.k;have k5:w3.cell? ⟨g.eb,5,Vd⟩=Ve (.int .i64 g.e.bY):=S.u;clear S e2 e3;have ae:(g.e.kind != 1)=Vg:=by simpa using I
 have PU:=aC (fun wx (k:Vj w3.heap.size w3 wx)=>Gq (c.out.dk.later k) (by rw[c.out.hl];exact E.out.ds.hl.1) (by rw[c.out.hl];exact HN.out) (g.num (s.given+1)))
 go_upto_region 11 with fail
 go_region_held3 (fun w'=>w'.cell? ⟨g.eb,0,Vd⟩=Ve (.int .i64 (s.given+1))/\w'.cell? ⟨g.eb,5,Vd⟩=Ve (.int .i64 g.e.bY))
  (first
   |exact⟨k0,k5⟩
   |exact⟨((H.en _ c.out.mem).1).en.c0,((H.en _ c.out.mem).1).u⟩)
  (first
   |(go_at_call 198;refine (PU.out _ (dM w3)).mono ?_;rintro e w4 ⟨rfl,l',c3,p1,p2,H,N⟩))
 have af:w4.cell? ⟨g.eb,0,Vd⟩=Ve (.int .i64 (s.given+1)):=((H.en _ c.out.mem).1).en.c0;have hq:=N.bV c.out.ql c.out.qc c.out.ql
 have HF:Hid (lG w B d aM (il s g.e) (bC 0 0 (s.given+1) (.slice Vd 0 0) (.slice Vd 0 0) (.slice Vd 0 0) (.slice Vd 0 0)) (cK w4 w.heap.size (.int .i64 0) (.int .i64 0) (.int .i64 (s.given+1)) (.slice Vd 0 0) (.slice Vd 0 0) (.slice Vd 0 0) (.slice Vd 0 0))):=by
  rw[HD.out];have y:=c.out;have o:=y.of;refine sJ H ⟨o.now,o.given,o.ts,o.es,o.th,o.tb⟩ y.wl ?_ ((y.st.trans (Step.below (dM w3))).trans (N.any (Vq E.out.hB y.st.size))) E.out.hB (N.cU y.qc y.ql) 0 (s.given+1) _ _ _ _ _ _ _;have hh:=E.out.ds.hl.comes (g:=g.num (s.given+1)) I p1 (by rw[<- y.hl];exact p2);unfold Hl at hh ⊢;show _/\List.Perm l' ((r2.eg.filter _).map _);rw[y.eg];exact hh
 clear p1 p2 H N PU k0 k1 k5;obtain⟨q0,V,U,q3,q4,q5,q6,fq⟩:=c.out.q7.later hq
 go_wp2_with fail
 exact cO results144 ⟨q0,V,U,q3,q4,q5,q6,fq⟩ ⟨_,rfl,HF.out⟩
theorem I8{g:EG}(h:kL w B d s r aM g i):
  Vk prog 144 #[.pointer (Ve ⟨d,0,Vd⟩),.pointer (Ve ⟨g.eb,0,Vd⟩)] w fun e w'=>∃ v,e=.returned v/\lG w B d aM (il s g.e) v w':=by
 by_cases n:s.given=60\/g.e.kind=3/\aA.eh s.es=6
 ·exact Sk h.ds h.en h.hB n
 ·have l:=h.ds.inv.g1;have j:=h.ds.inv.wa;have f:=h.ds.wl.eh h.ds.of
  by_cases c:g.e.kind=3
  ·exact Sm h UU c UU
  ·exact Sl h UU c
theorem UJ(h:fA s name u fr til≠0):aA.aU s (.enter k name u fr til long)=(s,aA.bO.error (fA s name u fr til)):=by
 have e:aA.rm s k name u fr til long=fA s name u fr til:=by
  unfold aA.rm fA at *
  by_cases c:aA.dH s.ts name u≠0
  ·rw[Vb c,Vb c]
  ·rw[Va c] at h ⊢;rw[Va c]
   by_cases f:til<=fr
   ·rw[Vb f,Vb (.inl f)]
   ·rw[Va f] at h;omega
 simp only[aA.aU,e];rw[Vb h]
theorem sV(h:fA s name u fr til=0):aA.dH s.ts name u=0/\fr<til:=by
 unfold fA at h
 by_cases c:aA.dH s.ts name u≠0
 ·rw[Vb c] at h;omega
 ·rw[Va c] at h
  by_cases f:til<=fr
  ·rw[Vb f] at h;omega
  ·omega
theorem Uu(h:fA s name u fr til=0)(t:s.now+long<=1048320):aA.aU s (.enter k name u fr til long)=il s (aA.nX s k name u fr til long):=by
 obtain⟨y,x⟩:=sV h;simp only[aA.aU];unfold aA.rm il;rw[Va (c:=aA.dH s.ts name u≠0) UU,Va (c:=til<=fr\/1048320<s.now+long) UU];have q:(aA.nX s k name u fr til long).kind=k:=rfl;have n:(aA.nX s k name u fr til long).aT=name:=rfl;have l:(aA.nX s k name u fr til long).aH=u:=rfl;have es:(aA.nX s k name u fr til long).aK=[(fr,til)]:=rfl;rw[q,n,l,es]
 by_cases f:s.given=60
 ·simp[f]
 ·by_cases g:k=3
  ·by_cases j:aA.eh s.es=6
   ·simp[f,g,j]
   ·simp[f,g,j]
  ·cases aA.dG s.ts s.es name u [(fr,til)] <;> simp[f,g]
def Fj(k:U9)(name:U4)(u fr til un:U9)(N c:U8):EG:=⟨⟨0,k,name,u,[(fr,til)],un⟩,N+1,N,1,c⟩
theorem dS.asks(h:dS w d s r aM)(q:Vj w.heap.size w w1)(x:i<r.tg.length)(c:r.tg[i].name=name)(ok:gy s.now ⟨0,k,name,u,[(fr,til)],un⟩):
  kL ((w1.alloc (.cells #[.int .i64 fr,.int .i64 til] 60)).alloc (.cells #[.int .i64 0,.int .i64 k,.pointer (Ve ⟨r.tg[i].tb,0,Vd⟩),.int .i64 u,.slice (Ve ⟨w1.heap.size,0,Vd⟩) 1 1,.int .i64 un] 200)) w1.heap.size d s r aM (Fj k name u fr til un w1.heap.size r.tg[i].tb) i:=by
 have n:Vj w1.heap.size w1 ((w1.alloc (.cells #[.int .i64 fr,.int .i64 til] 60)).alloc (.cells #[.int .i64 0,.int .i64 k,.pointer (Ve ⟨r.tg[i].tb,0,Vd⟩),.int .i64 u,.slice (Ve ⟨w1.heap.size,0,Vd⟩) 1 1,.int .i64 un] 200)):=((zr _ _).alloc (zq _) _).alloc UV _;have g:=h.dk.later q
 have eb:((w1.alloc (.cells #[.int .i64 fr,.int .i64 til] 60)).alloc (.cells #[.int .i64 0,.int .i64 k,.pointer (Ve ⟨r.tg[i].tb,0,Vd⟩),.int .i64 u,.slice (Ve ⟨w1.heap.size,0,Vd⟩) 1 1,.int .i64 un] 200)).heap[w1.heap.size+1]?=Ve (.cells #[.int .i64 0,.int .i64 k,.pointer (Ve ⟨r.tg[i].tb,0,Vd⟩),.int .i64 u,.slice (Ve ⟨w1.heap.size,0,Vd⟩) 1 1,.int .i64 un] 200 (0,0)):=by
  have:=cC (w1.alloc (.cells #[.int .i64 fr,.int .i64 til] 60)) (.cells #[.int .i64 0,.int .i64 k,.pointer (Ve ⟨r.tg[i].tb,0,Vd⟩),.int .i64 u,.slice (Ve ⟨w1.heap.size,0,Vd⟩) 1 1,.int .i64 un] 200)
  rwa [World.size_alloc] at this
 have l:((w1.alloc (.cells #[.int .i64 fr,.int .i64 til] 60)).alloc (.cells #[.int .i64 0,.int .i64 k,.pointer (Ve ⟨r.tg[i].tb,0,Vd⟩),.int .i64 u,.slice (Ve ⟨w1.heap.size,0,Vd⟩) 1 1,.int .i64 un] 200)).heap[w1.heap.size]?=Ve (.cells #[.int .i64 fr,.int .i64 til] 60 (0,0)) :=
  (Below.heap_alloc _ _ _ UV).trans (cC w1 _)
 have y:((w1.alloc (.cells #[.int .i64 fr,.int .i64 til] 60)).alloc (.cells #[.int .i64 0,.int .i64 k,.pointer (Ve ⟨r.tg[i].tb,0,Vd⟩),.int .i64 u,.slice (Ve ⟨w1.heap.size,0,Vd⟩) 1 1,.int .i64 un] 200)).heap.size=w1.heap.size+2:=UV
 generalize (w1.alloc (.cells #[.int .i64 fr,.int .i64 til] 60)).alloc (.cells #[.int .i64 0,.int .i64 k,.pointer (Ve ⟨r.tg[i].tb,0,Vd⟩),.int .i64 u,.slice (Ve ⟨w1.heap.size,0,Vd⟩) 1 1,.int .i64 un] 200)=Z at *;refine⟨⟨g.later n,h.of,h.wl,h.hl,h.inv⟩,⟨⟨?_,?_,?_,?_,fun j t=>?_,?_⟩,?_,?_,fun o=>frozen_of_row _ _ _ _ _ eb,⟨_,eb⟩⟩,g.none (Zf _),g.none (zq _),Zf _,Vn _,(by show w1.heap.size+1≠w1.heap.size;omega),n.size,x,c,rfl,ok⟩
 ·show Z.cell? ⟨w1.heap.size+1,0,Vd⟩=_;simp only[VL,eb];rfl
 ·show Z.cell? ⟨w1.heap.size+1,2,Vd⟩=_;simp only[VL,eb];rfl
 ·show Z.cell? ⟨w1.heap.size+1,3,Vd⟩=_;simp only[VL,eb];rfl
 ·show Z.cell? ⟨w1.heap.size+1,4,Vd⟩=_;simp only[VL,eb];rfl
 ·have f:j=0:=by simp[Fj] at t;omega
  subst f;constructor
  ·show Z.cell? ⟨w1.heap.size,0,Vd⟩=_;simp only[VL,l];rfl
  ·show Z.cell? ⟨w1.heap.size,1,Vd⟩=_;simp only[VL,l];rfl
 ·show w1.heap.size<_;omega
 ·show Z.cell? ⟨w1.heap.size+1,1,Vd⟩=_;simp only[VL,eb];rfl
 ·show Z.cell? ⟨w1.heap.size+1,5,Vd⟩=_;simp only[VL,eb];rfl
theorem lG.IV{q:St × aA.bO}{v:Vi}(h:lG Z B d aM q v w2)(st:Step anyS w.heap.size aM aM w Z)(H:w.heap.size<=B)(G:w.heap.size<=Q)(l:Q<B)(x:aM Q=Vd)(y:Q7 Z Q):
  ∃ j n:U9,v=bC j 0 n (.slice Vd 0 0) (.slice Vd 0 0) (.slice Vd 0 0) (.slice Vd 0 0)/\Q7 w2 Q/\∀ a b c e f g i,dX w d aM q (bC j 0 n (.slice Vd 0 0) (.slice Vd 0 0) (.slice Vd 0 0) (.slice Vd 0 0)) (cK w2 Q a b c e f g i):=by
 obtain⟨j,n,J,col',rfl,I,E,D,C,z,t⟩:=h;have F:=Vr _ _ y.q0;refine⟨j,n,rfl,y.later (t.bV F x l),fun a b c e f g i=>?_⟩;have:q=(q.1,⟨j,0,n,[],[],[],[]⟩):=by rw[<- I]
 rw[this];exact vR E D C z (st.trans (t.any H)) G (t.cU x l) j n a b c e f g i
theorem PC(h:dS w d s r aM)(name:U4)(hn:name.size<=1000)(u fr til:U9)(y:aA.jA (.enter 1 name u fr til 0)):
  Vk prog 92 #[.pointer (Ve ⟨d,0,Vd⟩),.agg #[.string name,.int .i64 u,.int .i64 fr,.int .i64 til]] w fun e w'=>∃ v,e=.returned v/\dX w d aM (aA.aU s (.enter 1 name u fr til 0)) v w':=by
 obtain⟨O,j,c,S⟩:=uQ w (.cells #[.string name,.int .i64 u,.int .i64 fr,.int .i64 til] 154);have W:=aC (vS (h.dk.later O) h.of h.aS name hn u fr til);have z:=aC h;have t:=aC (zA O j);have xa:=aZ c 0 rfl;have F:=aZ c 1 rfl;have E:=aZ c 2 rfl;have D:=aZ c 3 rfl;clear h O j c
 go_in
 go_upto_region 1 with fail
 change Za _ _ _ _ ((w.alloc (.cells #[.string name,.int .i64 u,.int .i64 fr,.int .i64 til] 154)).alloc aX);generalize (w.alloc (.cells #[.string name,.int .i64 u,.int .i64 fr,.int .i64 til] 154)).alloc aX=X at *
 go_wp2_with fail
 refine W.out.mono ?_;rintro e w1 ⟨hp,f⟩;have x:Hid (Vj w.heap.size w w1):=t.out.1.trans (f.mono t.out.1.size);have U:Hid (Q7 w1 (w.heap.size+1)):=(Q7.of t.out.2).later (f.block _ S);rcases hp with ⟨g,rfl⟩|⟨g,i,hi,e1,e2,rfl⟩
 ·have V:=aC (UJ (k:=1) (long:=0) g);generalize fA s name u fr til=l at *;have aa:(l != 0)=Vg:=by simpa using g
  clear g W t f xa F E D
  go_wp2_with fail
  refine (lI l w1).mono ?_;rintro e w2 ⟨rfl,N⟩;have C:=aC (z.out.refuse x.out U.out N V.out);obtain⟨M,L,K,J,I,H,G,T⟩:=C.out.1;simp only[bC]
  go_wp2_with fail
  exact cO results92 ⟨M,L,K,J,I,H,G,T⟩ ⟨_,rfl,C.out.2⟩
 ·have V:=aC (Uu (k:=1) (long:=0) g (by have:=z.out.inv.n1;omega));have y1:=(zo (w:=X) (a:=⟨w.heap.size,1,Vd⟩) (f.block w.heap.size UU)).trans F;have y2:=(zo (w:=X) (a:=⟨w.heap.size,2,Vd⟩) (f.block w.heap.size UU)).trans E;have y3:=(zo (w:=X) (a:=⟨w.heap.size,3,Vd⟩) (f.block w.heap.size UU)).trans D;have EN:=aC (I8 (z.out.asks x.out (k:=1) (u:=u) (fr:=fr) (til:=til) (un:=0) hi e1 ⟨y.2.1,y.2.2.1,(by show 1<=40;omega),UV,(by intro q hq;have:q=(fr,til):=YD.1 hq;subst this;have:=(sV g).2;exact⟨y.2.2.2.1,this,y.2.2.2.2.2.2⟩),List.pairwise_singleton _ _,.inl ⟨rfl,rfl⟩⟩));have AL:Hid (Vj w1.heap.size w1 ((w1.alloc (.cells #[.int .i64 fr,.int .i64 til] 60)).alloc (.cells #[.int .i64 0,.int .i64 1,.pointer (Ve ⟨r.tg[i].tb,0,Vd⟩),.int .i64 u,.slice (Ve ⟨w1.heap.size,0,Vd⟩) 1 1,.int .i64 0] 200))):=((zr _ _).alloc (zq _) _).alloc UV _;have QL:Hid (w.heap.size+1<w1.heap.size):=Vr _ _ U.out.q0;clear g W t f xa F E D e1 e2
  go_wp2_with fail
  refine EN.out.mono ?_;rintro e w2 ⟨v,rfl,ep⟩;obtain⟨l,n,rfl,q7,hf⟩:=ep.IV (Q:=(w.heap.size+1)) (Step.below (x.out.trans (AL.out.mono x.out.size))) x.out.size UU QL.out (z.out.dk.none UU) (U.out.later (AL.out.block _ QL.out))
  have C:Hid (dX w d aM (aA.aU s (.enter 1 name u fr til 0)) (bC l 0 n (.slice Vd 0 0) (.slice Vd 0 0) (.slice Vd 0 0) (.slice Vd 0 0)) (cK w2 (w.heap.size+1) (.int .i64 l) (.int .i64 0) (.int .i64 n) (.slice Vd 0 0) (.slice Vd 0 0) (.slice Vd 0 0) (.slice Vd 0 0))):=by
   rw[V.out];exact hf _ _ _ _ _ _ _
  clear ep hf EN;obtain⟨M,L,K,J,I,H,G,T⟩:=q7;simp only[bC]
  go_wp2_with fail
  exact cO results92 ⟨M,L,K,J,I,H,G,T⟩ ⟨_,rfl,C.out⟩
theorem dS.levels(h:dS w d s r aM)(c:i<r.tg.length):∀ p,0<=cN r.tg[i].name s.es p/\cN r.tg[i].name s.es p<=1000000:=fun p=>by
 have g:=aA.tV r.tg[i].name p s.es h.aS.small;have f:=mb h.aS;omega
theorem QA(h:dS w d s r aM)(k:Vj w.heap.size w wx)(c:i<r.tg.length){b:U9}(x:0<=a)(l:a<b)(t:b<=1048320):
  Vk prog 153 #[.pointer (Ve ⟨r.tg[i].tb,2,Vd⟩),.agg #[.int .i64 a,.int .i64 b]] wx fun e w'=>e=.returned (.int .i64 (aA.lH r.tg[i].name s.es a b))/\Vj wx.heap.size wx w':=by
 obtain⟨n,z,y,E,f,C⟩:=(h.dk.later k).th i c;have j:=h.levels c;have e:=aA.QQ (name:=r.tg[i].name) h.aS.small (Cv h.aS) x l t;unfold ss at e;have g:=f.lv;rw[(h.of.th i c).1] at g;refine (Gj (jt (cN r.tg[i].name s.es)) _ 2 n y a b wx f.c2 g (vx j) (ye (fun p=>(j p).1)) l).mono ?_;rintro D w' ⟨rfl,q⟩;exact⟨by rw[<- e],q⟩
theorem QB(h:dS w d s r aM)(k:Vj w.heap.size w wx)(c:i<r.tg.length){b:U9}(y:0<=a)(G:a<b)(x:b<=1048320)(t:1<=long)(F:long<=1048320)(D:0<=u):
  Vk prog 154 #[.pointer (Ve ⟨r.tg[i].tb,2,Vd⟩),.agg #[.int .i64 a,.int .i64 b],.int .i64 long,.int .i64 (r.tg[i].aH-u)] wx fun e w'=>∃ q:U6 U9,e=.returned (iN q)/\aA.iY s.ts s.es r.tg[i].name u long a b=aA.FE q/\Vj wx.heap.size wx w':=by
 obtain⟨C,I,H,L,g,J⟩:=(h.dk.later k).th i c;have n:=h.levels c;have j:=g.lv;rw[(h.of.th i c).1] at j
 have f:aA.bJ r.tg[i].name s.ts=r.tg[i].aH:=by
  have z:=Cd h.aS.tn (i:=i) (by rw[<- h.of.len];exact c);rw[h.of.jS c] at z;exact z
 refine (Pz (jt (cN r.tg[i].name s.es)) _ 2 C H a b long (r.tg[i].aH-u) wx g.c2 j (vx n) (ye (fun p=>(n p).1)) y G x t F).mono ?_;rintro K w' ⟨q,rfl,l,E⟩;rw[<- f] at l;exact⟨q,rfl,aA.Rv h.aS.small (Cv h.aS) y x D t l,E⟩
theorem T5(g:ec s)(h:fA s name 0 fr til≠0):aA.aU s (.cY name fr til)=(s,aA.bO.error (fA s name 0 fr til)):=by
 have l:=aA.CI g.tu name;simp only[aA.aU];unfold fA aA.dH at *
 by_cases c:aA.bJ name s.ts=0
 ·rw[Vb c];simp[c]
 ·have j:¬ (aA.bJ name s.ts<0):=UU
  simp only[c,j] at h ⊢
  by_cases f:til<=fr
  ·simp[f]
  ·simp[f] at h
theorem QF(h:fA s name 0 fr til=0):aA.aU s (.cY name fr til)=(s,aA.bO.num (aA.lH name s.es fr til)):=by
 obtain⟨c,g⟩:=sV h;have f:aA.bJ name s.ts≠0:=fun e=>by unfold aA.dH at c;rw[Vb e] at c;omega
 simp only[aA.aU];rw[Va f,Va UU]
theorem OA(c:Array Vi)(w:Vh):(callFunc 153 c).run prog w=.ok (.enter 153 c) w:=UZ
theorem Qq(h:dS w d s r aM)(name:U4)(hn:name.size<=1000)(fr til:U9)(T:aA.jA (.cY name fr til)):
  Vk prog 100 #[.pointer (Ve ⟨d,0,Vd⟩),.agg #[.string name,.int .i64 fr,.int .i64 til]] w fun e w'=>∃ v,e=.returned v/\dX w d aM (aA.aU s (.cY name fr til)) v w':=by
 obtain⟨J,l,f,K⟩:=uQ w (.cells #[.string name,.int .i64 fr,.int .i64 til] 176);have O:=aZ f 0 rfl;have z:=aZ f 1 rfl;have y:=aZ f 2 rfl;have N:=aC (vS (h.dk.later J) h.of h.aS name hn 0 fr til);have q:=aC h;have n:=aC (zA J l);clear h J l f
 go_in
 go_upto_region 1 with fail
 change Za _ _ _ _ ((w.alloc (.cells #[.string name,.int .i64 fr,.int .i64 til] 176)).alloc aX);generalize (w.alloc (.cells #[.string name,.int .i64 fr,.int .i64 til] 176)).alloc aX=X at *
 go_wp2_with fail
 refine N.out.mono ?_;rintro e w1 ⟨hp,j⟩;have x:Hid (Vj w.heap.size w w1):=n.out.1.trans (j.mono n.out.1.size);have M:Hid (Q7 w1 (w.heap.size+1)):=(Q7.of n.out.2).later (j.block _ K);rcases hp with ⟨g,rfl⟩|⟨g,i,hi,U,e2,rfl⟩
 ·have t:=aC (T5 q.out.aS g);generalize fA s name 0 fr til=er at *;have aa:(er != 0)=Vg:=by simpa using g
  clear g N n j O z y
  go_wp2_with fail
  refine (lI er w1).mono ?_;rintro e w2 ⟨rfl,c⟩;have W:=aC (q.out.refuse x.out M.out c t.out);obtain⟨I,H,G,F,E,D,C,L⟩:=W.out.1;simp only[bC]
  go_wp2_with fail
  exact cO results100 ⟨I,H,G,F,E,D,C,L⟩ ⟨_,rfl,W.out.2⟩
 ·have t:=aC (QF g);have y1:=(zo (w:=X) (a:=⟨w.heap.size,1,Vd⟩) (j.block w.heap.size UU)).trans z;have y2:=(zo (w:=X) (a:=⟨w.heap.size,2,Vd⟩) (j.block w.heap.size UU)).trans y;have V:=aC (QA q.out (wx:=w1.drew) x.out.drew hi T.1 (sV g).2 T.2.2.2);rw[U] at V;have AF:Hid (∀ w2,Vj w1.drew.heap.size w1.drew w2->Q7 w2 (w.heap.size+1)/\dX w d aM (aA.aU s (.cY name fr til)) (bC 0 0 (aA.lH name s.es fr til) (.slice Vd 0 0) (.slice Vd 0 0) (.slice Vd 0 0) (.slice Vd 0 0)) (cK w2 (w.heap.size+1) (.int .i64 0) (.int .i64 0) (.int .i64 (aA.lH name s.es fr til)) (.slice Vd 0 0) (.slice Vd 0 0) (.slice Vd 0 0) (.slice Vd 0 0))):=fun w2 S=>⟨M.out.later (S.block _ (Vr _ _ M.out.q0)),by rw[t.out];exact q.out.said (x.out.drew.trans (S.mono x.out.size)) UU 0 (aA.lH name s.es fr til) _ _ _ _ _ _ _⟩
  clear g N n j O z y U e2 t;generalize (aA.lH name s.es fr til)=nn at *
  go_upto_region 4 with fail
  go_region_law (first
   |(refine qZ (by rfl) 153 _ _ (by rfl) _ (by simp[Act.eval]) (OA _ _) V.out ?_;rintro e w2 ⟨rfl,c⟩;refine⟨_,rfl,?_⟩;have FF:=aC (AF.out w2 c);obtain⟨⟨I,H,G,F,E,D,C,L⟩,_⟩:=AF.out w2 c))
  all_goals
   go_wp2_with fail
   exact cO results100 ⟨I,H,G,F,E,D,C,L⟩ ⟨_,rfl,FF.out.2⟩
theorem T4(h:fA s name u fr til≠0):aA.aU s (.find name u long fr til)=(s,aA.bO.error (fA s name u fr til)):=by
 simp only[aA.aU];unfold fA at *
 by_cases c:aA.dH s.ts name u≠0
 ·rw[Vb c,Vb c]
 ·rw[Va c] at h ⊢;rw[Va c]
  by_cases f:til<=fr
  ·rw[Vb f,Vb f]
  ·rw[Va f] at h;omega
theorem QE(h:fA s name u fr til=0):aA.aU s (.find name u long fr til)=(s,aA.bO.num (aA.iY s.ts s.es name u long fr til)):=by
 obtain⟨f,c⟩:=sV h;simp only[aA.aU];rw[Va UU,Va UU]
theorem Pr(h:dS w d s r aM)(name:U4)(hn:name.size<=1000)(u long fr til:U9)(g:aA.jA (.find name u long fr til)):
  Vk prog 101 #[.pointer (Ve ⟨d,0,Vd⟩),.agg #[.string name,.int .i64 u,.int .i64 long,.int .i64 fr,.int .i64 til]] w fun e w'=>∃ v,e=.returned v/\dX w d aM (aA.aU s (.find name u long fr til)) v w':=by
 obtain⟨hX,I,f,ac⟩:=uQ w (.cells #[.string name,.int .i64 u,.int .i64 long,.int .i64 fr,.int .i64 til] 178);have x0:=aZ f 0 rfl;have x1:=aZ f 1 rfl;have x2:=aZ f 2 rfl;have x3:=aZ f 3 rfl;have x4:=aZ f 4 rfl;have AK:=aC (vS (h.dk.later hX) h.of h.aS name hn u fr til);have n:=aC h;have K:=aC (zA hX I);clear h hX I f
 go_in
 go_upto_region 1 with fail
 change Za _ _ _ _ ((w.alloc (.cells #[.string name,.int .i64 u,.int .i64 long,.int .i64 fr,.int .i64 til] 178)).alloc aX);generalize (w.alloc (.cells #[.string name,.int .i64 u,.int .i64 long,.int .i64 fr,.int .i64 til] 178)).alloc aX=X at *
 go_wp2_with fail
 refine AK.out.mono ?_;rintro e w1 ⟨hp,j⟩;have L:Hid (Vj w.heap.size w w1):=K.out.1.trans (j.mono K.out.1.size);have QX:Hid (Q7 w1 (w.heap.size+1)):=(Q7.of K.out.2).later (j.block _ ac);rcases hp with ⟨l,rfl⟩|⟨l,i,hi,e1,e2,rfl⟩
 ·have S:=aC (T4 (long:=long) l);generalize fA s name u fr til=er at *;have ae:(er != 0)=Vg:=by simpa using l
  clear l AK K j x0 x1 x2 x3 x4
  go_wp2_with fail
  refine (lI er w1).mono ?_;rintro e w2 ⟨rfl,c⟩;have HF:=aC (n.out.refuse L.out QX.out c S.out);obtain⟨G,F,E,D,C,z,y,J⟩:=HF.out.1;simp only[bC]
  go_wp2_with fail
  exact cO results101 ⟨G,F,E,D,C,z,y,J⟩ ⟨_,rfl,HF.out.2⟩
 ·have S:=aC (QE (long:=long) l);have y1:=(zo (w:=X) (a:=⟨w.heap.size,1,Vd⟩) (j.block w.heap.size UU)).trans x1;have W:=(zo (w:=X) (a:=⟨w.heap.size,2,Vd⟩) (j.block w.heap.size UU)).trans x2;have V:=(zo (w:=X) (a:=⟨w.heap.size,3,Vd⟩) (j.block w.heap.size UU)).trans x3;have U:=(zo (w:=X) (a:=⟨w.heap.size,4,Vd⟩) (j.block w.heap.size UU)).trans x4;obtain⟨ul,us,Fl,Fs,t1,t2⟩:=(n.out.dk.later L.out).th i hi;have cu:=t1.c1
  have aa:1<=r.tg[i].aH/\r.tg[i].aH<=9:=by
   have ab:(r.tg[i].name,r.tg[i].aH)∈s.ts:=by rw[<- n.out.of.jS hi];exact zg _
   exact n.out.inv.tu _ ab
  have ad:Vp.wrap (r.tg[i].aH-u)=r.tg[i].aH-u:=cG (by have:=g.1;have:=g.2.1;omega) (by have:=g.1;omega);have RC:=aC (QB n.out (wx:=w1.drew) L.out.drew (u:=u) hi g.2.2.2.2.1 (sV l).2 g.2.2.2.2.2.2.2 g.2.2.1 g.2.2.2.1 (by have:=g.1;omega));rw[e1] at RC
  have RD:Hid (Vk prog 154 #[.pointer (Ve ⟨r.tg[i].tb,2,Vd⟩),.agg #[.int .i64 fr,.int .i64 til],.int .i64 long,.int .i64 (r.tg[i].aH-u)] w1.drew fun e w'=>∃ (x:U9) (N:U7),e=.returned (.tuple #[.int .i64 x,.bool N])/\aA.iY s.ts s.es name u long fr til=(if N then x else -1)/\Vj w1.drew.heap.size w1.drew w'):=by
   refine RC.out.mono ?_;rintro e w' ⟨q,rfl,H,c⟩
   cases q with
   |none=>exact⟨0,Vf,rfl,H,c⟩
   |some x=>exact⟨x,Vg,rfl,H,c⟩
  have t:Hid (∀ w2 M,Vj w1.drew.heap.size w1.drew w2->(aA.iY s.ts s.es name u long fr til)=M->Q7 w2 (w.heap.size+1)/\dX w d aM (aA.aU s (.find name u long fr til)) (bC 0 0 M (.slice Vd 0 0) (.slice Vd 0 0) (.slice Vd 0 0) (.slice Vd 0 0)) (cK w2 (w.heap.size+1) (.int .i64 0) (.int .i64 0) (.int .i64 M) (.slice Vd 0 0) (.slice Vd 0 0) (.slice Vd 0 0) (.slice Vd 0 0))):=fun w2 M k2 e=>⟨QX.out.later (k2.block _ (Vr _ _ QX.out.q0)),by rw[S.out,<- e];exact n.out.said (L.out.drew.trans (k2.mono L.out.size)) UU 0 (aA.iY s.ts s.es name u long fr til) _ _ _ _ _ _ _⟩
  clear l AK K j x0 x1 x2 x3 x4 e1 e2 S t1 t2 aa RC;generalize r.tg[i].aH=un at *;generalize r.tg[i].tb=tb at *
  go_upto_region 4 with fail
  have AC:Hid (∀ w2,Vj w1.drew.heap.size w1.drew w2->w2.cell? ⟨w.heap.size,1,Vd⟩=Ve (.int .i64 u)/\w2.cell? ⟨w.heap.size,2,Vd⟩=Ve (.int .i64 long)/\w2.cell? ⟨w.heap.size,3,Vd⟩=Ve (.int .i64 fr)/\w2.cell? ⟨w.heap.size,4,Vd⟩=Ve (.int .i64 til)/\w2.cell? ⟨tb,1,Vd⟩=Ve (.int .i64 un)):=fun w2 k=>⟨aN k y1,aN k W,aN k V,aN k U,aN k cu⟩
  go_region_held3 (fun w'=>w'.cell? ⟨w.heap.size,1,Vd⟩=Ve (.int .i64 u)/\w'.cell? ⟨w.heap.size,2,Vd⟩=Ve (.int .i64 long)/\w'.cell? ⟨w.heap.size,3,Vd⟩=Ve (.int .i64 fr)/\w'.cell? ⟨w.heap.size,4,Vd⟩=Ve (.int .i64 til)/\w'.cell? ⟨tb,1,Vd⟩=Ve (.int .i64 un))
   (first
    |exact⟨y1,W,V,U,cu⟩
    |exact AC.out _ c)
   (first
    |(go_at_call 154;refine RD.out.mono ?_;rintro e w2 ⟨x,N,rfl,H,c⟩))
  have T:=aC c
  cases N
  all_goals
   have O:=aC H;clear H c AC y1 W V U cu
  ·have FF:=aC (t.out w2 (-1) T.out O.out);obtain⟨⟨G,F,E,D,C,z,y,J⟩,_⟩:=t.out w2 (-1) T.out O.out;clear t RD
   go_wp2_with fail
   exact cO results101 ⟨G,F,E,D,C,z,y,J⟩ ⟨_,rfl,FF.out.2⟩
  ·have FF:=aC (t.out w2 x T.out O.out);obtain⟨⟨G,F,E,D,C,z,y,J⟩,_⟩:=t.out w2 x T.out O.out;clear t RD
   go_wp2_with fail
   exact cO results101 ⟨G,F,E,D,C,z,y,J⟩ ⟨_,rfl,FF.out.2⟩
end Go.Proofs.YtfigmlfdnickmaaGreatDoor
