import Derived.Test.YtolaacmheeaadaaGreatDoorL05
import Derived.Deep.RegionHeld3
import Derived.Deep.AppendLies
import Derived.Deep.RegionHeld
set_option maxRecDepth 100000
set_option maxHeartbeats 8000000
open Go.Proofs.Tryz
open _root_ renaming ByteArray->Xn,List->Xo,Option->Xp,Bool->Xq,Nat->Xr,Int->Xs,if_neg->Xt,if_pos->Xu,absurd->Xv,Int->N,Nat->M,List->J
open Option renaming none->Xw,some->Xx,none->Z,some->U
open Bool renaming false->Xy,true->Xz
open Go renaming World->XA,Value->XC,Calls->XE,TypeId->XG
open Go.RowKit renaming Below->XD
open Go.Value renaming string->XK,ownBlock->Za,int->XH,slice->XJ,bool->XL,tuple->XM,agg->XN,iface->XP,int->V
open Nat renaming zero_le->YK,le_trans->XV,le_refl->XT
open List renaming map_append->YT,length_append->Yy,drop_eq_getElem_cons->Zh
open Go.World renaming block_lt_of_cell?->XW,frozen?_of_block->Zk,cell?->Yi
open And renaming intro->Yd
open Go.IntKind renaming i64->XQ,i64->Y
open Go.Ending renaming returned->XR
open Go.Obj renaming cells->XS
namespace Go.Proofs.YtolaacmheeaadaaGreatDoor
variable{wr:Xq}{s:Xn}{B:Xn->Xq}{fr mi mn pc ti un:Xs}{ws:Xo Xn}{acc:Xo Xs}{l:Xo UInt8}{A P R b d k n nx o p:Xr}{aM:Xr->Xp bP}{v:Xr->XC}{r:Raw}{w w' wx:XA}
open Go.RowKit
theorem Vu(x:M)(w:XA):XE prog 86 #[V .i32 x] w fun e w'=>e=XR (x==32)/\∃ q,w'=w.drewN q:=by
 go_in;go_wp2;go_ret;refine⟨fK ?_,0,rfl⟩;rw[Bool.eq_iff_iff];simp;omega
theorem b5j(a:Array XC)(w:XA):Sem.run prog (callFunc 86 a) w=.ok (.enter 86 a) w:=Xg
theorem Wa(s:Xn)(w:XA)(h:s.size<=160):
  XE prog 58 #[s] w fun e w'=>∃ A,e=XR (XJ (U ⟨A,0,Z⟩) (Txt.aC s).length (Txt.aC s).length)/\w<=A /\w'.ownsRow w 9 1 (XJ A (Txt.aC s).length (Txt.aC s).length) (Txt.aC s).length ((Txt.aC s).map XK)/\XD w w w':=by
 have c:PredAtRunes prog 86 #[] (fun r=>r==32) w:=fun W x _ _=>Vu x W;have HP:=hide c;go_in;go_wp21;refine (strings_FieldsFunc_runes 86 #[] b5j (fun r=>r==32) s w O (aO HP)).mono ?_;rintro e w' ⟨A,rfl,g,a,f⟩;rw[Txt.b3C] at a ⊢;go_wp2;go_ret;exact⟨A,rfl,g,a,f⟩
theorem toList_data(b:Xn):b.toList=b.data.toList:=Lib.toList_data b
theorem I7{b:Xn}(h:b.toList.isEmpty=Xz):b.size=0:=by rw[toList_data,List.isEmpty_iff] at h;rw[<- Txt.iJ,h];rfl
theorem I8{b:Xn}(h:b.toList.isEmpty=Xy):b.size≠0:=by intro e;rw[toList_data,List.isEmpty_eq_false_iff] at h;exact h (List.eq_nil_of_length_eq_zero Xj)
theorem lH{a e size:M}{v:XC}{f:J XC}(h:w.ownsRow a e size v n f)(c:v.ownBlock=U k):a<=k:=by
 rcases h.2 with ⟨rfl,_⟩|⟨g,cap,i,rfl,j,_⟩
 .simp[Za] at c
 .simp[Za] at c;omega
theorem qj:(prog.info? 9).map (fun i=>(i.zero,i.size,i.bytes))=U (U (XK ⟨#[]⟩),1,16):=Xg
theorem IE(s:Xn)(w:XA)(Q:s.size<=160):XE prog 45 #[s] w fun e w'=>∃ v,e=XR v/\w'.ownsRow w 9 1 v (Txt.aC s).length ((Txt.aC s).map XK)/\XD w w w':=by
 obtain⟨G,H,x,t,q⟩:=info_parts qj;go_in;go_wp2;go_loopw [3,4,5] (fun v c i wr=>∃ k:M,k<=s.size/\i=V Y k/\c=XK (Txt.jt s k)/\wr.ownsRow w 9 1 v (Txt.oA s k).length ((Txt.oA s k).map XK)/\XD w w wr) (fun _ _ i _=>s.size-(intOf i).toNat)
 case atStart=>exact⟨0,YK _,rfl,rfl,World.ownsRow_nil _ _ _ _,Below.refl _ _⟩
 case round =>
  obtain⟨k,z,rfl,rfl,a,f⟩:=hrel;have S:=Txt.JY s k;by_cases L:k<s.size
  .by_cases D:Txt.fI s k=32
   .have E:((s[k].toNat:N)==32)=Xz:=beq_iff_eq.2 (by rw[<- Txt.mz];exact D);have m:=hide (Txt.Lh s k z D)
    cases C:(Txt.jt s k).toList.isEmpty
    .have j:=(I8 C);have F:=Txt.xX s k
     go_wp2_with (first
      |(at_builtin;refine wpList_append_own _ rfl _ _ 78 rfl w 9 G (XK ⟨#[]⟩) 1 16 underlying78 H x t q rfl Xd _ _ _ rfl (a.alloc _) (wr,0) 1 1 [Txt.jt s k] rfl rfl ?c1 ?c2 ?c3 ?c4 ?c5 ?_)
      |go_in)
     case c1=>exact cell_one_new _ _ _
     case c2=>intro u y;simp at y;subst y;rfl
     case c3=>unfold maxLen;omega
     case c4=>omega
     case c5=>have:=f.size;simp;omega
     intro v' K g h _;go_wp2;refine⟨⟨k+1,O,by go_num,by rw[(aO m).1],?_,?_⟩,by simp[intOf];omega⟩
     .rw[(aO m).2,Xt j,YT,Yy];exact g
     .refine (f.alloc f.size _).grown h (by have:=f.size;simp;omega) (fun k z=>?_);exact lH a z
    .have j:Hid ((Txt.jt s k).size=0):=(I7 C);go_wp2;exact⟨⟨k+1,O,by go_num,by rw[(aO m).1],by rw[(aO m).2,Xu j.out,List.append_nil];exact a,f⟩,by simp[intOf];omega⟩
   .have E:((s[k].toNat:N)==32)=Xy:=beq_eq_false_iff_ne.2 (by rw[<- Txt.mz];exact D);have m:=hide (Txt.JX s k D);go_wp2;exact⟨⟨k+1,O,by go_num,by rw[(aO m).1],by rw[(aO m).2];exact a,f⟩,by simp[intOf];omega⟩
  .obtain rfl:k=s.size:=O
   have I:=hide (Txt.Eh s)
   cases C:(Txt.jt s s.size).toList.isEmpty
   .have j:=(I8 C);have F:=Txt.xX s s.size
    go_wp2_with (first
     |(at_builtin;refine wpList_append_own _ rfl _ _ 78 rfl w 9 G (XK ⟨#[]⟩) 1 16 underlying78 H x t q rfl Xd _ _ _ rfl (a.alloc _) (wr,0) 1 1 [Txt.jt s s.size] rfl rfl ?c1 ?c2 ?c3 ?c4 ?c5 ?_)
     |go_in)
    case c1=>exact cell_one_new _ _ _
    case c2=>intro u y;simp at y;subst y;rfl
    case c3=>unfold maxLen;omega
    case c4=>omega
    case c5=>have:=f.size;simp;omega
    intro v' K g h _;go_wp2;go_ret;refine⟨v',rfl,?_,?_⟩
    .rw[aO I,Xt j,YT,Yy];exact g
    .refine (f.alloc f.size _).grown h (by have:=f.size;simp;omega) (fun k z=>?_);exact lH a z
   .have j:Hid ((Txt.jt s s.size).size=0):=(I7 C);go_wp2;go_ret;exact⟨_,rfl,by rw[aO I,Xu j.out,List.append_nil];exact a,f⟩
def gu(k:M):J UInt8:=match k with|0=>[109,111]|1=>[116,117]|2=>[119,101]|3=>[116,104]|4=>[102,114]|5=>[115,97]|_=>[115,117]
theorem oC(c:k<7)(h:(l==gu k)=Xz)(a:∀ j,j<k->(l==gu j)=Xy):Txt.fu l=k:=by have e:=beq_iff_eq.1 h;subst e;rcases (show k=0\/k=1\/k=2\/k=3\/k=4\/k=5\/k=6 by omega) with rfl|rfl|rfl|rfl|rfl|rfl|rfl <;> decide
theorem Jf(a:∀ j,j<7->(l==gu j)=Xy):Txt.fu l=-1:=by have q:=a 0 O;have m:=a 1 O;have i:=a 2 O;have h:=a 3 O;have g:=a 4 O;have f:=a 5 O;have c:=a 6 O;simp only[gu] at q m i h g f c;simp[Txt.fu,q,m,i,h,g,f,c]
theorem oE(a:∀ j,j<k->(l==gu j)=Xy)(h:(l==gu k)=Xy):∀ j,j<k+1->(l==gu j)=Xy:=Xi
def pj(s:Xn):N:=if 0<=Txt.fu s.data.toList then Txt.fu s.data.toList else 0
def oK(s:Xn):Xq:=decide (0<=Txt.fu s.data.toList)
theorem a8Y(s:Xn)(w:XA)(h:Env w):XE prog 216 #[s] w fun e w'=>e=XR (XM #[V Y (pj s),oK s])/\w'=w:=by
 have D:=h.mo;have C:=h.tu;have z:=h.we;have y:=h.th;have x:=h.fr;have u:=h.sa;have t:=h.su;have g:=hide (toList_data s);go_in;go_wp2;go_loop [4,5] (fun _ i=>∃ k:M,k<=7/\i=V Y k/\∀ j,j<k->(s.data.toList==gu j)=Xy) (fun _ i=>7-(intOf i).toNat)
 .exact⟨0,O,rfl,fun j q=>Xv q O⟩
 .obtain⟨k,E,rfl,m⟩:=hrel;have f:=hide m;rcases (show k=0\/k=1\/k=2\/k=3\/k=4\/k=5\/k=6\/k=7 by omega) with rfl|rfl|rfl|rfl|rfl|rfl|rfl|rfl
  .cases c:([109,111]==s.toList)
   .have a:Hid ((s.data.toList==gu 0)=Xy):=by show (s.data.toList==gu 0)=Xy;rw[<- aO g,Bool.beq_comm];exact c
    go_wp2;go_round
    .exact⟨1,O,by go_num,oE (aO f) a⟩
    .simp[intOf]
   .have a:=oC (k:=0) O (by rw[<- aO g,Bool.beq_comm];exact c) (aO f);go_wp2;go_ret2;exact⟨gb (by rw[pj,a];rfl) (by rw[oK,a];rfl),rfl⟩
  .cases c:([116,117]==s.toList)
   .have a:Hid ((s.data.toList==gu 1)=Xy):=by show (s.data.toList==gu 1)=Xy;rw[<- aO g,Bool.beq_comm];exact c
    go_wp2;go_round
    .exact⟨2,O,by go_num,oE (aO f) a⟩
    .simp[intOf]
   .have a:=oC (k:=1) O (by rw[<- aO g,Bool.beq_comm];exact c) (aO f);go_wp2;go_ret2;exact⟨gb (by rw[pj,a];rfl) (by rw[oK,a];rfl),rfl⟩
  .cases c:([119,101]==s.toList)
   .have a:Hid ((s.data.toList==gu 2)=Xy):=by show (s.data.toList==gu 2)=Xy;rw[<- aO g,Bool.beq_comm];exact c
    go_wp2;go_round
    .exact⟨3,O,by go_num,oE (aO f) a⟩
    .simp[intOf]
   .have a:=oC (k:=2) O (by rw[<- aO g,Bool.beq_comm];exact c) (aO f);go_wp2;go_ret2;exact⟨gb (by rw[pj,a];rfl) (by rw[oK,a];rfl),rfl⟩
  .cases c:([116,104]==s.toList)
   .have a:Hid ((s.data.toList==gu 3)=Xy):=by show (s.data.toList==gu 3)=Xy;rw[<- aO g,Bool.beq_comm];exact c
    go_wp2;go_round
    .exact⟨4,O,by go_num,oE (aO f) a⟩
    .simp[intOf]
   .have a:=oC (k:=3) O (by rw[<- aO g,Bool.beq_comm];exact c) (aO f);go_wp2;go_ret2;exact⟨gb (by rw[pj,a];rfl) (by rw[oK,a];rfl),rfl⟩
  .cases c:([102,114]==s.toList)
   .have a:Hid ((s.data.toList==gu 4)=Xy):=by show (s.data.toList==gu 4)=Xy;rw[<- aO g,Bool.beq_comm];exact c
    go_wp2;go_round
    .exact⟨5,O,by go_num,oE (aO f) a⟩
    .simp[intOf]
   .have a:=oC (k:=4) O (by rw[<- aO g,Bool.beq_comm];exact c) (aO f);go_wp2;go_ret2;exact⟨gb (by rw[pj,a];rfl) (by rw[oK,a];rfl),rfl⟩
  .cases c:([115,97]==s.toList)
   .have a:Hid ((s.data.toList==gu 5)=Xy):=by show (s.data.toList==gu 5)=Xy;rw[<- aO g,Bool.beq_comm];exact c
    go_wp2;go_round
    .exact⟨6,O,by go_num,oE (aO f) a⟩
    .simp[intOf]
   .have a:=oC (k:=5) O (by rw[<- aO g,Bool.beq_comm];exact c) (aO f);go_wp2;go_ret2;exact⟨gb (by rw[pj,a];rfl) (by rw[oK,a];rfl),rfl⟩
  .cases c:([115,117]==s.toList)
   .have a:Hid ((s.data.toList==gu 6)=Xy):=by show (s.data.toList==gu 6)=Xy;rw[<- aO g,Bool.beq_comm];exact c
    go_wp2;go_round
    .exact⟨7,O,by go_num,oE (aO f) a⟩
    .simp[intOf]
   .have a:=oC (k:=6) O (by rw[<- aO g,Bool.beq_comm];exact c) (aO f);go_wp2;go_ret2;exact⟨gb (by rw[pj,a];rfl) (by rw[oK,a];rfl),rfl⟩
  .have a:=Jf (aO f);go_wp2;go_ret2;exact⟨gb (by rw[pj,a];rfl) (by rw[oK,a];rfl),rfl⟩
theorem Sj(s:Xn)(w:XA):XE prog 83 #[s] w fun e w'=>e=XR (V Y (Txt.fu s.data.toList))/\XD w w w':=by
 have g:=hide (toList_data s);have h:Hid (∀ o,XD w w (w.alloc o)):=fun o=>fJ.alloc aJ o;go_in;go_wp2;go_loop [4] (fun i=>∃ k:M,k<=7/\i=V Y k/\∀ j,j<k->(s.data.toList==gu j)=Xy) (fun i=>7-(intOf i).toNat)
 .exact⟨0,O,rfl,fun j q=>Xv q O⟩
 .obtain⟨k,t,rfl,m⟩:=hrel;have f:=hide m;clear m;rcases (show k=0\/k=1\/k=2\/k=3\/k=4\/k=5\/k=6\/k=7 by omega) with rfl|rfl|rfl|rfl|rfl|rfl|rfl|rfl
  .cases c:(s.toList==[109,111])
   .have a:Hid ((s.data.toList==gu 0)=Xy):=by show (s.data.toList==gu 0)=Xy;rw[<- aO g];exact c
    go_wp2;go_round
    .exact⟨1,O,by go_num,oE (aO f) a⟩
    .simp[intOf]
   .have a:Hid (Txt.fu s.data.toList=0):=oC (k:=0) O (by rw[<- aO g];exact c) (aO f);go_wp2;go_ret;exact⟨iI (by rw[a]),h _⟩
  .cases c:(s.toList==[116,117])
   .have a:Hid ((s.data.toList==gu 1)=Xy):=by show (s.data.toList==gu 1)=Xy;rw[<- aO g];exact c
    go_wp2;go_round
    .exact⟨2,O,by go_num,oE (aO f) a⟩
    .simp[intOf]
   .have a:Hid (Txt.fu s.data.toList=1):=oC (k:=1) O (by rw[<- aO g];exact c) (aO f);go_wp2;go_ret;exact⟨iI (by rw[a]),h _⟩
  .cases c:(s.toList==[119,101])
   .have a:Hid ((s.data.toList==gu 2)=Xy):=by show (s.data.toList==gu 2)=Xy;rw[<- aO g];exact c
    go_wp2;go_round
    .exact⟨3,O,by go_num,oE (aO f) a⟩
    .simp[intOf]
   .have a:Hid (Txt.fu s.data.toList=2):=oC (k:=2) O (by rw[<- aO g];exact c) (aO f);go_wp2;go_ret;exact⟨iI (by rw[a]),h _⟩
  .cases c:(s.toList==[116,104])
   .have a:Hid ((s.data.toList==gu 3)=Xy):=by show (s.data.toList==gu 3)=Xy;rw[<- aO g];exact c
    go_wp2;go_round
    .exact⟨4,O,by go_num,oE (aO f) a⟩
    .simp[intOf]
   .have a:Hid (Txt.fu s.data.toList=3):=oC (k:=3) O (by rw[<- aO g];exact c) (aO f);go_wp2;go_ret;exact⟨iI (by rw[a]),h _⟩
  .cases c:(s.toList==[102,114])
   .have a:Hid ((s.data.toList==gu 4)=Xy):=by show (s.data.toList==gu 4)=Xy;rw[<- aO g];exact c
    go_wp2;go_round
    .exact⟨5,O,by go_num,oE (aO f) a⟩
    .simp[intOf]
   .have a:Hid (Txt.fu s.data.toList=4):=oC (k:=4) O (by rw[<- aO g];exact c) (aO f);go_wp2;go_ret;exact⟨iI (by rw[a]),h _⟩
  .cases c:(s.toList==[115,97])
   .have a:Hid ((s.data.toList==gu 5)=Xy):=by show (s.data.toList==gu 5)=Xy;rw[<- aO g];exact c
    go_wp2;go_round
    .exact⟨6,O,by go_num,oE (aO f) a⟩
    .simp[intOf]
   .have a:Hid (Txt.fu s.data.toList=5):=oC (k:=5) O (by rw[<- aO g];exact c) (aO f);go_wp2;go_ret;exact⟨iI (by rw[a]),h _⟩
  .cases c:(s.toList==[115,117])
   .have a:Hid ((s.data.toList==gu 6)=Xy):=by show (s.data.toList==gu 6)=Xy;rw[<- aO g];exact c
    go_wp2;go_round
    .exact⟨7,O,by go_num,oE (aO f) a⟩
    .simp[intOf]
   .have a:Hid (Txt.fu s.data.toList=6):=oC (k:=6) O (by rw[<- aO g];exact c) (aO f);go_wp2;go_ret;exact⟨iI (by rw[a]),h _⟩
  .have a:Hid (Txt.fu s.data.toList=-1):=Jf (aO f);go_wp2;go_ret;exact⟨iI (by rw[a]),h _⟩
structure DS(w:XA)(b:M)(acc:J N):Prop where
 c0:w.cell? (b,0)=U (XL (aI acc 0))
 c1:w.cell? (b,1)=U (XL (aI acc 1))
 c2:w.cell? (b,2)=U (XL (aI acc 2))
 c3:w.cell? (b,3)=U (XL (aI acc 3))
 c4:w.cell? (b,4)=U (XL (aI acc 4))
 c5:w.cell? (b,5)=U (XL (aI acc 5))
 c6:w.cell? (b,6)=U (XL (aI acc 6))
 f:∀ j:M,w.frozen? (b,j)=Xy
theorem DS.later(h:DS w b acc)(a:XD w w wx):DS wx b acc :=⟨cell_later a h.c0,cell_later a h.c1,cell_later a h.c2,cell_later a h.c3,cell_later a h.c4,cell_later a h.c5,cell_later a h.c6,fun j=>(a.frozen (p:=(b,j)) (show b<w from XW _ (b,0) h.c0)).trans (h.f j)⟩
theorem DS.at(h:DS w b acc)(d:N)(c:0<=d)(a:d<7):w.cell? (b,d.toNat)=U (XL (aI acc d)):=by
 rcases (show d=0\/d=1\/d=2\/d=3\/d=4\/d=5\/d=6 by omega) with rfl|rfl|rfl|rfl|rfl|rfl|rfl
 .exact h.c0
 .exact h.c1
 .exact h.c2
 .exact h.c3
 .exact h.c4
 .exact h.c5
 .exact h.c6
theorem uQ(d:N)(g:0<=d){u:XC}(a:w.cell? (b,k)=U (XL (aI acc k)))(_hu:u=XL Xz):(w.setCell (b,d.toNat) Xz).cell? (b,k)=U (XL (aI (d :: acc) k)):=by
 by_cases e:d.toNat=k
 .have f:d=(k:N):=O
  rw[e,World.cell?_setCell_same _ _ _ a];simp[aI,f]
 .rw[World.cell?_setCell_other _ _ _ _ Xc,a];have c:(k:N)≠d:=O
  simp[aI,c]
theorem DS.set(h:DS w b acc)(d:N)(a:0<=d):DS (w.setCell (b,d.toNat) Xz) b (d :: acc) :=⟨uQ (k:=0) d a h.c0 rfl,uQ (k:=1) d a h.c1 rfl,uQ (k:=2) d a h.c2 rfl,uQ (k:=3) d a h.c3 rfl,uQ (k:=4) d a h.c4 rfl,uQ (k:=5) d a h.c5 rfl,uQ (k:=6) d a h.c6 rfl,fun j=>(zF ..).trans (h.f j)⟩
theorem Dq{a:M}{v:XC}(h:DS w b acc)(_hne:a≠b):DS (w.setCell (a,o) v) b acc:=by have g:∀ j:M,(w.setCell (a,o) v).cell? (b,j)=w.cell? (b,j):=fun j=>bD Xc;exact⟨(g 0).trans h.c0,(g 1).trans h.c1,(g 2).trans h.c2,(g 3).trans h.c3,(g 4).trans h.c4,(g 5).trans h.c5,(g 6).trans h.c6,fun j=>(zF ..).trans (h.f j)⟩
def gD(acc:J N):XC:=XN #[aI acc 0,aI acc 1,aI acc 2,aI acc 3,aI acc 4,aI acc 5,aI acc 6]
def uo(s:Xn)(k:M)(acc:J N):Prop :=(3*k<s.size/\Txt.je s=Txt.lC (s.data.toList.drop (3*k)) acc)\/(3*k=s.size+1/\Txt.je s=U acc)
theorem IW(s:Xn)(k:M)(h:s.size % 3=2)(q:3*k<s.size):
  (3*k+2=s.size/\s.data.toList.drop (3*k)=Txt.part s (3*k) (3*k+2)/\(Txt.part s (3*k) (3*k+2)).length=2) \/
  (3*k+3<s.size/\∃ a b c,s.data.toList.drop (3*k)=a :: b :: c :: s.data.toList.drop (3*(k+1))/\Txt.part s (3*k) (3*k+2)=[a,b]/\(c.toNat:N)=Txt.fI s (3*k+2)):=by
 have m:=Txt.iJ s;have f:Txt.part s (3*k) (3*k+2)=(s.data.toList.drop (3*k)).take 2:=by unfold Txt.part;rw[Txt.rA,List.drop_take];congr 1;omega
 by_cases j:3*k+2=s.size
 .left;have e:(s.data.toList.drop (3*k)).length=2:=Xi
  refine⟨j,?_,?_⟩
  .rw[f,List.take_of_length_le O]
  .rw[f,List.length_take];omega
 .right;have g:3*k+3<s.size:=O
  refine⟨g,s.data.toList[3*k]'Xb,s.data.toList[3*k+1]'Xb,s.data.toList[3*k+2]'Xb,?_,?_,?_⟩
  .rw[Zh O,Zh (i:=3*k+1) O,Zh (i:=3*k+1+1) O,show 3*k+1+1+1=3*(k+1) from by omega]
  .rw[f,Zh O,Zh (i:=3*k+1) O];rfl
  .unfold Txt.fI;rw[List.getD_eq_getElem?_getD,List.getElem?_eq_getElem O];rfl
theorem RA(s:Xn)(h:s.size % 3=2):uo s 0 []:=.inl ⟨O,rfl⟩
theorem QK(h:uo s k acc)(z:s.size % 3=2)(u:3*k<s.size)(f:Txt.fu (Txt.part s (3*k) (3*k+2))<0\/aI acc (Txt.fu (Txt.part s (3*k) (3*k+2)))=Xz\/(3*k+2<s.size/\Txt.fI s (3*k+2)≠44)):Txt.je s=Z:=by
 rcases h with ⟨_,h⟩|⟨h,_⟩
 .rw[h]
  have g:Txt.fu (Txt.part s (3*k) (3*k+2))<0\/aI acc (Txt.fu (Txt.part s (3*k) (3*k+2)))=Xz->Txt.mu acc (Txt.fu (Txt.part s (3*k) (3*k+2)))=Z:=fun q=>by
   unfold Txt.mu;rw[Xt];rintro ⟨E,t⟩;rcases q with q|q
   .omega
   .unfold aI at q;rw[q] at t;cases t
  rcases IW s k z u with ⟨D,m,i⟩|⟨D,a,b,c,m,i,C⟩
  .rw[m];rcases f with f|f|f
   all_goals first|omega|skip
   all_goals
    obtain⟨x,y,j⟩:∃ x y,Txt.part s (3*k) (3*k+2)=[x,y]:=by
     match hm:Txt.part s (3*k) (3*k+2),i with
     |[x,y],_=>exact⟨x,y,rfl⟩
    have:=g Xi;rw[j] at this ⊢;exact this
  .rw[m,Txt.lC]
   split
   .rename_i hc
    rcases f with f|f|f
    .have:=g (.inl f);rw[i] at this;rw[this];rfl
    .have:=g (.inr f);rw[i] at this;rw[this];rfl
    .subst hc;exfalso;apply f.2;rw[<- C];rfl
   .rfl
 .omega
theorem Ra(h:uo s k acc)(u:s.size % 3=2)(q:3*k<s.size)(z:0<=Txt.fu (Txt.part s (3*k) (3*k+2)))(j:aI acc (Txt.fu (Txt.part s (3*k) (3*k+2)))=Xy)(m:3*k+2<s.size->Txt.fI s (3*k+2)=44):uo s (k+1) (Txt.fu (Txt.part s (3*k) (3*k+2)) :: acc):=by
 have st:Txt.mu acc (Txt.fu (Txt.part s (3*k) (3*k+2)))=U (Txt.fu (Txt.part s (3*k) (3*k+2)) :: acc):=by unfold Txt.mu;rw[Xu ⟨z,j⟩]
 rcases h with ⟨_,h⟩|⟨h,_⟩
 .rcases IW s k u q with ⟨D,i,g⟩|⟨D,a,b,c,i,g,C⟩
  .right;refine⟨O,?_⟩;rw[h,i]
   obtain⟨x,y,f⟩:∃ x y,Txt.part s (3*k) (3*k+2)=[x,y]:=by
    match j:Txt.part s (3*k) (3*k+2),g with
    |[x,y],_=>exact⟨x,y,rfl⟩
   rw[f] at st ⊢;exact st
  .left;refine⟨O,?_⟩
   have t:c=44:=by have:=m O;rw[<- C] at this;exact UInt8.toNat_inj.1 (aU ((by omega:(c.toNat)=44)))
   rw[h,i,Txt.lC,Xu t,<- g,st];rfl
 .omega
theorem Cc(s:Xn)(w:XA)(hm:s.size<=160):XE prog 52 #[s] w fun e w'=>(∃ acc,e=XR (XM #[gD acc,Txt.fF s])/\(Txt.fF s=Xz->Txt.je s=U acc))/\XD w w w':=by
 by_cases h3:s.size % 3=2
 .have ae:(((s.size:N) % 3) != 2)=Xy:=qx O
  go_in;go_wp2;obtain⟨W,G⟩:∃ W,W=(w.alloc (XS #[Xy,Xy,Xy,Xy,Xy,Xy,Xy] 116)).alloc (XS #[Xy,Xy,Xy,Xy,Xy,Xy,Xy] 116):=⟨_,rfl⟩;rw[<- G];have hB:XD w w W:=by rw[G];exact aS.alloc Xc _
  have hZ:w+2=W.heap.size:=by rw[G];simp
  have dR:DS W w []:=by rw[G];refine⟨?_,?_,?_,?_,?_,?_,?_,fun j=>?_⟩ <;> simp[aI]
  have dD:DS W (w.heap.size+1) []:=by rw[G];refine⟨?_,?_,?_,?_,?_,?_,?_,fun j=>?_⟩ <;> simp[aI]
  clear G;go_loopw [5,6] (fun i _ wx=>∃ (k:M) (acc:J N),3*k<=s.size+1/\i=V Y ((3*k:M):N)/\uo s k acc/\DS wx (w.heap.size+1) acc/\DS wx w []/\XD w w wx/\w+2<=wx.heap.size) (fun i _ _=>s.size+3-(intOf i).toNat)
  .exact⟨0,[],O,rfl,RA s h3,dD,dR,hB,O⟩
  .obtain⟨k,acc,hk,rfl,D,E,z,C,X⟩:=hrel
   by_cases ab:3*k<s.size
   .have hd:=Txt.As (Txt.part s (3*k) (3*k+2));have ad:=hide D;clear D
    go_wp21;refine aK (Sj _ _) fun w1 x=>?_;rw[show (s.extract (3*k) (3*k+2)).data.toList=Txt.part s (3*k) (3*k+2) from rfl];have y:XD w w w1:=C.trans (x.mono C.size);have af:w+2<=w1.heap.size:=XV X x.size;have a:=E.later x;have c:=z.later x;have q0:=a.c0;have q1:=a.c1;have q2:=a.c2;have q3:=a.c3;have q4:=a.c4;have q5:=a.c5;have q6:=a.c6;have T:=c.c0;have S:=c.c1;have Q:=c.c2;have L:=c.c3;have K:=c.c4;have I:=c.c5;have H:=c.c6;have fR:=c.f;have fD:=a.f;obtain⟨d,ac⟩:∃ d,d=Txt.fu (Txt.part s (3*k) (3*k+2)):=⟨_,rfl⟩;have m:=hide (fun q=>QK (aO ad) h3 ab q);have g:=hide (fun q1 q2 q3=>Ra (aO ad) h3 ab q1 q2 q3);rw[<- ac] at hd m g ⊢;clear ac E z C X x hB hZ dR dD;by_cases aa:d<0
    .have t:Hid (Txt.fF s=Xy):=by show Txt.fF s=Xy;unfold Txt.fF;rw[aO m (.inl aa)];rfl
     go_wp2;refine bodyPost_ret (v:=XM #[gD acc,Xy]) (by simp[results,results52,go_sem,gD,T,S,Q,L,K,I,H]) rfl ⟨⟨acc,?_,?_⟩,?_⟩
     .rw[t]
     .intro h;rw[t] at h;cases h
     .exact (((((((y.setCell aJ _).setCell aJ _).setCell aJ _).setCell aJ _).setCell aJ _).setCell aJ _).setCell aJ _)
    .have hc:=a.at d O O
     cases u:aI acc d
     .rw[u] at hc
      by_cases h2:3*k+2<s.size
      .cases F:(((s[3*k+2]'h2).toNat:N) != 44)
       .have HX:Hid (uo s (k+1) (d :: acc)):=aO g O u (fun _=>by rw[Txt.mz s _ h2];simpa using F)
        go_wp2;refine⟨⟨k+1,d :: acc,O,by go_num,HX,?_,?_,?_,?_⟩,by simp[intOf];omega⟩
        .exact a.set d O
        .exact Dq c O
        .exact y.setCell Xc _
        .simp;omega
       .have t:Hid (Txt.fF s=Xy):=by show Txt.fF s=Xy;unfold Txt.fF;rw[aO m (.inr (.inr ⟨h2,by rw[Txt.mz s _ h2];simpa using F⟩))];rfl
        go_wp2;refine bodyPost_ret (v:=XM #[gD acc,Xy]) (by simp[results,results52,go_sem,gD,T,S,Q,L,K,I,H]) rfl ⟨⟨acc,?_,?_⟩,?_⟩
        .rw[t]
        .intro h;rw[t] at h;cases h
        .exact (((((((y.setCell aJ _).setCell aJ _).setCell aJ _).setCell aJ _).setCell aJ _).setCell aJ _).setCell aJ _)
      .have HX:Hid (uo s (k+1) (d :: acc)):=aO g O u (fun h=>Xv h h2);go_wp2;refine⟨⟨k+1,d :: acc,O,by go_num,HX,?_,?_,?_,?_⟩,by simp[intOf];omega⟩
       .exact a.set d O
       .exact Dq c O
       .exact y.setCell Xc _
       .simp;omega
     .rw[u] at hc;have t:Hid (Txt.fF s=Xy):=by show Txt.fF s=Xy;unfold Txt.fF;rw[aO m (.inr (.inl u))];rfl
      go_wp2;refine bodyPost_ret (v:=XM #[gD acc,Xy]) (by simp[results,results52,go_sem,gD,T,S,Q,L,K,I,H]) rfl ⟨⟨acc,?_,?_⟩,?_⟩
      .rw[t]
      .intro h;rw[t] at h;cases h
      .exact (((((((y.setCell aJ _).setCell aJ _).setCell aJ _).setCell aJ _).setCell aJ _).setCell aJ _).setCell aJ _)
   .have HF:Hid (Txt.je s=U acc):=by
     rcases D with ⟨h,_⟩|⟨_,h⟩
     .omega
     .exact h
    have t:Hid (Txt.fF s=Xz):=by show Txt.fF s=Xz;unfold Txt.fF;rw[HF];rfl
    clear D;have q0:=E.c0;have q1:=E.c1;have q2:=E.c2;have q3:=E.c3;have q4:=E.c4;have q5:=E.c5;have q6:=E.c6;have T:=z.c0;have S:=z.c1;have Q:=z.c2;have L:=z.c3;have K:=z.c4;have I:=z.c5;have H:=z.c6;have fR:=z.f;go_wp2;refine bodyPost_ret (v:=XM #[gD acc,Xz]) (by simp[results,results52,go_sem,gD,T,S,Q,L,K,I,H]) rfl ⟨⟨acc,?_,?_⟩,?_⟩
    .rw[t]
    .intro _;exact HF
    .exact (((((((C.setCell aJ _).setCell aJ _).setCell aJ _).setCell aJ _).setCell aJ _).setCell aJ _).setCell aJ _)
 .have ae:(((s.size:N) % 3) != 2)=Xz:=qy O
  have t:Hid (Txt.fF s=Xy):=by
   show Txt.fF s=Xy;unfold Txt.fF
   cases ho:Txt.je s with
   |none=>rfl
   |some r=>have:=Txt.Hc _ _ _ ho;rw[Txt.iJ] at this;omega
  clear h3;go_in;go_wp2;refine bodyPost_ret (v:=XM #[gD [],Xy]) (by simp[results,results52,go_sem,gD,aI]) rfl ⟨⟨[],?_,?_⟩,?_⟩
  .rw[t]
  .intro h;rw[t] at h;cases h
  .exact aS.alloc Xc _
def gJ(s:Xn):J Xn:=Lib.splitB ⟨#[44]⟩ 0 (Lib.countB s ⟨#[44]⟩) s
theorem JL(s:Xn):(gJ s).length=Lib.countB s ⟨#[44]⟩+1:=Lib.splitB_all ⟨#[44]⟩ Xd 0 _ s rfl
theorem Te(s:Xn):Txt.pZ ((gJ s).map (·.data.toList)) []=Txt.je s:=Txt.Wv s
theorem b5r(s:Xn)(h:s.size<=160):(gJ s).length<=161:=by rw[JL];have:=Lib.countB_le ⟨#[44]⟩ Xd s.size s aJ;omega
theorem b7Y(w:XA)(l:J Xn)(t:XG)(j:M)(x:Xn)(h:l[j]?=U x):(w.alloc (XS (l.map XK).toArray t)).cell? (w,j)=U ↑x:=by rw[World.cell?_alloc_at _ _ _ _ rfl];simp[h]
def tJ(s:Xn)(k:M)(acc:J N):Prop:=Txt.je s=Txt.pZ (((gJ s).map (·.data.toList)).drop k) acc
theorem Ml(h:tJ s k acc)(a:k<(gJ s).length):Txt.je s=(Txt.mu acc (Txt.fu (gJ s)[k].data.toList)).bind (Txt.pZ (((gJ s).map (·.data.toList)).drop (k+1))):=by rw[h,Zh (aU a)];simp[Txt.pZ]
theorem Wq(h:tJ s k acc)(f:k<(gJ s).length)(g:Txt.fu (gJ s)[k].data.toList<0\/aI acc (Txt.fu (gJ s)[k].data.toList)=Xz):Txt.fF s=Xy:=by
 have e:=Ml h f;have a:Txt.mu acc (Txt.fu (gJ s)[k].data.toList)=Z:=by
  unfold Txt.mu;rw[Xt];rintro ⟨i,c⟩;rcases g with q|q
  .omega
  .unfold aI at q;rw[q] at c;cases c
 rw[a] at e;unfold Txt.fF;rw[e];rfl
theorem WY(h:tJ s k acc)(c:k<(gJ s).length)(f:0<=Txt.fu (gJ s)[k].data.toList)(a:aI acc (Txt.fu (gJ s)[k].data.toList)=Xy):tJ s (k+1) (Txt.fu (gJ s)[k].data.toList :: acc):=by
 have e:=Ml h c;have st:Txt.mu acc (Txt.fu (gJ s)[k].data.toList)=U (Txt.fu (gJ s)[k].data.toList :: acc):=by unfold Txt.mu;rw[Xu ⟨f,a⟩]
 rw[st] at e;exact e
theorem Wr(h:tJ s k acc)(a:(gJ s).length<=k):Txt.je s=U acc:=by unfold tJ at h;rw[List.drop_of_length_le (aU a)] at h;exact h
theorem LN(s:Xn)(w:XA)(he:Env w)(hm:s.size<=160):XE prog 179 #[XK s] w fun e w'=>(∃ acc,e=XR (XM #[gD acc,XL (Txt.fF s)])/\(Txt.fF s=Xz->Txt.je s=U acc))/\XD w.heap.size w w':=by
 obtain⟨mx,L⟩:=he.vO;have HE:=hide he;have hz:=he.size;clear he;have ai:=b5r s hm;go_in;go_wp2_with fail;obtain⟨W,H⟩:∃ W,W=(w.alloc (XS #[XL Xy,XL Xy,XL Xy,XL Xy,XL Xy,XL Xy,XL Xy] 153)).alloc (XS #[XL Xy,XL Xy,XL Xy,XL Xy,XL Xy,XL Xy,XL Xy] 153):=⟨_,rfl⟩;rw[<- H];have hB:XD w.heap.size w W:=by rw[H];exact ((zr _ _).alloc (zq _) _).alloc Xc _
 have hZ:w.heap.size+2=W.heap.size:=by rw[H];simp
 have dR:DS W w.heap.size []:=by rw[H];refine⟨?_,?_,?_,?_,?_,?_,?_,fun j=>?_⟩ <;> simp[aI]
 have dD:DS W (w.heap.size+1) []:=by rw[H];refine⟨?_,?_,?_,?_,?_,?_,?_,fun j=>?_⟩ <;> simp[aI]
 have Q:=cell_later hB L;clear H;refine (strings_Split s ⟨#[44]⟩ mx W O Q Xd).mono ?_;rintro e w1 ⟨rfl,y⟩;have hP:∀ j x,(gJ s)[j]?=U x->w1.cell? ⟨W.heap.size,j,Z⟩=U (XK x):=fun j x hx=>by rw[y];exact b7Y W (gJ s) _ j x hx
 have D:XD W.heap.size W w1:=by rw[y];exact (zr _ _).alloc (zq _) _
 have aj:W.heap.size<w1.heap.size:=by rw[y];simp
 clear y;rw[show Lib.countB s ⟨#[44]⟩+1=(gJ s).length from (JL s).symm];have HP:=hide hP;have af:=hide (((aO HE).later hB).later D);have ac:=dR.later D;have ad:=dD.later D;have aa:XD w.heap.size w w1:=hB.trans (D.mono O);clear hP dR dD hB Q L af;go_wp2;go_loopw [6,7,8,12] (fun _ _ _ i wx=>∃ (k:M) (acc:J N),k<=(gJ s).length/\i=V Y k/\tJ s k acc/\DS wx (w.heap.size+1) acc/\DS wx w.heap.size []/\XD w.heap.size w wx/\w1.heap.size<=wx.heap.size/\(∀ j x,(gJ s)[j]?=U x->wx.cell? ⟨W.heap.size,j,Z⟩=U (XK x))) (fun _ _ _ i _=>(gJ s).length-(intOf i).toNat)
 case atStart=>exact⟨0,[],YK _,rfl,(Te s).symm,ad,ac,aa,XT _,aO HP⟩
 case round =>
  obtain⟨k,acc,hk,rfl,m,c,a,g,ag,I⟩:=hrel;have T:=hide I;clear I;have ab:=hide ((aO HE).later g);by_cases E:k<(gJ s).length
  .have hc:=aO T k (gJ s)[k] (by simp[E]);have hi:(k:N)<((gJ s).length:N):=O
   have q0:=c.c0;have q1:=c.c1;have q2:=c.c2;have q3:=c.c3;have q4:=c.c4;have q5:=c.c5;have q6:=c.c6;have r0:=a.c0;have r1:=a.c1;have r2:=a.c2;have r3:=a.c3;have r4:=a.c4;have r5:=a.c5;have X:=a.c6;have fR:=a.f;have fD:=c.f;have hd:=Txt.As (gJ s)[k].data.toList;have u:=hide (fun q=>Wq m E q);have t:=hide (fun q1 q2=>WY m E q1 q2);clear m;go_wp2_with fail;refine (a8Y _ _ (aO ab)).mono ?_;rintro e w2 ⟨rfl,rfl⟩;obtain⟨d,C⟩:∃ d,d=Txt.fu (gJ s)[k].data.toList:=⟨_,rfl⟩;have HV:Hid (pj (gJ s)[k]=if 0<=d then d else 0):=by show pj (gJ s)[k]=_;rw[C];rfl
   have HW:Hid (oK (gJ s)[k]=decide (0<=d)):=by show oK (gJ s)[k]=_;rw[C];rfl
   rw[<- C] at hd u t;clear C;by_cases K:d<0
   .have G:Hid (Txt.fF s=Xy):=aO u (.inl K);have F:Hid (oK (gJ s)[k]=Xy):=HW.out.trans (decide_eq_false O);rw[F.out];go_wp2;refine bodyPost_ret (v:=XM #[gD [],XL Xy]) (by simp[results,results179,go_sem,gD,aI,r0,r1,r2,r3,r4,r5,X]) rfl ⟨⟨[],?_,?_⟩,?_⟩
    .rw[G.out]
    .intro h;rw[G.out] at h;cases h
    .exact (((((((g.setCell (zq _) _).setCell (zq _) _).setCell (zq _) _).setCell (zq _) _).setCell (zq _) _).setCell (zq _) _).setCell (zq _) _)
   .have ae:Hid (pj (gJ s)[k]=d):=HV.out.trans (Xu O);have F:Hid (oK (gJ s)[k]=Xz):=HW.out.trans (decide_eq_true O);rw[ae.out,F.out];have S:=c.at d O O
    cases z:aI acc d
    .rw[z] at S;have HX:Hid (tJ s (k+1) (d :: acc)):=aO t O z;go_wp2;refine⟨⟨k+1,d :: acc,by omega,by go_num,HX.out,?_,?_,?_,?_,?_⟩,by simp[intOf];omega⟩
     .exact c.set d O
     .exact Dq a O
     .exact g.setCell Xc _
     .simp;omega
     .intro j x hx;exact (zS _ _ _ _ Xc).trans (aO T j x hx)
    .rw[z] at S;have G:Hid (Txt.fF s=Xy):=aO u (.inr z);go_wp2;refine bodyPost_ret (v:=XM #[gD [],XL Xy]) (by simp[results,results179,go_sem,gD,aI,r0,r1,r2,r3,r4,r5,X]) rfl ⟨⟨[],?_,?_⟩,?_⟩
     .rw[G.out]
     .intro h;rw[G.out] at h;cases h
     .exact (((((((g.setCell (zq _) _).setCell (zq _) _).setCell (zq _) _).setCell (zq _) _).setCell (zq _) _).setCell (zq _) _).setCell (zq _) _)
  .have HF:Hid (Txt.je s=U acc):=Wr m O;have G:Hid (Txt.fF s=Xz):=by show Txt.fF s=Xz;unfold Txt.fF;rw[HF.out];rfl
   clear m;have q0:=c.c0;have q1:=c.c1;have q2:=c.c2;have q3:=c.c3;have q4:=c.c4;have q5:=c.c5;have q6:=c.c6;have r0:=a.c0;have r1:=a.c1;have r2:=a.c2;have r3:=a.c3;have r4:=a.c4;have r5:=a.c5;have X:=a.c6;have fR:=a.f;go_wp2;refine bodyPost_ret (v:=XM #[gD acc,XL Xz]) (by simp[results,results179,go_sem,gD,r0,r1,r2,r3,r4,r5,X]) rfl ⟨⟨acc,?_,?_⟩,?_⟩
   .rw[G.out]
   .intro _;exact HF.out
   .exact (((((((g.setCell (zq _) _).setCell (zq _) _).setCell (zq _) _).setCell (zq _) _).setCell (zq _) _).setCell (zq _) _).setCell (zq _) _)
theorem Env.kept(h:Env w)(k:Kept R w w')(a:10<=R):Env w':=by grind[Env.kept]
def gy(s:Xn)(a c:N):Xq:=Txt.isNum s.data.toList && decide (a<=Txt.dG s.data.toList) && decide (Txt.dG s.data.toList<=c)
theorem L3(s:Xn)(L q:M)(f g:N)(w:XA)(t:s.size<=160)(x:w.cell? (L,0)=U ↑f)(u:w.cell? (q,0)=U ↑g):XE prog 176 #[s,L,q] w fun e w'=>e=XR (XM #[V Y (Txt.dG s.data.toList),gy s f g])/\∃ n,w'=w.drewN n:=by
 have c:s.size<=maxLen:=by unfold maxLen;omega
 cases a:Txt.isNum s.data.toList
 .go_in
  go_wp21;refine aZ (gI s w c) ?_;rw[a];go_wp2;go_quiet (fail);go_wp2;go_ret2;exact⟨gb rfl (by simp[gy,a]),_,rfl⟩
 .by_cases j:f<=Txt.dG s.data.toList
  .by_cases m:Txt.dG s.data.toList<=g
   .go_in
    go_wp21;refine aZ (gI s w c) ?_;rw[a];go_wp2;go_quiet (fail);go_wp2;go_ret2;exact⟨gb rfl (by simp[gy,a,j,m]),_,rfl⟩
   .have h:=decide_eq_false m
    go_in;go_wp21;refine aZ (gI s w c) ?_;rw[a];go_wp2;go_quiet (fail);go_wp2;go_ret2;exact⟨gb rfl (by simp[gy,a,j,h]),_,rfl⟩
  .have i:=decide_eq_false j
   go_in;go_wp21;refine aZ (gI s w c) ?_;rw[a];go_wp2;go_quiet (fail);go_wp2;go_ret2;exact⟨gb rfl (by simp[gy,a,i]),_,rfl⟩
theorem b4w(R A:M)(ws:J Xn)(nx:M)(wr:Xq)(w:XA)(h:RS w R A ws nx wr)(m:Env w)(u:dN ws.length nx wr=Xz)(a:nx<ws.length)(z:Txt.cU ws[nx]=Xz):XE prog 138 #[R,.func (.func 139) #[] #[]] w fun e w'=>e=XR (V Y (dV ws[nx]))/\RS w' R A ws (nx+1) wr/\Kept R w w':=by
 have y:(nx:N)<(ws.length:N):=O;have f:=h.short _ (zg a);have i:=hide f;clear f;have t:=hide m;clear m;go_in;go_wp21;refine aK (ke R A ws nx wr w h) ?_;rintro w1 ⟨n,g⟩;have c:RS w1 R A ws nx wr:=by rw[g];exact h.drewN n
 have q:Kept R w w1:=by rw[g];exact (Kept.refl R w).drewN n
 have j:Hid (Env w1):=by show Env w1;rw[g];exact (aO t).drewN n
 have F:=c.c0;have E:=c.c1;have C:=c.f1;have D:=c.rows nx a;have x:=c.len;clear g;go_wp2;go_quiet ((go_at_call 139;exact Calls.quiet_of_same (MD _ _ ((aO j).drewN _).jO (aO i))));go_wp2;go_ret;exact⟨rfl,(c.drewN _).step a,(q.drewN _).setCell _ _⟩
theorem b4x(R A:M)(ws:J Xn)(nx:M)(wr:Xq)(w:XA)(h:RS w R A ws nx wr)(m:Env w)(u:dN ws.length nx wr=Xz)(f:nx<ws.length)(z:Txt.cU ws[nx]=Xy):XE prog 138 #[R,.func (.func 139) #[] #[]] w fun e w'=>e=XR (V Y (0))/\RS w' R A ws nx Xz/\Kept R w w':=by
 have y:(nx:N)<(ws.length:N):=O;have c:=h.short _ (zg f);have i:=hide c;clear c;have t:=hide m;clear m;go_in;go_wp21;refine aK (ke R A ws nx wr w h) ?_;rintro w1 ⟨n,g⟩;have a:RS w1 R A ws nx wr:=by rw[g];exact h.drewN n
 have q:Kept R w w1:=by rw[g];exact (Kept.refl R w).drewN n
 have j:Hid (Env w1):=by show Env w1;rw[g];exact (aO t).drewN n
 have G:=a.c0;have F:=a.c1;have E:=a.c2;have C:=a.f2;have D:=a.rows nx f;have x:=a.len;clear g;go_wp2;go_quiet ((go_at_call 139;exact Calls.quiet_of_same (MD _ _ ((aO j).drewN _).jO (aO i))));go_wp2;go_ret;exact⟨rfl,(a.drewN _).bad,(q.drewN _).setCell _ _⟩
theorem small(h:n<=160):n<=maxLen:=by unfold maxLen;omega
theorem b1u(R A:M)(ws:J Xn)(nx:M)(wr:Xq)(w:XA)(h:RS w R A ws nx wr)(m:dN ws.length nx wr=Xz)(a:nx<ws.length)(u:Txt.dZ ws[nx]=Xz):XE prog 138 #[R,.func (.func 140) #[] #[]] w fun e w'=>e=XR (V Y (Txt.eA ws[nx]))/\RS w' R A ws (nx+1) wr/\Kept R w w':=by
 have t:(nx:N)<(ws.length:N):=O;have f:=h.short _ (zg a);have i:=hide f;clear f;go_in;go_wp21;refine aK (ke R A ws nx wr w h) ?_;rintro w1 ⟨n,g⟩;have c:RS w1 R A ws nx wr:=by rw[g];exact h.drewN n
 have j:Kept R w w1:=by rw[g];exact (Kept.refl R w).drewN n
 have C:=c.c0;have z:=c.c1;have x:=c.f1;have y:=c.rows nx a;have q:=c.len;clear g;go_wp2;go_quiet ((go_at_call 140;exact Calls.quiet_of_same (ze _ _ (small (aO i)))));go_wp2;go_ret;exact⟨rfl,(c.drewN _).step a,(j.drewN _).setCell _ _⟩
theorem b1v(R A:M)(ws:J Xn)(nx:M)(wr:Xq)(w:XA)(h:RS w R A ws nx wr)(m:dN ws.length nx wr=Xz)(f:nx<ws.length)(u:Txt.dZ ws[nx]=Xy):XE prog 138 #[R,.func (.func 140) #[] #[]] w fun e w'=>e=XR (V Y (0))/\RS w' R A ws nx Xz/\Kept R w w':=by
 have t:(nx:N)<(ws.length:N):=O;have c:=h.short _ (zg f);have i:=hide c;clear c;go_in;go_wp21;refine aK (ke R A ws nx wr w h) ?_;rintro w1 ⟨n,g⟩;have a:RS w1 R A ws nx wr:=by rw[g];exact h.drewN n
 have j:Kept R w w1:=by rw[g];exact (Kept.refl R w).drewN n
 have D:=a.c0;have C:=a.c1;have z:=a.c2;have x:=a.f2;have y:=a.rows nx f;have q:=a.len;clear g;go_wp2;go_quiet ((go_at_call 140;exact Calls.quiet_of_same (ze _ _ (small (aO i)))));go_wp2;go_ret;exact⟨rfl,(a.drewN _).bad,(j.drewN _).setCell _ _⟩
theorem b4p(R A:M)(ws:J Xn)(nx:M)(wr:Xq)(w:XA)(h:RS w R A ws nx wr)(m:Env w)(u:dN ws.length nx wr=Xz)(a:nx<ws.length)(z:bC ws[nx]=Xz):XE prog 138 #[R,.func (.func 143) #[] #[]] w fun e w'=>e=XR (V Y (cL ws[nx]))/\RS w' R A ws (nx+1) wr/\Kept R w w':=by
 have y:(nx:N)<(ws.length:N):=O;have f:=h.short _ (zg a);have i:=hide f;clear f;have t:=hide m;clear m;go_in;go_wp21;refine aK (ke R A ws nx wr w h) ?_;rintro w1 ⟨n,g⟩;have c:RS w1 R A ws nx wr:=by rw[g];exact h.drewN n
 have q:Kept R w w1:=by rw[g];exact (Kept.refl R w).drewN n
 have j:Hid (Env w1):=by show Env w1;rw[g];exact (aO t).drewN n
 have F:=c.c0;have E:=c.c1;have C:=c.f1;have D:=c.rows nx a;have x:=c.len;clear g;go_wp2;go_quiet ((go_at_call 143;exact Calls.quiet_of (MK _ _ ((aO j).drewN _) (aO i))));go_wp2;go_ret;exact⟨rfl,(c.drewN _).step a,(q.drewN _).setCell _ _⟩
theorem b4q(R A:M)(ws:J Xn)(nx:M)(wr:Xq)(w:XA)(h:RS w R A ws nx wr)(m:Env w)(u:dN ws.length nx wr=Xz)(f:nx<ws.length)(z:bC ws[nx]=Xy):XE prog 138 #[R,.func (.func 143) #[] #[]] w fun e w'=>e=XR (V Y (0))/\RS w' R A ws nx Xz/\Kept R w w':=by
 have y:(nx:N)<(ws.length:N):=O;have c:=h.short _ (zg f);have i:=hide c;clear c;have t:=hide m;clear m;go_in;go_wp21;refine aK (ke R A ws nx wr w h) ?_;rintro w1 ⟨n,g⟩;have a:RS w1 R A ws nx wr:=by rw[g];exact h.drewN n
 have q:Kept R w w1:=by rw[g];exact (Kept.refl R w).drewN n
 have j:Hid (Env w1):=by show Env w1;rw[g];exact (aO t).drewN n
 have G:=a.c0;have F:=a.c1;have E:=a.c2;have C:=a.f2;have D:=a.rows nx f;have x:=a.len;clear g;go_wp2;go_quiet ((go_at_call 143;exact Calls.quiet_of (MK _ _ ((aO j).drewN _) (aO i))));go_wp2;go_ret;exact⟨rfl,(a.drewN _).bad,(q.drewN _).setCell _ _⟩
theorem b1r(L m:M)(i j:N)(R A:M)(ws:J Xn)(nx:M)(wr:Xq)(w:XA)(h:RS w R A ws nx wr)(y:w.cell? (L,0)=U ↑i)(x:w.cell? (m,0)=U ↑j)(D:dN ws.length nx wr=Xz)(a:nx<ws.length)(F:gy ws[nx] i j=Xz):XE prog 138 #[R,.func (.func 176) #[] #[L,m]] w fun e w'=>e=XR (V Y (Txt.dG ws[nx].data.toList))/\RS w' R A ws (nx+1) wr/\Kept R w w':=by
 have C:(nx:N)<(ws.length:N):=O;have g:=h.short _ (zg a);have u:=hide g;clear g;go_in;go_wp21;refine aK (ke R A ws nx wr w h) ?_;rintro w1 ⟨n,f⟩;have c:RS w1 R A ws nx wr:=by rw[f];exact h.drewN n
 have z:Kept R w w1:=by rw[f];exact (Kept.refl R w).drewN n
 have t:Hid (w1.cell? (L,0)=U ↑i):=by show w1.cell? _=_;rw[f];exact y
 have q:Hid (w1.cell? (m,0)=U ↑j):=by show w1.cell? _=_;rw[f];exact x
 clear y x;have K:=c.c0;have I:=c.c1;have G:=c.f1;have H:=c.rows nx a;have E:=c.len;clear f;go_wp2;go_quiet ((go_at_call 176;exact Calls.quiet_of (L3 _ L m i j _ (aO u) (aO t) (aO q))));go_wp2;go_ret;exact⟨rfl,(c.drewN _).step a,(z.drewN _).setCell _ _⟩
theorem b1s(L m:M)(i j:N)(R A:M)(ws:J Xn)(nx:M)(wr:Xq)(w:XA)(h:RS w R A ws nx wr)(y:w.cell? (L,0)=U ↑i)(x:w.cell? (m,0)=U ↑j)(D:dN ws.length nx wr=Xz)(g:nx<ws.length)(F:gy ws[nx] i j=Xy):XE prog 138 #[R,.func (.func 176) #[] #[L,m]] w fun e w'=>e=XR (V Y (0))/\RS w' R A ws nx Xz/\Kept R w w':=by
 have C:(nx:N)<(ws.length:N):=O;have f:=h.short _ (zg g);have u:=hide f;clear f;go_in;go_wp21;refine aK (ke R A ws nx wr w h) ?_;rintro w1 ⟨n,c⟩;have a:RS w1 R A ws nx wr:=by rw[c];exact h.drewN n
 have z:Kept R w w1:=by rw[c];exact (Kept.refl R w).drewN n
 have t:Hid (w1.cell? (L,0)=U ↑i):=by show w1.cell? _=_;rw[c];exact y
 have q:Hid (w1.cell? (m,0)=U ↑j):=by show w1.cell? _=_;rw[c];exact x
 clear y x;have Q:=a.c0;have K:=a.c1;have I:=a.c2;have G:=a.f2;have H:=a.rows nx g;have E:=a.len;clear c;go_wp2;go_quiet ((go_at_call 176;exact Calls.quiet_of (L3 _ L m i j _ (aO u) (aO t) (aO q))));go_wp2;go_ret;exact⟨rfl,(a.drewN _).bad,(z.drewN _).setCell _ _⟩
theorem b4r(f:XC)(R A:M)(ws:J Xn)(nx:M)(wr:Xq)(w:XA)(h:RS w R A ws nx wr)(i:dN ws.length nx wr=Xy):XE prog 133 #[R,f] w fun e w'=>e=XR (XK ⟨#[]⟩)/\RS w' R A ws nx Xz/\Kept R w w':=by
 go_in;go_wp21;refine aK (ke R A ws nx wr w h) ?_;rintro w1 ⟨n,a⟩;have c:RS w1 R A ws nx wr:=by rw[a];exact h.drewN n
 have g:Kept R w w1:=by rw[a];exact (Kept.refl R w).drewN n
 have m:=c.c2;have j:=c.f2;clear a;go_wp2;go_ret;exact⟨rfl,c.bad,g.setCell _ _⟩
theorem b4u(R A:M)(ws:J Xn)(nx:M)(wr:Xq)(w:XA)(h:RS w R A ws nx wr)(D:dN ws.length nx wr=Xz)(f:nx<ws.length)(G:Txt.gP ws[nx].data.toList=Xz):XE prog 133 #[R,.func (.func 134) #[] #[]] w fun e w'=>e=XR (tG ws[nx])/\RS w' R A ws (nx+1) wr/\Kept R w w':=by
 have F:(nx:N)<(ws.length:N):=O;have x:(0:N)<=(nx:N):=Int.natCast_nonneg _;have g:ws[nx].size<=160:=h.short _ (zg f);have q:=hide g;clear g;go_in;go_wp21;refine aK (ke R A ws nx wr w h) ?_;rintro w1 ⟨n,m⟩;have j:RS w1 R A ws nx wr:=by rw[m];exact h.drewN n
 have u:Kept R w w1:=by rw[m];exact (Kept.refl R w).drewN n
 have C:=j.c0;have z:=j.c1;have y:=j.rows nx f;have E:=j.len;clear m;go_wp21;go_region_held3 (fun w'=>w'.cell? (R,0)=U (XJ A ws.length ws.length)/\w'.cell? (R,1)=U (V Y nx)/\w'.cell? (A,nx)=U (XK ws[nx]))
  (first
   |go_keep
   |(
    go_split_ands;refine⟨?_,?_,?_⟩
    .exact cell_later a Xe
    .exact cell_later a Xe
    .exact cell_later a Xe))
  ((go_at_call 134;refine aK (MF _ _ (aO q)) fun w4 a=>?_))
 have c:XD w1 w1 w4:=⟨a.os,a.tape,a.output,a.size,a.block⟩;have i:=j.aD c;have t:=u.trans (Kept.aD c);have L:=i.c1;have K:=i.c2;have I:=i.f1;have H:=i.f2;clear C z y;go_wp2;go_ret;exact⟨rfl,i.step f,t.setCell _ _⟩
theorem b4v(R A:M)(ws:J Xn)(nx:M)(wr:Xq)(w:XA)(h:RS w R A ws nx wr)(D:dN ws.length nx wr=Xz)(g:nx<ws.length)(G:Txt.gP ws[nx].data.toList=Xy):XE prog 133 #[R,.func (.func 134) #[] #[]] w fun e w'=>e=XR (XK ⟨#[]⟩)/\RS w' R A ws nx Xz/\Kept R w w':=by
 have F:(nx:N)<(ws.length:N):=O;have x:(0:N)<=(nx:N):=Int.natCast_nonneg _;have f:ws[nx].size<=160:=h.short _ (zg g);have q:=hide f;clear f;go_in;go_wp21;refine aK (ke R A ws nx wr w h) ?_;rintro w1 ⟨n,m⟩;have j:RS w1 R A ws nx wr:=by rw[m];exact h.drewN n
 have u:Kept R w w1:=by rw[m];exact (Kept.refl R w).drewN n
 have C:=j.c0;have z:=j.c1;have y:=j.rows nx g;have E:=j.len;clear m;go_wp21;go_region_held3 (fun w'=>w'.cell? (R,0)=U (XJ A ws.length ws.length)/\w'.cell? (R,1)=U (V Y nx)/\w'.cell? (A,nx)=U (XK ws[nx]))
  (first
   |go_keep
   |(
    go_split_ands;refine⟨?_,?_,?_⟩
    .exact cell_later a Xe
    .exact cell_later a Xe
    .exact cell_later a Xe))
  ((go_at_call 134;refine aK (MF _ _ (aO q)) fun w4 a=>?_))
 have c:XD w1 w1 w4:=⟨a.os,a.tape,a.output,a.size,a.block⟩;have i:=j.aD c;have t:=u.trans (Kept.aD c);have L:=i.c1;have K:=i.c2;have I:=i.f1;have H:=i.f2;clear C z y;go_wp2;go_ret;exact⟨rfl,i.bad,t.setCell _ _⟩
theorem uR(h:dN ws.length nx wr=Xy):fQ ws nx wr B=Xy:=by simp[fQ,h]
theorem pd{b:Xq}(h:dN ws.length nx wr=Xz)(a:nx<ws.length)(c:B ws[nx]=b):fQ ws nx wr B=b:=by rw[fQ,h,sA ws nx a,c,Bool.true_and]
theorem b4t(R A:M)(ws:J Xn)(nx:M)(wr:Xq)(w:XA)(h:RS w R A ws nx wr):XE prog 138 #[R,.func (.func 142) #[] #[]] w fun e w'=>e=XR (V Y (gS ws nx wr (fun s=>Txt.isNum s.data.toList) (fun s=>Txt.dG s.data.toList)))/\RS w' R A ws (fP ws nx wr (fun s=>Txt.isNum s.data.toList)) (fL ws nx wr (fun s=>Txt.isNum s.data.toList))/\Kept R w w':=by
 cases c:dN ws.length nx wr
 .have t:=uR (B:=(fun s=>Txt.isNum s.data.toList)) c;rw[gS,fP,fL,t];exact yX _ R A ws nx wr w h c
 .have a:=sF c
  cases f:(fun s=>Txt.isNum s.data.toList) ws[nx]
  .have t:=pd (B:=(fun s=>Txt.isNum s.data.toList)) c a f;rw[gS,fP,fL,t];exact b7O R A ws nx wr w h c a (small (h.short _ (zg a))) f
  .have t:=pd (B:=(fun s=>Txt.isNum s.data.toList)) c a f;rw[gS,fP,fL,t,sA ws nx a];exact b7N R A ws nx wr w h c a (small (h.short _ (zg a))) f
theorem MO(R A:M)(ws:J Xn)(nx:M)(wr:Xq)(w:XA)(h:RS w R A ws nx wr)(g:Env w):XE prog 138 #[R,.func (.func 139) #[] #[]] w fun e w'=>e=XR (V Y (gS ws nx wr Txt.cU dV))/\RS w' R A ws (fP ws nx wr Txt.cU) (fL ws nx wr Txt.cU)/\Kept R w w':=by
 cases c:dN ws.length nx wr
 .have t:=uR (B:=Txt.cU) c;rw[gS,fP,fL,t];exact yX _ R A ws nx wr w h c
 .have a:=sF c
  cases f:Txt.cU ws[nx]
  .have t:=pd (B:=Txt.cU) c a f;rw[gS,fP,fL,t];exact b4x R A ws nx wr w h g c a f
  .have t:=pd (B:=Txt.cU) c a f;rw[gS,fP,fL,t,sA ws nx a];exact b4w R A ws nx wr w h g c a f
theorem b0c(R A:M)(ws:J Xn)(nx:M)(wr:Xq)(w:XA)(h:RS w R A ws nx wr):XE prog 138 #[R,.func (.func 140) #[] #[]] w fun e w'=>e=XR (V Y (gS ws nx wr Txt.dZ Txt.eA))/\RS w' R A ws (fP ws nx wr Txt.dZ) (fL ws nx wr Txt.dZ)/\Kept R w w':=by
 cases c:dN ws.length nx wr
 .have t:=uR (B:=Txt.dZ) c;rw[gS,fP,fL,t];exact yX _ R A ws nx wr w h c
 .have a:=sF c
  cases f:Txt.dZ ws[nx]
  .have t:=pd (B:=Txt.dZ) c a f;rw[gS,fP,fL,t];exact b1v R A ws nx wr w h c a f
  .have t:=pd (B:=Txt.dZ) c a f;rw[gS,fP,fL,t,sA ws nx a];exact b1u R A ws nx wr w h c a f
theorem MP(R A:M)(ws:J Xn)(nx:M)(wr:Xq)(w:XA)(h:RS w R A ws nx wr)(g:Env w):XE prog 138 #[R,.func (.func 143) #[] #[]] w fun e w'=>e=XR (V Y (gS ws nx wr bC cL))/\RS w' R A ws (fP ws nx wr bC) (fL ws nx wr bC)/\Kept R w w':=by
 cases c:dN ws.length nx wr
 .have t:=uR (B:=bC) c;rw[gS,fP,fL,t];exact yX _ R A ws nx wr w h c
 .have a:=sF c
  cases f:bC ws[nx]
  .have t:=pd (B:=bC) c a f;rw[gS,fP,fL,t];exact b4q R A ws nx wr w h g c a f
  .have t:=pd (B:=bC) c a f;rw[gS,fP,fL,t,sA ws nx a];exact b4p R A ws nx wr w h g c a f
theorem b0b(L j:M)(c f:N)(R A:M)(ws:J Xn)(nx:M)(wr:Xq)(w:XA)(h:RS w R A ws nx wr)(q:w.cell? (L,0)=U ↑c)(m:w.cell? (j,0)=U ↑f):XE prog 138 #[R,.func (.func 176) #[] #[L,j]] w fun e w'=>e=XR (V Y (gS ws nx wr (fun s=>gy s c f) (fun s=>Txt.dG s.data.toList)))/\RS w' R A ws (fP ws nx wr (fun s=>gy s c f)) (fL ws nx wr (fun s=>gy s c f))/\Kept R w w':=by
 cases g:dN ws.length nx wr
 .have t:=uR (B:=(fun s=>gy s c f)) g;rw[gS,fP,fL,t];exact yX _ R A ws nx wr w h g
 .have a:=sF g
  cases i:(fun s=>gy s c f) ws[nx]
  .have t:=pd (B:=(fun s=>gy s c f)) g a i;rw[gS,fP,fL,t];exact b1s L j c f R A ws nx wr w h q m g a i
  .have t:=pd (B:=(fun s=>gy s c f)) g a i;rw[gS,fP,fL,t,sA ws nx a];exact b1r L j c f R A ws nx wr w h q m g a i
def oL(ws:J Xn)(nx:M)(wr:Xq):Xn:=if fQ ws nx wr (fun s=>Txt.gP s.data.toList) then tG (ws.getD nx ByteArray.empty) else ⟨#[]⟩
theorem b2E(R A:M)(ws:J Xn)(nx:M)(wr:Xq)(w:XA)(h:RS w R A ws nx wr):XE prog 133 #[R,.func (.func 134) #[] #[]] w fun e w'=>e=XR (oL ws nx wr)/\RS w' R A ws (fP ws nx wr (fun s=>Txt.gP s.data.toList)) (fL ws nx wr (fun s=>Txt.gP s.data.toList))/\Kept R w w':=by
 cases c:dN ws.length nx wr
 .have t:=uR (B:=fun s=>Txt.gP s.data.toList) c;rw[oL,fP,fL,t];exact b4r _ R A ws nx wr w h c
 .have a:=sF c
  cases f:Txt.gP ws[nx].data.toList
  .have t:=pd (B:=fun s=>Txt.gP s.data.toList) c a f;rw[oL,fP,fL,t];exact b4v R A ws nx wr w h c a f
  .have t:=pd (B:=fun s=>Txt.gP s.data.toList) c a f;rw[oL,fP,fL,t,sA ws nx a];exact b4u R A ws nx wr w h c a f
theorem Bo(lo hi:N)(R A:M)(ws:J Xn)(nx:M)(wr:Xq)(w:XA)(h:RS w R A ws nx wr):XE prog 135 #[R,lo,hi] w fun e w'=>e=XR (V Y (gS ws nx wr (fun s=>gy s lo hi) (fun s=>Txt.dG s.data.toList)))/\RS w' R A ws (fP ws nx wr (fun s=>gy s lo hi)) (fL ws nx wr (fun s=>gy s lo hi))/\Kept R w w':=by
 go_in;go_wp21;obtain⟨X,a⟩:∃ X,X=(w.alloc (XS #[lo] 3)).alloc (XS #[hi] 3):=⟨_,rfl⟩;rw[<- a];have c:XD w w X:=by rw[a];exact aS.alloc Xc _
 have m:X.cell? (w,0)=U ↑lo:=by rw[a];simp
 have j:X.cell? (w.heap.size+1,0)=U ↑hi:=by rw[a];simp
 clear a;refine aK (b0b w (w.heap.size+1) lo hi R A ws nx wr X (h.aD c) m j) ?_;rintro q ⟨i,g⟩;have f:=(Kept.aD (R:=R) c).trans g;go_wp2;go_ret;exact⟨rfl,i,f⟩
theorem vk(R A:M)(ws:J Xn)(nx:M)(wr:Xq)(w:XA)(h:RS w R A ws nx wr):XE prog 88 #[R] w fun e w'=>e=XR (oL ws nx wr)/\RS w' R A ws (fP ws nx wr (fun s=>Txt.gP s.data.toList)) (fL ws nx wr (fun s=>Txt.gP s.data.toList))/\Kept R w w':=by
 go_in;go_wp21;refine aK (b2E R A ws nx wr w h) ?_;rintro f ⟨c,a⟩;go_wp2;go_ret;exact⟨rfl,c,a⟩
theorem JM(R A:M)(ws:J Xn)(nx:M)(wr:Xq)(w:XA)(h:RS w R A ws nx wr):XE prog 93 #[R] w fun e w'=>e=XR (V Y (gS ws nx wr (fun s=>Txt.isNum s.data.toList) (fun s=>Txt.dG s.data.toList)))/\RS w' R A ws (fP ws nx wr (fun s=>Txt.isNum s.data.toList)) (fL ws nx wr (fun s=>Txt.isNum s.data.toList))/\Kept R w w':=by
 go_in;go_wp21;refine aK (b4t R A ws nx wr w h) ?_;rintro f ⟨c,a⟩;go_wp2;go_ret;exact⟨rfl,c,a⟩
theorem Bd(R A:M)(ws:J Xn)(nx:M)(wr:Xq)(w:XA)(h:RS w R A ws nx wr):XE prog 89 #[R] w fun e w'=>e=XR (V Y (gS ws nx wr (fun s=>gy s 1 9) (fun s=>Txt.dG s.data.toList)))/\RS w' R A ws (fP ws nx wr (fun s=>gy s 1 9)) (fL ws nx wr (fun s=>gy s 1 9))/\Kept R w w':=by
 go_in;go_wp21;refine aK (Bo 1 9 R A ws nx wr w h) ?_;rintro f ⟨c,a⟩;go_wp2;go_ret;exact⟨rfl,c,a⟩
theorem zf(R A:M)(ws:J Xn)(nx:M)(wr:Xq)(w:XA)(h:RS w R A ws nx wr):XE prog 91 #[R] w fun e w'=>e=XR (V Y (gS ws nx wr (fun s=>gy s 1 1048320) (fun s=>Txt.dG s.data.toList)))/\RS w' R A ws (fP ws nx wr (fun s=>gy s 1 1048320)) (fL ws nx wr (fun s=>gy s 1 1048320))/\Kept R w w':=by
 go_in;go_wp21;refine aK (Bo 1 1048320 R A ws nx wr w h) ?_;rintro f ⟨c,a⟩;go_wp2;go_ret;exact⟨rfl,c,a⟩
theorem Fz(R A:M)(ws:J Xn)(nx:M)(wr:Xq)(w:XA)(h:RS w R A ws nx wr):XE prog 177 #[R] w fun e w'=>e=XR (V Y (gS ws nx wr (fun s=>gy s 1 99) (fun s=>Txt.dG s.data.toList)))/\RS w' R A ws (fP ws nx wr (fun s=>gy s 1 99)) (fL ws nx wr (fun s=>gy s 1 99))/\Kept R w w':=by
 go_in;go_wp21;refine aK (Bo 1 99 R A ws nx wr w h) ?_;rintro f ⟨c,a⟩;go_wp2;go_ret;exact⟨rfl,c,a⟩
theorem RS.other{v:XC}(h:RS w R A ws nx wr)(c:b≠R)(f:0<ws.length->b≠A):RS (w.setCell (b,o) v) R A ws nx wr:=by have g:∀ j:M,(w.setCell (b,o) v).cell? (R,j)=w.cell? (R,j):=fun j=>World.cell?_setCell_far w (b,o) (R,j) v c;refine⟨(g 0).trans h.c0,(g 1).trans h.c1,(g 2).trans h.c2,(zF ..).trans h.f1,(zF ..).trans h.f2,h.ne,fun i a=>?_,h.len,h.xS,h.short⟩;exact (World.cell?_setCell_far w (b,o) (A,i) v (f O)).trans (h.rows i a)
theorem RS.lt(h:RS w R A ws nx wr):R<w/\(0<ws.length->A<w) :=⟨XW _ (R,0) h.c0,fun a=>XW _ (A,0) (h.rows 0 a)⟩
theorem Kept.aX(h:Kept R w w')(f:w<=b)(v:XC):Kept R w (w'.setCell (b,o) v) :=⟨(Below.setCell (B:=0) (Below.refl 0 w') (p:=(b,o)) (zN _) v).os.trans h.os,(Below.setCell (B:=0) (Below.refl 0 w') (p:=(b,o)) (zN _) v).tape.trans h.tape,(Below.setCell (B:=0) (Below.refl 0 w') (p:=(b,o)) (zN _) v).output.trans h.output,XV h.size (Below.setCell (B:=0) (Below.refl 0 w') (p:=(b,o)) (zN _) v).size,fun k c a=>(Below.heap_setCell w' (b,o) v k (show k≠b by omega)).trans (h.block k c a)⟩
theorem Kept.frozen(h:Kept R w w')(a:b≠R)(c:b<w):w'.frozen? (b,o)=w.frozen? (b,o):=Zk (w:=w) (h.block b c a)
def Na(ws:J Xn)(nx:M)(wr:Xq)(B C:Xn->Xq):M:=fP ws (fP ws nx wr B) (fL ws nx wr B) C
def M9(ws:J Xn)(nx:M)(wr:Xq)(B C:Xn->Xq):Xq:=fL ws (fP ws nx wr B) (fL ws nx wr B) C
theorem Bb(R A:M)(ws:J Xn)(nx:M)(wr:Xq)(w:XA)(h:RS w R A ws nx wr)(x:Env w)(L:10<=R):XE prog 95 #[R] w fun e w'=>e=XR (XN #[V Y (gS ws nx wr bC cL),V Y (gS ws (fP ws nx wr bC) (fL ws nx wr bC) bC cL)])/\RS w' R A ws (Na ws nx wr bC bC) (M9 ws nx wr bC bC)/\Kept R w w':=by
 have Q:=hide x;clear x;go_in;go_wp21;let⟨hRl,hAl⟩:=h.lt;obtain⟨X,c⟩:∃ X,X=w.alloc (XS #[V Y 0,V Y 0] 83):=⟨_,rfl⟩;rw[<- c];have g:XD w w X:=by rw[c];exact aS
 have t:X.cell? (w,0)=U (V Y 0):=by rw[c];simp
 have q:X.cell? (w,1)=U (V Y 0):=by rw[c];simp
 have m:∀ j:M,X.frozen? (w,j)=Xy:=fun j=>by rw[c];simp
 have F:w<X.heap.size:=by rw[c];simp
 clear c;have i:=(aO Q).later g;refine aK (MP R A ws nx wr X (h.aD g) i) ?_;rintro H ⟨z,u⟩;have C:=i.kept u L;go_wp21;refine aK (MP R A ws _ _ H z C) ?_;rintro G ⟨y,K⟩;have a:=u.trans K;have E:=a.cell (b:=w) (o:=0) O t;have D:=a.cell (b:=w) (o:=1) O q;have T:∀ j:M,G.frozen? (w,j)=Xy:=fun j=>(a.frozen O F).trans (m j);have I:=(Kept.aD (R:=R) g).trans a;have S:=hide y;clear z y C i t q m;go_wp2;refine bodyPost_ret (v:=XN #[V Y (gS ws nx wr bC cL),V Y (gS ws (fP ws nx wr bC) (fL ws nx wr bC) bC cL)]) (by simp[results,results95,go_sem,E,D]) rfl ⟨rfl,?_,?_⟩;exact ((aO S).other O (fun f=>by have:=hAl f;omega)).other O (fun f=>by have:=hAl f;omega);exact (I.aX aJ _).aX aJ _
def bL(s:Xn):Xq:=Txt.gP s.data.toList
def cF(s:Xn):Xq:=gy s 1 9
def bE(s:Xn):N:=Txt.dG s.data.toList
def gG(ws:J Xn)(B:Xn->Xq)(st:M × Xq):M × Xq:=(fP ws st.1 st.2 B,fL ws st.1 st.2 B)
def aP(ws:J Xn)(a:J (Xn->Xq))(st:M × Xq):M × Xq:=a.foldl (fun st B=>gG ws B st) st
def gW(ws:J Xn)(st:M × Xq):Xn:=oL ws st.1 st.2
def bW(ws:J Xn)(st:M × Xq)(B:Xn->Xq)(a:Xn->N):N:=gS ws st.1 st.2 B a
theorem Fy(R A:M)(ws:J Xn)(st:M × Xq)(w:XA)(h:RS w R A ws st.1 st.2)(S:Env w)(m:10<=R):
  XE prog 90 #[R] w fun e w' =>
   e=XR (XN #[gW ws st,V Y (bW ws (aP ws [bL] st) cF bE),V Y (bW ws (aP ws [bL,cF] st) bC cL),V Y (bW ws (aP ws [bL,cF,bC] st) bC cL)]) /\
   RS w' R A ws (aP ws [bL,cF,bC,bC] st).1 (aP ws [bL,cF,bC,bC] st).2/\Kept R w w':=by
 have HE:=hide S;go_in;go_wp21;obtain⟨T,f⟩:=h.lt;obtain⟨X,c⟩:∃ X,X=w.alloc (XS #[XK ⟨#[]⟩,V Y 0,V Y 0,V Y 0] 145):=⟨_,rfl⟩;rw[<- c];have i:XD w w X:=by rw[c];exact aS
 have H:X.cell? (w,0)=U (XK ⟨#[]⟩):=by rw[c];simp
 have G:X.cell? (w,1)=U (V Y 0):=by rw[c];simp
 have F:X.cell? (w,2)=U (V Y 0):=by rw[c];simp
 have E:X.cell? (w,3)=U (V Y 0):=by rw[c];simp
 have D:∀ j:M,X.frozen? (w,j)=Xy:=fun j=>by rw[c];simp
 have C:w<X.heap.size:=by rw[c];simp
 clear c;have eX:=(aO HE).later i;refine aK (vk R A ws st.1 st.2 X (h.aD i)) ?_;rintro K ⟨h1,t⟩;have e1:=eX.kept t m;go_wp21;refine aK (Bd R A ws _ _ K h1) ?_;rintro I ⟨h2,q⟩;have e2:=e1.kept q m;go_wp21;refine aK (Bb R A ws _ _ I h2 e2 m) ?_;rintro w3 ⟨W,Q⟩;have a:=(t.trans q).trans Q;have z:=a.cell (b:=w) (o:=0) O H;have y:=a.cell (b:=w) (o:=1) O G;have x:=a.cell (b:=w) (o:=2) O F;have u:=a.cell (b:=w) (o:=3) O E;have yf:∀ j:M,w3.frozen? (w,j)=Xy:=fun j=>(a.frozen O C).trans (D j);have L:=(Kept.aD (R:=R) i).trans a;have H3:=hide W;go_wp2;refine bodyPost_ret (v:=XN #[gW ws st,V Y (bW ws (aP ws [bL] st) cF bE),V Y (bW ws (aP ws [bL,cF] st) bC cL),V Y (bW ws (aP ws [bL,cF,bC] st) bC cL)]) (by simp[results,results90,go_sem,z,y,x,u];exact⟨rfl,rfl,rfl,rfl⟩) rfl ⟨rfl,?_,?_⟩;exact ((((aO H3).other O (fun g=>by have:=f g;omega)).other O (fun g=>by have:=f g;omega)).other O (fun g=>by have:=f g;omega)).other O (fun g=>by have:=f g;omega);exact (((L.aX aJ _).aX aJ _).aX aJ _).aX aJ _
theorem Ww(R A:M)(ws:J Xn)(st:M × Xq)(w:XA)(h:RS w R A ws st.1 st.2)(Q:dN ws.length (aP ws [bL] st).1 (aP ws [bL] st).2=Xy):
  XE prog 94 #[R] w fun e w' =>e=XR (XN #[gW ws st,Xy,V XQ 0,V XQ 0])/\RS w' R A ws (aP ws [bL] st).1 (aP ws [bL] st).2/\Kept R w w':=by
 go_in;go_wp21;obtain⟨S,c⟩:=h.lt;obtain⟨X,a⟩:∃ X,X=w.alloc (XS #[XK ⟨#[]⟩,Xy,V XQ 0,V XQ 0] 163):=⟨_,rfl⟩;rw[<- a];have x:XD w w X:=by rw[a];exact aS
 have K:X.cell? (w,0)=U (XK ⟨#[]⟩):=by rw[a];simp
 have I:X.cell? (w,1)=U ↑Xy:=by rw[a];simp
 have H:X.cell? (w,2)=U (V XQ 0):=by rw[a];simp
 have G:X.cell? (w,3)=U (V XQ 0):=by rw[a];simp
 have F:∀ j:M,X.frozen? (w,j)=Xy:=fun j=>by rw[a];simp
 have E:w<X.heap.size:=by rw[a];simp
 clear a;refine aK (vk R A ws st.1 st.2 X (h.aD x)) ?_;rintro f ⟨T,u⟩;have z1:=u.size;go_wp21;obtain⟨Y,g⟩:∃ Y,Y=f.alloc (XS #[oL ws st.1 st.2,Xy,V XQ 0,V XQ 0] 163):=⟨_,rfl⟩;rw[<- g];have q:XD f f Y:=by rw[g];exact aS
 have v0:Y.cell? (f,0)=U (XK (oL ws st.1 st.2)):=by rw[g];simp
 have v1:Y.cell? (f,1)=U ↑Xy:=by rw[g];simp
 have v2:Y.cell? (f,2)=U (V XQ 0):=by rw[g];simp
 have v3:Y.cell? (f,3)=U (V XQ 0):=by rw[g];simp
 have ys:f<Y.heap.size:=by rw[g];simp
 clear g;have m:=u.trans (Kept.aD (R:=R) q);have D:=m.cell (b:=w) (o:=0) O K;have C:=m.cell (b:=w) (o:=1) O I;have z:=m.cell (b:=w) (o:=2) O H;have y:=m.cell (b:=w) (o:=3) O G;have yf:∀ j:M,Y.frozen? (w,j)=Xy:=fun j=>(m.frozen O E).trans (F j);have t:=T.aD q;refine aK (ke R A ws _ _ Y t) ?_;rintro w2 ⟨n,rfl⟩;have W:Hid (dN ws.length (fP ws st.1 st.2 fun s=>Txt.gP s.data.toList) (fL ws st.1 st.2 fun s=>Txt.gP s.data.toList)=Xy):=Q;rw[W];have L:=(Kept.aD (R:=R) x).trans m;have H1:=hide t;go_wp2;refine bodyPost_ret (v:=XN #[gW ws st,Xy,V XQ 0,V XQ 0]) (by simp[results,results94,go_sem,D,C,z,y];rfl) rfl ⟨rfl,?_,?_⟩
 .exact (((((aO H1).drewN _).other O (fun i=>by have:=c i;omega)).other O (fun i=>by have:=c i;omega)).other O (fun i=>by have:=c i;omega)).other O (fun i=>by have:=c i;omega)
 .exact ((((L.drewN _).aX aJ _).aX aJ _).aX aJ _).aX aJ _
theorem b7W(R A:M)(ws:J Xn)(st:M × Xq)(w:XA)(h:RS w R A ws st.1 st.2)(he:Env w)(Q:10<=R)(L:dN ws.length (aP ws [bL] st).1 (aP ws [bL] st).2=Xz):
  XE prog 94 #[R] w fun e w' =>e=XR (XN #[gW ws st,Xz,V XQ (bW ws (aP ws [bL] st) bC cL),V XQ (bW ws (aP ws [bL,bC] st) bC cL)])/\RS w' R A ws (aP ws [bL,bC,bC] st).1 (aP ws [bL,bC,bC] st).2/\Kept R w w':=by
 have HE:=hide he;clear he;go_in;go_wp21;obtain⟨ac,f⟩:=h.lt;obtain⟨X,t⟩:∃ X,X=w.alloc (XS #[XK ⟨#[]⟩,Xy,V XQ 0,V XQ 0] 163):=⟨_,rfl⟩;rw[<- t];have H:XD w w X:=by rw[t];exact aS
 have x0:X.cell? (w,0)=U (XK ⟨#[]⟩):=by rw[t];simp
 have x1:X.cell? (w,1)=U ↑Xy:=by rw[t];simp
 have x2:X.cell? (w,2)=U (V XQ 0):=by rw[t];simp
 have W:X.cell? (w,3)=U (V XQ 0):=by rw[t];simp
 have T:∀ j:M,X.frozen? (w,j)=Xy:=fun j=>by rw[t];simp
 have xs:w<X.heap.size:=by rw[t];simp
 clear t;have eX:=(aO HE).later H;refine aK (vk R A ws st.1 st.2 X (h.aD H)) ?_;rintro a ⟨h1,K⟩;have z1:=K.size;have e1:=eX.kept K Q;go_wp21;obtain⟨Y,q⟩:∃ Y,Y=a.alloc (XS #[oL ws st.1 st.2,Xy,V XQ 0,V XQ 0] 163):=⟨_,rfl⟩;rw[<- q];have i:XD a a Y:=by rw[q];exact aS
 have G:Y.cell? (a,0)=U (XK (oL ws st.1 st.2)):=by rw[q];simp
 have F:Y.cell? (a,1)=U ↑Xy:=by rw[q];simp
 have v2:Y.cell? (a,2)=U (V XQ 0):=by rw[q];simp
 have E:Y.cell? (a,3)=U (V XQ 0):=by rw[q];simp
 have D:∀ j:M,Y.frozen? (a,j)=Xy:=fun j=>by rw[q];simp
 have ys:a<Y.heap.size:=by rw[q];simp
 clear q;have kY:=K.trans (Kept.aD (R:=R) i);have eY:=e1.later i;have x:=h1.aD i;refine aK (ke R A ws _ _ Y x) ?_;rintro w2 ⟨n,c⟩;have HM:Hid (dN ws.length (fP ws st.1 st.2 fun s=>Txt.gP s.data.toList) (fL ws st.1 st.2 fun s=>Txt.gP s.data.toList)=Xz):=L;rw[HM];have S:=x.drewN n;rw[<- c] at S;have k2:Kept R X w2:=by rw[c];exact kY.drewN n
 have e2:Env w2:=by rw[c];exact eY.drewN n
 have G:w2.cell? (a,0)=U (XK (oL ws st.1 st.2)):=by rw[c];exact G
 have F:w2.cell? (a,1)=U ↑Xy:=by rw[c];exact F
 have v2:w2.cell? (a,2)=U (V XQ 0):=by rw[c];exact v2
 have E:w2.cell? (a,3)=U (V XQ 0):=by rw[c];exact E
 have D:∀ j:M,w2.frozen? (a,j)=Xy:=fun j=>by rw[c];exact D j
 have I:a<w2.heap.size:=by rw[c];exact ys
 have ad:=hide L;clear c x eY kY i ys h1 L;have H2:=hide S;have ae:=hide e2;clear S e2 eX e1;go_wp21;have y:a≠R:=O;have u:=(aO H2).other (b:=a) (o:=1) (v:=XL Xz) y (fun g=>by have:=f g;omega);obtain⟨Z,m⟩:∃ Z,Z=w2.setCell (a,1) Xz:=⟨_,rfl⟩;rw[<- m] at u ⊢;have u0:Z.cell? (a,0)=U (XK (oL ws st.1 st.2)):=by rw[m];exact (bD Xc).trans G
 have u1:Z.cell? (a,1)=U ↑Xz:=by rw[m];exact zm _ _ _ F
 have u2:Z.cell? (a,2)=U (V XQ 0):=by rw[m];exact (bD Xc).trans v2
 have u3:Z.cell? (a,3)=U (V XQ 0):=by rw[m];exact (bD Xc).trans E
 have uf:∀ j:M,Z.frozen? (a,j)=Xy:=fun j=>by rw[m];exact (zF ..).trans (D j)
 have kZ:Kept R X Z:=by rw[m];exact k2.aX O _
 have zs:a<Z.heap.size:=by rw[m];simpa using I
 have eZ:=(aO HE).kept (((Kept.aD (R:=R) H)).trans kZ) Q;clear m G F v2 E D;refine aK (Bb R A ws _ _ Z u eZ Q) ?_;rintro w3 ⟨h3,C⟩;have z:=kZ.trans C;have y0:=z.cell (b:=w) (o:=0) O x0;have y1:=z.cell (b:=w) (o:=1) O x1;have y2:=z.cell (b:=w) (o:=2) O x2;have y3:=z.cell (b:=w) (o:=3) O W;have yf:∀ j:M,w3.frozen? (w,j)=Xy:=fun j=>(z.frozen O xs).trans (T j);have q0:=C.cell (b:=a) (o:=0) y u0;have q1:=C.cell (b:=a) (o:=1) y u1;have q2:=C.cell (b:=a) (o:=2) y u2;have q3:=C.cell (b:=a) (o:=3) y u3;have qf:∀ j:M,w3.frozen? (a,j)=Xy:=fun j=>(C.frozen y zs).trans (uf j);have kt:=(Kept.aD (R:=R) H).trans z;have H3:=hide h3;have ab:w≠a.heap.size:=O;have aa:a≠w.heap.size:=O;clear h3 u eZ x0 x1 x2 W T u0 u1 u2 u3 uf;go_wp2;refine bodyPost_ret (v:=XN #[gW ws st,Xz,V XQ (bW ws (aP ws [bL] st) bC cL),V XQ (bW ws (aP ws [bL,bC] st) bC cL)]) (by simp[results,results94,go_sem,y0,y1,y2,y3];exact⟨rfl,rfl,rfl⟩) rfl ⟨rfl,?_,?_⟩;exact ((((((aO H3).other O (fun g=>by have:=f g;omega)).other O (fun g=>by have:=f g;omega)).other O (fun g=>by have:=f g;omega)).other O (fun g=>by have:=f g;omega)).other O (fun g=>by have:=f g;omega)).other O (fun g=>by have:=f g;omega);exact (((((kt.aX O _).aX O _).aX aJ _).aX aJ _).aX aJ _).aX aJ _
theorem b7L(f:XC)(R A:M)(ws:J Xn)(nx:M)(wr:Xq)(w:XA)(h:RS w R A ws nx wr)(hm:dN ws.length nx wr=Xy):XE prog 178 #[R,f] w fun e w'=>e=XR (gD [])/\RS w' R A ws nx Xz/\Kept R w w':=by
 go_in;go_wp21;obtain⟨X,t⟩:∃ X,X=(w.alloc (XS #[Xy,Xy,Xy,Xy,Xy,Xy,Xy] 153)).alloc (XS #[Xy,Xy,Xy,Xy,Xy,Xy,Xy] 153):=⟨_,rfl⟩;rw[<- t];let⟨hRl,hAl⟩:=h.lt;have u:XD w w X:=by rw[t];exact aS.alloc Xc _
 have hZ:w+2=X.heap.size:=by rw[t];simp
 have i:DS X w []:=by rw[t];refine⟨?_,?_,?_,?_,?_,?_,?_,fun j=>?_⟩ <;> simp[aI]
 have m:DS X (w.heap.size+1) []:=by rw[t];refine⟨?_,?_,?_,?_,?_,?_,?_,fun j=>?_⟩ <;> simp[aI]
 clear t;refine aK (ke R A ws nx wr X (h.aD u)) ?_;rintro w1 ⟨n,q⟩;have x:RS w1 R A ws nx wr:=by rw[q];exact (h.aD u).drewN n
 have H:Kept R w w1:=by rw[q];exact (Kept.aD u).drewN n
 have a:DS w1 w []:=by rw[q];exact⟨i.c0,i.c1,i.c2,i.c3,i.c4,i.c5,i.c6,i.f⟩
 have c:DS w1 (w.heap.size+1) []:=by rw[q];exact⟨m.c0,m.c1,m.c2,m.c3,m.c4,m.c5,m.c6,m.f⟩
 have I:X=w1.heap.size:=by rw[q];rfl
 have c2:=x.c2;have f2:=x.f2;clear q i m;have q0:=c.c0;have W:=c.c1;have T:=c.c2;have S:=c.c3;have Q:=c.c4;have L:=c.c5;have K:=c.c6;have G:=a.c0;have F:=a.c1;have E:=a.c2;have D:=a.c3;have C:=a.c4;have z:=a.c5;have y:=a.c6;have fR:=a.f;have fD:=c.f;have n1:R≠w:=O;have n2:R≠w+1:=O;go_wp2;refine bodyPost_ret (v:=gD []) (by simp[results,results178,go_sem,gD,aI,G,F,E,D,C,z,y]) rfl ⟨rfl,?_,?_⟩;exact (((((((x.bad.other O (fun g=>by have:=hAl g;omega)).other O (fun g=>by have:=hAl g;omega)).other O (fun g=>by have:=hAl g;omega)).other O (fun g=>by have:=hAl g;omega)).other O (fun g=>by have:=hAl g;omega)).other O (fun g=>by have:=hAl g;omega)).other O (fun g=>by have:=hAl g;omega));exact (((((((H.setCell _ _).aX aJ _).aX aJ _).aX aJ _).aX aJ _).aX aJ _).aX aJ _).aX aJ _
theorem Uu{acc0:J N}(acc:J N)(h:DS w b acc0):DS (((((((w.setCell (b,0) (aI acc 0)).setCell (b,1) (aI acc 1)).setCell (b,2) (aI acc 2)).setCell (b,3) (aI acc 3)).setCell (b,4) (aI acc 4)).setCell (b,5) (aI acc 5)).setCell (b,6) (aI acc 6)) b acc:=by
 have s:∀ (x:XA) (o:M) (v u:XC),x.cell? (b,o)=U u->(x.setCell (b,o) v).cell? (b,o)=U v:=fun x o v u a=>zm x (b,o) v a;have o:∀ (x:XA) (i j:M) (v:XC),i≠j->(x.setCell (b,i) v).cell? (b,j)=x.cell? (b,j):=fun x i j v _=>bD Xc;refine⟨?_,?_,?_,?_,?_,?_,?_,fun j=>?_⟩
 .rw[o _ 6 0 _ Xd,o _ 5 0 _ Xd,o _ 4 0 _ Xd,o _ 3 0 _ Xd,o _ 2 0 _ Xd,o _ 1 0 _ Xd];refine s _ _ _ (aI acc0 0) ?_;exact h.c0
 .rw[o _ 6 1 _ Xd,o _ 5 1 _ Xd,o _ 4 1 _ Xd,o _ 3 1 _ Xd,o _ 2 1 _ Xd];refine s _ _ _ (aI acc0 1) ?_;rw[o _ 0 1 _ Xd];exact h.c1
 .rw[o _ 6 2 _ Xd,o _ 5 2 _ Xd,o _ 4 2 _ Xd,o _ 3 2 _ Xd];refine s _ _ _ (aI acc0 2) ?_;rw[o _ 1 2 _ Xd,o _ 0 2 _ Xd];exact h.c2
 .rw[o _ 6 3 _ Xd,o _ 5 3 _ Xd,o _ 4 3 _ Xd];refine s _ _ _ (aI acc0 3) ?_;rw[o _ 2 3 _ Xd,o _ 1 3 _ Xd,o _ 0 3 _ Xd];exact h.c3
 .rw[o _ 6 4 _ Xd,o _ 5 4 _ Xd];refine s _ _ _ (aI acc0 4) ?_;rw[o _ 3 4 _ Xd,o _ 2 4 _ Xd,o _ 1 4 _ Xd,o _ 0 4 _ Xd];exact h.c4
 .rw[o _ 6 5 _ Xd];refine s _ _ _ (aI acc0 5) ?_;rw[o _ 4 5 _ Xd,o _ 3 5 _ Xd,o _ 2 5 _ Xd,o _ 1 5 _ Xd,o _ 0 5 _ Xd];exact h.c5
 .refine s _ _ _ (aI acc0 6) ?_;rw[o _ 5 6 _ Xd,o _ 4 6 _ Xd,o _ 3 6 _ Xd,o _ 2 6 _ Xd,o _ 1 6 _ Xd,o _ 0 6 _ Xd];exact h.c6
 .simp only[World.frozen?_setCell];exact h.f j
def M7(b:Xq)(s:Xn)(e:Ending):Prop:=∃ acc,e=XR (gD acc)/\(b=Xz->Txt.je s=U acc)
theorem SC(w:XA)(b:M)(t q v2 m i f a:Xq)(c o:M)(h:c≠b):(((((((w.setCell (b,0) t).setCell (b,1) q).setCell (b,2) v2).setCell (b,3) m).setCell (b,4) i).setCell (b,5) f).setCell (b,6) a).cell? (c,o)=w.cell? (c,o):=by have g:∀ (x:XA) (j:M) (v:XC),(x.setCell (b,j) v).cell? (c,o)=x.cell? (c,o):=fun x j v=>World.cell?_setCell_far x (b,j) (c,o) v (Ne.symm h);rw[g,g,g,g,g,g,g]
theorem b4s(b:Xq)(R A:M)(ws:J Xn)(nx:M)(wr:Xq)(w:XA)(h:RS w R A ws nx wr)(he:Env w)(hm:dN ws.length nx wr=Xz)(G:nx<ws.length)(hb:Txt.fF ws[nx]=b):XE prog 178 #[R,.func (.func 179) #[] #[]] w fun e w'=>M7 b ws[nx] e/\RS w' R A ws (if b then nx+1 else nx) (if b then wr else Xz)/\Kept R w w':=by
 have hi:(nx:N)<(ws.length:N):=O;have af:(0:N)<=(nx:N):=Int.natCast_nonneg _;have aa:ws[nx].size<=160:=h.short _ (zg G);have ac:=hide aa;have HE:=hide he;clear aa he;go_in;go_wp21;obtain⟨X,T⟩:∃ X,X=(w.alloc (XS #[Xy,Xy,Xy,Xy,Xy,Xy,Xy] 153)).alloc (XS #[Xy,Xy,Xy,Xy,Xy,Xy,Xy] 153):=⟨_,rfl⟩;rw[<- T];obtain⟨ag,a⟩:=h.lt;have hB:XD w w X:=by rw[T];exact aS.alloc Xc _
 have hZ:w+2=X.heap.size:=by rw[T];simp
 have E:DS X w []:=by rw[T];refine⟨?_,?_,?_,?_,?_,?_,?_,fun j=>?_⟩ <;> simp[aI]
 have F:DS X (w.heap.size+1) []:=by rw[T];refine⟨?_,?_,?_,?_,?_,?_,?_,fun j=>?_⟩ <;> simp[aI]
 clear T;refine aK (ke R A ws nx wr X (h.aD hB)) ?_;rintro w1 ⟨n,Q⟩;have D:RS w1 R A ws nx wr:=by rw[Q];exact (h.aD hB).drewN n
 have k1:Kept R w w1:=by rw[Q];exact (Kept.aD hB).drewN n
 have I:DS w1 w []:=by rw[Q];exact⟨E.c0,E.c1,E.c2,E.c3,E.c4,E.c5,E.c6,E.f⟩
 have K:DS w1 (w.heap.size+1) []:=by rw[Q];exact⟨F.c0,F.c1,F.c2,F.c3,F.c4,F.c5,F.c6,F.f⟩
 have z1:X=w1.heap.size:=by rw[Q];rfl
 have ad:Hid (Env w1):=by show Env w1;rw[Q];exact ((aO HE).later hB).drewN n
 have c0:=D.c0;have c1:=D.c1;have cr:=D.rows nx G;have c:=D.len;clear Q;go_wp21;have ab:w1≠R:=by have:=D.lt.1;omega
 have ae:w1≠A:=by have:=D.lt.2 O;omega
 go_region_held3 (fun w'=>w'.cell? (R,0)=U (XJ A ws.length ws.length)/\w'.cell? (R,1)=U (XH Y nx)/\w'.cell? (A,nx)=U (XK ws[nx]))
  (first
   |go_keep
   |(
    go_split_ands;refine⟨?_,?_,?_⟩
    .exact cell_later g Xe
    .exact cell_later g Xe
    .exact cell_later g Xe)
   |(
    refine⟨?_,?_,?_⟩
    .exact cell_later aS (cell_later g c0)
    .exact cell_later aS (cell_later g c1)
    .exact cell_later aS (cell_later g cr))
   |(
    refine⟨?_,?_,?_⟩
    .exact (kq _ _ ab.symm).trans (cell_later g (cell_later aS c0))
    .exact (kq _ _ ab.symm).trans (cell_later g (cell_later aS c1))
    .exact (kq _ _ ae.symm).trans (cell_later g (cell_later aS cr))))
  ((go_at_call 179;first
   |(
    refine (LN _ _ ?_ (aO ac)).mono ?_
    .exact (aO ad).later ⟨rfl,rfl,rfl,XT _,fun _ _=>rfl⟩
    rintro e w4 ⟨⟨acc,rfl,t⟩,g⟩;simp only[gD])
   |(
    refine (LN _ _ ?_ (aO ac)).mono ?_
    .exact ((aO ad).later aS).later ⟨rfl,rfl,rfl,XT _,fun _ _=>rfl⟩
    rintro e w4 ⟨⟨acc,rfl,t⟩,g⟩;have H:DS w4 w1 []:=DS.later (by refine⟨?_,?_,?_,?_,?_,?_,?_,fun j=>?_⟩ <;> simp[aI]) g;have t0:=H.c0;have t1:=H.c1;have t2:=H.c2;have t3:=H.c3;have t4:=H.c4;have t5:=H.c5;have t6:=H.c6;have tf:=H.f;have kq:=SC w4 w1 (aI acc 0) (aI acc 1) (aI acc 2) (aI acc 3) (aI acc 4) (aI acc 5) (aI acc 6);clear H;simp only[gD])))
 .obtain⟨Z,x⟩:∃ Z,Z=w4.alloc (XS #[aI acc 0,aI acc 1,aI acc 2,aI acc 3,aI acc 4,aI acc 5,aI acc 6] 153):=⟨_,rfl⟩;rw[<- x];have q:XD w1 w1 w4:=⟨g.os,g.tape,g.output,g.size,g.block⟩;have m:XD w1 w1 Z:=by rw[x];exact q.trans (fJ.alloc q.size _)
  have y:DS Z w4 acc:=by rw[x];refine⟨?_,?_,?_,?_,?_,?_,?_,fun j=>?_⟩ <;> simp
  have S:w+1<w4.heap.size:=by have:=q.size;omega
  have i:=D.aD m;have kZ:=k1.trans (Kept.aD (R:=R) m);have u:=I.later m;have zD:=K.later m;obtain⟨V,hV⟩:∃ V,V=w4:=⟨_,rfl⟩;rw[<- hV] at S y ⊢;clear x q m g hV I K E F;rw[hb] at t;have C:=hide t;clear c0 c1 cr t D k1 h;have x1:=i.c1;have x2:=i.c2;have x3:=i.f1;have x4:=i.f2;have q0:=zD.c0;have q1:=zD.c1;have q2:=zD.c2;have q3:=zD.c3;have q4:=zD.c4;have q5:=zD.c5;have q6:=zD.c6;have r0:=u.c0;have r1:=u.c1;have r2:=u.c2;have r3:=u.c3;have r4:=u.c4;have r5:=u.c5;have W:=u.c6;have fR:=u.f;have s0:=y.c0;have s1:=y.c1;have s2:=y.c2;have s3:=y.c3;have s4:=y.c4;have s5:=y.c5;have s6:=y.c6;have n1:R≠w:=O;have n2:R≠w+1:=O;have n3:R≠V:=O;have z:=hide i;clear i u zD y
  cases b
  .go_wp2;refine bodyPost_ret (v:=gD []) (by simp[results,results178,go_sem,gD,aI,r0,r1,r2,r3,r4,r5,W]) rfl ⟨⟨[],rfl,fun h=>Xv h Xd⟩,?_,?_⟩
   .exact ((((((((aO z).bad.other O (fun c=>by have:=a c;omega)).other O (fun c=>by have:=a c;omega)).other O (fun c=>by have:=a c;omega)).other O (fun c=>by have:=a c;omega)).other O (fun c=>by have:=a c;omega)).other O (fun c=>by have:=a c;omega)).other O (fun c=>by have:=a c;omega))
   .exact (((((((kZ.setCell _ _).aX aJ _).aX aJ _).aX aJ _).aX aJ _).aX aJ _).aX aJ _).aX aJ _
  .go_wp2;refine bodyPost_ret (v:=gD acc) (by simp[results,results178,go_sem,gD,r0,r1,r2,r3,r4,r5,W]) rfl ⟨⟨acc,rfl,fun _=>aO C trivial⟩,?_,?_⟩
   .exact (((((((((aO z).step G).other O (fun c=>by have:=a c;omega)).other O (fun c=>by have:=a c;omega)).other O (fun c=>by have:=a c;omega)).other O (fun c=>by have:=a c;omega)).other O (fun c=>by have:=a c;omega)).other O (fun c=>by have:=a c;omega)).other O (fun c=>by have:=a c;omega))
   .exact (((((((kZ.setCell _ _).aX aJ _).aX aJ _).aX aJ _).aX aJ _).aX aJ _).aX aJ _).aX aJ _
 .obtain⟨Z,x⟩:∃ Z,Z=((((((w4.setCell (w1,0) (aI acc 0)).setCell (w1,1) (aI acc 1)).setCell (w1,2) (aI acc 2)).setCell (w1,3) (aI acc 3)).setCell (w1,4) (aI acc 4)).setCell (w1,5) (aI acc 5)).setCell (w1,6) (aI acc 6):=⟨_,rfl⟩;rw[<- x];have L:XD w1 (w1.alloc (XS #[Xy,Xy,Xy,Xy,Xy,Xy,Xy] 153)) w4:=⟨g.os,g.tape,g.output,g.size,fun k hk=>g.block k Xh⟩;have q:XD w1 w1 w4:=((zr w1 w1).alloc aJ _).trans L;clear L;have m:XD w1 w1 Z:=by rw[x];exact ((((((q.setCell aJ _).setCell aJ _).setCell aJ _).setCell aJ _).setCell aJ _).setCell aJ _).setCell aJ _
  have y:DS Z w1 acc:=by rw[x];exact Uu acc (acc0:=[]) ⟨t0,t1,t2,t3,t4,t5,t6,tf⟩
  have S:w+1<w1.heap.size:=O;have i:=D.aD m;have kZ:=k1.trans (Kept.aD (R:=R) m);have u:=I.later m;have zD:=K.later m;obtain⟨V,hV⟩:∃ V,V=w1:=⟨_,rfl⟩;rw[<- hV] at S y ⊢;clear x q m g hV I K E F t0 t1 t2 t3 t4 t5 t6 tf kq;rw[hb] at t;have C:=hide t;clear c0 c1 cr t D k1 h;have x1:=i.c1;have x2:=i.c2;have x3:=i.f1;have x4:=i.f2;have q0:=zD.c0;have q1:=zD.c1;have q2:=zD.c2;have q3:=zD.c3;have q4:=zD.c4;have q5:=zD.c5;have q6:=zD.c6;have r0:=u.c0;have r1:=u.c1;have r2:=u.c2;have r3:=u.c3;have r4:=u.c4;have r5:=u.c5;have W:=u.c6;have fR:=u.f;have s0:=y.c0;have s1:=y.c1;have s2:=y.c2;have s3:=y.c3;have s4:=y.c4;have s5:=y.c5;have s6:=y.c6;have n1:R≠w:=O;have n2:R≠w+1:=O;have n3:R≠V:=O;have z:=hide i;clear i u zD y
  cases b
  .go_wp2;refine bodyPost_ret (v:=gD []) (by simp[results,results178,go_sem,gD,aI,r0,r1,r2,r3,r4,r5,W]) rfl ⟨⟨[],rfl,fun h=>Xv h Xd⟩,?_,?_⟩
   .exact ((((((((aO z).bad.other O (fun c=>by have:=a c;omega)).other O (fun c=>by have:=a c;omega)).other O (fun c=>by have:=a c;omega)).other O (fun c=>by have:=a c;omega)).other O (fun c=>by have:=a c;omega)).other O (fun c=>by have:=a c;omega)).other O (fun c=>by have:=a c;omega))
   .exact (((((((kZ.setCell _ _).aX aJ _).aX aJ _).aX aJ _).aX aJ _).aX aJ _).aX aJ _).aX aJ _
  .go_wp2;refine bodyPost_ret (v:=gD acc) (by simp[results,results178,go_sem,gD,r0,r1,r2,r3,r4,r5,W]) rfl ⟨⟨acc,rfl,fun _=>aO C trivial⟩,?_,?_⟩
   .exact (((((((((aO z).step G).other O (fun c=>by have:=a c;omega)).other O (fun c=>by have:=a c;omega)).other O (fun c=>by have:=a c;omega)).other O (fun c=>by have:=a c;omega)).other O (fun c=>by have:=a c;omega)).other O (fun c=>by have:=a c;omega)).other O (fun c=>by have:=a c;omega))
   .exact (((((((kZ.setCell _ _).aX aJ _).aX aJ _).aX aJ _).aX aJ _).aX aJ _).aX aJ _).aX aJ _
theorem b7M(R A:M)(ws:J Xn)(nx:M)(wr:Xq)(w:XA)(h:RS w R A ws nx wr)(i:Env w):XE prog 178 #[R,.func (.func 179) #[] #[]] w fun e w'=>M7 (fQ ws nx wr Txt.fF) (ws.getD nx ByteArray.empty) e/\RS w' R A ws (fP ws nx wr Txt.fF) (fL ws nx wr Txt.fF)/\Kept R w w':=by
 cases c:dN ws.length nx wr
 .have t:=uR (B:=Txt.fF) c;rw[fP,fL,t];refine aK (b7L _ R A ws nx wr w h c) ?_;rintro w' ⟨j,g⟩;exact⟨⟨[],rfl,fun h=>Xv h Xd⟩,j,g⟩
 .have a:=sF c;obtain⟨b,f⟩:∃ b,Txt.fF ws[nx]=b:=⟨_,rfl⟩;have t:=pd (B:=Txt.fF) c a f;rw[fP,fL,t,sA ws nx a];exact b4s b R A ws nx wr w h i c a f
def rv(pc ev:N)(acc:J N)(fr mn mi ti un:N):M->XC
 |0=>V Y pc
 |1=>V Y ev
 |2=>XL (aI acc 0)
 |3=>XL (aI acc 1)
 |4=>XL (aI acc 2)
 |5=>XL (aI acc 3)
 |6=>XL (aI acc 4)
 |7=>XL (aI acc 5)
 |8=>XL (aI acc 6)
 |9=>V Y fr
 |10=>V Y mn
 |11=>V Y mi
 |12=>V Y ti
 |_=>V Y un
structure RL(w:XA)(P:M)(v:M->XC):Prop where
 c:∀ j:M,j<14->w.cell? (P,j)=U (v j)
 f:∀ j:M,w.frozen? (P,j)=Xy
theorem qT{p:M->Prop}(D:p 0)(C:p 1)(z:p 2)(y:p 3)(x:p 4)(u:p 5)(t:p 6)(q:p 7)(m:p 8)(i:p 9)(g:p 10)(f:p 11)(c:p 12)(a:p 13):∀ j:M,j<14->p j
 |0,_=>D
 |1,_=>C
 |2,_=>z
 |3,_=>y
 |4,_=>x
 |5,_=>u
 |6,_=>t
 |7,_=>q
 |8,_=>m
 |9,_=>i
 |10,_=>g
 |11,_=>f
 |12,_=>c
 |13,_=>a
 |n+14,h=>Xv h O
theorem RL.lt(h:RL w P v):P<w:=XW _ (P,0) (h.c 0 O)
theorem RL.set(h:RL w P v)(j:M)(g:j<14)(x:XC):RL (w.setCell (P,j) x) P (fun i=>if i=j then x else v i):=by refine⟨fun i a=>?_,fun i=>(zF ..).trans (h.f i)⟩;by_cases e:i=j;subst e;rw[Xu rfl];exact zm _ (P,i) _ (h.c i a);rw[Xt e];exact (bD Xc).trans (h.c i a)
theorem RL.congr{v':M->XC}(h:RL w P v)(e:∀ j:M,j<14->v j=v' j):RL w P v':=⟨fun j a=>by rw[<- e j a];exact h.c j a,h.f⟩
theorem RL.other{x:XC}(h:RL w P v)(g:b≠P):RL (w.setCell (b,o) x) P v :=⟨fun j a=>(World.cell?_setCell_far w (b,o) (P,j) x g).trans (h.c j a),fun i=>(zF ..).trans (h.f i)⟩
theorem RL.kept(h:RL w P v)(k:Kept R w w')(a:P≠R):RL w' P v :=⟨fun j g=>k.cell a (h.c j g),fun j=>(k.frozen a h.lt).trans (h.f j)⟩
structure lQ(R P:M)(w w':XA):Prop where
 os:w'.os=w.os
 tape:w'.tape=w.tape
 output:w'.output=w.output
 size:w<=w'.heap.size
 block:∀ k,k<w.heap.size->k≠R->k≠P->w'.heap[k]?=w.heap[k]?
theorem Kept.two(P:M)(k:Kept R w w'):lQ R P w w':=⟨k.os,k.tape,k.output,k.size,fun i c a _=>k.block i c a⟩
theorem lQ.trans{a b c:XA}(h:lQ R P a b)(k:lQ R P b c):lQ R P a c :=⟨k.os.trans h.os,k.tape.trans h.tape,k.output.trans h.output,XV h.size k.size,fun i j f g=>(k.block i (zL j h.size) f g).trans (h.block i j f g)⟩
theorem lQ.iy(h:lQ R P w w')(o:M)(v:XC):lQ R P w (w'.setCell (P,o) v) :=⟨(Below.setCell (B:=0) (Below.refl 0 w') (p:=(P,o)) (zN _) v).os.trans h.os,(Below.setCell (B:=0) (Below.refl 0 w') (p:=(P,o)) (zN _) v).tape.trans h.tape,(Below.setCell (B:=0) (Below.refl 0 w') (p:=(P,o)) (zN _) v).output.trans h.output,XV h.size (Below.setCell (B:=0) (Below.refl 0 w') (p:=(P,o)) (zN _) v).size,fun k f c a=>(Below.heap_setCell w' (P,o) v k a).trans (h.block k f c a)⟩
theorem lQ.wW(h:lQ R P w w')(o:M)(v:XC):lQ R P w (w'.setCell (R,o) v) :=⟨(Below.setCell (B:=0) (Below.refl 0 w') (p:=(R,o)) (zN _) v).os.trans h.os,(Below.setCell (B:=0) (Below.refl 0 w') (p:=(R,o)) (zN _) v).tape.trans h.tape,(Below.setCell (B:=0) (Below.refl 0 w') (p:=(R,o)) (zN _) v).output.trans h.output,XV h.size (Below.setCell (B:=0) (Below.refl 0 w') (p:=(R,o)) (zN _) v).size,fun k f a c=>(Below.heap_setCell w' (R,o) v k a).trans (h.block k f a c)⟩
theorem lQ.one{x:XA}(k:Kept R w x)(h:lQ R P x w')(f:w<=P):Kept R w w' :=⟨h.os.trans k.os,h.tape.trans k.tape,h.output.trans k.output,XV k.size h.size,fun i c a=>(h.block i (zL c k.size) a O).trans (k.block i c a)⟩
theorem Env.iW(h:Env w)(k:lQ R P w w')(q:10<=R)(t:10<=P):Env w':=by have g:XD 10 w w':=⟨k.os,k.tape,k.output,k.size,fun i j=>k.block i (zL j h.size) O O⟩;have a:∀ (b o:M) (v:XC),b<10->w.cell? (b,o)=U v->w'.cell? (b,o)=U v:=fun b o v f e=>(g.cell (p:=(b,o)) f).trans e;let⟨m,hm⟩:=h.vO;let⟨c0,c1,c2,c3,c4,c5,c6,c7,c8,c9,c10,c11⟩:=h.jO;refine⟨⟨a _ _ _ O c0,a _ _ _ O c1,a _ _ _ O c2,a _ _ _ O c3,a _ _ _ O c4,a _ _ _ O c5,a _ _ _ O c6,a _ _ _ O c7,a _ _ _ O c8,a _ _ _ O c9,a _ _ _ O c10,a _ _ _ O c11⟩,⟨m,a _ _ _ O hm⟩,?_,XV h.size k.size,a _ _ _ O h.mo,a _ _ _ O h.tu,a _ _ _ O h.we,a _ _ _ O h.th,a _ _ _ O h.fr,a _ _ _ O h.sa,a _ _ _ O h.su⟩;have c:=h.pow;unfold Lib.TabIs World.var? at c ⊢;simp only[xR,Option.bind_some] at c ⊢;rw[g.block 1 O];exact c
def fZ:Xn:=⟨#[100,97,105,108,121]⟩
def fU:Xn:=⟨#[119,101,101,107,108,121]⟩
def gg:Xn:=⟨#[109,111,110,116,104,108,121]⟩
def eU:Xn:=⟨#[116,105,109,101,115]⟩
def fe:Xn:=⟨#[117,110,116,105,108]⟩
def cC:Xn:=⟨#[102,114,111,109]⟩
def cN:Xn:=⟨#[97,116]⟩
def dA:Xn:=⟨#[102,111,114]⟩
def eP(s:Xn):Xq:=gy s 1 99
def dM(s:Xn):Xq:=gy s 1 1048320
def cH(x s:Xn):Xq:=s.toList==x.toList
def gB(st:M × Xq):M × Xq:=(st.1+1,st.2)
inductive qA (ws:Xo Xn) (st:Xr × Xq):Xs->Xs->Xo Xs->Xr × Xq->Prop where
 |daily (h:bS ws st.1 st.2 fZ=Xz):qA ws st 1 (bW ws (gB st) eP bE) [] (aP ws [eP] (gB st))
 |weekly (h1:bS ws st.1 st.2 fZ=Xy) (h:bS ws st.1 st.2 fU=Xz) (acc:Xo Xs) (ha:fQ ws (aP ws [eP] (gB st)).1 (aP ws [eP] (gB st)).2 Txt.fF=Xz->Txt.je (ws.getD (aP ws [eP] (gB st)).1 ByteArray.empty)=Xx acc):qA ws st 2 (bW ws (gB st) eP bE) acc (aP ws [eP,Txt.fF] (gB st))
 |monthly (h1:bS ws st.1 st.2 fZ=Xy) (h2:bS ws st.1 st.2 fU=Xy) (h:bS ws st.1 st.2 gg=Xz):qA ws st 3 (bW ws (gB st) eP bE) [] (aP ws [eP] (gB st))
 |none (h1:bS ws st.1 st.2 fZ=Xy) (h2:bS ws st.1 st.2 fU=Xy) (h:bS ws st.1 st.2 gg=Xy):qA ws st 0 0 [] (st.1,Xz)
theorem Ec{ev:N}(h:RL w P (rv pc ev acc fr mn mi ti un))(x:N):RL (w.setCell (P,0) x) P (rv x ev acc fr mn mi ti un):=(h.set 0 O _).congr (qT rfl rfl rfl rfl rfl rfl rfl rfl rfl rfl rfl rfl rfl rfl)
theorem Ed{ev:N}(h:RL w P (rv pc ev acc fr mn mi ti un))(x:N):RL (w.setCell (P,1) x) P (rv pc x acc fr mn mi ti un):=(h.set 1 O _).congr (qT rfl rfl rfl rfl rfl rfl rfl rfl rfl rfl rfl rfl rfl rfl)
theorem Uk{ev:N}(h:RL w P (rv pc ev acc fr mn mi ti un))(x:N):RL (w.setCell (P,9) x) P (rv pc ev acc x mn mi ti un):=(h.set 9 O _).congr (qT rfl rfl rfl rfl rfl rfl rfl rfl rfl rfl rfl rfl rfl rfl)
theorem UV{ev:N}(h:RL w P (rv pc ev acc fr mn mi ti un))(x:N):RL (w.setCell (P,10) x) P (rv pc ev acc fr x mi ti un):=(h.set 10 O _).congr (qT rfl rfl rfl rfl rfl rfl rfl rfl rfl rfl rfl rfl rfl rfl)
theorem UW{ev:N}(h:RL w P (rv pc ev acc fr mn mi ti un))(x:N):RL (w.setCell (P,11) x) P (rv pc ev acc fr mn x ti un):=(h.set 11 O _).congr (qT rfl rfl rfl rfl rfl rfl rfl rfl rfl rfl rfl rfl rfl rfl)
theorem UX{ev:N}(h:RL w P (rv pc ev acc fr mn mi ti un))(x:N):RL (w.setCell (P,12) x) P (rv pc ev acc fr mn mi x un):=(h.set 12 O _).congr (qT rfl rfl rfl rfl rfl rfl rfl rfl rfl rfl rfl rfl rfl rfl)
theorem UY{ev:N}(h:RL w P (rv pc ev acc fr mn mi ti un))(x:N):RL (w.setCell (P,13) x) P (rv pc ev acc fr mn mi ti x):=(h.set 13 O _).congr (qT rfl rfl rfl rfl rfl rfl rfl rfl rfl rfl rfl rfl rfl rfl)
theorem UZ{ev:N}(h:RL w P (rv pc ev acc fr mn mi ti un))(x:J N):RL (((((((w.setCell (P,2) (aI x 0)).setCell (P,3) (aI x 1)).setCell (P,4) (aI x 2)).setCell (P,5) (aI x 3)).setCell (P,6) (aI x 4)).setCell (P,7) (aI x 5)).setCell (P,8) (aI x 6)) P (rv pc ev x fr mn mi ti un) :=
 (((((((h.set 2 O _).set 3 O _).set 4 O _).set 5 O _).set 6 O _).set 7 O _).set 8 O _).congr (qT rfl rfl rfl rfl rfl rfl rfl rfl rfl rfl rfl rfl rfl rfl)
theorem Wy(R A P:M)(ws:J Xn)(st:M × Xq)(w:XA)(h:RS w R A ws st.1 st.2)(he:Env w)(F:10<=R)(hP:10<=P)(a:P≠R)(g:0<ws.length->P≠A)(hl:RL w P (rv 0 0 [] 0 0 0 0 0)):
  XE prog 136 #[R,P] w fun e w' =>∃ (pc ev:N) (acc:J N) (s:M × Xq),e=XR (XM #[])/\qA ws st pc ev acc s/\RS w' R A ws s.1 s.2/\RL w' P (rv pc ev acc 0 0 0 0 0)/\lQ R P w w':=by
 have HE:=hide he;clear he;go_in;go_wp21;refine aK (kM R A ws st.1 st.2 fZ w h) ?_;rintro w1 ⟨Q,k1⟩;have y:=k1.two P;have l1:=hl.kept k1 a;clear h hl k1
 cases I:bS ws st.1 st.2 fZ
 .rw[I] at Q
  go_wp21;refine aK (kM R A ws st.1 st.2 fU w1 Q) ?_;rintro w2 ⟨L,k2⟩;have x:=y.trans (k2.two P);have H:=l1.kept k2 a;clear Q y l1 k2
  cases W:bS ws st.1 st.2 fU
  .rw[W] at L
   go_wp21;refine aK (kM R A ws st.1 st.2 gg w2 L) ?_;rintro w3 ⟨G,k3⟩;have E:=x.trans (k3.two P);have T:=H.kept k3 a;clear L x H k3
   cases hm:bS ws st.1 st.2 gg
   .rw[hm] at G;have c2:=G.c2;have f2:=G.f2;go_wp2
    go_end0;exact⟨0,0,[],(st.1,Xz),rfl,.none I W hm,G.bad,T.other a.symm,E.wW _ _⟩
   .rw[hm,Xu rfl] at G;have S:=T.c 0 O;have t:=T.f
    go_wp21;have C:=G.other (b:=P) (o:=0) (v:=V Y 3) a g;have z:=Ec T 3;have q:=E.iy 0 (V Y 3);have EZ:=hide ((aO HE).iW q F hP);clear S t G T E;refine aK (Fz R A ws (st.1+1) st.2 _ C) ?_;rintro w5 ⟨K,i⟩;have j:=q.trans (i.two P);have m:=z.kept i a;have E5:=hide ((aO EZ).kept i F);clear C z q i;have p1:=m.c 1 O;have t:=m.f;go_wp2;go_end0;exact⟨3,bW ws (gB st) eP bE,[],aP ws [eP] (gB st),rfl,.monthly I W hm,K.other a g,Ed m _,j.iy _ _⟩
  .rw[W,Xu rfl] at L;have S:=H.c 0 O;have t:=H.f
   go_wp21;have C:=L.other (b:=P) (o:=0) (v:=V Y 2) a g;have z:=Ec H 2;have q:=x.iy 0 (V Y 2);have EZ:=hide ((aO HE).iW q F hP);clear S t L H x;refine aK (Fz R A ws (st.1+1) st.2 _ C) ?_;rintro w5 ⟨K,i⟩;have j:=q.trans (i.two P);have m:=z.kept i a;have E5:=hide ((aO EZ).kept i F);clear C z q i;have p1:=m.c 1 O;have t:=m.f;go_wp21;have h6:=K.other (b:=P) (o:=1) (v:=V Y (gS ws (st.1+1) st.2 (fun s=>gy s 1 99) (fun s=>Txt.dG s.data.toList))) a g;have l6:=Ed m (gS ws (st.1+1) st.2 (fun s=>gy s 1 99) (fun s=>Txt.dG s.data.toList));have k6:=j.iy 1 (V Y (gS ws (st.1+1) st.2 (fun s=>gy s 1 99) (fun s=>Txt.dG s.data.toList)));have E6:=hide ((aO HE).iW k6 F hP);clear p1 t K m j;refine (b7M R A ws _ _ _ h6 (aO E6)).mono ?_;rintro e w7 ⟨⟨acc,rfl,D⟩,h7,k7⟩;have aa:=k6.trans (k7.two P);have u:=l6.kept k7 a;have X:=hide D;clear h6 l6 k6 k7 D;have p2:=u.c 2 O;have p3:=u.c 3 O;have p4:=u.c 4 O;have p5:=u.c 5 O;have p6:=u.c 6 O;have p7:=u.c 7 O;have p8:=u.c 8 O;have t:=u.f;have H7:=hide h7;clear h7;simp only[gD];go_wp2;go_end0;exact⟨2,bW ws (gB st) eP bE,acc,aP ws [eP,Txt.fF] (gB st),rfl,.weekly I W acc (aO X),((((((((aO H7).other a g).other a g).other a g).other a g).other a g).other a g).other a g),UZ u acc,(((((((aa.iy _ _).iy _ _).iy _ _).iy _ _).iy _ _).iy _ _).iy _ _)⟩
 .rw[I,Xu rfl] at Q;have S:=l1.c 0 O;have t:=l1.f
  go_wp21;have C:=Q.other (b:=P) (o:=0) (v:=V Y 1) a g;have z:=Ec l1 1;have q:=y.iy 0 (V Y 1);have EZ:=hide ((aO HE).iW q F hP);clear S t Q l1 y;refine aK (Fz R A ws (st.1+1) st.2 _ C) ?_;rintro w5 ⟨K,i⟩;have j:=q.trans (i.two P);have m:=z.kept i a;have E5:=hide ((aO EZ).kept i F);clear C z q i;have p1:=m.c 1 O;have t:=m.f;go_wp2;go_end0;exact⟨1,bW ws (gB st) eP bE,[],aP ws [eP] (gB st),rfl,.daily I,K.other a g,Ed m _,j.iy _ _⟩
inductive qu (ws:Xo Xn) (st:Xr × Xq):Xs->Xs->Xr × Xq->Prop where
 |times (h:bS ws st.1 st.2 eU=Xz):qu ws st (bW ws (gB st) eP bE) 0 (aP ws [eP] (gB st))
 |til (h1:bS ws st.1 st.2 eU=Xy) (h:bS ws st.1 st.2 fe=Xz):qu ws st 0 (bW ws (gB st) Txt.cU dV) (aP ws [Txt.cU] (gB st))
 |none (h1:bS ws st.1 st.2 eU=Xy) (h:bS ws st.1 st.2 fe=Xy):qu ws st 0 0 (st.1,Xz)
theorem UT(R A P:M)(ws:J Xn)(st:M × Xq)(w:XA)(pc ev:N)(acc:J N)(fr mn mi:N)(h:RS w R A ws st.1 st.2)(T:Env w)(H:10<=R)(a:P≠R)(x:0<ws.length->P≠A)(S:RL w P (rv pc ev acc fr mn mi 0 0)):
  XE prog 141 #[R,P] w fun e w' =>∃ (ti un:N) (s:M × Xq),e=XR (XM #[])/\qu ws st ti un s/\RS w' R A ws s.1 s.2/\RL w' P (rv pc ev acc fr mn mi ti un)/\lQ R P w w':=by
 have W:=hide T;go_in;go_wp21;refine aK (kM R A ws st.1 st.2 eU w h) ?_;rintro F ⟨z,D⟩;have q:=D.two P;have l1:=S.kept D a;have E1:=hide ((aO W).kept D H)
 cases u:bS ws st.1 st.2 eU
 .rw[u] at z
  go_wp21;refine aK (kM R A ws st.1 st.2 fe F z) ?_;rintro K ⟨j,C⟩;have m:=q.trans (C.two P);have G:=l1.kept C a;have X:=hide ((aO E1).kept C H)
  cases y:bS ws st.1 st.2 fe
  .rw[y] at j;have c2:=j.c2;have f2:=j.f2;go_wp2
   go_end0;exact⟨0,0,(st.1,Xz),rfl,.none u y,j.bad,G.other a.symm,m.wW _ _⟩
  .rw[y,Xu rfl] at j
   go_wp21;refine aK (MO R A ws (st.1+1) st.2 K j (aO X)) ?_;rintro I ⟨E,t⟩;have i:=m.trans (t.two P);have g:=G.kept t a;have Q:=g.c 13 O;have L:=g.f;go_wp2;go_end0;exact⟨0,bW ws (gB st) Txt.cU dV,aP ws [Txt.cU] (gB st),rfl,.til u y,E.other a x,UY g _,i.iy _ _⟩
 .rw[u,Xu rfl] at z
  go_wp21;refine aK (Bo 1 99 R A ws (st.1+1) st.2 F z) ?_;rintro I ⟨E,t⟩;have i:=q.trans (t.two P);have g:=l1.kept t a;have Q:=g.c 12 O;have L:=g.f;go_wp2;go_end0;exact⟨bW ws (gB st) eP bE,0,aP ws [eP] (gB st),rfl,.times u,E.other a x,UX g _,i.iy _ _⟩
def oT(ws:J Xn)(s:M × Xq):M × Xq:=aP ws [cH cC,Txt.cU,cH cN,Txt.dZ,cH dA,dM] s
inductive lN (ws:Xo Xn) (st:Xr × Xq):Xs->Xs->Xo Xs->Xs->Xs->Xs->Xs->Xs->Xr × Xq->Prop where
 |mk (pc ev:Xs) (acc:Xo Xs) (s:Xr × Xq) (ti un:Xs) (s':Xr × Xq) (hp:qA ws st pc ev acc s) (he:qu ws (oT ws s) ti un s'):lN ws st pc ev acc (bW ws (aP ws [cH cC] s) Txt.cU dV) (bW ws (aP ws [cH cC,Txt.cU,cH cN] s) Txt.dZ Txt.eA) (bW ws (aP ws [cH cC,Txt.cU,cH cN,Txt.dZ,cH dA] s) dM bE) ti un s'
theorem RL.iW{Q:M}(h:RL w P v)(k:lQ R Q w w')(g:P≠R)(a:P≠Q):RL w' P v :=⟨fun j i=>(zo (w:=w) (k.block P h.lt g a)).trans (h.c j i),fun j=>(Zk (w:=w) (k.block P h.lt g a)).trans (h.f j)⟩
def ki(pc ev:N)(acc:J N)(fr mn mi ti un:N):XC :=XN #[pc,ev,aI acc 0,aI acc 1,aI acc 2,aI acc 3,aI acc 4,aI acc 5,aI acc 6,fr,mn,mi,ti,un]
def GH(ws:J Xn):Prop:=∀ (R A:M)(st:M × Xq)(w:XA),RS w R A ws st.1 st.2->Env w->10<=R ->
  XE prog 92 #[R] w fun e w' =>∃ (pc ev:N) (acc:J N) (fr mn mi ti un:N) (s:M × Xq),e=XR (ki pc ev acc fr mn mi ti un)/\lN ws st pc ev acc fr mn mi ti un s/\RS w' R A ws s.1 s.2/\Kept R w w'
theorem b2P(R A:M)(ws:J Xn)(st:M × Xq)(w:XA)(h:RS w R A ws st.1 st.2)(he:Env w)(z:10<=R):
  XE prog 92 #[R] w fun e w' =>∃ (pc ev:N) (acc:J N) (fr mn mi ti un:N) (s:M × Xq),e=XR (ki pc ev acc fr mn mi ti un)/\lN ws st pc ev acc fr mn mi ti un s/\RS w' R A ws s.1 s.2/\Kept R w w':=by
 have L:=hide he;go_in;go_wp21;obtain⟨bs,ab⟩:=h.lt;obtain⟨X,K⟩:∃ X,X=(w.alloc (XS #[V Y 0,V Y 0,Xy,Xy,Xy,Xy,Xy,Xy,Xy,V Y 0,V Y 0,V Y 0,V Y 0,V Y 0] 155)).alloc (XS #[V Y 0,V Y 0,Xy,Xy,Xy,Xy,Xy,Xy,Xy,V Y 0,V Y 0,V Y 0,V Y 0,V Y 0] 155):=⟨_,rfl⟩;rw[<- K];have hB:XD w w X:=by rw[K];exact aS.alloc Xc _
 have hZ:w+2=X.heap.size:=by rw[K];simp
 have gX:RL X w (rv 0 0 [] 0 0 0 0 0):=by rw[K];refine⟨qT ?_ ?_ ?_ ?_ ?_ ?_ ?_ ?_ ?_ ?_ ?_ ?_ ?_ ?_,fun j=>?_⟩ <;> simp[rv,aI]
 have lX:RL X (w.heap.size+1) (rv 0 0 [] 0 0 0 0 0):=by rw[K];refine⟨qT ?_ ?_ ?_ ?_ ?_ ?_ ?_ ?_ ?_ ?_ ?_ ?_ ?_ ?_,fun j=>?_⟩ <;> simp[rv,aI]
 clear K;have eX:=(aO L).later hB;have bf:=(aO L).size;have kX:=Kept.aD (R:=R) hB;have u:w+1≠R:=O;have y:0<ws.length->w+1≠A:=fun hq=>by have:=ab hq;omega
 have g:w≠R:=O;have m:0<ws.length->w≠A:=fun hq=>by have:=ab hq;omega
 obtain⟨P,hP⟩:∃ P,P=w.heap.size+1:=⟨_,rfl⟩;rw[<- hP] at lX u y ⊢;obtain⟨G,hG⟩:∃ G,G=w.heap.size:=⟨_,rfl⟩;rw[<- hG] at gX g m ⊢;have D:G≠P:=O;have C:w<=P:=O;have t:w<=G:=O;have aa:10<=P:=O;clear hP hG;refine (Wy R A P ws st X (h.aD hB) eX z aa u y lX).mono ?_;rintro e w1 ⟨pc,ev,acc,s,rfl,hp,h1,l1,k1⟩;have g1:=gX.iW k1 g D;have kt:=lQ.one kX k1 C;have E1:=hide ((aO L).kept kt z);have ac:=hide hp;go_wp21;refine aK (Ez R A ws _ _ cC w1 h1) ?_;rintro w2 ⟨a4,k2⟩;have h2:RS w2 R A ws (aP ws [cH cC] s).1 (aP ws [cH cC] s).2:=a4;have l2:=l1.kept k2 u;have g2:=g1.kept k2 g;have ar:=kt.trans k2;have E2:=hide ((aO E1).kept k2 z);go_wp21;refine aK (MO R A ws _ _ w2 h2 (aO E2)) ?_;rintro w3 ⟨az,k3⟩;have h3:RS w3 R A ws (aP ws [cH cC,Txt.cU] s).1 (aP ws [cH cC,Txt.cU] s).2:=az;have l3:=l2.kept k3 u;have g3:=g2.kept k3 g;have aq:=ar.trans k3;have E3:=hide ((aO E2).kept k3 z);have p3:=l3.c 9 O;have bq:=l3.f;have h4:=h3.other (b:=P) (o:=9) (v:=V Y (bW ws (aP ws [cH cC] s) Txt.cU dV)) u y;have l4:=Uk l3 (bW ws (aP ws [cH cC] s) Txt.cU dV);have g4:=g3.other (b:=P) (o:=9) (x:=V Y (bW ws (aP ws [cH cC] s) Txt.cU dV)) D.symm;have S:=aq.aX (b:=P) (o:=9) C (V Y (bW ws (aP ws [cH cC] s) Txt.cU dV));have E4:=hide ((aO L).kept S z);go_wp21;refine aK (Ez R A ws _ _ cN _ h4) ?_;rintro w5 ⟨ay,k5⟩;have h5:RS w5 R A ws (aP ws [cH cC,Txt.cU,cH cN] s).1 (aP ws [cH cC,Txt.cU,cH cN] s).2:=ay;have l5:=l4.kept k5 u;have g5:=g4.kept k5 g;have ao:=S.trans k5;have E5:=hide ((aO E4).kept k5 z);go_wp21;refine aK (b0c R A ws _ _ w5 h5) ?_;rintro w6 ⟨ax,k6⟩;have h6:RS w6 R A ws (aP ws [cH cC,Txt.cU,cH cN,Txt.dZ] s).1 (aP ws [cH cC,Txt.cU,cH cN,Txt.dZ] s).2:=ax;have l6:=l5.kept k6 u;have g6:=g5.kept k6 g;have an:=ao.trans k6;have E6:=hide ((aO E5).kept k6 z);have p6:=l6.c 10 O;have bn:=l6.f;have h7:=h6.other (b:=P) (o:=10) (v:=V Y (bW ws (aP ws [cH cC,Txt.cU,cH cN] s) Txt.dZ Txt.eA)) u y;have l7:=UV l6 (bW ws (aP ws [cH cC,Txt.cU,cH cN] s) Txt.dZ Txt.eA);have g7:=g6.other (b:=P) (o:=10) (x:=V Y (bW ws (aP ws [cH cC,Txt.cU,cH cN] s) Txt.dZ Txt.eA)) D.symm;have Q:=an.aX (b:=P) (o:=10) C (V Y (bW ws (aP ws [cH cC,Txt.cU,cH cN] s) Txt.dZ Txt.eA));have E7:=hide ((aO L).kept Q z);go_wp21;refine aK (Ez R A ws _ _ dA _ h7) ?_;rintro w8 ⟨aw,k8⟩;have h8:RS w8 R A ws (aP ws [cH cC,Txt.cU,cH cN,Txt.dZ,cH dA] s).1 (aP ws [cH cC,Txt.cU,cH cN,Txt.dZ,cH dA] s).2:=aw;have l8:=l7.kept k8 u;have g8:=g7.kept k8 g;have al:=Q.trans k8;have E8:=hide ((aO E7).kept k8 z);go_wp21;refine aK (zf R A ws _ _ w8 h8) ?_;rintro w9 ⟨av,k9⟩;have h9:RS w9 R A ws (aP ws [cH cC,Txt.cU,cH cN,Txt.dZ,cH dA,dM] s).1 (aP ws [cH cC,Txt.cU,cH cN,Txt.dZ,cH dA,dM] s).2:=av;have l9:=l8.kept k9 u;have g9:=g8.kept k9 g;have ak:=al.trans k9;have E9:=hide ((aO E8).kept k9 z);have p9:=l9.c 11 O;have bm:=l9.f;have a7:=h9.other (b:=P) (o:=11) (v:=V Y (bW ws (aP ws [cH cC,Txt.cU,cH cN,Txt.dZ,cH dA] s) dM bE)) u y;have aj:=UW l9 (bW ws (aP ws [cH cC,Txt.cU,cH cN,Txt.dZ,cH dA] s) dM bE);have a8:=g9.other (b:=P) (o:=11) (x:=V Y (bW ws (aP ws [cH cC,Txt.cU,cH cN,Txt.dZ,cH dA] s) dM bE)) D.symm;have E:=ak.aX (b:=P) (o:=11) C (V Y (bW ws (aP ws [cH cC,Txt.cU,cH cN,Txt.dZ,cH dA] s) dM bE));have bc:=hide ((aO L).kept E z);go_wp21;refine (UT R A P ws (oT ws s) _ pc ev acc _ _ _ a7 (aO bc) z u y aj).mono ?_;rintro e a ⟨ti,un,s',rfl,au,a3,i,W⟩;have q:=a8.iW W g D;have T:=lQ.one E W C;have ad:=hide au;obtain⟨fr,I⟩:∃ fr,fr=bW ws (aP ws [cH cC] s) Txt.cU dV:=⟨_,rfl⟩;obtain⟨mn,F⟩:∃ mn,mn=bW ws (aP ws [cH cC,Txt.cU,cH cN] s) Txt.dZ Txt.eA:=⟨_,rfl⟩;obtain⟨mi,H⟩:∃ mi,mi=bW ws (aP ws [cH cC,Txt.cU,cH cN,Txt.dZ,cH dA] s) dM bE:=⟨_,rfl⟩;rw[<- I,<- F,<- H] at i;have a9:Hid (lN ws st pc ev acc fr mn mi ti un s'):=by show lN ws st pc ev acc fr mn mi ti un s';rw[I,F,H];exact .mk pc ev acc s ti un s' ac ad
 clear I F H ac ad;have q0:a.cell? (P,0)=U ↑pc:=i.c 0 O;have q1:a.cell? (P,1)=U ↑ev:=i.c 1 O;have q2:a.cell? (P,2)=U (XL (aI acc 0)):=i.c 2 O;have q3:a.cell? (P,3)=U (XL (aI acc 1)):=i.c 3 O;have q4:a.cell? (P,4)=U (XL (aI acc 2)):=i.c 4 O;have q5:a.cell? (P,5)=U (XL (aI acc 3)):=i.c 5 O;have q6:a.cell? (P,6)=U (XL (aI acc 4)):=i.c 6 O;have q7:a.cell? (P,7)=U (XL (aI acc 5)):=i.c 7 O;have q8:a.cell? (P,8)=U (XL (aI acc 6)):=i.c 8 O;have q9:a.cell? (P,9)=U ↑fr:=i.c 9 O;have bj:a.cell? (P,10)=U ↑mn:=i.c 10 O;have bi:a.cell? (P,11)=U ↑mi:=i.c 11 O;have bh:a.cell? (P,12)=U ↑ti:=i.c 12 O;have bg:a.cell? (P,13)=U ↑un:=i.c 13 O;have r0:a.cell? (G,0)=U (V Y 0):=q.c 0 O;have r1:a.cell? (G,1)=U (V Y 0):=q.c 1 O;have r2:a.cell? (G,2)=U ↑Xy:=q.c 2 O;have r3:a.cell? (G,3)=U ↑Xy:=q.c 3 O;have r4:a.cell? (G,4)=U ↑Xy:=q.c 4 O;have r5:a.cell? (G,5)=U ↑Xy:=q.c 5 O;have r6:a.cell? (G,6)=U ↑Xy:=q.c 6 O;have r7:a.cell? (G,7)=U ↑Xy:=q.c 7 O;have r8:a.cell? (G,8)=U ↑Xy:=q.c 8 O;have r9:a.cell? (G,9)=U (V Y 0):=q.c 9 O;have ai:a.cell? (G,10)=U (V Y 0):=q.c 10 O;have ag:a.cell? (G,11)=U (V Y 0):=q.c 11 O;have af:a.cell? (G,12)=U (V Y 0):=q.c 12 O;have ae:a.cell? (G,13)=U (V Y 0):=q.c 13 O;have rf:=q.f;have ba:=hide a3;go_wp2;refine bodyPost_ret (v:=ki pc ev acc fr mn mi ti un) (by simp[results,results92,go_sem,ki,r0,r1,r2,r3,r4,r5,r6,r7,r8,r9,ai,ag,af,ae]) rfl ⟨pc,ev,acc,fr,mn,mi,ti,un,s',rfl,a9,?_,?_⟩
 .exact (((((((((((((((aO ba).other g m).other g m).other g m).other g m).other g m).other g m).other g m).other g m).other g m).other g m).other g m).other g m).other g m).other g m)
 .exact ((((((((((((((T.aX t _).aX t _).aX t _).aX t _).aX t _).aX t _).aX t _).aX t _).aX t _).aX t _).aX t _).aX t _).aX t _).aX t _)
def iw:Xn:=⟨#[116,104,105,110,103]⟩
def iO:Xn:=⟨#[98,111,111,107]⟩
def iD:Xn:=⟨#[104,111,108,100]⟩
def iE:Xn:=⟨#[119,97,105,116]⟩
def eQ:Xn:=⟨#[115,101,114,105,101,115]⟩
def iU:Xn:=⟨#[99,111,110,102,105,114,109]⟩
def iR:Xn:=⟨#[99,97,110,99,101,108]⟩
def dC:Xn:=⟨#[108,105,115,116]⟩
def iT:Xn:=⟨#[119,97,105,116,105,110,103]⟩
def ir:Xn:=⟨#[112,101,97,107]⟩
def iq:Xn:=⟨#[102,105,110,100]⟩
def fA:Xn:=⟨#[101,120,112,97,110,100]⟩
def iZ:Xn:=⟨#[116,105,99,107]⟩
def iN:Xn:=⟨#[99,108,111,99,107]⟩
def jQ(s:Xn):Xq:=Txt.isNum s.data.toList
inductive jo (ws:Xo Xn):XC->Xr × Xq->Prop where
 |bI (h:bS ws 0 Xy iw=Xz):jo ws (XP 143 (XN #[XK (gW ws (1,Xy)),XH XQ (bW ws (aP ws [bL] (1,Xy)) cF bE)])) (aP ws [bL,cF] (1,Xy))
 |book (h:bS ws 0 Xy iO=Xz):jo ws (XP 148 (XN #[XK (gW ws (1,Xy)),XH XQ (bW ws (aP ws [bL] (1,Xy)) cF bE),XH XQ (bW ws (aP ws [bL,cF] (1,Xy)) bC cL),XH XQ (bW ws (aP ws [bL,cF,bC] (1,Xy)) bC cL)])) (aP ws [bL,cF,bC,bC] (1,Xy))
 |hold (h:bS ws 0 Xy iD=Xz):jo ws (XP 150 (XN #[XK (gW ws (1,Xy)),XH XQ (bW ws (aP ws [bL] (1,Xy)) cF bE),XH XQ (bW ws (aP ws [bL,cF] (1,Xy)) bC cL),XH XQ (bW ws (aP ws [bL,cF,bC] (1,Xy)) bC cL),XH XQ (bW ws (aP ws [bL,cF,bC,bC] (1,Xy)) dM bE)])) (aP ws [bL,cF,bC,bC,dM] (1,Xy))
 |wait (h:bS ws 0 Xy iE=Xz):jo ws (XP 151 (XN #[XK (gW ws (1,Xy)),XH XQ (bW ws (aP ws [bL] (1,Xy)) cF bE),XH XQ (bW ws (aP ws [bL,cF] (1,Xy)) bC cL),XH XQ (bW ws (aP ws [bL,cF,bC] (1,Xy)) bC cL),XH XQ (bW ws (aP ws [bL,cF,bC,bC] (1,Xy)) dM bE)])) (aP ws [bL,cF,bC,bC,dM] (1,Xy))
 |series (h:bS ws 0 Xy eQ=Xz) (pc ev:Xs) (acc:Xo Xs) (fr mn mi ti un:Xs) (s:Xr × Xq) (hr:lN ws (aP ws [bL,cF] (1,Xy)) pc ev acc fr mn mi ti un s):jo ws (XP 158 (XN #[XK (gW ws (1,Xy)),XH XQ (bW ws (aP ws [bL] (1,Xy)) cF bE),XH XQ pc,XH XQ ev,XL (aI acc 0),XL (aI acc 1),XL (aI acc 2),XL (aI acc 3),XL (aI acc 4),XL (aI acc 5),XL (aI acc 6),XH XQ fr,XH XQ mn,XH XQ mi,XH XQ ti,XH XQ un])) s
 |bM (h:bS ws 0 Xy iU=Xz):jo ws (XP 160 (XN #[XH XQ (bW ws (1,Xy) jQ bE)])) (aP ws [jQ] (1,Xy))
 |cancel (h:bS ws 0 Xy iR=Xz):jo ws (XP 161 (XN #[XH XQ (bW ws (1,Xy) jQ bE)])) (aP ws [jQ] (1,Xy))
 |list0 (h:bS ws 0 Xy dC=Xz) (hm:dN ws.length (aP ws [bL] (1,Xy)).1 (aP ws [bL] (1,Xy)).2=Xy):jo ws (XP 163 (XN #[XK (gW ws (1,Xy)),XL Xy,XH XQ 0,XH XQ 0])) (aP ws [bL] (1,Xy))
 |list1 (h:bS ws 0 Xy dC=Xz) (hm:dN ws.length (aP ws [bL] (1,Xy)).1 (aP ws [bL] (1,Xy)).2=Xz):jo ws (XP 163 (XN #[XK (gW ws (1,Xy)),XL Xz,XH XQ (bW ws (aP ws [bL] (1,Xy)) bC cL),XH XQ (bW ws (aP ws [bL,bC] (1,Xy)) bC cL)])) (aP ws [bL,bC,bC] (1,Xy))
 |waiting (h:bS ws 0 Xy iT=Xz):jo ws (XP 166 (XN #[])) (1,Xy)
 |ef (h:bS ws 0 Xy ir=Xz):jo ws (XP 169 (XN #[XK (gW ws (1,Xy)),XH XQ (bW ws (aP ws [bL] (1,Xy)) bC cL),XH XQ (bW ws (aP ws [bL,bC] (1,Xy)) bC cL)])) (aP ws [bL,bC,bC] (1,Xy))
 |find (h:bS ws 0 Xy iq=Xz):jo ws (XP 171 (XN #[XK (gW ws (1,Xy)),XH XQ (bW ws (aP ws [bL] (1,Xy)) cF bE),XH XQ (bW ws (aP ws [bL,cF] (1,Xy)) dM bE),XH XQ (bW ws (aP ws [bL,cF,dM] (1,Xy)) bC cL),XH XQ (bW ws (aP ws [bL,cF,dM,bC] (1,Xy)) bC cL)])) (aP ws [bL,cF,dM,bC,bC] (1,Xy))
 |expand (h:bS ws 0 Xy fA=Xz) (pc ev:Xs) (acc:Xo Xs) (fr mn mi ti un:Xs) (s:Xr × Xq) (hr:lN ws (1,Xy) pc ev acc fr mn mi ti un s):jo ws (XP 173 (XN #[XH XQ pc,XH XQ ev,XL (aI acc 0),XL (aI acc 1),XL (aI acc 2),XL (aI acc 3),XL (aI acc 4),XL (aI acc 5),XL (aI acc 6),XH XQ fr,XH XQ mn,XH XQ mi,XH XQ ti,XH XQ un])) s
 |tick (h:bS ws 0 Xy iZ=Xz):jo ws (XP 175 (XN #[XH XQ (bW ws (1,Xy) dM bE)])) (aP ws [dM] (1,Xy))
 |clock (h:bS ws 0 Xy iN=Xz):jo ws (XP 176 (XN #[])) (1,Xy)
 |none (h0:bS ws 0 Xy iw=Xy) (h1:bS ws 0 Xy iO=Xy) (h2:bS ws 0 Xy iD=Xy) (h3:bS ws 0 Xy iE=Xy) (h4:bS ws 0 Xy eQ=Xy) (h5:bS ws 0 Xy iU=Xy) (h6:bS ws 0 Xy iR=Xy) (h7:bS ws 0 Xy dC=Xy) (h8:bS ws 0 Xy iT=Xy) (h9:bS ws 0 Xy ir=Xy) (h10:bS ws 0 Xy iq=Xy) (h11:bS ws 0 Xy fA=Xy) (h12:bS ws 0 Xy iZ=Xy) (h13:bS ws 0 Xy iN=Xy):jo ws .nilIface (0,Xz)
theorem RI(R A:M)(ws:J Xn)(w:XA)(h:RS w R A ws 0 Xy)(he:Env w)(c:10<=R)(hP:bS ws 0 Xy eQ=Xz\/bS ws 0 Xy fA=Xz->GH ws):
  XE prog 59 #[R] w fun e w' =>∃ (v:XC) (s:M × Xq),e=XR v/\jo ws v s/\RS w' R A ws s.1 s.2/\Kept R w w':=by
 have t:=hide he;have b6:=hide hP;clear he hP;have k0:=Kept.refl R w;have h0:=h;clear h;go_in;go_wp21;refine aK (kM R A ws 0 Xy iw w h0) ?_;rintro w1 ⟨h1,a⟩;have k1:=k0.trans a;clear a k0 h0;rcases Bool.eq_false_or_eq_true (bS ws 0 Xy iw) with aa|aa
 .rw[aa,Xu rfl] at h1;have E1:=hide ((aO t).kept k1 c)
  go_wp21;refine aK (vk R A ws _ _ w1 h1) ?_;rintro cl ⟨bu,a⟩;have bf:=k1.trans a;have ca:=hide ((aO E1).kept a c);clear a k1 h1 E1;go_wp21;refine aK (Bd R A ws _ _ cl bu) ?_;rintro d0 ⟨c8,a⟩;have ct:=bf.trans a;have d9:=hide ((aO ca).kept a c);clear a bf bu ca;have f:=hide ct;have g:=hide c8;go_wp2;go_ret;exact⟨_,(aP ws [bL,cF] (1,Xy)),rfl,.bI aa,g,f⟩
 rw[aa] at h1 ⊢;go_wp21;refine aK (kM R A ws 0 Xy iO w1 h1) ?_;rintro w2 ⟨h2,a⟩;have k2:=k1.trans a;clear a k1 h1;rcases Bool.eq_false_or_eq_true (bS ws 0 Xy iO) with X|X
 .rw[X,Xu rfl] at h2;have E2:=hide ((aO t).kept k2 c)
  go_wp21;refine aK (Fy R A ws (1,Xy) w2 h2 (aO E2) c) ?_;rintro dz ⟨cz,a⟩;have cs:=k2.trans a;have d8:=hide ((aO E2).kept a c);clear a k2 h2 E2;have f:=hide cs;have g:=hide cz;go_wp2;go_ret;exact⟨_,(aP ws [bL,cF,bC,bC] (1,Xy)),rfl,.book X,g,f⟩
 rw[X] at h2 ⊢;go_wp21;refine aK (kM R A ws 0 Xy iD w2 h2) ?_;rintro w3 ⟨h3,a⟩;have k3:=k2.trans a;clear a k2 h2;rcases Bool.eq_false_or_eq_true (bS ws 0 Xy iD) with W|W
 .rw[W,Xu rfl] at h3;have E3:=hide ((aO t).kept k3 c)
  go_wp21;refine aK (Fy R A ws (1,Xy) w3 h3 (aO E3) c) ?_;rintro ck ⟨bs,a⟩;have bc:=k3.trans a;have b9:=hide ((aO E3).kept a c);clear a k3 h3 E3;go_wp21;refine aK (zf R A ws _ _ ck bs) ?_;rintro dy ⟨cy,a⟩;have cr:=bc.trans a;have d7:=hide ((aO b9).kept a c);clear a bc bs b9;have f:=hide cr;have g:=hide cy;go_wp2;go_ret;exact⟨_,(aP ws [bL,cF,bC,bC,dM] (1,Xy)),rfl,.hold W,g,f⟩
 rw[W] at h3 ⊢;go_wp21;refine aK (kM R A ws 0 Xy iE w3 h3) ?_;rintro w4 ⟨h4,a⟩;have k4:=k3.trans a;clear a k3 h3;rcases Bool.eq_false_or_eq_true (bS ws 0 Xy iE) with T|T
 .rw[T,Xu rfl] at h4;have E4:=hide ((aO t).kept k4 c)
  go_wp21;refine aK (Fy R A ws (1,Xy) w4 h4 (aO E4) c) ?_;rintro cj ⟨bq,a⟩;have ba:=k4.trans a;have b8:=hide ((aO E4).kept a c);clear a k4 h4 E4;go_wp21;refine aK (zf R A ws _ _ cj bq) ?_;rintro dw ⟨cx,a⟩;have cq:=ba.trans a;have d6:=hide ((aO b8).kept a c);clear a ba bq b8;have f:=hide cq;have g:=hide cx;go_wp2;go_ret;exact⟨_,(aP ws [bL,cF,bC,bC,dM] (1,Xy)),rfl,.wait T,g,f⟩
 rw[T] at h4 ⊢;go_wp21;refine aK (kM R A ws 0 Xy eQ w4 h4) ?_;rintro w5 ⟨h5,a⟩;have k5:=k4.trans a;clear a k4 h4;rcases Bool.eq_false_or_eq_true (bS ws 0 Xy eQ) with x|x
 .rw[x,Xu rfl] at h5;have E5:=hide ((aO t).kept k5 c)
  go_wp21;refine aK (vk R A ws _ _ w5 h5) ?_;rintro ch ⟨bn,a⟩;have a9:=k5.trans a;have b7:=hide ((aO E5).kept a c);clear a k5 h5 E5;go_wp21;refine aK (Bd R A ws _ _ ch bn) ?_;rintro cg ⟨bm,a⟩;have a8:=a9.trans a;have ar:=hide ((aO b7).kept a c);clear a a9 bn b7;go_wp21;refine (aO b6 (.inl x) R A (aP ws [bL,cF] (1,Xy)) cg bm (aO ar) c).mono ?_;rintro e dv ⟨pc,ev,acc,fr,mn,mi,ti,un,s,rfl,hr,cw,a⟩;have HR:=hide hr;clear hr;simp only[ki];have cp:=a8.trans a;have d5:=hide ((aO ar).kept a c);clear a a8 bm ar;have f:=hide cp;have g:=hide cw;go_wp2;go_ret;exact⟨_,s,rfl,.series x pc ev acc fr mn mi ti un s HR,g,f⟩
 rw[x] at h5 ⊢;go_wp21;refine aK (kM R A ws 0 Xy iU w5 h5) ?_;rintro w6 ⟨h6,a⟩;have k6:=k5.trans a;clear a k5 h5;rcases Bool.eq_false_or_eq_true (bS ws 0 Xy iU) with S|S
 .rw[S,Xu rfl] at h6;have E6:=hide ((aO t).kept k6 c)
  go_wp21;refine aK (JM R A ws _ _ w6 h6) ?_;rintro du ⟨cv,a⟩;have cn:=k6.trans a;have d4:=hide ((aO E6).kept a c);clear a k6 h6 E6;have f:=hide cn;have g:=hide cv;go_wp2;go_ret;exact⟨_,(aP ws [jQ] (1,Xy)),rfl,.bM S,g,f⟩
 rw[S] at h6 ⊢;go_wp21;refine aK (kM R A ws 0 Xy iR w6 h6) ?_;rintro w7 ⟨h7,a⟩;have k7:=k6.trans a;clear a k6 h6;rcases Bool.eq_false_or_eq_true (bS ws 0 Xy iR) with Q|Q
 .rw[Q,Xu rfl] at h7;have E7:=hide ((aO t).kept k7 c)
  go_wp21;refine aK (JM R A ws _ _ w7 h7) ?_;rintro dr ⟨cu,a⟩;have cm:=k7.trans a;have d2:=hide ((aO E7).kept a c);clear a k7 h7 E7;have f:=hide cm;have g:=hide cu;go_wp2;go_ret;exact⟨_,(aP ws [jQ] (1,Xy)),rfl,.cancel Q,g,f⟩
 rw[Q] at h7 ⊢;go_wp21;refine aK (kM R A ws 0 Xy dC w7 h7) ?_;rintro w8 ⟨h8,a⟩;have k8:=k7.trans a;clear a k7 h7;rcases Bool.eq_false_or_eq_true (bS ws 0 Xy dC) with u|u
 .rw[u,Xu rfl] at h8;have E8:=hide ((aO t).kept k8 c)
  cases hm:dN ws.length (aP ws [bL] (1,Xy)).1 (aP ws [bL] (1,Xy)).2
  .go_wp21
   refine aK (Ww R A ws (1,Xy) w8 h8 hm) ?_;rintro wz ⟨hz,kz⟩;have f:=hide (k8.trans kz);have g:=hide hz;have HM:=hide hm;clear hz kz hm k8 h8;go_wp2;go_ret;exact⟨_,(aP ws [bL] (1,Xy)),rfl,.list0 u HM,g,f⟩
  .go_wp21
   refine aK (b7W R A ws (1,Xy) w8 h8 (aO E8) c hm) ?_;rintro wz ⟨hz,kz⟩;have f:=hide (k8.trans kz);have g:=hide hz;have HM:=hide hm;clear hz kz hm k8 h8;go_wp2;go_ret;exact⟨_,(aP ws [bL,bC,bC] (1,Xy)),rfl,.list1 u HM,g,f⟩
 rw[u] at h8 ⊢;go_wp21;refine aK (kM R A ws 0 Xy iT w8 h8) ?_;rintro w9 ⟨h9,a⟩;have k9:=k8.trans a;clear a k8 h8;rcases Bool.eq_false_or_eq_true (bS ws 0 Xy iT) with L|L
 .rw[L,Xu rfl] at h9;have E9:=hide ((aO t).kept k9 c);have f:=hide k9;have g:=hide h9;go_wp2;go_ret;exact⟨_,(1,Xy),rfl,.waiting L,g,f⟩
 rw[L] at h9 ⊢;go_wp21;refine aK (kM R A ws 0 Xy ir w9 h9) ?_;rintro a7 ⟨E,a⟩;have I:=k9.trans a;clear a k9 h9;rcases Bool.eq_false_or_eq_true (bS ws 0 Xy ir) with K|K
 .rw[K,Xu rfl] at E;have cf:=hide ((aO t).kept I c)
  go_wp21;refine aK (vk R A ws _ _ a7 E) ?_;rintro a4 ⟨al,a⟩;have ag:=I.trans a;have ac:=hide ((aO cf).kept a c);clear a I E cf;go_wp21;refine aK (Bb R A ws _ _ a4 al (aO ac) c) ?_;rintro di ⟨b5,a⟩;have bj:=ag.trans a;have dq:=hide ((aO ac).kept a c);clear a ag al ac;have f:=hide bj;have g:=hide b5;go_wp2;go_ret;exact⟨_,(aP ws [bL,bC,bC] (1,Xy)),rfl,.ef K,g,f⟩
 rw[K] at E ⊢;go_wp21;refine aK (kM R A ws 0 Xy iq a7 E) ?_;rintro a3 ⟨D,a⟩;have H:=I.trans a;clear a I E;rcases Bool.eq_false_or_eq_true (bS ws 0 Xy iq) with q|q
 .rw[q,Xu rfl] at D;have cd:=hide ((aO t).kept H c)
  go_wp21;refine aK (vk R A ws _ _ a3 D) ?_;rintro az ⟨ak,a⟩;have af:=H.trans a;have ao:=hide ((aO cd).kept a c);clear a H D cd;go_wp21;refine aK (Bd R A ws _ _ az ak) ?_;rintro ay ⟨aj,a⟩;have ae:=af.trans a;have an:=hide ((aO ao).kept a c);clear a af ak ao;go_wp21;refine aK (zf R A ws _ _ ay aj) ?_;rintro ax ⟨ai,a⟩;have ad:=ae.trans a;have ab:=hide ((aO an).kept a c);clear a ae aj an;go_wp21;refine aK (Bb R A ws _ _ ax ai (aO ab) c) ?_;rintro dh ⟨b4,a⟩;have bi:=ad.trans a;have dp:=hide ((aO ab).kept a c);clear a ad ai ab;have f:=hide bi;have g:=hide b4;go_wp2;go_ret;exact⟨_,(aP ws [bL,cF,dM,bC,bC] (1,Xy)),rfl,.find q,g,f⟩
 rw[q] at D ⊢;go_wp21;refine aK (kM R A ws 0 Xy fA a3 D) ?_;rintro aw ⟨C,a⟩;have G:=H.trans a;clear a H D;rcases Bool.eq_false_or_eq_true (bS ws 0 Xy fA) with i|i
 .rw[i,Xu rfl] at C;have au:=hide ((aO t).kept G c)
  go_wp21;refine (aO b6 (.inr i) R A (1,Xy) aw C (aO au) c).mono ?_;rintro e db ⟨pc,ev,acc,fr,mn,mi,ti,un,s,rfl,hr,bz,a⟩;have HR:=hide hr;clear hr;simp only[ki];have bh:=G.trans a;have dn:=hide ((aO au).kept a c);clear a G C au;have f:=hide bh;have g:=hide bz;go_wp2;go_ret;exact⟨_,s,rfl,.expand i pc ev acc fr mn mi ti un s HR,g,f⟩
 rw[i] at C ⊢;go_wp21;refine aK (kM R A ws 0 Xy iZ aw C) ?_;rintro av ⟨z,a⟩;have F:=G.trans a;clear a G C;rcases Bool.eq_false_or_eq_true (bS ws 0 Xy iZ) with m|m
 .rw[m,Xu rfl] at z;have cc:=hide ((aO t).kept F c)
  go_wp21;refine aK (zf R A ws _ _ av z) ?_;rintro c9 ⟨bv,a⟩;have bg:=F.trans a;have dm:=hide ((aO cc).kept a c);clear a F z cc;have f:=hide bg;have g:=hide bv;go_wp2;go_ret;exact⟨_,(aP ws [dM] (1,Xy)),rfl,.tick m,g,f⟩
 rw[m] at z ⊢;go_wp21;refine aK (kM R A ws 0 Xy iN av z) ?_;rintro d1 ⟨y,a⟩;have aq:=F.trans a;clear a F z;rcases Bool.eq_false_or_eq_true (bS ws 0 Xy iN) with j|j
 .rw[j,Xu rfl] at y;have fa:=hide ((aO t).kept aq c);have f:=hide aq;have g:=hide y;go_wp2;go_ret;exact⟨_,(1,Xy),rfl,.clock j,g,f⟩
 rw[j] at y ⊢;have c2:=y.c2;have f2:=y.f2;go_wp2;go_ret;exact⟨_,(0,Xz),rfl,.none aa X W T x S Q u L K q i m j,y.bad,aq.setCell _ _⟩
theorem xY(s:Xn):∀ x∈Txt.aC s,x.size<=s.size:=by intro x a;unfold Txt.aC at a;simp only[List.mem_map] at a;obtain⟨y,_,rfl⟩:=a;have:(s.extract y.1 y.2).size=min y.2 s.size-y.1:=ByteArray.size_extract ..;omega
inductive pN (s:Xn):Ending->Prop where
 |long (h:160<s.size):pN s (XR (XM #[.nilIface,XH XQ 1,XH XQ 0]))
 |bad (h:s.size<=160) (v:XC) (st:Xr × Xq) (hl:jo (Txt.aC s) v st) (hb:st.2=Xz\/dN (Txt.aC s).length st.1 st.2=Xz):pN s (XR (XM #[.nilIface,XH XQ 2,XH XQ st.1]))
 |rV (h:s.size<=160) (v:XC) (st:Xr × Xq) (hl:jo (Txt.aC s) v st) (h2:st.2=Xy) (hb:dN (Txt.aC s).length st.1 st.2=Xy):pN s (XR (XM #[v,XH XQ 0,XH XQ 0]))
theorem JU(s:Xn):∀ k:M,k<=s.size->(Txt.oA s k).length+(if (Txt.jt s k).size=0 then 0 else 1)<=k
 |0,_=>by have:=Txt.xX s 0;have:=Txt.JY s 0;rw[Xu O];omega
 |k+1,hk=>by
  have ih:=JU s k O;by_cases c:Txt.fI s k=32
  .let⟨h1,h2⟩:=Txt.Lh s k O c;have e:(if (⟨#[]⟩:Xn).size=0 then (0:M) else 1)=0:=Xu rfl;rw[h1,h2,e,Yy]
   by_cases a:(Txt.jt s k).size=0
   .rw[Xu a] at ih ⊢;simp;omega
   .rw[Xt a] at ih ⊢;simp;omega
  .let⟨_,h2⟩:=Txt.JX s k c;rw[h2]
   split at ih <;> split <;> omega
theorem J4(s:Xn):(Txt.aC s).length<=s.size:=by have:=JU s s.size aJ;rw[Txt.Eh,Yy];split <;> rename_i hc <;> simp[hc] at this ⊢ <;> omega
theorem Wt{f g cap:M}{a:J Xn}(h:w.ownsRow f 9 1 (XJ g n cap) n (a.map XK)):g<w/\∀ (i:M)(x:i<a.length),w.cell? (g,i)=U (XK a[i]):=by
 rcases h.2 with ⟨C,_⟩|⟨H,y,q,z,E,m,F,_,D,ht⟩
 .cases C
 .cases z
  have j:g<w:=by
   by_cases j:g<w
   .exact j
   .rw[Array.getElem?_eq_none O] at m;cases m
  refine⟨j,fun i x=>?_⟩;have G:=h.1;have u:(a.map XK).length=a.length:=Xc;have c:q[i]?=U (XK a[i]):=by
   have t:(a.map XK)[i]?=U (XK a[i]):=by simp[x]
   rw[<- ht,List.getElem?_take,Xu O] at t;simpa using t
  simp[Yi,m,c]
theorem Rn(s:Xn)(w:XA)(K:Env w)(Q:bS (Txt.aC s) 0 Xy eQ=Xz\/bS (Txt.aC s) 0 Xy fA=Xz->GH (Txt.aC s)):XE prog 35 #[s] w fun e w'=>pN s e/\XD w w w':=by
 have HE:=hide K;have ab:=K.size;clear K;by_cases C:s.size<=160
 .have H:(s.size:N)<=160:=O
  go_in;go_wp21;refine (Wa s w C).mono ?_;rintro e t ⟨A,rfl,hA,ho,L⟩;obtain⟨aa,j⟩:=Wt ho;have G:=J4 s;have y:=xY s;obtain⟨ws,c⟩:∃ ws,ws=Txt.aC s:=⟨_,rfl⟩;have z:=hide c;rw[<- c] at j G y Q ⊢;have W:=hide Q;clear c ho Q;have E:=hide j;have T:=hide y;clear j y;go_wp21;obtain⟨X,F⟩:∃ X,X=t.alloc (XS #[XJ A ws.length ws.length,V Y 0,Xy] 121):=⟨_,rfl⟩;rw[<- F];have m:XD t t X:=by rw[F];exact aS
  have D:RS X t A ws 0 Xy:=by refine⟨?_,?_,?_,?_,?_,O,fun i hi=>cell_later m (aO E i hi),O,YK _,fun x hx=>XV (aO T x hx) C⟩ <;> (rw[F];simp)
  clear F;have eX:=((aO HE).later L).later m;have u:=L.size;refine (RI t A ws X D eX O (aO W)).mono ?_;rintro e w2 ⟨v,st,rfl,hl,q,k2⟩;have S:=q.c1;have c2:=q.c2;have HL:=hide hl;have a:=(L.trans (m.mono u)).trans (k2.below u (XV u m.size));have I:=q.xS;clear hl eX D m;obtain⟨nx,wr⟩:=st;dsimp only at S c2 q I;have f:dN ws.length nx wr=Xy\/dN ws.length nx wr=Xz:=by cases dN ws.length nx wr <;> simp
  cases wr
  .rcases f with f|f
   .have HM:=hide f
    go_wp21;refine aK (ke t A ws nx Xy w2 q) ?_;rintro w3 ⟨n,h⟩;have g:XD w w w3:=by rw[h];exact⟨a.os,a.tape,a.output,a.size,a.block⟩
    clear h q;rw[f];go_wp2;go_ret3;have c:=z.out;subst c;exact⟨.rV C v (nx,Xy) HL rfl HM,g⟩
   .have HM:=hide f
    go_wp21;refine aK (ke t A ws nx Xy w2 q) ?_;rintro w3 ⟨n,h⟩;have g:XD w w w3:=by rw[h];exact⟨a.os,a.tape,a.output,a.size,a.block⟩
    have d1:w3.cell? (t,1)=U (V Y nx):=by rw[h];exact S
    clear h q S c2;rw[f];go_wp2;go_quiet (fail);go_wp2;go_ret3;have c:=z.out;subst c;exact⟨.bad C v (nx,Xy) HL (.inr HM),⟨g.os,g.tape,g.output,g.size,g.block⟩⟩
  .clear q f;go_wp2
   go_quiet (fail);go_wp2;go_ret3;have c:=z.out;subst c;exact⟨.bad C v (nx,Xz) HL (.inl rfl),⟨a.os,a.tape,a.output,a.size,a.block⟩⟩
 .have H:¬ (s.size:N)<=160:=O
  go_in;go_wp2;go_ret3;exact⟨.long O,Below.refl _ _⟩
theorem J8(s:Xn)(w:XA)(a:Env w):XE prog 35 #[s] w fun e w'=>pN s e/\XD w w w':=Rn s w a (fun _ R A st w h a c=>b2P R A _ st w h a c)
open aA (aQ St eD kept fc ek ec ju dB dI jB eS jq cA Inv)
theorem Env.qH(h:Env w)(g:XD 10 w wx):Env wx:=by obtain⟨m,j⟩:=h.vO;have c:∀ {b:M}{o:M}{v:XC},b<10->w.cell? ⟨b,o,Z⟩=U v->wx.cell? ⟨b,o,Z⟩=U v:=fun f i=>(g.cell (p:=⟨_,_,Z⟩) f).trans i;have ht:=h.jO;let⟨a0,a1,a2,a3,a4,a5,a6,a7,a8,a9,a10,a11⟩:=ht;refine⟨⟨c Xd a0,c Xd a1,c Xd a2,c Xd a3,c Xd a4,c Xd a5,c Xd a6,c Xd a7,c Xd a8,c Xd a9,c Xd a10,c Xd a11⟩,⟨m,c Xd j⟩,?_,XV h.size g.size,c Xd h.mo,c Xd h.tu,c Xd h.we,c Xd h.th,c Xd h.fr,c Xd h.sa,c Xd h.su⟩;have a:=h.pow;unfold Lib.TabIs World.var? at a ⊢;simp only[xR,Option.bind_some] at a ⊢;rw[g.block 1 Xd];exact a
theorem Step.qH{S:bP->Prop}{B:M}{a:M->Xp bP}(h:Step S B aM a w w')(q:10<=B)(m:10<=w.heap.size)(i:∀ b,b<10->aM b=Z):XD 10 w w'/\∀ b,b<10->a b=Z:=by
 let⟨G,h1,h2⟩:=h.off;refine⟨⟨h1.os,h1.tape,h1.output,h1.size,fun b f=>h1.block b O (fun j=>?_)⟩,fun b f=>?_⟩
 .rcases h2 b j with ⟨c,e,_⟩|⟨_,e⟩
  .rw[i b f] at e;cases e
  .omega
 .cases e:a b with
  |none=>rfl
  |some c =>
   rcases h.new b c e with g|g
   .rw[i b f] at g;cases g
   .omega
structure BD(w:XA)(p d:M)(s:St)(r:Raw)(aM:M->Xp bP):Prop where
 pc:w.heap[p]?=U (XS #[d] 67 (0,0))
 pn:aM p=Z
 ds:eH w d s r aM
 env:Env w
 gl:∀ b,b<10->aM b=Z
def oB(w:XA)(p d:M)(aM:M->Xp bP)(q:St × aA.bT)(v:XC)(w':XA):Prop :=∃ (c:Raw) (a:M->Xp bP),BD w' p d q.1 c a/\Step anyS w aM a w w'/\mV w' w a v q.2
def zJ(t:Xn):Prop:=∀ X,Env X->XE prog 35 #[t] X fun e w'=>pN t e/\XD X X w'
theorem QT{s:St}(h:BD w p d s r aM)(t:Xn)(a:XC)(l:aA.ja)(Q:zJ t)(hr:∀ e,pN t e->e=XR (XM #[a,V Y 0,V Y 0]))(u:aA.eS (aA.aY s l).1)(x:aA.Inv (aA.jD s l).1)(y:(aA.aY s l).2.granted.length<=50000)
  (g:∀ X,hI X->10<=X.heap.size->eH X d s r aM->XE prog 62 #[d,a] X fun e w'=>∃ v,e=XR v/\eu X d aM (aA.aY s l) v w'):
  XE prog 24 #[p,t] w fun e w'=>∃ v,e=XR v/\oB w p d aM (aA.jD s l) v w':=by
 have L:XD w w (w.alloc bJ):=aS;have hq:=dH w bJ;have hs:w<(w.alloc bJ).heap.size:=Xc;have RD:=aB (Q (w.alloc bJ) (h.env.later L));have j:=aB (Yd L (Yd (Q7.of hq) (Yd (h.ds.dk.none aJ) hs)));have HH:=aB h;have HR:=aB hr;have HD:Hid (∀ c,XD w w c->XE prog 37 #[d,a] c fun e w'=>∃ v,e=XR v/\eu c d aM (aA.jD s l) v w'):=fun c k=>Tt ⟨h.ds.dk.later k,h.ds.of,h.ds.wl,h.ds.hl,h.ds.inv⟩ a l u y (fun X kX K=>g X (((h.env.later k).later kX).jO) (XV (XV h.env.size k.size) kX.size) K);have HI:=aB x;have f:=(Array.getElem?_eq_some_iff.1 h.pc).1;clear h hr g L hq hs y u x;generalize aA.jD s l=q at *;go_in;go_upto_region 1 with fail;change Code.wp _ _ _ _ (w.alloc bJ);generalize w.alloc bJ=X at *;go_upto_region 2 with (first
  |(go_at_call 35;refine RD.mono ?_;rintro e c ⟨m,D⟩;obtain rfl:=HR _ m))
 have BW:=j.1.trans (D.mono j.1.size);have pc:c.cell? (p,0)=U ↑d:=by have:=(BW.block p f).trans HH.pc;simp[Yi,this]
 have DD:=aB (HD c BW);have QX:Hid (Q7 c w.heap.size/\w<c.heap.size):=⟨j.2.1.later (D.block _ j.2.2.2),Nat.lt_of_lt_of_le j.2.2.2 D.size⟩;clear HD RD HR D m;go_wp21;refine DD.mono ?_;rintro e w2 ⟨v,rfl,ap⟩;obtain⟨S,at_,E,a1,a2,a3,a4,I,H,G,F,c1,c2,W,T,rfl,q7,hf⟩:=ap.up BW aJ QX.2 j.2.2.1 QX.1;have HF:Hid (oB w p d aM q (bU S at_ E (XJ a1 I c1) (XJ a2 H c2) (XJ a3 G W) (XJ a4 F T)) (dE w2 w (V Y S) (V Y at_) (V Y E) (XJ a1 I c1) (XJ a2 H c2) (XJ a3 G W) (XJ a4 F T))):=by obtain⟨r',z,k1,k2,k3,k4,C,k6⟩:=hf (V Y S) (V Y at_) (V Y E) (XJ a1 I c1) (XJ a2 H c2) (XJ a3 G W) (XJ a4 F T);have i:=HH.out;obtain⟨t1,t2⟩:=C.qH i.env.size i.env.size i.gl;exact⟨r',z,⟨(C.cT f i.pn f).trans i.pc,C.dY i.pn f,⟨k1,k2,k3,k4,HI⟩,i.env.qH t1,t2⟩,C,k6⟩
 clear ap hf DD pc;obtain⟨q0,q1,q2,q3,q4,q5,q6,fq⟩:=q7;simp only[bU];go_wp21;exact cV results24 ⟨q0,q1,q2,q3,q4,q5,q6,fq⟩ ⟨_,rfl,HF⟩
theorem Qt{s:St}(h:BD w p d s r aM)(t:Xn)(q at_:N)(F:zJ t)(L:q≠0)(I:∀ e,pN t e->e=XR (XM #[.nilIface,q,at_])):XE prog 24 #[p,t] w fun e w'=>∃ v,e=XR v/\oB w p d aM (s,⟨q,at_,0,[],[],[],[]⟩) v w':=by
 have E:XD w w (w.alloc bJ):=aS;have K:=dH w bJ;have H:w<(w.alloc bJ).heap.size:=Xc;have RD:=aB (F (w.alloc bJ) (h.env.later E));have C:=aB (Yd E (Yd (Q7.of K) (Yd (h.ds.dk.none aJ) H)));have HH:=aB h;have Q:=aB I;have z:p<w:=(Array.getElem?_eq_some_iff.1 h.pc).1;have T:(q != 0)=Xz:=by simpa using L
 clear h I E K H L;go_in;go_upto_region 1 with fail;change Code.wp _ _ _ _ (w.alloc bJ);generalize w.alloc bJ=X at *;go_upto_region 2 with (first
  |(go_at_call 35;refine RD.mono ?_;rintro e u ⟨y,m⟩;obtain rfl:=Q _ y))
 have S:Hid (XD w w u):=C.1.trans (m.mono C.1.size);have W:Hid (Q7 u w):=C.2.1.later (m.block _ C.2.2.2);have HF:Hid (∀ a b c e f g i,oB w p d aM (s,⟨q,at_,0,[],[],[],[]⟩) (bU q at_ 0 () () () ()) (dE u w a b c e f g i)):=fun a b c e f g i=>by have j:=HH.out;have G:=mY u w a b c e f g i;have nq:=j.ds.dk.none (zq w);have st:Step anyS w aM aM w (dE u w a b c e f g i):=(Step.below S).trans ⟨⟨_,G,fun x D=>.inr (by have:x=w:=List.mem_singleton.1 D;subst this;exact⟨nq,XT _⟩)⟩,fun _ _ h=>h,fun _ _ h=>.inl h⟩;let⟨t1,t2⟩:=st.qH j.env.size j.env.size j.gl;exact⟨r,aM,⟨(st.cT z j.pn z).trans j.pc,j.pn,⟨(j.ds.dk.later S).off G (fun x D=>by have:x=w:=List.mem_singleton.1 D;subst this;exact nq),j.ds.of,j.ds.wl,j.ds.hl,j.ds.inv⟩,j.env.qH t1,t2⟩,st,⟨_,_,_,_,[],rfl,rfl,iu.nil _ _ _,eO.nil _ _ _,eO.nil _ _ _,eO.nil _ _ _,(fun b m=>by cases m),fun b m=>by cases m⟩⟩
 clear RD Q m y C;let⟨q0,q1,q2,q3,q4,q5,q6,fq⟩:=W;go_wp21;exact cV results24 ⟨q0,q1,q2,q3,q4,q5,q6,fq⟩ ⟨_,rfl,HF _ _ _ _ _ _ _⟩
theorem oj{T:XG}{fs:Array Field}(c:prog.underlying T=U (.struct fs))(a:XG)(v:XC)(w:XA):(Instr.typeAssert (XP T v) a T Xz).run prog w=.ok (XM #[v,Xz]) w:=by simp[Instr.typeAssert,go_sem,Result.andThen,run_underlying c]
theorem eH.pt{s:aA.St}(h:eH w d s r aM)(o:Obj):eH ((w.alloc bJ).alloc o) d s r aM/\XD w w ((w.alloc bJ).alloc o)/\Q7 ((w.alloc bJ).alloc o) w.heap.size/\aM w=Z/\w<((w.alloc bJ).alloc o).heap.size:=by have a:XD w w ((w.alloc bJ).alloc o):=aS.alloc Xc _;exact⟨⟨h.dk.later a,h.of,h.wl,h.hl,h.inv⟩,a,Q7.of ((Below.heap_alloc _ _ _ Xc).trans (dH w bJ)),h.dk.none aJ,by simp;omega⟩
theorem eu.po{X D:XA}{q:aA.St × aA.bT}{v:XC}(h:eu X d aM q v D)(k:XD w w X/\Q7 X w.heap.size/\aM w=Z/\w<X.heap.size):∃ (i at_ n:N) (C z y x:Xp Addr) (g f c a u t m j:M),v=bU i at_ n (XJ C g u) (XJ z f t) (XJ y c m) (XJ x a j)/\Q7 D w.heap.size/\eu w d aM q v (dE D w i at_ n (XJ C g u) (XJ z f t) (XJ y c m) (XJ x a j)):=by
 let⟨i,at_,n,C,z,y,x,g,f,c,a,u,t,m,j,e,q7,hf⟩:=h.up k.1 aJ k.2.2.2 k.2.2.1 k.2.1;exact⟨i,at_,n,C,z,y,x,g,f,c,a,u,t,m,j,e,q7,hf _ _ _ _ _ _ _⟩
theorem oS(t:XG)(h:t≠143)(a:XG)(v:XC)(w:XA):(Instr.typeAssert (XP t v) a 143 Xz).run prog w=.ok (XM #[XN #[XK ⟨#[]⟩,V Y 0],Xy]) w:=by simp[Instr.typeAssert,go_sem,Result.andThen,run_underlying underlying143,h]
theorem pF(t:XG)(h:t≠148)(a:XG)(v:XC)(w:XA):(Instr.typeAssert (XP t v) a 148 Xz).run prog w=.ok (XM #[XN #[XK ⟨#[]⟩,V Y 0,V Y 0,V Y 0],Xy]) w:=by simp[Instr.typeAssert,go_sem,Result.andThen,run_underlying underlying148,h]
theorem qo(t:XG)(h:t≠150)(a:XG)(v:XC)(w:XA):(Instr.typeAssert (XP t v) a 150 Xz).run prog w=.ok (XM #[XN #[XK ⟨#[]⟩,V Y 0,V Y 0,V Y 0,V Y 0],Xy]) w:=by simp[Instr.typeAssert,go_sem,Result.andThen,run_underlying underlying150,h]
theorem qP(t:XG)(h:t≠151)(a:XG)(v:XC)(w:XA):(Instr.typeAssert (XP t v) a 151 Xz).run prog w=.ok (XM #[XN #[XK ⟨#[]⟩,V Y 0,V Y 0,V Y 0,V Y 0],Xy]) w:=by simp[Instr.typeAssert,go_sem,Result.andThen,run_underlying underlying151,h]
theorem sg(t:XG)(h:t≠158)(a:XG)(v:XC)(w:XA):(Instr.typeAssert (XP t v) a 158 Xz).run prog w=.ok (XM #[XN #[XK ⟨#[]⟩,V Y 0,V Y 0,V Y 0,Xy,Xy,Xy,Xy,Xy,Xy,Xy,V Y 0,V Y 0,V Y 0,V Y 0,V Y 0],Xy]) w:=by simp[Instr.typeAssert,go_sem,Result.andThen,run_underlying underlying158,h]
theorem tc(t:XG)(h:t≠160)(a:XG)(v:XC)(w:XA):(Instr.typeAssert (XP t v) a 160 Xz).run prog w=.ok (XM #[XN #[V Y 0],Xy]) w:=by simp[Instr.typeAssert,go_sem,Result.andThen,run_underlying underlying160,h]
theorem uC(t:XG)(h:t≠161)(a:XG)(v:XC)(w:XA):(Instr.typeAssert (XP t v) a 161 Xz).run prog w=.ok (XM #[XN #[V Y 0],Xy]) w:=by simp[Instr.typeAssert,go_sem,Result.andThen,run_underlying underlying161,h]
theorem vI(t:XG)(h:t≠163)(a:XG)(v:XC)(w:XA):(Instr.typeAssert (XP t v) a 163 Xz).run prog w=.ok (XM #[XN #[XK ⟨#[]⟩,Xy,V Y 0,V Y 0],Xy]) w:=by simp[Instr.typeAssert,go_sem,Result.andThen,run_underlying underlying163,h]
theorem xQ(t:XG)(h:t≠166)(a:XG)(v:XC)(w:XA):(Instr.typeAssert (XP t v) a 166 Xz).run prog w=.ok (XM #[XN #[],Xy]) w:=by simp[Instr.typeAssert,go_sem,Result.andThen,run_underlying underlying166,h]
theorem zV(t:XG)(h:t≠169)(a:XG)(v:XC)(w:XA):(Instr.typeAssert (XP t v) a 169 Xz).run prog w=.ok (XM #[XN #[XK ⟨#[]⟩,V Y 0,V Y 0],Xy]) w:=by simp[Instr.typeAssert,go_sem,Result.andThen,run_underlying underlying169,h]
theorem Cu(t:XG)(h:t≠171)(a:XG)(v:XC)(w:XA):(Instr.typeAssert (XP t v) a 171 Xz).run prog w=.ok (XM #[XN #[XK ⟨#[]⟩,V Y 0,V Y 0,V Y 0,V Y 0],Xy]) w:=by simp[Instr.typeAssert,go_sem,Result.andThen,run_underlying underlying171,h]
theorem IL(t:XG)(h:t≠173)(a:XG)(v:XC)(w:XA):(Instr.typeAssert (XP t v) a 173 Xz).run prog w=.ok (XM #[XN #[V Y 0,V Y 0,Xy,Xy,Xy,Xy,Xy,Xy,Xy,V Y 0,V Y 0,V Y 0,V Y 0,V Y 0],Xy]) w:=by simp[Instr.typeAssert,go_sem,Result.andThen,run_underlying underlying173,h]
theorem Rq(t:XG)(h:t≠175)(a:XG)(v:XC)(w:XA):(Instr.typeAssert (XP t v) a 175 Xz).run prog w=.ok (XM #[XN #[V Y 0],Xy]) w:=by simp[Instr.typeAssert,go_sem,Result.andThen,run_underlying underlying175,h]
theorem b8L{s:St}(h:eH w d s r aM)(id:N)(ae:0<=id/\id<=9999999):XE prog 105 #[d,XN #[id]] w fun e w'=>∃ v,e=XR v/\eu w d aM (aA.aY s (.cancel id)) v w':=by
 obtain⟨hX,ab,aa,_⟩:=qN w (XS #[id] 161);have xi:=bO aa 0 rfl;have i:=aB h;have K:=aB (Yd hX ab);clear h hX ab aa;go_in;go_upto_region 1 with fail;change Code.wp _ _ _ _ ((w.alloc (XS #[id] 161)).alloc bJ);generalize (w.alloc (XS #[id] 161)).alloc bJ=X at K xi ⊢;have t:=i.dk.later K.1;obtain⟨m,f,a1,a2,a3,a4⟩:=t.me;have kk:=yn (n:=id) O O;have a:=(a3.block (w':=X.drew) rfl).look ye underlying87 (Jr X.drew) kk;rw[a4 id] at a;have QX:Hid (Q7 X.drew (w.heap.size+1)):=Q7.of K.2;have BX:Hid (XD w w X.drew):=K.1.drew
 cases H:jb r.eg id with
 |none =>
  rw[H] at a;have c:(Instr.lookup 87 (.map (U m)) id Xy).run prog X.drew=.ok (.pointer Z) X.drew:=a;have HD:Hid (aA.aY s (.cancel id)=(s,aA.bT.error 9)):=by have e:=MR i.of H;simp only[Hid,aA.aY,e]
  clear a a3 a4 H t K;go_big_region;clear c xi a1;go_wp21;refine aK (lu 9 X.drew) fun w1 hb=>?_;have Q:=aB (i.refuse BX QX hb HD);obtain⟨q0,q1,q2,q3,q4,T,S,fq⟩:=Q.1;simp only[bU];go_wp21;exact cV results105 ⟨q0,q1,q2,q3,q4,T,S,fq⟩ ⟨_,rfl,Q.2⟩
 |some b =>
  rw[H] at a;obtain⟨g,C,rfl,rfl⟩:=Eo H;have c:(Instr.lookup 87 (.map (U m)) g.e.id Xy).run prog X.drew=.ok g.eb X.drew:=a;have hf:=Bh i.of t.ni C;have ck:X.drew.cell? (g.eb,1)=U ↑g.e.kind:=(t.en g C).1.k;have hd:=t.later (eN X);have HD:Hid (aA.aY s (.cancel g.e.id)=({ s with es:=kept g.e.id s.es },aA.bT.num 0)):=by simp only[Hid,aA.aY,hf]
  have hQ:w+1<X.drew.heap.size:=XW _ _ QX.q0;have I:aM (w.heap.size+1)=Z:=i.dk.none O;by_cases G:g.e.kind=1
  .have ad:(g.e.kind != 1)=Xy:=by simpa using G
   have LV:=aB (Fh hd i.of i.wl i.bB C (i.hl.qa t.ni C G));have ST:Hid (Step anyS w aM aM w X.drew):=Step.below BX;have Q2:=QX;have q:=hQ;have j:=I;clear a a3 a4 H t K hf G hd C;go_big_region;clear c xi a1;go_wp21;refine LV.mono ?_;rintro e w2 ⟨rfl,r2,ac,z,y,k7,k8,D⟩;have hq:=D.cT q j q;have Q:Hid (eu w d aM (aA.aY s (.cancel g.e.id)) (bU 0 0 0 () () () ()) (dE w2 (w.heap.size+1) (V Y 0) (V Y 0) (V Y 0) () () () ())):=by rw[HD];exact wF z y k7 k8 (ST.trans (D.any ST.size)) O (D.dY j q) 0 0 _ _ _ _ _ _ _
   clear z y k7 k8 D LV;obtain⟨q0,q1,q2,q3,q4,T,S,fq⟩:=Q2.later hq;go_wp21;exact cV results105 ⟨q0,q1,q2,q3,q4,T,S,fq⟩ ⟨_,rfl,Q⟩
  .have ad:(g.e.kind != 1)=Xz:=by simpa using G
   have E:r.hl.length<=1000:=by
    have h1:=i.hl.len;have h2:r.eg.length=s.es.length:=by rw[<- i.of.es];simp
    have h3:=kQ i.bB;omega
   have DR:=aB (fun wx (k:XD X.drew.heap.size X.drew wx)=>Lj (hd.later k) i.hl.1 E g.e.bZ g.e.id ⟨_,i.hl.has C G,rfl,rfl⟩);have c0:X.drew.cell? (g.eb,0)=U ↑g.e.id:=(t.en g C).1.en.c0;have c5:X.drew.cell? (g.eb,5)=U ↑g.e.bZ:=(t.en g C).1.u;have L:=aB (Yd C (Yd G t.ni));clear a a3 a4 H t K hf G hd C E;go_big_region;clear c xi a1;go_upto_region 5 with fail;generalize hW:X.drew=W at *;go_region_held3 (fun w'=>w'.cell? (g.eb,0)=U ↑g.e.id/\w'.cell? (g.eb,5)=U ↑g.e.bZ)
    (first
     |exact⟨c0,c5⟩
     |exact⟨((z.en g L.1).1).en.c0,((z.en g L.1).1).u⟩)
    (first
     |(go_at_call 154;refine aK (DR _ (eN W)) ?_;rintro w4 ⟨x,l',F,k1,k2,k3,k4,z,y⟩))
   have LV:=aB (Fh z (s:=s) ⟨i.of.now,i.of.given,i.of.ts,i.of.es,i.of.th,i.of.tb⟩ i.wl i.bB L.1 (i.hl.goes L.2.2 L.1 L.2.1 k2 k3 k4));have ST:Hid (Step anyS w aM F w w4):=(Step.below BX).trans ((Step.below (eN W)).trans (y.any BX.size));have Q2:Hid (Q7 w4 (w.heap.size+1)):=QX.later (y.cT (b:=w.heap.size+1) hQ I hQ);have q:w+1<w4.heap.size:=XW _ _ Q2.q0;have j:F (w.heap.size+1)=Z:=y.dY I hQ;clear k1 k2 k3 k4 z y DR c0 c5 ck hW;go_wp21;refine LV.mono ?_;rintro e w2 ⟨rfl,r2,ac,z,y,k7,k8,D⟩;have hq:=D.cT q j q;have Q:Hid (eu w d aM (aA.aY s (.cancel g.e.id)) (bU 0 0 0 () () () ()) (dE w2 (w.heap.size+1) (V Y 0) (V Y 0) (V Y 0) () () () ())):=by rw[HD];exact wF z y k7 k8 (ST.trans (D.any ST.size)) O (D.dY j q) 0 0 _ _ _ _ _ _ _
   clear z y k7 k8 D LV;obtain⟨q0,q1,q2,q3,q4,T,S,fq⟩:=Q2.later hq;go_wp21;exact cV results105 ⟨q0,q1,q2,q3,q4,T,S,fq⟩ ⟨_,rfl,Q⟩
end Go.Proofs.YtolaacmheeaadaaGreatDoor
