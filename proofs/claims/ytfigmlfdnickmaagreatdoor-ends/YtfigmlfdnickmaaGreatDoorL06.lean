import Derived.Test.YtfigmlfdnickmaaGreatDoorL05
import Derived.Deep.RegionHeld3
import Derived.Deep.AppendLies
import Derived.Deep.RegionHeld
set_option maxRecDepth 100000
set_option maxHeartbeats 8000000
open Go.Proofs.Tryz
open _root_ renaming ByteArray->XK,List->XL,Option->XM,Bool->XN,Nat->XP,Int->XQ,if_pos->XS,absurd->XT,Int->N,Nat->M,List->J
open Option renaming none->XU,some->XV,none->Z,some->U
open Bool renaming false->XW,true->XX
open Go renaming World->XY,Value->XZ,Calls->X4,TypeId->X6
open Go.RowKit renaming Below->X0
open Go.World renaming block_lt_of_cell?->Yl,frozen?_of_block->ZJ,cell?->YF
open List renaming drop_eq_getElem_cons->ZH,length_append->YZ,length_map->ZE
open Nat renaming le_trans->Yk,zero_le->Zd,le_refl->Yi,lt_of_lt_of_le->Zg
open Go.Value renaming string->Ya,int->X7,slice->X9,bool->Yb,tuple->Yc,agg->Yd,iface->Ye,int->V
open And renaming intro->Yz
open Go.IntKind renaming i64->Yf,i64->Y
open Go.Ending renaming returned->Yg
open Go.Obj renaming cells->Yh
namespace Go.Proofs.YtfigmlfdnickmaaGreatDoor
variable{wr:XN}{s:XK}{fr mi mn pc ti un:XQ}{ws:XL XK}{acc:XL XQ}{l:XL UInt8}{A B P Q R b d k n nx o p:XP}{aN col':XP->XM bH}{v:XP->XZ}{r:Raw}{w w' wx:XY}
open Go.RowKit
def fC(k:M):J UInt8:=match k with|0=>[109,111]|1=>[116,117]|2=>[119,101]|3=>[116,104]|4=>[102,114]|5=>[115,97]|_=>[115,117]
theorem ng(c:k<7)(h:(l==fC k)=XX)(a:∀ j,j<k->(l==fC j)=XW):aB.ek l=k:=by
 have e:=beq_iff_eq.1 h;subst e;rcases (show k=0\/k=1\/k=2\/k=3\/k=4\/k=5\/k=6 by omega) with rfl|rfl|rfl|rfl|rfl|rfl|rfl <;> decide
theorem Ii(a:∀ j,j<7->(l==fC j)=XW):aB.ek l=-1:=by
 have q:=a 0 O;have m:=a 1 O;have i:=a 2 O;have h:=a 3 O;have g:=a 4 O;have f:=a 5 O;have c:=a 6 O;simp only[fC] at q m i h g f c;simp[aB.ek,q,m,i,h,g,f,c]
theorem nj(a:∀ j,j<k->(l==fC j)=XW)(h:(l==fC k)=XW):∀ j,j<k+1->(l==fC j)=XW:=fun j c=>by
 by_cases e:j=k
 .subst e;exact h
 .exact a j O
def nT(s:XK):N:=if 0<=aB.ek s.data.toList then aB.ek s.data.toList else 0
def nB(s:XK):XN:=decide (0<=aB.ek s.data.toList)
theorem Xm(s:XK)(w:XY)(h:Env w):
  X4 prog 246 #[s] w fun e w'=>e=Yg (Yc #[V Y (nT s),nB s])/\w'=w:=by
 have D:=h.mo;have C:=h.tu;have z:=h.we;have y:=h.th;have x:=h.fr;have u:=h.sa;have t:=h.su;have g:=hide (toList_data s);clear h
 go_in
 go_wp2
 go_loop [4,5] (fun _ i=>∃ k:M,k<=7/\i=V Y k/\∀ j,j<k->(s.data.toList==fC j)=XW) (fun _ i=>7-(intOf i).toNat)
 .exact⟨0,O,rfl,fun j q=>XT q O⟩
 .obtain⟨k,E,rfl,m⟩:=hrel;have f:=hide m;clear m;rcases (show k=0\/k=1\/k=2\/k=3\/k=4\/k=5\/k=6\/k=7 by omega) with rfl|rfl|rfl|rfl|rfl|rfl|rfl|rfl
  .cases c:([109,111]==s.toList)
   .have a:Hid ((s.data.toList==fC 0)=XW):=by
     show (s.data.toList==fC 0)=XW;rw[<- aP g,Bool.beq_comm];exact c
    go_wp2
    go_round
    .exact⟨1,O,by go_num,nj (aP f) a⟩
    .simp[intOf]
   .have a:Hid (aB.ek s.data.toList=0):=ng (k:=0) O (by rw[<- aP g,Bool.beq_comm];exact c) (aP f);go_wp2;go_ret2;exact⟨fh (by rw[nT,a];rfl) (by rw[nB,a];rfl),rfl⟩
  .cases c:([116,117]==s.toList)
   .have a:Hid ((s.data.toList==fC 1)=XW):=by
     show (s.data.toList==fC 1)=XW;rw[<- aP g,Bool.beq_comm];exact c
    go_wp2
    go_round
    .exact⟨2,O,by go_num,nj (aP f) a⟩
    .simp[intOf]
   .have a:Hid (aB.ek s.data.toList=1):=ng (k:=1) O (by rw[<- aP g,Bool.beq_comm];exact c) (aP f);go_wp2;go_ret2;exact⟨fh (by rw[nT,a];rfl) (by rw[nB,a];rfl),rfl⟩
  .cases c:([119,101]==s.toList)
   .have a:Hid ((s.data.toList==fC 2)=XW):=by
     show (s.data.toList==fC 2)=XW;rw[<- aP g,Bool.beq_comm];exact c
    go_wp2
    go_round
    .exact⟨3,O,by go_num,nj (aP f) a⟩
    .simp[intOf]
   .have a:Hid (aB.ek s.data.toList=2):=ng (k:=2) O (by rw[<- aP g,Bool.beq_comm];exact c) (aP f);go_wp2;go_ret2;exact⟨fh (by rw[nT,a];rfl) (by rw[nB,a];rfl),rfl⟩
  .cases c:([116,104]==s.toList)
   .have a:Hid ((s.data.toList==fC 3)=XW):=by
     show (s.data.toList==fC 3)=XW;rw[<- aP g,Bool.beq_comm];exact c
    go_wp2
    go_round
    .exact⟨4,O,by go_num,nj (aP f) a⟩
    .simp[intOf]
   .have a:Hid (aB.ek s.data.toList=3):=ng (k:=3) O (by rw[<- aP g,Bool.beq_comm];exact c) (aP f);go_wp2;go_ret2;exact⟨fh (by rw[nT,a];rfl) (by rw[nB,a];rfl),rfl⟩
  .cases c:([102,114]==s.toList)
   .have a:Hid ((s.data.toList==fC 4)=XW):=by
     show (s.data.toList==fC 4)=XW;rw[<- aP g,Bool.beq_comm];exact c
    go_wp2
    go_round
    .exact⟨5,O,by go_num,nj (aP f) a⟩
    .simp[intOf]
   .have a:Hid (aB.ek s.data.toList=4):=ng (k:=4) O (by rw[<- aP g,Bool.beq_comm];exact c) (aP f);go_wp2;go_ret2;exact⟨fh (by rw[nT,a];rfl) (by rw[nB,a];rfl),rfl⟩
  .cases c:([115,97]==s.toList)
   .have a:Hid ((s.data.toList==fC 5)=XW):=by
     show (s.data.toList==fC 5)=XW;rw[<- aP g,Bool.beq_comm];exact c
    go_wp2
    go_round
    .exact⟨6,O,by go_num,nj (aP f) a⟩
    .simp[intOf]
   .have a:Hid (aB.ek s.data.toList=5):=ng (k:=5) O (by rw[<- aP g,Bool.beq_comm];exact c) (aP f);go_wp2;go_ret2;exact⟨fh (by rw[nT,a];rfl) (by rw[nB,a];rfl),rfl⟩
  .cases c:([115,117]==s.toList)
   .have a:Hid ((s.data.toList==fC 6)=XW):=by
     show (s.data.toList==fC 6)=XW;rw[<- aP g,Bool.beq_comm];exact c
    go_wp2
    go_round
    .exact⟨7,O,by go_num,nj (aP f) a⟩
    .simp[intOf]
   .have a:Hid (aB.ek s.data.toList=6):=ng (k:=6) O (by rw[<- aP g,Bool.beq_comm];exact c) (aP f);go_wp2;go_ret2;exact⟨fh (by rw[nT,a];rfl) (by rw[nB,a];rfl),rfl⟩
  .have a:Hid (aB.ek s.data.toList=-1):=Ii (aP f);go_wp2;go_ret2;exact⟨fh (by rw[nT,a];rfl) (by rw[nB,a];rfl),rfl⟩
theorem P5(s:XK)(w:XY):
  X4 prog 190 #[s] w fun e w'=>e=Yg (V Y (aB.ek s.data.toList))/\X0 w w w':=by
 have g:=hide (toList_data s);have h:Hid (∀ o,X0 w w (w.alloc o)):=fun o=>fo.alloc aI o
 go_in
 go_wp2
 go_loop [4] (fun i=>∃ k:M,k<=7/\i=V Y k/\∀ j,j<k->(s.data.toList==fC j)=XW) (fun i=>7-(intOf i).toNat)
 .exact⟨0,O,rfl,fun j q=>XT q O⟩
 .obtain⟨k,t,rfl,m⟩:=hrel;have f:=hide m;clear m;rcases (show k=0\/k=1\/k=2\/k=3\/k=4\/k=5\/k=6\/k=7 by omega) with rfl|rfl|rfl|rfl|rfl|rfl|rfl|rfl
  .cases c:(s.toList==[109,111])
   .have a:Hid ((s.data.toList==fC 0)=XW):=by
     show (s.data.toList==fC 0)=XW;rw[<- aP g];exact c
    go_wp2
    go_round
    .exact⟨1,O,by go_num,nj (aP f) a⟩
    .simp[intOf]
   .have a:Hid (aB.ek s.data.toList=0):=ng (k:=0) O (by rw[<- aP g];exact c) (aP f);go_wp2;go_ret;exact⟨gH (by rw[a]),h _⟩
  .cases c:(s.toList==[116,117])
   .have a:Hid ((s.data.toList==fC 1)=XW):=by
     show (s.data.toList==fC 1)=XW;rw[<- aP g];exact c
    go_wp2
    go_round
    .exact⟨2,O,by go_num,nj (aP f) a⟩
    .simp[intOf]
   .have a:Hid (aB.ek s.data.toList=1):=ng (k:=1) O (by rw[<- aP g];exact c) (aP f);go_wp2;go_ret;exact⟨gH (by rw[a]),h _⟩
  .cases c:(s.toList==[119,101])
   .have a:Hid ((s.data.toList==fC 2)=XW):=by
     show (s.data.toList==fC 2)=XW;rw[<- aP g];exact c
    go_wp2
    go_round
    .exact⟨3,O,by go_num,nj (aP f) a⟩
    .simp[intOf]
   .have a:Hid (aB.ek s.data.toList=2):=ng (k:=2) O (by rw[<- aP g];exact c) (aP f);go_wp2;go_ret;exact⟨gH (by rw[a]),h _⟩
  .cases c:(s.toList==[116,104])
   .have a:Hid ((s.data.toList==fC 3)=XW):=by
     show (s.data.toList==fC 3)=XW;rw[<- aP g];exact c
    go_wp2
    go_round
    .exact⟨4,O,by go_num,nj (aP f) a⟩
    .simp[intOf]
   .have a:Hid (aB.ek s.data.toList=3):=ng (k:=3) O (by rw[<- aP g];exact c) (aP f);go_wp2;go_ret;exact⟨gH (by rw[a]),h _⟩
  .cases c:(s.toList==[102,114])
   .have a:Hid ((s.data.toList==fC 4)=XW):=by
     show (s.data.toList==fC 4)=XW;rw[<- aP g];exact c
    go_wp2
    go_round
    .exact⟨5,O,by go_num,nj (aP f) a⟩
    .simp[intOf]
   .have a:Hid (aB.ek s.data.toList=4):=ng (k:=4) O (by rw[<- aP g];exact c) (aP f);go_wp2;go_ret;exact⟨gH (by rw[a]),h _⟩
  .cases c:(s.toList==[115,97])
   .have a:Hid ((s.data.toList==fC 5)=XW):=by
     show (s.data.toList==fC 5)=XW;rw[<- aP g];exact c
    go_wp2
    go_round
    .exact⟨6,O,by go_num,nj (aP f) a⟩
    .simp[intOf]
   .have a:Hid (aB.ek s.data.toList=5):=ng (k:=5) O (by rw[<- aP g];exact c) (aP f);go_wp2;go_ret;exact⟨gH (by rw[a]),h _⟩
  .cases c:(s.toList==[115,117])
   .have a:Hid ((s.data.toList==fC 6)=XW):=by
     show (s.data.toList==fC 6)=XW;rw[<- aP g];exact c
    go_wp2
    go_round
    .exact⟨7,O,by go_num,nj (aP f) a⟩
    .simp[intOf]
   .have a:Hid (aB.ek s.data.toList=6):=ng (k:=6) O (by rw[<- aP g];exact c) (aP f);go_wp2;go_ret;exact⟨gH (by rw[a]),h _⟩
  .have a:Hid (aB.ek s.data.toList=-1):=Ii (aP f);go_wp2;go_ret;exact⟨gH (by rw[a]),h _⟩
structure DS(w:XY)(b:M)(acc:J N):Prop where
 c0:w.cell? (b,0)=U (Yb (aL acc 0))
 c1:w.cell? (b,1)=U (Yb (aL acc 1))
 c2:w.cell? (b,2)=U (Yb (aL acc 2))
 c3:w.cell? (b,3)=U (Yb (aL acc 3))
 c4:w.cell? (b,4)=U (Yb (aL acc 4))
 c5:w.cell? (b,5)=U (Yb (aL acc 5))
 c6:w.cell? (b,6)=U (Yb (aL acc 6))
 f:∀ j:M,w.frozen? (b,j)=XW
theorem DS.later(h:DS w b acc)(a:X0 w w wx):DS wx b acc :=
 ⟨cell_later a h.c0,cell_later a h.c1,cell_later a h.c2,cell_later a h.c3,cell_later a h.c4,cell_later a h.c5,cell_later a h.c6,fun j=>(a.frozen (p:=(b,j)) (show b<w from Yl _ (b,0) h.c0)).trans (h.f j)⟩
theorem DS.at(h:DS w b acc)(d:N)(c:0<=d)(a:d<7):w.cell? (b,d.toNat)=U (Yb (aL acc d)):=by
 rcases (show d=0\/d=1\/d=2\/d=3\/d=4\/d=5\/d=6 by omega) with rfl|rfl|rfl|rfl|rfl|rfl|rfl
 .exact h.c0
 .exact h.c1
 .exact h.c2
 .exact h.c3
 .exact h.c4
 .exact h.c5
 .exact h.c6
theorem tZ(d:N)(g:0<=d){u:XZ}(a:w.cell? (b,k)=U (Yb (aL acc k)))(_hu:u=Yb XX):(w.setCell (b,d.toNat) XX).cell? (b,k)=U (Yb (aL (d :: acc) k)):=by
 by_cases e:d.toNat=k
 .have f:d=(k:N):=O
  rw[e,World.cell?_setCell_same _ _ _ a];simp[aL,f]
 .rw[World.cell?_setCell_other _ _ _ _ XA,a];have c:(k:N)≠d:=O
  simp[aL,c]
theorem DS.set(h:DS w b acc)(d:N)(a:0<=d):DS (w.setCell (b,d.toNat) XX) b (d :: acc) :=
 ⟨tZ (k:=0) d a h.c0 rfl,tZ (k:=1) d a h.c1 rfl,tZ (k:=2) d a h.c2 rfl,tZ (k:=3) d a h.c3 rfl,tZ (k:=4) d a h.c4 rfl,tZ (k:=5) d a h.c5 rfl,tZ (k:=6) d a h.c6 rfl,fun j=>(zF ..).trans (h.f j)⟩
theorem Cw{a:M}{v:XZ}(h:DS w b acc)(_hne:a≠b):DS (w.setCell (a,o) v) b acc:=by
 have g:∀ j:M,(w.setCell (a,o) v).cell? (b,j)=w.cell? (b,j):=fun j=>aZ XA
 exact⟨(g 0).trans h.c0,(g 1).trans h.c1,(g 2).trans h.c2,(g 3).trans h.c3,(g 4).trans h.c4,(g 5).trans h.c5,(g 6).trans h.c6,fun j=>(zF ..).trans (h.f j)⟩
def fP(acc:J N):XZ:=Yd #[aL acc 0,aL acc 1,aL acc 2,aL acc 3,aL acc 4,aL acc 5,aL acc 6]
def tw(s:XK)(k:M)(acc:J N):Prop :=
 (3*k<s.size/\aB.iX s=aB.je (s.data.toList.drop (3*k)) acc)\/(3*k=s.size+1/\aB.iX s=U acc)
theorem Ht(s:XK)(k:M)(h:s.size % 3=2)(q:3*k<s.size):
  (3*k+2=s.size/\s.data.toList.drop (3*k)=aB.part s (3*k) (3*k+2)/\(aB.part s (3*k) (3*k+2)).length=2) \/
  (3*k+3<s.size/\∃ a b c,s.data.toList.drop (3*k)=a :: b :: c :: s.data.toList.drop (3*(k+1))/\aB.part s (3*k) (3*k+2)=[a,b]/\(c.toNat:N)=aB.eI s (3*k+2)):=by
 have m:=aB.gI s
 have f:aB.part s (3*k) (3*k+2)=(s.data.toList.drop (3*k)).take 2:=by
  unfold aB.part;rw[aB.pZ,List.drop_take];congr 1;omega
 by_cases j:3*k+2=s.size
 .left;have e:(s.data.toList.drop (3*k)).length=2:=by rw[List.length_drop];omega
  refine⟨j,?_,?_⟩
  .rw[f,List.take_of_length_le O]
  .rw[f,List.length_take];omega
 .right;have g:3*k+3<s.size:=O
  refine⟨g,s.data.toList[3*k]'Xz,s.data.toList[3*k+1]'Xz,s.data.toList[3*k+2]'Xz,?_,?_,?_⟩
  .rw[ZH O,ZH (i:=3*k+1) O,ZH (i:=3*k+1+1) O,show 3*k+1+1+1=3*(k+1) from by omega]
  .rw[f,ZH O,ZH (i:=3*k+1) O];rfl
  .unfold aB.eI;rw[List.getD_eq_getElem?_getD,List.getElem?_eq_getElem O];rfl
theorem Pt(s:XK)(h:s.size % 3=2):tw s 0 []:=.inl ⟨O,rfl⟩
theorem Ox(h:tw s k acc)(z:s.size % 3=2)(u:3*k<s.size)(f:aB.ek (aB.part s (3*k) (3*k+2))<0\/aL acc (aB.ek (aB.part s (3*k) (3*k+2)))=XX\/(3*k+2<s.size/\aB.eI s (3*k+2)≠44)):aB.iX s=Z:=by
 rcases h with ⟨_,h⟩|⟨h,_⟩
 .rw[h]
  have g:aB.ek (aB.part s (3*k) (3*k+2))<0\/aL acc (aB.ek (aB.part s (3*k) (3*k+2)))=XX->aB.kM acc (aB.ek (aB.part s (3*k) (3*k+2)))=Z:=fun q=>by
   unfold aB.kM;rw[if_neg];rintro ⟨E,t⟩;rcases q with q|q
   .omega
   .unfold aL at q;rw[q] at t;cases t
  rcases Ht s k z u with ⟨D,m,i⟩|⟨D,a,b,c,m,i,C⟩
  .rw[m];rcases f with f|f|f
   all_goals first|omega|skip
   all_goals
    obtain⟨x,y,j⟩:∃ x y,aB.part s (3*k) (3*k+2)=[x,y]:=by
     match hm:aB.part s (3*k) (3*k+2),i with
     |[x,y],_=>exact⟨x,y,rfl⟩
    have:=g (by first|exact .inl f|exact .inr f);rw[j] at this ⊢;exact this
  .rw[m,aB.je]
   split
   .rename_i hc
    rcases f with f|f|f
    .have:=g (.inl f);rw[i] at this;rw[this];rfl
    .have:=g (.inr f);rw[i] at this;rw[this];rfl
    .subst hc;exfalso;apply f.2;rw[<- C];rfl
   .rfl
 .omega
theorem OT(h:tw s k acc)(u:s.size % 3=2)(q:3*k<s.size)(z:0<=aB.ek (aB.part s (3*k) (3*k+2)))(j:aL acc (aB.ek (aB.part s (3*k) (3*k+2)))=XW)(m:3*k+2<s.size->aB.eI s (3*k+2)=44):tw s (k+1) (aB.ek (aB.part s (3*k) (3*k+2)) :: acc):=by
 have st:aB.kM acc (aB.ek (aB.part s (3*k) (3*k+2)))=U (aB.ek (aB.part s (3*k) (3*k+2)) :: acc):=by
  unfold aB.kM;rw[XS ⟨z,j⟩]
 rcases h with ⟨_,h⟩|⟨h,_⟩
 .rcases Ht s k u q with ⟨D,i,g⟩|⟨D,a,b,c,i,g,C⟩
  .right;refine⟨O,?_⟩;rw[h,i]
   obtain⟨x,y,f⟩:∃ x y,aB.part s (3*k) (3*k+2)=[x,y]:=by
    match j:aB.part s (3*k) (3*k+2),g with
    |[x,y],_=>exact⟨x,y,rfl⟩
   rw[f] at st ⊢;exact st
  .left;refine⟨O,?_⟩
   have t:c=44:=by
    have:=m O;rw[<- C] at this;exact UInt8.toNat_inj.1 (by simpa using (by omega:(c.toNat)=44))
   rw[h,i,aB.je,XS t,<- g,st];rfl
 .omega
theorem Bh(s:XK)(w:XY)(hm:s.size<=160):
  X4 prog 129 #[s] w fun e w'=>(∃ acc,e=Yg (Yc #[fP acc,aB.eJ s])/\(aB.eJ s=XX->aB.iX s=U acc))/\X0 w w w':=by
 by_cases h3:s.size % 3=2
 .have af:(((s.size:N) % 3) != 2)=XW:=oZ O
  go_in
  go_wp2;obtain⟨W,G⟩:∃ W,W=(w.alloc (Yh #[XW,XW,XW,XW,XW,XW,XW] 159)).alloc (Yh #[XW,XW,XW,XW,XW,XW,XW] 159):=⟨_,rfl⟩;rw[<- G];have hB:X0 w w W:=by rw[G];exact bC.alloc XA _
  have hZ:w+2=W.heap.size:=by rw[G];simp
  have dR:DS W w []:=by
   rw[G];refine⟨?_,?_,?_,?_,?_,?_,?_,fun j=>?_⟩ <;> simp[aL]
  have dD:DS W (w.heap.size+1) []:=by
   rw[G];refine⟨?_,?_,?_,?_,?_,?_,?_,fun j=>?_⟩ <;> simp[aL]
  clear G
  go_loopw [5,6] (fun i _ wx=>∃ (k:M) (acc:J N),3*k<=s.size+1/\i=V Y ((3*k:M):N)/\tw s k acc/\DS wx (w.heap.size+1) acc/\DS wx w []/\X0 w w wx/\w+2<=wx.heap.size) (fun i _ _=>s.size+3-(intOf i).toNat)
  .exact⟨0,[],O,rfl,Pt s h3,dD,dR,hB,O⟩
  .obtain⟨k,acc,hk,rfl,D,E,z,C,aa⟩:=hrel
   by_cases ac:3*k<s.size
   .have hd:=aB.zk (aB.part s (3*k) (3*k+2));have ae:=hide D;clear D
    go_wp21
    refine aK (P5 _ _) fun w1 x=>?_;rw[show (s.extract (3*k) (3*k+2)).data.toList=aB.part s (3*k) (3*k+2) from rfl];have y:X0 w w w1:=C.trans (x.mono C.size);have ag:w+2<=w1.heap.size:=Yk aa x.size;have a:=E.later x;have c:=z.later x;have q0:=a.c0;have q1:=a.c1;have q2:=a.c2;have q3:=a.c3;have q4:=a.c4;have q5:=a.c5;have q6:=a.c6;have X:=c.c0;have T:=c.c1;have S:=c.c2;have L:=c.c3;have K:=c.c4;have I:=c.c5;have H:=c.c6;have fR:=c.f;have fD:=a.f;obtain⟨d,ad⟩:∃ d,d=aB.ek (aB.part s (3*k) (3*k+2)):=⟨_,rfl⟩;have m:=hide (fun q=>Ox (aP ae) h3 ac q);have g:=hide (fun q1 q2 q3=>OT (aP ae) h3 ac q1 q2 q3);rw[<- ad] at hd m g ⊢;clear ad E z C aa x hB hZ dR dD
    by_cases ab:d<0
    .have t:Hid (aB.eJ s=XW):=by show aB.eJ s=XW;unfold aB.eJ;rw[aP m (.inl ab)];rfl
     go_wp2;refine bodyPost_ret (v:=Yc #[fP acc,XW]) (by simp[results,results129,go_sem,fP,X,T,S,L,K,I,H]) rfl ⟨⟨acc,?_,?_⟩,?_⟩
     .rw[t]
     .intro h;rw[t] at h;cases h
     .exact (((((((y.setCell aI _).setCell aI _).setCell aI _).setCell aI _).setCell aI _).setCell aI _).setCell aI _)
    .have hc:=a.at d O O
     cases u:aL acc d
     .rw[u] at hc
      by_cases h2:3*k+2<s.size
      .cases F:(((s[3*k+2]'h2).toNat:N) != 44)
       .have HX:Hid (tw s (k+1) (d :: acc)):=aP g O u (fun _=>by
         rw[aB.jL s _ h2];simpa using F)
        go_wp2;refine⟨⟨k+1,d :: acc,O,by go_num,HX,?_,?_,?_,?_⟩,by simp[intOf];omega⟩
        .exact a.set d O
        .exact Cw c O
        .exact y.setCell XA _
        .simp;omega
       .have t:Hid (aB.eJ s=XW):=by
         show aB.eJ s=XW;unfold aB.eJ;rw[aP m (.inr (.inr ⟨h2,by rw[aB.jL s _ h2];simpa using F⟩))];rfl
        go_wp2;refine bodyPost_ret (v:=Yc #[fP acc,XW]) (by simp[results,results129,go_sem,fP,X,T,S,L,K,I,H]) rfl ⟨⟨acc,?_,?_⟩,?_⟩
        .rw[t]
        .intro h;rw[t] at h;cases h
        .exact (((((((y.setCell aI _).setCell aI _).setCell aI _).setCell aI _).setCell aI _).setCell aI _).setCell aI _)
      .have HX:Hid (tw s (k+1) (d :: acc)):=aP g O u (fun h=>XT h h2);go_wp2;refine⟨⟨k+1,d :: acc,O,by go_num,HX,?_,?_,?_,?_⟩,by simp[intOf];omega⟩
       .exact a.set d O
       .exact Cw c O
       .exact y.setCell XA _
       .simp;omega
     .rw[u] at hc;have t:Hid (aB.eJ s=XW):=by show aB.eJ s=XW;unfold aB.eJ;rw[aP m (.inr (.inl u))];rfl
      go_wp2;refine bodyPost_ret (v:=Yc #[fP acc,XW]) (by simp[results,results129,go_sem,fP,X,T,S,L,K,I,H]) rfl ⟨⟨acc,?_,?_⟩,?_⟩
      .rw[t]
      .intro h;rw[t] at h;cases h
      .exact (((((((y.setCell aI _).setCell aI _).setCell aI _).setCell aI _).setCell aI _).setCell aI _).setCell aI _)
   .have HF:Hid (aB.iX s=U acc):=by
     rcases D with ⟨h,_⟩|⟨_,h⟩
     .omega
     .exact h
    have t:Hid (aB.eJ s=XX):=by show aB.eJ s=XX;unfold aB.eJ;rw[HF];rfl
    clear D;have q0:=E.c0;have q1:=E.c1;have q2:=E.c2;have q3:=E.c3;have q4:=E.c4;have q5:=E.c5;have q6:=E.c6;have X:=z.c0;have T:=z.c1;have S:=z.c2;have L:=z.c3;have K:=z.c4;have I:=z.c5;have H:=z.c6;have fR:=z.f;go_wp2;refine bodyPost_ret (v:=Yc #[fP acc,XX]) (by simp[results,results129,go_sem,fP,X,T,S,L,K,I,H]) rfl ⟨⟨acc,?_,?_⟩,?_⟩
    .rw[t]
    .intro _;exact HF
    .exact (((((((C.setCell aI _).setCell aI _).setCell aI _).setCell aI _).setCell aI _).setCell aI _).setCell aI _)
 .have af:(((s.size:N) % 3) != 2)=XX:=pd O
  have t:Hid (aB.eJ s=XW):=by
   show aB.eJ s=XW;unfold aB.eJ
   cases ho:aB.iX s with
   |none=>rfl
   |some r=>have:=aB.Gk _ _ _ ho;rw[aB.gI] at this;omega
  clear h3
  go_in
  go_wp2;refine bodyPost_ret (v:=Yc #[fP [],XW]) (by simp[results,results129,go_sem,fP,aL]) rfl ⟨⟨[],?_,?_⟩,?_⟩
  .rw[t]
  .intro h;rw[t] at h;cases h
  .exact bC.alloc XA _
def fL(s:XK):J XK:=Lib.splitB ⟨#[44]⟩ 0 (Lib.countB s ⟨#[44]⟩) s
theorem IV(s:XK):(fL s).length=Lib.countB s ⟨#[44]⟩+1:=Lib.splitB_all ⟨#[44]⟩ XC 0 _ s rfl
theorem QR(s:XK):aB.oE ((fL s).map (·.data.toList)) []=aB.iX s:=aB.UI s
theorem VR(s:XK)(h:s.size<=160):(fL s).length<=161:=by
 rw[IV];have:=Lib.countB_le ⟨#[44]⟩ XC s.size s aI;omega
theorem Vq(w:XY)(l:J XK)(t:X6)(j:M)(x:XK)(h:l[j]?=U x):(w.alloc (Yh (l.map Ya).toArray t)).cell? (w,j)=U ↑x:=by
 rw[World.cell?_alloc_at _ _ _ _ rfl];simp[h]
def sI(s:XK)(k:M)(acc:J N):Prop:=aB.iX s=aB.oE (((fL s).map (·.data.toList)).drop k) acc
theorem Le(h:sI s k acc)(a:k<(fL s).length):aB.iX s=(aB.kM acc (aB.ek (fL s)[k].data.toList)).bind (aB.oE (((fL s).map (·.data.toList)).drop (k+1))):=by
 rw[h,ZH (by simpa using a)];simp[aB.oE]
theorem UD(h:sI s k acc)(f:k<(fL s).length)(g:aB.ek (fL s)[k].data.toList<0\/aL acc (aB.ek (fL s)[k].data.toList)=XX):aB.eJ s=XW:=by
 have e:=Le h f
 have a:aB.kM acc (aB.ek (fL s)[k].data.toList)=Z:=by
  unfold aB.kM;rw[if_neg];rintro ⟨i,c⟩;rcases g with q|q
  .omega
  .unfold aL at q;rw[q] at c;cases c
 rw[a] at e;unfold aB.eJ;rw[e];rfl
theorem U6(h:sI s k acc)(c:k<(fL s).length)(f:0<=aB.ek (fL s)[k].data.toList)(a:aL acc (aB.ek (fL s)[k].data.toList)=XW):sI s (k+1) (aB.ek (fL s)[k].data.toList :: acc):=by
 have e:=Le h c
 have st:aB.kM acc (aB.ek (fL s)[k].data.toList)=U (aB.ek (fL s)[k].data.toList :: acc):=by
  unfold aB.kM;rw[XS ⟨f,a⟩]
 rw[st] at e;exact e
theorem UE(h:sI s k acc)(a:(fL s).length<=k):aB.iX s=U acc:=by
 unfold sI at h;rw[List.drop_of_length_le (by simpa using a)] at h;exact h
theorem KC(s:XK)(w:XY)(he:Env w)(hm:s.size<=160):
  X4 prog 194 #[Ya s] w fun e w'=>(∃ acc,e=Yg (Yc #[fP acc,Yb (aB.eJ s)])/\(aB.eJ s=XX->aB.iX s=U acc))/\X0 w.heap.size w w':=by
 obtain⟨mx,L⟩:=he.uM;have HE:=hide he;have hz:=he.size;clear he;have ai:=VR s hm
 go_in
 go_wp2_with fail
 obtain⟨W,H⟩:∃ W,W=(w.alloc (Yh #[Yb XW,Yb XW,Yb XW,Yb XW,Yb XW,Yb XW,Yb XW] 160)).alloc (Yh #[Yb XW,Yb XW,Yb XW,Yb XW,Yb XW,Yb XW,Yb XW] 160):=⟨_,rfl⟩;rw[<- H];have hB:X0 w.heap.size w W:=by rw[H];exact ((zr _ _).alloc (zq _) _).alloc XA _
 have hZ:w.heap.size+2=W.heap.size:=by rw[H];simp
 have dR:DS W w.heap.size []:=by
  rw[H];refine⟨?_,?_,?_,?_,?_,?_,?_,fun j=>?_⟩ <;> simp[aL]
 have dD:DS W (w.heap.size+1) []:=by
  rw[H];refine⟨?_,?_,?_,?_,?_,?_,?_,fun j=>?_⟩ <;> simp[aL]
 have S:=cell_later hB L;clear H;refine (strings_Split s ⟨#[44]⟩ mx W O S XC).mono ?_;rintro e w1 ⟨rfl,y⟩;have hP:∀ j x,(fL s)[j]?=U x->w1.cell? ⟨W.heap.size,j,Z⟩=U (Ya x):=fun j x hx=>by rw[y];exact Vq W (fL s) _ j x hx
 have D:X0 W.heap.size W w1:=by rw[y];exact (zr _ _).alloc (zq _) _
 have aj:W.heap.size<w1.heap.size:=by rw[y];simp
 clear y;rw[show Lib.countB s ⟨#[44]⟩+1=(fL s).length from (IV s).symm];have HP:=hide hP;have af:=hide (((aP HE).later hB).later D);have ac:=dR.later D;have ad:=dD.later D;have aa:X0 w.heap.size w w1:=hB.trans (D.mono O);clear hP dR dD hB S L af;go_wp2
 go_loopw [6,7,8,12] (fun _ _ _ i wx=>∃ (k:M) (acc:J N),k<=(fL s).length/\i=V Y k/\sI s k acc/\DS wx (w.heap.size+1) acc/\DS wx w.heap.size []/\X0 w.heap.size w wx/\w1.heap.size<=wx.heap.size/\(∀ j x,(fL s)[j]?=U x->wx.cell? ⟨W.heap.size,j,Z⟩=U (Ya x))) (fun _ _ _ i _=>(fL s).length-(intOf i).toNat)
 case atStart=>exact⟨0,[],Zd _,rfl,(QR s).symm,ad,ac,aa,Yi _,aP HP⟩
 case round =>
  obtain⟨k,acc,hk,rfl,m,c,a,g,ag,I⟩:=hrel;have X:=hide I;clear I;have ab:=hide ((aP HE).later g)
  by_cases E:k<(fL s).length
  .have hc:=aP X k (fL s)[k] (by simp[E]);have hi:(k:N)<((fL s).length:N):=O
   have q0:=c.c0;have q1:=c.c1;have q2:=c.c2;have q3:=c.c3;have q4:=c.c4;have q5:=c.c5;have q6:=c.c6;have r0:=a.c0;have r1:=a.c1;have r2:=a.c2;have r3:=a.c3;have r4:=a.c4;have r5:=a.c5;have r6:=a.c6;have fR:=a.f;have fD:=c.f;have hd:=aB.zk (fL s)[k].data.toList;have u:=hide (fun q=>UD m E q);have t:=hide (fun q1 q2=>U6 m E q1 q2);clear m
   go_wp2_with fail
   refine (Xm _ _ (aP ab)).mono ?_;rintro e w2 ⟨rfl,rfl⟩;obtain⟨d,C⟩:∃ d,d=aB.ek (fL s)[k].data.toList:=⟨_,rfl⟩;have HV:Hid (nT (fL s)[k]=if 0<=d then d else 0):=by show nT (fL s)[k]=_;rw[C];rfl
   have HW:Hid (nB (fL s)[k]=decide (0<=d)):=by show nB (fL s)[k]=_;rw[C];rfl
   rw[<- C] at hd u t;clear C
   by_cases K:d<0
   .have G:Hid (aB.eJ s=XW):=aP u (.inl K);have F:Hid (nB (fL s)[k]=XW):=HW.out.trans (decide_eq_false O);rw[F.out];go_wp2;refine bodyPost_ret (v:=Yc #[fP [],Yb XW]) (by simp[results,results194,go_sem,fP,aL,r0,r1,r2,r3,r4,r5,r6]) rfl ⟨⟨[],?_,?_⟩,?_⟩
    .rw[G.out]
    .intro h;rw[G.out] at h;cases h
    .exact (((((((g.setCell (zq _) _).setCell (zq _) _).setCell (zq _) _).setCell (zq _) _).setCell (zq _) _).setCell (zq _) _).setCell (zq _) _)
   .have ae:Hid (nT (fL s)[k]=d):=HV.out.trans (XS O);have F:Hid (nB (fL s)[k]=XX):=HW.out.trans (decide_eq_true O);rw[ae.out,F.out];have T:=c.at d O O
    cases z:aL acc d
    .rw[z] at T;have HX:Hid (sI s (k+1) (d :: acc)):=aP t O z;go_wp2;refine⟨⟨k+1,d :: acc,by omega,by go_num,HX.out,?_,?_,?_,?_,?_⟩,by simp[intOf];omega⟩
     .exact c.set d O
     .exact Cw a O
     .exact g.setCell XA _
     .simp;omega
     .intro j x hx;exact (zS _ _ _ _ XA).trans (aP X j x hx)
    .rw[z] at T;have G:Hid (aB.eJ s=XW):=aP u (.inr z);go_wp2;refine bodyPost_ret (v:=Yc #[fP [],Yb XW]) (by simp[results,results194,go_sem,fP,aL,r0,r1,r2,r3,r4,r5,r6]) rfl ⟨⟨[],?_,?_⟩,?_⟩
     .rw[G.out]
     .intro h;rw[G.out] at h;cases h
     .exact (((((((g.setCell (zq _) _).setCell (zq _) _).setCell (zq _) _).setCell (zq _) _).setCell (zq _) _).setCell (zq _) _).setCell (zq _) _)
  .have HF:Hid (aB.iX s=U acc):=UE m O;have G:Hid (aB.eJ s=XX):=by show aB.eJ s=XX;unfold aB.eJ;rw[HF.out];rfl
   clear m;have q0:=c.c0;have q1:=c.c1;have q2:=c.c2;have q3:=c.c3;have q4:=c.c4;have q5:=c.c5;have q6:=c.c6;have r0:=a.c0;have r1:=a.c1;have r2:=a.c2;have r3:=a.c3;have r4:=a.c4;have r5:=a.c5;have r6:=a.c6;have fR:=a.f;go_wp2;refine bodyPost_ret (v:=Yc #[fP acc,Yb XX]) (by simp[results,results194,go_sem,fP,r0,r1,r2,r3,r4,r5,r6]) rfl ⟨⟨acc,?_,?_⟩,?_⟩
   .rw[G.out]
   .intro _;exact HF.out
   .exact (((((((g.setCell (zq _) _).setCell (zq _) _).setCell (zq _) _).setCell (zq _) _).setCell (zq _) _).setCell (zq _) _).setCell (zq _) _)
theorem Env.kept(h:Env w)(k:Kept R w w')(i:10<=R):Env w':=by
 have g:X0 10 w w':=k.below i h.size;have a:∀ (b o:M) (v:XZ),b<10->w.cell? (b,o)=U v->w'.cell? (b,o)=U v:=fun b o v f e=>(g.cell (p:=(b,o)) f).trans e
 let⟨m,hm⟩:=h.uM;let⟨c0,c1,c2,c3,c4,c5,c6,c7,c8,c9,c10,c11⟩:=h.jv;refine⟨⟨a _ _ _ O c0,a _ _ _ O c1,a _ _ _ O c2,a _ _ _ O c3,a _ _ _ O c4,a _ _ _ O c5,a _ _ _ O c6,a _ _ _ O c7,a _ _ _ O c8,a _ _ _ O c9,a _ _ _ O c10,a _ _ _ O c11⟩,⟨m,a _ _ _ O hm⟩,?_,Yk h.size k.size,a _ _ _ O h.mo,a _ _ _ O h.tu,a _ _ _ O h.we,a _ _ _ O h.th,a _ _ _ O h.fr,a _ _ _ O h.sa,a _ _ _ O h.su⟩;have c:=h.pow;unfold Lib.TabIs World.var? at c ⊢;simp only[wO,Option.bind_some] at c ⊢;rw[g.block 0 O];exact c
def fF(s:XK)(a c:N):XN:=aB.isNum s.data.toList && decide (a<=aB.cY s.data.toList) && decide (aB.cY s.data.toList<=c)
theorem KO(s:XK)(L q:M)(c g:N)(w:XY)(t:s.size<=160)(x:w.cell? (L,0)=U ↑c)(u:w.cell? (q,0)=U ↑g):
  X4 prog 191 #[s,L,q] w fun e w'=>e=Yg (Yc #[V Y (aB.cY s.data.toList),fF s c g])/\∃ n,w'=w.drewN n:=by
 have f:s.size<=maxLen:=by unfold maxLen;omega
 cases a:aB.isNum s.data.toList
 .go_in
  go_wp21
  refine aX (fK s w f) ?_;rw[a];go_wp2
  go_quiet (fail)
  go_wp2;go_ret2;exact⟨fh rfl (by simp[fF,a]),_,rfl⟩
 .by_cases j:c<=aB.cY s.data.toList
  .by_cases m:aB.cY s.data.toList<=g
   .go_in
    go_wp21
    refine aX (fK s w f) ?_;rw[a];go_wp2
    go_quiet (fail)
    go_wp2;go_ret2;exact⟨fh rfl (by simp[fF,a,j,m]),_,rfl⟩
   .have h:decide (aB.cY s.data.toList<=g)=XW:=decide_eq_false m
    go_in
    go_wp21
    refine aX (fK s w f) ?_;rw[a];go_wp2
    go_quiet (fail)
    go_wp2;go_ret2;exact⟨fh rfl (by simp[fF,a,j,h]),_,rfl⟩
  .have i:decide (c<=aB.cY s.data.toList)=XW:=decide_eq_false j
   go_in
   go_wp21
   refine aX (fK s w f) ?_;rw[a];go_wp2
   go_quiet (fail)
   go_wp2;go_ret2;exact⟨fh rfl (by simp[fF,a,i]),_,rfl⟩
theorem V8(R A:M)(ws:J XK)(nx:M)(wr:XN)(w:XY)(h:RS w R A ws nx wr)(m:Env w)(u:cU ws.length nx wr=XX)(a:nx<ws.length)(z:aB.dC ws[nx]=XX):
  X4 prog 135 #[R,.func (.func 136) #[] #[]] w fun e w'=>e=Yg (V Y (gN ws[nx]))/\RS w' R A ws (nx+1) wr/\Kept R w w':=by
 have y:(nx:N)<(ws.length:N):=O
 have f:ws[nx].size<=160:=h.short _ (zg a);have i:=hide f;clear f;have t:=hide m;clear m
 go_in
 go_wp21
 refine aK (iW R A ws nx wr w h) ?_;rintro w1 ⟨n,g⟩;have c:RS w1 R A ws nx wr:=by rw[g];exact h.drewN n
 have q:Kept R w w1:=by rw[g];exact (Kept.refl R w).drewN n
 have j:Hid (Env w1):=by show Env w1;rw[g];exact (aP t).drewN n
 have F:=c.c0;have E:=c.c1;have C:=c.f1;have D:=c.rows nx a;have x:=c.len;clear g;go_wp2
 go_quiet ((go_at_call 136;exact Calls.quiet_of_same (Lu _ _ ((aP j).drewN _).jv (aP i))))
 go_wp2;go_ret;exact⟨rfl,(c.drewN _).step a,(q.drewN _).setCell _ _⟩
theorem V7(R A:M)(ws:J XK)(nx:M)(wr:XN)(w:XY)(h:RS w R A ws nx wr)(m:Env w)(u:cU ws.length nx wr=XX)(f:nx<ws.length)(z:aB.dC ws[nx]=XW):
  X4 prog 135 #[R,.func (.func 136) #[] #[]] w fun e w'=>e=Yg (V Y (0))/\RS w' R A ws nx XX/\Kept R w w':=by
 have y:(nx:N)<(ws.length:N):=O
 have c:ws[nx].size<=160:=h.short _ (zg f);have i:=hide c;clear c;have t:=hide m;clear m
 go_in
 go_wp21
 refine aK (iW R A ws nx wr w h) ?_;rintro w1 ⟨n,g⟩;have a:RS w1 R A ws nx wr:=by rw[g];exact h.drewN n
 have q:Kept R w w1:=by rw[g];exact (Kept.refl R w).drewN n
 have j:Hid (Env w1):=by show Env w1;rw[g];exact (aP t).drewN n
 have G:=a.c0;have F:=a.c1;have E:=a.c2;have C:=a.f2;have D:=a.rows nx f;have x:=a.len;clear g;go_wp2
 go_quiet ((go_at_call 136;exact Calls.quiet_of_same (Lu _ _ ((aP j).drewN _).jv (aP i))))
 go_wp2;go_ret;exact⟨rfl,(a.drewN _).bad,(q.drewN _).setCell _ _⟩
theorem small(h:n<=160):n<=maxLen:=by unfold maxLen;omega
theorem WX(R A:M)(ws:J XK)(nx:M)(wr:XN)(w:XY)(h:RS w R A ws nx wr)(m:cU ws.length nx wr=XX)(a:nx<ws.length)(u:aB.ef ws[nx]=XX):
  X4 prog 135 #[R,.func (.func 137) #[] #[]] w fun e w'=>e=Yg (V Y (aB.fZ ws[nx]))/\RS w' R A ws (nx+1) wr/\Kept R w w':=by
 have t:(nx:N)<(ws.length:N):=O
 have f:ws[nx].size<=160:=h.short _ (zg a);have i:=hide f;clear f
 go_in
 go_wp21
 refine aK (iW R A ws nx wr w h) ?_;rintro w1 ⟨n,g⟩;have c:RS w1 R A ws nx wr:=by rw[g];exact h.drewN n
 have j:Kept R w w1:=by rw[g];exact (Kept.refl R w).drewN n
 have C:=c.c0;have z:=c.c1;have x:=c.f1;have y:=c.rows nx a;have q:=c.len;clear g;go_wp2
 go_quiet ((go_at_call 137;exact Calls.quiet_of_same (xZ _ _ (small (aP i)))))
 go_wp2;go_ret;exact⟨rfl,(c.drewN _).step a,(j.drewN _).setCell _ _⟩
theorem WW(R A:M)(ws:J XK)(nx:M)(wr:XN)(w:XY)(h:RS w R A ws nx wr)(m:cU ws.length nx wr=XX)(f:nx<ws.length)(u:aB.ef ws[nx]=XW):
  X4 prog 135 #[R,.func (.func 137) #[] #[]] w fun e w'=>e=Yg (V Y (0))/\RS w' R A ws nx XX/\Kept R w w':=by
 have t:(nx:N)<(ws.length:N):=O
 have c:ws[nx].size<=160:=h.short _ (zg f);have i:=hide c;clear c
 go_in
 go_wp21
 refine aK (iW R A ws nx wr w h) ?_;rintro w1 ⟨n,g⟩;have a:RS w1 R A ws nx wr:=by rw[g];exact h.drewN n
 have j:Kept R w w1:=by rw[g];exact (Kept.refl R w).drewN n
 have D:=a.c0;have C:=a.c1;have z:=a.c2;have x:=a.f2;have y:=a.rows nx f;have q:=a.len;clear g;go_wp2
 go_quiet ((go_at_call 137;exact Calls.quiet_of_same (xZ _ _ (small (aP i)))))
 go_wp2;go_ret;exact⟨rfl,(a.drewN _).bad,(j.drewN _).setCell _ _⟩
theorem Wg(R A:M)(ws:J XK)(nx:M)(wr:XN)(w:XY)(h:RS w R A ws nx wr)(m:Env w)(u:cU ws.length nx wr=XX)(a:nx<ws.length)(z:bL ws[nx]=XX):
  X4 prog 135 #[R,.func (.func 140) #[] #[]] w fun e w'=>e=Yg (V Y (eu ws[nx]))/\RS w' R A ws (nx+1) wr/\Kept R w w':=by
 have y:(nx:N)<(ws.length:N):=O
 have f:ws[nx].size<=160:=h.short _ (zg a);have i:=hide f;clear f;have t:=hide m;clear m
 go_in
 go_wp21
 refine aK (iW R A ws nx wr w h) ?_;rintro w1 ⟨n,g⟩;have c:RS w1 R A ws nx wr:=by rw[g];exact h.drewN n
 have q:Kept R w w1:=by rw[g];exact (Kept.refl R w).drewN n
 have j:Hid (Env w1):=by show Env w1;rw[g];exact (aP t).drewN n
 have F:=c.c0;have E:=c.c1;have C:=c.f1;have D:=c.rows nx a;have x:=c.len;clear g;go_wp2
 go_quiet ((go_at_call 140;exact Calls.quiet_of (LC _ _ ((aP j).drewN _) (aP i))))
 go_wp2;go_ret;exact⟨rfl,(c.drewN _).step a,(q.drewN _).setCell _ _⟩
theorem Wf(R A:M)(ws:J XK)(nx:M)(wr:XN)(w:XY)(h:RS w R A ws nx wr)(m:Env w)(u:cU ws.length nx wr=XX)(f:nx<ws.length)(z:bL ws[nx]=XW):
  X4 prog 135 #[R,.func (.func 140) #[] #[]] w fun e w'=>e=Yg (V Y (0))/\RS w' R A ws nx XX/\Kept R w w':=by
 have y:(nx:N)<(ws.length:N):=O
 have c:ws[nx].size<=160:=h.short _ (zg f);have i:=hide c;clear c;have t:=hide m;clear m
 go_in
 go_wp21
 refine aK (iW R A ws nx wr w h) ?_;rintro w1 ⟨n,g⟩;have a:RS w1 R A ws nx wr:=by rw[g];exact h.drewN n
 have q:Kept R w w1:=by rw[g];exact (Kept.refl R w).drewN n
 have j:Hid (Env w1):=by show Env w1;rw[g];exact (aP t).drewN n
 have G:=a.c0;have F:=a.c1;have E:=a.c2;have C:=a.f2;have D:=a.rows nx f;have x:=a.len;clear g;go_wp2
 go_quiet ((go_at_call 140;exact Calls.quiet_of (LC _ _ ((aP j).drewN _) (aP i))))
 go_wp2;go_ret;exact⟨rfl,(a.drewN _).bad,(q.drewN _).setCell _ _⟩
theorem W5(L m:M)(i j:N)(R A:M)(ws:J XK)(nx:M)(wr:XN)(w:XY)(h:RS w R A ws nx wr)(y:w.cell? (L,0)=U ↑i)(x:w.cell? (m,0)=U ↑j)(D:cU ws.length nx wr=XX)(a:nx<ws.length)(F:fF ws[nx] i j=XX):
  X4 prog 135 #[R,.func (.func 191) #[] #[L,m]] w fun e w'=>e=Yg (V Y (aB.cY ws[nx].data.toList))/\RS w' R A ws (nx+1) wr/\Kept R w w':=by
 have C:(nx:N)<(ws.length:N):=O
 have g:ws[nx].size<=160:=h.short _ (zg a);have u:=hide g;clear g
 go_in
 go_wp21
 refine aK (iW R A ws nx wr w h) ?_;rintro w1 ⟨n,f⟩;have c:RS w1 R A ws nx wr:=by rw[f];exact h.drewN n
 have z:Kept R w w1:=by rw[f];exact (Kept.refl R w).drewN n
 have t:Hid (w1.cell? (L,0)=U ↑i):=by show w1.cell? _=_;rw[f];exact y
 have q:Hid (w1.cell? (m,0)=U ↑j):=by show w1.cell? _=_;rw[f];exact x
 clear y x;have K:=c.c0;have I:=c.c1;have G:=c.f1;have H:=c.rows nx a;have E:=c.len;clear f;go_wp2
 go_quiet ((go_at_call 191;exact Calls.quiet_of (KO _ L m i j _ (aP u) (aP t) (aP q))))
 go_wp2;go_ret;exact⟨rfl,(c.drewN _).step a,(z.drewN _).setCell _ _⟩
theorem W4(L m:M)(i j:N)(R A:M)(ws:J XK)(nx:M)(wr:XN)(w:XY)(h:RS w R A ws nx wr)(y:w.cell? (L,0)=U ↑i)(x:w.cell? (m,0)=U ↑j)(D:cU ws.length nx wr=XX)(g:nx<ws.length)(F:fF ws[nx] i j=XW):
  X4 prog 135 #[R,.func (.func 191) #[] #[L,m]] w fun e w'=>e=Yg (V Y (0))/\RS w' R A ws nx XX/\Kept R w w':=by
 have C:(nx:N)<(ws.length:N):=O
 have f:ws[nx].size<=160:=h.short _ (zg g);have u:=hide f;clear f
 go_in
 go_wp21
 refine aK (iW R A ws nx wr w h) ?_;rintro w1 ⟨n,c⟩;have a:RS w1 R A ws nx wr:=by rw[c];exact h.drewN n
 have z:Kept R w w1:=by rw[c];exact (Kept.refl R w).drewN n
 have t:Hid (w1.cell? (L,0)=U ↑i):=by show w1.cell? _=_;rw[c];exact y
 have q:Hid (w1.cell? (m,0)=U ↑j):=by show w1.cell? _=_;rw[c];exact x
 clear y x;have S:=a.c0;have K:=a.c1;have I:=a.c2;have G:=a.f2;have H:=a.rows nx g;have E:=a.len;clear c;go_wp2
 go_quiet ((go_at_call 191;exact Calls.quiet_of (KO _ L m i j _ (aP u) (aP t) (aP q))))
 go_wp2;go_ret;exact⟨rfl,(a.drewN _).bad,(z.drewN _).setCell _ _⟩
theorem We(f:XZ)(R A:M)(ws:J XK)(nx:M)(wr:XN)(w:XY)(h:RS w R A ws nx wr)(i:cU ws.length nx wr=XW):
  X4 prog 130 #[R,f] w fun e w'=>e=Yg (Ya ⟨#[]⟩)/\RS w' R A ws nx XX/\Kept R w w':=by
 go_in
 go_wp21
 refine aK (iW R A ws nx wr w h) ?_;rintro w1 ⟨n,a⟩;have c:RS w1 R A ws nx wr:=by rw[a];exact h.drewN n
 have g:Kept R w w1:=by rw[a];exact (Kept.refl R w).drewN n
 have m:=c.c2;have j:=c.f2;clear a;go_wp2;go_ret;exact⟨rfl,c.bad,g.setCell _ _⟩
theorem Wa(R A:M)(ws:J XK)(nx:M)(wr:XN)(w:XY)(h:RS w R A ws nx wr)(D:cU ws.length nx wr=XX)(f:nx<ws.length)(G:aB.fQ ws[nx].data.toList=XX):
  X4 prog 130 #[R,.func (.func 131) #[] #[]] w fun e w'=>e=Yg (sG ws[nx])/\RS w' R A ws (nx+1) wr/\Kept R w w':=by
 have F:(nx:N)<(ws.length:N):=O
 have x:(0:N)<=(nx:N):=Int.natCast_nonneg _;have g:ws[nx].size<=160:=h.short _ (zg f);have q:=hide g;clear g
 go_in
 go_wp21
 refine aK (iW R A ws nx wr w h) ?_;rintro w1 ⟨n,m⟩;have j:RS w1 R A ws nx wr:=by rw[m];exact h.drewN n
 have u:Kept R w w1:=by rw[m];exact (Kept.refl R w).drewN n
 have C:=j.c0;have z:=j.c1;have y:=j.rows nx f;have E:=j.len;clear m
 go_wp21
 go_region_held3 (fun w'=>w'.cell? (R,0)=U (X9 A ws.length ws.length)/\w'.cell? (R,1)=U (V Y nx)/\w'.cell? (A,nx)=U (Ya ws[nx]))
  (first
   |go_keep
   |(
    go_split_ands
    refine⟨?_,?_,?_⟩
    .exact cell_later a XD
    .exact cell_later a XD
    .exact cell_later a XD))
  ((go_at_call 131;refine aK (Lv _ _ (aP q)) fun w4 a=>?_))
 have c:X0 w1 w1 w4:=⟨a.os,a.tape,a.output,a.size,a.block⟩;have i:=j.aD c;have t:=u.trans (Kept.aD c);have L:=i.c1;have K:=i.c2;have I:=i.f1;have H:=i.f2;clear C z y;go_wp2;go_ret;exact⟨rfl,i.step f,t.setCell _ _⟩
theorem V9(R A:M)(ws:J XK)(nx:M)(wr:XN)(w:XY)(h:RS w R A ws nx wr)(D:cU ws.length nx wr=XX)(g:nx<ws.length)(G:aB.fQ ws[nx].data.toList=XW):
  X4 prog 130 #[R,.func (.func 131) #[] #[]] w fun e w'=>e=Yg (Ya ⟨#[]⟩)/\RS w' R A ws nx XX/\Kept R w w':=by
 have F:(nx:N)<(ws.length:N):=O
 have x:(0:N)<=(nx:N):=Int.natCast_nonneg _;have f:ws[nx].size<=160:=h.short _ (zg g);have q:=hide f;clear f
 go_in
 go_wp21
 refine aK (iW R A ws nx wr w h) ?_;rintro w1 ⟨n,m⟩;have j:RS w1 R A ws nx wr:=by rw[m];exact h.drewN n
 have u:Kept R w w1:=by rw[m];exact (Kept.refl R w).drewN n
 have C:=j.c0;have z:=j.c1;have y:=j.rows nx g;have E:=j.len;clear m
 go_wp21
 go_region_held3 (fun w'=>w'.cell? (R,0)=U (X9 A ws.length ws.length)/\w'.cell? (R,1)=U (V Y nx)/\w'.cell? (A,nx)=U (Ya ws[nx]))
  (first
   |go_keep
   |(
    go_split_ands
    refine⟨?_,?_,?_⟩
    .exact cell_later a XD
    .exact cell_later a XD
    .exact cell_later a XD))
  ((go_at_call 131;refine aK (Lv _ _ (aP q)) fun w4 a=>?_))
 have c:X0 w1 w1 w4:=⟨a.os,a.tape,a.output,a.size,a.block⟩;have i:=j.aD c;have t:=u.trans (Kept.aD c);have L:=i.c1;have K:=i.c2;have I:=i.f1;have H:=i.f2;clear C z y;go_wp2;go_ret;exact⟨rfl,i.bad,t.setCell _ _⟩
theorem ua{B:XK->XN}(h:cU ws.length nx wr=XW):eU ws nx wr B=XW:=by simp[eU,h]
theorem nQ{B:XK->XN}{b:XN}(h:cU ws.length nx wr=XX)(a:nx<ws.length)(c:B ws[nx]=b):eU ws nx wr B=b:=by
 rw[eU,h,qV ws nx a,c,Bool.true_and]
theorem Wb(R A:M)(ws:J XK)(nx:M)(wr:XN)(w:XY)(h:RS w R A ws nx wr):
  X4 prog 135 #[R,.func (.func 139) #[] #[]] w fun e w'=>e=Yg (V Y (fU ws nx wr (fun s=>aB.isNum s.data.toList) (fun s=>aB.cY s.data.toList)))/\RS w' R A ws (eS ws nx wr (fun s=>aB.isNum s.data.toList)) (eO ws nx wr (fun s=>aB.isNum s.data.toList))/\Kept R w w':=by
 cases c:cU ws.length nx wr
 .have t:=ua (B:=(fun s=>aB.isNum s.data.toList)) c;rw[fU,eS,eO,t];exact xW _ R A ws nx wr w h c
 .have a:=rh c
  cases f:(fun s=>aB.isNum s.data.toList) ws[nx]
  .have t:=nQ (B:=(fun s=>aB.isNum s.data.toList)) c a f;rw[fU,eS,eO,t];exact Vv R A ws nx wr w h c a (small (h.short _ (zg a))) f
  .have t:=nQ (B:=(fun s=>aB.isNum s.data.toList)) c a f;rw[fU,eS,eO,t,qV ws nx a];exact Vw R A ws nx wr w h c a (small (h.short _ (zg a))) f
theorem LG(R A:M)(ws:J XK)(nx:M)(wr:XN)(w:XY)(h:RS w R A ws nx wr)(g:Env w):
  X4 prog 135 #[R,.func (.func 136) #[] #[]] w fun e w'=>e=Yg (V Y (fU ws nx wr aB.dC gN))/\RS w' R A ws (eS ws nx wr aB.dC) (eO ws nx wr aB.dC)/\Kept R w w':=by
 cases c:cU ws.length nx wr
 .have t:=ua (B:=aB.dC) c;rw[fU,eS,eO,t];exact xW _ R A ws nx wr w h c
 .have a:=rh c
  cases f:aB.dC ws[nx]
  .have t:=nQ (B:=aB.dC) c a f;rw[fU,eS,eO,t];exact V7 R A ws nx wr w h g c a f
  .have t:=nQ (B:=aB.dC) c a f;rw[fU,eS,eO,t,qV ws nx a];exact V8 R A ws nx wr w h g c a f
theorem Xd(R A:M)(ws:J XK)(nx:M)(wr:XN)(w:XY)(h:RS w R A ws nx wr):
  X4 prog 135 #[R,.func (.func 137) #[] #[]] w fun e w'=>e=Yg (V Y (fU ws nx wr aB.ef aB.fZ))/\RS w' R A ws (eS ws nx wr aB.ef) (eO ws nx wr aB.ef)/\Kept R w w':=by
 cases c:cU ws.length nx wr
 .have t:=ua (B:=aB.ef) c;rw[fU,eS,eO,t];exact xW _ R A ws nx wr w h c
 .have a:=rh c
  cases f:aB.ef ws[nx]
  .have t:=nQ (B:=aB.ef) c a f;rw[fU,eS,eO,t];exact WW R A ws nx wr w h c a f
  .have t:=nQ (B:=aB.ef) c a f;rw[fU,eS,eO,t,qV ws nx a];exact WX R A ws nx wr w h c a f
theorem LH(R A:M)(ws:J XK)(nx:M)(wr:XN)(w:XY)(h:RS w R A ws nx wr)(g:Env w):
  X4 prog 135 #[R,.func (.func 140) #[] #[]] w fun e w'=>e=Yg (V Y (fU ws nx wr bL eu))/\RS w' R A ws (eS ws nx wr bL) (eO ws nx wr bL)/\Kept R w w':=by
 cases c:cU ws.length nx wr
 .have t:=ua (B:=bL) c;rw[fU,eS,eO,t];exact xW _ R A ws nx wr w h c
 .have a:=rh c
  cases f:bL ws[nx]
  .have t:=nQ (B:=bL) c a f;rw[fU,eS,eO,t];exact Wf R A ws nx wr w h g c a f
  .have t:=nQ (B:=bL) c a f;rw[fU,eS,eO,t,qV ws nx a];exact Wg R A ws nx wr w h g c a f
theorem Xe(L j:M)(c f:N)(R A:M)(ws:J XK)(nx:M)(wr:XN)(w:XY)(h:RS w R A ws nx wr)(q:w.cell? (L,0)=U ↑c)(m:w.cell? (j,0)=U ↑f):
  X4 prog 135 #[R,.func (.func 191) #[] #[L,j]] w fun e w'=>e=Yg (V Y (fU ws nx wr (fun s=>fF s c f) (fun s=>aB.cY s.data.toList)))/\RS w' R A ws (eS ws nx wr (fun s=>fF s c f)) (eO ws nx wr (fun s=>fF s c f))/\Kept R w w':=by
 cases g:cU ws.length nx wr
 .have t:=ua (B:=(fun s=>fF s c f)) g;rw[fU,eS,eO,t];exact xW _ R A ws nx wr w h g
 .have a:=rh g
  cases i:(fun s=>fF s c f) ws[nx]
  .have t:=nQ (B:=(fun s=>fF s c f)) g a i;rw[fU,eS,eO,t];exact W4 L j c f R A ws nx wr w h q m g a i
  .have t:=nQ (B:=(fun s=>fF s c f)) g a i;rw[fU,eS,eO,t,qV ws nx a];exact W5 L j c f R A ws nx wr w h q m g a i
def nC(ws:J XK)(nx:M)(wr:XN):XK:=if eU ws nx wr (fun s=>aB.fQ s.data.toList) then sG (ws.getD nx ByteArray.empty) else ⟨#[]⟩
theorem WU(R A:M)(ws:J XK)(nx:M)(wr:XN)(w:XY)(h:RS w R A ws nx wr):
  X4 prog 130 #[R,.func (.func 131) #[] #[]] w fun e w'=>e=Yg (nC ws nx wr)/\RS w' R A ws (eS ws nx wr (fun s=>aB.fQ s.data.toList)) (eO ws nx wr (fun s=>aB.fQ s.data.toList))/\Kept R w w':=by
 cases c:cU ws.length nx wr
 .have t:=ua (B:=fun s=>aB.fQ s.data.toList) c;rw[nC,eS,eO,t];exact We _ R A ws nx wr w h c
 .have a:=rh c
  cases f:aB.fQ ws[nx].data.toList
  .have t:=nQ (B:=fun s=>aB.fQ s.data.toList) c a f;rw[nC,eS,eO,t];exact V9 R A ws nx wr w h c a f
  .have t:=nQ (B:=fun s=>aB.fQ s.data.toList) c a f;rw[nC,eS,eO,t,qV ws nx a];exact Wa R A ws nx wr w h c a f
theorem Au(lo hi:N)(R A:M)(ws:J XK)(nx:M)(wr:XN)(w:XY)(h:RS w R A ws nx wr):
  X4 prog 132 #[R,lo,hi] w fun e w'=>e=Yg (V Y (fU ws nx wr (fun s=>fF s lo hi) (fun s=>aB.cY s.data.toList)))/\RS w' R A ws (eS ws nx wr (fun s=>fF s lo hi)) (eO ws nx wr (fun s=>fF s lo hi))/\Kept R w w':=by
 go_in
 go_wp21
 obtain⟨X,a⟩:∃ X,X=(w.alloc (Yh #[lo] 3)).alloc (Yh #[hi] 3):=⟨_,rfl⟩;rw[<- a];have c:X0 w w X:=by rw[a];exact bC.alloc XA _
 have m:X.cell? (w,0)=U ↑lo:=by rw[a];simp
 have j:X.cell? (w.heap.size+1,0)=U ↑hi:=by rw[a];simp
 clear a;refine aK (Xe w (w.heap.size+1) lo hi R A ws nx wr X (h.aD c) m j) ?_;rintro q ⟨i,g⟩;have f:=(Kept.aD (R:=R) c).trans g;go_wp2;go_ret;exact⟨rfl,i,f⟩
theorem uv(R A:M)(ws:J XK)(nx:M)(wr:XN)(w:XY)(h:RS w R A ws nx wr):
  X4 prog 83 #[R] w fun e w'=>e=Yg (nC ws nx wr)/\RS w' R A ws (eS ws nx wr (fun s=>aB.fQ s.data.toList)) (eO ws nx wr (fun s=>aB.fQ s.data.toList))/\Kept R w w':=by
 go_in
 go_wp21
 refine aK (WU R A ws nx wr w h) ?_;rintro f ⟨c,a⟩;go_wp2;go_ret;exact⟨rfl,c,a⟩
theorem IW(R A:M)(ws:J XK)(nx:M)(wr:XN)(w:XY)(h:RS w R A ws nx wr):
  X4 prog 88 #[R] w fun e w'=>e=Yg (V Y (fU ws nx wr (fun s=>aB.isNum s.data.toList) (fun s=>aB.cY s.data.toList)))/\RS w' R A ws (eS ws nx wr (fun s=>aB.isNum s.data.toList)) (eO ws nx wr (fun s=>aB.isNum s.data.toList))/\Kept R w w':=by
 go_in
 go_wp21
 refine aK (Wb R A ws nx wr w h) ?_;rintro f ⟨c,a⟩;go_wp2;go_ret;exact⟨rfl,c,a⟩
theorem Al(R A:M)(ws:J XK)(nx:M)(wr:XN)(w:XY)(h:RS w R A ws nx wr):
  X4 prog 84 #[R] w fun e w'=>e=Yg (V Y (fU ws nx wr (fun s=>fF s 1 9) (fun s=>aB.cY s.data.toList)))/\RS w' R A ws (eS ws nx wr (fun s=>fF s 1 9)) (eO ws nx wr (fun s=>fF s 1 9))/\Kept R w w':=by
 go_in
 go_wp21
 refine aK (Au 1 9 R A ws nx wr w h) ?_;rintro f ⟨c,a⟩;go_wp2;go_ret;exact⟨rfl,c,a⟩
theorem ya(R A:M)(ws:J XK)(nx:M)(wr:XN)(w:XY)(h:RS w R A ws nx wr):
  X4 prog 86 #[R] w fun e w'=>e=Yg (V Y (fU ws nx wr (fun s=>fF s 1 1048320) (fun s=>aB.cY s.data.toList)))/\RS w' R A ws (eS ws nx wr (fun s=>fF s 1 1048320)) (eO ws nx wr (fun s=>fF s 1 1048320))/\Kept R w w':=by
 go_in
 go_wp21
 refine aK (Au 1 1048320 R A ws nx wr w h) ?_;rintro f ⟨c,a⟩;go_wp2;go_ret;exact⟨rfl,c,a⟩
theorem En(R A:M)(ws:J XK)(nx:M)(wr:XN)(w:XY)(h:RS w R A ws nx wr):
  X4 prog 192 #[R] w fun e w'=>e=Yg (V Y (fU ws nx wr (fun s=>fF s 1 99) (fun s=>aB.cY s.data.toList)))/\RS w' R A ws (eS ws nx wr (fun s=>fF s 1 99)) (eO ws nx wr (fun s=>fF s 1 99))/\Kept R w w':=by
 go_in
 go_wp21
 refine aK (Au 1 99 R A ws nx wr w h) ?_;rintro f ⟨c,a⟩;go_wp2;go_ret;exact⟨rfl,c,a⟩
theorem RS.other{v:XZ}(h:RS w R A ws nx wr)(c:b≠R)(f:0<ws.length->b≠A):RS (w.setCell (b,o) v) R A ws nx wr:=by
 have g:∀ j:M,(w.setCell (b,o) v).cell? (R,j)=w.cell? (R,j):=fun j=>World.cell?_setCell_far w (b,o) (R,j) v c
 refine⟨(g 0).trans h.c0,(g 1).trans h.c1,(g 2).trans h.c2,(zF ..).trans h.f1,(zF ..).trans h.f2,h.ne,fun i a=>?_,h.len,h.wP,h.short⟩;exact (World.cell?_setCell_far w (b,o) (A,i) v (f O)).trans (h.rows i a)
theorem RS.lt(h:RS w R A ws nx wr):R<w/\(0<ws.length->A<w) :=
 ⟨Yl _ (R,0) h.c0,fun a=>Yl _ (A,0) (h.rows 0 a)⟩
theorem Kept.aS(h:Kept R w w')(f:w<=b)(v:XZ):Kept R w (w'.setCell (b,o) v) :=
 ⟨(Below.setCell (B:=0) (Below.refl 0 w') (p:=(b,o)) (zN _) v).os.trans h.os,(Below.setCell (B:=0) (Below.refl 0 w') (p:=(b,o)) (zN _) v).tape.trans h.tape,(Below.setCell (B:=0) (Below.refl 0 w') (p:=(b,o)) (zN _) v).output.trans h.output,Yk h.size (Below.setCell (B:=0) (Below.refl 0 w') (p:=(b,o)) (zN _) v).size,fun k c a=>(Below.heap_setCell w' (b,o) v k (show k≠b by omega)).trans (h.block k c a)⟩
theorem Kept.frozen(h:Kept R w w')(a:b≠R)(c:b<w):w'.frozen? (b,o)=w.frozen? (b,o):=ZJ (w:=w) (h.block b c a)
def L6(ws:J XK)(nx:M)(wr:XN)(B C:XK->XN):M:=eS ws (eS ws nx wr B) (eO ws nx wr B) C
def L5(ws:J XK)(nx:M)(wr:XN)(B C:XK->XN):XN:=eO ws (eS ws nx wr B) (eO ws nx wr B) C
theorem Ak(R A:M)(ws:J XK)(nx:M)(wr:XN)(w:XY)(h:RS w R A ws nx wr)(x:Env w)(L:10<=R):
  X4 prog 90 #[R] w fun e w'=>e=Yg (Yd #[V Y (fU ws nx wr bL eu),V Y (fU ws (eS ws nx wr bL) (eO ws nx wr bL) bL eu)])/\RS w' R A ws (L6 ws nx wr bL bL) (L5 ws nx wr bL bL)/\Kept R w w':=by
 have S:=hide x;clear x
 go_in
 go_wp21
 let⟨hRl,hAl⟩:=h.lt;obtain⟨X,c⟩:∃ X,X=w.alloc (Yh #[V Y 0,V Y 0] 60):=⟨_,rfl⟩;rw[<- c];have g:X0 w w X:=by rw[c];exact bC
 have t:X.cell? (w,0)=U (V Y 0):=by rw[c];simp
 have q:X.cell? (w,1)=U (V Y 0):=by rw[c];simp
 have m:∀ j:M,X.frozen? (w,j)=XW:=fun j=>by rw[c];simp
 have F:w<X.heap.size:=by rw[c];simp
 clear c;have i:=(aP S).later g;refine aK (LH R A ws nx wr X (h.aD g) i) ?_;rintro H ⟨z,u⟩;have C:=i.kept u L
 go_wp21
 refine aK (LH R A ws _ _ H z C) ?_;rintro G ⟨y,K⟩;have a:=u.trans K;have E:=a.cell (b:=w) (o:=0) O t;have D:=a.cell (b:=w) (o:=1) O q;have W:∀ j:M,G.frozen? (w,j)=XW:=fun j=>(a.frozen O F).trans (m j)
 have I:=(Kept.aD (R:=R) g).trans a;have T:=hide y;clear z y C i t q m;go_wp2;refine bodyPost_ret (v:=Yd #[V Y (fU ws nx wr bL eu),V Y (fU ws (eS ws nx wr bL) (eO ws nx wr bL) bL eu)]) (by simp[results,results90,go_sem,E,D]) rfl ⟨rfl,?_,?_⟩
 .exact ((aP T).other O (fun f=>by have:=hAl f;omega)).other O (fun f=>by have:=hAl f;omega)
 .exact (I.aS aI _).aS aI _
def bV(s:XK):XN:=aB.fQ s.data.toList
def dM(s:XK):XN:=fF s 1 9
def cQ(s:XK):N:=aB.cY s.data.toList
def eC(ws:J XK)(B:XK->XN)(st:M × XN):M × XN:=(eS ws st.1 st.2 B,eO ws st.1 st.2 B)
def aW(ws:J XK)(a:J (XK->XN))(st:M × XN):M × XN:=a.foldl (fun st B=>eC ws B st) st
def iC(ws:J XK)(st:M × XN):XK:=nC ws st.1 st.2
def cB(ws:J XK)(st:M × XN)(B:XK->XN)(a:XK->N):N:=fU ws st.1 st.2 B a
theorem Em(R A:M)(ws:J XK)(st:M × XN)(w:XY)(h:RS w R A ws st.1 st.2)(D:Env w)(m:10<=R):
  X4 prog 85 #[R] w fun e w' =>
   e=Yg (Yd #[iC ws st,V Y (cB ws (aW ws [bV] st) dM cQ),V Y (cB ws (aW ws [bV,dM] st) bL eu),V Y (cB ws (aW ws [bV,dM,bL] st) bL eu)]) /\
   RS w' R A ws (aW ws [bV,dM,bL,bL] st).1 (aW ws [bV,dM,bL,bL] st).2/\Kept R w w':=by
 have HE:=hide D;clear D
 go_in
 go_wp21
 obtain⟨aa,f⟩:=h.lt;obtain⟨X,c⟩:∃ X,X=w.alloc (Yh #[Ya ⟨#[]⟩,V Y 0,V Y 0,V Y 0] 151):=⟨_,rfl⟩;rw[<- c];have i:X0 w w X:=by rw[c];exact bC
 have y:X.cell? (w,0)=U (Ya ⟨#[]⟩):=by rw[c];simp
 have x:X.cell? (w,1)=U (V Y 0):=by rw[c];simp
 have u:X.cell? (w,2)=U (V Y 0):=by rw[c];simp
 have t:X.cell? (w,3)=U (V Y 0):=by rw[c];simp
 have q:∀ j:M,X.frozen? (w,j)=XW:=fun j=>by rw[c];simp
 have xs:w<X.heap.size:=by rw[c];simp
 clear c;have H:=(aP HE).later i;refine aK (uv R A ws st.1 st.2 X (h.aD i)) ?_;rintro w1 ⟨G,C⟩;have K:=H.kept C m
 go_wp21
 refine aK (Al R A ws _ _ w1 G) ?_;rintro w2 ⟨F,z⟩;have I:=K.kept z m
 go_wp21
 refine aK (Ak R A ws _ _ w2 F I m) ?_;rintro w3 ⟨E,k3⟩;have a:=(C.trans z).trans k3;have W:=a.cell (b:=w) (o:=0) O y;have T:=a.cell (b:=w) (o:=1) O x;have S:=a.cell (b:=w) (o:=2) O u;have L:=a.cell (b:=w) (o:=3) O t;have yf:∀ j:M,w3.frozen? (w,j)=XW:=fun j=>(a.frozen O xs).trans (q j)
 have kk:=(Kept.aD (R:=R) i).trans a;have H3:=hide E;clear G F E K I H y x u t q;go_wp2;refine bodyPost_ret (v:=Yd #[iC ws st,V Y (cB ws (aW ws [bV] st) dM cQ),V Y (cB ws (aW ws [bV,dM] st) bL eu),V Y (cB ws (aW ws [bV,dM,bL] st) bL eu)]) (by simp[results,results85,go_sem,W,T,S,L];exact⟨rfl,rfl,rfl,rfl⟩) rfl ⟨rfl,?_,?_⟩
 .exact ((((aP H3).other O (fun g=>by have:=f g;omega)).other O (fun g=>by have:=f g;omega)).other O (fun g=>by have:=f g;omega)).other O (fun g=>by have:=f g;omega)
 .exact (((kk.aS aI _).aS aI _).aS aI _).aS aI _
theorem UJ(R A:M)(ws:J XK)(st:M × XN)(w:XY)(h:RS w R A ws st.1 st.2)(E:cU ws.length (aW ws [bV] st).1 (aW ws [bV] st).2=XW):
  X4 prog 89 #[R] w fun e w' =>
   e=Yg (Yd #[iC ws st,XW,V Yf 0,V Yf 0])/\RS w' R A ws (aW ws [bV] st).1 (aW ws [bV] st).2/\Kept R w w':=by
 go_in
 go_wp21
 obtain⟨W,c⟩:=h.lt;obtain⟨X,a⟩:∃ X,X=w.alloc (Yh #[Ya ⟨#[]⟩,XW,V Yf 0,V Yf 0] 170):=⟨_,rfl⟩;rw[<- a];have F:X0 w w X:=by rw[a];exact bC
 have C:X.cell? (w,0)=U (Ya ⟨#[]⟩):=by rw[a];simp
 have z:X.cell? (w,1)=U ↑XW:=by rw[a];simp
 have y:X.cell? (w,2)=U (V Yf 0):=by rw[a];simp
 have x:X.cell? (w,3)=U (V Yf 0):=by rw[a];simp
 have u:∀ j:M,X.frozen? (w,j)=XW:=fun j=>by rw[a];simp
 have S:w<X.heap.size:=by rw[a];simp
 clear a;refine aK (uv R A ws st.1 st.2 X (h.aD F)) ?_;rintro f ⟨G,D⟩;have z1:=D.size
 go_wp21
 obtain⟨Y,g⟩:∃ Y,Y=f.alloc (Yh #[nC ws st.1 st.2,XW,V Yf 0,V Yf 0] 170):=⟨_,rfl⟩;rw[<- g];have t:X0 f f Y:=by rw[g];exact bC
 have v0:Y.cell? (f,0)=U (Ya (nC ws st.1 st.2)):=by rw[g];simp
 have v1:Y.cell? (f,1)=U ↑XW:=by rw[g];simp
 have v2:Y.cell? (f,2)=U (V Yf 0):=by rw[g];simp
 have v3:Y.cell? (f,3)=U (V Yf 0):=by rw[g];simp
 have ys:f<Y.heap.size:=by rw[g];simp
 clear g;have q:=D.trans (Kept.aD (R:=R) t);have L:=q.cell (b:=w) (o:=0) O C;have K:=q.cell (b:=w) (o:=1) O z;have I:=q.cell (b:=w) (o:=2) O y;have H:=q.cell (b:=w) (o:=3) O x;have yf:∀ j:M,Y.frozen? (w,j)=XW:=fun j=>(q.frozen O S).trans (u j)
 have m:=G.aD t;refine aK (iW R A ws _ _ Y m) ?_;rintro w2 ⟨n,rfl⟩;have HM:Hid (cU ws.length (eS ws st.1 st.2 fun s=>aB.fQ s.data.toList) (eO ws st.1 st.2 fun s=>aB.fQ s.data.toList)=XW):=E;rw[HM];have T:=(Kept.aD (R:=R) F).trans q;have H1:=hide m;clear G m C z y x u E;go_wp2;refine bodyPost_ret (v:=Yd #[iC ws st,XW,V Yf 0,V Yf 0]) (by simp[results,results89,go_sem,L,K,I,H];rfl) rfl ⟨rfl,?_,?_⟩
 .exact (((((aP H1).drewN _).other O (fun i=>by have:=c i;omega)).other O (fun i=>by have:=c i;omega)).other O (fun i=>by have:=c i;omega)).other O (fun i=>by have:=c i;omega)
 .exact ((((T.drewN _).aS aI _).aS aI _).aS aI _).aS aI _
theorem Vr(R A:M)(ws:J XK)(st:M × XN)(w:XY)(h:RS w R A ws st.1 st.2)(he:Env w)(S:10<=R)(L:cU ws.length (aW ws [bV] st).1 (aW ws [bV] st).2=XX):
  X4 prog 89 #[R] w fun e w' =>
   e=Yg (Yd #[iC ws st,XX,V Yf (cB ws (aW ws [bV] st) bL eu),V Yf (cB ws (aW ws [bV,bL] st) bL eu)])/\RS w' R A ws (aW ws [bV,bL,bL] st).1 (aW ws [bV,bL,bL] st).2/\Kept R w w':=by
 have HE:=hide he;clear he
 go_in
 go_wp21
 obtain⟨ac,f⟩:=h.lt;obtain⟨X,t⟩:∃ X,X=w.alloc (Yh #[Ya ⟨#[]⟩,XW,V Yf 0,V Yf 0] 170):=⟨_,rfl⟩;rw[<- t];have H:X0 w w X:=by rw[t];exact bC
 have x0:X.cell? (w,0)=U (Ya ⟨#[]⟩):=by rw[t];simp
 have x1:X.cell? (w,1)=U ↑XW:=by rw[t];simp
 have x2:X.cell? (w,2)=U (V Yf 0):=by rw[t];simp
 have x3:X.cell? (w,3)=U (V Yf 0):=by rw[t];simp
 have W:∀ j:M,X.frozen? (w,j)=XW:=fun j=>by rw[t];simp
 have xs:w<X.heap.size:=by rw[t];simp
 clear t;have eX:=(aP HE).later H;refine aK (uv R A ws st.1 st.2 X (h.aD H)) ?_;rintro a ⟨h1,K⟩;have z1:=K.size;have e1:=eX.kept K S
 go_wp21
 obtain⟨Y,q⟩:∃ Y,Y=a.alloc (Yh #[nC ws st.1 st.2,XW,V Yf 0,V Yf 0] 170):=⟨_,rfl⟩;rw[<- q];have i:X0 a a Y:=by rw[q];exact bC
 have G:Y.cell? (a,0)=U (Ya (nC ws st.1 st.2)):=by rw[q];simp
 have F:Y.cell? (a,1)=U ↑XW:=by rw[q];simp
 have v2:Y.cell? (a,2)=U (V Yf 0):=by rw[q];simp
 have E:Y.cell? (a,3)=U (V Yf 0):=by rw[q];simp
 have D:∀ j:M,Y.frozen? (a,j)=XW:=fun j=>by rw[q];simp
 have ys:a<Y.heap.size:=by rw[q];simp
 clear q;have kY:=K.trans (Kept.aD (R:=R) i);have eY:=e1.later i;have x:=h1.aD i;refine aK (iW R A ws _ _ Y x) ?_;rintro w2 ⟨n,c⟩;have HM:Hid (cU ws.length (eS ws st.1 st.2 fun s=>aB.fQ s.data.toList) (eO ws st.1 st.2 fun s=>aB.fQ s.data.toList)=XX):=L;rw[HM];have T:=x.drewN n;rw[<- c] at T;have k2:Kept R X w2:=by rw[c];exact kY.drewN n
 have e2:Env w2:=by rw[c];exact eY.drewN n
 have G:w2.cell? (a,0)=U (Ya (nC ws st.1 st.2)):=by rw[c];exact G
 have F:w2.cell? (a,1)=U ↑XW:=by rw[c];exact F
 have v2:w2.cell? (a,2)=U (V Yf 0):=by rw[c];exact v2
 have E:w2.cell? (a,3)=U (V Yf 0):=by rw[c];exact E
 have D:∀ j:M,w2.frozen? (a,j)=XW:=fun j=>by rw[c];exact D j
 have I:a<w2.heap.size:=by rw[c];exact ys
 have ad:=hide L;clear c x eY kY i ys h1 L;have H2:=hide T;have ae:=hide e2;clear T e2 eX e1
 go_wp21
 have y:a≠R:=O
 have u:=(aP H2).other (b:=a) (o:=1) (v:=Yb XX) y (fun g=>by have:=f g;omega);obtain⟨Z,m⟩:∃ Z,Z=w2.setCell (a,1) XX:=⟨_,rfl⟩;rw[<- m] at u ⊢;have u0:Z.cell? (a,0)=U (Ya (nC ws st.1 st.2)):=by rw[m];exact (aZ XA).trans G
 have u1:Z.cell? (a,1)=U ↑XX:=by rw[m];exact zm _ _ _ F
 have u2:Z.cell? (a,2)=U (V Yf 0):=by rw[m];exact (aZ XA).trans v2
 have u3:Z.cell? (a,3)=U (V Yf 0):=by rw[m];exact (aZ XA).trans E
 have uf:∀ j:M,Z.frozen? (a,j)=XW:=fun j=>by rw[m];exact (zF ..).trans (D j)
 have kZ:Kept R X Z:=by rw[m];exact k2.aS O _
 have zs:a<Z.heap.size:=by rw[m];simpa using I
 have eZ:Env Z:=(aP HE).kept (((Kept.aD (R:=R) H)).trans kZ) S;clear m G F v2 E D;refine aK (Ak R A ws _ _ Z u eZ S) ?_;rintro w3 ⟨h3,C⟩;have z:=kZ.trans C;have y0:=z.cell (b:=w) (o:=0) O x0;have y1:=z.cell (b:=w) (o:=1) O x1;have y2:=z.cell (b:=w) (o:=2) O x2;have y3:=z.cell (b:=w) (o:=3) O x3;have yf:∀ j:M,w3.frozen? (w,j)=XW:=fun j=>(z.frozen O xs).trans (W j)
 have q0:=C.cell (b:=a) (o:=0) y u0;have q1:=C.cell (b:=a) (o:=1) y u1;have q2:=C.cell (b:=a) (o:=2) y u2;have q3:=C.cell (b:=a) (o:=3) y u3;have qf:∀ j:M,w3.frozen? (a,j)=XW:=fun j=>(C.frozen y zs).trans (uf j)
 have kt:=(Kept.aD (R:=R) H).trans z;have H3:=hide h3;have ab:w≠a.heap.size:=O
 have aa:a≠w.heap.size:=O
 clear h3 u eZ x0 x1 x2 x3 W u0 u1 u2 u3 uf;go_wp2;refine bodyPost_ret (v:=Yd #[iC ws st,XX,V Yf (cB ws (aW ws [bV] st) bL eu),V Yf (cB ws (aW ws [bV,bL] st) bL eu)]) (by simp[results,results89,go_sem,y0,y1,y2,y3];exact⟨rfl,rfl,rfl⟩) rfl ⟨rfl,?_,?_⟩
 .exact ((((((aP H3).other O (fun g=>by have:=f g;omega)).other O (fun g=>by have:=f g;omega)).other O (fun g=>by have:=f g;omega)).other O (fun g=>by have:=f g;omega)).other O (fun g=>by have:=f g;omega)).other O (fun g=>by have:=f g;omega)
 .exact (((((kt.aS O _).aS O _).aS aI _).aS aI _).aS aI _).aS aI _
theorem Vy(f:XZ)(R A:M)(ws:J XK)(nx:M)(wr:XN)(w:XY)(h:RS w R A ws nx wr)(hm:cU ws.length nx wr=XW):
  X4 prog 193 #[R,f] w fun e w'=>e=Yg (fP [])/\RS w' R A ws nx XX/\Kept R w w':=by
 go_in
 go_wp21
 obtain⟨X,t⟩:∃ X,X=(w.alloc (Yh #[XW,XW,XW,XW,XW,XW,XW] 160)).alloc (Yh #[XW,XW,XW,XW,XW,XW,XW] 160):=⟨_,rfl⟩;rw[<- t];let⟨hRl,hAl⟩:=h.lt;have u:X0 w w X:=by rw[t];exact bC.alloc XA _
 have hZ:w+2=X.heap.size:=by rw[t];simp
 have i:DS X w []:=by
  rw[t];refine⟨?_,?_,?_,?_,?_,?_,?_,fun j=>?_⟩ <;> simp[aL]
 have m:DS X (w.heap.size+1) []:=by
  rw[t];refine⟨?_,?_,?_,?_,?_,?_,?_,fun j=>?_⟩ <;> simp[aL]
 clear t;refine aK (iW R A ws nx wr X (h.aD u)) ?_;rintro w1 ⟨n,q⟩;have x:RS w1 R A ws nx wr:=by rw[q];exact (h.aD u).drewN n
 have H:Kept R w w1:=by rw[q];exact (Kept.aD u).drewN n
 have a:DS w1 w []:=by rw[q];exact⟨i.c0,i.c1,i.c2,i.c3,i.c4,i.c5,i.c6,i.f⟩
 have c:DS w1 (w.heap.size+1) []:=by rw[q];exact⟨m.c0,m.c1,m.c2,m.c3,m.c4,m.c5,m.c6,m.f⟩
 have I:X=w1.heap.size:=by rw[q];rfl
 have c2:=x.c2;have f2:=x.f2;clear q i m;have q0:=c.c0;have q1:=c.c1;have W:=c.c2;have T:=c.c3;have S:=c.c4;have L:=c.c5;have K:=c.c6;have G:=a.c0;have F:=a.c1;have E:=a.c2;have D:=a.c3;have C:=a.c4;have z:=a.c5;have y:=a.c6;have fR:=a.f;have fD:=c.f;have n1:R≠w:=O
 have n2:R≠w+1:=O
 go_wp2;refine bodyPost_ret (v:=fP []) (by simp[results,results193,go_sem,fP,aL,G,F,E,D,C,z,y]) rfl ⟨rfl,?_,?_⟩
 .exact (((((((x.bad.other O (fun g=>by have:=hAl g;omega)).other O (fun g=>by have:=hAl g;omega)).other O (fun g=>by have:=hAl g;omega)).other O (fun g=>by have:=hAl g;omega)).other O (fun g=>by have:=hAl g;omega)).other O (fun g=>by have:=hAl g;omega)).other O (fun g=>by have:=hAl g;omega))
 .exact (((((((H.setCell _ _).aS aI _).aS aI _).aS aI _).aS aI _).aS aI _).aS aI _).aS aI _
theorem Sc{acc0:J N}(acc:J N)(h:DS w b acc0):DS (((((((w.setCell (b,0) (aL acc 0)).setCell (b,1) (aL acc 1)).setCell (b,2) (aL acc 2)).setCell (b,3) (aL acc 3)).setCell (b,4) (aL acc 4)).setCell (b,5) (aL acc 5)).setCell (b,6) (aL acc 6)) b acc:=by
 have s:∀ (x:XY) (o:M) (v u:XZ),x.cell? (b,o)=U u->(x.setCell (b,o) v).cell? (b,o)=U v:=fun x o v u a=>zm x (b,o) v a
 have o:∀ (x:XY) (i j:M) (v:XZ),i≠j->(x.setCell (b,i) v).cell? (b,j)=x.cell? (b,j):=fun x i j v _=>aZ XA
 refine⟨?_,?_,?_,?_,?_,?_,?_,fun j=>?_⟩
 .rw[o _ 6 0 _ XC,o _ 5 0 _ XC,o _ 4 0 _ XC,o _ 3 0 _ XC,o _ 2 0 _ XC,o _ 1 0 _ XC];refine s _ _ _ (aL acc0 0) ?_;exact h.c0
 .rw[o _ 6 1 _ XC,o _ 5 1 _ XC,o _ 4 1 _ XC,o _ 3 1 _ XC,o _ 2 1 _ XC];refine s _ _ _ (aL acc0 1) ?_;rw[o _ 0 1 _ XC];exact h.c1
 .rw[o _ 6 2 _ XC,o _ 5 2 _ XC,o _ 4 2 _ XC,o _ 3 2 _ XC];refine s _ _ _ (aL acc0 2) ?_;rw[o _ 1 2 _ XC,o _ 0 2 _ XC];exact h.c2
 .rw[o _ 6 3 _ XC,o _ 5 3 _ XC,o _ 4 3 _ XC];refine s _ _ _ (aL acc0 3) ?_;rw[o _ 2 3 _ XC,o _ 1 3 _ XC,o _ 0 3 _ XC];exact h.c3
 .rw[o _ 6 4 _ XC,o _ 5 4 _ XC];refine s _ _ _ (aL acc0 4) ?_;rw[o _ 3 4 _ XC,o _ 2 4 _ XC,o _ 1 4 _ XC,o _ 0 4 _ XC];exact h.c4
 .rw[o _ 6 5 _ XC];refine s _ _ _ (aL acc0 5) ?_;rw[o _ 4 5 _ XC,o _ 3 5 _ XC,o _ 2 5 _ XC,o _ 1 5 _ XC,o _ 0 5 _ XC];exact h.c5
 .refine s _ _ _ (aL acc0 6) ?_;rw[o _ 5 6 _ XC,o _ 4 6 _ XC,o _ 3 6 _ XC,o _ 2 6 _ XC,o _ 1 6 _ XC,o _ 0 6 _ XC];exact h.c6
 .simp only[World.frozen?_setCell];exact h.f j
def L3(b:XN)(s:XK)(e:Ending):Prop:=∃ acc,e=Yg (fP acc)/\(b=XX->aB.iX s=U acc)
theorem Qq(w:XY)(b:M)(t q v2 m i f a:XN)(c o:M)(h:c≠b):(((((((w.setCell (b,0) t).setCell (b,1) q).setCell (b,2) v2).setCell (b,3) m).setCell (b,4) i).setCell (b,5) f).setCell (b,6) a).cell? (c,o)=w.cell? (c,o):=by
 have g:∀ (x:XY) (j:M) (v:XZ),(x.setCell (b,j) v).cell? (c,o)=x.cell? (c,o):=fun x j v=>World.cell?_setCell_far x (b,j) (c,o) v (Ne.symm h)
 rw[g,g,g,g,g,g,g]
theorem Wc(b:XN)(R A:M)(ws:J XK)(nx:M)(wr:XN)(w:XY)(h:RS w R A ws nx wr)(he:Env w)(hm:cU ws.length nx wr=XX)(G:nx<ws.length)(hb:aB.eJ ws[nx]=b):
  X4 prog 193 #[R,.func (.func 194) #[] #[]] w fun e w'=>L3 b ws[nx] e/\RS w' R A ws (if b then nx+1 else nx) (if b then wr else XX)/\Kept R w w':=by
 have hi:(nx:N)<(ws.length:N):=O
 have af:(0:N)<=(nx:N):=Int.natCast_nonneg _;have aa:ws[nx].size<=160:=h.short _ (zg G);have ac:=hide aa;have HE:=hide he;clear aa he
 go_in
 go_wp21
 obtain⟨X,W⟩:∃ X,X=(w.alloc (Yh #[XW,XW,XW,XW,XW,XW,XW] 160)).alloc (Yh #[XW,XW,XW,XW,XW,XW,XW] 160):=⟨_,rfl⟩;rw[<- W];obtain⟨ag,a⟩:=h.lt;have hB:X0 w w X:=by rw[W];exact bC.alloc XA _
 have hZ:w+2=X.heap.size:=by rw[W];simp
 have E:DS X w []:=by
  rw[W];refine⟨?_,?_,?_,?_,?_,?_,?_,fun j=>?_⟩ <;> simp[aL]
 have F:DS X (w.heap.size+1) []:=by
  rw[W];refine⟨?_,?_,?_,?_,?_,?_,?_,fun j=>?_⟩ <;> simp[aL]
 clear W;refine aK (iW R A ws nx wr X (h.aD hB)) ?_;rintro w1 ⟨n,S⟩;have D:RS w1 R A ws nx wr:=by rw[S];exact (h.aD hB).drewN n
 have k1:Kept R w w1:=by rw[S];exact (Kept.aD hB).drewN n
 have I:DS w1 w []:=by rw[S];exact⟨E.c0,E.c1,E.c2,E.c3,E.c4,E.c5,E.c6,E.f⟩
 have K:DS w1 (w.heap.size+1) []:=by rw[S];exact⟨F.c0,F.c1,F.c2,F.c3,F.c4,F.c5,F.c6,F.f⟩
 have z1:X=w1.heap.size:=by rw[S];rfl
 have ad:Hid (Env w1):=by show Env w1;rw[S];exact ((aP HE).later hB).drewN n
 have c0:=D.c0;have c1:=D.c1;have cr:=D.rows nx G;have c:=D.len;clear S
 go_wp21
 have ab:w1≠R:=by have:=D.lt.1;omega
 have ae:w1≠A:=by have:=D.lt.2 O;omega
 go_region_held3 (fun w'=>w'.cell? (R,0)=U (X9 A ws.length ws.length)/\w'.cell? (R,1)=U (X7 Y nx)/\w'.cell? (A,nx)=U (Ya ws[nx]))
  (first
   |go_keep
   |(
    go_split_ands
    refine⟨?_,?_,?_⟩
    .exact cell_later g XD
    .exact cell_later g XD
    .exact cell_later g XD)
   |(
    refine⟨?_,?_,?_⟩
    .exact cell_later bC (cell_later g c0)
    .exact cell_later bC (cell_later g c1)
    .exact cell_later bC (cell_later g cr))
   |(
    refine⟨?_,?_,?_⟩
    .exact (kq _ _ ab.symm).trans (cell_later g (cell_later bC c0))
    .exact (kq _ _ ab.symm).trans (cell_later g (cell_later bC c1))
    .exact (kq _ _ ae.symm).trans (cell_later g (cell_later bC cr))))
  ((go_at_call 194;first
   |(
    refine (KC _ _ ?_ (aP ac)).mono ?_
    .exact (aP ad).later ⟨rfl,rfl,rfl,Yi _,fun _ _=>rfl⟩
    rintro e w4 ⟨⟨acc,rfl,t⟩,g⟩
    simp only[fP])
   |(
    refine (KC _ _ ?_ (aP ac)).mono ?_
    .exact ((aP ad).later bC).later ⟨rfl,rfl,rfl,Yi _,fun _ _=>rfl⟩
    rintro e w4 ⟨⟨acc,rfl,t⟩,g⟩;have H:DS w4 w1 []:=DS.later (by refine⟨?_,?_,?_,?_,?_,?_,?_,fun j=>?_⟩ <;> simp[aL]) g;have t0:=H.c0;have t1:=H.c1;have t2:=H.c2;have t3:=H.c3;have t4:=H.c4;have t5:=H.c5;have t6:=H.c6;have tf:=H.f;have kq:=Qq w4 w1 (aL acc 0) (aL acc 1) (aL acc 2) (aL acc 3) (aL acc 4) (aL acc 5) (aL acc 6);clear H
    simp only[fP])))
 .obtain⟨Z,x⟩:∃ Z,Z=w4.alloc (Yh #[aL acc 0,aL acc 1,aL acc 2,aL acc 3,aL acc 4,aL acc 5,aL acc 6] 160):=⟨_,rfl⟩;rw[<- x];have q:X0 w1 w1 w4:=⟨g.os,g.tape,g.output,g.size,g.block⟩;have m:X0 w1 w1 Z:=by rw[x];exact q.trans (fo.alloc q.size _)
  have y:DS Z w4 acc:=by
   rw[x];refine⟨?_,?_,?_,?_,?_,?_,?_,fun j=>?_⟩ <;> simp
  have T:w+1<w4.heap.size:=by have:=q.size;omega
  have i:=D.aD m;have kZ:=k1.trans (Kept.aD (R:=R) m);have u:=I.later m;have zD:=K.later m;obtain⟨V,hV⟩:∃ V,V=w4:=⟨_,rfl⟩;rw[<- hV] at T y ⊢;clear x q m g hV I K E F;rw[hb] at t;have C:=hide t;clear c0 c1 cr t D k1 h;have x1:=i.c1;have x2:=i.c2;have x3:=i.f1;have x4:=i.f2;have q0:=zD.c0;have q1:=zD.c1;have q2:=zD.c2;have q3:=zD.c3;have q4:=zD.c4;have q5:=zD.c5;have q6:=zD.c6;have r0:=u.c0;have r1:=u.c1;have r2:=u.c2;have r3:=u.c3;have r4:=u.c4;have r5:=u.c5;have r6:=u.c6;have fR:=u.f;have s0:=y.c0;have s1:=y.c1;have s2:=y.c2;have s3:=y.c3;have s4:=y.c4;have s5:=y.c5;have s6:=y.c6;have n1:R≠w:=O
  have n2:R≠w+1:=O
  have n3:R≠V:=O
  have z:=hide i;clear i u zD y
  cases b
  .go_wp2;refine bodyPost_ret (v:=fP []) (by simp[results,results193,go_sem,fP,aL,r0,r1,r2,r3,r4,r5,r6]) rfl ⟨⟨[],rfl,fun h=>XT h XC⟩,?_,?_⟩
   .exact ((((((((aP z).bad.other O (fun c=>by have:=a c;omega)).other O (fun c=>by have:=a c;omega)).other O (fun c=>by have:=a c;omega)).other O (fun c=>by have:=a c;omega)).other O (fun c=>by have:=a c;omega)).other O (fun c=>by have:=a c;omega)).other O (fun c=>by have:=a c;omega))
   .exact (((((((kZ.setCell _ _).aS aI _).aS aI _).aS aI _).aS aI _).aS aI _).aS aI _).aS aI _
  .go_wp2;refine bodyPost_ret (v:=fP acc) (by simp[results,results193,go_sem,fP,r0,r1,r2,r3,r4,r5,r6]) rfl ⟨⟨acc,rfl,fun _=>aP C trivial⟩,?_,?_⟩
   .exact (((((((((aP z).step G).other O (fun c=>by have:=a c;omega)).other O (fun c=>by have:=a c;omega)).other O (fun c=>by have:=a c;omega)).other O (fun c=>by have:=a c;omega)).other O (fun c=>by have:=a c;omega)).other O (fun c=>by have:=a c;omega)).other O (fun c=>by have:=a c;omega))
   .exact (((((((kZ.setCell _ _).aS aI _).aS aI _).aS aI _).aS aI _).aS aI _).aS aI _).aS aI _
 .obtain⟨Z,x⟩:∃ Z,Z=((((((w4.setCell (w1,0) (aL acc 0)).setCell (w1,1) (aL acc 1)).setCell (w1,2) (aL acc 2)).setCell (w1,3) (aL acc 3)).setCell (w1,4) (aL acc 4)).setCell (w1,5) (aL acc 5)).setCell (w1,6) (aL acc 6):=⟨_,rfl⟩;rw[<- x];have L:X0 w1 (w1.alloc (Yh #[XW,XW,XW,XW,XW,XW,XW] 160)) w4:=⟨g.os,g.tape,g.output,g.size,fun k hk=>g.block k XG⟩;have q:X0 w1 w1 w4:=((zr w1 w1).alloc aI _).trans L;clear L;have m:X0 w1 w1 Z:=by rw[x];exact ((((((q.setCell aI _).setCell aI _).setCell aI _).setCell aI _).setCell aI _).setCell aI _).setCell aI _
  have y:DS Z w1 acc:=by
   rw[x];exact Sc acc (acc0:=[]) ⟨t0,t1,t2,t3,t4,t5,t6,tf⟩
  have T:w+1<w1.heap.size:=O
  have i:=D.aD m;have kZ:=k1.trans (Kept.aD (R:=R) m);have u:=I.later m;have zD:=K.later m;obtain⟨V,hV⟩:∃ V,V=w1:=⟨_,rfl⟩;rw[<- hV] at T y ⊢;clear x q m g hV I K E F t0 t1 t2 t3 t4 t5 t6 tf kq;rw[hb] at t;have C:=hide t;clear c0 c1 cr t D k1 h;have x1:=i.c1;have x2:=i.c2;have x3:=i.f1;have x4:=i.f2;have q0:=zD.c0;have q1:=zD.c1;have q2:=zD.c2;have q3:=zD.c3;have q4:=zD.c4;have q5:=zD.c5;have q6:=zD.c6;have r0:=u.c0;have r1:=u.c1;have r2:=u.c2;have r3:=u.c3;have r4:=u.c4;have r5:=u.c5;have r6:=u.c6;have fR:=u.f;have s0:=y.c0;have s1:=y.c1;have s2:=y.c2;have s3:=y.c3;have s4:=y.c4;have s5:=y.c5;have s6:=y.c6;have n1:R≠w:=O
  have n2:R≠w+1:=O
  have n3:R≠V:=O
  have z:=hide i;clear i u zD y
  cases b
  .go_wp2;refine bodyPost_ret (v:=fP []) (by simp[results,results193,go_sem,fP,aL,r0,r1,r2,r3,r4,r5,r6]) rfl ⟨⟨[],rfl,fun h=>XT h XC⟩,?_,?_⟩
   .exact ((((((((aP z).bad.other O (fun c=>by have:=a c;omega)).other O (fun c=>by have:=a c;omega)).other O (fun c=>by have:=a c;omega)).other O (fun c=>by have:=a c;omega)).other O (fun c=>by have:=a c;omega)).other O (fun c=>by have:=a c;omega)).other O (fun c=>by have:=a c;omega))
   .exact (((((((kZ.setCell _ _).aS aI _).aS aI _).aS aI _).aS aI _).aS aI _).aS aI _).aS aI _
  .go_wp2;refine bodyPost_ret (v:=fP acc) (by simp[results,results193,go_sem,fP,r0,r1,r2,r3,r4,r5,r6]) rfl ⟨⟨acc,rfl,fun _=>aP C trivial⟩,?_,?_⟩
   .exact (((((((((aP z).step G).other O (fun c=>by have:=a c;omega)).other O (fun c=>by have:=a c;omega)).other O (fun c=>by have:=a c;omega)).other O (fun c=>by have:=a c;omega)).other O (fun c=>by have:=a c;omega)).other O (fun c=>by have:=a c;omega)).other O (fun c=>by have:=a c;omega))
   .exact (((((((kZ.setCell _ _).aS aI _).aS aI _).aS aI _).aS aI _).aS aI _).aS aI _).aS aI _
theorem Vx(R A:M)(ws:J XK)(nx:M)(wr:XN)(w:XY)(h:RS w R A ws nx wr)(i:Env w):
  X4 prog 193 #[R,.func (.func 194) #[] #[]] w fun e w'=>L3 (eU ws nx wr aB.eJ) (ws.getD nx ByteArray.empty) e/\RS w' R A ws (eS ws nx wr aB.eJ) (eO ws nx wr aB.eJ)/\Kept R w w':=by
 cases c:cU ws.length nx wr
 .have t:=ua (B:=aB.eJ) c;rw[eS,eO,t];refine aK (Vy _ R A ws nx wr w h c) ?_;rintro w' ⟨j,g⟩;exact⟨⟨[],rfl,fun h=>XT h XC⟩,j,g⟩
 .have a:=rh c;obtain⟨b,f⟩:∃ b,aB.eJ ws[nx]=b:=⟨_,rfl⟩;have t:=nQ (B:=aB.eJ) c a f;rw[eS,eO,t,qV ws nx a];exact Wc b R A ws nx wr w h i c a f
def rv(pc ev:N)(acc:J N)(fr mn mi ti un:N):M->XZ
 |0=>V Y pc
 |1=>V Y ev
 |2=>Yb (aL acc 0)
 |3=>Yb (aL acc 1)
 |4=>Yb (aL acc 2)
 |5=>Yb (aL acc 3)
 |6=>Yb (aL acc 4)
 |7=>Yb (aL acc 5)
 |8=>Yb (aL acc 6)
 |9=>V Y fr
 |10=>V Y mn
 |11=>V Y mi
 |12=>V Y ti
 |_=>V Y un
structure RL(w:XY)(P:M)(v:M->XZ):Prop where
 c:∀ j:M,j<14->w.cell? (P,j)=U (v j)
 f:∀ j:M,w.frozen? (P,j)=XW
theorem pP{p:M->Prop}(D:p 0)(C:p 1)(z:p 2)(y:p 3)(x:p 4)(u:p 5)(t:p 6)(q:p 7)(m:p 8)(i:p 9)(g:p 10)(f:p 11)(c:p 12)(a:p 13):∀ j:M,j<14->p j
 |0,_=>D
 |1,_=>C
 |2,_=>z
 |3,_=>y
 |4,_=>x
 |5,_=>u
 |6,_=>t
 |7,_=>q
 |8,_=>m
 |9,_=>i
 |10,_=>g
 |11,_=>f
 |12,_=>c
 |13,_=>a
 |n+14,h=>XT h O
theorem RL.lt(h:RL w P v):P<w:=Yl _ (P,0) (h.c 0 O)
theorem RL.set(h:RL w P v)(j:M)(g:j<14)(x:XZ):RL (w.setCell (P,j) x) P (fun i=>if i=j then x else v i):=by
 refine⟨fun i a=>?_,fun i=>(zF ..).trans (h.f i)⟩
 by_cases e:i=j
 .subst e;rw[XS rfl];exact zm _ (P,i) _ (h.c i a)
 .rw[if_neg e];exact (aZ XA).trans (h.c i a)
theorem RL.congr{v':M->XZ}(h:RL w P v)(e:∀ j:M,j<14->v j=v' j):RL w P v':=⟨fun j a=>by rw[<- e j a];exact h.c j a,h.f⟩
theorem RL.other{x:XZ}(h:RL w P v)(g:b≠P):RL (w.setCell (b,o) x) P v :=
 ⟨fun j a=>(World.cell?_setCell_far w (b,o) (P,j) x g).trans (h.c j a),fun i=>(zF ..).trans (h.f i)⟩
theorem RL.kept(h:RL w P v)(k:Kept R w w')(a:P≠R):RL w' P v :=
 ⟨fun j g=>k.cell a (h.c j g),fun j=>(k.frozen a h.lt).trans (h.f j)⟩
structure kv(R P:M)(w w':XY):Prop where
 os:w'.os=w.os
 tape:w'.tape=w.tape
 output:w'.output=w.output
 size:w<=w'.heap.size
 block:∀ k,k<w.heap.size->k≠R->k≠P->w'.heap[k]?=w.heap[k]?
theorem Kept.two(P:M)(k:Kept R w w'):kv R P w w':=⟨k.os,k.tape,k.output,k.size,fun i c a _=>k.block i c a⟩
theorem kv.trans{a b c:XY}(h:kv R P a b)(k:kv R P b c):kv R P a c :=
 ⟨k.os.trans h.os,k.tape.trans h.tape,k.output.trans h.output,Yk h.size k.size,fun i j f g=>(k.block i (zL j h.size) f g).trans (h.block i j f g)⟩
theorem kv.gC(h:kv R P w w')(o:M)(v:XZ):kv R P w (w'.setCell (P,o) v) :=
 ⟨(Below.setCell (B:=0) (Below.refl 0 w') (p:=(P,o)) (zN _) v).os.trans h.os,(Below.setCell (B:=0) (Below.refl 0 w') (p:=(P,o)) (zN _) v).tape.trans h.tape,(Below.setCell (B:=0) (Below.refl 0 w') (p:=(P,o)) (zN _) v).output.trans h.output,Yk h.size (Below.setCell (B:=0) (Below.refl 0 w') (p:=(P,o)) (zN _) v).size,fun k f c a=>(Below.heap_setCell w' (P,o) v k a).trans (h.block k f c a)⟩
theorem kv.vL(h:kv R P w w')(o:M)(v:XZ):kv R P w (w'.setCell (R,o) v) :=
 ⟨(Below.setCell (B:=0) (Below.refl 0 w') (p:=(R,o)) (zN _) v).os.trans h.os,(Below.setCell (B:=0) (Below.refl 0 w') (p:=(R,o)) (zN _) v).tape.trans h.tape,(Below.setCell (B:=0) (Below.refl 0 w') (p:=(R,o)) (zN _) v).output.trans h.output,Yk h.size (Below.setCell (B:=0) (Below.refl 0 w') (p:=(R,o)) (zN _) v).size,fun k f a c=>(Below.heap_setCell w' (R,o) v k a).trans (h.block k f a c)⟩
theorem kv.one{x:XY}(k:Kept R w x)(h:kv R P x w')(f:w<=P):Kept R w w' :=
 ⟨h.os.trans k.os,h.tape.trans k.tape,h.output.trans k.output,Yk k.size h.size,fun i c a=>(h.block i (zL c k.size) a O).trans (k.block i c a)⟩
theorem Env.gT(h:Env w)(k:kv R P w w')(q:10<=R)(t:10<=P):Env w':=by
 have g:X0 10 w w':=⟨k.os,k.tape,k.output,k.size,fun i j=>k.block i (zL j h.size) O O⟩;have a:∀ (b o:M) (v:XZ),b<10->w.cell? (b,o)=U v->w'.cell? (b,o)=U v:=fun b o v f e=>(g.cell (p:=(b,o)) f).trans e
 let⟨m,hm⟩:=h.uM;let⟨c0,c1,c2,c3,c4,c5,c6,c7,c8,c9,c10,c11⟩:=h.jv;refine⟨⟨a _ _ _ O c0,a _ _ _ O c1,a _ _ _ O c2,a _ _ _ O c3,a _ _ _ O c4,a _ _ _ O c5,a _ _ _ O c6,a _ _ _ O c7,a _ _ _ O c8,a _ _ _ O c9,a _ _ _ O c10,a _ _ _ O c11⟩,⟨m,a _ _ _ O hm⟩,?_,Yk h.size k.size,a _ _ _ O h.mo,a _ _ _ O h.tu,a _ _ _ O h.we,a _ _ _ O h.th,a _ _ _ O h.fr,a _ _ _ O h.sa,a _ _ _ O h.su⟩;have c:=h.pow;unfold Lib.TabIs World.var? at c ⊢;simp only[wO,Option.bind_some] at c ⊢;rw[g.block 0 O];exact c
def jG:XK:=⟨#[100,97,105,108,121]⟩
def jd:XK:=⟨#[119,101,101,107,108,121]⟩
def kI:XK:=⟨#[109,111,110,116,104,108,121]⟩
def jD:XK:=⟨#[116,105,109,101,115]⟩
def kg:XK:=⟨#[117,110,116,105,108]⟩
def dQ:XK:=⟨#[102,114,111,109]⟩
def eP:XK:=⟨#[97,116]⟩
def gM:XK:=⟨#[102,111,114]⟩
def eT(s:XK):XN:=fF s 1 99
def fc(s:XK):XN:=fF s 1 1048320
def bU(x s:XK):XN:=s.toList==x.toList
def eK(st:M × XN):M × XN:=(st.1+1,st.2)
inductive ph (ws:XL XK) (st:XP × XN):XQ->XQ->XL XQ->XP × XN->Prop where
 |daily (h:bS ws st.1 st.2 jG=XX):ph ws st 1 (cB ws (eK st) eT cQ) [] (aW ws [eT] (eK st))
 |weekly (h1:bS ws st.1 st.2 jG=XW) (h:bS ws st.1 st.2 jd=XX) (acc:XL XQ) (ha:eU ws (aW ws [eT] (eK st)).1 (aW ws [eT] (eK st)).2 aB.eJ=XX->aB.iX (ws.getD (aW ws [eT] (eK st)).1 ByteArray.empty)=XV acc):
   ph ws st 2 (cB ws (eK st) eT cQ) acc (aW ws [eT,aB.eJ] (eK st))
 |monthly (h1:bS ws st.1 st.2 jG=XW) (h2:bS ws st.1 st.2 jd=XW) (h:bS ws st.1 st.2 kI=XX):ph ws st 3 (cB ws (eK st) eT cQ) [] (aW ws [eT] (eK st))
 |none (h1:bS ws st.1 st.2 jG=XW) (h2:bS ws st.1 st.2 jd=XW) (h:bS ws st.1 st.2 kI=XW):ph ws st 0 0 [] (st.1,XX)
theorem Db{ev:N}(h:RL w P (rv pc ev acc fr mn mi ti un))(x:N):RL (w.setCell (P,0) x) P (rv x ev acc fr mn mi ti un):=(h.set 0 O _).congr (pP rfl rfl rfl rfl rfl rfl rfl rfl rfl rfl rfl rfl rfl rfl)
theorem Dc{ev:N}(h:RL w P (rv pc ev acc fr mn mi ti un))(x:N):RL (w.setCell (P,1) x) P (rv pc x acc fr mn mi ti un):=(h.set 1 O _).congr (pP rfl rfl rfl rfl rfl rfl rfl rfl rfl rfl rfl rfl rfl rfl)
theorem RP{ev:N}(h:RL w P (rv pc ev acc fr mn mi ti un))(x:N):RL (w.setCell (P,9) x) P (rv pc ev acc x mn mi ti un):=(h.set 9 O _).congr (pP rfl rfl rfl rfl rfl rfl rfl rfl rfl rfl rfl rfl rfl rfl)
theorem SF{ev:N}(h:RL w P (rv pc ev acc fr mn mi ti un))(x:N):RL (w.setCell (P,10) x) P (rv pc ev acc fr x mi ti un):=(h.set 10 O _).congr (pP rfl rfl rfl rfl rfl rfl rfl rfl rfl rfl rfl rfl rfl rfl)
theorem SG{ev:N}(h:RL w P (rv pc ev acc fr mn mi ti un))(x:N):RL (w.setCell (P,11) x) P (rv pc ev acc fr mn x ti un):=(h.set 11 O _).congr (pP rfl rfl rfl rfl rfl rfl rfl rfl rfl rfl rfl rfl rfl rfl)
theorem SH{ev:N}(h:RL w P (rv pc ev acc fr mn mi ti un))(x:N):RL (w.setCell (P,12) x) P (rv pc ev acc fr mn mi x un):=(h.set 12 O _).congr (pP rfl rfl rfl rfl rfl rfl rfl rfl rfl rfl rfl rfl rfl rfl)
theorem SI{ev:N}(h:RL w P (rv pc ev acc fr mn mi ti un))(x:N):RL (w.setCell (P,13) x) P (rv pc ev acc fr mn mi ti x):=(h.set 13 O _).congr (pP rfl rfl rfl rfl rfl rfl rfl rfl rfl rfl rfl rfl rfl rfl)
theorem SJ{ev:N}(h:RL w P (rv pc ev acc fr mn mi ti un))(x:J N):
  RL (((((((w.setCell (P,2) (aL x 0)).setCell (P,3) (aL x 1)).setCell (P,4) (aL x 2)).setCell (P,5) (aL x 3)).setCell (P,6) (aL x 4)).setCell (P,7) (aL x 5)).setCell (P,8) (aL x 6)) P (rv pc ev x fr mn mi ti un) :=
 (((((((h.set 2 O _).set 3 O _).set 4 O _).set 5 O _).set 6 O _).set 7 O _).set 8 O _).congr (pP rfl rfl rfl rfl rfl rfl rfl rfl rfl rfl rfl rfl rfl rfl)
theorem UL(R A P:M)(ws:J XK)(st:M × XN)(w:XY)(h:RS w R A ws st.1 st.2)(he:Env w)(F:10<=R)(hP:10<=P)(a:P≠R)(g:0<ws.length->P≠A)(hl:RL w P (rv 0 0 [] 0 0 0 0 0)):
  X4 prog 133 #[R,P] w fun e w' =>
   ∃ (pc ev:N) (acc:J N) (s:M × XN),e=Yg (Yc #[])/\ph ws st pc ev acc s/\RS w' R A ws s.1 s.2/\RL w' P (rv pc ev acc 0 0 0 0 0)/\kv R P w w':=by
 have HE:=hide he;clear he
 go_in
 go_wp21
 refine aK (jt R A ws st.1 st.2 jG w h) ?_;rintro w1 ⟨S,k1⟩;have y:=k1.two P;have l1:=hl.kept k1 a;clear h hl k1
 cases I:bS ws st.1 st.2 jG
 .rw[I] at S
  go_wp21
  refine aK (jt R A ws st.1 st.2 jd w1 S) ?_;rintro w2 ⟨L,k2⟩;have x:=y.trans (k2.two P);have H:=l1.kept k2 a;clear S y l1 k2
  cases X:bS ws st.1 st.2 jd
  .rw[X] at L
   go_wp21
   refine aK (jt R A ws st.1 st.2 kI w2 L) ?_;rintro w3 ⟨G,k3⟩;have E:=x.trans (k3.two P);have W:=H.kept k3 a;clear L x H k3
   cases hm:bS ws st.1 st.2 kI
   .rw[hm] at G;have c2:=G.c2;have f2:=G.f2;go_wp2
    go_end0
    exact⟨0,0,[],(st.1,XX),rfl,.none I X hm,G.bad,W.other a.symm,E.vL _ _⟩
   .rw[hm,XS rfl] at G;have T:=W.c 0 O;have t:=W.f
    go_wp21
    have C:=G.other (b:=P) (o:=0) (v:=V Y 3) a g;have z:=Db W 3;have q:=E.gC 0 (V Y 3);have EZ:=hide ((aP HE).gT q F hP);clear T t G W E;refine aK (En R A ws (st.1+1) st.2 _ C) ?_;rintro w5 ⟨K,i⟩;have j:=q.trans (i.two P);have m:=z.kept i a;have E5:=hide ((aP EZ).kept i F);clear C z q i;have p1:=m.c 1 O;have t:=m.f;go_wp2
    go_end0
    exact⟨3,cB ws (eK st) eT cQ,[],aW ws [eT] (eK st),rfl,.monthly I X hm,K.other a g,Dc m _,j.gC _ _⟩
  .rw[X,XS rfl] at L;have T:=H.c 0 O;have t:=H.f
   go_wp21
   have C:=L.other (b:=P) (o:=0) (v:=V Y 2) a g;have z:=Db H 2;have q:=x.gC 0 (V Y 2);have EZ:=hide ((aP HE).gT q F hP);clear T t L H x;refine aK (En R A ws (st.1+1) st.2 _ C) ?_;rintro w5 ⟨K,i⟩;have j:=q.trans (i.two P);have m:=z.kept i a;have E5:=hide ((aP EZ).kept i F);clear C z q i;have p1:=m.c 1 O;have t:=m.f
   go_wp21
   have h6:=K.other (b:=P) (o:=1) (v:=V Y (fU ws (st.1+1) st.2 (fun s=>fF s 1 99) (fun s=>aB.cY s.data.toList))) a g;have l6:=Dc m (fU ws (st.1+1) st.2 (fun s=>fF s 1 99) (fun s=>aB.cY s.data.toList));have k6:=j.gC 1 (V Y (fU ws (st.1+1) st.2 (fun s=>fF s 1 99) (fun s=>aB.cY s.data.toList)));have E6:=hide ((aP HE).gT k6 F hP);clear p1 t K m j;refine (Vx R A ws _ _ _ h6 (aP E6)).mono ?_;rintro e w7 ⟨⟨acc,rfl,D⟩,h7,k7⟩;have ab:=k6.trans (k7.two P);have u:=l6.kept k7 a;have aa:=hide D;clear h6 l6 k6 k7 D;have p2:=u.c 2 O;have p3:=u.c 3 O;have p4:=u.c 4 O;have p5:=u.c 5 O;have p6:=u.c 6 O;have p7:=u.c 7 O;have p8:=u.c 8 O;have t:=u.f;have H7:=hide h7;clear h7;simp only[fP];go_wp2
   go_end0
   exact⟨2,cB ws (eK st) eT cQ,acc,aW ws [eT,aB.eJ] (eK st),rfl,.weekly I X acc (aP aa),((((((((aP H7).other a g).other a g).other a g).other a g).other a g).other a g).other a g),SJ u acc,(((((((ab.gC _ _).gC _ _).gC _ _).gC _ _).gC _ _).gC _ _).gC _ _)⟩
 .rw[I,XS rfl] at S;have T:=l1.c 0 O;have t:=l1.f
  go_wp21
  have C:=S.other (b:=P) (o:=0) (v:=V Y 1) a g;have z:=Db l1 1;have q:=y.gC 0 (V Y 1);have EZ:=hide ((aP HE).gT q F hP);clear T t S l1 y;refine aK (En R A ws (st.1+1) st.2 _ C) ?_;rintro w5 ⟨K,i⟩;have j:=q.trans (i.two P);have m:=z.kept i a;have E5:=hide ((aP EZ).kept i F);clear C z q i;have p1:=m.c 1 O;have t:=m.f;go_wp2
  go_end0
  exact⟨1,cB ws (eK st) eT cQ,[],aW ws [eT] (eK st),rfl,.daily I,K.other a g,Dc m _,j.gC _ _⟩
inductive oU (ws:XL XK) (st:XP × XN):XQ->XQ->XP × XN->Prop where
 |times (h:bS ws st.1 st.2 jD=XX):oU ws st (cB ws (eK st) eT cQ) 0 (aW ws [eT] (eK st))
 |til (h1:bS ws st.1 st.2 jD=XW) (h:bS ws st.1 st.2 kg=XX):oU ws st 0 (cB ws (eK st) aB.dC gN) (aW ws [aB.dC] (eK st))
 |none (h1:bS ws st.1 st.2 jD=XW) (h:bS ws st.1 st.2 kg=XW):oU ws st 0 0 (st.1,XX)
theorem SB(R A P:M)(ws:J XK)(st:M × XN)(w:XY)(pc ev:N)(acc:J N)(fr mn mi:N)(h:RS w R A ws st.1 st.2)(I:Env w)(K:10<=R)(a:P≠R)(y:0<ws.length->P≠A)(H:RL w P (rv pc ev acc fr mn mi 0 0)):
  X4 prog 138 #[R,P] w fun e w' =>
   ∃ (ti un:N) (s:M × XN),e=Yg (Yc #[])/\oU ws st ti un s/\RS w' R A ws s.1 s.2/\RL w' P (rv pc ev acc fr mn mi ti un)/\kv R P w w':=by
 have X:=hide I;clear I
 go_in
 go_wp21
 refine aK (jt R A ws st.1 st.2 jD w h) ?_;rintro G ⟨u,C⟩;have g:=C.two P;have l1:=H.kept C a;have E1:=hide ((aP X).kept C K);clear h H C
 cases x:bS ws st.1 st.2 jD
 .rw[x] at u
  go_wp21
  refine aK (jt R A ws st.1 st.2 kg G u) ?_;rintro S ⟨t,z⟩;have m:=g.trans (z.two P);have E:=l1.kept z a;have E2:=hide ((aP E1).kept z K);clear u g l1 z
  cases D:bS ws st.1 st.2 kg
  .rw[D] at t;have c2:=t.c2;have f2:=t.f2;go_wp2
   go_end0
   exact⟨0,0,(st.1,XX),rfl,.none x D,t.bad,E.other a.symm,m.vL _ _⟩
  .rw[D,XS rfl] at t
   go_wp21
   refine aK (LG R A ws (st.1+1) st.2 S t (aP E2)) ?_;rintro L ⟨F,q⟩;have j:=m.trans (q.two P);have i:=E.kept q a;clear t m E q;have W:=i.c 13 O;have T:=i.f;go_wp2
   go_end0
   exact⟨0,cB ws (eK st) aB.dC gN,aW ws [aB.dC] (eK st),rfl,.til x D,F.other a y,SI i _,j.gC _ _⟩
 .rw[x,XS rfl] at u
  go_wp21
  refine aK (Au 1 99 R A ws (st.1+1) st.2 G u) ?_;rintro L ⟨F,q⟩;have j:=g.trans (q.two P);have i:=l1.kept q a;clear u g l1 q;have W:=i.c 12 O;have T:=i.f;go_wp2
  go_end0
  exact⟨cB ws (eK st) eT cQ,0,aW ws [eT] (eK st),rfl,.times x,F.other a y,SH i _,j.gC _ _⟩
def nL(ws:J XK)(s:M × XN):M × XN:=aW ws [bU dQ,aB.dC,bU eP,aB.ef,bU gM,fc] s
inductive lG (ws:XL XK) (st:XP × XN):XQ->XQ->XL XQ->XQ->XQ->XQ->XQ->XQ->XP × XN->Prop where
 |mk (pc ev:XQ) (acc:XL XQ) (s:XP × XN) (ti un:XQ) (s':XP × XN) (hp:ph ws st pc ev acc s) (he:oU ws (nL ws s) ti un s'):
   lG ws st pc ev acc (cB ws (aW ws [bU dQ] s) aB.dC gN) (cB ws (aW ws [bU dQ,aB.dC,bU eP] s) aB.ef aB.fZ) (cB ws (aW ws [bU dQ,aB.dC,bU eP,aB.ef,bU gM] s) fc cQ) ti un s'
theorem RL.gT(h:RL w P v)(k:kv R Q w w')(g:P≠R)(a:P≠Q):RL w' P v :=
 ⟨fun j i=>(zo (w:=w) (k.block P h.lt g a)).trans (h.c j i),fun j=>(ZJ (w:=w) (k.block P h.lt g a)).trans (h.f j)⟩
def uO(pc ev:N)(acc:J N)(fr mn mi ti un:N):XZ :=
 Yd #[pc,ev,aL acc 0,aL acc 1,aL acc 2,aL acc 3,aL acc 4,aL acc 5,aL acc 6,fr,mn,mi,ti,un]
def F7(ws:J XK):Prop:=∀ (R A:M)(st:M × XN)(w:XY),RS w R A ws st.1 st.2->Env w->10<=R ->
  X4 prog 87 #[R] w fun e w' =>
   ∃ (pc ev:N) (acc:J N) (fr mn mi ti un:N) (s:M × XN),e=Yg (uO pc ev acc fr mn mi ti un)/\lG ws st pc ev acc fr mn mi ti un s/\RS w' R A ws s.1 s.2/\Kept R w w'
theorem WS(R A:M)(ws:J XK)(st:M × XN)(w:XY)(h:RS w R A ws st.1 st.2)(he:Env w)(z:10<=R):
  X4 prog 87 #[R] w fun e w' =>
   ∃ (pc ev:N) (acc:J N) (fr mn mi ti un:N) (s:M × XN),e=Yg (uO pc ev acc fr mn mi ti un)/\lG ws st pc ev acc fr mn mi ti un s/\RS w' R A ws s.1 s.2/\Kept R w w':=by
 have W:=hide he;clear he
 go_in
 go_wp21
 obtain⟨bu,ai⟩:=h.lt;obtain⟨X,T⟩:∃ X,X=(w.alloc (Yh #[V Y 0,V Y 0,XW,XW,XW,XW,XW,XW,XW,V Y 0,V Y 0,V Y 0,V Y 0,V Y 0] 162)).alloc (Yh #[V Y 0,V Y 0,XW,XW,XW,XW,XW,XW,XW,V Y 0,V Y 0,V Y 0,V Y 0,V Y 0] 162):=⟨_,rfl⟩;rw[<- T];have hB:X0 w w X:=by rw[T];exact bC.alloc XA _
 have hZ:w+2=X.heap.size:=by rw[T];simp
 have gX:RL X w (rv 0 0 [] 0 0 0 0 0):=by
  rw[T];refine⟨pP ?_ ?_ ?_ ?_ ?_ ?_ ?_ ?_ ?_ ?_ ?_ ?_ ?_ ?_,fun j=>?_⟩ <;> simp[rv,aL]
 have lX:RL X (w.heap.size+1) (rv 0 0 [] 0 0 0 0 0):=by
  rw[T];refine⟨pP ?_ ?_ ?_ ?_ ?_ ?_ ?_ ?_ ?_ ?_ ?_ ?_ ?_ ?_,fun j=>?_⟩ <;> simp[rv,aL]
 clear T;have eX:=(aP W).later hB;have bg:=(aP W).size;have kX:=Kept.aD (R:=R) hB;have u:w+1≠R:=O
 have y:0<ws.length->w+1≠A:=fun hq=>by have:=ai hq;omega
 have g:w≠R:=O
 have q:0<ws.length->w≠A:=fun hq=>by have:=ai hq;omega
 obtain⟨P,hP⟩:∃ P,P=w.heap.size+1:=⟨_,rfl⟩;rw[<- hP] at lX u y ⊢;obtain⟨G,hG⟩:∃ G,G=w.heap.size:=⟨_,rfl⟩;rw[<- hG] at gX g q ⊢;have E:G≠P:=O
 have D:w<=P:=O
 have t:w<=G:=O
 have ag:10<=P:=O
 clear hP hG;refine (UL R A P ws st X (h.aD hB) eX z ag u y lX).mono ?_;rintro e w1 ⟨pc,ev,acc,s,rfl,hp,h1,l1,k1⟩;have g1:=gX.gT k1 g E;have kt:=kv.one kX k1 D;have E1:=hide ((aP W).kept kt z);have aw:=hide hp;clear gX lX k1 eX hp h
 go_wp21
 refine aK (Dy R A ws _ _ dQ w1 h1) ?_;rintro w2 ⟨ar,k2⟩;have h2:RS w2 R A ws (aW ws [bU dQ] s).1 (aW ws [bU dQ] s).2:=ar;have l2:=l1.kept k2 u;have g2:=g1.kept k2 g;have ae:=kt.trans k2;have E2:=hide ((aP E1).kept k2 z);clear h1 ar l1 g1 kt k2 E1
 go_wp21
 refine aK (LG R A ws _ _ w2 h2 (aP E2)) ?_;rintro w3 ⟨ao,k3⟩;have h3:RS w3 R A ws (aW ws [bU dQ,aB.dC] s).1 (aW ws [bU dQ,aB.dC] s).2:=ao;have l3:=l2.kept k3 u;have g3:=g2.kept k3 g;have ba:=ae.trans k3;have E3:=hide ((aP E2).kept k3 z);clear h2 ao l2 g2 ae k3 E2;have p3:=l3.c 9 O;have bs:=l3.f;have h4:=h3.other (b:=P) (o:=9) (v:=V Y (cB ws (aW ws [bU dQ] s) aB.dC gN)) u y;have l4:=RP l3 (cB ws (aW ws [bU dQ] s) aB.dC gN);have g4:=g3.other (b:=P) (o:=9) (x:=V Y (cB ws (aW ws [bU dQ] s) aB.dC gN)) E.symm;have H:=ba.aS (b:=P) (o:=9) D (V Y (cB ws (aW ws [bU dQ] s) aB.dC gN));have E4:=hide ((aP W).kept H z)
 go_wp21
 refine aK (Dy R A ws _ _ eP _ h4) ?_;rintro w5 ⟨an,k5⟩;have h5:RS w5 R A ws (aW ws [bU dQ,aB.dC,bU eP] s).1 (aW ws [bU dQ,aB.dC,bU eP] s).2:=an;have l5:=l4.kept k5 u;have g5:=g4.kept k5 g;have ac:=H.trans k5;have E5:=hide ((aP E4).kept k5 z);clear h4 an l4 g4 H k5 E4
 go_wp21
 refine aK (Xd R A ws _ _ w5 h5) ?_;rintro w6 ⟨al,k6⟩;have h6:RS w6 R A ws (aW ws [bU dQ,aB.dC,bU eP,aB.ef] s).1 (aW ws [bU dQ,aB.dC,bU eP,aB.ef] s).2:=al;have l6:=l5.kept k6 u;have g6:=g5.kept k6 g;have a9:=ac.trans k6;have E6:=hide ((aP E5).kept k6 z);clear h5 al l5 g5 ac k6 E5;have p6:=l6.c 10 O;have bq:=l6.f;have h7:=h6.other (b:=P) (o:=10) (v:=V Y (cB ws (aW ws [bU dQ,aB.dC,bU eP] s) aB.ef aB.fZ)) u y;have l7:=SF l6 (cB ws (aW ws [bU dQ,aB.dC,bU eP] s) aB.ef aB.fZ);have g7:=g6.other (b:=P) (o:=10) (x:=V Y (cB ws (aW ws [bU dQ,aB.dC,bU eP] s) aB.ef aB.fZ)) E.symm;have F:=a9.aS (b:=P) (o:=10) D (V Y (cB ws (aW ws [bU dQ,aB.dC,bU eP] s) aB.ef aB.fZ));have E7:=hide ((aP W).kept F z)
 go_wp21
 refine aK (Dy R A ws _ _ gM _ h7) ?_;rintro w8 ⟨ak,k8⟩;have h8:RS w8 R A ws (aW ws [bU dQ,aB.dC,bU eP,aB.ef,bU gM] s).1 (aW ws [bU dQ,aB.dC,bU eP,aB.ef,bU gM] s).2:=ak;have l8:=l7.kept k8 u;have g8:=g7.kept k8 g;have ab:=F.trans k8;have E8:=hide ((aP E7).kept k8 z);clear h7 ak l7 g7 F k8 E7
 go_wp21
 refine aK (ya R A ws _ _ w8 h8) ?_;rintro w9 ⟨aj,k9⟩;have h9:RS w9 R A ws (aW ws [bU dQ,aB.dC,bU eP,aB.ef,bU gM,fc] s).1 (aW ws [bU dQ,aB.dC,bU eP,aB.ef,bU gM,fc] s).2:=aj;have l9:=l8.kept k9 u;have g9:=g8.kept k9 g;have a8:=ab.trans k9;have E9:=hide ((aP E8).kept k9 z);clear h8 aj l8 g8 ab k9 E8;have p9:=l9.c 11 O;have bn:=l9.f;have au:=h9.other (b:=P) (o:=11) (v:=V Y (cB ws (aW ws [bU dQ,aB.dC,bU eP,aB.ef,bU gM] s) fc cQ)) u y;have aa:=SG l9 (cB ws (aW ws [bU dQ,aB.dC,bU eP,aB.ef,bU gM] s) fc cQ);have av:=g9.other (b:=P) (o:=11) (x:=V Y (cB ws (aW ws [bU dQ,aB.dC,bU eP,aB.ef,bU gM] s) fc cQ)) E.symm;have C:=a8.aS (b:=P) (o:=11) D (V Y (cB ws (aW ws [bU dQ,aB.dC,bU eP,aB.ef,bU gM] s) fc cQ));have ay:=hide ((aP W).kept C z)
 go_wp21
 refine (SB R A P ws (nL ws s) _ pc ev acc _ _ _ au (aP ay) z u y aa).mono ?_;rintro e a ⟨ti,un,s',rfl,af,aq,i,I⟩;have m:=av.gT I g E;have ad:=kv.one C I D;have ax:=hide af;clear au aa av C I ay af;obtain⟨fr,S⟩:∃ fr,fr=cB ws (aW ws [bU dQ] s) aB.dC gN:=⟨_,rfl⟩;obtain⟨mn,K⟩:∃ mn,mn=cB ws (aW ws [bU dQ,aB.dC,bU eP] s) aB.ef aB.fZ:=⟨_,rfl⟩;obtain⟨mi,L⟩:∃ mi,mi=cB ws (aW ws [bU dQ,aB.dC,bU eP,aB.ef,bU gM] s) fc cQ:=⟨_,rfl⟩;rw[<- S,<- K,<- L] at i
 have bc:Hid (lG ws st pc ev acc fr mn mi ti un s'):=by
  show lG ws st pc ev acc fr mn mi ti un s';rw[S,K,L];exact .mk pc ev acc s ti un s' aw ax
 clear S K L aw ax;have q0:a.cell? (P,0)=U ↑pc:=i.c 0 O;have q1:a.cell? (P,1)=U ↑ev:=i.c 1 O;have q2:a.cell? (P,2)=U (Yb (aL acc 0)):=i.c 2 O;have q3:a.cell? (P,3)=U (Yb (aL acc 1)):=i.c 3 O;have q4:a.cell? (P,4)=U (Yb (aL acc 2)):=i.c 4 O;have q5:a.cell? (P,5)=U (Yb (aL acc 3)):=i.c 5 O;have q6:a.cell? (P,6)=U (Yb (aL acc 4)):=i.c 6 O;have q7:a.cell? (P,7)=U (Yb (aL acc 5)):=i.c 7 O;have q8:a.cell? (P,8)=U (Yb (aL acc 6)):=i.c 8 O;have q9:a.cell? (P,9)=U ↑fr:=i.c 9 O;have bm:a.cell? (P,10)=U ↑mn:=i.c 10 O;have bj:a.cell? (P,11)=U ↑mi:=i.c 11 O;have bi:a.cell? (P,12)=U ↑ti:=i.c 12 O;have bh:a.cell? (P,13)=U ↑un:=i.c 13 O;have r0:a.cell? (G,0)=U (V Y 0):=m.c 0 O;have r1:a.cell? (G,1)=U (V Y 0):=m.c 1 O;have r2:a.cell? (G,2)=U ↑XW:=m.c 2 O;have r3:a.cell? (G,3)=U ↑XW:=m.c 3 O;have r4:a.cell? (G,4)=U ↑XW:=m.c 4 O;have r5:a.cell? (G,5)=U ↑XW:=m.c 5 O;have r6:a.cell? (G,6)=U ↑XW:=m.c 6 O;have r7:a.cell? (G,7)=U ↑XW:=m.c 7 O;have r8:a.cell? (G,8)=U ↑XW:=m.c 8 O;have r9:a.cell? (G,9)=U (V Y 0):=m.c 9 O;have a7:a.cell? (G,10)=U (V Y 0):=m.c 10 O;have a4:a.cell? (G,11)=U (V Y 0):=m.c 11 O;have a3:a.cell? (G,12)=U (V Y 0):=m.c 12 O;have az:a.cell? (G,13)=U (V Y 0):=m.c 13 O;have rf:=m.f;have bf:=hide aq;clear aq i m;go_wp2;refine bodyPost_ret (v:=uO pc ev acc fr mn mi ti un) (by simp[results,results87,go_sem,uO,r0,r1,r2,r3,r4,r5,r6,r7,r8,r9,a7,a4,a3,az]) rfl ⟨pc,ev,acc,fr,mn,mi,ti,un,s',rfl,bc,?_,?_⟩
 .exact (((((((((((((((aP bf).other g q).other g q).other g q).other g q).other g q).other g q).other g q).other g q).other g q).other g q).other g q).other g q).other g q).other g q)
 .exact ((((((((((((((ad.aS t _).aS t _).aS t _).aS t _).aS t _).aS t _).aS t _).aS t _).aS t _).aS t _).aS t _).aS t _).aS t _).aS t _)
def lN:XK:=⟨#[116,104,105,110,103]⟩
def lI:XK:=⟨#[98,111,111,107]⟩
def lF:XK:=⟨#[104,111,108,100]⟩
def sE:XK:=⟨#[119,97,105,116]⟩
def iS:XK:=⟨#[115,101,114,105,101,115]⟩
def lM:XK:=⟨#[99,111,110,102,105,114,109]⟩
def lJ:XK:=⟨#[99,97,110,99,101,108]⟩
def eL:XK:=⟨#[108,105,115,116]⟩
def sN:XK:=⟨#[119,97,105,116,105,110,103]⟩
def lH:XK:=⟨#[112,101,97,107]⟩
def lD:XK:=⟨#[102,105,110,100]⟩
def jI:XK:=⟨#[101,120,112,97,110,100]⟩
def mh:XK:=⟨#[116,105,99,107]⟩
def mq:XK:=⟨#[99,108,111,99,107]⟩
def nV(s:XK):XN:=aB.isNum s.data.toList
inductive iw (ws:XL XK):XZ->XP × XN->Prop where
 |bA (h:bS ws 0 XW lN=XX):iw ws (Ye 149 (Yd #[Ya (iC ws (1,XW)),X7 Yf (cB ws (aW ws [bV] (1,XW)) dM cQ)])) (aW ws [bV,dM] (1,XW))
 |book (h:bS ws 0 XW lI=XX):iw ws (Ye 154 (Yd #[Ya (iC ws (1,XW)),X7 Yf (cB ws (aW ws [bV] (1,XW)) dM cQ),X7 Yf (cB ws (aW ws [bV,dM] (1,XW)) bL eu),X7 Yf (cB ws (aW ws [bV,dM,bL] (1,XW)) bL eu)])) (aW ws [bV,dM,bL,bL] (1,XW))
 |hold (h:bS ws 0 XW lF=XX):iw ws (Ye 156 (Yd #[Ya (iC ws (1,XW)),X7 Yf (cB ws (aW ws [bV] (1,XW)) dM cQ),X7 Yf (cB ws (aW ws [bV,dM] (1,XW)) bL eu),X7 Yf (cB ws (aW ws [bV,dM,bL] (1,XW)) bL eu),X7 Yf (cB ws (aW ws [bV,dM,bL,bL] (1,XW)) fc cQ)])) (aW ws [bV,dM,bL,bL,fc] (1,XW))
 |wait (h:bS ws 0 XW sE=XX):iw ws (Ye 157 (Yd #[Ya (iC ws (1,XW)),X7 Yf (cB ws (aW ws [bV] (1,XW)) dM cQ),X7 Yf (cB ws (aW ws [bV,dM] (1,XW)) bL eu),X7 Yf (cB ws (aW ws [bV,dM,bL] (1,XW)) bL eu),X7 Yf (cB ws (aW ws [bV,dM,bL,bL] (1,XW)) fc cQ)])) (aW ws [bV,dM,bL,bL,fc] (1,XW))
 |series (h:bS ws 0 XW iS=XX) (pc ev:XQ) (acc:XL XQ) (fr mn mi ti un:XQ) (s:XP × XN) (hr:lG ws (aW ws [bV,dM] (1,XW)) pc ev acc fr mn mi ti un s):iw ws (Ye 165 (Yd #[Ya (iC ws (1,XW)),X7 Yf (cB ws (aW ws [bV] (1,XW)) dM cQ),X7 Yf pc,X7 Yf ev,Yb (aL acc 0),Yb (aL acc 1),Yb (aL acc 2),Yb (aL acc 3),Yb (aL acc 4),Yb (aL acc 5),Yb (aL acc 6),X7 Yf fr,X7 Yf mn,X7 Yf mi,X7 Yf ti,X7 Yf un])) s
 |bF (h:bS ws 0 XW lM=XX):iw ws (Ye 167 (Yd #[X7 Yf (cB ws (1,XW) nV cQ)])) (aW ws [nV] (1,XW))
 |cancel (h:bS ws 0 XW lJ=XX):iw ws (Ye 168 (Yd #[X7 Yf (cB ws (1,XW) nV cQ)])) (aW ws [nV] (1,XW))
 |list0 (h:bS ws 0 XW eL=XX) (hm:cU ws.length (aW ws [bV] (1,XW)).1 (aW ws [bV] (1,XW)).2=XW):iw ws (Ye 170 (Yd #[Ya (iC ws (1,XW)),Yb XW,X7 Yf 0,X7 Yf 0])) (aW ws [bV] (1,XW))
 |list1 (h:bS ws 0 XW eL=XX) (hm:cU ws.length (aW ws [bV] (1,XW)).1 (aW ws [bV] (1,XW)).2=XX):iw ws (Ye 170 (Yd #[Ya (iC ws (1,XW)),Yb XX,X7 Yf (cB ws (aW ws [bV] (1,XW)) bL eu),X7 Yf (cB ws (aW ws [bV,bL] (1,XW)) bL eu)])) (aW ws [bV,bL,bL] (1,XW))
 |waiting (h:bS ws 0 XW sN=XX):iw ws (Ye 173 (Yd #[])) (1,XW)
 |dN (h:bS ws 0 XW lH=XX):iw ws (Ye 176 (Yd #[Ya (iC ws (1,XW)),X7 Yf (cB ws (aW ws [bV] (1,XW)) bL eu),X7 Yf (cB ws (aW ws [bV,bL] (1,XW)) bL eu)])) (aW ws [bV,bL,bL] (1,XW))
 |find (h:bS ws 0 XW lD=XX):iw ws (Ye 178 (Yd #[Ya (iC ws (1,XW)),X7 Yf (cB ws (aW ws [bV] (1,XW)) dM cQ),X7 Yf (cB ws (aW ws [bV,dM] (1,XW)) fc cQ),X7 Yf (cB ws (aW ws [bV,dM,fc] (1,XW)) bL eu),X7 Yf (cB ws (aW ws [bV,dM,fc,bL] (1,XW)) bL eu)])) (aW ws [bV,dM,fc,bL,bL] (1,XW))
 |expand (h:bS ws 0 XW jI=XX) (pc ev:XQ) (acc:XL XQ) (fr mn mi ti un:XQ) (s:XP × XN) (hr:lG ws (1,XW) pc ev acc fr mn mi ti un s):iw ws (Ye 180 (Yd #[X7 Yf pc,X7 Yf ev,Yb (aL acc 0),Yb (aL acc 1),Yb (aL acc 2),Yb (aL acc 3),Yb (aL acc 4),Yb (aL acc 5),Yb (aL acc 6),X7 Yf fr,X7 Yf mn,X7 Yf mi,X7 Yf ti,X7 Yf un])) s
 |tick (h:bS ws 0 XW mh=XX):iw ws (Ye 182 (Yd #[X7 Yf (cB ws (1,XW) fc cQ)])) (aW ws [fc] (1,XW))
 |clock (h:bS ws 0 XW mq=XX):iw ws (Ye 183 (Yd #[])) (1,XW)
 |none (h0:bS ws 0 XW lN=XW) (h1:bS ws 0 XW lI=XW) (h2:bS ws 0 XW lF=XW) (h3:bS ws 0 XW sE=XW) (h4:bS ws 0 XW iS=XW) (h5:bS ws 0 XW lM=XW) (h6:bS ws 0 XW lJ=XW) (h7:bS ws 0 XW eL=XW) (h8:bS ws 0 XW sN=XW) (h9:bS ws 0 XW lH=XW) (h10:bS ws 0 XW lD=XW) (h11:bS ws 0 XW jI=XW) (h12:bS ws 0 XW mh=XW) (h13:bS ws 0 XW mq=XW):iw ws .nilIface (0,XX)
theorem Py(R A:M)(ws:J XK)(w:XY)(h:RS w R A ws 0 XW)(he:Env w)(c:10<=R)(hP:bS ws 0 XW iS=XX\/bS ws 0 XW jI=XX->F7 ws):
  X4 prog 62 #[R] w fun e w' =>
   ∃ (v:XZ) (s:M × XN),e=Yg v/\iw ws v s/\RS w' R A ws s.1 s.2/\Kept R w w':=by
 have t:=hide he;have b7:=hide hP;clear he hP;have k0:=Kept.refl R w;have h0:=h;clear h
 go_in
 go_wp21
 refine aK (jt R A ws 0 XW lN w h0) ?_;rintro w1 ⟨h1,a⟩;have k1:=k0.trans a;clear a k0 h0;rcases Bool.eq_false_or_eq_true (bS ws 0 XW lN) with ab|ab
 .rw[ab,XS rfl] at h1;have E1:=hide ((aP t).kept k1 c)
  go_wp21
  refine aK (uv R A ws _ _ w1 h1) ?_;rintro cm ⟨bv,a⟩;have bg:=k1.trans a;have cc:=hide ((aP E1).kept a c);clear a k1 h1 E1
  go_wp21
  refine aK (Al R A ws _ _ cm bv) ?_;rintro d1 ⟨c9,a⟩;have cu:=bg.trans a;have fa:=hide ((aP cc).kept a c);clear a bg bv cc;have f:=hide cu;have g:=hide c9;go_wp2;go_ret;exact⟨_,(aW ws [bV,dM] (1,XW)),rfl,.bA ab,g,f⟩
 rw[ab] at h1 ⊢
 go_wp21
 refine aK (jt R A ws 0 XW lI w1 h1) ?_;rintro w2 ⟨h2,a⟩;have k2:=k1.trans a;clear a k1 h1;rcases Bool.eq_false_or_eq_true (bS ws 0 XW lI) with aa|aa
 .rw[aa,XS rfl] at h2;have E2:=hide ((aP t).kept k2 c)
  go_wp21
  refine aK (Em R A ws (1,XW) w2 h2 (aP E2) c) ?_;rintro d0 ⟨c8,a⟩;have ct:=k2.trans a;have d9:=hide ((aP E2).kept a c);clear a k2 h2 E2;have f:=hide ct;have g:=hide c8;go_wp2;go_ret;exact⟨_,(aW ws [bV,dM,bL,bL] (1,XW)),rfl,.book aa,g,f⟩
 rw[aa] at h2 ⊢
 go_wp21
 refine aK (jt R A ws 0 XW lF w2 h2) ?_;rintro w3 ⟨h3,a⟩;have k3:=k2.trans a;clear a k2 h2;rcases Bool.eq_false_or_eq_true (bS ws 0 XW lF) with X|X
 .rw[X,XS rfl] at h3;have E3:=hide ((aP t).kept k3 c)
  go_wp21
  refine aK (Em R A ws (1,XW) w3 h3 (aP E3) c) ?_;rintro cl ⟨bu,a⟩;have bf:=k3.trans a;have ca:=hide ((aP E3).kept a c);clear a k3 h3 E3
  go_wp21
  refine aK (ya R A ws _ _ cl bu) ?_;rintro dz ⟨cz,a⟩;have cs:=bf.trans a;have d8:=hide ((aP ca).kept a c);clear a bf bu ca;have f:=hide cs;have g:=hide cz;go_wp2;go_ret;exact⟨_,(aW ws [bV,dM,bL,bL,fc] (1,XW)),rfl,.hold X,g,f⟩
 rw[X] at h3 ⊢
 go_wp21
 refine aK (jt R A ws 0 XW sE w3 h3) ?_;rintro w4 ⟨h4,a⟩;have k4:=k3.trans a;clear a k3 h3;rcases Bool.eq_false_or_eq_true (bS ws 0 XW sE) with W|W
 .rw[W,XS rfl] at h4;have E4:=hide ((aP t).kept k4 c)
  go_wp21
  refine aK (Em R A ws (1,XW) w4 h4 (aP E4) c) ?_;rintro ck ⟨bs,a⟩;have bc:=k4.trans a;have b9:=hide ((aP E4).kept a c);clear a k4 h4 E4
  go_wp21
  refine aK (ya R A ws _ _ ck bs) ?_;rintro dy ⟨cy,a⟩;have cr:=bc.trans a;have d7:=hide ((aP b9).kept a c);clear a bc bs b9;have f:=hide cr;have g:=hide cy;go_wp2;go_ret;exact⟨_,(aW ws [bV,dM,bL,bL,fc] (1,XW)),rfl,.wait W,g,f⟩
 rw[W] at h4 ⊢
 go_wp21
 refine aK (jt R A ws 0 XW iS w4 h4) ?_;rintro w5 ⟨h5,a⟩;have k5:=k4.trans a;clear a k4 h4;rcases Bool.eq_false_or_eq_true (bS ws 0 XW iS) with x|x
 .rw[x,XS rfl] at h5;have E5:=hide ((aP t).kept k5 c)
  go_wp21
  refine aK (uv R A ws _ _ w5 h5) ?_;rintro cj ⟨bq,a⟩;have ba:=k5.trans a;have b8:=hide ((aP E5).kept a c);clear a k5 h5 E5
  go_wp21
  refine aK (Al R A ws _ _ cj bq) ?_;rintro ch ⟨bn,a⟩;have a9:=ba.trans a;have au:=hide ((aP b8).kept a c);clear a ba bq b8
  go_wp21
  refine (aP b7 (.inl x) R A (aW ws [bV,dM] (1,XW)) ch bn (aP au) c).mono ?_;rintro e dw ⟨pc,ev,acc,fr,mn,mi,ti,un,s,rfl,hr,cx,a⟩;have HR:=hide hr;clear hr;simp only[uO];have cq:=a9.trans a;have d6:=hide ((aP au).kept a c);clear a a9 bn au;have f:=hide cq;have g:=hide cx;go_wp2;go_ret;exact⟨_,s,rfl,.series x pc ev acc fr mn mi ti un s HR,g,f⟩
 rw[x] at h5 ⊢
 go_wp21
 refine aK (jt R A ws 0 XW lM w5 h5) ?_;rintro w6 ⟨h6,a⟩;have k6:=k5.trans a;clear a k5 h5;rcases Bool.eq_false_or_eq_true (bS ws 0 XW lM) with T|T
 .rw[T,XS rfl] at h6;have E6:=hide ((aP t).kept k6 c)
  go_wp21
  refine aK (IW R A ws _ _ w6 h6) ?_;rintro dv ⟨cw,a⟩;have cp:=k6.trans a;have d5:=hide ((aP E6).kept a c);clear a k6 h6 E6;have f:=hide cp;have g:=hide cw;go_wp2;go_ret;exact⟨_,(aW ws [nV] (1,XW)),rfl,.bF T,g,f⟩
 rw[T] at h6 ⊢
 go_wp21
 refine aK (jt R A ws 0 XW lJ w6 h6) ?_;rintro w7 ⟨h7,a⟩;have k7:=k6.trans a;clear a k6 h6;rcases Bool.eq_false_or_eq_true (bS ws 0 XW lJ) with S|S
 .rw[S,XS rfl] at h7;have E7:=hide ((aP t).kept k7 c)
  go_wp21
  refine aK (IW R A ws _ _ w7 h7) ?_;rintro du ⟨cv,a⟩;have cn:=k7.trans a;have d4:=hide ((aP E7).kept a c);clear a k7 h7 E7;have f:=hide cn;have g:=hide cv;go_wp2;go_ret;exact⟨_,(aW ws [nV] (1,XW)),rfl,.cancel S,g,f⟩
 rw[S] at h7 ⊢
 go_wp21
 refine aK (jt R A ws 0 XW eL w7 h7) ?_;rintro w8 ⟨h8,a⟩;have k8:=k7.trans a;clear a k7 h7;rcases Bool.eq_false_or_eq_true (bS ws 0 XW eL) with u|u
 .rw[u,XS rfl] at h8;have E8:=hide ((aP t).kept k8 c)
  cases hm:cU ws.length (aW ws [bV] (1,XW)).1 (aW ws [bV] (1,XW)).2
  .go_wp21
   refine aK (UJ R A ws (1,XW) w8 h8 hm) ?_;rintro wz ⟨hz,kz⟩;have f:=hide (k8.trans kz);have g:=hide hz;have HM:=hide hm;clear hz kz hm k8 h8;go_wp2;go_ret;exact⟨_,(aW ws [bV] (1,XW)),rfl,.list0 u HM,g,f⟩
  .go_wp21
   refine aK (Vr R A ws (1,XW) w8 h8 (aP E8) c hm) ?_;rintro wz ⟨hz,kz⟩;have f:=hide (k8.trans kz);have g:=hide hz;have HM:=hide hm;clear hz kz hm k8 h8;go_wp2;go_ret;exact⟨_,(aW ws [bV,bL,bL] (1,XW)),rfl,.list1 u HM,g,f⟩
 rw[u] at h8 ⊢
 go_wp21
 refine aK (jt R A ws 0 XW sN w8 h8) ?_;rintro w9 ⟨h9,a⟩;have k9:=k8.trans a;clear a k8 h8;rcases Bool.eq_false_or_eq_true (bS ws 0 XW sN) with L|L
 .rw[L,XS rfl] at h9;have E9:=hide ((aP t).kept k9 c);have f:=hide k9;have g:=hide h9;go_wp2;go_ret;exact⟨_,(1,XW),rfl,.waiting L,g,f⟩
 rw[L] at h9 ⊢
 go_wp21
 refine aK (jt R A ws 0 XW lH w9 h9) ?_;rintro a8 ⟨E,a⟩;have I:=k9.trans a;clear a k9 h9;rcases Bool.eq_false_or_eq_true (bS ws 0 XW lH) with K|K
 .rw[K,XS rfl] at E;have cg:=hide ((aP t).kept I c)
  go_wp21
  refine aK (uv R A ws _ _ a8 E) ?_;rintro a7 ⟨an,a⟩;have ai:=I.trans a;have ad:=hide ((aP cg).kept a c);clear a I E cg
  go_wp21
  refine aK (Ak R A ws _ _ a7 an (aP ad) c) ?_;rintro dm ⟨b6,a⟩;have bm:=ai.trans a;have dr:=hide ((aP ad).kept a c);clear a ai an ad;have f:=hide bm;have g:=hide b6;go_wp2;go_ret;exact⟨_,(aW ws [bV,bL,bL] (1,XW)),rfl,.dN K,g,f⟩
 rw[K] at E ⊢
 go_wp21
 refine aK (jt R A ws 0 XW lD a8 E) ?_;rintro a4 ⟨D,a⟩;have H:=I.trans a;clear a I E;rcases Bool.eq_false_or_eq_true (bS ws 0 XW lD) with q|q
 .rw[q,XS rfl] at D;have cf:=hide ((aP t).kept H c)
  go_wp21
  refine aK (uv R A ws _ _ a4 D) ?_;rintro a3 ⟨al,a⟩;have ag:=H.trans a;have aq:=hide ((aP cf).kept a c);clear a H D cf
  go_wp21
  refine aK (Al R A ws _ _ a3 al) ?_;rintro az ⟨ak,a⟩;have af:=ag.trans a;have ao:=hide ((aP aq).kept a c);clear a ag al aq
  go_wp21
  refine aK (ya R A ws _ _ az ak) ?_;rintro ay ⟨aj,a⟩;have ae:=af.trans a;have ac:=hide ((aP ao).kept a c);clear a af ak ao
  go_wp21
  refine aK (Ak R A ws _ _ ay aj (aP ac) c) ?_;rintro di ⟨b5,a⟩;have bj:=ae.trans a;have dq:=hide ((aP ac).kept a c);clear a ae aj ac;have f:=hide bj;have g:=hide b5;go_wp2;go_ret;exact⟨_,(aW ws [bV,dM,fc,bL,bL] (1,XW)),rfl,.find q,g,f⟩
 rw[q] at D ⊢
 go_wp21
 refine aK (jt R A ws 0 XW jI a4 D) ?_;rintro ax ⟨C,a⟩;have G:=H.trans a;clear a H D;rcases Bool.eq_false_or_eq_true (bS ws 0 XW jI) with i|i
 .rw[i,XS rfl] at C;have av:=hide ((aP t).kept G c)
  go_wp21
  refine (aP b7 (.inr i) R A (1,XW) ax C (aP av) c).mono ?_;rintro e dh ⟨pc,ev,acc,fr,mn,mi,ti,un,s,rfl,hr,b4,a⟩;have HR:=hide hr;clear hr;simp only[uO];have bi:=G.trans a;have dp:=hide ((aP av).kept a c);clear a G C av;have f:=hide bi;have g:=hide b4;go_wp2;go_ret;exact⟨_,s,rfl,.expand i pc ev acc fr mn mi ti un s HR,g,f⟩
 rw[i] at C ⊢
 go_wp21
 refine aK (jt R A ws 0 XW mh ax C) ?_;rintro aw ⟨z,a⟩;have F:=G.trans a;clear a G C;rcases Bool.eq_false_or_eq_true (bS ws 0 XW mh) with m|m
 .rw[m,XS rfl] at z;have cd:=hide ((aP t).kept F c)
  go_wp21
  refine aK (ya R A ws _ _ aw z) ?_;rintro db ⟨bz,a⟩;have bh:=F.trans a;have dn:=hide ((aP cd).kept a c);clear a F z cd;have f:=hide bh;have g:=hide bz;go_wp2;go_ret;exact⟨_,(aW ws [fc] (1,XW)),rfl,.tick m,g,f⟩
 rw[m] at z ⊢
 go_wp21
 refine aK (jt R A ws 0 XW mq aw z) ?_;rintro d2 ⟨y,a⟩;have ar:=F.trans a;clear a F z;rcases Bool.eq_false_or_eq_true (bS ws 0 XW mq) with j|j
 .rw[j,XS rfl] at y;have fb:=hide ((aP t).kept ar c);have f:=hide ar;have g:=hide y;go_wp2;go_ret;exact⟨_,(1,XW),rfl,.clock j,g,f⟩
 rw[j] at y ⊢;have c2:=y.c2;have f2:=y.f2;go_wp2;go_ret;exact⟨_,(0,XX),rfl,.none ab aa X W x T S u L K q i m j,y.bad,ar.setCell _ _⟩
theorem zK(s:XK):∀ x∈aB.aU s,x.size<=s.size:=by
 intro x a;unfold aB.aU at a;simp only[List.mem_map] at a;obtain⟨y,_,rfl⟩:=a;have:(s.extract y.1 y.2).size=min y.2 s.size-y.1:=ByteArray.size_extract ..;omega
inductive oj (s:XK):Ending->Prop where
 |long (h:160<s.size):oj s (Yg (Yc #[.nilIface,X7 Yf 1,X7 Yf 0]))
 |bad (h:s.size<=160) (v:XZ) (st:XP × XN) (hl:iw (aB.aU s) v st) (hb:st.2=XX\/cU (aB.aU s).length st.1 st.2=XX):oj s (Yg (Yc #[.nilIface,X7 Yf 2,X7 Yf st.1]))
 |rW (h:s.size<=160) (v:XZ) (st:XP × XN) (hl:iw (aB.aU s) v st) (h2:st.2=XW) (hb:cU (aB.aU s).length st.1 st.2=XW):oj s (Yg (Yc #[v,X7 Yf 0,X7 Yf 0]))
theorem I6(s:XK):∀ k:M,k<=s.size->(aB.kF s k).length+(if (aB.fl s k).size=0 then 0 else 1)<=k
 |0,_=>by
  have:=aB.sD s 0;have:=aB.zG s 0;rw[XS O];omega
 |k+1,hk=>by
  have ih:=I6 s k O
  by_cases c:aB.eI s k=32
  .let⟨h1,h2⟩:=aB.zP s k O c;have e:(if (⟨#[]⟩:XK).size=0 then (0:M) else 1)=0:=XS rfl;rw[h1,h2,e,YZ]
   by_cases a:(aB.fl s k).size=0
   .rw[XS a] at ih ⊢;simp;omega
   .rw[if_neg a] at ih ⊢;simp;omega
  .let⟨_,h2⟩:=aB.zE s k c;rw[h2]
   split at ih <;> split <;> omega
theorem VE(s:XK):(aB.aU s).length<=s.size:=by
 have:=I6 s s.size aI;rw[aB.xe,YZ]
 split <;> rename_i hc <;> simp[hc] at this ⊢ <;> omega
theorem UG{f g cap:M}{a:J XK}(h:w.ownsRow f 9 1 (X9 g n cap) n (a.map Ya)):g<w/\∀ (i:M)(x:i<a.length),w.cell? (g,i)=U (Ya a[i]):=by
 rcases h.2 with ⟨C,_⟩|⟨H,y,q,z,E,m,F,_,D,ht⟩
 .cases C
 .cases z
  have j:g<w:=by
   by_cases j:g<w
   .exact j
   .rw[Array.getElem?_eq_none O] at m;cases m
  refine⟨j,fun i x=>?_⟩;have G:=h.1;have u:(a.map Ya).length=a.length:=XA
  have c:q[i]?=U (Ya a[i]):=by
   have t:(a.map Ya)[i]?=U (Ya a[i]):=by simp[x]
   rw[<- ht,List.getElem?_take,XS O] at t
   simpa using t
  simp[YF,m,c]
theorem Pg(s:XK)(w:XY)(K:Env w)(S:bS (aB.aU s) 0 XW iS=XX\/bS (aB.aU s) 0 XW jI=XX->F7 (aB.aU s)):
  X4 prog 45 #[s] w fun e w'=>oj s e/\X0 w w w':=by
 have HE:=hide K;have ac:=K.size;clear K
 by_cases C:s.size<=160
 .have H:(s.size:N)<=160:=O
  go_in
  go_wp21
  refine (Uq s w C).mono ?_;rintro e t ⟨A,rfl,hA,ho,L⟩;obtain⟨ab,j⟩:=UG ho;have G:=VE s;have y:=zK s;obtain⟨ws,c⟩:∃ ws,ws=aB.aU s:=⟨_,rfl⟩;have z:=hide c;rw[<- c] at j G y S ⊢;have aa:=hide S;clear c ho S;have E:=hide j;have W:=hide y;clear j y
  go_wp21
  obtain⟨X,F⟩:∃ X,X=t.alloc (Yh #[X9 A ws.length ws.length,V Y 0,XW] 123):=⟨_,rfl⟩;rw[<- F];have m:X0 t t X:=by rw[F];exact bC
  have D:RS X t A ws 0 XW:=by
   refine⟨?_,?_,?_,?_,?_,O,fun i hi=>cell_later m (aP E i hi),O,Zd _,fun x hx=>Yk (aP W x hx) C⟩ <;> (rw[F];simp)
  clear F;have eX:=((aP HE).later L).later m;have u:=L.size;refine (Py t A ws X D eX O (aP aa)).mono ?_;rintro e w2 ⟨v,st,rfl,hl,q,k2⟩;have T:=q.c1;have c2:=q.c2;have HL:=hide hl;have a:X0 w w w2:=(L.trans (m.mono u)).trans (k2.below u (Yk u m.size));have I:=q.wP;clear hl eX D m;obtain⟨nx,wr⟩:=st;dsimp only at T c2 q I;have f:cU ws.length nx wr=XW\/cU ws.length nx wr=XX:=by cases cU ws.length nx wr <;> simp
  cases wr
  .rcases f with f|f
   .have HM:=hide f
    go_wp21
    refine aK (iW t A ws nx XW w2 q) ?_;rintro w3 ⟨n,h⟩;have g:X0 w w w3:=by rw[h];exact⟨a.os,a.tape,a.output,a.size,a.block⟩
    clear h q;rw[f];go_wp2;go_ret3;have c:=z.out;subst c;exact⟨.rW C v (nx,XW) HL rfl HM,g⟩
   .have HM:=hide f
    go_wp21
    refine aK (iW t A ws nx XW w2 q) ?_;rintro w3 ⟨n,h⟩;have g:X0 w w w3:=by rw[h];exact⟨a.os,a.tape,a.output,a.size,a.block⟩
    have d1:w3.cell? (t,1)=U (V Y nx):=by rw[h];exact T
    clear h q T c2;rw[f];go_wp2
    go_quiet (fail)
    go_wp2;go_ret3;have c:=z.out;subst c;exact⟨.bad C v (nx,XW) HL (.inr HM),⟨g.os,g.tape,g.output,g.size,g.block⟩⟩
  .clear q f;go_wp2
   go_quiet (fail)
   go_wp2;go_ret3;have c:=z.out;subst c;exact⟨.bad C v (nx,XX) HL (.inl rfl),⟨a.os,a.tape,a.output,a.size,a.block⟩⟩
 .have H:¬ (s.size:N)<=160:=O
  go_in
  go_wp2;go_ret3;exact⟨.long O,Below.refl _ _⟩
theorem VI(s:XK)(w:XY)(a:Env w):
  X4 prog 45 #[s] w fun e w'=>oj s e/\X0 w w w':=Pg s w a (fun _ R A st w h a c=>WS R A _ st w h a c)
open aA (aO St dL kept eA dI dE im cN cO iu dZ ie bO Inv)
theorem Env.pB(h:Env w)(g:X0 10 w wx):Env wx:=by
 obtain⟨m,j⟩:=h.uM;have c:∀ {b:M}{o:M}{v:XZ},b<10->w.cell? ⟨b,o,Z⟩=U v->wx.cell? ⟨b,o,Z⟩=U v:=fun f i=>(g.cell (p:=⟨_,_,Z⟩) f).trans i
 have ht:=h.jv;let⟨a0,a1,a2,a3,a4,a5,a6,a7,a8,a9,a10,a11⟩:=ht;refine⟨⟨c XC a0,c XC a1,c XC a2,c XC a3,c XC a4,c XC a5,c XC a6,c XC a7,c XC a8,c XC a9,c XC a10,c XC a11⟩,⟨m,c XC j⟩,?_,Yk h.size g.size,c XC h.mo,c XC h.tu,c XC h.we,c XC h.th,c XC h.fr,c XC h.sa,c XC h.su⟩;have a:=h.pow;unfold Lib.TabIs World.var? at a ⊢;simp only[wO,Option.bind_some] at a ⊢;rw[g.block 0 XC];exact a
theorem Step.pB{S:bH->Prop}(h:Step S B aN col' w w')(m:10<=B)(j:10<=w.heap.size)(g:∀ b,b<10->aN b=Z):X0 10 w w'/\∀ b,b<10->col' b=Z:=by
 let⟨G,h1,h2⟩:=h.off;refine⟨⟨h1.os,h1.tape,h1.output,h1.size,fun b a=>h1.block b O (fun i=>?_)⟩,fun b a=>?_⟩
 .rcases h2 b i with ⟨c,e,_⟩|⟨_,e⟩
  .rw[g b a] at e;cases e
  .omega
 .cases e:col' b with
  |none=>rfl
  |some c =>
   rcases h.new b c e with f|f
   .rw[g b a] at f;cases f
   .omega
structure BD(w:XY)(p d:M)(s:St)(r:Raw)(aN:M->XM bH):Prop where
 pc:w.heap[p]?=U (Yh #[d] 99 (0,0))
 pn:aN p=Z
 ds:eh w d s r aN
 env:Env w
 gl:∀ b,b<10->aN b=Z
def nf(w:XY)(p d:M)(aN:M->XM bH)(q:St × aA.bI)(v:XZ)(w':XY):Prop :=
 ∃ (a:Raw) (col':M->XM bH),BD w' p d q.1 a col'/\Step anyS w aN col' w w'/\lK w' w col' v q.2
def yv(t:XK):Prop:=∀ X,Env X->X4 prog 45 #[t] X fun e w'=>oj t e/\X0 X X w'
theorem OH{s:St}(h:BD w p d s r aN)(t:XK)(a:XZ)(l:aA.gn)(L:yv t)(hr:∀ e,oj t e->e=Yg (Yc #[a,V Y 0,V Y 0]))(u:aA.dZ (aA.aV s l).1)(x:aA.Inv (aA.ix s l).1)(y:(aA.aV s l).2.granted.length<=50000)
  (g:∀ X,ig X->10<=X.heap.size->eh X d s r aN->X4 prog 64 #[d,a] X fun e w'=>∃ v,e=Yg v/\dS X d aN (aA.aV s l) v w'):
  X4 prog 21 #[p,t] w fun e w'=>∃ v,e=Yg v/\nf w p d aN (aA.ix s l) v w':=by
 have K:X0 w w (w.alloc bB):=bC;have hq:=cP w bB;have hs:w<(w.alloc bB).heap.size:=XA
 have RD:=aC (L (w.alloc bB) (h.env.later K));have j:=aC (Yz K (Yz (Q7.of hq) (Yz (h.ds.dk.none aI) hs)));have HH:=aC h;have HR:=aC hr;have HD:Hid (∀ c,X0 w w c->X4 prog 46 #[d,a] c fun e w'=>∃ v,e=Yg v/\dS c d aN (aA.ix s l) v w'):=fun c k=>Rb ⟨h.ds.dk.later k,h.ds.of,h.ds.wl,h.ds.hl,h.ds.inv⟩ a l u y (fun X kX I=>g X (((h.env.later k).later kX).jv) (Yk (Yk h.env.size k.size) kX.size) I)
 have HI:=aC x;have f:p<w:=(Array.getElem?_eq_some_iff.1 h.pc).1;clear h hr g K hq hs y u x;generalize aA.ix s l=q at *
 go_in
 go_upto_region 1 with fail
 change Code.wp _ _ _ _ (w.alloc bB);generalize w.alloc bB=X at *
 go_upto_region 2 with (first
  |(go_at_call 45;refine RD.mono ?_;rintro e c ⟨m,C⟩;obtain rfl:=HR _ m))
 have BW:Hid (X0 w w c):=j.1.trans (C.mono j.1.size)
 have pc:c.cell? (p,0)=U ↑d:=by
  have:=(BW.block p f).trans HH.pc;simp[YF,this]
 have DD:=aC (HD c BW);have QX:Hid (Q7 c w.heap.size/\w<c.heap.size):=⟨j.2.1.later (C.block _ j.2.2.2),Zg j.2.2.2 C.size⟩;clear HD RD HR C m
 go_wp21
 refine DD.mono ?_;rintro e w2 ⟨v,rfl,ap⟩;obtain⟨S,at_,D,a1,a2,a3,a4,H,G,F,E,c1,c2,W,T,rfl,q7,hf⟩:=ap.up BW aI QX.2 j.2.2.1 QX.1
 have HF:Hid (nf w p d aN q (bJ S at_ D (X9 a1 H c1) (X9 a2 G c2) (X9 a3 F W) (X9 a4 E T)) (cR w2 w (V Y S) (V Y at_) (V Y D) (X9 a1 H c1) (X9 a2 G c2) (X9 a3 F W) (X9 a4 E T))):=by
  obtain⟨r',col',k1,k2,k3,k4,z,k6⟩:=hf (V Y S) (V Y at_) (V Y D) (X9 a1 H c1) (X9 a2 G c2) (X9 a3 F W) (X9 a4 E T);have i:=HH.out;obtain⟨t1,t2⟩:=z.pB i.env.size i.env.size i.gl;exact⟨r',col',⟨(z.cF f i.pn f).trans i.pc,z.dG i.pn f,⟨k1,k2,k3,k4,HI⟩,i.env.pB t1,t2⟩,z,k6⟩
 clear ap hf DD pc;obtain⟨q0,q1,q2,q3,q4,q5,q6,fq⟩:=q7;simp only[bJ]
 go_wp21
 exact cL results21 ⟨q0,q1,q2,q3,q4,q5,q6,fq⟩ ⟨_,rfl,HF⟩
theorem Og{s:St}(h:BD w p d s r aN)(t:XK)(q at_:N)(F:yv t)(L:q≠0)(I:∀ e,oj t e->e=Yg (Yc #[.nilIface,q,at_])):
  X4 prog 21 #[p,t] w fun e w'=>∃ v,e=Yg v/\nf w p d aN (s,⟨q,at_,0,[],[],[],[]⟩) v w':=by
 have E:X0 w w (w.alloc bB):=bC;have K:=cP w bB;have H:w<(w.alloc bB).heap.size:=XA
 have RD:=aC (F (w.alloc bB) (h.env.later E));have C:=aC (Yz E (Yz (Q7.of K) (Yz (h.ds.dk.none aI) H)));have HH:=aC h;have S:=aC I;have z:p<w:=(Array.getElem?_eq_some_iff.1 h.pc).1;have W:(q != 0)=XX:=by simpa using L
 clear h I E K H L
 go_in
 go_upto_region 1 with fail
 change Code.wp _ _ _ _ (w.alloc bB);generalize w.alloc bB=X at *
 go_upto_region 2 with (first
  |(go_at_call 45;refine RD.mono ?_;rintro e u ⟨y,m⟩;obtain rfl:=S _ y))
 have T:Hid (X0 w w u):=C.1.trans (m.mono C.1.size);have QX:Hid (Q7 u w):=C.2.1.later (m.block _ C.2.2.2)
 have HF:Hid (∀ a b c e f g i,nf w p d aN (s,⟨q,at_,0,[],[],[],[]⟩) (bJ q at_ 0 () () () ()) (cR u w a b c e f g i)):=fun a b c e f g i=>by
  have j:=HH.out;have G:=lQ u w a b c e f g i;have nq:=j.ds.dk.none (zq w);have st:Step anyS w aN aN w (cR u w a b c e f g i):=(Step.below T).trans ⟨⟨_,G,fun x D=>.inr (by have:x=w:=List.mem_singleton.1 D;subst this;exact⟨nq,Yi _⟩)⟩,fun _ _ h=>h,fun _ _ h=>.inl h⟩;let⟨t1,t2⟩:=st.pB j.env.size j.env.size j.gl;exact⟨r,aN,⟨(st.cF z j.pn z).trans j.pc,j.pn,⟨(j.ds.dk.later T).off G (fun x D=>by have:x=w:=List.mem_singleton.1 D;subst this;exact nq),j.ds.of,j.ds.wl,j.ds.hl,j.ds.inv⟩,j.env.pB t1,t2⟩,st,⟨_,_,_,_,[],rfl,rfl,ik.nil _ _ _,dY.nil _ _ _,dY.nil _ _ _,dY.nil _ _ _,(fun b m=>by cases m),fun b m=>by cases m⟩⟩
 clear RD S m y C;let⟨q0,q1,q2,q3,q4,q5,q6,fq⟩:=QX
 go_wp21
 exact cL results21 ⟨q0,q1,q2,q3,q4,q5,q6,fq⟩ ⟨_,rfl,HF _ _ _ _ _ _ _⟩
theorem nY{T:X6}{fs:Array Field}(c:prog.underlying T=U (.struct fs))(a:X6)(v:XZ)(w:XY):(Instr.typeAssert (Ye T v) a T XX).run prog w=.ok (Yc #[v,XX]) w:=by
 simp[Instr.typeAssert,go_sem,Result.andThen,run_underlying c]
theorem eh.oF{s:aA.St}(h:eh w d s r aN)(o:Obj):eh ((w.alloc bB).alloc o) d s r aN/\X0 w w ((w.alloc bB).alloc o)/\Q7 ((w.alloc bB).alloc o) w.heap.size/\aN w=Z/\w<((w.alloc bB).alloc o).heap.size:=by
 have a:X0 w w ((w.alloc bB).alloc o):=bC.alloc XA _;exact⟨⟨h.dk.later a,h.of,h.wl,h.hl,h.inv⟩,a,Q7.of ((Below.heap_alloc _ _ _ XA).trans (cP w bB)),h.dk.none aI,by simp;omega⟩
theorem dS.ow{X D:XY}{q:aA.St × aA.bI}{v:XZ}(h:dS X d aN q v D)(k:X0 w w X/\Q7 X w.heap.size/\aN w=Z/\w<X.heap.size):
  ∃ (i at_ n:N) (C z y x:XM Addr) (g f c a u t m j:M),v=bJ i at_ n (X9 C g u) (X9 z f t) (X9 y c m) (X9 x a j)/\Q7 D w.heap.size/\dS w d aN q v (cR D w i at_ n (X9 C g u) (X9 z f t) (X9 y c m) (X9 x a j)):=by
 let⟨i,at_,n,C,z,y,x,g,f,c,a,u,t,m,j,e,q7,hf⟩:=h.up k.1 aI k.2.2.2 k.2.2.1 k.2.1;exact⟨i,at_,n,C,z,y,x,g,f,c,a,u,t,m,j,e,q7,hf _ _ _ _ _ _ _⟩
theorem oS(t:X6)(h:t≠149)(a:X6)(v:XZ)(w:XY):(Instr.typeAssert (Ye t v) a 149 XX).run prog w=.ok (Yc #[Yd #[Ya ⟨#[]⟩,V Y 0],XW]) w:=by
 simp[Instr.typeAssert,go_sem,Result.andThen,run_underlying underlying149,h]
theorem pI(t:X6)(h:t≠154)(a:X6)(v:XZ)(w:XY):(Instr.typeAssert (Ye t v) a 154 XX).run prog w=.ok (Yc #[Yd #[Ya ⟨#[]⟩,V Y 0,V Y 0,V Y 0],XW]) w:=by
 simp[Instr.typeAssert,go_sem,Result.andThen,run_underlying underlying154,h]
theorem qH(t:X6)(h:t≠156)(a:X6)(v:XZ)(w:XY):(Instr.typeAssert (Ye t v) a 156 XX).run prog w=.ok (Yc #[Yd #[Ya ⟨#[]⟩,V Y 0,V Y 0,V Y 0,V Y 0],XW]) w:=by
 simp[Instr.typeAssert,go_sem,Result.andThen,run_underlying underlying156,h]
theorem qG(t:X6)(h:t≠157)(a:X6)(v:XZ)(w:XY):(Instr.typeAssert (Ye t v) a 157 XX).run prog w=.ok (Yc #[Yd #[Ya ⟨#[]⟩,V Y 0,V Y 0,V Y 0,V Y 0],XW]) w:=by
 simp[Instr.typeAssert,go_sem,Result.andThen,run_underlying underlying157,h]
theorem sk(t:X6)(h:t≠165)(a:X6)(v:XZ)(w:XY):(Instr.typeAssert (Ye t v) a 165 XX).run prog w=.ok (Yc #[Yd #[Ya ⟨#[]⟩,V Y 0,V Y 0,V Y 0,XW,XW,XW,XW,XW,XW,XW,V Y 0,V Y 0,V Y 0,V Y 0,V Y 0],XW]) w:=by
 simp[Instr.typeAssert,go_sem,Result.andThen,run_underlying underlying165,h]
theorem tK(t:X6)(h:t≠167)(a:X6)(v:XZ)(w:XY):(Instr.typeAssert (Ye t v) a 167 XX).run prog w=.ok (Yc #[Yd #[V Y 0],XW]) w:=by
 simp[Instr.typeAssert,go_sem,Result.andThen,run_underlying underlying167,h]
theorem uI(t:X6)(h:t≠168)(a:X6)(v:XZ)(w:XY):(Instr.typeAssert (Ye t v) a 168 XX).run prog w=.ok (Yc #[Yd #[V Y 0],XW]) w:=by
 simp[Instr.typeAssert,go_sem,Result.andThen,run_underlying underlying168,h]
theorem wI(t:X6)(h:t≠170)(a:X6)(v:XZ)(w:XY):(Instr.typeAssert (Ye t v) a 170 XX).run prog w=.ok (Yc #[Yd #[Ya ⟨#[]⟩,XW,V Y 0,V Y 0],XW]) w:=by
 simp[Instr.typeAssert,go_sem,Result.andThen,run_underlying underlying170,h]
theorem wN(t:X6)(h:t≠173)(a:X6)(v:XZ)(w:XY):(Instr.typeAssert (Ye t v) a 173 XX).run prog w=.ok (Yc #[Yd #[],XW]) w:=by
 simp[Instr.typeAssert,go_sem,Result.andThen,run_underlying underlying173,h]
theorem yI(t:X6)(h:t≠176)(a:X6)(v:XZ)(w:XY):(Instr.typeAssert (Ye t v) a 176 XX).run prog w=.ok (Yc #[Yd #[Ya ⟨#[]⟩,V Y 0,V Y 0],XW]) w:=by
 simp[Instr.typeAssert,go_sem,Result.andThen,run_underlying underlying176,h]
theorem BB(t:X6)(h:t≠178)(a:X6)(v:XZ)(w:XY):(Instr.typeAssert (Ye t v) a 178 XX).run prog w=.ok (Yc #[Yd #[Ya ⟨#[]⟩,V Y 0,V Y 0,V Y 0,V Y 0],XW]) w:=by
 simp[Instr.typeAssert,go_sem,Result.andThen,run_underlying underlying178,h]
theorem Hj(t:X6)(h:t≠180)(a:X6)(v:XZ)(w:XY):(Instr.typeAssert (Ye t v) a 180 XX).run prog w=.ok (Yc #[Yd #[V Y 0,V Y 0,XW,XW,XW,XW,XW,XW,XW,V Y 0,V Y 0,V Y 0,V Y 0,V Y 0],XW]) w:=by
 simp[Instr.typeAssert,go_sem,Result.andThen,run_underlying underlying180,h]
theorem Pk(t:X6)(h:t≠182)(a:X6)(v:XZ)(w:XY):(Instr.typeAssert (Ye t v) a 182 XX).run prog w=.ok (Yc #[Yd #[V Y 0],XW]) w:=by
 simp[Instr.typeAssert,go_sem,Result.andThen,run_underlying underlying182,h]
theorem Ve{s:St}(h:eh w d s r aN)(id:N)(ae:0<=id/\id<=9999999):
  X4 prog 97 #[d,Yd #[id]] w fun e w'=>∃ v,e=Yg v/\dS w d aN (aA.aV s (.cancel id)) v w':=by
 obtain⟨hX,ab,aa,_⟩:=qA w (Yh #[id] 168);have xi:=bG aa 0 rfl;have i:=aC h;have K:=aC (Yz hX ab);clear h hX ab aa
 go_in
 go_upto_region 1 with fail
 change Code.wp _ _ _ _ ((w.alloc (Yh #[id] 168)).alloc bB);generalize (w.alloc (Yh #[id] 168)).alloc bB=X at K xi ⊢;have t:=i.dk.later K.1;obtain⟨m,f,a1,a2,a3,a4⟩:=t.me;have kk:=xl (n:=id) O O;have a:=(a3.block (w':=X.drew) rfl).look wW underlying138 (Ix X.drew) kk;rw[a4 id] at a;have QX:Hid (Q7 X.drew (w.heap.size+1)):=Q7.of K.2;have BX:Hid (X0 w w X.drew):=K.1.drew
 cases H:gW r.eg id with
 |none =>
  rw[H] at a;have c:(Instr.lookup 138 (.map (U m)) id XW).run prog X.drew=.ok (.pointer Z) X.drew:=a;have HD:Hid (aA.aV s (.cancel id)=(s,aA.bI.error 9)):=by have e:=LJ i.of H;simp only[Hid,aA.aV,e]
  clear a a3 a4 H t K
  go_big_region
  clear c xi a1
  go_wp21
  refine aK (jN 9 X.drew) fun w1 hb=>?_;have S:=aC (i.refuse BX QX hb HD);obtain⟨q0,q1,q2,q3,q4,q5,T,fq⟩:=S.1;simp only[bJ]
  go_wp21
  exact cL results97 ⟨q0,q1,q2,q3,q4,q5,T,fq⟩ ⟨_,rfl,S.2⟩
 |some b =>
  rw[H] at a;obtain⟨g,C,rfl,rfl⟩:=Do H;have c:(Instr.lookup 138 (.map (U m)) g.e.id XW).run prog X.drew=.ok g.eb X.drew:=a;have hf:=Ao i.of t.ni C;have ck:X.drew.cell? (g.eb,1)=U ↑g.e.kind:=(t.en g C).1.k;have hd:=t.later (dV X);have HD:Hid (aA.aV s (.cancel g.e.id)=({ s with es:=kept g.e.id s.es },aA.bI.num 0)):=by simp only[Hid,aA.aV,hf]
  have hQ:w+1<X.drew.heap.size:=Yl _ _ QX.q0;have I:aN (w.heap.size+1)=Z:=i.dk.none O
  by_cases G:g.e.kind=1
  .have ad:(g.e.kind != 1)=XW:=by simpa using G
   have LV:=aC (Ea hd i.of i.wl i.aY C (i.hl.oG t.ni C G));have ST:Hid (Step anyS w aN aN w X.drew):=Step.below BX;have Q2:=QX;have q:=hQ;have j:=I;clear a a3 a4 H t K hf G hd C
   go_big_region
   clear c xi a1
   go_wp21
   refine LV.mono ?_;rintro e w2 ⟨rfl,r2,ac,z,y,k7,k8,D⟩;have hq:=D.cF q j q
   have S:Hid (dS w d aN (aA.aV s (.cancel g.e.id)) (bJ 0 0 0 () () () ()) (cR w2 (w.heap.size+1) (V Y 0) (V Y 0) (V Y 0) () () () ())):=by
    rw[HD];exact vv z y k7 k8 (ST.trans (D.any ST.size)) O (D.dG j q) 0 0 _ _ _ _ _ _ _
   clear z y k7 k8 D LV;obtain⟨q0,q1,q2,q3,q4,q5,T,fq⟩:=Q2.later hq
   go_wp21
   exact cL results97 ⟨q0,q1,q2,q3,q4,q5,T,fq⟩ ⟨_,rfl,S⟩
  .have ad:(g.e.kind != 1)=XX:=by simpa using G
   have E:r.hl.length<=1000:=by
    have h1:=i.hl.len;have h2:r.eg.length=s.es.length:=by rw[<- i.of.es];simp
    have h3:=jM i.aY;omega
   have DR:=aC (fun wx (k:X0 X.drew.heap.size X.drew wx)=>Kc (hd.later k) i.hl.1 E g.e.bP g.e.id ⟨_,i.hl.has C G,rfl,rfl⟩);have c0:X.drew.cell? (g.eb,0)=U ↑g.e.id:=(t.en g C).1.en.c0;have c5:X.drew.cell? (g.eb,5)=U ↑g.e.bP:=(t.en g C).1.u;have L:=aC (Yz C (Yz G t.ni));clear a a3 a4 H t K hf G hd C E
   go_big_region
   clear c xi a1
   go_upto_region 5 with fail
   generalize hW:X.drew=W at *
   go_region_held3 (fun w'=>w'.cell? (g.eb,0)=U ↑g.e.id/\w'.cell? (g.eb,5)=U ↑g.e.bP)
    (first
     |exact⟨c0,c5⟩
     |exact⟨((z.en g L.1).1).en.c0,((z.en g L.1).1).u⟩)
    (first
     |(go_at_call 149;refine aK (DR _ (dV W)) ?_;rintro w4 ⟨x,l',F,k1,k2,k3,k4,z,y⟩))
   have LV:=aC (Ea z (s:=s) ⟨i.of.now,i.of.given,i.of.ts,i.of.es,i.of.th,i.of.tb⟩ i.wl i.aY L.1 (i.hl.goes L.2.2 L.1 L.2.1 k2 k3 k4));have ST:Hid (Step anyS w aN F w w4):=(Step.below BX).trans ((Step.below (dV W)).trans (y.any BX.size));have Q2:Hid (Q7 w4 (w.heap.size+1)):=QX.later (y.cF (b:=w.heap.size+1) hQ I hQ);have q:w+1<w4.heap.size:=Yl _ _ Q2.q0;have j:F (w.heap.size+1)=Z:=y.dG I hQ;clear k1 k2 k3 k4 z y DR c0 c5 ck hW
   go_wp21
   refine LV.mono ?_;rintro e w2 ⟨rfl,r2,ac,z,y,k7,k8,D⟩;have hq:=D.cF q j q
   have S:Hid (dS w d aN (aA.aV s (.cancel g.e.id)) (bJ 0 0 0 () () () ()) (cR w2 (w.heap.size+1) (V Y 0) (V Y 0) (V Y 0) () () () ())):=by
    rw[HD];exact vv z y k7 k8 (ST.trans (D.any ST.size)) O (D.dG j q) 0 0 _ _ _ _ _ _ _
   clear z y k7 k8 D LV;obtain⟨q0,q1,q2,q3,q4,q5,T,fq⟩:=Q2.later hq
   go_wp21
   exact cL results97 ⟨q0,q1,q2,q3,q4,q5,T,fq⟩ ⟨_,rfl,S⟩
def iI(s:St)(e:aO):St × aA.bI :=
 if s.given=60\/e.kind=3/\aA.eM s.es=6 then (s,.error 5)
 else if e.kind≠3/\aA.eo s.ts s.es e.bA e.aM e.aQ=XW then (s,.error 8)
 else aA.kB s e
def mP(w:XY)(B:M)(d:M)(aN:M->XM bH)(q:St × aA.bI)(v:XZ)(w':XY):Prop :=
 ∃ (c n:N) (a:Raw) (col':M->XM bH),v=bJ c 0 n () () () ()/\q.2=⟨c,0,n,[],[],[],[]⟩/\DK w' d a col'/\Of q.1 a/\Wl a/\Hl a/\Step anyS B aN col' w w'
theorem uj{j:XY}{u:St}{m:Raw}(G:DK j d m col')(F:Of u m)(E:Wl m)(D:Hl m)(C:Step anyS B aN col' w j)(z:B<=Q)(y:col' Q=Z)(t n:N)(a b c e f g i:XZ):
  mP w B d aN (u,⟨t,0,n,[],[],[],[]⟩) (bJ t 0 n () () () ()) (cR j Q a b c e f g i):=by
 have k:=lQ j Q a b c e f g i;have st:Step anyS B col' col' j (cR j Q a b c e f g i):=⟨⟨_,k,fun x q=>.inr (by have:x=Q:=List.mem_singleton.1 q;subst this;exact⟨y,z⟩)⟩,fun _ _ h=>h,fun _ _ h=>.inl h⟩;exact⟨t,n,m,col',rfl,rfl,G.off k (fun x q=>by have:x=Q:=List.mem_singleton.1 q;subst this;exact y),F,E,D,C.trans st⟩
def EG.num(g:EG)(n:N):EG:={ g with e:={ g.e with id:=n } }
theorem iF.num{g:EG}(h:iF w g)(a:g.eb≠g.B)(n:N):iF (w.setCell (g.eb,0) n) (g.num n):=by
 have k:=aH.bD g.eb w 0 n;have c:=h.lt;refine⟨⟨zm _ _ _ h.en.c0,(aZ XA).trans h.en.c1,(aZ XA).trans h.en.c2,(aZ XA).trans h.en.c3,h.en.sl.off k (by simpa using Ne.symm a),Zg h.en.lt k.size⟩,(aZ XA).trans h.k,(aZ XA).trans h.u,fun o=>(zF ..).trans (h.fz o),?_⟩;let⟨cs,e⟩:=h.bl;exact⟨_,heap_setCell_same _ _ _ _ _ _ e⟩
theorem Wl.eM{s:St}(h:Wl r)(a:Of s r):aA.eM s.es=(r.wl.length:N):=by
 unfold aA.eM;rw[h,ZE,<- a.es,List.filter_map,ZE];rfl
theorem Vj{s:St}(h:eh w d s r aN){g:EG}(W:iF w g)(S:B<=w)(m:s.given=60\/g.e.kind=3/\aA.eM s.es=6):
  X4 prog 144 #[d,g.eb] w fun e w'=>∃ v,e=Yg v/\mP w B d aN (iI s g.e) v w':=by
 have H:X0 w w (w.alloc bB):=bC;have q:Hid (Q7 (w.alloc bB) w):=Q7.of (cP w bB);have cg:=(h.dk.later H).c1;rw[h.of.given] at cg;have ck:=(W.off (G:=[]) (aH.aD H) XA XA).k;have T:Hid (iI s g.e=(s,aA.bI.error 5)):=XS m;obtain⟨v4,c4,j,L⟩:=(h.dk.later H).wa;obtain⟨a,cap,rfl⟩:=lR j;have aa:=h.wl.eM h.of;have c:=aC h;have f:=aC H;clear j L h H W
 go_in
 go_upto_region 1 with fail
 change Code.wp _ _ _ _ (w.alloc bB);generalize w.alloc bB=X at *;rcases m with m|⟨m,hw⟩
 .rw[m] at cg
  go_wp21
  refine aK (jN 5 X) fun t i=>?_;have F:=i.block w (Yl _ _ q.q0)
  have K:Hid (mP w B d aN (iI s g.e) (bJ 5 0 0 () () () ()) (cR t w (V Y 5) (V Y 0) (V Y 0) () () () ())):=by
   rw[T];exact uj (c.dk.later (f.trans (i.mono f.size))) c.of c.wl c.hl (Step.below (f.trans (i.mono f.size))) S (c.dk.none aI) 5 0 _ _ _ _ _ _ _
  obtain⟨E,D,C,z,y,x,u,I⟩:=q.later F;simp only[bJ]
  go_wp21
  exact cL results144 ⟨E,D,C,z,y,x,u,I⟩ ⟨_,rfl,K⟩
 .by_cases ab:s.given<60
  .rw[m] at ck;rw[show r.wl.length=6 by omega] at c4
   go_wp21
   refine aK (jN 5 X) fun t i=>?_;have F:=i.block w (Yl _ _ q.q0)
   have K:Hid (mP w B d aN (iI s g.e) (bJ 5 0 0 () () () ()) (cR t w (V Y 5) (V Y 0) (V Y 0) () () () ())):=by
    rw[T];exact uj (c.dk.later (f.trans (i.mono f.size))) c.of c.wl c.hl (Step.below (f.trans (i.mono f.size))) S (c.dk.none aI) 5 0 _ _ _ _ _ _ _
   obtain⟨E,D,C,z,y,x,u,I⟩:=q.later F;simp only[bJ]
   go_wp21
   exact cL results144 ⟨E,D,C,z,y,x,u,I⟩ ⟨_,rfl,K⟩
  .go_wp21
   refine aK (jN 5 X) fun t i=>?_;have F:=i.block w (Yl _ _ q.q0)
   have K:Hid (mP w B d aN (iI s g.e) (bJ 5 0 0 () () () ()) (cR t w (V Y 5) (V Y 0) (V Y 0) () () () ())):=by
    rw[T];exact uj (c.dk.later (f.trans (i.mono f.size))) c.of c.wl c.hl (Step.below (f.trans (i.mono f.size))) S (c.dk.none aI) 5 0 _ _ _ _ _ _ _
   obtain⟨E,D,C,z,y,x,u,I⟩:=q.later F;simp only[bJ]
   go_wp21
   exact cL results144 ⟨E,D,C,z,y,x,u,I⟩ ⟨_,rfl,K⟩
end Go.Proofs.YtfigmlfdnickmaaGreatDoor
