import Derived.Test.YtolaacmheeaadaaGreatDoorL05
set_option maxRecDepth 100000
set_option maxHeartbeats 8000000
open Go.Proofs.Tryz
open _root_ renaming ByteArray->Xm,List->Xn,Option->Xo,Bool->Xp,Nat->Xq,Int->Xr,if_neg->Xs,if_pos->Xt,absurd->Xu,Int->N,Nat->M,List->J
open Option renaming none->Xv,some->Xw,none->Z,some->U
open Bool renaming false->Xx,true->Xy
open Go renaming World->Xz,Value->XA,Calls->XD,TypeId->XF
open Go.RowKit renaming Below->XC
open Go.Value renaming string->XJ,ownBlock->Y9,int->XG,slice->XI,bool->XK,tuple->XL,agg->XM,iface->XN,int->V
open Nat renaming zero_le->YJ,le_trans->XU,le_refl->XS
open List renaming map_append->YS,length_append->Yx,drop_eq_getElem_cons->Zg
open Go.World renaming block_lt_of_cell?->XV,frozen?_of_block->Zj,cell?->Yh
open And renaming intro->Yc
open Go.IntKind renaming i64->XP,i64->Y
open Go.Ending renaming returned->XQ
open Go.Obj renaming cells->XR
namespace Go.Proofs.YtolaacmheeaadaaGreatDoor
variable{wr:Xp}{s:Xm}{B:Xm->Xp}{fr mi mn pc ti un:Xr}{ws:Xn Xm}{acc:Xn Xr}{l:Xn UInt8}{A P R b d k n nx o p:Xq}{aM:Xq->Xo bO}{v:Xq->XA}{r:Raw}{w w' wx:Xz}
open Go.RowKit
theorem Vv(x:M)(w:Xz):XD prog 86 #[V .i32 x] w fun e w'=>e=XQ (x==32)/\∃ q,w'=w.drewN q:=by
 go_in;go_wp2;go_ret;refine⟨fJ ?_,0,rfl⟩;rw[Bool.eq_iff_iff];simp;omega
theorem b5j(a:Array XA)(w:Xz):Sem.run prog (callFunc 86 a) w=.ok (.enter 86 a) w:=Xg
theorem Wb(s:Xm)(w:Xz)(h:s.size<=160):
  XD prog 58 #[s] w fun e w'=>∃ A,e=XQ (XI (U ⟨A,0,Z⟩) (Txt.aC s).length (Txt.aC s).length)/\w<=A /\w'.ownsRow w 9 1 (XI A (Txt.aC s).length (Txt.aC s).length) (Txt.aC s).length ((Txt.aC s).map XJ)/\XC w w w':=by
 have c:PredAtRunes prog 86 #[] (fun r=>r==32) w:=fun W x _ _=>Vv x W;have HP:=hide c;go_in;go_wp21;refine (strings_FieldsFunc_runes 86 #[] b5j (fun r=>r==32) s w O (aO HP)).mono ?_;rintro e w' ⟨A,rfl,g,a,f⟩;rw[Txt.b3C] at a ⊢;go_wp2;go_ret;exact⟨A,rfl,g,a,f⟩
theorem toList_data(b:Xm):b.toList=b.data.toList:=Lib.toList_data b
theorem Jb{b:Xm}(h:b.toList.isEmpty=Xy):b.size=0:=by rw[toList_data,List.isEmpty_iff] at h;rw[<- Txt.iL,h];rfl
theorem Jc{b:Xm}(h:b.toList.isEmpty=Xx):b.size≠0:=by intro e;rw[toList_data,List.isEmpty_eq_false_iff] at h;exact h (List.eq_nil_of_length_eq_zero (by simp_all))
theorem lI{a e size:M}{v:XA}{f:J XA}(h:w.ownsRow a e size v n f)(c:v.ownBlock=U k):a<=k:=by
 rcases h.2 with ⟨rfl,_⟩|⟨g,cap,i,rfl,j,_⟩
 .simp[Y9] at c
 .simp[Y9] at c;omega
theorem qm:(prog.info? 9).map (fun i=>(i.zero,i.size,i.bytes))=U (U (XJ ⟨#[]⟩),1,16):=Xg
theorem IJ(s:Xm)(w:Xz)(Q:s.size<=160):XD prog 45 #[s] w fun e w'=>∃ v,e=XQ v/\w'.ownsRow w 9 1 v (Txt.aC s).length ((Txt.aC s).map XJ)/\XC w w w':=by
 obtain⟨G,H,x,t,q⟩:=info_parts qm;go_in;go_wp2;go_loopw [3,4,5] (fun v c i wr=>∃ k:M,k<=s.size/\i=V Y k/\c=XJ (Txt.jv s k)/\wr.ownsRow w 9 1 v (Txt.oy s k).length ((Txt.oy s k).map XJ)/\XC w w wr) (fun _ _ i _=>s.size-(intOf i).toNat)
 case atStart=>exact⟨0,YJ _,rfl,rfl,World.ownsRow_nil _ _ _ _,Below.refl _ _⟩
 case round =>
  obtain⟨k,z,rfl,rfl,a,f⟩:=hrel;have S:=Txt.J1 s k;by_cases L:k<s.size
  .by_cases D:Txt.fK s k=32
   .have E:((s[k].toNat:N)==32)=Xy:=beq_iff_eq.2 (by rw[<- Txt.mz];exact D);have m:=hide (Txt.Lk s k z D)
    cases C:(Txt.jv s k).toList.isEmpty
    .have j:=(Jc C);have F:=Txt.xY s k
     go_wp2_with (first
      |(at_builtin;refine wpList_append_own _ rfl _ _ 78 rfl w 9 G (XJ ⟨#[]⟩) 1 16 underlying78 H x t q rfl Xd _ _ _ rfl (a.alloc _) (wr,0) 1 1 [Txt.jv s k] rfl rfl ?c1 ?c2 ?c3 ?c4 ?c5 ?_)
      |go_in)
     case c1=>exact cell_one_new _ _ _
     case c2=>intro u y;simp at y;subst y;rfl
     case c3=>unfold maxLen;omega
     case c4=>omega
     case c5=>have:=f.size;simp;omega
     intro v' K g h _;go_wp2;refine⟨⟨k+1,O,by go_num,by rw[(aO m).1],?_,?_⟩,by simp[intOf];omega⟩
     .rw[(aO m).2,Xs j,YS,Yx];exact g
     .refine (f.alloc f.size _).grown h (by have:=f.size;simp;omega) (fun k z=>?_);exact lI a z
    .have j:Hid ((Txt.jv s k).size=0):=(Jb C);go_wp2;exact⟨⟨k+1,O,by go_num,by rw[(aO m).1],by rw[(aO m).2,Xt j.out,List.append_nil];exact a,f⟩,by simp[intOf];omega⟩
   .have E:((s[k].toNat:N)==32)=Xx:=beq_eq_false_iff_ne.2 (by rw[<- Txt.mz];exact D);have m:=hide (Txt.J0 s k D);go_wp2;exact⟨⟨k+1,O,by go_num,by rw[(aO m).1],by rw[(aO m).2];exact a,f⟩,by simp[intOf];omega⟩
  .obtain rfl:k=s.size:=O
   have I:=hide (Txt.Ek s)
   cases C:(Txt.jv s s.size).toList.isEmpty
   .have j:=(Jc C);have F:=Txt.xY s s.size
    go_wp2_with (first
     |(at_builtin;refine wpList_append_own _ rfl _ _ 78 rfl w 9 G (XJ ⟨#[]⟩) 1 16 underlying78 H x t q rfl Xd _ _ _ rfl (a.alloc _) (wr,0) 1 1 [Txt.jv s s.size] rfl rfl ?c1 ?c2 ?c3 ?c4 ?c5 ?_)
     |go_in)
    case c1=>exact cell_one_new _ _ _
    case c2=>intro u y;simp at y;subst y;rfl
    case c3=>unfold maxLen;omega
    case c4=>omega
    case c5=>have:=f.size;simp;omega
    intro v' K g h _;go_wp2;go_ret;refine⟨v',rfl,?_,?_⟩
    .rw[aO I,Xs j,YS,Yx];exact g
    .refine (f.alloc f.size _).grown h (by have:=f.size;simp;omega) (fun k z=>?_);exact lI a z
   .have j:Hid ((Txt.jv s s.size).size=0):=(Jb C);go_wp2;go_ret;exact⟨_,rfl,by rw[aO I,Xt j.out,List.append_nil];exact a,f⟩
def gu(k:M):J UInt8:=match k with|0=>[109,111]|1=>[116,117]|2=>[119,101]|3=>[116,104]|4=>[102,114]|5=>[115,97]|_=>[115,117]
theorem oB(c:k<7)(h:(l==gu k)=Xy)(a:∀ j,j<k->(l==gu j)=Xx):Txt.fu l=k:=by have e:=beq_iff_eq.1 h;subst e;rcases (show k=0\/k=1\/k=2\/k=3\/k=4\/k=5\/k=6 by omega) with rfl|rfl|rfl|rfl|rfl|rfl|rfl <;> decide
theorem Jj(a:∀ j,j<7->(l==gu j)=Xx):Txt.fu l=-1:=by have q:=a 0 O;have m:=a 1 O;have i:=a 2 O;have h:=a 3 O;have g:=a 4 O;have f:=a 5 O;have c:=a 6 O;simp only[gu] at q m i h g f c;simp[Txt.fu,q,m,i,h,g,f,c]
theorem oD(a:∀ j,j<k->(l==gu j)=Xx)(h:(l==gu k)=Xx):∀ j,j<k+1->(l==gu j)=Xx:=Xi
def pj(s:Xm):N:=if 0<=Txt.fu s.data.toList then Txt.fu s.data.toList else 0
def oK(s:Xm):Xp:=decide (0<=Txt.fu s.data.toList)
theorem a8Y(s:Xm)(w:Xz)(h:Env w):XD prog 216 #[s] w fun e w'=>e=XQ (XL #[V Y (pj s),oK s])/\w'=w:=by
 have D:=h.mo;have C:=h.tu;have z:=h.we;have y:=h.th;have x:=h.fr;have u:=h.sa;have t:=h.su;have g:=hide (toList_data s);go_in;go_wp2;go_loop [4,5] (fun _ i=>∃ k:M,k<=7/\i=V Y k/\∀ j,j<k->(s.data.toList==gu j)=Xx) (fun _ i=>7-(intOf i).toNat)
 .exact⟨0,O,rfl,fun j q=>Xu q O⟩
 .obtain⟨k,E,rfl,m⟩:=hrel;have f:=hide m;rcases (show k=0\/k=1\/k=2\/k=3\/k=4\/k=5\/k=6\/k=7 by omega) with rfl|rfl|rfl|rfl|rfl|rfl|rfl|rfl
  .cases c:([109,111]==s.toList)
   .have a:Hid ((s.data.toList==gu 0)=Xx):=by show (s.data.toList==gu 0)=Xx;rw[<- aO g,Bool.beq_comm];exact c
    go_wp2;go_round
    .exact⟨1,O,by go_num,oD (aO f) a⟩
    .simp[intOf]
   .have a:=oB (k:=0) O (by rw[<- aO g,Bool.beq_comm];exact c) (aO f);go_wp2;go_ret2;exact⟨gb (by rw[pj,a];rfl) (by rw[oK,a];rfl),rfl⟩
  .cases c:([116,117]==s.toList)
   .have a:Hid ((s.data.toList==gu 1)=Xx):=by show (s.data.toList==gu 1)=Xx;rw[<- aO g,Bool.beq_comm];exact c
    go_wp2;go_round
    .exact⟨2,O,by go_num,oD (aO f) a⟩
    .simp[intOf]
   .have a:=oB (k:=1) O (by rw[<- aO g,Bool.beq_comm];exact c) (aO f);go_wp2;go_ret2;exact⟨gb (by rw[pj,a];rfl) (by rw[oK,a];rfl),rfl⟩
  .cases c:([119,101]==s.toList)
   .have a:Hid ((s.data.toList==gu 2)=Xx):=by show (s.data.toList==gu 2)=Xx;rw[<- aO g,Bool.beq_comm];exact c
    go_wp2;go_round
    .exact⟨3,O,by go_num,oD (aO f) a⟩
    .simp[intOf]
   .have a:=oB (k:=2) O (by rw[<- aO g,Bool.beq_comm];exact c) (aO f);go_wp2;go_ret2;exact⟨gb (by rw[pj,a];rfl) (by rw[oK,a];rfl),rfl⟩
  .cases c:([116,104]==s.toList)
   .have a:Hid ((s.data.toList==gu 3)=Xx):=by show (s.data.toList==gu 3)=Xx;rw[<- aO g,Bool.beq_comm];exact c
    go_wp2;go_round
    .exact⟨4,O,by go_num,oD (aO f) a⟩
    .simp[intOf]
   .have a:=oB (k:=3) O (by rw[<- aO g,Bool.beq_comm];exact c) (aO f);go_wp2;go_ret2;exact⟨gb (by rw[pj,a];rfl) (by rw[oK,a];rfl),rfl⟩
  .cases c:([102,114]==s.toList)
   .have a:Hid ((s.data.toList==gu 4)=Xx):=by show (s.data.toList==gu 4)=Xx;rw[<- aO g,Bool.beq_comm];exact c
    go_wp2;go_round
    .exact⟨5,O,by go_num,oD (aO f) a⟩
    .simp[intOf]
   .have a:=oB (k:=4) O (by rw[<- aO g,Bool.beq_comm];exact c) (aO f);go_wp2;go_ret2;exact⟨gb (by rw[pj,a];rfl) (by rw[oK,a];rfl),rfl⟩
  .cases c:([115,97]==s.toList)
   .have a:Hid ((s.data.toList==gu 5)=Xx):=by show (s.data.toList==gu 5)=Xx;rw[<- aO g,Bool.beq_comm];exact c
    go_wp2;go_round
    .exact⟨6,O,by go_num,oD (aO f) a⟩
    .simp[intOf]
   .have a:=oB (k:=5) O (by rw[<- aO g,Bool.beq_comm];exact c) (aO f);go_wp2;go_ret2;exact⟨gb (by rw[pj,a];rfl) (by rw[oK,a];rfl),rfl⟩
  .cases c:([115,117]==s.toList)
   .have a:Hid ((s.data.toList==gu 6)=Xx):=by show (s.data.toList==gu 6)=Xx;rw[<- aO g,Bool.beq_comm];exact c
    go_wp2;go_round
    .exact⟨7,O,by go_num,oD (aO f) a⟩
    .simp[intOf]
   .have a:=oB (k:=6) O (by rw[<- aO g,Bool.beq_comm];exact c) (aO f);go_wp2;go_ret2;exact⟨gb (by rw[pj,a];rfl) (by rw[oK,a];rfl),rfl⟩
  .have a:=Jj (aO f);go_wp2;go_ret2;exact⟨gb (by rw[pj,a];rfl) (by rw[oK,a];rfl),rfl⟩
theorem Sk(s:Xm)(w:Xz):XD prog 83 #[s] w fun e w'=>e=XQ (V Y (Txt.fu s.data.toList))/\XC w w w':=by
 have g:=hide (toList_data s);have h:Hid (∀ o,XC w w (w.alloc o)):=fun o=>fI.alloc aJ o;go_in;go_wp2;go_loop [4] (fun i=>∃ k:M,k<=7/\i=V Y k/\∀ j,j<k->(s.data.toList==gu j)=Xx) (fun i=>7-(intOf i).toNat)
 .exact⟨0,O,rfl,fun j q=>Xu q O⟩
 .obtain⟨k,t,rfl,m⟩:=hrel;have f:=hide m;clear m;rcases (show k=0\/k=1\/k=2\/k=3\/k=4\/k=5\/k=6\/k=7 by omega) with rfl|rfl|rfl|rfl|rfl|rfl|rfl|rfl
  .cases c:(s.toList==[109,111])
   .have a:Hid ((s.data.toList==gu 0)=Xx):=by show (s.data.toList==gu 0)=Xx;rw[<- aO g];exact c
    go_wp2;go_round
    .exact⟨1,O,by go_num,oD (aO f) a⟩
    .simp[intOf]
   .have a:Hid (Txt.fu s.data.toList=0):=oB (k:=0) O (by rw[<- aO g];exact c) (aO f);go_wp2;go_ret;exact⟨iK (by rw[a]),h _⟩
  .cases c:(s.toList==[116,117])
   .have a:Hid ((s.data.toList==gu 1)=Xx):=by show (s.data.toList==gu 1)=Xx;rw[<- aO g];exact c
    go_wp2;go_round
    .exact⟨2,O,by go_num,oD (aO f) a⟩
    .simp[intOf]
   .have a:Hid (Txt.fu s.data.toList=1):=oB (k:=1) O (by rw[<- aO g];exact c) (aO f);go_wp2;go_ret;exact⟨iK (by rw[a]),h _⟩
  .cases c:(s.toList==[119,101])
   .have a:Hid ((s.data.toList==gu 2)=Xx):=by show (s.data.toList==gu 2)=Xx;rw[<- aO g];exact c
    go_wp2;go_round
    .exact⟨3,O,by go_num,oD (aO f) a⟩
    .simp[intOf]
   .have a:Hid (Txt.fu s.data.toList=2):=oB (k:=2) O (by rw[<- aO g];exact c) (aO f);go_wp2;go_ret;exact⟨iK (by rw[a]),h _⟩
  .cases c:(s.toList==[116,104])
   .have a:Hid ((s.data.toList==gu 3)=Xx):=by show (s.data.toList==gu 3)=Xx;rw[<- aO g];exact c
    go_wp2;go_round
    .exact⟨4,O,by go_num,oD (aO f) a⟩
    .simp[intOf]
   .have a:Hid (Txt.fu s.data.toList=3):=oB (k:=3) O (by rw[<- aO g];exact c) (aO f);go_wp2;go_ret;exact⟨iK (by rw[a]),h _⟩
  .cases c:(s.toList==[102,114])
   .have a:Hid ((s.data.toList==gu 4)=Xx):=by show (s.data.toList==gu 4)=Xx;rw[<- aO g];exact c
    go_wp2;go_round
    .exact⟨5,O,by go_num,oD (aO f) a⟩
    .simp[intOf]
   .have a:Hid (Txt.fu s.data.toList=4):=oB (k:=4) O (by rw[<- aO g];exact c) (aO f);go_wp2;go_ret;exact⟨iK (by rw[a]),h _⟩
  .cases c:(s.toList==[115,97])
   .have a:Hid ((s.data.toList==gu 5)=Xx):=by show (s.data.toList==gu 5)=Xx;rw[<- aO g];exact c
    go_wp2;go_round
    .exact⟨6,O,by go_num,oD (aO f) a⟩
    .simp[intOf]
   .have a:Hid (Txt.fu s.data.toList=5):=oB (k:=5) O (by rw[<- aO g];exact c) (aO f);go_wp2;go_ret;exact⟨iK (by rw[a]),h _⟩
  .cases c:(s.toList==[115,117])
   .have a:Hid ((s.data.toList==gu 6)=Xx):=by show (s.data.toList==gu 6)=Xx;rw[<- aO g];exact c
    go_wp2;go_round
    .exact⟨7,O,by go_num,oD (aO f) a⟩
    .simp[intOf]
   .have a:Hid (Txt.fu s.data.toList=6):=oB (k:=6) O (by rw[<- aO g];exact c) (aO f);go_wp2;go_ret;exact⟨iK (by rw[a]),h _⟩
  .have a:Hid (Txt.fu s.data.toList=-1):=Jj (aO f);go_wp2;go_ret;exact⟨iK (by rw[a]),h _⟩
structure DS(w:Xz)(b:M)(acc:J N):Prop where
 c0:w.cell? (b,0)=U (XK (aI acc 0))
 c1:w.cell? (b,1)=U (XK (aI acc 1))
 c2:w.cell? (b,2)=U (XK (aI acc 2))
 c3:w.cell? (b,3)=U (XK (aI acc 3))
 c4:w.cell? (b,4)=U (XK (aI acc 4))
 c5:w.cell? (b,5)=U (XK (aI acc 5))
 c6:w.cell? (b,6)=U (XK (aI acc 6))
 f:∀ j:M,w.frozen? (b,j)=Xx
theorem DS.later(h:DS w b acc)(a:XC w w wx):DS wx b acc :=⟨cell_later a h.c0,cell_later a h.c1,cell_later a h.c2,cell_later a h.c3,cell_later a h.c4,cell_later a h.c5,cell_later a h.c6,fun j=>(a.frozen (p:=(b,j)) (show b<w from XV _ (b,0) h.c0)).trans (h.f j)⟩
theorem DS.at(h:DS w b acc)(d:N)(c:0<=d)(a:d<7):w.cell? (b,d.toNat)=U (XK (aI acc d)):=by
 rcases (show d=0\/d=1\/d=2\/d=3\/d=4\/d=5\/d=6 by omega) with rfl|rfl|rfl|rfl|rfl|rfl|rfl
 .exact h.c0
 .exact h.c1
 .exact h.c2
 .exact h.c3
 .exact h.c4
 .exact h.c5
 .exact h.c6
theorem uQ(d:N)(g:0<=d){u:XA}(a:w.cell? (b,k)=U (XK (aI acc k)))(_hu:u=XK Xy):(w.setCell (b,d.toNat) Xy).cell? (b,k)=U (XK (aI (d :: acc) k)):=by
 by_cases e:d.toNat=k
 .have f:d=(k:N):=O
  rw[e,World.cell?_setCell_same _ _ _ a];simp[aI,f]
 .rw[World.cell?_setCell_other _ _ _ _ Xc,a];have c:(k:N)≠d:=O
  simp[aI,c]
theorem DS.set(h:DS w b acc)(d:N)(a:0<=d):DS (w.setCell (b,d.toNat) Xy) b (d :: acc) :=⟨uQ (k:=0) d a h.c0 rfl,uQ (k:=1) d a h.c1 rfl,uQ (k:=2) d a h.c2 rfl,uQ (k:=3) d a h.c3 rfl,uQ (k:=4) d a h.c4 rfl,uQ (k:=5) d a h.c5 rfl,uQ (k:=6) d a h.c6 rfl,fun j=>(zF ..).trans (h.f j)⟩
theorem Dr{a:M}{v:XA}(h:DS w b acc)(_hne:a≠b):DS (w.setCell (a,o) v) b acc:=by have g:∀ j:M,(w.setCell (a,o) v).cell? (b,j)=w.cell? (b,j):=fun j=>bC Xc;exact⟨(g 0).trans h.c0,(g 1).trans h.c1,(g 2).trans h.c2,(g 3).trans h.c3,(g 4).trans h.c4,(g 5).trans h.c5,(g 6).trans h.c6,fun j=>(zF ..).trans (h.f j)⟩
def gD(acc:J N):XA:=XM #[aI acc 0,aI acc 1,aI acc 2,aI acc 3,aI acc 4,aI acc 5,aI acc 6]
def uo(s:Xm)(k:M)(acc:J N):Prop :=(3*k<s.size/\Txt.jf s=Txt.kC (s.data.toList.drop (3*k)) acc)\/(3*k=s.size+1/\Txt.jf s=U acc)
theorem I3(s:Xm)(k:M)(h:s.size % 3=2)(q:3*k<s.size):
  (3*k+2=s.size/\s.data.toList.drop (3*k)=Txt.part s (3*k) (3*k+2)/\(Txt.part s (3*k) (3*k+2)).length=2) \/
  (3*k+3<s.size/\∃ a b c,s.data.toList.drop (3*k)=a :: b :: c :: s.data.toList.drop (3*(k+1))/\Txt.part s (3*k) (3*k+2)=[a,b]/\(c.toNat:N)=Txt.fK s (3*k+2)):=by
 have m:=Txt.iL s;have f:Txt.part s (3*k) (3*k+2)=(s.data.toList.drop (3*k)).take 2:=by unfold Txt.part;rw[Txt.rF,List.drop_take];congr 1;omega
 by_cases j:3*k+2=s.size
 .left;have e:(s.data.toList.drop (3*k)).length=2:=Xi
  refine⟨j,?_,?_⟩
  .rw[f,List.take_of_length_le O]
  .rw[f,List.length_take];omega
 .right;have g:3*k+3<s.size:=O
  refine⟨g,s.data.toList[3*k]'Xb,s.data.toList[3*k+1]'Xb,s.data.toList[3*k+2]'Xb,?_,?_,?_⟩
  .rw[Zg O,Zg (i:=3*k+1) O,Zg (i:=3*k+1+1) O,show 3*k+1+1+1=3*(k+1) from by omega]
  .rw[f,Zg O,Zg (i:=3*k+1) O];rfl
  .unfold Txt.fK;rw[List.getD_eq_getElem?_getD,List.getElem?_eq_getElem O];rfl
theorem RF(s:Xm)(h:s.size % 3=2):uo s 0 []:=.inl ⟨O,rfl⟩
theorem QM(h:uo s k acc)(z:s.size % 3=2)(u:3*k<s.size)(f:Txt.fu (Txt.part s (3*k) (3*k+2))<0\/aI acc (Txt.fu (Txt.part s (3*k) (3*k+2)))=Xy\/(3*k+2<s.size/\Txt.fK s (3*k+2)≠44)):Txt.jf s=Z:=by
 rcases h with ⟨_,h⟩|⟨h,_⟩
 .rw[h]
  have g:Txt.fu (Txt.part s (3*k) (3*k+2))<0\/aI acc (Txt.fu (Txt.part s (3*k) (3*k+2)))=Xy->Txt.mv acc (Txt.fu (Txt.part s (3*k) (3*k+2)))=Z:=fun q=>by
   unfold Txt.mv;rw[Xs];rintro ⟨E,t⟩;rcases q with q|q
   .omega
   .unfold aI at q;rw[q] at t;cases t
  rcases I3 s k z u with ⟨D,m,i⟩|⟨D,a,b,c,m,i,C⟩
  .rw[m];rcases f with f|f|f
   all_goals first|omega|skip
   all_goals
    obtain⟨x,y,j⟩:∃ x y,Txt.part s (3*k) (3*k+2)=[x,y]:=by
     match hm:Txt.part s (3*k) (3*k+2),i with
     |[x,y],_=>exact⟨x,y,rfl⟩
    have:=g Xi;rw[j] at this ⊢;exact this
  .rw[m,Txt.kC]
   split
   .rename_i hc
    rcases f with f|f|f
    .have:=g (.inl f);rw[i] at this;rw[this];rfl
    .have:=g (.inr f);rw[i] at this;rw[this];rfl
    .subst hc;exfalso;apply f.2;rw[<- C];rfl
   .rfl
 .omega
theorem Rb(h:uo s k acc)(u:s.size % 3=2)(q:3*k<s.size)(z:0<=Txt.fu (Txt.part s (3*k) (3*k+2)))(j:aI acc (Txt.fu (Txt.part s (3*k) (3*k+2)))=Xx)(m:3*k+2<s.size->Txt.fK s (3*k+2)=44):uo s (k+1) (Txt.fu (Txt.part s (3*k) (3*k+2)) :: acc):=by
 have st:Txt.mv acc (Txt.fu (Txt.part s (3*k) (3*k+2)))=U (Txt.fu (Txt.part s (3*k) (3*k+2)) :: acc):=by unfold Txt.mv;rw[Xt ⟨z,j⟩]
 rcases h with ⟨_,h⟩|⟨h,_⟩
 .rcases I3 s k u q with ⟨D,i,g⟩|⟨D,a,b,c,i,g,C⟩
  .right;refine⟨O,?_⟩;rw[h,i]
   obtain⟨x,y,f⟩:∃ x y,Txt.part s (3*k) (3*k+2)=[x,y]:=by
    match j:Txt.part s (3*k) (3*k+2),g with
    |[x,y],_=>exact⟨x,y,rfl⟩
   rw[f] at st ⊢;exact st
  .left;refine⟨O,?_⟩
   have t:c=44:=by have:=m O;rw[<- C] at this;exact UInt8.toNat_inj.1 Xi
   rw[h,i,Txt.kC,Xt t,<- g,st];rfl
 .omega
theorem Cc(s:Xm)(w:Xz)(hm:s.size<=160):XD prog 52 #[s] w fun e w'=>(∃ acc,e=XQ (XL #[gD acc,Txt.fF s])/\(Txt.fF s=Xy->Txt.jf s=U acc))/\XC w w w':=by
 by_cases h3:s.size % 3=2
 .have ae:(((s.size:N) % 3) != 2)=Xx:=qA O
  go_in;go_wp2;obtain⟨W,G⟩:∃ W,W=(w.alloc (XR #[Xx,Xx,Xx,Xx,Xx,Xx,Xx] 116)).alloc (XR #[Xx,Xx,Xx,Xx,Xx,Xx,Xx] 116):=⟨_,rfl⟩;rw[<- G];have hB:XC w w W:=by rw[G];exact aS.alloc Xc _
  have hZ:w+2=W.heap.size:=by rw[G];simp
  have dR:DS W w []:=by rw[G];refine⟨?_,?_,?_,?_,?_,?_,?_,fun j=>?_⟩ <;> simp[aI]
  have dD:DS W (w.heap.size+1) []:=by rw[G];refine⟨?_,?_,?_,?_,?_,?_,?_,fun j=>?_⟩ <;> simp[aI]
  clear G;go_loopw [5,6] (fun i _ wx=>∃ (k:M) (acc:J N),3*k<=s.size+1/\i=V Y ((3*k:M):N)/\uo s k acc/\DS wx (w.heap.size+1) acc/\DS wx w []/\XC w w wx/\w+2<=wx.heap.size) (fun i _ _=>s.size+3-(intOf i).toNat)
  .exact⟨0,[],O,rfl,RF s h3,dD,dR,hB,O⟩
  .obtain⟨k,acc,hk,rfl,D,E,z,C,X⟩:=hrel
   by_cases ab:3*k<s.size
   .have hd:=Txt.As (Txt.part s (3*k) (3*k+2));have ad:=hide D;clear D
    go_wp21;refine aK (Sk _ _) fun w1 x=>?_;rw[show (s.extract (3*k) (3*k+2)).data.toList=Txt.part s (3*k) (3*k+2) from rfl];have y:XC w w w1:=C.trans (x.mono C.size);have af:w+2<=w1.heap.size:=XU X x.size;have a:=E.later x;have c:=z.later x;have q0:=a.c0;have q1:=a.c1;have q2:=a.c2;have q3:=a.c3;have q4:=a.c4;have q5:=a.c5;have q6:=a.c6;have T:=c.c0;have S:=c.c1;have Q:=c.c2;have L:=c.c3;have K:=c.c4;have I:=c.c5;have H:=c.c6;have fR:=c.f;have fD:=a.f;obtain⟨d,ac⟩:∃ d,d=Txt.fu (Txt.part s (3*k) (3*k+2)):=⟨_,rfl⟩;have m:=hide (fun q=>QM (aO ad) h3 ab q);have g:=hide (fun q1 q2 q3=>Rb (aO ad) h3 ab q1 q2 q3);rw[<- ac] at hd m g ⊢;clear ac E z C X x hB hZ dR dD;by_cases aa:d<0
    .have t:Hid (Txt.fF s=Xx):=by show Txt.fF s=Xx;unfold Txt.fF;rw[aO m (.inl aa)];rfl
     go_wp2;refine bodyPost_ret (v:=XL #[gD acc,Xx]) (by simp[results,results52,go_sem,gD,T,S,Q,L,K,I,H]) rfl ⟨⟨acc,?_,?_⟩,?_⟩
     .rw[t]
     .intro h;rw[t] at h;cases h
     .exact (((((((y.setCell aJ _).setCell aJ _).setCell aJ _).setCell aJ _).setCell aJ _).setCell aJ _).setCell aJ _)
    .have hc:=a.at d O O
     cases u:aI acc d
     .rw[u] at hc
      by_cases h2:3*k+2<s.size
      .cases F:(((s[3*k+2]'h2).toNat:N) != 44)
       .have HX:Hid (uo s (k+1) (d :: acc)):=aO g O u (fun _=>by rw[Txt.mz s _ h2];simpa using F)
        go_wp2;refine⟨⟨k+1,d :: acc,O,by go_num,HX,?_,?_,?_,?_⟩,by simp[intOf];omega⟩
        .exact a.set d O
        .exact Dr c O
        .exact y.setCell Xc _
        .simp;omega
       .have t:Hid (Txt.fF s=Xx):=by show Txt.fF s=Xx;unfold Txt.fF;rw[aO m (.inr (.inr ⟨h2,by rw[Txt.mz s _ h2];simpa using F⟩))];rfl
        go_wp2;refine bodyPost_ret (v:=XL #[gD acc,Xx]) (by simp[results,results52,go_sem,gD,T,S,Q,L,K,I,H]) rfl ⟨⟨acc,?_,?_⟩,?_⟩
        .rw[t]
        .intro h;rw[t] at h;cases h
        .exact (((((((y.setCell aJ _).setCell aJ _).setCell aJ _).setCell aJ _).setCell aJ _).setCell aJ _).setCell aJ _)
      .have HX:Hid (uo s (k+1) (d :: acc)):=aO g O u (fun h=>Xu h h2);go_wp2;refine⟨⟨k+1,d :: acc,O,by go_num,HX,?_,?_,?_,?_⟩,by simp[intOf];omega⟩
       .exact a.set d O
       .exact Dr c O
       .exact y.setCell Xc _
       .simp;omega
     .rw[u] at hc;have t:Hid (Txt.fF s=Xx):=by show Txt.fF s=Xx;unfold Txt.fF;rw[aO m (.inr (.inl u))];rfl
      go_wp2;refine bodyPost_ret (v:=XL #[gD acc,Xx]) (by simp[results,results52,go_sem,gD,T,S,Q,L,K,I,H]) rfl ⟨⟨acc,?_,?_⟩,?_⟩
      .rw[t]
      .intro h;rw[t] at h;cases h
      .exact (((((((y.setCell aJ _).setCell aJ _).setCell aJ _).setCell aJ _).setCell aJ _).setCell aJ _).setCell aJ _)
   .have HF:Hid (Txt.jf s=U acc):=by
     rcases D with ⟨h,_⟩|⟨_,h⟩
     .omega
     .exact h
    have t:Hid (Txt.fF s=Xy):=by show Txt.fF s=Xy;unfold Txt.fF;rw[HF];rfl
    clear D;have q0:=E.c0;have q1:=E.c1;have q2:=E.c2;have q3:=E.c3;have q4:=E.c4;have q5:=E.c5;have q6:=E.c6;have T:=z.c0;have S:=z.c1;have Q:=z.c2;have L:=z.c3;have K:=z.c4;have I:=z.c5;have H:=z.c6;have fR:=z.f;go_wp2;refine bodyPost_ret (v:=XL #[gD acc,Xy]) (by simp[results,results52,go_sem,gD,T,S,Q,L,K,I,H]) rfl ⟨⟨acc,?_,?_⟩,?_⟩
    .rw[t]
    .intro _;exact HF
    .exact (((((((C.setCell aJ _).setCell aJ _).setCell aJ _).setCell aJ _).setCell aJ _).setCell aJ _).setCell aJ _)
 .have ae:(((s.size:N) % 3) != 2)=Xy:=qB O
  have t:Hid (Txt.fF s=Xx):=by
   show Txt.fF s=Xx;unfold Txt.fF
   cases ho:Txt.jf s with
   |none=>rfl
   |some r=>have:=Txt.Hg _ _ _ ho;rw[Txt.iL] at this;omega
  clear h3;go_in;go_wp2;refine bodyPost_ret (v:=XL #[gD [],Xx]) (by simp[results,results52,go_sem,gD,aI]) rfl ⟨⟨[],?_,?_⟩,?_⟩
  .rw[t]
  .intro h;rw[t] at h;cases h
  .exact aS.alloc Xc _
def gJ(s:Xm):J Xm:=Lib.splitB ⟨#[44]⟩ 0 (Lib.countB s ⟨#[44]⟩) s
theorem JP(s:Xm):(gJ s).length=Lib.countB s ⟨#[44]⟩+1:=Lib.splitB_all ⟨#[44]⟩ Xd 0 _ s rfl
theorem Tf(s:Xm):Txt.qa ((gJ s).map (·.data.toList)) []=Txt.jf s:=Txt.Ww s
theorem b5r(s:Xm)(h:s.size<=160):(gJ s).length<=161:=by rw[JP];have:=Lib.countB_le ⟨#[44]⟩ Xd s.size s aJ;omega
theorem b7Y(w:Xz)(l:J Xm)(t:XF)(j:M)(x:Xm)(h:l[j]?=U x):(w.alloc (XR (l.map XJ).toArray t)).cell? (w,j)=U ↑x:=by rw[World.cell?_alloc_at _ _ _ _ rfl];simp[h]
def tL(s:Xm)(k:M)(acc:J N):Prop:=Txt.jf s=Txt.qa (((gJ s).map (·.data.toList)).drop k) acc
theorem Mo(h:tL s k acc)(a:k<(gJ s).length):Txt.jf s=(Txt.mv acc (Txt.fu (gJ s)[k].data.toList)).bind (Txt.qa (((gJ s).map (·.data.toList)).drop (k+1))):=by rw[h,Zg Xi];simp[Txt.qa]
theorem Wr(h:tL s k acc)(f:k<(gJ s).length)(g:Txt.fu (gJ s)[k].data.toList<0\/aI acc (Txt.fu (gJ s)[k].data.toList)=Xy):Txt.fF s=Xx:=by
 have e:=Mo h f;have a:Txt.mv acc (Txt.fu (gJ s)[k].data.toList)=Z:=by
  unfold Txt.mv;rw[Xs];rintro ⟨i,c⟩;rcases g with q|q
  .omega
  .unfold aI at q;rw[q] at c;cases c
 rw[a] at e;unfold Txt.fF;rw[e];rfl
theorem W4(h:tL s k acc)(c:k<(gJ s).length)(f:0<=Txt.fu (gJ s)[k].data.toList)(a:aI acc (Txt.fu (gJ s)[k].data.toList)=Xx):tL s (k+1) (Txt.fu (gJ s)[k].data.toList :: acc):=by
 have e:=Mo h c;have st:Txt.mv acc (Txt.fu (gJ s)[k].data.toList)=U (Txt.fu (gJ s)[k].data.toList :: acc):=by unfold Txt.mv;rw[Xt ⟨f,a⟩]
 rw[st] at e;exact e
theorem Ws(h:tL s k acc)(a:(gJ s).length<=k):Txt.jf s=U acc:=by unfold tL at h;rw[List.drop_of_length_le Xi] at h;exact h
theorem LQ(s:Xm)(w:Xz)(he:Env w)(hm:s.size<=160):XD prog 179 #[XJ s] w fun e w'=>(∃ acc,e=XQ (XL #[gD acc,XK (Txt.fF s)])/\(Txt.fF s=Xy->Txt.jf s=U acc))/\XC w.heap.size w w':=by
 obtain⟨mx,L⟩:=he.vP;have HE:=hide he;have hz:=he.size;clear he;have ai:=b5r s hm;go_in;go_wp2_with fail;obtain⟨W,H⟩:∃ W,W=(w.alloc (XR #[XK Xx,XK Xx,XK Xx,XK Xx,XK Xx,XK Xx,XK Xx] 153)).alloc (XR #[XK Xx,XK Xx,XK Xx,XK Xx,XK Xx,XK Xx,XK Xx] 153):=⟨_,rfl⟩;rw[<- H];have hB:XC w.heap.size w W:=by rw[H];exact ((zr _ _).alloc (zq _) _).alloc Xc _
 have hZ:w.heap.size+2=W.heap.size:=by rw[H];simp
 have dR:DS W w.heap.size []:=by rw[H];refine⟨?_,?_,?_,?_,?_,?_,?_,fun j=>?_⟩ <;> simp[aI]
 have dD:DS W (w.heap.size+1) []:=by rw[H];refine⟨?_,?_,?_,?_,?_,?_,?_,fun j=>?_⟩ <;> simp[aI]
 have Q:=cell_later hB L;clear H;refine (strings_Split s ⟨#[44]⟩ mx W O Q Xd).mono ?_;rintro e w1 ⟨rfl,y⟩;have hP:∀ j x,(gJ s)[j]?=U x->w1.cell? ⟨W.heap.size,j,Z⟩=U (XJ x):=fun j x hx=>by rw[y];exact b7Y W (gJ s) _ j x hx
 have D:XC W.heap.size W w1:=by rw[y];exact (zr _ _).alloc (zq _) _
 have aj:W.heap.size<w1.heap.size:=by rw[y];simp
 clear y;rw[show Lib.countB s ⟨#[44]⟩+1=(gJ s).length from (JP s).symm];have HP:=hide hP;have af:=hide (((aO HE).later hB).later D);have ac:=dR.later D;have ad:=dD.later D;have aa:XC w.heap.size w w1:=hB.trans (D.mono O);clear hP dR dD hB Q L af;go_wp2;go_loopw [6,7,8,12] (fun _ _ _ i wx=>∃ (k:M) (acc:J N),k<=(gJ s).length/\i=V Y k/\tL s k acc/\DS wx (w.heap.size+1) acc/\DS wx w.heap.size []/\XC w.heap.size w wx/\w1.heap.size<=wx.heap.size/\(∀ j x,(gJ s)[j]?=U x->wx.cell? ⟨W.heap.size,j,Z⟩=U (XJ x))) (fun _ _ _ i _=>(gJ s).length-(intOf i).toNat)
 case atStart=>exact⟨0,[],YJ _,rfl,(Tf s).symm,ad,ac,aa,XS _,aO HP⟩
 case round =>
  obtain⟨k,acc,hk,rfl,m,c,a,g,ag,I⟩:=hrel;have T:=hide I;clear I;have ab:=hide ((aO HE).later g);by_cases E:k<(gJ s).length
  .have hc:=aO T k (gJ s)[k] (by simp[E]);have hi:(k:N)<((gJ s).length:N):=O
   have q0:=c.c0;have q1:=c.c1;have q2:=c.c2;have q3:=c.c3;have q4:=c.c4;have q5:=c.c5;have q6:=c.c6;have r0:=a.c0;have r1:=a.c1;have r2:=a.c2;have r3:=a.c3;have r4:=a.c4;have r5:=a.c5;have X:=a.c6;have fR:=a.f;have fD:=c.f;have hd:=Txt.As (gJ s)[k].data.toList;have u:=hide (fun q=>Wr m E q);have t:=hide (fun q1 q2=>W4 m E q1 q2);clear m;go_wp2_with fail;refine (a8Y _ _ (aO ab)).mono ?_;rintro e w2 ⟨rfl,rfl⟩;obtain⟨d,C⟩:∃ d,d=Txt.fu (gJ s)[k].data.toList:=⟨_,rfl⟩;have HV:Hid (pj (gJ s)[k]=if 0<=d then d else 0):=by show pj (gJ s)[k]=_;rw[C];rfl
   have HW:Hid (oK (gJ s)[k]=decide (0<=d)):=by show oK (gJ s)[k]=_;rw[C];rfl
   rw[<- C] at hd u t;clear C;by_cases K:d<0
   .have G:Hid (Txt.fF s=Xx):=aO u (.inl K);have F:Hid (oK (gJ s)[k]=Xx):=HW.out.trans (decide_eq_false O);rw[F.out];go_wp2;refine bodyPost_ret (v:=XL #[gD [],XK Xx]) (by simp[results,results179,go_sem,gD,aI,r0,r1,r2,r3,r4,r5,X]) rfl ⟨⟨[],?_,?_⟩,?_⟩
    .rw[G.out]
    .intro h;rw[G.out] at h;cases h
    .exact (((((((g.setCell (zq _) _).setCell (zq _) _).setCell (zq _) _).setCell (zq _) _).setCell (zq _) _).setCell (zq _) _).setCell (zq _) _)
   .have ae:Hid (pj (gJ s)[k]=d):=HV.out.trans (Xt O);have F:Hid (oK (gJ s)[k]=Xy):=HW.out.trans (decide_eq_true O);rw[ae.out,F.out];have S:=c.at d O O
    cases z:aI acc d
    .rw[z] at S;have HX:Hid (tL s (k+1) (d :: acc)):=aO t O z;go_wp2;refine⟨⟨k+1,d :: acc,by omega,by go_num,HX.out,?_,?_,?_,?_,?_⟩,by simp[intOf];omega⟩
     .exact c.set d O
     .exact Dr a O
     .exact g.setCell Xc _
     .simp;omega
     .intro j x hx;exact (zS _ _ _ _ Xc).trans (aO T j x hx)
    .rw[z] at S;have G:Hid (Txt.fF s=Xx):=aO u (.inr z);go_wp2;refine bodyPost_ret (v:=XL #[gD [],XK Xx]) (by simp[results,results179,go_sem,gD,aI,r0,r1,r2,r3,r4,r5,X]) rfl ⟨⟨[],?_,?_⟩,?_⟩
     .rw[G.out]
     .intro h;rw[G.out] at h;cases h
     .exact (((((((g.setCell (zq _) _).setCell (zq _) _).setCell (zq _) _).setCell (zq _) _).setCell (zq _) _).setCell (zq _) _).setCell (zq _) _)
  .have HF:Hid (Txt.jf s=U acc):=Ws m O;have G:Hid (Txt.fF s=Xy):=by show Txt.fF s=Xy;unfold Txt.fF;rw[HF.out];rfl
   clear m;have q0:=c.c0;have q1:=c.c1;have q2:=c.c2;have q3:=c.c3;have q4:=c.c4;have q5:=c.c5;have q6:=c.c6;have r0:=a.c0;have r1:=a.c1;have r2:=a.c2;have r3:=a.c3;have r4:=a.c4;have r5:=a.c5;have X:=a.c6;have fR:=a.f;go_wp2;refine bodyPost_ret (v:=XL #[gD acc,XK Xy]) (by simp[results,results179,go_sem,gD,r0,r1,r2,r3,r4,r5,X]) rfl ⟨⟨acc,?_,?_⟩,?_⟩
   .rw[G.out]
   .intro _;exact HF.out
   .exact (((((((g.setCell (zq _) _).setCell (zq _) _).setCell (zq _) _).setCell (zq _) _).setCell (zq _) _).setCell (zq _) _).setCell (zq _) _)
theorem Env.kept(h:Env w)(k:Kept R w w')(a:10<=R):Env w':=by grind[Env.kept]
def gy(s:Xm)(a c:N):Xp:=Txt.isNum s.data.toList && decide (a<=Txt.dG s.data.toList) && decide (Txt.dG s.data.toList<=c)
theorem L6(s:Xm)(L q:M)(f g:N)(w:Xz)(t:s.size<=160)(x:w.cell? (L,0)=U ↑f)(u:w.cell? (q,0)=U ↑g):XD prog 176 #[s,L,q] w fun e w'=>e=XQ (XL #[V Y (Txt.dG s.data.toList),gy s f g])/\∃ n,w'=w.drewN n:=by
 have c:s.size<=maxLen:=by unfold maxLen;omega
 cases a:Txt.isNum s.data.toList
 .go_in
  go_wp21;refine aY (gI s w c) ?_;rw[a];go_wp2;go_quiet (fail);go_wp2;go_ret2;exact⟨gb rfl (by simp[gy,a]),_,rfl⟩
 .by_cases j:f<=Txt.dG s.data.toList
  .by_cases m:Txt.dG s.data.toList<=g
   .go_in
    go_wp21;refine aY (gI s w c) ?_;rw[a];go_wp2;go_quiet (fail);go_wp2;go_ret2;exact⟨gb rfl (by simp[gy,a,j,m]),_,rfl⟩
   .have h:=decide_eq_false m
    go_in;go_wp21;refine aY (gI s w c) ?_;rw[a];go_wp2;go_quiet (fail);go_wp2;go_ret2;exact⟨gb rfl (by simp[gy,a,j,h]),_,rfl⟩
  .have i:=decide_eq_false j
   go_in;go_wp21;refine aY (gI s w c) ?_;rw[a];go_wp2;go_quiet (fail);go_wp2;go_ret2;exact⟨gb rfl (by simp[gy,a,i]),_,rfl⟩
theorem b4w(R A:M)(ws:J Xm)(nx:M)(wr:Xp)(w:Xz)(h:RS w R A ws nx wr)(m:Env w)(u:dN ws.length nx wr=Xy)(a:nx<ws.length)(z:Txt.cU ws[nx]=Xy):XD prog 138 #[R,.func (.func 139) #[] #[]] w fun e w'=>e=XQ (V Y (dV ws[nx]))/\RS w' R A ws (nx+1) wr/\Kept R w w':=by
 have y:(nx:N)<(ws.length:N):=O;have f:=h.short _ (zg a);have i:=hide f;clear f;have t:=hide m;clear m;go_in;go_wp21;refine aK (kf R A ws nx wr w h) ?_;rintro w1 ⟨n,g⟩;have c:RS w1 R A ws nx wr:=by rw[g];exact h.drewN n
 have q:Kept R w w1:=by rw[g];exact (Kept.refl R w).drewN n
 have j:Hid (Env w1):=by show Env w1;rw[g];exact (aO t).drewN n
 have F:=c.c0;have E:=c.c1;have C:=c.f1;have D:=c.rows nx a;have x:=c.len;clear g;go_wp2;go_quiet ((go_at_call 139;exact Calls.quiet_of_same (MH _ _ ((aO j).drewN _).jO (aO i))));go_wp2;go_ret;exact⟨rfl,(c.drewN _).step a,(q.drewN _).setCell _ _⟩
theorem b4x(R A:M)(ws:J Xm)(nx:M)(wr:Xp)(w:Xz)(h:RS w R A ws nx wr)(m:Env w)(u:dN ws.length nx wr=Xy)(f:nx<ws.length)(z:Txt.cU ws[nx]=Xx):XD prog 138 #[R,.func (.func 139) #[] #[]] w fun e w'=>e=XQ (V Y (0))/\RS w' R A ws nx Xy/\Kept R w w':=by
 have y:(nx:N)<(ws.length:N):=O;have c:=h.short _ (zg f);have i:=hide c;clear c;have t:=hide m;clear m;go_in;go_wp21;refine aK (kf R A ws nx wr w h) ?_;rintro w1 ⟨n,g⟩;have a:RS w1 R A ws nx wr:=by rw[g];exact h.drewN n
 have q:Kept R w w1:=by rw[g];exact (Kept.refl R w).drewN n
 have j:Hid (Env w1):=by show Env w1;rw[g];exact (aO t).drewN n
 have G:=a.c0;have F:=a.c1;have E:=a.c2;have C:=a.f2;have D:=a.rows nx f;have x:=a.len;clear g;go_wp2;go_quiet ((go_at_call 139;exact Calls.quiet_of_same (MH _ _ ((aO j).drewN _).jO (aO i))));go_wp2;go_ret;exact⟨rfl,(a.drewN _).bad,(q.drewN _).setCell _ _⟩
theorem small(h:n<=160):n<=maxLen:=by unfold maxLen;omega
theorem b1u(R A:M)(ws:J Xm)(nx:M)(wr:Xp)(w:Xz)(h:RS w R A ws nx wr)(m:dN ws.length nx wr=Xy)(a:nx<ws.length)(u:Txt.dZ ws[nx]=Xy):XD prog 138 #[R,.func (.func 140) #[] #[]] w fun e w'=>e=XQ (V Y (Txt.eA ws[nx]))/\RS w' R A ws (nx+1) wr/\Kept R w w':=by
 have t:(nx:N)<(ws.length:N):=O;have f:=h.short _ (zg a);have i:=hide f;clear f;go_in;go_wp21;refine aK (kf R A ws nx wr w h) ?_;rintro w1 ⟨n,g⟩;have c:RS w1 R A ws nx wr:=by rw[g];exact h.drewN n
 have j:Kept R w w1:=by rw[g];exact (Kept.refl R w).drewN n
 have C:=c.c0;have z:=c.c1;have x:=c.f1;have y:=c.rows nx a;have q:=c.len;clear g;go_wp2;go_quiet ((go_at_call 140;exact Calls.quiet_of_same (zf _ _ (small (aO i)))));go_wp2;go_ret;exact⟨rfl,(c.drewN _).step a,(j.drewN _).setCell _ _⟩
theorem b1v(R A:M)(ws:J Xm)(nx:M)(wr:Xp)(w:Xz)(h:RS w R A ws nx wr)(m:dN ws.length nx wr=Xy)(f:nx<ws.length)(u:Txt.dZ ws[nx]=Xx):XD prog 138 #[R,.func (.func 140) #[] #[]] w fun e w'=>e=XQ (V Y (0))/\RS w' R A ws nx Xy/\Kept R w w':=by
 have t:(nx:N)<(ws.length:N):=O;have c:=h.short _ (zg f);have i:=hide c;clear c;go_in;go_wp21;refine aK (kf R A ws nx wr w h) ?_;rintro w1 ⟨n,g⟩;have a:RS w1 R A ws nx wr:=by rw[g];exact h.drewN n
 have j:Kept R w w1:=by rw[g];exact (Kept.refl R w).drewN n
 have D:=a.c0;have C:=a.c1;have z:=a.c2;have x:=a.f2;have y:=a.rows nx f;have q:=a.len;clear g;go_wp2;go_quiet ((go_at_call 140;exact Calls.quiet_of_same (zf _ _ (small (aO i)))));go_wp2;go_ret;exact⟨rfl,(a.drewN _).bad,(j.drewN _).setCell _ _⟩
theorem b4p(R A:M)(ws:J Xm)(nx:M)(wr:Xp)(w:Xz)(h:RS w R A ws nx wr)(m:Env w)(u:dN ws.length nx wr=Xy)(a:nx<ws.length)(z:bB ws[nx]=Xy):XD prog 138 #[R,.func (.func 143) #[] #[]] w fun e w'=>e=XQ (V Y (cL ws[nx]))/\RS w' R A ws (nx+1) wr/\Kept R w w':=by
 have y:(nx:N)<(ws.length:N):=O;have f:=h.short _ (zg a);have i:=hide f;clear f;have t:=hide m;clear m;go_in;go_wp21;refine aK (kf R A ws nx wr w h) ?_;rintro w1 ⟨n,g⟩;have c:RS w1 R A ws nx wr:=by rw[g];exact h.drewN n
 have q:Kept R w w1:=by rw[g];exact (Kept.refl R w).drewN n
 have j:Hid (Env w1):=by show Env w1;rw[g];exact (aO t).drewN n
 have F:=c.c0;have E:=c.c1;have C:=c.f1;have D:=c.rows nx a;have x:=c.len;clear g;go_wp2;go_quiet ((go_at_call 143;exact Calls.quiet_of (MO _ _ ((aO j).drewN _) (aO i))));go_wp2;go_ret;exact⟨rfl,(c.drewN _).step a,(q.drewN _).setCell _ _⟩
theorem b4q(R A:M)(ws:J Xm)(nx:M)(wr:Xp)(w:Xz)(h:RS w R A ws nx wr)(m:Env w)(u:dN ws.length nx wr=Xy)(f:nx<ws.length)(z:bB ws[nx]=Xx):XD prog 138 #[R,.func (.func 143) #[] #[]] w fun e w'=>e=XQ (V Y (0))/\RS w' R A ws nx Xy/\Kept R w w':=by
 have y:(nx:N)<(ws.length:N):=O;have c:=h.short _ (zg f);have i:=hide c;clear c;have t:=hide m;clear m;go_in;go_wp21;refine aK (kf R A ws nx wr w h) ?_;rintro w1 ⟨n,g⟩;have a:RS w1 R A ws nx wr:=by rw[g];exact h.drewN n
 have q:Kept R w w1:=by rw[g];exact (Kept.refl R w).drewN n
 have j:Hid (Env w1):=by show Env w1;rw[g];exact (aO t).drewN n
 have G:=a.c0;have F:=a.c1;have E:=a.c2;have C:=a.f2;have D:=a.rows nx f;have x:=a.len;clear g;go_wp2;go_quiet ((go_at_call 143;exact Calls.quiet_of (MO _ _ ((aO j).drewN _) (aO i))));go_wp2;go_ret;exact⟨rfl,(a.drewN _).bad,(q.drewN _).setCell _ _⟩
theorem b1r(L m:M)(i j:N)(R A:M)(ws:J Xm)(nx:M)(wr:Xp)(w:Xz)(h:RS w R A ws nx wr)(y:w.cell? (L,0)=U ↑i)(x:w.cell? (m,0)=U ↑j)(D:dN ws.length nx wr=Xy)(a:nx<ws.length)(F:gy ws[nx] i j=Xy):XD prog 138 #[R,.func (.func 176) #[] #[L,m]] w fun e w'=>e=XQ (V Y (Txt.dG ws[nx].data.toList))/\RS w' R A ws (nx+1) wr/\Kept R w w':=by
 have C:(nx:N)<(ws.length:N):=O;have g:=h.short _ (zg a);have u:=hide g;clear g;go_in;go_wp21;refine aK (kf R A ws nx wr w h) ?_;rintro w1 ⟨n,f⟩;have c:RS w1 R A ws nx wr:=by rw[f];exact h.drewN n
 have z:Kept R w w1:=by rw[f];exact (Kept.refl R w).drewN n
 have t:Hid (w1.cell? (L,0)=U ↑i):=by show w1.cell? _=_;rw[f];exact y
 have q:Hid (w1.cell? (m,0)=U ↑j):=by show w1.cell? _=_;rw[f];exact x
 clear y x;have K:=c.c0;have I:=c.c1;have G:=c.f1;have H:=c.rows nx a;have E:=c.len;clear f;go_wp2;go_quiet ((go_at_call 176;exact Calls.quiet_of (L6 _ L m i j _ (aO u) (aO t) (aO q))));go_wp2;go_ret;exact⟨rfl,(c.drewN _).step a,(z.drewN _).setCell _ _⟩
theorem b1s(L m:M)(i j:N)(R A:M)(ws:J Xm)(nx:M)(wr:Xp)(w:Xz)(h:RS w R A ws nx wr)(y:w.cell? (L,0)=U ↑i)(x:w.cell? (m,0)=U ↑j)(D:dN ws.length nx wr=Xy)(g:nx<ws.length)(F:gy ws[nx] i j=Xx):XD prog 138 #[R,.func (.func 176) #[] #[L,m]] w fun e w'=>e=XQ (V Y (0))/\RS w' R A ws nx Xy/\Kept R w w':=by
 have C:(nx:N)<(ws.length:N):=O;have f:=h.short _ (zg g);have u:=hide f;clear f;go_in;go_wp21;refine aK (kf R A ws nx wr w h) ?_;rintro w1 ⟨n,c⟩;have a:RS w1 R A ws nx wr:=by rw[c];exact h.drewN n
 have z:Kept R w w1:=by rw[c];exact (Kept.refl R w).drewN n
 have t:Hid (w1.cell? (L,0)=U ↑i):=by show w1.cell? _=_;rw[c];exact y
 have q:Hid (w1.cell? (m,0)=U ↑j):=by show w1.cell? _=_;rw[c];exact x
 clear y x;have Q:=a.c0;have K:=a.c1;have I:=a.c2;have G:=a.f2;have H:=a.rows nx g;have E:=a.len;clear c;go_wp2;go_quiet ((go_at_call 176;exact Calls.quiet_of (L6 _ L m i j _ (aO u) (aO t) (aO q))));go_wp2;go_ret;exact⟨rfl,(a.drewN _).bad,(z.drewN _).setCell _ _⟩
theorem b4r(f:XA)(R A:M)(ws:J Xm)(nx:M)(wr:Xp)(w:Xz)(h:RS w R A ws nx wr)(i:dN ws.length nx wr=Xx):XD prog 133 #[R,f] w fun e w'=>e=XQ (XJ ⟨#[]⟩)/\RS w' R A ws nx Xy/\Kept R w w':=by
 go_in;go_wp21;refine aK (kf R A ws nx wr w h) ?_;rintro w1 ⟨n,a⟩;have c:RS w1 R A ws nx wr:=by rw[a];exact h.drewN n
 have g:Kept R w w1:=by rw[a];exact (Kept.refl R w).drewN n
 have m:=c.c2;have j:=c.f2;clear a;go_wp2;go_ret;exact⟨rfl,c.bad,g.setCell _ _⟩
theorem b4u(R A:M)(ws:J Xm)(nx:M)(wr:Xp)(w:Xz)(h:RS w R A ws nx wr)(D:dN ws.length nx wr=Xy)(f:nx<ws.length)(G:Txt.gP ws[nx].data.toList=Xy):XD prog 133 #[R,.func (.func 134) #[] #[]] w fun e w'=>e=XQ (tJ ws[nx])/\RS w' R A ws (nx+1) wr/\Kept R w w':=by
 have F:(nx:N)<(ws.length:N):=O;have x:(0:N)<=(nx:N):=Int.natCast_nonneg _;have g:ws[nx].size<=160:=h.short _ (zg f);have q:=hide g;clear g;go_in;go_wp21;refine aK (kf R A ws nx wr w h) ?_;rintro w1 ⟨n,m⟩;have j:RS w1 R A ws nx wr:=by rw[m];exact h.drewN n
 have u:Kept R w w1:=by rw[m];exact (Kept.refl R w).drewN n
 have C:=j.c0;have z:=j.c1;have y:=j.rows nx f;have E:=j.len;clear m;go_wp21;go_region_held3 (fun w'=>w'.cell? (R,0)=U (XI A ws.length ws.length)/\w'.cell? (R,1)=U (V Y nx)/\w'.cell? (A,nx)=U (XJ ws[nx]))
  (first
   |go_keep
   |(
    go_split_ands;refine⟨?_,?_,?_⟩
    .exact cell_later a Xe
    .exact cell_later a Xe
    .exact cell_later a Xe))
  ((go_at_call 134;refine aK (MI _ _ (aO q)) fun w4 a=>?_))
 have c:XC w1 w1 w4:=⟨a.os,a.tape,a.output,a.size,a.block⟩;have i:=j.aD c;have t:=u.trans (Kept.aD c);have L:=i.c1;have K:=i.c2;have I:=i.f1;have H:=i.f2;clear C z y;go_wp2;go_ret;exact⟨rfl,i.step f,t.setCell _ _⟩
theorem b4v(R A:M)(ws:J Xm)(nx:M)(wr:Xp)(w:Xz)(h:RS w R A ws nx wr)(D:dN ws.length nx wr=Xy)(g:nx<ws.length)(G:Txt.gP ws[nx].data.toList=Xx):XD prog 133 #[R,.func (.func 134) #[] #[]] w fun e w'=>e=XQ (XJ ⟨#[]⟩)/\RS w' R A ws nx Xy/\Kept R w w':=by
 have F:(nx:N)<(ws.length:N):=O;have x:(0:N)<=(nx:N):=Int.natCast_nonneg _;have f:ws[nx].size<=160:=h.short _ (zg g);have q:=hide f;clear f;go_in;go_wp21;refine aK (kf R A ws nx wr w h) ?_;rintro w1 ⟨n,m⟩;have j:RS w1 R A ws nx wr:=by rw[m];exact h.drewN n
 have u:Kept R w w1:=by rw[m];exact (Kept.refl R w).drewN n
 have C:=j.c0;have z:=j.c1;have y:=j.rows nx g;have E:=j.len;clear m;go_wp21;go_region_held3 (fun w'=>w'.cell? (R,0)=U (XI A ws.length ws.length)/\w'.cell? (R,1)=U (V Y nx)/\w'.cell? (A,nx)=U (XJ ws[nx]))
  (first
   |go_keep
   |(
    go_split_ands;refine⟨?_,?_,?_⟩
    .exact cell_later a Xe
    .exact cell_later a Xe
    .exact cell_later a Xe))
  ((go_at_call 134;refine aK (MI _ _ (aO q)) fun w4 a=>?_))
 have c:XC w1 w1 w4:=⟨a.os,a.tape,a.output,a.size,a.block⟩;have i:=j.aD c;have t:=u.trans (Kept.aD c);have L:=i.c1;have K:=i.c2;have I:=i.f1;have H:=i.f2;clear C z y;go_wp2;go_ret;exact⟨rfl,i.bad,t.setCell _ _⟩
theorem uR(h:dN ws.length nx wr=Xx):fQ ws nx wr B=Xx:=by simp[fQ,h]
theorem pd{b:Xp}(h:dN ws.length nx wr=Xy)(a:nx<ws.length)(c:B ws[nx]=b):fQ ws nx wr B=b:=by rw[fQ,h,sD ws nx a,c,Bool.true_and]
theorem b4t(R A:M)(ws:J Xm)(nx:M)(wr:Xp)(w:Xz)(h:RS w R A ws nx wr):XD prog 138 #[R,.func (.func 142) #[] #[]] w fun e w'=>e=XQ (V Y (gS ws nx wr (fun s=>Txt.isNum s.data.toList) (fun s=>Txt.dG s.data.toList)))/\RS w' R A ws (fP ws nx wr (fun s=>Txt.isNum s.data.toList)) (fL ws nx wr (fun s=>Txt.isNum s.data.toList))/\Kept R w w':=by
 cases c:dN ws.length nx wr
 .have t:=uR (B:=(fun s=>Txt.isNum s.data.toList)) c;rw[gS,fP,fL,t];exact yZ _ R A ws nx wr w h c
 .have a:=sI c
  cases f:(fun s=>Txt.isNum s.data.toList) ws[nx]
  .have t:=pd (B:=(fun s=>Txt.isNum s.data.toList)) c a f;rw[gS,fP,fL,t];exact b7O R A ws nx wr w h c a (small (h.short _ (zg a))) f
  .have t:=pd (B:=(fun s=>Txt.isNum s.data.toList)) c a f;rw[gS,fP,fL,t,sD ws nx a];exact b7N R A ws nx wr w h c a (small (h.short _ (zg a))) f
theorem MR(R A:M)(ws:J Xm)(nx:M)(wr:Xp)(w:Xz)(h:RS w R A ws nx wr)(g:Env w):XD prog 138 #[R,.func (.func 139) #[] #[]] w fun e w'=>e=XQ (V Y (gS ws nx wr Txt.cU dV))/\RS w' R A ws (fP ws nx wr Txt.cU) (fL ws nx wr Txt.cU)/\Kept R w w':=by
 cases c:dN ws.length nx wr
 .have t:=uR (B:=Txt.cU) c;rw[gS,fP,fL,t];exact yZ _ R A ws nx wr w h c
 .have a:=sI c
  cases f:Txt.cU ws[nx]
  .have t:=pd (B:=Txt.cU) c a f;rw[gS,fP,fL,t];exact b4x R A ws nx wr w h g c a f
  .have t:=pd (B:=Txt.cU) c a f;rw[gS,fP,fL,t,sD ws nx a];exact b4w R A ws nx wr w h g c a f
theorem b0c(R A:M)(ws:J Xm)(nx:M)(wr:Xp)(w:Xz)(h:RS w R A ws nx wr):XD prog 138 #[R,.func (.func 140) #[] #[]] w fun e w'=>e=XQ (V Y (gS ws nx wr Txt.dZ Txt.eA))/\RS w' R A ws (fP ws nx wr Txt.dZ) (fL ws nx wr Txt.dZ)/\Kept R w w':=by
 cases c:dN ws.length nx wr
 .have t:=uR (B:=Txt.dZ) c;rw[gS,fP,fL,t];exact yZ _ R A ws nx wr w h c
 .have a:=sI c
  cases f:Txt.dZ ws[nx]
  .have t:=pd (B:=Txt.dZ) c a f;rw[gS,fP,fL,t];exact b1v R A ws nx wr w h c a f
  .have t:=pd (B:=Txt.dZ) c a f;rw[gS,fP,fL,t,sD ws nx a];exact b1u R A ws nx wr w h c a f
theorem MT(R A:M)(ws:J Xm)(nx:M)(wr:Xp)(w:Xz)(h:RS w R A ws nx wr)(g:Env w):XD prog 138 #[R,.func (.func 143) #[] #[]] w fun e w'=>e=XQ (V Y (gS ws nx wr bB cL))/\RS w' R A ws (fP ws nx wr bB) (fL ws nx wr bB)/\Kept R w w':=by
 cases c:dN ws.length nx wr
 .have t:=uR (B:=bB) c;rw[gS,fP,fL,t];exact yZ _ R A ws nx wr w h c
 .have a:=sI c
  cases f:bB ws[nx]
  .have t:=pd (B:=bB) c a f;rw[gS,fP,fL,t];exact b4q R A ws nx wr w h g c a f
  .have t:=pd (B:=bB) c a f;rw[gS,fP,fL,t,sD ws nx a];exact b4p R A ws nx wr w h g c a f
theorem b0b(L j:M)(c f:N)(R A:M)(ws:J Xm)(nx:M)(wr:Xp)(w:Xz)(h:RS w R A ws nx wr)(q:w.cell? (L,0)=U ↑c)(m:w.cell? (j,0)=U ↑f):XD prog 138 #[R,.func (.func 176) #[] #[L,j]] w fun e w'=>e=XQ (V Y (gS ws nx wr (fun s=>gy s c f) (fun s=>Txt.dG s.data.toList)))/\RS w' R A ws (fP ws nx wr (fun s=>gy s c f)) (fL ws nx wr (fun s=>gy s c f))/\Kept R w w':=by
 cases g:dN ws.length nx wr
 .have t:=uR (B:=(fun s=>gy s c f)) g;rw[gS,fP,fL,t];exact yZ _ R A ws nx wr w h g
 .have a:=sI g
  cases i:(fun s=>gy s c f) ws[nx]
  .have t:=pd (B:=(fun s=>gy s c f)) g a i;rw[gS,fP,fL,t];exact b1s L j c f R A ws nx wr w h q m g a i
  .have t:=pd (B:=(fun s=>gy s c f)) g a i;rw[gS,fP,fL,t,sD ws nx a];exact b1r L j c f R A ws nx wr w h q m g a i
def oL(ws:J Xm)(nx:M)(wr:Xp):Xm:=if fQ ws nx wr (fun s=>Txt.gP s.data.toList) then tJ (ws.getD nx ByteArray.empty) else ⟨#[]⟩
theorem b2E(R A:M)(ws:J Xm)(nx:M)(wr:Xp)(w:Xz)(h:RS w R A ws nx wr):XD prog 133 #[R,.func (.func 134) #[] #[]] w fun e w'=>e=XQ (oL ws nx wr)/\RS w' R A ws (fP ws nx wr (fun s=>Txt.gP s.data.toList)) (fL ws nx wr (fun s=>Txt.gP s.data.toList))/\Kept R w w':=by
 cases c:dN ws.length nx wr
 .have t:=uR (B:=fun s=>Txt.gP s.data.toList) c;rw[oL,fP,fL,t];exact b4r _ R A ws nx wr w h c
 .have a:=sI c
  cases f:Txt.gP ws[nx].data.toList
  .have t:=pd (B:=fun s=>Txt.gP s.data.toList) c a f;rw[oL,fP,fL,t];exact b4v R A ws nx wr w h c a f
  .have t:=pd (B:=fun s=>Txt.gP s.data.toList) c a f;rw[oL,fP,fL,t,sD ws nx a];exact b4u R A ws nx wr w h c a f
theorem Bo(lo hi:N)(R A:M)(ws:J Xm)(nx:M)(wr:Xp)(w:Xz)(h:RS w R A ws nx wr):XD prog 135 #[R,lo,hi] w fun e w'=>e=XQ (V Y (gS ws nx wr (fun s=>gy s lo hi) (fun s=>Txt.dG s.data.toList)))/\RS w' R A ws (fP ws nx wr (fun s=>gy s lo hi)) (fL ws nx wr (fun s=>gy s lo hi))/\Kept R w w':=by
 go_in;go_wp21;obtain⟨X,a⟩:∃ X,X=(w.alloc (XR #[lo] 3)).alloc (XR #[hi] 3):=⟨_,rfl⟩;rw[<- a];have c:XC w w X:=by rw[a];exact aS.alloc Xc _
 have m:X.cell? (w,0)=U ↑lo:=by rw[a];simp
 have j:X.cell? (w.heap.size+1,0)=U ↑hi:=by rw[a];simp
 clear a;refine aK (b0b w (w.heap.size+1) lo hi R A ws nx wr X (h.aD c) m j) ?_;rintro q ⟨i,g⟩;have f:=(Kept.aD (R:=R) c).trans g;go_wp2;go_ret;exact⟨rfl,i,f⟩
theorem vl(R A:M)(ws:J Xm)(nx:M)(wr:Xp)(w:Xz)(h:RS w R A ws nx wr):XD prog 88 #[R] w fun e w'=>e=XQ (oL ws nx wr)/\RS w' R A ws (fP ws nx wr (fun s=>Txt.gP s.data.toList)) (fL ws nx wr (fun s=>Txt.gP s.data.toList))/\Kept R w w':=by
 go_in;go_wp21;refine aK (b2E R A ws nx wr w h) ?_;rintro f ⟨c,a⟩;go_wp2;go_ret;exact⟨rfl,c,a⟩
theorem JQ(R A:M)(ws:J Xm)(nx:M)(wr:Xp)(w:Xz)(h:RS w R A ws nx wr):XD prog 93 #[R] w fun e w'=>e=XQ (V Y (gS ws nx wr (fun s=>Txt.isNum s.data.toList) (fun s=>Txt.dG s.data.toList)))/\RS w' R A ws (fP ws nx wr (fun s=>Txt.isNum s.data.toList)) (fL ws nx wr (fun s=>Txt.isNum s.data.toList))/\Kept R w w':=by
 go_in;go_wp21;refine aK (b4t R A ws nx wr w h) ?_;rintro f ⟨c,a⟩;go_wp2;go_ret;exact⟨rfl,c,a⟩
theorem Bd(R A:M)(ws:J Xm)(nx:M)(wr:Xp)(w:Xz)(h:RS w R A ws nx wr):XD prog 89 #[R] w fun e w'=>e=XQ (V Y (gS ws nx wr (fun s=>gy s 1 9) (fun s=>Txt.dG s.data.toList)))/\RS w' R A ws (fP ws nx wr (fun s=>gy s 1 9)) (fL ws nx wr (fun s=>gy s 1 9))/\Kept R w w':=by
 go_in;go_wp21;refine aK (Bo 1 9 R A ws nx wr w h) ?_;rintro f ⟨c,a⟩;go_wp2;go_ret;exact⟨rfl,c,a⟩
theorem zh(R A:M)(ws:J Xm)(nx:M)(wr:Xp)(w:Xz)(h:RS w R A ws nx wr):XD prog 91 #[R] w fun e w'=>e=XQ (V Y (gS ws nx wr (fun s=>gy s 1 1048320) (fun s=>Txt.dG s.data.toList)))/\RS w' R A ws (fP ws nx wr (fun s=>gy s 1 1048320)) (fL ws nx wr (fun s=>gy s 1 1048320))/\Kept R w w':=by
 go_in;go_wp21;refine aK (Bo 1 1048320 R A ws nx wr w h) ?_;rintro f ⟨c,a⟩;go_wp2;go_ret;exact⟨rfl,c,a⟩
theorem FE(R A:M)(ws:J Xm)(nx:M)(wr:Xp)(w:Xz)(h:RS w R A ws nx wr):XD prog 177 #[R] w fun e w'=>e=XQ (V Y (gS ws nx wr (fun s=>gy s 1 99) (fun s=>Txt.dG s.data.toList)))/\RS w' R A ws (fP ws nx wr (fun s=>gy s 1 99)) (fL ws nx wr (fun s=>gy s 1 99))/\Kept R w w':=by
 go_in;go_wp21;refine aK (Bo 1 99 R A ws nx wr w h) ?_;rintro f ⟨c,a⟩;go_wp2;go_ret;exact⟨rfl,c,a⟩
theorem RS.other{v:XA}(h:RS w R A ws nx wr)(c:b≠R)(f:0<ws.length->b≠A):RS (w.setCell (b,o) v) R A ws nx wr:=by have g:∀ j:M,(w.setCell (b,o) v).cell? (R,j)=w.cell? (R,j):=fun j=>World.cell?_setCell_far w (b,o) (R,j) v c;refine⟨(g 0).trans h.c0,(g 1).trans h.c1,(g 2).trans h.c2,(zF ..).trans h.f1,(zF ..).trans h.f2,h.ne,fun i a=>?_,h.len,h.xT,h.short⟩;exact (World.cell?_setCell_far w (b,o) (A,i) v (f O)).trans (h.rows i a)
theorem RS.lt(h:RS w R A ws nx wr):R<w/\(0<ws.length->A<w) :=⟨XV _ (R,0) h.c0,fun a=>XV _ (A,0) (h.rows 0 a)⟩
theorem Kept.aW(h:Kept R w w')(f:w<=b)(v:XA):Kept R w (w'.setCell (b,o) v) :=⟨(Below.setCell (B:=0) (Below.refl 0 w') (p:=(b,o)) (zN _) v).os.trans h.os,(Below.setCell (B:=0) (Below.refl 0 w') (p:=(b,o)) (zN _) v).tape.trans h.tape,(Below.setCell (B:=0) (Below.refl 0 w') (p:=(b,o)) (zN _) v).output.trans h.output,XU h.size (Below.setCell (B:=0) (Below.refl 0 w') (p:=(b,o)) (zN _) v).size,fun k c a=>(Below.heap_setCell w' (b,o) v k (show k≠b by omega)).trans (h.block k c a)⟩
theorem Kept.frozen(h:Kept R w w')(a:b≠R)(c:b<w):w'.frozen? (b,o)=w.frozen? (b,o):=Zj (w:=w) (h.block b c a)
def Nb(ws:J Xm)(nx:M)(wr:Xp)(B C:Xm->Xp):M:=fP ws (fP ws nx wr B) (fL ws nx wr B) C
def Na(ws:J Xm)(nx:M)(wr:Xp)(B C:Xm->Xp):Xp:=fL ws (fP ws nx wr B) (fL ws nx wr B) C
theorem Bb(R A:M)(ws:J Xm)(nx:M)(wr:Xp)(w:Xz)(h:RS w R A ws nx wr)(x:Env w)(L:10<=R):XD prog 95 #[R] w fun e w'=>e=XQ (XM #[V Y (gS ws nx wr bB cL),V Y (gS ws (fP ws nx wr bB) (fL ws nx wr bB) bB cL)])/\RS w' R A ws (Nb ws nx wr bB bB) (Na ws nx wr bB bB)/\Kept R w w':=by
 have Q:=hide x;clear x;go_in;go_wp21;let⟨hRl,hAl⟩:=h.lt;obtain⟨X,c⟩:∃ X,X=w.alloc (XR #[V Y 0,V Y 0] 83):=⟨_,rfl⟩;rw[<- c];have g:XC w w X:=by rw[c];exact aS
 have t:X.cell? (w,0)=U (V Y 0):=by rw[c];simp
 have q:X.cell? (w,1)=U (V Y 0):=by rw[c];simp
 have m:∀ j:M,X.frozen? (w,j)=Xx:=fun j=>by rw[c];simp
 have F:w<X.heap.size:=by rw[c];simp
 clear c;have i:=(aO Q).later g;refine aK (MT R A ws nx wr X (h.aD g) i) ?_;rintro H ⟨z,u⟩;have C:=i.kept u L;go_wp21;refine aK (MT R A ws _ _ H z C) ?_;rintro G ⟨y,K⟩;have a:=u.trans K;have E:=a.cell (b:=w) (o:=0) O t;have D:=a.cell (b:=w) (o:=1) O q;have T:∀ j:M,G.frozen? (w,j)=Xx:=fun j=>(a.frozen O F).trans (m j);have I:=(Kept.aD (R:=R) g).trans a;have S:=hide y;clear z y C i t q m;go_wp2;refine bodyPost_ret (v:=XM #[V Y (gS ws nx wr bB cL),V Y (gS ws (fP ws nx wr bB) (fL ws nx wr bB) bB cL)]) (by simp[results,results95,go_sem,E,D]) rfl ⟨rfl,?_,?_⟩;exact ((aO S).other O (fun f=>by have:=hAl f;omega)).other O (fun f=>by have:=hAl f;omega);exact (I.aW aJ _).aW aJ _
def bJ(s:Xm):Xp:=Txt.gP s.data.toList
def cF(s:Xm):Xp:=gy s 1 9
def bD(s:Xm):N:=Txt.dG s.data.toList
def gG(ws:J Xm)(B:Xm->Xp)(st:M × Xp):M × Xp:=(fP ws st.1 st.2 B,fL ws st.1 st.2 B)
def aP(ws:J Xm)(a:J (Xm->Xp))(st:M × Xp):M × Xp:=a.foldl (fun st B=>gG ws B st) st
def gW(ws:J Xm)(st:M × Xp):Xm:=oL ws st.1 st.2
def bW(ws:J Xm)(st:M × Xp)(B:Xm->Xp)(a:Xm->N):N:=gS ws st.1 st.2 B a
theorem FC(R A:M)(ws:J Xm)(st:M × Xp)(w:Xz)(h:RS w R A ws st.1 st.2)(S:Env w)(m:10<=R):
  XD prog 90 #[R] w fun e w' =>
   e=XQ (XM #[gW ws st,V Y (bW ws (aP ws [bJ] st) cF bD),V Y (bW ws (aP ws [bJ,cF] st) bB cL),V Y (bW ws (aP ws [bJ,cF,bB] st) bB cL)]) /\
   RS w' R A ws (aP ws [bJ,cF,bB,bB] st).1 (aP ws [bJ,cF,bB,bB] st).2/\Kept R w w':=by
 have HE:=hide S;go_in;go_wp21;obtain⟨T,f⟩:=h.lt;obtain⟨X,c⟩:∃ X,X=w.alloc (XR #[XJ ⟨#[]⟩,V Y 0,V Y 0,V Y 0] 145):=⟨_,rfl⟩;rw[<- c];have i:XC w w X:=by rw[c];exact aS
 have H:X.cell? (w,0)=U (XJ ⟨#[]⟩):=by rw[c];simp
 have G:X.cell? (w,1)=U (V Y 0):=by rw[c];simp
 have F:X.cell? (w,2)=U (V Y 0):=by rw[c];simp
 have E:X.cell? (w,3)=U (V Y 0):=by rw[c];simp
 have D:∀ j:M,X.frozen? (w,j)=Xx:=fun j=>by rw[c];simp
 have C:w<X.heap.size:=by rw[c];simp
 clear c;have eX:=(aO HE).later i;refine aK (vl R A ws st.1 st.2 X (h.aD i)) ?_;rintro K ⟨h1,t⟩;have e1:=eX.kept t m;go_wp21;refine aK (Bd R A ws _ _ K h1) ?_;rintro I ⟨h2,q⟩;have e2:=e1.kept q m;go_wp21;refine aK (Bb R A ws _ _ I h2 e2 m) ?_;rintro w3 ⟨W,Q⟩;have a:=(t.trans q).trans Q;have z:=a.cell (b:=w) (o:=0) O H;have y:=a.cell (b:=w) (o:=1) O G;have x:=a.cell (b:=w) (o:=2) O F;have u:=a.cell (b:=w) (o:=3) O E;have yf:∀ j:M,w3.frozen? (w,j)=Xx:=fun j=>(a.frozen O C).trans (D j);have L:=(Kept.aD (R:=R) i).trans a;have H3:=hide W;go_wp2;refine bodyPost_ret (v:=XM #[gW ws st,V Y (bW ws (aP ws [bJ] st) cF bD),V Y (bW ws (aP ws [bJ,cF] st) bB cL),V Y (bW ws (aP ws [bJ,cF,bB] st) bB cL)]) (by simp[results,results90,go_sem,z,y,x,u];exact⟨rfl,rfl,rfl,rfl⟩) rfl ⟨rfl,?_,?_⟩;exact ((((aO H3).other O (fun g=>by have:=f g;omega)).other O (fun g=>by have:=f g;omega)).other O (fun g=>by have:=f g;omega)).other O (fun g=>by have:=f g;omega);exact (((L.aW aJ _).aW aJ _).aW aJ _).aW aJ _
theorem Wx(R A:M)(ws:J Xm)(st:M × Xp)(w:Xz)(h:RS w R A ws st.1 st.2)(Q:dN ws.length (aP ws [bJ] st).1 (aP ws [bJ] st).2=Xx):
  XD prog 94 #[R] w fun e w' =>e=XQ (XM #[gW ws st,Xx,V XP 0,V XP 0])/\RS w' R A ws (aP ws [bJ] st).1 (aP ws [bJ] st).2/\Kept R w w':=by
 go_in;go_wp21;obtain⟨S,c⟩:=h.lt;obtain⟨X,a⟩:∃ X,X=w.alloc (XR #[XJ ⟨#[]⟩,Xx,V XP 0,V XP 0] 163):=⟨_,rfl⟩;rw[<- a];have x:XC w w X:=by rw[a];exact aS
 have K:X.cell? (w,0)=U (XJ ⟨#[]⟩):=by rw[a];simp
 have I:X.cell? (w,1)=U ↑Xx:=by rw[a];simp
 have H:X.cell? (w,2)=U (V XP 0):=by rw[a];simp
 have G:X.cell? (w,3)=U (V XP 0):=by rw[a];simp
 have F:∀ j:M,X.frozen? (w,j)=Xx:=fun j=>by rw[a];simp
 have E:w<X.heap.size:=by rw[a];simp
 clear a;refine aK (vl R A ws st.1 st.2 X (h.aD x)) ?_;rintro f ⟨T,u⟩;have z1:=u.size;go_wp21;obtain⟨Y,g⟩:∃ Y,Y=f.alloc (XR #[oL ws st.1 st.2,Xx,V XP 0,V XP 0] 163):=⟨_,rfl⟩;rw[<- g];have q:XC f f Y:=by rw[g];exact aS
 have v0:Y.cell? (f,0)=U (XJ (oL ws st.1 st.2)):=by rw[g];simp
 have v1:Y.cell? (f,1)=U ↑Xx:=by rw[g];simp
 have v2:Y.cell? (f,2)=U (V XP 0):=by rw[g];simp
 have v3:Y.cell? (f,3)=U (V XP 0):=by rw[g];simp
 have ys:f<Y.heap.size:=by rw[g];simp
 clear g;have m:=u.trans (Kept.aD (R:=R) q);have D:=m.cell (b:=w) (o:=0) O K;have C:=m.cell (b:=w) (o:=1) O I;have z:=m.cell (b:=w) (o:=2) O H;have y:=m.cell (b:=w) (o:=3) O G;have yf:∀ j:M,Y.frozen? (w,j)=Xx:=fun j=>(m.frozen O E).trans (F j);have t:=T.aD q;refine aK (kf R A ws _ _ Y t) ?_;rintro w2 ⟨n,rfl⟩;have W:Hid (dN ws.length (fP ws st.1 st.2 fun s=>Txt.gP s.data.toList) (fL ws st.1 st.2 fun s=>Txt.gP s.data.toList)=Xx):=Q;rw[W];have L:=(Kept.aD (R:=R) x).trans m;have H1:=hide t;go_wp2;refine bodyPost_ret (v:=XM #[gW ws st,Xx,V XP 0,V XP 0]) (by simp[results,results94,go_sem,D,C,z,y];rfl) rfl ⟨rfl,?_,?_⟩
 .exact (((((aO H1).drewN _).other O (fun i=>by have:=c i;omega)).other O (fun i=>by have:=c i;omega)).other O (fun i=>by have:=c i;omega)).other O (fun i=>by have:=c i;omega)
 .exact ((((L.drewN _).aW aJ _).aW aJ _).aW aJ _).aW aJ _
theorem b7W(R A:M)(ws:J Xm)(st:M × Xp)(w:Xz)(h:RS w R A ws st.1 st.2)(he:Env w)(Q:10<=R)(L:dN ws.length (aP ws [bJ] st).1 (aP ws [bJ] st).2=Xy):
  XD prog 94 #[R] w fun e w' =>e=XQ (XM #[gW ws st,Xy,V XP (bW ws (aP ws [bJ] st) bB cL),V XP (bW ws (aP ws [bJ,bB] st) bB cL)])/\RS w' R A ws (aP ws [bJ,bB,bB] st).1 (aP ws [bJ,bB,bB] st).2/\Kept R w w':=by
 have HE:=hide he;clear he;go_in;go_wp21;obtain⟨ac,f⟩:=h.lt;obtain⟨X,t⟩:∃ X,X=w.alloc (XR #[XJ ⟨#[]⟩,Xx,V XP 0,V XP 0] 163):=⟨_,rfl⟩;rw[<- t];have H:XC w w X:=by rw[t];exact aS
 have x0:X.cell? (w,0)=U (XJ ⟨#[]⟩):=by rw[t];simp
 have x1:X.cell? (w,1)=U ↑Xx:=by rw[t];simp
 have x2:X.cell? (w,2)=U (V XP 0):=by rw[t];simp
 have W:X.cell? (w,3)=U (V XP 0):=by rw[t];simp
 have T:∀ j:M,X.frozen? (w,j)=Xx:=fun j=>by rw[t];simp
 have xs:w<X.heap.size:=by rw[t];simp
 clear t;have eX:=(aO HE).later H;refine aK (vl R A ws st.1 st.2 X (h.aD H)) ?_;rintro a ⟨h1,K⟩;have z1:=K.size;have e1:=eX.kept K Q;go_wp21;obtain⟨Y,q⟩:∃ Y,Y=a.alloc (XR #[oL ws st.1 st.2,Xx,V XP 0,V XP 0] 163):=⟨_,rfl⟩;rw[<- q];have i:XC a a Y:=by rw[q];exact aS
 have G:Y.cell? (a,0)=U (XJ (oL ws st.1 st.2)):=by rw[q];simp
 have F:Y.cell? (a,1)=U ↑Xx:=by rw[q];simp
 have v2:Y.cell? (a,2)=U (V XP 0):=by rw[q];simp
 have E:Y.cell? (a,3)=U (V XP 0):=by rw[q];simp
 have D:∀ j:M,Y.frozen? (a,j)=Xx:=fun j=>by rw[q];simp
 have ys:a<Y.heap.size:=by rw[q];simp
 clear q;have kY:=K.trans (Kept.aD (R:=R) i);have eY:=e1.later i;have x:=h1.aD i;refine aK (kf R A ws _ _ Y x) ?_;rintro w2 ⟨n,c⟩;have HM:Hid (dN ws.length (fP ws st.1 st.2 fun s=>Txt.gP s.data.toList) (fL ws st.1 st.2 fun s=>Txt.gP s.data.toList)=Xy):=L;rw[HM];have S:=x.drewN n;rw[<- c] at S;have k2:Kept R X w2:=by rw[c];exact kY.drewN n
 have e2:Env w2:=by rw[c];exact eY.drewN n
 have G:w2.cell? (a,0)=U (XJ (oL ws st.1 st.2)):=by rw[c];exact G
 have F:w2.cell? (a,1)=U ↑Xx:=by rw[c];exact F
 have v2:w2.cell? (a,2)=U (V XP 0):=by rw[c];exact v2
 have E:w2.cell? (a,3)=U (V XP 0):=by rw[c];exact E
 have D:∀ j:M,w2.frozen? (a,j)=Xx:=fun j=>by rw[c];exact D j
 have I:a<w2.heap.size:=by rw[c];exact ys
 have ad:=hide L;clear c x eY kY i ys h1 L;have H2:=hide S;have ae:=hide e2;clear S e2 eX e1;go_wp21;have y:a≠R:=O;have u:=(aO H2).other (b:=a) (o:=1) (v:=XK Xy) y (fun g=>by have:=f g;omega);obtain⟨Z,m⟩:∃ Z,Z=w2.setCell (a,1) Xy:=⟨_,rfl⟩;rw[<- m] at u ⊢;have u0:Z.cell? (a,0)=U (XJ (oL ws st.1 st.2)):=by rw[m];exact (bC Xc).trans G
 have u1:Z.cell? (a,1)=U ↑Xy:=by rw[m];exact zm _ _ _ F
 have u2:Z.cell? (a,2)=U (V XP 0):=by rw[m];exact (bC Xc).trans v2
 have u3:Z.cell? (a,3)=U (V XP 0):=by rw[m];exact (bC Xc).trans E
 have uf:∀ j:M,Z.frozen? (a,j)=Xx:=fun j=>by rw[m];exact (zF ..).trans (D j)
 have kZ:Kept R X Z:=by rw[m];exact k2.aW O _
 have zs:a<Z.heap.size:=by rw[m];simpa using I
 have eZ:=(aO HE).kept (((Kept.aD (R:=R) H)).trans kZ) Q;clear m G F v2 E D;refine aK (Bb R A ws _ _ Z u eZ Q) ?_;rintro w3 ⟨h3,C⟩;have z:=kZ.trans C;have y0:=z.cell (b:=w) (o:=0) O x0;have y1:=z.cell (b:=w) (o:=1) O x1;have y2:=z.cell (b:=w) (o:=2) O x2;have y3:=z.cell (b:=w) (o:=3) O W;have yf:∀ j:M,w3.frozen? (w,j)=Xx:=fun j=>(z.frozen O xs).trans (T j);have q0:=C.cell (b:=a) (o:=0) y u0;have q1:=C.cell (b:=a) (o:=1) y u1;have q2:=C.cell (b:=a) (o:=2) y u2;have q3:=C.cell (b:=a) (o:=3) y u3;have qf:∀ j:M,w3.frozen? (a,j)=Xx:=fun j=>(C.frozen y zs).trans (uf j);have kt:=(Kept.aD (R:=R) H).trans z;have H3:=hide h3;have ab:w≠a.heap.size:=O;have aa:a≠w.heap.size:=O;clear h3 u eZ x0 x1 x2 W T u0 u1 u2 u3 uf;go_wp2;refine bodyPost_ret (v:=XM #[gW ws st,Xy,V XP (bW ws (aP ws [bJ] st) bB cL),V XP (bW ws (aP ws [bJ,bB] st) bB cL)]) (by simp[results,results94,go_sem,y0,y1,y2,y3];exact⟨rfl,rfl,rfl⟩) rfl ⟨rfl,?_,?_⟩;exact ((((((aO H3).other O (fun g=>by have:=f g;omega)).other O (fun g=>by have:=f g;omega)).other O (fun g=>by have:=f g;omega)).other O (fun g=>by have:=f g;omega)).other O (fun g=>by have:=f g;omega)).other O (fun g=>by have:=f g;omega);exact (((((kt.aW O _).aW O _).aW aJ _).aW aJ _).aW aJ _).aW aJ _
theorem b7L(f:XA)(R A:M)(ws:J Xm)(nx:M)(wr:Xp)(w:Xz)(h:RS w R A ws nx wr)(hm:dN ws.length nx wr=Xx):XD prog 178 #[R,f] w fun e w'=>e=XQ (gD [])/\RS w' R A ws nx Xy/\Kept R w w':=by
 go_in;go_wp21;obtain⟨X,t⟩:∃ X,X=(w.alloc (XR #[Xx,Xx,Xx,Xx,Xx,Xx,Xx] 153)).alloc (XR #[Xx,Xx,Xx,Xx,Xx,Xx,Xx] 153):=⟨_,rfl⟩;rw[<- t];let⟨hRl,hAl⟩:=h.lt;have u:XC w w X:=by rw[t];exact aS.alloc Xc _
 have hZ:w+2=X.heap.size:=by rw[t];simp
 have i:DS X w []:=by rw[t];refine⟨?_,?_,?_,?_,?_,?_,?_,fun j=>?_⟩ <;> simp[aI]
 have m:DS X (w.heap.size+1) []:=by rw[t];refine⟨?_,?_,?_,?_,?_,?_,?_,fun j=>?_⟩ <;> simp[aI]
 clear t;refine aK (kf R A ws nx wr X (h.aD u)) ?_;rintro w1 ⟨n,q⟩;have x:RS w1 R A ws nx wr:=by rw[q];exact (h.aD u).drewN n
 have H:Kept R w w1:=by rw[q];exact (Kept.aD u).drewN n
 have a:DS w1 w []:=by rw[q];exact⟨i.c0,i.c1,i.c2,i.c3,i.c4,i.c5,i.c6,i.f⟩
 have c:DS w1 (w.heap.size+1) []:=by rw[q];exact⟨m.c0,m.c1,m.c2,m.c3,m.c4,m.c5,m.c6,m.f⟩
 have I:X=w1.heap.size:=by rw[q];rfl
 have c2:=x.c2;have f2:=x.f2;clear q i m;have q0:=c.c0;have W:=c.c1;have T:=c.c2;have S:=c.c3;have Q:=c.c4;have L:=c.c5;have K:=c.c6;have G:=a.c0;have F:=a.c1;have E:=a.c2;have D:=a.c3;have C:=a.c4;have z:=a.c5;have y:=a.c6;have fR:=a.f;have fD:=c.f;have n1:R≠w:=O;have n2:R≠w+1:=O;go_wp2;refine bodyPost_ret (v:=gD []) (by simp[results,results178,go_sem,gD,aI,G,F,E,D,C,z,y]) rfl ⟨rfl,?_,?_⟩;exact (((((((x.bad.other O (fun g=>by have:=hAl g;omega)).other O (fun g=>by have:=hAl g;omega)).other O (fun g=>by have:=hAl g;omega)).other O (fun g=>by have:=hAl g;omega)).other O (fun g=>by have:=hAl g;omega)).other O (fun g=>by have:=hAl g;omega)).other O (fun g=>by have:=hAl g;omega));exact (((((((H.setCell _ _).aW aJ _).aW aJ _).aW aJ _).aW aJ _).aW aJ _).aW aJ _).aW aJ _
theorem Uv{acc0:J N}(acc:J N)(h:DS w b acc0):DS (((((((w.setCell (b,0) (aI acc 0)).setCell (b,1) (aI acc 1)).setCell (b,2) (aI acc 2)).setCell (b,3) (aI acc 3)).setCell (b,4) (aI acc 4)).setCell (b,5) (aI acc 5)).setCell (b,6) (aI acc 6)) b acc:=by
 have s:∀ (x:Xz) (o:M) (v u:XA),x.cell? (b,o)=U u->(x.setCell (b,o) v).cell? (b,o)=U v:=fun x o v u a=>zm x (b,o) v a;have o:∀ (x:Xz) (i j:M) (v:XA),i≠j->(x.setCell (b,i) v).cell? (b,j)=x.cell? (b,j):=fun x i j v _=>bC Xc;refine⟨?_,?_,?_,?_,?_,?_,?_,fun j=>?_⟩
 .rw[o _ 6 0 _ Xd,o _ 5 0 _ Xd,o _ 4 0 _ Xd,o _ 3 0 _ Xd,o _ 2 0 _ Xd,o _ 1 0 _ Xd];refine s _ _ _ (aI acc0 0) ?_;exact h.c0
 .rw[o _ 6 1 _ Xd,o _ 5 1 _ Xd,o _ 4 1 _ Xd,o _ 3 1 _ Xd,o _ 2 1 _ Xd];refine s _ _ _ (aI acc0 1) ?_;rw[o _ 0 1 _ Xd];exact h.c1
 .rw[o _ 6 2 _ Xd,o _ 5 2 _ Xd,o _ 4 2 _ Xd,o _ 3 2 _ Xd];refine s _ _ _ (aI acc0 2) ?_;rw[o _ 1 2 _ Xd,o _ 0 2 _ Xd];exact h.c2
 .rw[o _ 6 3 _ Xd,o _ 5 3 _ Xd,o _ 4 3 _ Xd];refine s _ _ _ (aI acc0 3) ?_;rw[o _ 2 3 _ Xd,o _ 1 3 _ Xd,o _ 0 3 _ Xd];exact h.c3
 .rw[o _ 6 4 _ Xd,o _ 5 4 _ Xd];refine s _ _ _ (aI acc0 4) ?_;rw[o _ 3 4 _ Xd,o _ 2 4 _ Xd,o _ 1 4 _ Xd,o _ 0 4 _ Xd];exact h.c4
 .rw[o _ 6 5 _ Xd];refine s _ _ _ (aI acc0 5) ?_;rw[o _ 4 5 _ Xd,o _ 3 5 _ Xd,o _ 2 5 _ Xd,o _ 1 5 _ Xd,o _ 0 5 _ Xd];exact h.c5
 .refine s _ _ _ (aI acc0 6) ?_;rw[o _ 5 6 _ Xd,o _ 4 6 _ Xd,o _ 3 6 _ Xd,o _ 2 6 _ Xd,o _ 1 6 _ Xd,o _ 0 6 _ Xd];exact h.c6
 .simp only[World.frozen?_setCell];exact h.f j
def M8(b:Xp)(s:Xm)(e:Ending):Prop:=∃ acc,e=XQ (gD acc)/\(b=Xy->Txt.jf s=U acc)
theorem SF(w:Xz)(b:M)(t q v2 m i f a:Xp)(c o:M)(h:c≠b):(((((((w.setCell (b,0) t).setCell (b,1) q).setCell (b,2) v2).setCell (b,3) m).setCell (b,4) i).setCell (b,5) f).setCell (b,6) a).cell? (c,o)=w.cell? (c,o):=by have g:∀ (x:Xz) (j:M) (v:XA),(x.setCell (b,j) v).cell? (c,o)=x.cell? (c,o):=fun x j v=>World.cell?_setCell_far x (b,j) (c,o) v (Ne.symm h);rw[g,g,g,g,g,g,g]
theorem b4s(b:Xp)(R A:M)(ws:J Xm)(nx:M)(wr:Xp)(w:Xz)(h:RS w R A ws nx wr)(he:Env w)(hm:dN ws.length nx wr=Xy)(G:nx<ws.length)(hb:Txt.fF ws[nx]=b):XD prog 178 #[R,.func (.func 179) #[] #[]] w fun e w'=>M8 b ws[nx] e/\RS w' R A ws (if b then nx+1 else nx) (if b then wr else Xy)/\Kept R w w':=by
 have hi:(nx:N)<(ws.length:N):=O;have af:(0:N)<=(nx:N):=Int.natCast_nonneg _;have aa:ws[nx].size<=160:=h.short _ (zg G);have ac:=hide aa;have HE:=hide he;clear aa he;go_in;go_wp21;obtain⟨X,T⟩:∃ X,X=(w.alloc (XR #[Xx,Xx,Xx,Xx,Xx,Xx,Xx] 153)).alloc (XR #[Xx,Xx,Xx,Xx,Xx,Xx,Xx] 153):=⟨_,rfl⟩;rw[<- T];obtain⟨ag,a⟩:=h.lt;have hB:XC w w X:=by rw[T];exact aS.alloc Xc _
 have hZ:w+2=X.heap.size:=by rw[T];simp
 have E:DS X w []:=by rw[T];refine⟨?_,?_,?_,?_,?_,?_,?_,fun j=>?_⟩ <;> simp[aI]
 have F:DS X (w.heap.size+1) []:=by rw[T];refine⟨?_,?_,?_,?_,?_,?_,?_,fun j=>?_⟩ <;> simp[aI]
 clear T;refine aK (kf R A ws nx wr X (h.aD hB)) ?_;rintro w1 ⟨n,Q⟩;have D:RS w1 R A ws nx wr:=by rw[Q];exact (h.aD hB).drewN n
 have k1:Kept R w w1:=by rw[Q];exact (Kept.aD hB).drewN n
 have I:DS w1 w []:=by rw[Q];exact⟨E.c0,E.c1,E.c2,E.c3,E.c4,E.c5,E.c6,E.f⟩
 have K:DS w1 (w.heap.size+1) []:=by rw[Q];exact⟨F.c0,F.c1,F.c2,F.c3,F.c4,F.c5,F.c6,F.f⟩
 have z1:X=w1.heap.size:=by rw[Q];rfl
 have ad:Hid (Env w1):=by show Env w1;rw[Q];exact ((aO HE).later hB).drewN n
 have c0:=D.c0;have c1:=D.c1;have cr:=D.rows nx G;have c:=D.len;clear Q;go_wp21;have ab:w1≠R:=by have:=D.lt.1;omega
 have ae:w1≠A:=by have:=D.lt.2 O;omega
 go_region_held3 (fun w'=>w'.cell? (R,0)=U (XI A ws.length ws.length)/\w'.cell? (R,1)=U (XG Y nx)/\w'.cell? (A,nx)=U (XJ ws[nx]))
  (first
   |go_keep
   |(
    go_split_ands;refine⟨?_,?_,?_⟩
    .exact cell_later g Xe
    .exact cell_later g Xe
    .exact cell_later g Xe)
   |(
    refine⟨?_,?_,?_⟩
    .exact cell_later aS (cell_later g c0)
    .exact cell_later aS (cell_later g c1)
    .exact cell_later aS (cell_later g cr))
   |(
    refine⟨?_,?_,?_⟩
    .exact (kq _ _ ab.symm).trans (cell_later g (cell_later aS c0))
    .exact (kq _ _ ab.symm).trans (cell_later g (cell_later aS c1))
    .exact (kq _ _ ae.symm).trans (cell_later g (cell_later aS cr))))
  ((go_at_call 179;first
   |(
    refine (LQ _ _ ?_ (aO ac)).mono ?_
    .exact (aO ad).later ⟨rfl,rfl,rfl,XS _,fun _ _=>rfl⟩
    rintro e w4 ⟨⟨acc,rfl,t⟩,g⟩;simp only[gD])
   |(
    refine (LQ _ _ ?_ (aO ac)).mono ?_
    .exact ((aO ad).later aS).later ⟨rfl,rfl,rfl,XS _,fun _ _=>rfl⟩
    rintro e w4 ⟨⟨acc,rfl,t⟩,g⟩;have H:DS w4 w1 []:=DS.later (by refine⟨?_,?_,?_,?_,?_,?_,?_,fun j=>?_⟩ <;> simp[aI]) g;have t0:=H.c0;have t1:=H.c1;have t2:=H.c2;have t3:=H.c3;have t4:=H.c4;have t5:=H.c5;have t6:=H.c6;have tf:=H.f;have kq:=SF w4 w1 (aI acc 0) (aI acc 1) (aI acc 2) (aI acc 3) (aI acc 4) (aI acc 5) (aI acc 6);clear H;simp only[gD])))
 .obtain⟨Z,x⟩:∃ Z,Z=w4.alloc (XR #[aI acc 0,aI acc 1,aI acc 2,aI acc 3,aI acc 4,aI acc 5,aI acc 6] 153):=⟨_,rfl⟩;rw[<- x];have q:XC w1 w1 w4:=⟨g.os,g.tape,g.output,g.size,g.block⟩;have m:XC w1 w1 Z:=by rw[x];exact q.trans (fI.alloc q.size _)
  have y:DS Z w4 acc:=by rw[x];refine⟨?_,?_,?_,?_,?_,?_,?_,fun j=>?_⟩ <;> simp
  have S:w+1<w4.heap.size:=by have:=q.size;omega
  have i:=D.aD m;have kZ:=k1.trans (Kept.aD (R:=R) m);have u:=I.later m;have zD:=K.later m;obtain⟨V,hV⟩:∃ V,V=w4:=⟨_,rfl⟩;rw[<- hV] at S y ⊢;clear x q m g hV I K E F;rw[hb] at t;have C:=hide t;clear c0 c1 cr t D k1 h;have x1:=i.c1;have x2:=i.c2;have x3:=i.f1;have x4:=i.f2;have q0:=zD.c0;have q1:=zD.c1;have q2:=zD.c2;have q3:=zD.c3;have q4:=zD.c4;have q5:=zD.c5;have q6:=zD.c6;have r0:=u.c0;have r1:=u.c1;have r2:=u.c2;have r3:=u.c3;have r4:=u.c4;have r5:=u.c5;have W:=u.c6;have fR:=u.f;have s0:=y.c0;have s1:=y.c1;have s2:=y.c2;have s3:=y.c3;have s4:=y.c4;have s5:=y.c5;have s6:=y.c6;have n1:R≠w:=O;have n2:R≠w+1:=O;have n3:R≠V:=O;have z:=hide i;clear i u zD y
  cases b
  .go_wp2;refine bodyPost_ret (v:=gD []) (by simp[results,results178,go_sem,gD,aI,r0,r1,r2,r3,r4,r5,W]) rfl ⟨⟨[],rfl,fun h=>Xu h Xd⟩,?_,?_⟩
   .exact ((((((((aO z).bad.other O (fun c=>by have:=a c;omega)).other O (fun c=>by have:=a c;omega)).other O (fun c=>by have:=a c;omega)).other O (fun c=>by have:=a c;omega)).other O (fun c=>by have:=a c;omega)).other O (fun c=>by have:=a c;omega)).other O (fun c=>by have:=a c;omega))
   .exact (((((((kZ.setCell _ _).aW aJ _).aW aJ _).aW aJ _).aW aJ _).aW aJ _).aW aJ _).aW aJ _
  .go_wp2;refine bodyPost_ret (v:=gD acc) (by simp[results,results178,go_sem,gD,r0,r1,r2,r3,r4,r5,W]) rfl ⟨⟨acc,rfl,fun _=>aO C trivial⟩,?_,?_⟩
   .exact (((((((((aO z).step G).other O (fun c=>by have:=a c;omega)).other O (fun c=>by have:=a c;omega)).other O (fun c=>by have:=a c;omega)).other O (fun c=>by have:=a c;omega)).other O (fun c=>by have:=a c;omega)).other O (fun c=>by have:=a c;omega)).other O (fun c=>by have:=a c;omega))
   .exact (((((((kZ.setCell _ _).aW aJ _).aW aJ _).aW aJ _).aW aJ _).aW aJ _).aW aJ _).aW aJ _
 .obtain⟨Z,x⟩:∃ Z,Z=((((((w4.setCell (w1,0) (aI acc 0)).setCell (w1,1) (aI acc 1)).setCell (w1,2) (aI acc 2)).setCell (w1,3) (aI acc 3)).setCell (w1,4) (aI acc 4)).setCell (w1,5) (aI acc 5)).setCell (w1,6) (aI acc 6):=⟨_,rfl⟩;rw[<- x];have L:XC w1 (w1.alloc (XR #[Xx,Xx,Xx,Xx,Xx,Xx,Xx] 153)) w4:=⟨g.os,g.tape,g.output,g.size,fun k hk=>g.block k Xh⟩;have q:XC w1 w1 w4:=((zr w1 w1).alloc aJ _).trans L;clear L;have m:XC w1 w1 Z:=by rw[x];exact ((((((q.setCell aJ _).setCell aJ _).setCell aJ _).setCell aJ _).setCell aJ _).setCell aJ _).setCell aJ _
  have y:DS Z w1 acc:=by rw[x];exact Uv acc (acc0:=[]) ⟨t0,t1,t2,t3,t4,t5,t6,tf⟩
  have S:w+1<w1.heap.size:=O;have i:=D.aD m;have kZ:=k1.trans (Kept.aD (R:=R) m);have u:=I.later m;have zD:=K.later m;obtain⟨V,hV⟩:∃ V,V=w1:=⟨_,rfl⟩;rw[<- hV] at S y ⊢;clear x q m g hV I K E F t0 t1 t2 t3 t4 t5 t6 tf kq;rw[hb] at t;have C:=hide t;clear c0 c1 cr t D k1 h;have x1:=i.c1;have x2:=i.c2;have x3:=i.f1;have x4:=i.f2;have q0:=zD.c0;have q1:=zD.c1;have q2:=zD.c2;have q3:=zD.c3;have q4:=zD.c4;have q5:=zD.c5;have q6:=zD.c6;have r0:=u.c0;have r1:=u.c1;have r2:=u.c2;have r3:=u.c3;have r4:=u.c4;have r5:=u.c5;have W:=u.c6;have fR:=u.f;have s0:=y.c0;have s1:=y.c1;have s2:=y.c2;have s3:=y.c3;have s4:=y.c4;have s5:=y.c5;have s6:=y.c6;have n1:R≠w:=O;have n2:R≠w+1:=O;have n3:R≠V:=O;have z:=hide i;clear i u zD y
  cases b
  .go_wp2;refine bodyPost_ret (v:=gD []) (by simp[results,results178,go_sem,gD,aI,r0,r1,r2,r3,r4,r5,W]) rfl ⟨⟨[],rfl,fun h=>Xu h Xd⟩,?_,?_⟩
   .exact ((((((((aO z).bad.other O (fun c=>by have:=a c;omega)).other O (fun c=>by have:=a c;omega)).other O (fun c=>by have:=a c;omega)).other O (fun c=>by have:=a c;omega)).other O (fun c=>by have:=a c;omega)).other O (fun c=>by have:=a c;omega)).other O (fun c=>by have:=a c;omega))
   .exact (((((((kZ.setCell _ _).aW aJ _).aW aJ _).aW aJ _).aW aJ _).aW aJ _).aW aJ _).aW aJ _
  .go_wp2;refine bodyPost_ret (v:=gD acc) (by simp[results,results178,go_sem,gD,r0,r1,r2,r3,r4,r5,W]) rfl ⟨⟨acc,rfl,fun _=>aO C trivial⟩,?_,?_⟩
   .exact (((((((((aO z).step G).other O (fun c=>by have:=a c;omega)).other O (fun c=>by have:=a c;omega)).other O (fun c=>by have:=a c;omega)).other O (fun c=>by have:=a c;omega)).other O (fun c=>by have:=a c;omega)).other O (fun c=>by have:=a c;omega)).other O (fun c=>by have:=a c;omega))
   .exact (((((((kZ.setCell _ _).aW aJ _).aW aJ _).aW aJ _).aW aJ _).aW aJ _).aW aJ _).aW aJ _
theorem b7M(R A:M)(ws:J Xm)(nx:M)(wr:Xp)(w:Xz)(h:RS w R A ws nx wr)(i:Env w):XD prog 178 #[R,.func (.func 179) #[] #[]] w fun e w'=>M8 (fQ ws nx wr Txt.fF) (ws.getD nx ByteArray.empty) e/\RS w' R A ws (fP ws nx wr Txt.fF) (fL ws nx wr Txt.fF)/\Kept R w w':=by
 cases c:dN ws.length nx wr
 .have t:=uR (B:=Txt.fF) c;rw[fP,fL,t];refine aK (b7L _ R A ws nx wr w h c) ?_;rintro w' ⟨j,g⟩;exact⟨⟨[],rfl,fun h=>Xu h Xd⟩,j,g⟩
 .have a:=sI c;obtain⟨b,f⟩:∃ b,Txt.fF ws[nx]=b:=⟨_,rfl⟩;have t:=pd (B:=Txt.fF) c a f;rw[fP,fL,t,sD ws nx a];exact b4s b R A ws nx wr w h i c a f
def rv(pc ev:N)(acc:J N)(fr mn mi ti un:N):M->XA
 |0=>V Y pc
 |1=>V Y ev
 |2=>XK (aI acc 0)
 |3=>XK (aI acc 1)
 |4=>XK (aI acc 2)
 |5=>XK (aI acc 3)
 |6=>XK (aI acc 4)
 |7=>XK (aI acc 5)
 |8=>XK (aI acc 6)
 |9=>V Y fr
 |10=>V Y mn
 |11=>V Y mi
 |12=>V Y ti
 |_=>V Y un
structure RL(w:Xz)(P:M)(v:M->XA):Prop where
 c:∀ j:M,j<14->w.cell? (P,j)=U (v j)
 f:∀ j:M,w.frozen? (P,j)=Xx
theorem qY{p:M->Prop}(D:p 0)(C:p 1)(z:p 2)(y:p 3)(x:p 4)(u:p 5)(t:p 6)(q:p 7)(m:p 8)(i:p 9)(g:p 10)(f:p 11)(c:p 12)(a:p 13):∀ j:M,j<14->p j
 |0,_=>D
 |1,_=>C
 |2,_=>z
 |3,_=>y
 |4,_=>x
 |5,_=>u
 |6,_=>t
 |7,_=>q
 |8,_=>m
 |9,_=>i
 |10,_=>g
 |11,_=>f
 |12,_=>c
 |13,_=>a
 |n+14,h=>Xu h O
theorem RL.lt(h:RL w P v):P<w:=XV _ (P,0) (h.c 0 O)
theorem RL.set(h:RL w P v)(j:M)(g:j<14)(x:XA):RL (w.setCell (P,j) x) P (fun i=>if i=j then x else v i):=by refine⟨fun i a=>?_,fun i=>(zF ..).trans (h.f i)⟩;by_cases e:i=j;subst e;rw[Xt rfl];exact zm _ (P,i) _ (h.c i a);rw[Xs e];exact (bC Xc).trans (h.c i a)
theorem RL.congr{v':M->XA}(h:RL w P v)(e:∀ j:M,j<14->v j=v' j):RL w P v':=⟨fun j a=>by rw[<- e j a];exact h.c j a,h.f⟩
theorem RL.other{x:XA}(h:RL w P v)(g:b≠P):RL (w.setCell (b,o) x) P v :=⟨fun j a=>(World.cell?_setCell_far w (b,o) (P,j) x g).trans (h.c j a),fun i=>(zF ..).trans (h.f i)⟩
theorem RL.kept(h:RL w P v)(k:Kept R w w')(a:P≠R):RL w' P v :=⟨fun j g=>k.cell a (h.c j g),fun j=>(k.frozen a h.lt).trans (h.f j)⟩
structure lR(R P:M)(w w':Xz):Prop where
 os:w'.os=w.os
 tape:w'.tape=w.tape
 output:w'.output=w.output
 size:w<=w'.heap.size
 block:∀ k,k<w.heap.size->k≠R->k≠P->w'.heap[k]?=w.heap[k]?
theorem Kept.two(P:M)(k:Kept R w w'):lR R P w w':=⟨k.os,k.tape,k.output,k.size,fun i c a _=>k.block i c a⟩
theorem lR.trans{a b c:Xz}(h:lR R P a b)(k:lR R P b c):lR R P a c :=⟨k.os.trans h.os,k.tape.trans h.tape,k.output.trans h.output,XU h.size k.size,fun i j f g=>(k.block i (zL j h.size) f g).trans (h.block i j f g)⟩
theorem lR.iz(h:lR R P w w')(o:M)(v:XA):lR R P w (w'.setCell (P,o) v) :=⟨(Below.setCell (B:=0) (Below.refl 0 w') (p:=(P,o)) (zN _) v).os.trans h.os,(Below.setCell (B:=0) (Below.refl 0 w') (p:=(P,o)) (zN _) v).tape.trans h.tape,(Below.setCell (B:=0) (Below.refl 0 w') (p:=(P,o)) (zN _) v).output.trans h.output,XU h.size (Below.setCell (B:=0) (Below.refl 0 w') (p:=(P,o)) (zN _) v).size,fun k f c a=>(Below.heap_setCell w' (P,o) v k a).trans (h.block k f c a)⟩
theorem lR.wX(h:lR R P w w')(o:M)(v:XA):lR R P w (w'.setCell (R,o) v) :=⟨(Below.setCell (B:=0) (Below.refl 0 w') (p:=(R,o)) (zN _) v).os.trans h.os,(Below.setCell (B:=0) (Below.refl 0 w') (p:=(R,o)) (zN _) v).tape.trans h.tape,(Below.setCell (B:=0) (Below.refl 0 w') (p:=(R,o)) (zN _) v).output.trans h.output,XU h.size (Below.setCell (B:=0) (Below.refl 0 w') (p:=(R,o)) (zN _) v).size,fun k f a c=>(Below.heap_setCell w' (R,o) v k a).trans (h.block k f a c)⟩
theorem lR.one{x:Xz}(k:Kept R w x)(h:lR R P x w')(f:w<=P):Kept R w w' :=⟨h.os.trans k.os,h.tape.trans k.tape,h.output.trans k.output,XU k.size h.size,fun i c a=>(h.block i (zL c k.size) a O).trans (k.block i c a)⟩
theorem Env.iX(h:Env w)(k:lR R P w w')(q:10<=R)(t:10<=P):Env w':=by have g:XC 10 w w':=⟨k.os,k.tape,k.output,k.size,fun i j=>k.block i (zL j h.size) O O⟩;have a:∀ (b o:M) (v:XA),b<10->w.cell? (b,o)=U v->w'.cell? (b,o)=U v:=fun b o v f e=>(g.cell (p:=(b,o)) f).trans e;let⟨m,hm⟩:=h.vP;let⟨c0,c1,c2,c3,c4,c5,c6,c7,c8,c9,c10,c11⟩:=h.jO;refine⟨⟨a _ _ _ O c0,a _ _ _ O c1,a _ _ _ O c2,a _ _ _ O c3,a _ _ _ O c4,a _ _ _ O c5,a _ _ _ O c6,a _ _ _ O c7,a _ _ _ O c8,a _ _ _ O c9,a _ _ _ O c10,a _ _ _ O c11⟩,⟨m,a _ _ _ O hm⟩,?_,XU h.size k.size,a _ _ _ O h.mo,a _ _ _ O h.tu,a _ _ _ O h.we,a _ _ _ O h.th,a _ _ _ O h.fr,a _ _ _ O h.sa,a _ _ _ O h.su⟩;have c:=h.pow;unfold Lib.TabIs World.var? at c ⊢;simp only[xS,Option.bind_some] at c ⊢;rw[g.block 1 O];exact c
def fZ:Xm:=⟨#[100,97,105,108,121]⟩
def fU:Xm:=⟨#[119,101,101,107,108,121]⟩
def gg:Xm:=⟨#[109,111,110,116,104,108,121]⟩
def eV:Xm:=⟨#[116,105,109,101,115]⟩
def fe:Xm:=⟨#[117,110,116,105,108]⟩
def cC:Xm:=⟨#[102,114,111,109]⟩
def cO:Xm:=⟨#[97,116]⟩
def dA:Xm:=⟨#[102,111,114]⟩
def eP(s:Xm):Xp:=gy s 1 99
def dM(s:Xm):Xp:=gy s 1 1048320
def cH(x s:Xm):Xp:=s.toList==x.toList
def gB(st:M × Xp):M × Xp:=(st.1+1,st.2)
inductive qD (ws:Xn Xm) (st:Xq × Xp):Xr->Xr->Xn Xr->Xq × Xp->Prop where
 |daily (h:bP ws st.1 st.2 fZ=Xy):qD ws st 1 (bW ws (gB st) eP bD) [] (aP ws [eP] (gB st))
 |weekly (h1:bP ws st.1 st.2 fZ=Xx) (h:bP ws st.1 st.2 fU=Xy) (acc:Xn Xr) (ha:fQ ws (aP ws [eP] (gB st)).1 (aP ws [eP] (gB st)).2 Txt.fF=Xy->Txt.jf (ws.getD (aP ws [eP] (gB st)).1 ByteArray.empty)=Xw acc):qD ws st 2 (bW ws (gB st) eP bD) acc (aP ws [eP,Txt.fF] (gB st))
 |monthly (h1:bP ws st.1 st.2 fZ=Xx) (h2:bP ws st.1 st.2 fU=Xx) (h:bP ws st.1 st.2 gg=Xy):qD ws st 3 (bW ws (gB st) eP bD) [] (aP ws [eP] (gB st))
 |none (h1:bP ws st.1 st.2 fZ=Xx) (h2:bP ws st.1 st.2 fU=Xx) (h:bP ws st.1 st.2 gg=Xx):qD ws st 0 0 [] (st.1,Xy)
theorem Ef{ev:N}(h:RL w P (rv pc ev acc fr mn mi ti un))(x:N):RL (w.setCell (P,0) x) P (rv x ev acc fr mn mi ti un):=(h.set 0 O _).congr (qY rfl rfl rfl rfl rfl rfl rfl rfl rfl rfl rfl rfl rfl rfl)
theorem Eg{ev:N}(h:RL w P (rv pc ev acc fr mn mi ti un))(x:N):RL (w.setCell (P,1) x) P (rv pc x acc fr mn mi ti un):=(h.set 1 O _).congr (qY rfl rfl rfl rfl rfl rfl rfl rfl rfl rfl rfl rfl rfl rfl)
theorem Ul{ev:N}(h:RL w P (rv pc ev acc fr mn mi ti un))(x:N):RL (w.setCell (P,9) x) P (rv pc ev acc x mn mi ti un):=(h.set 9 O _).congr (qY rfl rfl rfl rfl rfl rfl rfl rfl rfl rfl rfl rfl rfl rfl)
theorem UW{ev:N}(h:RL w P (rv pc ev acc fr mn mi ti un))(x:N):RL (w.setCell (P,10) x) P (rv pc ev acc fr x mi ti un):=(h.set 10 O _).congr (qY rfl rfl rfl rfl rfl rfl rfl rfl rfl rfl rfl rfl rfl rfl)
theorem UX{ev:N}(h:RL w P (rv pc ev acc fr mn mi ti un))(x:N):RL (w.setCell (P,11) x) P (rv pc ev acc fr mn x ti un):=(h.set 11 O _).congr (qY rfl rfl rfl rfl rfl rfl rfl rfl rfl rfl rfl rfl rfl rfl)
theorem UY{ev:N}(h:RL w P (rv pc ev acc fr mn mi ti un))(x:N):RL (w.setCell (P,12) x) P (rv pc ev acc fr mn mi x un):=(h.set 12 O _).congr (qY rfl rfl rfl rfl rfl rfl rfl rfl rfl rfl rfl rfl rfl rfl)
theorem UZ{ev:N}(h:RL w P (rv pc ev acc fr mn mi ti un))(x:N):RL (w.setCell (P,13) x) P (rv pc ev acc fr mn mi ti x):=(h.set 13 O _).congr (qY rfl rfl rfl rfl rfl rfl rfl rfl rfl rfl rfl rfl rfl rfl)
theorem U0{ev:N}(h:RL w P (rv pc ev acc fr mn mi ti un))(x:J N):RL (((((((w.setCell (P,2) (aI x 0)).setCell (P,3) (aI x 1)).setCell (P,4) (aI x 2)).setCell (P,5) (aI x 3)).setCell (P,6) (aI x 4)).setCell (P,7) (aI x 5)).setCell (P,8) (aI x 6)) P (rv pc ev x fr mn mi ti un) :=
 (((((((h.set 2 O _).set 3 O _).set 4 O _).set 5 O _).set 6 O _).set 7 O _).set 8 O _).congr (qY rfl rfl rfl rfl rfl rfl rfl rfl rfl rfl rfl rfl rfl rfl)
theorem Wz(R A P:M)(ws:J Xm)(st:M × Xp)(w:Xz)(h:RS w R A ws st.1 st.2)(he:Env w)(F:10<=R)(hP:10<=P)(a:P≠R)(g:0<ws.length->P≠A)(hl:RL w P (rv 0 0 [] 0 0 0 0 0)):
  XD prog 136 #[R,P] w fun e w' =>∃ (pc ev:N) (acc:J N) (s:M × Xp),e=XQ (XL #[])/\qD ws st pc ev acc s/\RS w' R A ws s.1 s.2/\RL w' P (rv pc ev acc 0 0 0 0 0)/\lR R P w w':=by
 have HE:=hide he;clear he;go_in;go_wp21;refine aK (kQ R A ws st.1 st.2 fZ w h) ?_;rintro w1 ⟨Q,k1⟩;have y:=k1.two P;have l1:=hl.kept k1 a;clear h hl k1
 cases I:bP ws st.1 st.2 fZ
 .rw[I] at Q
  go_wp21;refine aK (kQ R A ws st.1 st.2 fU w1 Q) ?_;rintro w2 ⟨L,k2⟩;have x:=y.trans (k2.two P);have H:=l1.kept k2 a;clear Q y l1 k2
  cases W:bP ws st.1 st.2 fU
  .rw[W] at L
   go_wp21;refine aK (kQ R A ws st.1 st.2 gg w2 L) ?_;rintro w3 ⟨G,k3⟩;have E:=x.trans (k3.two P);have T:=H.kept k3 a;clear L x H k3
   cases hm:bP ws st.1 st.2 gg
   .rw[hm] at G;have c2:=G.c2;have f2:=G.f2;go_wp2
    go_end0;exact⟨0,0,[],(st.1,Xy),rfl,.none I W hm,G.bad,T.other a.symm,E.wX _ _⟩
   .rw[hm,Xt rfl] at G;have S:=T.c 0 O;have t:=T.f
    go_wp21;have C:=G.other (b:=P) (o:=0) (v:=V Y 3) a g;have z:=Ef T 3;have q:=E.iz 0 (V Y 3);have EZ:=hide ((aO HE).iX q F hP);clear S t G T E;refine aK (FE R A ws (st.1+1) st.2 _ C) ?_;rintro w5 ⟨K,i⟩;have j:=q.trans (i.two P);have m:=z.kept i a;have E5:=hide ((aO EZ).kept i F);clear C z q i;have p1:=m.c 1 O;have t:=m.f;go_wp2;go_end0;exact⟨3,bW ws (gB st) eP bD,[],aP ws [eP] (gB st),rfl,.monthly I W hm,K.other a g,Eg m _,j.iz _ _⟩
  .rw[W,Xt rfl] at L;have S:=H.c 0 O;have t:=H.f
   go_wp21;have C:=L.other (b:=P) (o:=0) (v:=V Y 2) a g;have z:=Ef H 2;have q:=x.iz 0 (V Y 2);have EZ:=hide ((aO HE).iX q F hP);clear S t L H x;refine aK (FE R A ws (st.1+1) st.2 _ C) ?_;rintro w5 ⟨K,i⟩;have j:=q.trans (i.two P);have m:=z.kept i a;have E5:=hide ((aO EZ).kept i F);clear C z q i;have p1:=m.c 1 O;have t:=m.f;go_wp21;have h6:=K.other (b:=P) (o:=1) (v:=V Y (gS ws (st.1+1) st.2 (fun s=>gy s 1 99) (fun s=>Txt.dG s.data.toList))) a g;have l6:=Eg m (gS ws (st.1+1) st.2 (fun s=>gy s 1 99) (fun s=>Txt.dG s.data.toList));have k6:=j.iz 1 (V Y (gS ws (st.1+1) st.2 (fun s=>gy s 1 99) (fun s=>Txt.dG s.data.toList)));have E6:=hide ((aO HE).iX k6 F hP);clear p1 t K m j;refine (b7M R A ws _ _ _ h6 (aO E6)).mono ?_;rintro e w7 ⟨⟨acc,rfl,D⟩,h7,k7⟩;have aa:=k6.trans (k7.two P);have u:=l6.kept k7 a;have X:=hide D;clear h6 l6 k6 k7 D;have p2:=u.c 2 O;have p3:=u.c 3 O;have p4:=u.c 4 O;have p5:=u.c 5 O;have p6:=u.c 6 O;have p7:=u.c 7 O;have p8:=u.c 8 O;have t:=u.f;have H7:=hide h7;clear h7;simp only[gD];go_wp2;go_end0;exact⟨2,bW ws (gB st) eP bD,acc,aP ws [eP,Txt.fF] (gB st),rfl,.weekly I W acc (aO X),((((((((aO H7).other a g).other a g).other a g).other a g).other a g).other a g).other a g),U0 u acc,(((((((aa.iz _ _).iz _ _).iz _ _).iz _ _).iz _ _).iz _ _).iz _ _)⟩
 .rw[I,Xt rfl] at Q;have S:=l1.c 0 O;have t:=l1.f
  go_wp21;have C:=Q.other (b:=P) (o:=0) (v:=V Y 1) a g;have z:=Ef l1 1;have q:=y.iz 0 (V Y 1);have EZ:=hide ((aO HE).iX q F hP);clear S t Q l1 y;refine aK (FE R A ws (st.1+1) st.2 _ C) ?_;rintro w5 ⟨K,i⟩;have j:=q.trans (i.two P);have m:=z.kept i a;have E5:=hide ((aO EZ).kept i F);clear C z q i;have p1:=m.c 1 O;have t:=m.f;go_wp2;go_end0;exact⟨1,bW ws (gB st) eP bD,[],aP ws [eP] (gB st),rfl,.daily I,K.other a g,Eg m _,j.iz _ _⟩
inductive qw (ws:Xn Xm) (st:Xq × Xp):Xr->Xr->Xq × Xp->Prop where
 |times (h:bP ws st.1 st.2 eV=Xy):qw ws st (bW ws (gB st) eP bD) 0 (aP ws [eP] (gB st))
 |til (h1:bP ws st.1 st.2 eV=Xx) (h:bP ws st.1 st.2 fe=Xy):qw ws st 0 (bW ws (gB st) Txt.cU dV) (aP ws [Txt.cU] (gB st))
 |none (h1:bP ws st.1 st.2 eV=Xx) (h:bP ws st.1 st.2 fe=Xx):qw ws st 0 0 (st.1,Xy)
theorem UU(R A P:M)(ws:J Xm)(st:M × Xp)(w:Xz)(pc ev:N)(acc:J N)(fr mn mi:N)(h:RS w R A ws st.1 st.2)(T:Env w)(H:10<=R)(a:P≠R)(x:0<ws.length->P≠A)(S:RL w P (rv pc ev acc fr mn mi 0 0)):
  XD prog 141 #[R,P] w fun e w' =>∃ (ti un:N) (s:M × Xp),e=XQ (XL #[])/\qw ws st ti un s/\RS w' R A ws s.1 s.2/\RL w' P (rv pc ev acc fr mn mi ti un)/\lR R P w w':=by
 have W:=hide T;go_in;go_wp21;refine aK (kQ R A ws st.1 st.2 eV w h) ?_;rintro F ⟨z,D⟩;have q:=D.two P;have l1:=S.kept D a;have E1:=hide ((aO W).kept D H)
 cases u:bP ws st.1 st.2 eV
 .rw[u] at z
  go_wp21;refine aK (kQ R A ws st.1 st.2 fe F z) ?_;rintro K ⟨j,C⟩;have m:=q.trans (C.two P);have G:=l1.kept C a;have X:=hide ((aO E1).kept C H)
  cases y:bP ws st.1 st.2 fe
  .rw[y] at j;have c2:=j.c2;have f2:=j.f2;go_wp2
   go_end0;exact⟨0,0,(st.1,Xy),rfl,.none u y,j.bad,G.other a.symm,m.wX _ _⟩
  .rw[y,Xt rfl] at j
   go_wp21;refine aK (MR R A ws (st.1+1) st.2 K j (aO X)) ?_;rintro I ⟨E,t⟩;have i:=m.trans (t.two P);have g:=G.kept t a;have Q:=g.c 13 O;have L:=g.f;go_wp2;go_end0;exact⟨0,bW ws (gB st) Txt.cU dV,aP ws [Txt.cU] (gB st),rfl,.til u y,E.other a x,UZ g _,i.iz _ _⟩
 .rw[u,Xt rfl] at z
  go_wp21;refine aK (Bo 1 99 R A ws (st.1+1) st.2 F z) ?_;rintro I ⟨E,t⟩;have i:=q.trans (t.two P);have g:=l1.kept t a;have Q:=g.c 12 O;have L:=g.f;go_wp2;go_end0;exact⟨bW ws (gB st) eP bD,0,aP ws [eP] (gB st),rfl,.times u,E.other a x,UY g _,i.iz _ _⟩
def oT(ws:J Xm)(s:M × Xp):M × Xp:=aP ws [cH cC,Txt.cU,cH cO,Txt.dZ,cH dA,dM] s
inductive lO (ws:Xn Xm) (st:Xq × Xp):Xr->Xr->Xn Xr->Xr->Xr->Xr->Xr->Xr->Xq × Xp->Prop where
 |mk (pc ev:Xr) (acc:Xn Xr) (s:Xq × Xp) (ti un:Xr) (s':Xq × Xp) (hp:qD ws st pc ev acc s) (he:qw ws (oT ws s) ti un s'):lO ws st pc ev acc (bW ws (aP ws [cH cC] s) Txt.cU dV) (bW ws (aP ws [cH cC,Txt.cU,cH cO] s) Txt.dZ Txt.eA) (bW ws (aP ws [cH cC,Txt.cU,cH cO,Txt.dZ,cH dA] s) dM bD) ti un s'
theorem RL.iX{Q:M}(h:RL w P v)(k:lR R Q w w')(g:P≠R)(a:P≠Q):RL w' P v :=⟨fun j i=>(zo (w:=w) (k.block P h.lt g a)).trans (h.c j i),fun j=>(Zj (w:=w) (k.block P h.lt g a)).trans (h.f j)⟩
def kn(pc ev:N)(acc:J N)(fr mn mi ti un:N):XA :=XM #[pc,ev,aI acc 0,aI acc 1,aI acc 2,aI acc 3,aI acc 4,aI acc 5,aI acc 6,fr,mn,mi,ti,un]
def GM(ws:J Xm):Prop:=∀ (R A:M)(st:M × Xp)(w:Xz),RS w R A ws st.1 st.2->Env w->10<=R ->
  XD prog 92 #[R] w fun e w' =>∃ (pc ev:N) (acc:J N) (fr mn mi ti un:N) (s:M × Xp),e=XQ (kn pc ev acc fr mn mi ti un)/\lO ws st pc ev acc fr mn mi ti un s/\RS w' R A ws s.1 s.2/\Kept R w w'
theorem b2P(R A:M)(ws:J Xm)(st:M × Xp)(w:Xz)(h:RS w R A ws st.1 st.2)(he:Env w)(z:10<=R):
  XD prog 92 #[R] w fun e w' =>∃ (pc ev:N) (acc:J N) (fr mn mi ti un:N) (s:M × Xp),e=XQ (kn pc ev acc fr mn mi ti un)/\lO ws st pc ev acc fr mn mi ti un s/\RS w' R A ws s.1 s.2/\Kept R w w':=by
 have L:=hide he;go_in;go_wp21;obtain⟨bs,ab⟩:=h.lt;obtain⟨X,K⟩:∃ X,X=(w.alloc (XR #[V Y 0,V Y 0,Xx,Xx,Xx,Xx,Xx,Xx,Xx,V Y 0,V Y 0,V Y 0,V Y 0,V Y 0] 155)).alloc (XR #[V Y 0,V Y 0,Xx,Xx,Xx,Xx,Xx,Xx,Xx,V Y 0,V Y 0,V Y 0,V Y 0,V Y 0] 155):=⟨_,rfl⟩;rw[<- K];have hB:XC w w X:=by rw[K];exact aS.alloc Xc _
 have hZ:w+2=X.heap.size:=by rw[K];simp
 have gX:RL X w (rv 0 0 [] 0 0 0 0 0):=by rw[K];refine⟨qY ?_ ?_ ?_ ?_ ?_ ?_ ?_ ?_ ?_ ?_ ?_ ?_ ?_ ?_,fun j=>?_⟩ <;> simp[rv,aI]
 have lX:RL X (w.heap.size+1) (rv 0 0 [] 0 0 0 0 0):=by rw[K];refine⟨qY ?_ ?_ ?_ ?_ ?_ ?_ ?_ ?_ ?_ ?_ ?_ ?_ ?_ ?_,fun j=>?_⟩ <;> simp[rv,aI]
 clear K;have eX:=(aO L).later hB;have bf:=(aO L).size;have kX:=Kept.aD (R:=R) hB;have u:w+1≠R:=O;have y:0<ws.length->w+1≠A:=fun hq=>by have:=ab hq;omega
 have g:w≠R:=O;have m:0<ws.length->w≠A:=fun hq=>by have:=ab hq;omega
 obtain⟨P,hP⟩:∃ P,P=w.heap.size+1:=⟨_,rfl⟩;rw[<- hP] at lX u y ⊢;obtain⟨G,hG⟩:∃ G,G=w.heap.size:=⟨_,rfl⟩;rw[<- hG] at gX g m ⊢;have D:G≠P:=O;have C:w<=P:=O;have t:w<=G:=O;have aa:10<=P:=O;clear hP hG;refine (Wz R A P ws st X (h.aD hB) eX z aa u y lX).mono ?_;rintro e w1 ⟨pc,ev,acc,s,rfl,hp,h1,l1,k1⟩;have g1:=gX.iX k1 g D;have kt:=lR.one kX k1 C;have E1:=hide ((aO L).kept kt z);have ac:=hide hp;go_wp21;refine aK (EH R A ws _ _ cC w1 h1) ?_;rintro w2 ⟨a4,k2⟩;have h2:RS w2 R A ws (aP ws [cH cC] s).1 (aP ws [cH cC] s).2:=a4;have l2:=l1.kept k2 u;have g2:=g1.kept k2 g;have ar:=kt.trans k2;have E2:=hide ((aO E1).kept k2 z);go_wp21;refine aK (MR R A ws _ _ w2 h2 (aO E2)) ?_;rintro w3 ⟨az,k3⟩;have h3:RS w3 R A ws (aP ws [cH cC,Txt.cU] s).1 (aP ws [cH cC,Txt.cU] s).2:=az;have l3:=l2.kept k3 u;have g3:=g2.kept k3 g;have aq:=ar.trans k3;have E3:=hide ((aO E2).kept k3 z);have p3:=l3.c 9 O;have bq:=l3.f;have h4:=h3.other (b:=P) (o:=9) (v:=V Y (bW ws (aP ws [cH cC] s) Txt.cU dV)) u y;have l4:=Ul l3 (bW ws (aP ws [cH cC] s) Txt.cU dV);have g4:=g3.other (b:=P) (o:=9) (x:=V Y (bW ws (aP ws [cH cC] s) Txt.cU dV)) D.symm;have S:=aq.aW (b:=P) (o:=9) C (V Y (bW ws (aP ws [cH cC] s) Txt.cU dV));have E4:=hide ((aO L).kept S z);go_wp21;refine aK (EH R A ws _ _ cO _ h4) ?_;rintro w5 ⟨ay,k5⟩;have h5:RS w5 R A ws (aP ws [cH cC,Txt.cU,cH cO] s).1 (aP ws [cH cC,Txt.cU,cH cO] s).2:=ay;have l5:=l4.kept k5 u;have g5:=g4.kept k5 g;have ao:=S.trans k5;have E5:=hide ((aO E4).kept k5 z);go_wp21;refine aK (b0c R A ws _ _ w5 h5) ?_;rintro w6 ⟨ax,k6⟩;have h6:RS w6 R A ws (aP ws [cH cC,Txt.cU,cH cO,Txt.dZ] s).1 (aP ws [cH cC,Txt.cU,cH cO,Txt.dZ] s).2:=ax;have l6:=l5.kept k6 u;have g6:=g5.kept k6 g;have an:=ao.trans k6;have E6:=hide ((aO E5).kept k6 z);have p6:=l6.c 10 O;have bn:=l6.f;have h7:=h6.other (b:=P) (o:=10) (v:=V Y (bW ws (aP ws [cH cC,Txt.cU,cH cO] s) Txt.dZ Txt.eA)) u y;have l7:=UW l6 (bW ws (aP ws [cH cC,Txt.cU,cH cO] s) Txt.dZ Txt.eA);have g7:=g6.other (b:=P) (o:=10) (x:=V Y (bW ws (aP ws [cH cC,Txt.cU,cH cO] s) Txt.dZ Txt.eA)) D.symm;have Q:=an.aW (b:=P) (o:=10) C (V Y (bW ws (aP ws [cH cC,Txt.cU,cH cO] s) Txt.dZ Txt.eA));have E7:=hide ((aO L).kept Q z);go_wp21;refine aK (EH R A ws _ _ dA _ h7) ?_;rintro w8 ⟨aw,k8⟩;have h8:RS w8 R A ws (aP ws [cH cC,Txt.cU,cH cO,Txt.dZ,cH dA] s).1 (aP ws [cH cC,Txt.cU,cH cO,Txt.dZ,cH dA] s).2:=aw;have l8:=l7.kept k8 u;have g8:=g7.kept k8 g;have al:=Q.trans k8;have E8:=hide ((aO E7).kept k8 z);go_wp21;refine aK (zh R A ws _ _ w8 h8) ?_;rintro w9 ⟨av,k9⟩;have h9:RS w9 R A ws (aP ws [cH cC,Txt.cU,cH cO,Txt.dZ,cH dA,dM] s).1 (aP ws [cH cC,Txt.cU,cH cO,Txt.dZ,cH dA,dM] s).2:=av;have l9:=l8.kept k9 u;have g9:=g8.kept k9 g;have ak:=al.trans k9;have E9:=hide ((aO E8).kept k9 z);have p9:=l9.c 11 O;have bm:=l9.f;have a7:=h9.other (b:=P) (o:=11) (v:=V Y (bW ws (aP ws [cH cC,Txt.cU,cH cO,Txt.dZ,cH dA] s) dM bD)) u y;have aj:=UX l9 (bW ws (aP ws [cH cC,Txt.cU,cH cO,Txt.dZ,cH dA] s) dM bD);have a8:=g9.other (b:=P) (o:=11) (x:=V Y (bW ws (aP ws [cH cC,Txt.cU,cH cO,Txt.dZ,cH dA] s) dM bD)) D.symm;have E:=ak.aW (b:=P) (o:=11) C (V Y (bW ws (aP ws [cH cC,Txt.cU,cH cO,Txt.dZ,cH dA] s) dM bD));have bc:=hide ((aO L).kept E z);go_wp21;refine (UU R A P ws (oT ws s) _ pc ev acc _ _ _ a7 (aO bc) z u y aj).mono ?_;rintro e a ⟨ti,un,s',rfl,au,a3,i,W⟩;have q:=a8.iX W g D;have T:=lR.one E W C;have ad:=hide au;obtain⟨fr,I⟩:∃ fr,fr=bW ws (aP ws [cH cC] s) Txt.cU dV:=⟨_,rfl⟩;obtain⟨mn,F⟩:∃ mn,mn=bW ws (aP ws [cH cC,Txt.cU,cH cO] s) Txt.dZ Txt.eA:=⟨_,rfl⟩;obtain⟨mi,H⟩:∃ mi,mi=bW ws (aP ws [cH cC,Txt.cU,cH cO,Txt.dZ,cH dA] s) dM bD:=⟨_,rfl⟩;rw[<- I,<- F,<- H] at i;have a9:Hid (lO ws st pc ev acc fr mn mi ti un s'):=by show lO ws st pc ev acc fr mn mi ti un s';rw[I,F,H];exact .mk pc ev acc s ti un s' ac ad
 clear I F H ac ad;have q0:a.cell? (P,0)=U ↑pc:=i.c 0 O;have q1:a.cell? (P,1)=U ↑ev:=i.c 1 O;have q2:a.cell? (P,2)=U (XK (aI acc 0)):=i.c 2 O;have q3:a.cell? (P,3)=U (XK (aI acc 1)):=i.c 3 O;have q4:a.cell? (P,4)=U (XK (aI acc 2)):=i.c 4 O;have q5:a.cell? (P,5)=U (XK (aI acc 3)):=i.c 5 O;have q6:a.cell? (P,6)=U (XK (aI acc 4)):=i.c 6 O;have q7:a.cell? (P,7)=U (XK (aI acc 5)):=i.c 7 O;have q8:a.cell? (P,8)=U (XK (aI acc 6)):=i.c 8 O;have q9:a.cell? (P,9)=U ↑fr:=i.c 9 O;have bj:a.cell? (P,10)=U ↑mn:=i.c 10 O;have bi:a.cell? (P,11)=U ↑mi:=i.c 11 O;have bh:a.cell? (P,12)=U ↑ti:=i.c 12 O;have bg:a.cell? (P,13)=U ↑un:=i.c 13 O;have r0:a.cell? (G,0)=U (V Y 0):=q.c 0 O;have r1:a.cell? (G,1)=U (V Y 0):=q.c 1 O;have r2:a.cell? (G,2)=U ↑Xx:=q.c 2 O;have r3:a.cell? (G,3)=U ↑Xx:=q.c 3 O;have r4:a.cell? (G,4)=U ↑Xx:=q.c 4 O;have r5:a.cell? (G,5)=U ↑Xx:=q.c 5 O;have r6:a.cell? (G,6)=U ↑Xx:=q.c 6 O;have r7:a.cell? (G,7)=U ↑Xx:=q.c 7 O;have r8:a.cell? (G,8)=U ↑Xx:=q.c 8 O;have r9:a.cell? (G,9)=U (V Y 0):=q.c 9 O;have ai:a.cell? (G,10)=U (V Y 0):=q.c 10 O;have ag:a.cell? (G,11)=U (V Y 0):=q.c 11 O;have af:a.cell? (G,12)=U (V Y 0):=q.c 12 O;have ae:a.cell? (G,13)=U (V Y 0):=q.c 13 O;have rf:=q.f;have ba:=hide a3;go_wp2;refine bodyPost_ret (v:=kn pc ev acc fr mn mi ti un) (by simp[results,results92,go_sem,kn,r0,r1,r2,r3,r4,r5,r6,r7,r8,r9,ai,ag,af,ae]) rfl ⟨pc,ev,acc,fr,mn,mi,ti,un,s',rfl,a9,?_,?_⟩
 .exact (((((((((((((((aO ba).other g m).other g m).other g m).other g m).other g m).other g m).other g m).other g m).other g m).other g m).other g m).other g m).other g m).other g m)
 .exact ((((((((((((((T.aW t _).aW t _).aW t _).aW t _).aW t _).aW t _).aW t _).aW t _).aW t _).aW t _).aW t _).aW t _).aW t _).aW t _)
def ix:Xm:=⟨#[116,104,105,110,103]⟩
def iO:Xm:=⟨#[98,111,111,107]⟩
def iF:Xm:=⟨#[104,111,108,100]⟩
def iG:Xm:=⟨#[119,97,105,116]⟩
def eQ:Xm:=⟨#[115,101,114,105,101,115]⟩
def iU:Xm:=⟨#[99,111,110,102,105,114,109]⟩
def iR:Xm:=⟨#[99,97,110,99,101,108]⟩
def dC:Xm:=⟨#[108,105,115,116]⟩
def iT:Xm:=⟨#[119,97,105,116,105,110,103]⟩
def iu:Xm:=⟨#[112,101,97,107]⟩
def ir:Xm:=⟨#[102,105,110,100]⟩
def fA:Xm:=⟨#[101,120,112,97,110,100]⟩
def ja:Xm:=⟨#[116,105,99,107]⟩
def iN:Xm:=⟨#[99,108,111,99,107]⟩
def jQ(s:Xm):Xp:=Txt.isNum s.data.toList
inductive jq (ws:Xn Xm):XA->Xq × Xp->Prop where
 |bH (h:bP ws 0 Xx ix=Xy):jq ws (XN 143 (XM #[XJ (gW ws (1,Xx)),XG XP (bW ws (aP ws [bJ] (1,Xx)) cF bD)])) (aP ws [bJ,cF] (1,Xx))
 |book (h:bP ws 0 Xx iO=Xy):jq ws (XN 148 (XM #[XJ (gW ws (1,Xx)),XG XP (bW ws (aP ws [bJ] (1,Xx)) cF bD),XG XP (bW ws (aP ws [bJ,cF] (1,Xx)) bB cL),XG XP (bW ws (aP ws [bJ,cF,bB] (1,Xx)) bB cL)])) (aP ws [bJ,cF,bB,bB] (1,Xx))
 |hold (h:bP ws 0 Xx iF=Xy):jq ws (XN 150 (XM #[XJ (gW ws (1,Xx)),XG XP (bW ws (aP ws [bJ] (1,Xx)) cF bD),XG XP (bW ws (aP ws [bJ,cF] (1,Xx)) bB cL),XG XP (bW ws (aP ws [bJ,cF,bB] (1,Xx)) bB cL),XG XP (bW ws (aP ws [bJ,cF,bB,bB] (1,Xx)) dM bD)])) (aP ws [bJ,cF,bB,bB,dM] (1,Xx))
 |wait (h:bP ws 0 Xx iG=Xy):jq ws (XN 151 (XM #[XJ (gW ws (1,Xx)),XG XP (bW ws (aP ws [bJ] (1,Xx)) cF bD),XG XP (bW ws (aP ws [bJ,cF] (1,Xx)) bB cL),XG XP (bW ws (aP ws [bJ,cF,bB] (1,Xx)) bB cL),XG XP (bW ws (aP ws [bJ,cF,bB,bB] (1,Xx)) dM bD)])) (aP ws [bJ,cF,bB,bB,dM] (1,Xx))
 |series (h:bP ws 0 Xx eQ=Xy) (pc ev:Xr) (acc:Xn Xr) (fr mn mi ti un:Xr) (s:Xq × Xp) (hr:lO ws (aP ws [bJ,cF] (1,Xx)) pc ev acc fr mn mi ti un s):jq ws (XN 158 (XM #[XJ (gW ws (1,Xx)),XG XP (bW ws (aP ws [bJ] (1,Xx)) cF bD),XG XP pc,XG XP ev,XK (aI acc 0),XK (aI acc 1),XK (aI acc 2),XK (aI acc 3),XK (aI acc 4),XK (aI acc 5),XK (aI acc 6),XG XP fr,XG XP mn,XG XP mi,XG XP ti,XG XP un])) s
 |bL (h:bP ws 0 Xx iU=Xy):jq ws (XN 160 (XM #[XG XP (bW ws (1,Xx) jQ bD)])) (aP ws [jQ] (1,Xx))
 |cancel (h:bP ws 0 Xx iR=Xy):jq ws (XN 161 (XM #[XG XP (bW ws (1,Xx) jQ bD)])) (aP ws [jQ] (1,Xx))
 |list0 (h:bP ws 0 Xx dC=Xy) (hm:dN ws.length (aP ws [bJ] (1,Xx)).1 (aP ws [bJ] (1,Xx)).2=Xx):jq ws (XN 163 (XM #[XJ (gW ws (1,Xx)),XK Xx,XG XP 0,XG XP 0])) (aP ws [bJ] (1,Xx))
 |list1 (h:bP ws 0 Xx dC=Xy) (hm:dN ws.length (aP ws [bJ] (1,Xx)).1 (aP ws [bJ] (1,Xx)).2=Xy):jq ws (XN 163 (XM #[XJ (gW ws (1,Xx)),XK Xy,XG XP (bW ws (aP ws [bJ] (1,Xx)) bB cL),XG XP (bW ws (aP ws [bJ,bB] (1,Xx)) bB cL)])) (aP ws [bJ,bB,bB] (1,Xx))
 |waiting (h:bP ws 0 Xx iT=Xy):jq ws (XN 166 (XM #[])) (1,Xx)
 |ef (h:bP ws 0 Xx iu=Xy):jq ws (XN 169 (XM #[XJ (gW ws (1,Xx)),XG XP (bW ws (aP ws [bJ] (1,Xx)) bB cL),XG XP (bW ws (aP ws [bJ,bB] (1,Xx)) bB cL)])) (aP ws [bJ,bB,bB] (1,Xx))
 |find (h:bP ws 0 Xx ir=Xy):jq ws (XN 171 (XM #[XJ (gW ws (1,Xx)),XG XP (bW ws (aP ws [bJ] (1,Xx)) cF bD),XG XP (bW ws (aP ws [bJ,cF] (1,Xx)) dM bD),XG XP (bW ws (aP ws [bJ,cF,dM] (1,Xx)) bB cL),XG XP (bW ws (aP ws [bJ,cF,dM,bB] (1,Xx)) bB cL)])) (aP ws [bJ,cF,dM,bB,bB] (1,Xx))
 |expand (h:bP ws 0 Xx fA=Xy) (pc ev:Xr) (acc:Xn Xr) (fr mn mi ti un:Xr) (s:Xq × Xp) (hr:lO ws (1,Xx) pc ev acc fr mn mi ti un s):jq ws (XN 173 (XM #[XG XP pc,XG XP ev,XK (aI acc 0),XK (aI acc 1),XK (aI acc 2),XK (aI acc 3),XK (aI acc 4),XK (aI acc 5),XK (aI acc 6),XG XP fr,XG XP mn,XG XP mi,XG XP ti,XG XP un])) s
 |tick (h:bP ws 0 Xx ja=Xy):jq ws (XN 175 (XM #[XG XP (bW ws (1,Xx) dM bD)])) (aP ws [dM] (1,Xx))
 |clock (h:bP ws 0 Xx iN=Xy):jq ws (XN 176 (XM #[])) (1,Xx)
 |none (h0:bP ws 0 Xx ix=Xx) (h1:bP ws 0 Xx iO=Xx) (h2:bP ws 0 Xx iF=Xx) (h3:bP ws 0 Xx iG=Xx) (h4:bP ws 0 Xx eQ=Xx) (h5:bP ws 0 Xx iU=Xx) (h6:bP ws 0 Xx iR=Xx) (h7:bP ws 0 Xx dC=Xx) (h8:bP ws 0 Xx iT=Xx) (h9:bP ws 0 Xx iu=Xx) (h10:bP ws 0 Xx ir=Xx) (h11:bP ws 0 Xx fA=Xx) (h12:bP ws 0 Xx ja=Xx) (h13:bP ws 0 Xx iN=Xx):jq ws .nilIface (0,Xy)
theorem RJ(R A:M)(ws:J Xm)(w:Xz)(h:RS w R A ws 0 Xx)(he:Env w)(c:10<=R)(hP:bP ws 0 Xx eQ=Xy\/bP ws 0 Xx fA=Xy->GM ws):
  XD prog 59 #[R] w fun e w' =>∃ (v:XA) (s:M × Xp),e=XQ v/\jq ws v s/\RS w' R A ws s.1 s.2/\Kept R w w':=by
 have t:=hide he;have b6:=hide hP;clear he hP;have k0:=Kept.refl R w;have h0:=h;clear h;go_in;go_wp21;refine aK (kQ R A ws 0 Xx ix w h0) ?_;rintro w1 ⟨h1,a⟩;have k1:=k0.trans a;clear a k0 h0;rcases Bool.eq_false_or_eq_true (bP ws 0 Xx ix) with aa|aa
 .rw[aa,Xt rfl] at h1;have E1:=hide ((aO t).kept k1 c)
  go_wp21;refine aK (vl R A ws _ _ w1 h1) ?_;rintro cl ⟨bu,a⟩;have bf:=k1.trans a;have ca:=hide ((aO E1).kept a c);clear a k1 h1 E1;go_wp21;refine aK (Bd R A ws _ _ cl bu) ?_;rintro d0 ⟨c8,a⟩;have ct:=bf.trans a;have d9:=hide ((aO ca).kept a c);clear a bf bu ca;have f:=hide ct;have g:=hide c8;go_wp2;go_ret;exact⟨_,(aP ws [bJ,cF] (1,Xx)),rfl,.bH aa,g,f⟩
 rw[aa] at h1 ⊢;go_wp21;refine aK (kQ R A ws 0 Xx iO w1 h1) ?_;rintro w2 ⟨h2,a⟩;have k2:=k1.trans a;clear a k1 h1;rcases Bool.eq_false_or_eq_true (bP ws 0 Xx iO) with X|X
 .rw[X,Xt rfl] at h2;have E2:=hide ((aO t).kept k2 c)
  go_wp21;refine aK (FC R A ws (1,Xx) w2 h2 (aO E2) c) ?_;rintro dz ⟨cz,a⟩;have cs:=k2.trans a;have d8:=hide ((aO E2).kept a c);clear a k2 h2 E2;have f:=hide cs;have g:=hide cz;go_wp2;go_ret;exact⟨_,(aP ws [bJ,cF,bB,bB] (1,Xx)),rfl,.book X,g,f⟩
 rw[X] at h2 ⊢;go_wp21;refine aK (kQ R A ws 0 Xx iF w2 h2) ?_;rintro w3 ⟨h3,a⟩;have k3:=k2.trans a;clear a k2 h2;rcases Bool.eq_false_or_eq_true (bP ws 0 Xx iF) with W|W
 .rw[W,Xt rfl] at h3;have E3:=hide ((aO t).kept k3 c)
  go_wp21;refine aK (FC R A ws (1,Xx) w3 h3 (aO E3) c) ?_;rintro ck ⟨bs,a⟩;have bc:=k3.trans a;have b9:=hide ((aO E3).kept a c);clear a k3 h3 E3;go_wp21;refine aK (zh R A ws _ _ ck bs) ?_;rintro dy ⟨cy,a⟩;have cr:=bc.trans a;have d7:=hide ((aO b9).kept a c);clear a bc bs b9;have f:=hide cr;have g:=hide cy;go_wp2;go_ret;exact⟨_,(aP ws [bJ,cF,bB,bB,dM] (1,Xx)),rfl,.hold W,g,f⟩
 rw[W] at h3 ⊢;go_wp21;refine aK (kQ R A ws 0 Xx iG w3 h3) ?_;rintro w4 ⟨h4,a⟩;have k4:=k3.trans a;clear a k3 h3;rcases Bool.eq_false_or_eq_true (bP ws 0 Xx iG) with T|T
 .rw[T,Xt rfl] at h4;have E4:=hide ((aO t).kept k4 c)
  go_wp21;refine aK (FC R A ws (1,Xx) w4 h4 (aO E4) c) ?_;rintro cj ⟨bq,a⟩;have ba:=k4.trans a;have b8:=hide ((aO E4).kept a c);clear a k4 h4 E4;go_wp21;refine aK (zh R A ws _ _ cj bq) ?_;rintro dw ⟨cx,a⟩;have cq:=ba.trans a;have d6:=hide ((aO b8).kept a c);clear a ba bq b8;have f:=hide cq;have g:=hide cx;go_wp2;go_ret;exact⟨_,(aP ws [bJ,cF,bB,bB,dM] (1,Xx)),rfl,.wait T,g,f⟩
 rw[T] at h4 ⊢;go_wp21;refine aK (kQ R A ws 0 Xx eQ w4 h4) ?_;rintro w5 ⟨h5,a⟩;have k5:=k4.trans a;clear a k4 h4;rcases Bool.eq_false_or_eq_true (bP ws 0 Xx eQ) with x|x
 .rw[x,Xt rfl] at h5;have E5:=hide ((aO t).kept k5 c)
  go_wp21;refine aK (vl R A ws _ _ w5 h5) ?_;rintro ch ⟨bn,a⟩;have a9:=k5.trans a;have b7:=hide ((aO E5).kept a c);clear a k5 h5 E5;go_wp21;refine aK (Bd R A ws _ _ ch bn) ?_;rintro cg ⟨bm,a⟩;have a8:=a9.trans a;have ar:=hide ((aO b7).kept a c);clear a a9 bn b7;go_wp21;refine (aO b6 (.inl x) R A (aP ws [bJ,cF] (1,Xx)) cg bm (aO ar) c).mono ?_;rintro e dv ⟨pc,ev,acc,fr,mn,mi,ti,un,s,rfl,hr,cw,a⟩;have HR:=hide hr;clear hr;simp only[kn];have cp:=a8.trans a;have d5:=hide ((aO ar).kept a c);clear a a8 bm ar;have f:=hide cp;have g:=hide cw;go_wp2;go_ret;exact⟨_,s,rfl,.series x pc ev acc fr mn mi ti un s HR,g,f⟩
 rw[x] at h5 ⊢;go_wp21;refine aK (kQ R A ws 0 Xx iU w5 h5) ?_;rintro w6 ⟨h6,a⟩;have k6:=k5.trans a;clear a k5 h5;rcases Bool.eq_false_or_eq_true (bP ws 0 Xx iU) with S|S
 .rw[S,Xt rfl] at h6;have E6:=hide ((aO t).kept k6 c)
  go_wp21;refine aK (JQ R A ws _ _ w6 h6) ?_;rintro du ⟨cv,a⟩;have cn:=k6.trans a;have d4:=hide ((aO E6).kept a c);clear a k6 h6 E6;have f:=hide cn;have g:=hide cv;go_wp2;go_ret;exact⟨_,(aP ws [jQ] (1,Xx)),rfl,.bL S,g,f⟩
 rw[S] at h6 ⊢;go_wp21;refine aK (kQ R A ws 0 Xx iR w6 h6) ?_;rintro w7 ⟨h7,a⟩;have k7:=k6.trans a;clear a k6 h6;rcases Bool.eq_false_or_eq_true (bP ws 0 Xx iR) with Q|Q
 .rw[Q,Xt rfl] at h7;have E7:=hide ((aO t).kept k7 c)
  go_wp21;refine aK (JQ R A ws _ _ w7 h7) ?_;rintro dr ⟨cu,a⟩;have cm:=k7.trans a;have d2:=hide ((aO E7).kept a c);clear a k7 h7 E7;have f:=hide cm;have g:=hide cu;go_wp2;go_ret;exact⟨_,(aP ws [jQ] (1,Xx)),rfl,.cancel Q,g,f⟩
 rw[Q] at h7 ⊢;go_wp21;refine aK (kQ R A ws 0 Xx dC w7 h7) ?_;rintro w8 ⟨h8,a⟩;have k8:=k7.trans a;clear a k7 h7;rcases Bool.eq_false_or_eq_true (bP ws 0 Xx dC) with u|u
 .rw[u,Xt rfl] at h8;have E8:=hide ((aO t).kept k8 c)
  cases hm:dN ws.length (aP ws [bJ] (1,Xx)).1 (aP ws [bJ] (1,Xx)).2
  .go_wp21
   refine aK (Wx R A ws (1,Xx) w8 h8 hm) ?_;rintro wz ⟨hz,kz⟩;have f:=hide (k8.trans kz);have g:=hide hz;have HM:=hide hm;clear hz kz hm k8 h8;go_wp2;go_ret;exact⟨_,(aP ws [bJ] (1,Xx)),rfl,.list0 u HM,g,f⟩
  .go_wp21
   refine aK (b7W R A ws (1,Xx) w8 h8 (aO E8) c hm) ?_;rintro wz ⟨hz,kz⟩;have f:=hide (k8.trans kz);have g:=hide hz;have HM:=hide hm;clear hz kz hm k8 h8;go_wp2;go_ret;exact⟨_,(aP ws [bJ,bB,bB] (1,Xx)),rfl,.list1 u HM,g,f⟩
 rw[u] at h8 ⊢;go_wp21;refine aK (kQ R A ws 0 Xx iT w8 h8) ?_;rintro w9 ⟨h9,a⟩;have k9:=k8.trans a;clear a k8 h8;rcases Bool.eq_false_or_eq_true (bP ws 0 Xx iT) with L|L
 .rw[L,Xt rfl] at h9;have E9:=hide ((aO t).kept k9 c);have f:=hide k9;have g:=hide h9;go_wp2;go_ret;exact⟨_,(1,Xx),rfl,.waiting L,g,f⟩
 rw[L] at h9 ⊢;go_wp21;refine aK (kQ R A ws 0 Xx iu w9 h9) ?_;rintro a7 ⟨E,a⟩;have I:=k9.trans a;clear a k9 h9;rcases Bool.eq_false_or_eq_true (bP ws 0 Xx iu) with K|K
 .rw[K,Xt rfl] at E;have cf:=hide ((aO t).kept I c)
  go_wp21;refine aK (vl R A ws _ _ a7 E) ?_;rintro a4 ⟨al,a⟩;have ag:=I.trans a;have ac:=hide ((aO cf).kept a c);clear a I E cf;go_wp21;refine aK (Bb R A ws _ _ a4 al (aO ac) c) ?_;rintro di ⟨b5,a⟩;have bj:=ag.trans a;have dq:=hide ((aO ac).kept a c);clear a ag al ac;have f:=hide bj;have g:=hide b5;go_wp2;go_ret;exact⟨_,(aP ws [bJ,bB,bB] (1,Xx)),rfl,.ef K,g,f⟩
 rw[K] at E ⊢;go_wp21;refine aK (kQ R A ws 0 Xx ir a7 E) ?_;rintro a3 ⟨D,a⟩;have H:=I.trans a;clear a I E;rcases Bool.eq_false_or_eq_true (bP ws 0 Xx ir) with q|q
 .rw[q,Xt rfl] at D;have cd:=hide ((aO t).kept H c)
  go_wp21;refine aK (vl R A ws _ _ a3 D) ?_;rintro az ⟨ak,a⟩;have af:=H.trans a;have ao:=hide ((aO cd).kept a c);clear a H D cd;go_wp21;refine aK (Bd R A ws _ _ az ak) ?_;rintro ay ⟨aj,a⟩;have ae:=af.trans a;have an:=hide ((aO ao).kept a c);clear a af ak ao;go_wp21;refine aK (zh R A ws _ _ ay aj) ?_;rintro ax ⟨ai,a⟩;have ad:=ae.trans a;have ab:=hide ((aO an).kept a c);clear a ae aj an;go_wp21;refine aK (Bb R A ws _ _ ax ai (aO ab) c) ?_;rintro dh ⟨b4,a⟩;have bi:=ad.trans a;have dp:=hide ((aO ab).kept a c);clear a ad ai ab;have f:=hide bi;have g:=hide b4;go_wp2;go_ret;exact⟨_,(aP ws [bJ,cF,dM,bB,bB] (1,Xx)),rfl,.find q,g,f⟩
 rw[q] at D ⊢;go_wp21;refine aK (kQ R A ws 0 Xx fA a3 D) ?_;rintro aw ⟨C,a⟩;have G:=H.trans a;clear a H D;rcases Bool.eq_false_or_eq_true (bP ws 0 Xx fA) with i|i
 .rw[i,Xt rfl] at C;have au:=hide ((aO t).kept G c)
  go_wp21;refine (aO b6 (.inr i) R A (1,Xx) aw C (aO au) c).mono ?_;rintro e db ⟨pc,ev,acc,fr,mn,mi,ti,un,s,rfl,hr,bz,a⟩;have HR:=hide hr;clear hr;simp only[kn];have bh:=G.trans a;have dn:=hide ((aO au).kept a c);clear a G C au;have f:=hide bh;have g:=hide bz;go_wp2;go_ret;exact⟨_,s,rfl,.expand i pc ev acc fr mn mi ti un s HR,g,f⟩
 rw[i] at C ⊢;go_wp21;refine aK (kQ R A ws 0 Xx ja aw C) ?_;rintro av ⟨z,a⟩;have F:=G.trans a;clear a G C;rcases Bool.eq_false_or_eq_true (bP ws 0 Xx ja) with m|m
 .rw[m,Xt rfl] at z;have cc:=hide ((aO t).kept F c)
  go_wp21;refine aK (zh R A ws _ _ av z) ?_;rintro c9 ⟨bv,a⟩;have bg:=F.trans a;have dm:=hide ((aO cc).kept a c);clear a F z cc;have f:=hide bg;have g:=hide bv;go_wp2;go_ret;exact⟨_,(aP ws [dM] (1,Xx)),rfl,.tick m,g,f⟩
 rw[m] at z ⊢;go_wp21;refine aK (kQ R A ws 0 Xx iN av z) ?_;rintro d1 ⟨y,a⟩;have aq:=F.trans a;clear a F z;rcases Bool.eq_false_or_eq_true (bP ws 0 Xx iN) with j|j
 .rw[j,Xt rfl] at y;have fa:=hide ((aO t).kept aq c);have f:=hide aq;have g:=hide y;go_wp2;go_ret;exact⟨_,(1,Xx),rfl,.clock j,g,f⟩
 rw[j] at y ⊢;have c2:=y.c2;have f2:=y.f2;go_wp2;go_ret;exact⟨_,(0,Xy),rfl,.none aa X W T x S Q u L K q i m j,y.bad,aq.setCell _ _⟩
theorem xZ(s:Xm):∀ x∈Txt.aC s,x.size<=s.size:=by intro x a;unfold Txt.aC at a;simp only[List.mem_map] at a;obtain⟨y,_,rfl⟩:=a;have:(s.extract y.1 y.2).size=min y.2 s.size-y.1:=ByteArray.size_extract ..;omega
inductive pN (s:Xm):Ending->Prop where
 |long (h:160<s.size):pN s (XQ (XL #[.nilIface,XG XP 1,XG XP 0]))
 |bad (h:s.size<=160) (v:XA) (st:Xq × Xp) (hl:jq (Txt.aC s) v st) (hb:st.2=Xy\/dN (Txt.aC s).length st.1 st.2=Xy):pN s (XQ (XL #[.nilIface,XG XP 2,XG XP st.1]))
 |sd (h:s.size<=160) (v:XA) (st:Xq × Xp) (hl:jq (Txt.aC s) v st) (h2:st.2=Xx) (hb:dN (Txt.aC s).length st.1 st.2=Xx):pN s (XQ (XL #[v,XG XP 0,XG XP 0]))
theorem JX(s:Xm):∀ k:M,k<=s.size->(Txt.oy s k).length+(if (Txt.jv s k).size=0 then 0 else 1)<=k
 |0,_=>by have:=Txt.xY s 0;have:=Txt.J1 s 0;rw[Xt O];omega
 |k+1,hk=>by
  have ih:=JX s k O;by_cases c:Txt.fK s k=32
  .let⟨h1,h2⟩:=Txt.Lk s k O c;have e:(if (⟨#[]⟩:Xm).size=0 then (0:M) else 1)=0:=Xt rfl;rw[h1,h2,e,Yx]
   by_cases a:(Txt.jv s k).size=0
   .rw[Xt a] at ih ⊢;simp;omega
   .rw[Xs a] at ih ⊢;simp;omega
  .let⟨_,h2⟩:=Txt.J0 s k c;rw[h2]
   split at ih <;> split <;> omega
theorem J7(s:Xm):(Txt.aC s).length<=s.size:=by have:=JX s s.size aJ;rw[Txt.Ek,Yx];split <;> rename_i hc <;> simp[hc] at this ⊢ <;> omega
theorem Wu{f g cap:M}{a:J Xm}(h:w.ownsRow f 9 1 (XI g n cap) n (a.map XJ)):g<w/\∀ (i:M)(x:i<a.length),w.cell? (g,i)=U (XJ a[i]):=by
 rcases h.2 with ⟨C,_⟩|⟨H,y,q,z,E,m,F,_,D,ht⟩
 .cases C
 .cases z
  have j:g<w:=by
   by_cases j:g<w
   .exact j
   .rw[Array.getElem?_eq_none O] at m;cases m
  refine⟨j,fun i x=>?_⟩;have G:=h.1;have u:(a.map XJ).length=a.length:=Xc;have c:q[i]?=U (XJ a[i]):=by
   have t:(a.map XJ)[i]?=U (XJ a[i]):=by simp[x]
   rw[<- ht,List.getElem?_take,Xt O] at t;simpa using t
  simp[Yh,m,c]
theorem Ro(s:Xm)(w:Xz)(K:Env w)(Q:bP (Txt.aC s) 0 Xx eQ=Xy\/bP (Txt.aC s) 0 Xx fA=Xy->GM (Txt.aC s)):XD prog 35 #[s] w fun e w'=>pN s e/\XC w w w':=by
 have HE:=hide K;have ab:=K.size;clear K;by_cases C:s.size<=160
 .have H:(s.size:N)<=160:=O
  go_in;go_wp21;refine (Wb s w C).mono ?_;rintro e t ⟨A,rfl,hA,ho,L⟩;obtain⟨aa,j⟩:=Wu ho;have G:=J7 s;have y:=xZ s;obtain⟨ws,c⟩:∃ ws,ws=Txt.aC s:=⟨_,rfl⟩;have z:=hide c;rw[<- c] at j G y Q ⊢;have W:=hide Q;clear c ho Q;have E:=hide j;have T:=hide y;clear j y;go_wp21;obtain⟨X,F⟩:∃ X,X=t.alloc (XR #[XI A ws.length ws.length,V Y 0,Xx] 121):=⟨_,rfl⟩;rw[<- F];have m:XC t t X:=by rw[F];exact aS
  have D:RS X t A ws 0 Xx:=by refine⟨?_,?_,?_,?_,?_,O,fun i hi=>cell_later m (aO E i hi),O,YJ _,fun x hx=>XU (aO T x hx) C⟩ <;> (rw[F];simp)
  clear F;have eX:=((aO HE).later L).later m;have u:=L.size;refine (RJ t A ws X D eX O (aO W)).mono ?_;rintro e w2 ⟨v,st,rfl,hl,q,k2⟩;have S:=q.c1;have c2:=q.c2;have HL:=hide hl;have a:=(L.trans (m.mono u)).trans (k2.below u (XU u m.size));have I:=q.xT;clear hl eX D m;obtain⟨nx,wr⟩:=st;dsimp only at S c2 q I;have f:dN ws.length nx wr=Xx\/dN ws.length nx wr=Xy:=by cases dN ws.length nx wr <;> simp
  cases wr
  .rcases f with f|f
   .have HM:=hide f
    go_wp21;refine aK (kf t A ws nx Xx w2 q) ?_;rintro w3 ⟨n,h⟩;have g:XC w w w3:=by rw[h];exact⟨a.os,a.tape,a.output,a.size,a.block⟩
    clear h q;rw[f];go_wp2;go_ret3;have c:=z.out;subst c;exact⟨.sd C v (nx,Xx) HL rfl HM,g⟩
   .have HM:=hide f
    go_wp21;refine aK (kf t A ws nx Xx w2 q) ?_;rintro w3 ⟨n,h⟩;have g:XC w w w3:=by rw[h];exact⟨a.os,a.tape,a.output,a.size,a.block⟩
    have d1:w3.cell? (t,1)=U (V Y nx):=by rw[h];exact S
    clear h q S c2;rw[f];go_wp2;go_quiet (fail);go_wp2;go_ret3;have c:=z.out;subst c;exact⟨.bad C v (nx,Xx) HL (.inr HM),⟨g.os,g.tape,g.output,g.size,g.block⟩⟩
  .clear q f;go_wp2
   go_quiet (fail);go_wp2;go_ret3;have c:=z.out;subst c;exact⟨.bad C v (nx,Xy) HL (.inl rfl),⟨a.os,a.tape,a.output,a.size,a.block⟩⟩
 .have H:¬ (s.size:N)<=160:=O
  go_in;go_wp2;go_ret3;exact⟨.long O,Below.refl _ _⟩
theorem Kb(s:Xm)(w:Xz)(a:Env w):XD prog 35 #[s] w fun e w'=>pN s e/\XC w w w':=Ro s w a (fun _ R A st w h a c=>b2P R A _ st w h a c)
open aA (aQ St eD kept fc ek ec jw dB dI jC eS jr cA Inv)
theorem Env.qM(h:Env w)(g:XC 10 w wx):Env wx:=by obtain⟨m,j⟩:=h.vP;have c:∀ {b:M}{o:M}{v:XA},b<10->w.cell? ⟨b,o,Z⟩=U v->wx.cell? ⟨b,o,Z⟩=U v:=fun f i=>(g.cell (p:=⟨_,_,Z⟩) f).trans i;have ht:=h.jO;let⟨a0,a1,a2,a3,a4,a5,a6,a7,a8,a9,a10,a11⟩:=ht;refine⟨⟨c Xd a0,c Xd a1,c Xd a2,c Xd a3,c Xd a4,c Xd a5,c Xd a6,c Xd a7,c Xd a8,c Xd a9,c Xd a10,c Xd a11⟩,⟨m,c Xd j⟩,?_,XU h.size g.size,c Xd h.mo,c Xd h.tu,c Xd h.we,c Xd h.th,c Xd h.fr,c Xd h.sa,c Xd h.su⟩;have a:=h.pow;unfold Lib.TabIs World.var? at a ⊢;simp only[xS,Option.bind_some] at a ⊢;rw[g.block 1 Xd];exact a
theorem Step.qM{S:bO->Prop}{B:M}{a:M->Xo bO}(h:Step S B aM a w w')(q:10<=B)(m:10<=w.heap.size)(i:∀ b,b<10->aM b=Z):XC 10 w w'/\∀ b,b<10->a b=Z:=by
 let⟨G,h1,h2⟩:=h.off;refine⟨⟨h1.os,h1.tape,h1.output,h1.size,fun b f=>h1.block b O (fun j=>?_)⟩,fun b f=>?_⟩
 .rcases h2 b j with ⟨c,e,_⟩|⟨_,e⟩
  .rw[i b f] at e;cases e
  .omega
 .cases e:a b with
  |none=>rfl
  |some c =>
   rcases h.new b c e with g|g
   .rw[i b f] at g;cases g
   .omega
structure BD(w:Xz)(p d:M)(s:St)(r:Raw)(aM:M->Xo bO):Prop where
 pc:w.heap[p]?=U (XR #[d] 67 (0,0))
 pn:aM p=Z
 ds:eH w d s r aM
 env:Env w
 gl:∀ b,b<10->aM b=Z
def oA(w:Xz)(p d:M)(aM:M->Xo bO)(q:St × aA.bS)(v:XA)(w':Xz):Prop :=∃ (c:Raw) (a:M->Xo bO),BD w' p d q.1 c a/\Step anyS w aM a w w'/\mV w' w a v q.2
def zK(t:Xm):Prop:=∀ X,Env X->XD prog 35 #[t] X fun e w'=>pN t e/\XC X X w'
theorem QU{s:St}(h:BD w p d s r aM)(t:Xm)(a:XA)(l:aA.jb)(Q:zK t)(hr:∀ e,pN t e->e=XQ (XL #[a,V Y 0,V Y 0]))(u:aA.eS (aA.aX s l).1)(x:aA.Inv (aA.jE s l).1)(y:(aA.aX s l).2.granted.length<=50000)
  (g:∀ X,hI X->10<=X.heap.size->eH X d s r aM->XD prog 62 #[d,a] X fun e w'=>∃ v,e=XQ v/\eu X d aM (aA.aX s l) v w'):
  XD prog 24 #[p,t] w fun e w'=>∃ v,e=XQ v/\oA w p d aM (aA.jE s l) v w':=by
 have L:XC w w (w.alloc bI):=aS;have hq:=dH w bI;have hs:w<(w.alloc bI).heap.size:=Xc;have RD:=aB (Q (w.alloc bI) (h.env.later L));have j:=aB (Yc L (Yc (Q7.of hq) (Yc (h.ds.dk.none aJ) hs)));have HH:=aB h;have HR:=aB hr;have HD:Hid (∀ c,XC w w c->XD prog 37 #[d,a] c fun e w'=>∃ v,e=XQ v/\eu c d aM (aA.jE s l) v w'):=fun c k=>Tu ⟨h.ds.dk.later k,h.ds.of,h.ds.wl,h.ds.hl,h.ds.inv⟩ a l u y (fun X kX K=>g X (((h.env.later k).later kX).jO) (XU (XU h.env.size k.size) kX.size) K);have HI:=aB x;have f:=(Array.getElem?_eq_some_iff.1 h.pc).1;clear h hr g L hq hs y u x;generalize aA.jE s l=q at *;go_in;go_upto_region 1 with fail;change Code.wp _ _ _ _ (w.alloc bI);generalize w.alloc bI=X at *;go_upto_region 2 with (first
  |(go_at_call 35;refine RD.mono ?_;rintro e c ⟨m,D⟩;obtain rfl:=HR _ m))
 have BW:=j.1.trans (D.mono j.1.size);have pc:c.cell? (p,0)=U ↑d:=by have:=(BW.block p f).trans HH.pc;simp[Yh,this]
 have DD:=aB (HD c BW);have QX:Hid (Q7 c w.heap.size/\w<c.heap.size):=⟨j.2.1.later (D.block _ j.2.2.2),Nat.lt_of_lt_of_le j.2.2.2 D.size⟩;clear HD RD HR D m;go_wp21;refine DD.mono ?_;rintro e w2 ⟨v,rfl,ap⟩;obtain⟨S,at_,E,a1,a2,a3,a4,I,H,G,F,c1,c2,W,T,rfl,q7,hf⟩:=ap.up BW aJ QX.2 j.2.2.1 QX.1;have HF:Hid (oA w p d aM q (bT S at_ E (XI a1 I c1) (XI a2 H c2) (XI a3 G W) (XI a4 F T)) (dE w2 w (V Y S) (V Y at_) (V Y E) (XI a1 I c1) (XI a2 H c2) (XI a3 G W) (XI a4 F T))):=by obtain⟨r',z,k1,k2,k3,k4,C,k6⟩:=hf (V Y S) (V Y at_) (V Y E) (XI a1 I c1) (XI a2 H c2) (XI a3 G W) (XI a4 F T);have i:=HH.out;obtain⟨t1,t2⟩:=C.qM i.env.size i.env.size i.gl;exact⟨r',z,⟨(C.cS f i.pn f).trans i.pc,C.dY i.pn f,⟨k1,k2,k3,k4,HI⟩,i.env.qM t1,t2⟩,C,k6⟩
 clear ap hf DD pc;obtain⟨q0,q1,q2,q3,q4,q5,q6,fq⟩:=q7;simp only[bT];go_wp21;exact cV results24 ⟨q0,q1,q2,q3,q4,q5,q6,fq⟩ ⟨_,rfl,HF⟩
theorem Qu{s:St}(h:BD w p d s r aM)(t:Xm)(q at_:N)(F:zK t)(L:q≠0)(I:∀ e,pN t e->e=XQ (XL #[.nilIface,q,at_])):XD prog 24 #[p,t] w fun e w'=>∃ v,e=XQ v/\oA w p d aM (s,⟨q,at_,0,[],[],[],[]⟩) v w':=by
 have E:XC w w (w.alloc bI):=aS;have K:=dH w bI;have H:w<(w.alloc bI).heap.size:=Xc;have RD:=aB (F (w.alloc bI) (h.env.later E));have C:=aB (Yc E (Yc (Q7.of K) (Yc (h.ds.dk.none aJ) H)));have HH:=aB h;have Q:=aB I;have z:p<w:=(Array.getElem?_eq_some_iff.1 h.pc).1;have T:(q != 0)=Xy:=by simpa using L
 clear h I E K H L;go_in;go_upto_region 1 with fail;change Code.wp _ _ _ _ (w.alloc bI);generalize w.alloc bI=X at *;go_upto_region 2 with (first
  |(go_at_call 35;refine RD.mono ?_;rintro e u ⟨y,m⟩;obtain rfl:=Q _ y))
 have S:Hid (XC w w u):=C.1.trans (m.mono C.1.size);have W:Hid (Q7 u w):=C.2.1.later (m.block _ C.2.2.2);have HF:Hid (∀ a b c e f g i,oA w p d aM (s,⟨q,at_,0,[],[],[],[]⟩) (bT q at_ 0 () () () ()) (dE u w a b c e f g i)):=fun a b c e f g i=>by have j:=HH.out;have G:=mY u w a b c e f g i;have nq:=j.ds.dk.none (zq w);have st:Step anyS w aM aM w (dE u w a b c e f g i):=(Step.below S).trans ⟨⟨_,G,fun x D=>.inr (by have:x=w:=List.mem_singleton.1 D;subst this;exact⟨nq,XS _⟩)⟩,fun _ _ h=>h,fun _ _ h=>.inl h⟩;let⟨t1,t2⟩:=st.qM j.env.size j.env.size j.gl;exact⟨r,aM,⟨(st.cS z j.pn z).trans j.pc,j.pn,⟨(j.ds.dk.later S).off G (fun x D=>by have:x=w:=List.mem_singleton.1 D;subst this;exact nq),j.ds.of,j.ds.wl,j.ds.hl,j.ds.inv⟩,j.env.qM t1,t2⟩,st,⟨_,_,_,_,[],rfl,rfl,iw.nil _ _ _,eO.nil _ _ _,eO.nil _ _ _,eO.nil _ _ _,(fun b m=>by cases m),fun b m=>by cases m⟩⟩
 clear RD Q m y C;let⟨q0,q1,q2,q3,q4,q5,q6,fq⟩:=W;go_wp21;exact cV results24 ⟨q0,q1,q2,q3,q4,q5,q6,fq⟩ ⟨_,rfl,HF _ _ _ _ _ _ _⟩
theorem oi{T:XF}{fs:Array Field}(c:prog.underlying T=U (.struct fs))(a:XF)(v:XA)(w:Xz):(Instr.typeAssert (XN T v) a T Xy).run prog w=.ok (XL #[v,Xy]) w:=by simp[Instr.typeAssert,go_sem,Result.andThen,run_underlying c]
theorem eH.pt{s:aA.St}(h:eH w d s r aM)(o:Obj):eH ((w.alloc bI).alloc o) d s r aM/\XC w w ((w.alloc bI).alloc o)/\Q7 ((w.alloc bI).alloc o) w.heap.size/\aM w=Z/\w<((w.alloc bI).alloc o).heap.size:=by have a:XC w w ((w.alloc bI).alloc o):=aS.alloc Xc _;exact⟨⟨h.dk.later a,h.of,h.wl,h.hl,h.inv⟩,a,Q7.of ((Below.heap_alloc _ _ _ Xc).trans (dH w bI)),h.dk.none aJ,by simp;omega⟩
theorem eu.po{X D:Xz}{q:aA.St × aA.bS}{v:XA}(h:eu X d aM q v D)(k:XC w w X/\Q7 X w.heap.size/\aM w=Z/\w<X.heap.size):∃ (i at_ n:N) (C z y x:Xo Addr) (g f c a u t m j:M),v=bT i at_ n (XI C g u) (XI z f t) (XI y c m) (XI x a j)/\Q7 D w.heap.size/\eu w d aM q v (dE D w i at_ n (XI C g u) (XI z f t) (XI y c m) (XI x a j)):=by
 let⟨i,at_,n,C,z,y,x,g,f,c,a,u,t,m,j,e,q7,hf⟩:=h.up k.1 aJ k.2.2.2 k.2.2.1 k.2.1;exact⟨i,at_,n,C,z,y,x,g,f,c,a,u,t,m,j,e,q7,hf _ _ _ _ _ _ _⟩
theorem oS(t:XF)(h:t≠143)(a:XF)(v:XA)(w:Xz):(Instr.typeAssert (XN t v) a 143 Xy).run prog w=.ok (XL #[XM #[XJ ⟨#[]⟩,V Y 0],Xx]) w:=by simp[Instr.typeAssert,go_sem,Result.andThen,run_underlying underlying143,h]
theorem pF(t:XF)(h:t≠148)(a:XF)(v:XA)(w:Xz):(Instr.typeAssert (XN t v) a 148 Xy).run prog w=.ok (XL #[XM #[XJ ⟨#[]⟩,V Y 0,V Y 0,V Y 0],Xx]) w:=by simp[Instr.typeAssert,go_sem,Result.andThen,run_underlying underlying148,h]
theorem qs(t:XF)(h:t≠150)(a:XF)(v:XA)(w:Xz):(Instr.typeAssert (XN t v) a 150 Xy).run prog w=.ok (XL #[XM #[XJ ⟨#[]⟩,V Y 0,V Y 0,V Y 0,V Y 0],Xx]) w:=by simp[Instr.typeAssert,go_sem,Result.andThen,run_underlying underlying150,h]
theorem qU(t:XF)(h:t≠151)(a:XF)(v:XA)(w:Xz):(Instr.typeAssert (XN t v) a 151 Xy).run prog w=.ok (XL #[XM #[XJ ⟨#[]⟩,V Y 0,V Y 0,V Y 0,V Y 0],Xx]) w:=by simp[Instr.typeAssert,go_sem,Result.andThen,run_underlying underlying151,h]
theorem sq(t:XF)(h:t≠158)(a:XF)(v:XA)(w:Xz):(Instr.typeAssert (XN t v) a 158 Xy).run prog w=.ok (XL #[XM #[XJ ⟨#[]⟩,V Y 0,V Y 0,V Y 0,Xx,Xx,Xx,Xx,Xx,Xx,Xx,V Y 0,V Y 0,V Y 0,V Y 0,V Y 0],Xx]) w:=by simp[Instr.typeAssert,go_sem,Result.andThen,run_underlying underlying158,h]
theorem te(t:XF)(h:t≠160)(a:XF)(v:XA)(w:Xz):(Instr.typeAssert (XN t v) a 160 Xy).run prog w=.ok (XL #[XM #[V Y 0],Xx]) w:=by simp[Instr.typeAssert,go_sem,Result.andThen,run_underlying underlying160,h]
theorem uC(t:XF)(h:t≠161)(a:XF)(v:XA)(w:Xz):(Instr.typeAssert (XN t v) a 161 Xy).run prog w=.ok (XL #[XM #[V Y 0],Xx]) w:=by simp[Instr.typeAssert,go_sem,Result.andThen,run_underlying underlying161,h]
theorem vJ(t:XF)(h:t≠163)(a:XF)(v:XA)(w:Xz):(Instr.typeAssert (XN t v) a 163 Xy).run prog w=.ok (XL #[XM #[XJ ⟨#[]⟩,Xx,V Y 0,V Y 0],Xx]) w:=by simp[Instr.typeAssert,go_sem,Result.andThen,run_underlying underlying163,h]
theorem xR(t:XF)(h:t≠166)(a:XF)(v:XA)(w:Xz):(Instr.typeAssert (XN t v) a 166 Xy).run prog w=.ok (XL #[XM #[],Xx]) w:=by simp[Instr.typeAssert,go_sem,Result.andThen,run_underlying underlying166,h]
theorem zX(t:XF)(h:t≠169)(a:XF)(v:XA)(w:Xz):(Instr.typeAssert (XN t v) a 169 Xy).run prog w=.ok (XL #[XM #[XJ ⟨#[]⟩,V Y 0,V Y 0],Xx]) w:=by simp[Instr.typeAssert,go_sem,Result.andThen,run_underlying underlying169,h]
theorem Cu(t:XF)(h:t≠171)(a:XF)(v:XA)(w:Xz):(Instr.typeAssert (XN t v) a 171 Xy).run prog w=.ok (XL #[XM #[XJ ⟨#[]⟩,V Y 0,V Y 0,V Y 0,V Y 0],Xx]) w:=by simp[Instr.typeAssert,go_sem,Result.andThen,run_underlying underlying171,h]
theorem IR(t:XF)(h:t≠173)(a:XF)(v:XA)(w:Xz):(Instr.typeAssert (XN t v) a 173 Xy).run prog w=.ok (XL #[XM #[V Y 0,V Y 0,Xx,Xx,Xx,Xx,Xx,Xx,Xx,V Y 0,V Y 0,V Y 0,V Y 0,V Y 0],Xx]) w:=by simp[Instr.typeAssert,go_sem,Result.andThen,run_underlying underlying173,h]
theorem Rr(t:XF)(h:t≠175)(a:XF)(v:XA)(w:Xz):(Instr.typeAssert (XN t v) a 175 Xy).run prog w=.ok (XL #[XM #[V Y 0],Xx]) w:=by simp[Instr.typeAssert,go_sem,Result.andThen,run_underlying underlying175,h]
theorem b8L{s:St}(h:eH w d s r aM)(id:N)(ae:0<=id/\id<=9999999):XD prog 105 #[d,XM #[id]] w fun e w'=>∃ v,e=XQ v/\eu w d aM (aA.aX s (.cancel id)) v w':=by
 obtain⟨hX,ab,aa,_⟩:=qS w (XR #[id] 161);have xi:=bN aa 0 rfl;have i:=aB h;have K:=aB (Yc hX ab);clear h hX ab aa;go_in;go_upto_region 1 with fail;change Code.wp _ _ _ _ ((w.alloc (XR #[id] 161)).alloc bI);generalize (w.alloc (XR #[id] 161)).alloc bI=X at K xi ⊢;have t:=i.dk.later K.1;obtain⟨m,f,a1,a2,a3,a4⟩:=t.me;have kk:=yp (n:=id) O O;have a:=(a3.block (w':=X.drew) rfl).look yg underlying87 (Jv X.drew) kk;rw[a4 id] at a;have QX:Hid (Q7 X.drew (w.heap.size+1)):=Q7.of K.2;have BX:Hid (XC w w X.drew):=K.1.drew
 cases H:jc r.eg id with
 |none =>
  rw[H] at a;have c:(Instr.lookup 87 (.map (U m)) id Xx).run prog X.drew=.ok (.pointer Z) X.drew:=a;have HD:Hid (aA.aX s (.cancel id)=(s,aA.bS.error 9)):=by have e:=MU i.of H;simp only[Hid,aA.aX,e]
  clear a a3 a4 H t K;go_big_region;clear c xi a1;go_wp21;refine aK (ly 9 X.drew) fun w1 hb=>?_;have Q:=aB (i.refuse BX QX hb HD);obtain⟨q0,q1,q2,q3,q4,T,S,fq⟩:=Q.1;simp only[bT];go_wp21;exact cV results105 ⟨q0,q1,q2,q3,q4,T,S,fq⟩ ⟨_,rfl,Q.2⟩
 |some b =>
  rw[H] at a;obtain⟨g,C,rfl,rfl⟩:=Es H;have c:(Instr.lookup 87 (.map (U m)) g.e.id Xx).run prog X.drew=.ok g.eb X.drew:=a;have hf:=Bh i.of t.ni C;have ck:X.drew.cell? (g.eb,1)=U ↑g.e.kind:=(t.en g C).1.k;have hd:=t.later (eN X);have HD:Hid (aA.aX s (.cancel g.e.id)=({ s with es:=kept g.e.id s.es },aA.bS.num 0)):=by simp only[Hid,aA.aX,hf]
  have hQ:w+1<X.drew.heap.size:=XV _ _ QX.q0;have I:aM (w.heap.size+1)=Z:=i.dk.none O;by_cases G:g.e.kind=1
  .have ad:(g.e.kind != 1)=Xx:=by simpa using G
   have LV:=aB (Fk hd i.of i.wl i.bA C (i.hl.qd t.ni C G));have ST:Hid (Step anyS w aM aM w X.drew):=Step.below BX;have Q2:=QX;have q:=hQ;have j:=I;clear a a3 a4 H t K hf G hd C;go_big_region;clear c xi a1;go_wp21;refine LV.mono ?_;rintro e w2 ⟨rfl,r2,ac,z,y,k7,k8,D⟩;have hq:=D.cS q j q;have Q:Hid (eu w d aM (aA.aX s (.cancel g.e.id)) (bT 0 0 0 () () () ()) (dE w2 (w.heap.size+1) (V Y 0) (V Y 0) (V Y 0) () () () ())):=by rw[HD];exact wF z y k7 k8 (ST.trans (D.any ST.size)) O (D.dY j q) 0 0 _ _ _ _ _ _ _
   clear z y k7 k8 D LV;obtain⟨q0,q1,q2,q3,q4,T,S,fq⟩:=Q2.later hq;go_wp21;exact cV results105 ⟨q0,q1,q2,q3,q4,T,S,fq⟩ ⟨_,rfl,Q⟩
  .have ad:(g.e.kind != 1)=Xy:=by simpa using G
   have E:r.hl.length<=1000:=by
    have h1:=i.hl.len;have h2:r.eg.length=s.es.length:=by rw[<- i.of.es];simp
    have h3:=kS i.bA;omega
   have DR:=aB (fun wx (k:XC X.drew.heap.size X.drew wx)=>Lm (hd.later k) i.hl.1 E g.e.bZ g.e.id ⟨_,i.hl.has C G,rfl,rfl⟩);have c0:X.drew.cell? (g.eb,0)=U ↑g.e.id:=(t.en g C).1.en.c0;have c5:X.drew.cell? (g.eb,5)=U ↑g.e.bZ:=(t.en g C).1.u;have L:=aB (Yc C (Yc G t.ni));clear a a3 a4 H t K hf G hd C E;go_big_region;clear c xi a1;go_upto_region 5 with fail;generalize hW:X.drew=W at *;go_region_held3 (fun w'=>w'.cell? (g.eb,0)=U ↑g.e.id/\w'.cell? (g.eb,5)=U ↑g.e.bZ)
    (first
     |exact⟨c0,c5⟩
     |exact⟨((z.en g L.1).1).en.c0,((z.en g L.1).1).u⟩)
    (first
     |(go_at_call 154;refine aK (DR _ (eN W)) ?_;rintro w4 ⟨x,l',F,k1,k2,k3,k4,z,y⟩))
   have LV:=aB (Fk z (s:=s) ⟨i.of.now,i.of.given,i.of.ts,i.of.es,i.of.th,i.of.tb⟩ i.wl i.bA L.1 (i.hl.goes L.2.2 L.1 L.2.1 k2 k3 k4));have ST:Hid (Step anyS w aM F w w4):=(Step.below BX).trans ((Step.below (eN W)).trans (y.any BX.size));have Q2:Hid (Q7 w4 (w.heap.size+1)):=QX.later (y.cS (b:=w.heap.size+1) hQ I hQ);have q:w+1<w4.heap.size:=XV _ _ Q2.q0;have j:F (w.heap.size+1)=Z:=y.dY I hQ;clear k1 k2 k3 k4 z y DR c0 c5 ck hW;go_wp21;refine LV.mono ?_;rintro e w2 ⟨rfl,r2,ac,z,y,k7,k8,D⟩;have hq:=D.cS q j q;have Q:Hid (eu w d aM (aA.aX s (.cancel g.e.id)) (bT 0 0 0 () () () ()) (dE w2 (w.heap.size+1) (V Y 0) (V Y 0) (V Y 0) () () () ())):=by rw[HD];exact wF z y k7 k8 (ST.trans (D.any ST.size)) O (D.dY j q) 0 0 _ _ _ _ _ _ _
   clear z y k7 k8 D LV;obtain⟨q0,q1,q2,q3,q4,T,S,fq⟩:=Q2.later hq;go_wp21;exact cV results105 ⟨q0,q1,q2,q3,q4,T,S,fq⟩ ⟨_,rfl,Q⟩
end Go.Proofs.YtolaacmheeaadaaGreatDoor
