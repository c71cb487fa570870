import Derived.Test.YtolaacmheeaadaaGreatDoorL05
set_option maxRecDepth 100000
set_option maxHeartbeats 8000000
open Go.Proofs.Tryz
open _root_ renaming ByteArray->Us,List->Ut,Option->Uu,Bool->Uv,Nat->Uw,Int->Ux,if_neg->Uy,if_pos->Uz,absurd->UA,Int->N,Nat->M,List->J
open Option renaming none->UB,some->UC,bind_some->Yy,none->Z,some->U
open Bool renaming false->UD,true->UE,beq_comm->Yu,eq_false_or_eq_true->YB
open Go renaming World->UF,Value->UG,Calls->UI,TypeId->UK
open Go.RowKit renaming Below->UH
open Go.Value renaming string->UQ,ownBlock->V9,int->UL,slice->UO,bool->UR,tuple->US,agg->UT,iface->UU,int->V
open Nat renaming zero_le->VM,le_trans->U0,le_refl->UY
open List renaming map_append->VU,length_append->VA,append_nil->Xu,drop_eq_getElem_cons->Wh,mem_singleton->X9
open Go.World renaming block_lt_of_cell?->U1,var?->Yx,cell?_setCell_far->YA,frozen?_of_block->Wk,cell?->Vk
open Go.Lib renaming countB->Yv,TabIs->Yw
open Go.Calls renaming quiet_of_same->Yo,quiet_of->Yl
open Int renaming natCast_nonneg->Yz
open ByteArray renaming empty->Ym
open And renaming intro->Vf
open Array renaming getElem?_eq_some_iff->YC
open Go.Code renaming wp->YD
open Go.Instr renaming typeAssert->YF,lookup->Yi
open Go.Result renaming andThen->YG
open Go.IntKind renaming i64->UV,i64->Y
open Go.Ending renaming returned->UW
open Go.Obj renaming cells->UX
namespace Go.Proofs.YtolaacmheeaadaaGreatDoor
variable{wr:Uv}{s:Us}{B:Us->Uv}{fr mi mn pc ti un:Ux}{ws:Ut Us}{acc:Ut Ux}{l:Ut UInt8}{A P R b d k n nx o p:Uw}{aM:Uw->Uu bO}{v:Uw->UG}{r:Raw}{w w' wx:UF}
open Go.RowKit
theorem c1x(x:M)(w:UF):UI prog 86 #[V .i32 x] w fun e w'=>e=UW (x==32)/\∃ q,w'=w.drewN q:=by
 go_in;go_wp2;go_ret;refine⟨fJ ?_,0,rfl⟩;rw[Bool.eq_iff_iff];simp;omega
theorem b5j(a:Array UG)(w:UF):Sem.run prog (callFunc 86 a) w=.ok (.enter 86 a) w:=Um
theorem b9v(s:Us)(w:UF)(h:s.size<=160):
  UI prog 58 #[s] w fun e w'=>∃ A,e=UW (UO (U ⟨A,0,Z⟩) (Txt.aC s).length (Txt.aC s).length)/\w<=A /\w'.ownsRow w 9 1 (UO A (Txt.aC s).length (Txt.aC s).length) (Txt.aC s).length ((Txt.aC s).map UQ)/\UH w w w':=by
 have a:PredAtRunes prog 86 #[] (fun r=>r==32) w:=fun W x _ _=>c1x x W;have HP:=hide a;clear a;go_in;go_wp21;refine (strings_FieldsFunc_runes 86 #[] b5j (fun r=>r==32) s w O (aO HP)).mono ?_;rintro e w' ⟨A,rfl,g,c,f⟩;rw[Txt.b3C] at c ⊢;go_wp2;go_ret;exact⟨A,rfl,g,c,f⟩
theorem toList_data(b:Us):b.toList=b.data.toList:=Lib.toList_data b
theorem Jd{b:Us}(h:b.toList.isEmpty=UE):b.size=0:=by rw[toList_data,List.isEmpty_iff] at h;rw[<- Txt.iK,h];rfl
theorem Je{b:Us}(h:b.toList.isEmpty=UD):b.size≠0:=by intro e;rw[toList_data,List.isEmpty_eq_false_iff] at h;exact h (List.eq_nil_of_length_eq_zero (by simp_all))
theorem lI{a e size:M}{v:UG}{f:J UG}(h:w.ownsRow a e size v n f)(c:v.ownBlock=U k):a<=k:=by
 rcases h.2 with ⟨rfl,_⟩|⟨g,cap,i,rfl,j,_⟩
 .simp[V9] at c
 .simp[V9] at c;omega
theorem qm:(prog.info? 9).map (fun i=>(i.zero,i.size,i.bytes))=U (U (UQ ⟨#[]⟩),1,16):=Um
theorem IL(s:Us)(w:UF)(Q:s.size<=160):UI prog 45 #[s] w fun e w'=>∃ v,e=UW v/\w'.ownsRow w 9 1 v (Txt.aC s).length ((Txt.aC s).map UQ)/\UH w w w':=by
 obtain⟨G,H,y,x,t⟩:=info_parts qm;go_in;go_wp2;go_loopw [3,4,5] (fun v c i wr=>∃ k:M,k<=s.size/\i=V Y k/\c=UQ (Txt.jv s k)/\wr.ownsRow w 9 1 v (Txt.oy s k).length ((Txt.oy s k).map UQ)/\UH w w wr) (fun _ _ i _=>s.size-(intOf i).toNat)
 case atStart=>exact⟨0,VM _,rfl,rfl,World.ownsRow_nil _ _ _ _,Below.refl _ _⟩
 case round =>
  obtain⟨k,C,rfl,rfl,a,f⟩:=hrel;have S:=Txt.J3 s k;by_cases L:k<s.size
  .by_cases q:Txt.fK s k=32
   .have E:((s[k].toNat:N)==32)=UE:=beq_iff_eq.2 (by rw[<- Txt.mz];exact q);have m:=hide (Txt.Lm s k C q);clear q
    cases D:(Txt.jv s k).toList.isEmpty
    .have j:=(Je D);have F:=Txt.xZ s k
     go_wp2_with (first
      |(at_builtin;refine wpList_append_own _ rfl _ _ 78 rfl w 9 G (UQ ⟨#[]⟩) 1 16 underlying78 H y x t rfl Uj _ _ _ rfl (a.alloc _) (wr,0) 1 1 [Txt.jv s k] rfl rfl ?c1 ?c2 ?c3 ?c4 ?c5 ?_)
      |go_in)
     case c1=>exact cell_one_new _ _ _
     case c2=>intro u z;simp at z;subst z;rfl
     case c3=>unfold maxLen;omega
     case c4=>omega
     case c5=>have:=f.size;simp;omega
     intro v' K g h _;go_wp2;refine⟨⟨k+1,O,by go_num,by rw[(aO m).1],?_,?_⟩,by simp[intOf];omega⟩
     .rw[(aO m).2,Uy j,VU,VA];exact g
     .refine (f.alloc f.size _).grown h (by have:=f.size;simp;omega) (fun k C=>?_);exact lI a C
    .have j:Hid ((Txt.jv s k).size=0):=(Jd D);go_wp2;exact⟨⟨k+1,O,by go_num,by rw[(aO m).1],by rw[(aO m).2,Uz j.out,Xu];exact a,f⟩,by simp[intOf];omega⟩
   .have E:((s[k].toNat:N)==32)=UD:=beq_eq_false_iff_ne.2 (by rw[<- Txt.mz];exact q);have m:=hide (Txt.J2 s k q);clear q;go_wp2;exact⟨⟨k+1,O,by go_num,by rw[(aO m).1],by rw[(aO m).2];exact a,f⟩,by simp[intOf];omega⟩
  .obtain rfl:k=s.size:=O
   have I:=hide (Txt.El s)
   cases D:(Txt.jv s s.size).toList.isEmpty
   .have j:=(Je D);have F:=Txt.xZ s s.size
    go_wp2_with (first
     |(at_builtin;refine wpList_append_own _ rfl _ _ 78 rfl w 9 G (UQ ⟨#[]⟩) 1 16 underlying78 H y x t rfl Uj _ _ _ rfl (a.alloc _) (wr,0) 1 1 [Txt.jv s s.size] rfl rfl ?c1 ?c2 ?c3 ?c4 ?c5 ?_)
     |go_in)
    case c1=>exact cell_one_new _ _ _
    case c2=>intro u z;simp at z;subst z;rfl
    case c3=>unfold maxLen;omega
    case c4=>omega
    case c5=>have:=f.size;simp;omega
    intro v' K g h _;go_wp2;go_ret;refine⟨v',rfl,?_,?_⟩
    .rw[aO I,Uy j,VU,VA];exact g
    .refine (f.alloc f.size _).grown h (by have:=f.size;simp;omega) (fun k C=>?_);exact lI a C
   .have j:Hid ((Txt.jv s s.size).size=0):=(Jd D);go_wp2;go_ret;exact⟨_,rfl,by rw[aO I,Uz j.out,Xu];exact a,f⟩
def gu(k:M):J UInt8:=match k with|0=>[109,111]|1=>[116,117]|2=>[119,101]|3=>[116,104]|4=>[102,114]|5=>[115,97]|_=>[115,117]
theorem oB(c:k<7)(h:(l==gu k)=UE)(a:∀ j,j<k->(l==gu j)=UD):Txt.fu l=k:=by have e:=beq_iff_eq.1 h;subst e;rcases (show k=0\/k=1\/k=2\/k=3\/k=4\/k=5\/k=6 by omega) with rfl|rfl|rfl|rfl|rfl|rfl|rfl <;> decide
theorem Jl(a:∀ j,j<7->(l==gu j)=UD):Txt.fu l=-1:=by have q:=a 0 O;have m:=a 1 O;have i:=a 2 O;have h:=a 3 O;have g:=a 4 O;have f:=a 5 O;have c:=a 6 O;simp only[gu] at q m i h g f c;simp[Txt.fu,q,m,i,h,g,f,c]
theorem oD(a:∀ j,j<k->(l==gu j)=UD)(h:(l==gu k)=UD):∀ j,j<k+1->(l==gu j)=UD:=Uo
def po(s:Us):N:=if 0<=Txt.fu s.data.toList then Txt.fu s.data.toList else 0
def oK(s:Us):Uv:=decide (0<=Txt.fu s.data.toList)
theorem a8Y(s:Us)(w:UF)(h:Env w):UI prog 216 #[s] w fun e w'=>e=UW (US #[V Y (po s),oK s])/\w'=w:=by
 have D:=h.mo;have C:=h.tu;have z:=h.we;have y:=h.th;have x:=h.fr;have u:=h.sa;have t:=h.su;have g:=hide (toList_data s);clear h;go_in;go_wp2;go_loop [4,5] (fun _ i=>∃ k:M,k<=7/\i=V Y k/\∀ j,j<k->(s.data.toList==gu j)=UD) (fun _ i=>7-(intOf i).toNat)
 .exact⟨0,O,rfl,fun j q=>UA q O⟩
 .obtain⟨k,E,rfl,m⟩:=hrel;have f:=hide m;clear m;rcases (show k=0\/k=1\/k=2\/k=3\/k=4\/k=5\/k=6\/k=7 by omega) with rfl|rfl|rfl|rfl|rfl|rfl|rfl|rfl
  .cases c:([109,111]==s.toList)
   .have a:Hid ((s.data.toList==gu 0)=UD):=by show (s.data.toList==gu 0)=UD;rw[<- aO g,Yu];exact c
    go_wp2;go_round
    .exact⟨1,O,by go_num,oD (aO f) a⟩
    .simp[intOf]
   .have a:=oB (k:=0) O (by rw[<- aO g,Yu];exact c) (aO f);go_wp2;go_ret2;exact⟨gb (by rw[po,a];rfl) (by rw[oK,a];rfl),rfl⟩
  .cases c:([116,117]==s.toList)
   .have a:Hid ((s.data.toList==gu 1)=UD):=by show (s.data.toList==gu 1)=UD;rw[<- aO g,Yu];exact c
    go_wp2;go_round
    .exact⟨2,O,by go_num,oD (aO f) a⟩
    .simp[intOf]
   .have a:=oB (k:=1) O (by rw[<- aO g,Yu];exact c) (aO f);go_wp2;go_ret2;exact⟨gb (by rw[po,a];rfl) (by rw[oK,a];rfl),rfl⟩
  .cases c:([119,101]==s.toList)
   .have a:Hid ((s.data.toList==gu 2)=UD):=by show (s.data.toList==gu 2)=UD;rw[<- aO g,Yu];exact c
    go_wp2;go_round
    .exact⟨3,O,by go_num,oD (aO f) a⟩
    .simp[intOf]
   .have a:=oB (k:=2) O (by rw[<- aO g,Yu];exact c) (aO f);go_wp2;go_ret2;exact⟨gb (by rw[po,a];rfl) (by rw[oK,a];rfl),rfl⟩
  .cases c:([116,104]==s.toList)
   .have a:Hid ((s.data.toList==gu 3)=UD):=by show (s.data.toList==gu 3)=UD;rw[<- aO g,Yu];exact c
    go_wp2;go_round
    .exact⟨4,O,by go_num,oD (aO f) a⟩
    .simp[intOf]
   .have a:=oB (k:=3) O (by rw[<- aO g,Yu];exact c) (aO f);go_wp2;go_ret2;exact⟨gb (by rw[po,a];rfl) (by rw[oK,a];rfl),rfl⟩
  .cases c:([102,114]==s.toList)
   .have a:Hid ((s.data.toList==gu 4)=UD):=by show (s.data.toList==gu 4)=UD;rw[<- aO g,Yu];exact c
    go_wp2;go_round
    .exact⟨5,O,by go_num,oD (aO f) a⟩
    .simp[intOf]
   .have a:=oB (k:=4) O (by rw[<- aO g,Yu];exact c) (aO f);go_wp2;go_ret2;exact⟨gb (by rw[po,a];rfl) (by rw[oK,a];rfl),rfl⟩
  .cases c:([115,97]==s.toList)
   .have a:Hid ((s.data.toList==gu 5)=UD):=by show (s.data.toList==gu 5)=UD;rw[<- aO g,Yu];exact c
    go_wp2;go_round
    .exact⟨6,O,by go_num,oD (aO f) a⟩
    .simp[intOf]
   .have a:=oB (k:=5) O (by rw[<- aO g,Yu];exact c) (aO f);go_wp2;go_ret2;exact⟨gb (by rw[po,a];rfl) (by rw[oK,a];rfl),rfl⟩
  .cases c:([115,117]==s.toList)
   .have a:Hid ((s.data.toList==gu 6)=UD):=by show (s.data.toList==gu 6)=UD;rw[<- aO g,Yu];exact c
    go_wp2;go_round
    .exact⟨7,O,by go_num,oD (aO f) a⟩
    .simp[intOf]
   .have a:=oB (k:=6) O (by rw[<- aO g,Yu];exact c) (aO f);go_wp2;go_ret2;exact⟨gb (by rw[po,a];rfl) (by rw[oK,a];rfl),rfl⟩
  .have a:=Jl (aO f);go_wp2;go_ret2;exact⟨gb (by rw[po,a];rfl) (by rw[oK,a];rfl),rfl⟩
theorem Sm(s:Us)(w:UF):UI prog 83 #[s] w fun e w'=>e=UW (V Y (Txt.fu s.data.toList))/\UH w w w':=by
 have g:=hide (toList_data s);have h:Hid (∀ o,UH w w (w.alloc o)):=fun o=>fI.alloc aJ o;go_in;go_wp2;go_loop [4] (fun i=>∃ k:M,k<=7/\i=V Y k/\∀ j,j<k->(s.data.toList==gu j)=UD) (fun i=>7-(intOf i).toNat)
 .exact⟨0,O,rfl,fun j q=>UA q O⟩
 .obtain⟨k,t,rfl,m⟩:=hrel;have f:=hide m;clear m;rcases (show k=0\/k=1\/k=2\/k=3\/k=4\/k=5\/k=6\/k=7 by omega) with rfl|rfl|rfl|rfl|rfl|rfl|rfl|rfl
  .cases c:(s.toList==[109,111])
   .have a:Hid ((s.data.toList==gu 0)=UD):=by show (s.data.toList==gu 0)=UD;rw[<- aO g];exact c
    go_wp2;go_round
    .exact⟨1,O,by go_num,oD (aO f) a⟩
    .simp[intOf]
   .have a:Hid (Txt.fu s.data.toList=0):=oB (k:=0) O (by rw[<- aO g];exact c) (aO f);go_wp2;go_ret;exact⟨iJ (by rw[a]),h _⟩
  .cases c:(s.toList==[116,117])
   .have a:Hid ((s.data.toList==gu 1)=UD):=by show (s.data.toList==gu 1)=UD;rw[<- aO g];exact c
    go_wp2;go_round
    .exact⟨2,O,by go_num,oD (aO f) a⟩
    .simp[intOf]
   .have a:Hid (Txt.fu s.data.toList=1):=oB (k:=1) O (by rw[<- aO g];exact c) (aO f);go_wp2;go_ret;exact⟨iJ (by rw[a]),h _⟩
  .cases c:(s.toList==[119,101])
   .have a:Hid ((s.data.toList==gu 2)=UD):=by show (s.data.toList==gu 2)=UD;rw[<- aO g];exact c
    go_wp2;go_round
    .exact⟨3,O,by go_num,oD (aO f) a⟩
    .simp[intOf]
   .have a:Hid (Txt.fu s.data.toList=2):=oB (k:=2) O (by rw[<- aO g];exact c) (aO f);go_wp2;go_ret;exact⟨iJ (by rw[a]),h _⟩
  .cases c:(s.toList==[116,104])
   .have a:Hid ((s.data.toList==gu 3)=UD):=by show (s.data.toList==gu 3)=UD;rw[<- aO g];exact c
    go_wp2;go_round
    .exact⟨4,O,by go_num,oD (aO f) a⟩
    .simp[intOf]
   .have a:Hid (Txt.fu s.data.toList=3):=oB (k:=3) O (by rw[<- aO g];exact c) (aO f);go_wp2;go_ret;exact⟨iJ (by rw[a]),h _⟩
  .cases c:(s.toList==[102,114])
   .have a:Hid ((s.data.toList==gu 4)=UD):=by show (s.data.toList==gu 4)=UD;rw[<- aO g];exact c
    go_wp2;go_round
    .exact⟨5,O,by go_num,oD (aO f) a⟩
    .simp[intOf]
   .have a:Hid (Txt.fu s.data.toList=4):=oB (k:=4) O (by rw[<- aO g];exact c) (aO f);go_wp2;go_ret;exact⟨iJ (by rw[a]),h _⟩
  .cases c:(s.toList==[115,97])
   .have a:Hid ((s.data.toList==gu 5)=UD):=by show (s.data.toList==gu 5)=UD;rw[<- aO g];exact c
    go_wp2;go_round
    .exact⟨6,O,by go_num,oD (aO f) a⟩
    .simp[intOf]
   .have a:Hid (Txt.fu s.data.toList=5):=oB (k:=5) O (by rw[<- aO g];exact c) (aO f);go_wp2;go_ret;exact⟨iJ (by rw[a]),h _⟩
  .cases c:(s.toList==[115,117])
   .have a:Hid ((s.data.toList==gu 6)=UD):=by show (s.data.toList==gu 6)=UD;rw[<- aO g];exact c
    go_wp2;go_round
    .exact⟨7,O,by go_num,oD (aO f) a⟩
    .simp[intOf]
   .have a:Hid (Txt.fu s.data.toList=6):=oB (k:=6) O (by rw[<- aO g];exact c) (aO f);go_wp2;go_ret;exact⟨iJ (by rw[a]),h _⟩
  .have a:Hid (Txt.fu s.data.toList=-1):=Jl (aO f);go_wp2;go_ret;exact⟨iJ (by rw[a]),h _⟩
structure DS(w:UF)(b:M)(acc:J N):Prop where
 c0:w.cell? (b,0)=U (UR (aI acc 0))
 c1:w.cell? (b,1)=U (UR (aI acc 1))
 c2:w.cell? (b,2)=U (UR (aI acc 2))
 c3:w.cell? (b,3)=U (UR (aI acc 3))
 c4:w.cell? (b,4)=U (UR (aI acc 4))
 c5:w.cell? (b,5)=U (UR (aI acc 5))
 c6:w.cell? (b,6)=U (UR (aI acc 6))
 f:∀ j:M,w.frozen? (b,j)=UD
theorem DS.later(h:DS w b acc)(a:UH w w wx):DS wx b acc :=⟨cell_later a h.c0,cell_later a h.c1,cell_later a h.c2,cell_later a h.c3,cell_later a h.c4,cell_later a h.c5,cell_later a h.c6,fun j=>(a.frozen (p:=(b,j)) (show b<w from U1 _ (b,0) h.c0)).trans (h.f j)⟩
theorem DS.at(h:DS w b acc)(d:N)(c:0<=d)(a:d<7):w.cell? (b,d.toNat)=U (UR (aI acc d)):=by
 rcases (show d=0\/d=1\/d=2\/d=3\/d=4\/d=5\/d=6 by omega) with rfl|rfl|rfl|rfl|rfl|rfl|rfl
 .exact h.c0
 .exact h.c1
 .exact h.c2
 .exact h.c3
 .exact h.c4
 .exact h.c5
 .exact h.c6
theorem uS(d:N)(g:0<=d){u:UG}(a:w.cell? (b,k)=U (UR (aI acc k)))(_hu:u=UR UE):(w.setCell (b,d.toNat) UE).cell? (b,k)=U (UR (aI (d :: acc) k)):=by
 by_cases e:d.toNat=k
 .have f:d=(k:N):=O
  rw[e,World.cell?_setCell_same _ _ _ a];simp[aI,f]
 .rw[World.cell?_setCell_other _ _ _ _ Ui,a];have c:(k:N)≠d:=O
  simp[aI,c]
theorem DS.set(h:DS w b acc)(d:N)(a:0<=d):DS (w.setCell (b,d.toNat) UE) b (d :: acc) :=⟨uS (k:=0) d a h.c0 rfl,uS (k:=1) d a h.c1 rfl,uS (k:=2) d a h.c2 rfl,uS (k:=3) d a h.c3 rfl,uS (k:=4) d a h.c4 rfl,uS (k:=5) d a h.c5 rfl,uS (k:=6) d a h.c6 rfl,fun j=>(zF ..).trans (h.f j)⟩
theorem Ds{a:M}{v:UG}(h:DS w b acc)(_hne:a≠b):DS (w.setCell (a,o) v) b acc:=by have g:∀ j:M,(w.setCell (a,o) v).cell? (b,j)=w.cell? (b,j):=fun j=>bC Ui;exact⟨(g 0).trans h.c0,(g 1).trans h.c1,(g 2).trans h.c2,(g 3).trans h.c3,(g 4).trans h.c4,(g 5).trans h.c5,(g 6).trans h.c6,fun j=>(zF ..).trans (h.f j)⟩
def gD(acc:J N):UG:=UT #[aI acc 0,aI acc 1,aI acc 2,aI acc 3,aI acc 4,aI acc 5,aI acc 6]
def ur(s:Us)(k:M)(acc:J N):Prop :=(3*k<s.size/\Txt.jf s=Txt.kC (s.data.toList.drop (3*k)) acc)\/(3*k=s.size+1/\Txt.jf s=U acc)
theorem I5(s:Us)(k:M)(h:s.size % 3=2)(q:3*k<s.size):
  (3*k+2=s.size/\s.data.toList.drop (3*k)=Txt.part s (3*k) (3*k+2)/\(Txt.part s (3*k) (3*k+2)).length=2) \/
  (3*k+3<s.size/\∃ a b c,s.data.toList.drop (3*k)=a :: b :: c :: s.data.toList.drop (3*(k+1))/\Txt.part s (3*k) (3*k+2)=[a,b]/\(c.toNat:N)=Txt.fK s (3*k+2)):=by
 have m:=Txt.iK s;have f:Txt.part s (3*k) (3*k+2)=(s.data.toList.drop (3*k)).take 2:=by unfold Txt.part;rw[Txt.rE,List.drop_take];congr 1;omega
 by_cases j:3*k+2=s.size
 .left;have e:(s.data.toList.drop (3*k)).length=2:=Uo
  refine⟨j,?_,?_⟩
  .rw[f,List.take_of_length_le O]
  .rw[f,List.length_take];omega
 .right;have g:3*k+3<s.size:=O
  refine⟨g,s.data.toList[3*k]'Uh,s.data.toList[3*k+1]'Uh,s.data.toList[3*k+2]'Uh,?_,?_,?_⟩
  .rw[Wh O,Wh (i:=3*k+1) O,Wh (i:=3*k+1+1) O,show 3*k+1+1+1=3*(k+1) from by omega]
  .rw[f,Wh O,Wh (i:=3*k+1) O];rfl
  .unfold Txt.fK;rw[List.getD_eq_getElem?_getD,List.getElem?_eq_getElem O];rfl
theorem RH(s:Us)(h:s.size % 3=2):ur s 0 []:=.inl ⟨O,rfl⟩
theorem QO(h:ur s k acc)(z:s.size % 3=2)(u:3*k<s.size)(f:Txt.fu (Txt.part s (3*k) (3*k+2))<0\/aI acc (Txt.fu (Txt.part s (3*k) (3*k+2)))=UE\/(3*k+2<s.size/\Txt.fK s (3*k+2)≠44)):Txt.jf s=Z:=by
 rcases h with ⟨_,h⟩|⟨h,_⟩
 .rw[h]
  have g:Txt.fu (Txt.part s (3*k) (3*k+2))<0\/aI acc (Txt.fu (Txt.part s (3*k) (3*k+2)))=UE->Txt.mv acc (Txt.fu (Txt.part s (3*k) (3*k+2)))=Z:=fun q=>by
   unfold Txt.mv;rw[Uy];rintro ⟨E,t⟩;rcases q with q|q
   .omega
   .unfold aI at q;rw[q] at t;cases t
  rcases I5 s k z u with ⟨D,m,i⟩|⟨D,a,b,c,m,i,C⟩
  .rw[m];rcases f with f|f|f
   all_goals first|omega|skip
   all_goals
    obtain⟨x,y,j⟩:∃ x y,Txt.part s (3*k) (3*k+2)=[x,y]:=by
     match hm:Txt.part s (3*k) (3*k+2),i with
     |[x,y],_=>exact⟨x,y,rfl⟩
    have:=g Uo;rw[j] at this ⊢;exact this
  .rw[m,Txt.kC]
   split
   .rename_i hc
    rcases f with f|f|f
    .have:=g (.inl f);rw[i] at this;rw[this];rfl
    .have:=g (.inr f);rw[i] at this;rw[this];rfl
    .subst hc;exfalso;apply f.2;rw[<- C];rfl
   .rfl
 .omega
theorem Re(h:ur s k acc)(u:s.size % 3=2)(q:3*k<s.size)(z:0<=Txt.fu (Txt.part s (3*k) (3*k+2)))(j:aI acc (Txt.fu (Txt.part s (3*k) (3*k+2)))=UD)(m:3*k+2<s.size->Txt.fK s (3*k+2)=44):ur s (k+1) (Txt.fu (Txt.part s (3*k) (3*k+2)) :: acc):=by
 have st:Txt.mv acc (Txt.fu (Txt.part s (3*k) (3*k+2)))=U (Txt.fu (Txt.part s (3*k) (3*k+2)) :: acc):=by unfold Txt.mv;rw[Uz ⟨z,j⟩]
 rcases h with ⟨_,h⟩|⟨h,_⟩
 .rcases I5 s k u q with ⟨D,i,g⟩|⟨D,a,b,c,i,g,C⟩
  .right;refine⟨O,?_⟩;rw[h,i]
   obtain⟨x,y,f⟩:∃ x y,Txt.part s (3*k) (3*k+2)=[x,y]:=by
    match j:Txt.part s (3*k) (3*k+2),g with
    |[x,y],_=>exact⟨x,y,rfl⟩
   rw[f] at st ⊢;exact st
  .left;refine⟨O,?_⟩
   have t:c=44:=by have:=m O;rw[<- C] at this;exact UInt8.toNat_inj.1 Uo
   rw[h,i,Txt.kC,Uz t,<- g,st];rfl
 .omega
theorem Cd(s:Us)(w:UF)(hm:s.size<=160):UI prog 52 #[s] w fun e w'=>(∃ acc,e=UW (US #[gD acc,Txt.fC s])/\(Txt.fC s=UE->Txt.jf s=U acc))/\UH w w w':=by
 by_cases h3:s.size % 3=2
 .have ae:(((s.size:N) % 3) != 2)=UD:=qA O
  go_in;go_wp2;obtain⟨W,G⟩:∃ W,W=(w.alloc (UX #[UD,UD,UD,UD,UD,UD,UD] 116)).alloc (UX #[UD,UD,UD,UD,UD,UD,UD] 116):=⟨_,rfl⟩;rw[<- G];have hB:UH w w W:=by rw[G];exact aS.alloc Ui _
  have hZ:w+2=W.heap.size:=by rw[G];simp
  have dR:DS W w []:=by rw[G];refine⟨?_,?_,?_,?_,?_,?_,?_,fun j=>?_⟩ <;> simp[aI]
  have dD:DS W (w.heap.size+1) []:=by rw[G];refine⟨?_,?_,?_,?_,?_,?_,?_,fun j=>?_⟩ <;> simp[aI]
  clear G;go_loopw [5,6] (fun i _ wx=>∃ (k:M) (acc:J N),3*k<=s.size+1/\i=V Y ((3*k:M):N)/\ur s k acc/\DS wx (w.heap.size+1) acc/\DS wx w []/\UH w w wx/\w+2<=wx.heap.size) (fun i _ _=>s.size+3-(intOf i).toNat)
  .exact⟨0,[],O,rfl,RH s h3,dD,dR,hB,O⟩
  .obtain⟨k,acc,hk,rfl,D,E,z,C,X⟩:=hrel
   by_cases ab:3*k<s.size
   .have hd:=Txt.At (Txt.part s (3*k) (3*k+2));have ad:=hide D;clear D
    go_wp21;refine aK (Sm _ _) fun w1 x=>?_;rw[show (s.extract (3*k) (3*k+2)).data.toList=Txt.part s (3*k) (3*k+2) from rfl];have y:UH w w w1:=C.trans (x.mono C.size);have af:w+2<=w1.heap.size:=U0 X x.size;have a:=E.later x;have c:=z.later x;have q0:=a.c0;have q1:=a.c1;have q2:=a.c2;have q3:=a.c3;have q4:=a.c4;have q5:=a.c5;have q6:=a.c6;have T:=c.c0;have S:=c.c1;have Q:=c.c2;have L:=c.c3;have K:=c.c4;have I:=c.c5;have H:=c.c6;have fR:=c.f;have fD:=a.f;obtain⟨d,ac⟩:∃ d,d=Txt.fu (Txt.part s (3*k) (3*k+2)):=⟨_,rfl⟩;have m:=hide (fun q=>QO (aO ad) h3 ab q);have g:=hide (fun q1 q2 q3=>Re (aO ad) h3 ab q1 q2 q3);rw[<- ac] at hd m g ⊢;clear ac E z C X x hB hZ dR dD;by_cases aa:d<0
    .have t:Hid (Txt.fC s=UD):=by show Txt.fC s=UD;unfold Txt.fC;rw[aO m (.inl aa)];rfl
     go_wp2;refine bodyPost_ret (v:=US #[gD acc,UD]) (by simp[results,results52,go_sem,gD,T,S,Q,L,K,I,H]) rfl ⟨⟨acc,?_,?_⟩,?_⟩
     .rw[t]
     .intro h;rw[t] at h;cases h
     .exact (((((((y.setCell aJ _).setCell aJ _).setCell aJ _).setCell aJ _).setCell aJ _).setCell aJ _).setCell aJ _)
    .have hc:=a.at d O O
     cases u:aI acc d
     .rw[u] at hc
      by_cases h2:3*k+2<s.size
      .cases F:(((s[3*k+2]'h2).toNat:N) != 44)
       .have HX:Hid (ur s (k+1) (d :: acc)):=aO g O u (fun _=>by rw[Txt.mz s _ h2];simpa using F)
        go_wp2;refine⟨⟨k+1,d :: acc,O,by go_num,HX,?_,?_,?_,?_⟩,by simp[intOf];omega⟩
        .exact a.set d O
        .exact Ds c O
        .exact y.setCell Ui _
        .simp;omega
       .have t:Hid (Txt.fC s=UD):=by show Txt.fC s=UD;unfold Txt.fC;rw[aO m (.inr (.inr ⟨h2,by rw[Txt.mz s _ h2];simpa using F⟩))];rfl
        go_wp2;refine bodyPost_ret (v:=US #[gD acc,UD]) (by simp[results,results52,go_sem,gD,T,S,Q,L,K,I,H]) rfl ⟨⟨acc,?_,?_⟩,?_⟩
        .rw[t]
        .intro h;rw[t] at h;cases h
        .exact (((((((y.setCell aJ _).setCell aJ _).setCell aJ _).setCell aJ _).setCell aJ _).setCell aJ _).setCell aJ _)
      .have HX:Hid (ur s (k+1) (d :: acc)):=aO g O u (fun h=>UA h h2);go_wp2;refine⟨⟨k+1,d :: acc,O,by go_num,HX,?_,?_,?_,?_⟩,by simp[intOf];omega⟩
       .exact a.set d O
       .exact Ds c O
       .exact y.setCell Ui _
       .simp;omega
     .rw[u] at hc;have t:Hid (Txt.fC s=UD):=by show Txt.fC s=UD;unfold Txt.fC;rw[aO m (.inr (.inl u))];rfl
      go_wp2;refine bodyPost_ret (v:=US #[gD acc,UD]) (by simp[results,results52,go_sem,gD,T,S,Q,L,K,I,H]) rfl ⟨⟨acc,?_,?_⟩,?_⟩
      .rw[t]
      .intro h;rw[t] at h;cases h
      .exact (((((((y.setCell aJ _).setCell aJ _).setCell aJ _).setCell aJ _).setCell aJ _).setCell aJ _).setCell aJ _)
   .have HF:Hid (Txt.jf s=U acc):=by
     rcases D with ⟨h,_⟩|⟨_,h⟩
     .omega
     .exact h
    have t:Hid (Txt.fC s=UE):=by show Txt.fC s=UE;unfold Txt.fC;rw[HF];rfl
    clear D;have q0:=E.c0;have q1:=E.c1;have q2:=E.c2;have q3:=E.c3;have q4:=E.c4;have q5:=E.c5;have q6:=E.c6;have T:=z.c0;have S:=z.c1;have Q:=z.c2;have L:=z.c3;have K:=z.c4;have I:=z.c5;have H:=z.c6;have fR:=z.f;go_wp2;refine bodyPost_ret (v:=US #[gD acc,UE]) (by simp[results,results52,go_sem,gD,T,S,Q,L,K,I,H]) rfl ⟨⟨acc,?_,?_⟩,?_⟩
    .rw[t]
    .intro _;exact HF
    .exact (((((((C.setCell aJ _).setCell aJ _).setCell aJ _).setCell aJ _).setCell aJ _).setCell aJ _).setCell aJ _)
 .have ae:(((s.size:N) % 3) != 2)=UE:=qB O
  have t:Hid (Txt.fC s=UD):=by
   show Txt.fC s=UD;unfold Txt.fC
   cases ho:Txt.jf s with
   |none=>rfl
   |some r=>have:=Txt.Hk _ _ _ ho;rw[Txt.iK] at this;omega
  clear h3;go_in;go_wp2;refine bodyPost_ret (v:=US #[gD [],UD]) (by simp[results,results52,go_sem,gD,aI]) rfl ⟨⟨[],?_,?_⟩,?_⟩
  .rw[t]
  .intro h;rw[t] at h;cases h
  .exact aS.alloc Ui _
def gJ(s:Us):J Us:=Lib.splitB ⟨#[44]⟩ 0 (Yv s ⟨#[44]⟩) s
theorem JR(s:Us):(gJ s).length=Yv s ⟨#[44]⟩+1:=Lib.splitB_all ⟨#[44]⟩ Uj 0 _ s rfl
theorem Ti(s:Us):Txt.qa ((gJ s).map (·.data.toList)) []=Txt.jf s:=Txt.b9L s
theorem b5r(s:Us)(h:s.size<=160):(gJ s).length<=161:=by rw[JR];have:=Lib.countB_le ⟨#[44]⟩ Uj s.size s aJ;omega
theorem b7Y(w:UF)(l:J Us)(t:UK)(j:M)(x:Us)(h:l[j]?=U x):(w.alloc (UX (l.map UQ).toArray t)).cell? (w,j)=U ↑x:=by rw[World.cell?_alloc_at _ _ _ _ rfl];simp[h]
def tL(s:Us)(k:M)(acc:J N):Prop:=Txt.jf s=Txt.qa (((gJ s).map (·.data.toList)).drop k) acc
theorem Mq(h:tL s k acc)(a:k<(gJ s).length):Txt.jf s=(Txt.mv acc (Txt.fu (gJ s)[k].data.toList)).bind (Txt.qa (((gJ s).map (·.data.toList)).drop (k+1))):=by rw[h,Wh Uo];simp[Txt.qa]
theorem b9X(h:tL s k acc)(f:k<(gJ s).length)(g:Txt.fu (gJ s)[k].data.toList<0\/aI acc (Txt.fu (gJ s)[k].data.toList)=UE):Txt.fC s=UD:=by
 have e:=Mq h f;have a:Txt.mv acc (Txt.fu (gJ s)[k].data.toList)=Z:=by
  unfold Txt.mv;rw[Uy];rintro ⟨i,c⟩;rcases g with q|q
  .omega
  .unfold aI at q;rw[q] at c;cases c
 rw[a] at e;unfold Txt.fC;rw[e];rfl
theorem b8a(h:tL s k acc)(c:k<(gJ s).length)(f:0<=Txt.fu (gJ s)[k].data.toList)(a:aI acc (Txt.fu (gJ s)[k].data.toList)=UD):tL s (k+1) (Txt.fu (gJ s)[k].data.toList :: acc):=by
 have e:=Mq h c;have st:Txt.mv acc (Txt.fu (gJ s)[k].data.toList)=U (Txt.fu (gJ s)[k].data.toList :: acc):=by unfold Txt.mv;rw[Uz ⟨f,a⟩]
 rw[st] at e;exact e
theorem b9W(h:tL s k acc)(a:(gJ s).length<=k):Txt.jf s=U acc:=by unfold tL at h;rw[List.drop_of_length_le Uo] at h;exact h
theorem LU(s:Us)(w:UF)(he:Env w)(hm:s.size<=160):UI prog 179 #[UQ s] w fun e w'=>(∃ acc,e=UW (US #[gD acc,UR (Txt.fC s)])/\(Txt.fC s=UE->Txt.jf s=U acc))/\UH w.heap.size w w':=by
 obtain⟨mx,L⟩:=he.uG;have HE:=hide he;have hz:=he.size;clear he;have ai:=b5r s hm;go_in;go_wp2_with fail;obtain⟨W,H⟩:∃ W,W=(w.alloc (UX #[UR UD,UR UD,UR UD,UR UD,UR UD,UR UD,UR UD] 153)).alloc (UX #[UR UD,UR UD,UR UD,UR UD,UR UD,UR UD,UR UD] 153):=⟨_,rfl⟩;rw[<- H];have hB:UH w.heap.size w W:=by rw[H];exact ((zr _ _).alloc (zq _) _).alloc Ui _
 have hZ:w.heap.size+2=W.heap.size:=by rw[H];simp
 have dR:DS W w.heap.size []:=by rw[H];refine⟨?_,?_,?_,?_,?_,?_,?_,fun j=>?_⟩ <;> simp[aI]
 have dD:DS W (w.heap.size+1) []:=by rw[H];refine⟨?_,?_,?_,?_,?_,?_,?_,fun j=>?_⟩ <;> simp[aI]
 have Q:=cell_later hB L;clear H;refine (strings_Split s ⟨#[44]⟩ mx W O Q Uj).mono ?_;rintro e w1 ⟨rfl,y⟩;have hP:∀ j x,(gJ s)[j]?=U x->w1.cell? ⟨W.heap.size,j,Z⟩=U (UQ x):=fun j x hx=>by rw[y];exact b7Y W (gJ s) _ j x hx
 have D:UH W.heap.size W w1:=by rw[y];exact (zr _ _).alloc (zq _) _
 have aj:W.heap.size<w1.heap.size:=by rw[y];simp
 clear y;rw[show Yv s ⟨#[44]⟩+1=(gJ s).length from (JR s).symm];have HP:=hide hP;have af:=hide (((aO HE).later hB).later D);have ac:=dR.later D;have ad:=dD.later D;have aa:UH w.heap.size w w1:=hB.trans (D.mono O);clear hP dR dD hB Q L af;go_wp2;go_loopw [6,7,8,12] (fun _ _ _ i wx=>∃ (k:M) (acc:J N),k<=(gJ s).length/\i=V Y k/\tL s k acc/\DS wx (w.heap.size+1) acc/\DS wx w.heap.size []/\UH w.heap.size w wx/\w1.heap.size<=wx.heap.size/\(∀ j x,(gJ s)[j]?=U x->wx.cell? ⟨W.heap.size,j,Z⟩=U (UQ x))) (fun _ _ _ i _=>(gJ s).length-(intOf i).toNat)
 case atStart=>exact⟨0,[],VM _,rfl,(Ti s).symm,ad,ac,aa,UY _,aO HP⟩
 case round =>
  obtain⟨k,acc,hk,rfl,m,c,a,g,ag,I⟩:=hrel;have T:=hide I;clear I;have ab:=hide ((aO HE).later g);by_cases E:k<(gJ s).length
  .have hc:=aO T k (gJ s)[k] (by simp[E]);have hi:(k:N)<((gJ s).length:N):=O
   have q0:=c.c0;have q1:=c.c1;have q2:=c.c2;have q3:=c.c3;have q4:=c.c4;have q5:=c.c5;have q6:=c.c6;have r0:=a.c0;have r1:=a.c1;have r2:=a.c2;have r3:=a.c3;have r4:=a.c4;have r5:=a.c5;have X:=a.c6;have fR:=a.f;have fD:=c.f;have hd:=Txt.At (gJ s)[k].data.toList;have u:=hide (fun q=>b9X m E q);have t:=hide (fun q1 q2=>b8a m E q1 q2);clear m;go_wp2_with fail;refine (a8Y _ _ (aO ab)).mono ?_;rintro e w2 ⟨rfl,rfl⟩;obtain⟨d,C⟩:∃ d,d=Txt.fu (gJ s)[k].data.toList:=⟨_,rfl⟩;have HV:Hid (po (gJ s)[k]=if 0<=d then d else 0):=by show po (gJ s)[k]=_;rw[C];rfl
   have HW:Hid (oK (gJ s)[k]=decide (0<=d)):=by show oK (gJ s)[k]=_;rw[C];rfl
   rw[<- C] at hd u t;clear C;by_cases K:d<0
   .have G:Hid (Txt.fC s=UD):=aO u (.inl K);have F:Hid (oK (gJ s)[k]=UD):=HW.out.trans (decide_eq_false O);rw[F.out];go_wp2;refine bodyPost_ret (v:=US #[gD [],UR UD]) (by simp[results,results179,go_sem,gD,aI,r0,r1,r2,r3,r4,r5,X]) rfl ⟨⟨[],?_,?_⟩,?_⟩
    .rw[G.out]
    .intro h;rw[G.out] at h;cases h
    .exact (((((((g.setCell (zq _) _).setCell (zq _) _).setCell (zq _) _).setCell (zq _) _).setCell (zq _) _).setCell (zq _) _).setCell (zq _) _)
   .have ae:Hid (po (gJ s)[k]=d):=HV.out.trans (Uz O);have F:Hid (oK (gJ s)[k]=UE):=HW.out.trans (decide_eq_true O);rw[ae.out,F.out];have S:=c.at d O O
    cases z:aI acc d
    .rw[z] at S;have HX:Hid (tL s (k+1) (d :: acc)):=aO t O z;go_wp2;refine⟨⟨k+1,d :: acc,by omega,by go_num,HX.out,?_,?_,?_,?_,?_⟩,by simp[intOf];omega⟩
     .exact c.set d O
     .exact Ds a O
     .exact g.setCell Ui _
     .simp;omega
     .intro j x hx;exact (zS _ _ _ _ Ui).trans (aO T j x hx)
    .rw[z] at S;have G:Hid (Txt.fC s=UD):=aO u (.inr z);go_wp2;refine bodyPost_ret (v:=US #[gD [],UR UD]) (by simp[results,results179,go_sem,gD,aI,r0,r1,r2,r3,r4,r5,X]) rfl ⟨⟨[],?_,?_⟩,?_⟩
     .rw[G.out]
     .intro h;rw[G.out] at h;cases h
     .exact (((((((g.setCell (zq _) _).setCell (zq _) _).setCell (zq _) _).setCell (zq _) _).setCell (zq _) _).setCell (zq _) _).setCell (zq _) _)
  .have HF:Hid (Txt.jf s=U acc):=b9W m O;have G:Hid (Txt.fC s=UE):=by show Txt.fC s=UE;unfold Txt.fC;rw[HF.out];rfl
   clear m;have q0:=c.c0;have q1:=c.c1;have q2:=c.c2;have q3:=c.c3;have q4:=c.c4;have q5:=c.c5;have q6:=c.c6;have r0:=a.c0;have r1:=a.c1;have r2:=a.c2;have r3:=a.c3;have r4:=a.c4;have r5:=a.c5;have X:=a.c6;have fR:=a.f;go_wp2;refine bodyPost_ret (v:=US #[gD acc,UR UE]) (by simp[results,results179,go_sem,gD,r0,r1,r2,r3,r4,r5,X]) rfl ⟨⟨acc,?_,?_⟩,?_⟩
   .rw[G.out]
   .intro _;exact HF.out
   .exact (((((((g.setCell (zq _) _).setCell (zq _) _).setCell (zq _) _).setCell (zq _) _).setCell (zq _) _).setCell (zq _) _).setCell (zq _) _)
theorem Env.kept(h:Env w)(k:Kept R w w')(i:10<=R):Env w':=by have g:=k.below i h.size;have a:∀ (b o:M) (v:UG),b<10->w.cell? (b,o)=U v->w'.cell? (b,o)=U v:=fun b o v f e=>(g.cell (p:=(b,o)) f).trans e;let⟨m,hm⟩:=h.uG;let⟨c0,c1,c2,c3,c4,c5,c6,c7,c8,c9,c10,c11⟩:=h.jH;refine⟨⟨a _ _ _ O c0,a _ _ _ O c1,a _ _ _ O c2,a _ _ _ O c3,a _ _ _ O c4,a _ _ _ O c5,a _ _ _ O c6,a _ _ _ O c7,a _ _ _ O c8,a _ _ _ O c9,a _ _ _ O c10,a _ _ _ O c11⟩,⟨m,a _ _ _ O hm⟩,?_,U0 h.size k.size,a _ _ _ O h.mo,a _ _ _ O h.tu,a _ _ _ O h.we,a _ _ _ O h.th,a _ _ _ O h.fr,a _ _ _ O h.sa,a _ _ _ O h.su⟩;have c:=h.pow;unfold Yw Yx at c ⊢;simp only[vP,Yy] at c ⊢;rw[g.block 1 O];exact c
def gy(s:Us)(a c:N):Uv:=Txt.isNum s.data.toList && decide (a<=Txt.dG s.data.toList) && decide (Txt.dG s.data.toList<=c)
theorem L9(s:Us)(L q:M)(f g:N)(w:UF)(t:s.size<=160)(x:w.cell? (L,0)=U ↑f)(u:w.cell? (q,0)=U ↑g):UI prog 176 #[s,L,q] w fun e w'=>e=UW (US #[V Y (Txt.dG s.data.toList),gy s f g])/\∃ n,w'=w.drewN n:=by
 have c:s.size<=maxLen:=by unfold maxLen;omega
 cases a:Txt.isNum s.data.toList
 .go_in
  go_wp21;refine aY (gI s w c) ?_;rw[a];go_wp2;go_quiet (fail);go_wp2;go_ret2;exact⟨gb rfl (by simp[gy,a]),_,rfl⟩
 .by_cases j:f<=Txt.dG s.data.toList
  .by_cases m:Txt.dG s.data.toList<=g
   .go_in
    go_wp21;refine aY (gI s w c) ?_;rw[a];go_wp2;go_quiet (fail);go_wp2;go_ret2;exact⟨gb rfl (by simp[gy,a,j,m]),_,rfl⟩
   .have h:=decide_eq_false m
    go_in;go_wp21;refine aY (gI s w c) ?_;rw[a];go_wp2;go_quiet (fail);go_wp2;go_ret2;exact⟨gb rfl (by simp[gy,a,j,h]),_,rfl⟩
  .have i:=decide_eq_false j
   go_in;go_wp21;refine aY (gI s w c) ?_;rw[a];go_wp2;go_quiet (fail);go_wp2;go_ret2;exact⟨gb rfl (by simp[gy,a,i]),_,rfl⟩
theorem b4w(R A:M)(ws:J Us)(nx:M)(wr:Uv)(w:UF)(h:RS w R A ws nx wr)(m:Env w)(u:dN ws.length nx wr=UE)(a:nx<ws.length)(z:Txt.cU ws[nx]=UE):UI prog 138 #[R,.func (.func 139) #[] #[]] w fun e w'=>e=UW (V Y (dV ws[nx]))/\RS w' R A ws (nx+1) wr/\Kept R w w':=by
 have y:(nx:N)<(ws.length:N):=O;have f:=h.short _ (zg a);have i:=hide f;clear f;have t:=hide m;clear m;go_in;go_wp21;refine aK (kf R A ws nx wr w h) ?_;rintro w1 ⟨n,g⟩;have c:RS w1 R A ws nx wr:=by rw[g];exact h.drewN n
 have q:Kept R w w1:=by rw[g];exact (Kept.refl R w).drewN n
 have j:Hid (Env w1):=by show Env w1;rw[g];exact (aO t).drewN n
 have F:=c.c0;have E:=c.c1;have C:=c.f1;have D:=c.rows nx a;have x:=c.len;clear g;go_wp2;go_quiet ((go_at_call 139;exact Yo (MJ _ _ ((aO j).drewN _).jH (aO i))));go_wp2;go_ret;exact⟨rfl,(c.drewN _).step a,(q.drewN _).setCell _ _⟩
theorem b4x(R A:M)(ws:J Us)(nx:M)(wr:Uv)(w:UF)(h:RS w R A ws nx wr)(m:Env w)(u:dN ws.length nx wr=UE)(f:nx<ws.length)(z:Txt.cU ws[nx]=UD):UI prog 138 #[R,.func (.func 139) #[] #[]] w fun e w'=>e=UW (V Y (0))/\RS w' R A ws nx UE/\Kept R w w':=by
 have y:(nx:N)<(ws.length:N):=O;have c:=h.short _ (zg f);have i:=hide c;clear c;have t:=hide m;clear m;go_in;go_wp21;refine aK (kf R A ws nx wr w h) ?_;rintro w1 ⟨n,g⟩;have a:RS w1 R A ws nx wr:=by rw[g];exact h.drewN n
 have q:Kept R w w1:=by rw[g];exact (Kept.refl R w).drewN n
 have j:Hid (Env w1):=by show Env w1;rw[g];exact (aO t).drewN n
 have G:=a.c0;have F:=a.c1;have E:=a.c2;have C:=a.f2;have D:=a.rows nx f;have x:=a.len;clear g;go_wp2;go_quiet ((go_at_call 139;exact Yo (MJ _ _ ((aO j).drewN _).jH (aO i))));go_wp2;go_ret;exact⟨rfl,(a.drewN _).bad,(q.drewN _).setCell _ _⟩
theorem small(h:n<=160):n<=maxLen:=by unfold maxLen;omega
theorem b1u(R A:M)(ws:J Us)(nx:M)(wr:Uv)(w:UF)(h:RS w R A ws nx wr)(m:dN ws.length nx wr=UE)(a:nx<ws.length)(u:Txt.dZ ws[nx]=UE):UI prog 138 #[R,.func (.func 140) #[] #[]] w fun e w'=>e=UW (V Y (Txt.eA ws[nx]))/\RS w' R A ws (nx+1) wr/\Kept R w w':=by
 have t:(nx:N)<(ws.length:N):=O;have f:=h.short _ (zg a);have i:=hide f;clear f;go_in;go_wp21;refine aK (kf R A ws nx wr w h) ?_;rintro w1 ⟨n,g⟩;have c:RS w1 R A ws nx wr:=by rw[g];exact h.drewN n
 have j:Kept R w w1:=by rw[g];exact (Kept.refl R w).drewN n
 have C:=c.c0;have z:=c.c1;have x:=c.f1;have y:=c.rows nx a;have q:=c.len;clear g;go_wp2;go_quiet ((go_at_call 140;exact Yo (zh _ _ (small (aO i)))));go_wp2;go_ret;exact⟨rfl,(c.drewN _).step a,(j.drewN _).setCell _ _⟩
theorem b1v(R A:M)(ws:J Us)(nx:M)(wr:Uv)(w:UF)(h:RS w R A ws nx wr)(m:dN ws.length nx wr=UE)(f:nx<ws.length)(u:Txt.dZ ws[nx]=UD):UI prog 138 #[R,.func (.func 140) #[] #[]] w fun e w'=>e=UW (V Y (0))/\RS w' R A ws nx UE/\Kept R w w':=by
 have t:(nx:N)<(ws.length:N):=O;have c:=h.short _ (zg f);have i:=hide c;clear c;go_in;go_wp21;refine aK (kf R A ws nx wr w h) ?_;rintro w1 ⟨n,g⟩;have a:RS w1 R A ws nx wr:=by rw[g];exact h.drewN n
 have j:Kept R w w1:=by rw[g];exact (Kept.refl R w).drewN n
 have D:=a.c0;have C:=a.c1;have z:=a.c2;have x:=a.f2;have y:=a.rows nx f;have q:=a.len;clear g;go_wp2;go_quiet ((go_at_call 140;exact Yo (zh _ _ (small (aO i)))));go_wp2;go_ret;exact⟨rfl,(a.drewN _).bad,(j.drewN _).setCell _ _⟩
theorem b4p(R A:M)(ws:J Us)(nx:M)(wr:Uv)(w:UF)(h:RS w R A ws nx wr)(m:Env w)(u:dN ws.length nx wr=UE)(a:nx<ws.length)(z:bB ws[nx]=UE):UI prog 138 #[R,.func (.func 143) #[] #[]] w fun e w'=>e=UW (V Y (cL ws[nx]))/\RS w' R A ws (nx+1) wr/\Kept R w w':=by
 have y:(nx:N)<(ws.length:N):=O;have f:=h.short _ (zg a);have i:=hide f;clear f;have t:=hide m;clear m;go_in;go_wp21;refine aK (kf R A ws nx wr w h) ?_;rintro w1 ⟨n,g⟩;have c:RS w1 R A ws nx wr:=by rw[g];exact h.drewN n
 have q:Kept R w w1:=by rw[g];exact (Kept.refl R w).drewN n
 have j:Hid (Env w1):=by show Env w1;rw[g];exact (aO t).drewN n
 have F:=c.c0;have E:=c.c1;have C:=c.f1;have D:=c.rows nx a;have x:=c.len;clear g;go_wp2;go_quiet ((go_at_call 143;exact Yl (MQ _ _ ((aO j).drewN _) (aO i))));go_wp2;go_ret;exact⟨rfl,(c.drewN _).step a,(q.drewN _).setCell _ _⟩
theorem b4q(R A:M)(ws:J Us)(nx:M)(wr:Uv)(w:UF)(h:RS w R A ws nx wr)(m:Env w)(u:dN ws.length nx wr=UE)(f:nx<ws.length)(z:bB ws[nx]=UD):UI prog 138 #[R,.func (.func 143) #[] #[]] w fun e w'=>e=UW (V Y (0))/\RS w' R A ws nx UE/\Kept R w w':=by
 have y:(nx:N)<(ws.length:N):=O;have c:=h.short _ (zg f);have i:=hide c;clear c;have t:=hide m;clear m;go_in;go_wp21;refine aK (kf R A ws nx wr w h) ?_;rintro w1 ⟨n,g⟩;have a:RS w1 R A ws nx wr:=by rw[g];exact h.drewN n
 have q:Kept R w w1:=by rw[g];exact (Kept.refl R w).drewN n
 have j:Hid (Env w1):=by show Env w1;rw[g];exact (aO t).drewN n
 have G:=a.c0;have F:=a.c1;have E:=a.c2;have C:=a.f2;have D:=a.rows nx f;have x:=a.len;clear g;go_wp2;go_quiet ((go_at_call 143;exact Yl (MQ _ _ ((aO j).drewN _) (aO i))));go_wp2;go_ret;exact⟨rfl,(a.drewN _).bad,(q.drewN _).setCell _ _⟩
theorem b1r(L m:M)(i j:N)(R A:M)(ws:J Us)(nx:M)(wr:Uv)(w:UF)(h:RS w R A ws nx wr)(y:w.cell? (L,0)=U ↑i)(x:w.cell? (m,0)=U ↑j)(D:dN ws.length nx wr=UE)(a:nx<ws.length)(F:gy ws[nx] i j=UE):UI prog 138 #[R,.func (.func 176) #[] #[L,m]] w fun e w'=>e=UW (V Y (Txt.dG ws[nx].data.toList))/\RS w' R A ws (nx+1) wr/\Kept R w w':=by
 have C:(nx:N)<(ws.length:N):=O;have g:=h.short _ (zg a);have u:=hide g;clear g;go_in;go_wp21;refine aK (kf R A ws nx wr w h) ?_;rintro w1 ⟨n,f⟩;have c:RS w1 R A ws nx wr:=by rw[f];exact h.drewN n
 have z:Kept R w w1:=by rw[f];exact (Kept.refl R w).drewN n
 have t:Hid (w1.cell? (L,0)=U ↑i):=by show w1.cell? _=_;rw[f];exact y
 have q:Hid (w1.cell? (m,0)=U ↑j):=by show w1.cell? _=_;rw[f];exact x
 clear y x;have K:=c.c0;have I:=c.c1;have G:=c.f1;have H:=c.rows nx a;have E:=c.len;clear f;go_wp2;go_quiet ((go_at_call 176;exact Yl (L9 _ L m i j _ (aO u) (aO t) (aO q))));go_wp2;go_ret;exact⟨rfl,(c.drewN _).step a,(z.drewN _).setCell _ _⟩
theorem b1s(L m:M)(i j:N)(R A:M)(ws:J Us)(nx:M)(wr:Uv)(w:UF)(h:RS w R A ws nx wr)(y:w.cell? (L,0)=U ↑i)(x:w.cell? (m,0)=U ↑j)(D:dN ws.length nx wr=UE)(g:nx<ws.length)(F:gy ws[nx] i j=UD):UI prog 138 #[R,.func (.func 176) #[] #[L,m]] w fun e w'=>e=UW (V Y (0))/\RS w' R A ws nx UE/\Kept R w w':=by
 have C:(nx:N)<(ws.length:N):=O;have f:=h.short _ (zg g);have u:=hide f;clear f;go_in;go_wp21;refine aK (kf R A ws nx wr w h) ?_;rintro w1 ⟨n,c⟩;have a:RS w1 R A ws nx wr:=by rw[c];exact h.drewN n
 have z:Kept R w w1:=by rw[c];exact (Kept.refl R w).drewN n
 have t:Hid (w1.cell? (L,0)=U ↑i):=by show w1.cell? _=_;rw[c];exact y
 have q:Hid (w1.cell? (m,0)=U ↑j):=by show w1.cell? _=_;rw[c];exact x
 clear y x;have Q:=a.c0;have K:=a.c1;have I:=a.c2;have G:=a.f2;have H:=a.rows nx g;have E:=a.len;clear c;go_wp2;go_quiet ((go_at_call 176;exact Yl (L9 _ L m i j _ (aO u) (aO t) (aO q))));go_wp2;go_ret;exact⟨rfl,(a.drewN _).bad,(z.drewN _).setCell _ _⟩
theorem b4r(f:UG)(R A:M)(ws:J Us)(nx:M)(wr:Uv)(w:UF)(h:RS w R A ws nx wr)(i:dN ws.length nx wr=UD):UI prog 133 #[R,f] w fun e w'=>e=UW (UQ ⟨#[]⟩)/\RS w' R A ws nx UE/\Kept R w w':=by
 go_in;go_wp21;refine aK (kf R A ws nx wr w h) ?_;rintro w1 ⟨n,a⟩;have c:RS w1 R A ws nx wr:=by rw[a];exact h.drewN n
 have g:Kept R w w1:=by rw[a];exact (Kept.refl R w).drewN n
 have m:=c.c2;have j:=c.f2;clear a;go_wp2;go_ret;exact⟨rfl,c.bad,g.setCell _ _⟩
theorem b4u(R A:M)(ws:J Us)(nx:M)(wr:Uv)(w:UF)(h:RS w R A ws nx wr)(D:dN ws.length nx wr=UE)(f:nx<ws.length)(G:Txt.gP ws[nx].data.toList=UE):UI prog 133 #[R,.func (.func 134) #[] #[]] w fun e w'=>e=UW (tJ ws[nx])/\RS w' R A ws (nx+1) wr/\Kept R w w':=by
 have F:(nx:N)<(ws.length:N):=O;have x:(0:N)<=(nx:N):=Yz _;have g:ws[nx].size<=160:=h.short _ (zg f);have q:=hide g;clear g;go_in;go_wp21;refine aK (kf R A ws nx wr w h) ?_;rintro w1 ⟨n,m⟩;have j:RS w1 R A ws nx wr:=by rw[m];exact h.drewN n
 have u:Kept R w w1:=by rw[m];exact (Kept.refl R w).drewN n
 have C:=j.c0;have z:=j.c1;have y:=j.rows nx f;have E:=j.len;clear m;go_wp21;go_region_held3 (fun w'=>w'.cell? (R,0)=U (UO A ws.length ws.length)/\w'.cell? (R,1)=U (V Y nx)/\w'.cell? (A,nx)=U (UQ ws[nx]))
  (first
   |go_keep
   |(
    go_split_ands;refine⟨?_,?_,?_⟩
    .exact cell_later a Uk
    .exact cell_later a Uk
    .exact cell_later a Uk))
  ((go_at_call 134;refine aK (MK _ _ (aO q)) fun w4 a=>?_))
 have c:UH w1 w1 w4:=⟨a.os,a.tape,a.output,a.size,a.block⟩;have i:=j.aD c;have t:=u.trans (Kept.aD c);have L:=i.c1;have K:=i.c2;have I:=i.f1;have H:=i.f2;clear C z y;go_wp2;go_ret;exact⟨rfl,i.step f,t.setCell _ _⟩
theorem b4v(R A:M)(ws:J Us)(nx:M)(wr:Uv)(w:UF)(h:RS w R A ws nx wr)(D:dN ws.length nx wr=UE)(g:nx<ws.length)(G:Txt.gP ws[nx].data.toList=UD):UI prog 133 #[R,.func (.func 134) #[] #[]] w fun e w'=>e=UW (UQ ⟨#[]⟩)/\RS w' R A ws nx UE/\Kept R w w':=by
 have F:(nx:N)<(ws.length:N):=O;have x:(0:N)<=(nx:N):=Yz _;have f:ws[nx].size<=160:=h.short _ (zg g);have q:=hide f;clear f;go_in;go_wp21;refine aK (kf R A ws nx wr w h) ?_;rintro w1 ⟨n,m⟩;have j:RS w1 R A ws nx wr:=by rw[m];exact h.drewN n
 have u:Kept R w w1:=by rw[m];exact (Kept.refl R w).drewN n
 have C:=j.c0;have z:=j.c1;have y:=j.rows nx g;have E:=j.len;clear m;go_wp21;go_region_held3 (fun w'=>w'.cell? (R,0)=U (UO A ws.length ws.length)/\w'.cell? (R,1)=U (V Y nx)/\w'.cell? (A,nx)=U (UQ ws[nx]))
  (first
   |go_keep
   |(
    go_split_ands;refine⟨?_,?_,?_⟩
    .exact cell_later a Uk
    .exact cell_later a Uk
    .exact cell_later a Uk))
  ((go_at_call 134;refine aK (MK _ _ (aO q)) fun w4 a=>?_))
 have c:UH w1 w1 w4:=⟨a.os,a.tape,a.output,a.size,a.block⟩;have i:=j.aD c;have t:=u.trans (Kept.aD c);have L:=i.c1;have K:=i.c2;have I:=i.f1;have H:=i.f2;clear C z y;go_wp2;go_ret;exact⟨rfl,i.bad,t.setCell _ _⟩
theorem uT(h:dN ws.length nx wr=UD):fQ ws nx wr B=UD:=by simp[fQ,h]
theorem pd{b:Uv}(h:dN ws.length nx wr=UE)(a:nx<ws.length)(c:B ws[nx]=b):fQ ws nx wr B=b:=by rw[fQ,h,sC ws nx a,c,Bool.true_and]
theorem b4t(R A:M)(ws:J Us)(nx:M)(wr:Uv)(w:UF)(h:RS w R A ws nx wr):UI prog 138 #[R,.func (.func 142) #[] #[]] w fun e w'=>e=UW (V Y (gS ws nx wr (fun s=>Txt.isNum s.data.toList) (fun s=>Txt.dG s.data.toList)))/\RS w' R A ws (fP ws nx wr (fun s=>Txt.isNum s.data.toList)) (fL ws nx wr (fun s=>Txt.isNum s.data.toList))/\Kept R w w':=by
 cases c:dN ws.length nx wr
 .have t:=uT (B:=(fun s=>Txt.isNum s.data.toList)) c;rw[gS,fP,fL,t];exact za _ R A ws nx wr w h c
 .have a:=sH c
  cases f:(fun s=>Txt.isNum s.data.toList) ws[nx]
  .have t:=pd (B:=(fun s=>Txt.isNum s.data.toList)) c a f;rw[gS,fP,fL,t];exact b7O R A ws nx wr w h c a (small (h.short _ (zg a))) f
  .have t:=pd (B:=(fun s=>Txt.isNum s.data.toList)) c a f;rw[gS,fP,fL,t,sC ws nx a];exact b7N R A ws nx wr w h c a (small (h.short _ (zg a))) f
theorem MU(R A:M)(ws:J Us)(nx:M)(wr:Uv)(w:UF)(h:RS w R A ws nx wr)(g:Env w):UI prog 138 #[R,.func (.func 139) #[] #[]] w fun e w'=>e=UW (V Y (gS ws nx wr Txt.cU dV))/\RS w' R A ws (fP ws nx wr Txt.cU) (fL ws nx wr Txt.cU)/\Kept R w w':=by
 cases c:dN ws.length nx wr
 .have t:=uT (B:=Txt.cU) c;rw[gS,fP,fL,t];exact za _ R A ws nx wr w h c
 .have a:=sH c
  cases f:Txt.cU ws[nx]
  .have t:=pd (B:=Txt.cU) c a f;rw[gS,fP,fL,t];exact b4x R A ws nx wr w h g c a f
  .have t:=pd (B:=Txt.cU) c a f;rw[gS,fP,fL,t,sC ws nx a];exact b4w R A ws nx wr w h g c a f
theorem b0c(R A:M)(ws:J Us)(nx:M)(wr:Uv)(w:UF)(h:RS w R A ws nx wr):UI prog 138 #[R,.func (.func 140) #[] #[]] w fun e w'=>e=UW (V Y (gS ws nx wr Txt.dZ Txt.eA))/\RS w' R A ws (fP ws nx wr Txt.dZ) (fL ws nx wr Txt.dZ)/\Kept R w w':=by
 cases c:dN ws.length nx wr
 .have t:=uT (B:=Txt.dZ) c;rw[gS,fP,fL,t];exact za _ R A ws nx wr w h c
 .have a:=sH c
  cases f:Txt.dZ ws[nx]
  .have t:=pd (B:=Txt.dZ) c a f;rw[gS,fP,fL,t];exact b1v R A ws nx wr w h c a f
  .have t:=pd (B:=Txt.dZ) c a f;rw[gS,fP,fL,t,sC ws nx a];exact b1u R A ws nx wr w h c a f
theorem MV(R A:M)(ws:J Us)(nx:M)(wr:Uv)(w:UF)(h:RS w R A ws nx wr)(g:Env w):UI prog 138 #[R,.func (.func 143) #[] #[]] w fun e w'=>e=UW (V Y (gS ws nx wr bB cL))/\RS w' R A ws (fP ws nx wr bB) (fL ws nx wr bB)/\Kept R w w':=by
 cases c:dN ws.length nx wr
 .have t:=uT (B:=bB) c;rw[gS,fP,fL,t];exact za _ R A ws nx wr w h c
 .have a:=sH c
  cases f:bB ws[nx]
  .have t:=pd (B:=bB) c a f;rw[gS,fP,fL,t];exact b4q R A ws nx wr w h g c a f
  .have t:=pd (B:=bB) c a f;rw[gS,fP,fL,t,sC ws nx a];exact b4p R A ws nx wr w h g c a f
theorem b0b(L j:M)(c f:N)(R A:M)(ws:J Us)(nx:M)(wr:Uv)(w:UF)(h:RS w R A ws nx wr)(q:w.cell? (L,0)=U ↑c)(m:w.cell? (j,0)=U ↑f):UI prog 138 #[R,.func (.func 176) #[] #[L,j]] w fun e w'=>e=UW (V Y (gS ws nx wr (fun s=>gy s c f) (fun s=>Txt.dG s.data.toList)))/\RS w' R A ws (fP ws nx wr (fun s=>gy s c f)) (fL ws nx wr (fun s=>gy s c f))/\Kept R w w':=by
 cases g:dN ws.length nx wr
 .have t:=uT (B:=(fun s=>gy s c f)) g;rw[gS,fP,fL,t];exact za _ R A ws nx wr w h g
 .have a:=sH g
  cases i:(fun s=>gy s c f) ws[nx]
  .have t:=pd (B:=(fun s=>gy s c f)) g a i;rw[gS,fP,fL,t];exact b1s L j c f R A ws nx wr w h q m g a i
  .have t:=pd (B:=(fun s=>gy s c f)) g a i;rw[gS,fP,fL,t,sC ws nx a];exact b1r L j c f R A ws nx wr w h q m g a i
def oL(ws:J Us)(nx:M)(wr:Uv):Us:=if fQ ws nx wr (fun s=>Txt.gP s.data.toList) then tJ (ws.getD nx Ym) else ⟨#[]⟩
theorem b2E(R A:M)(ws:J Us)(nx:M)(wr:Uv)(w:UF)(h:RS w R A ws nx wr):UI prog 133 #[R,.func (.func 134) #[] #[]] w fun e w'=>e=UW (oL ws nx wr)/\RS w' R A ws (fP ws nx wr (fun s=>Txt.gP s.data.toList)) (fL ws nx wr (fun s=>Txt.gP s.data.toList))/\Kept R w w':=by
 cases c:dN ws.length nx wr
 .have t:=uT (B:=fun s=>Txt.gP s.data.toList) c;rw[oL,fP,fL,t];exact b4r _ R A ws nx wr w h c
 .have a:=sH c
  cases f:Txt.gP ws[nx].data.toList
  .have t:=pd (B:=fun s=>Txt.gP s.data.toList) c a f;rw[oL,fP,fL,t];exact b4v R A ws nx wr w h c a f
  .have t:=pd (B:=fun s=>Txt.gP s.data.toList) c a f;rw[oL,fP,fL,t,sC ws nx a];exact b4u R A ws nx wr w h c a f
theorem Bp(lo hi:N)(R A:M)(ws:J Us)(nx:M)(wr:Uv)(w:UF)(h:RS w R A ws nx wr):UI prog 135 #[R,lo,hi] w fun e w'=>e=UW (V Y (gS ws nx wr (fun s=>gy s lo hi) (fun s=>Txt.dG s.data.toList)))/\RS w' R A ws (fP ws nx wr (fun s=>gy s lo hi)) (fL ws nx wr (fun s=>gy s lo hi))/\Kept R w w':=by
 go_in;go_wp21;obtain⟨X,a⟩:∃ X,X=(w.alloc (UX #[lo] 3)).alloc (UX #[hi] 3):=⟨_,rfl⟩;rw[<- a];have c:UH w w X:=by rw[a];exact aS.alloc Ui _
 have m:X.cell? (w,0)=U ↑lo:=by rw[a];simp
 have j:X.cell? (w.heap.size+1,0)=U ↑hi:=by rw[a];simp
 clear a;refine aK (b0b w (w.heap.size+1) lo hi R A ws nx wr X (h.aD c) m j) ?_;rintro q ⟨i,g⟩;have f:=(Kept.aD (R:=R) c).trans g;go_wp2;go_ret;exact⟨rfl,i,f⟩
theorem vp(R A:M)(ws:J Us)(nx:M)(wr:Uv)(w:UF)(h:RS w R A ws nx wr):UI prog 88 #[R] w fun e w'=>e=UW (oL ws nx wr)/\RS w' R A ws (fP ws nx wr (fun s=>Txt.gP s.data.toList)) (fL ws nx wr (fun s=>Txt.gP s.data.toList))/\Kept R w w':=by
 go_in;go_wp21;refine aK (b2E R A ws nx wr w h) ?_;rintro f ⟨c,a⟩;go_wp2;go_ret;exact⟨rfl,c,a⟩
theorem JS(R A:M)(ws:J Us)(nx:M)(wr:Uv)(w:UF)(h:RS w R A ws nx wr):UI prog 93 #[R] w fun e w'=>e=UW (V Y (gS ws nx wr (fun s=>Txt.isNum s.data.toList) (fun s=>Txt.dG s.data.toList)))/\RS w' R A ws (fP ws nx wr (fun s=>Txt.isNum s.data.toList)) (fL ws nx wr (fun s=>Txt.isNum s.data.toList))/\Kept R w w':=by
 go_in;go_wp21;refine aK (b4t R A ws nx wr w h) ?_;rintro f ⟨c,a⟩;go_wp2;go_ret;exact⟨rfl,c,a⟩
theorem Be(R A:M)(ws:J Us)(nx:M)(wr:Uv)(w:UF)(h:RS w R A ws nx wr):UI prog 89 #[R] w fun e w'=>e=UW (V Y (gS ws nx wr (fun s=>gy s 1 9) (fun s=>Txt.dG s.data.toList)))/\RS w' R A ws (fP ws nx wr (fun s=>gy s 1 9)) (fL ws nx wr (fun s=>gy s 1 9))/\Kept R w w':=by
 go_in;go_wp21;refine aK (Bp 1 9 R A ws nx wr w h) ?_;rintro f ⟨c,a⟩;go_wp2;go_ret;exact⟨rfl,c,a⟩
theorem zi(R A:M)(ws:J Us)(nx:M)(wr:Uv)(w:UF)(h:RS w R A ws nx wr):UI prog 91 #[R] w fun e w'=>e=UW (V Y (gS ws nx wr (fun s=>gy s 1 1048320) (fun s=>Txt.dG s.data.toList)))/\RS w' R A ws (fP ws nx wr (fun s=>gy s 1 1048320)) (fL ws nx wr (fun s=>gy s 1 1048320))/\Kept R w w':=by
 go_in;go_wp21;refine aK (Bp 1 1048320 R A ws nx wr w h) ?_;rintro f ⟨c,a⟩;go_wp2;go_ret;exact⟨rfl,c,a⟩
theorem FH(R A:M)(ws:J Us)(nx:M)(wr:Uv)(w:UF)(h:RS w R A ws nx wr):UI prog 177 #[R] w fun e w'=>e=UW (V Y (gS ws nx wr (fun s=>gy s 1 99) (fun s=>Txt.dG s.data.toList)))/\RS w' R A ws (fP ws nx wr (fun s=>gy s 1 99)) (fL ws nx wr (fun s=>gy s 1 99))/\Kept R w w':=by
 go_in;go_wp21;refine aK (Bp 1 99 R A ws nx wr w h) ?_;rintro f ⟨c,a⟩;go_wp2;go_ret;exact⟨rfl,c,a⟩
theorem RS.other{v:UG}(h:RS w R A ws nx wr)(c:b≠R)(f:0<ws.length->b≠A):RS (w.setCell (b,o) v) R A ws nx wr:=by have g:∀ j:M,(w.setCell (b,o) v).cell? (R,j)=w.cell? (R,j):=fun j=>YA w (b,o) (R,j) v c;refine⟨(g 0).trans h.c0,(g 1).trans h.c1,(g 2).trans h.c2,(zF ..).trans h.f1,(zF ..).trans h.f2,h.ne,fun i a=>?_,h.len,h.xU,h.short⟩;exact (YA w (b,o) (A,i) v (f O)).trans (h.rows i a)
theorem RS.lt(h:RS w R A ws nx wr):R<w/\(0<ws.length->A<w) :=⟨U1 _ (R,0) h.c0,fun a=>U1 _ (A,0) (h.rows 0 a)⟩
theorem Kept.aW(h:Kept R w w')(f:w<=b)(v:UG):Kept R w (w'.setCell (b,o) v) :=⟨(Below.setCell (B:=0) (Below.refl 0 w') (p:=(b,o)) (zN _) v).os.trans h.os,(Below.setCell (B:=0) (Below.refl 0 w') (p:=(b,o)) (zN _) v).tape.trans h.tape,(Below.setCell (B:=0) (Below.refl 0 w') (p:=(b,o)) (zN _) v).output.trans h.output,U0 h.size (Below.setCell (B:=0) (Below.refl 0 w') (p:=(b,o)) (zN _) v).size,fun k c a=>(Below.heap_setCell w' (b,o) v k (show k≠b by omega)).trans (h.block k c a)⟩
theorem Kept.frozen(h:Kept R w w')(a:b≠R)(c:b<w):w'.frozen? (b,o)=w.frozen? (b,o):=Wk (w:=w) (h.block b c a)
def Nd(ws:J Us)(nx:M)(wr:Uv)(B C:Us->Uv):M:=fP ws (fP ws nx wr B) (fL ws nx wr B) C
def Nc(ws:J Us)(nx:M)(wr:Uv)(B C:Us->Uv):Uv:=fL ws (fP ws nx wr B) (fL ws nx wr B) C
theorem Bc(R A:M)(ws:J Us)(nx:M)(wr:Uv)(w:UF)(h:RS w R A ws nx wr)(x:Env w)(L:10<=R):UI prog 95 #[R] w fun e w'=>e=UW (UT #[V Y (gS ws nx wr bB cL),V Y (gS ws (fP ws nx wr bB) (fL ws nx wr bB) bB cL)])/\RS w' R A ws (Nd ws nx wr bB bB) (Nc ws nx wr bB bB)/\Kept R w w':=by
 have Q:=hide x;clear x;go_in;go_wp21;let⟨hRl,hAl⟩:=h.lt;obtain⟨X,c⟩:∃ X,X=w.alloc (UX #[V Y 0,V Y 0] 83):=⟨_,rfl⟩;rw[<- c];have g:UH w w X:=by rw[c];exact aS
 have t:X.cell? (w,0)=U (V Y 0):=by rw[c];simp
 have q:X.cell? (w,1)=U (V Y 0):=by rw[c];simp
 have m:∀ j:M,X.frozen? (w,j)=UD:=fun j=>by rw[c];simp
 have F:w<X.heap.size:=by rw[c];simp
 clear c;have i:=(aO Q).later g;refine aK (MV R A ws nx wr X (h.aD g) i) ?_;rintro H ⟨z,u⟩;have C:=i.kept u L;go_wp21;refine aK (MV R A ws _ _ H z C) ?_;rintro G ⟨y,K⟩;have a:=u.trans K;have E:=a.cell (b:=w) (o:=0) O t;have D:=a.cell (b:=w) (o:=1) O q;have T:∀ j:M,G.frozen? (w,j)=UD:=fun j=>(a.frozen O F).trans (m j);have I:=(Kept.aD (R:=R) g).trans a;have S:=hide y;clear z y C i t q m;go_wp2;refine bodyPost_ret (v:=UT #[V Y (gS ws nx wr bB cL),V Y (gS ws (fP ws nx wr bB) (fL ws nx wr bB) bB cL)]) (by simp[results,results95,go_sem,E,D]) rfl ⟨rfl,?_,?_⟩;exact ((aO S).other O (fun f=>by have:=hAl f;omega)).other O (fun f=>by have:=hAl f;omega);exact (I.aW aJ _).aW aJ _
def bJ(s:Us):Uv:=Txt.gP s.data.toList
def cF(s:Us):Uv:=gy s 1 9
def bD(s:Us):N:=Txt.dG s.data.toList
def gG(ws:J Us)(B:Us->Uv)(st:M × Uv):M × Uv:=(fP ws st.1 st.2 B,fL ws st.1 st.2 B)
def aP(ws:J Us)(a:J (Us->Uv))(st:M × Uv):M × Uv:=a.foldl (fun st B=>gG ws B st) st
def gW(ws:J Us)(st:M × Uv):Us:=oL ws st.1 st.2
def bV(ws:J Us)(st:M × Uv)(B:Us->Uv)(a:Us->N):N:=gS ws st.1 st.2 B a
theorem FG(R A:M)(ws:J Us)(st:M × Uv)(w:UF)(h:RS w R A ws st.1 st.2)(D:Env w)(m:10<=R):
  UI prog 90 #[R] w fun e w' =>
   e=UW (UT #[gW ws st,V Y (bV ws (aP ws [bJ] st) cF bD),V Y (bV ws (aP ws [bJ,cF] st) bB cL),V Y (bV ws (aP ws [bJ,cF,bB] st) bB cL)]) /\
   RS w' R A ws (aP ws [bJ,cF,bB,bB] st).1 (aP ws [bJ,cF,bB,bB] st).2/\Kept R w w':=by
 have HE:=hide D;clear D;go_in;go_wp21;obtain⟨aa,f⟩:=h.lt;obtain⟨X,c⟩:∃ X,X=w.alloc (UX #[UQ ⟨#[]⟩,V Y 0,V Y 0,V Y 0] 145):=⟨_,rfl⟩;rw[<- c];have i:UH w w X:=by rw[c];exact aS
 have y:X.cell? (w,0)=U (UQ ⟨#[]⟩):=by rw[c];simp
 have x:X.cell? (w,1)=U (V Y 0):=by rw[c];simp
 have u:X.cell? (w,2)=U (V Y 0):=by rw[c];simp
 have t:X.cell? (w,3)=U (V Y 0):=by rw[c];simp
 have q:∀ j:M,X.frozen? (w,j)=UD:=fun j=>by rw[c];simp
 have W:w<X.heap.size:=by rw[c];simp
 clear c;have H:=(aO HE).later i;refine aK (vp R A ws st.1 st.2 X (h.aD i)) ?_;rintro w1 ⟨G,C⟩;have K:=H.kept C m;go_wp21;refine aK (Be R A ws _ _ w1 G) ?_;rintro w2 ⟨F,z⟩;have I:=K.kept z m;go_wp21;refine aK (Bc R A ws _ _ w2 F I m) ?_;rintro w3 ⟨E,k3⟩;have a:=(C.trans z).trans k3;have T:=a.cell (b:=w) (o:=0) O y;have S:=a.cell (b:=w) (o:=1) O x;have Q:=a.cell (b:=w) (o:=2) O u;have L:=a.cell (b:=w) (o:=3) O t;have yf:∀ j:M,w3.frozen? (w,j)=UD:=fun j=>(a.frozen O W).trans (q j);have kk:=(Kept.aD (R:=R) i).trans a;have H3:=hide E;clear G F E K I H y x u t q;go_wp2;refine bodyPost_ret (v:=UT #[gW ws st,V Y (bV ws (aP ws [bJ] st) cF bD),V Y (bV ws (aP ws [bJ,cF] st) bB cL),V Y (bV ws (aP ws [bJ,cF,bB] st) bB cL)]) (by simp[results,results90,go_sem,T,S,Q,L];exact⟨rfl,rfl,rfl,rfl⟩) rfl ⟨rfl,?_,?_⟩;exact ((((aO H3).other O (fun g=>by have:=f g;omega)).other O (fun g=>by have:=f g;omega)).other O (fun g=>by have:=f g;omega)).other O (fun g=>by have:=f g;omega);exact (((kk.aW aJ _).aW aJ _).aW aJ _).aW aJ _
theorem b9H(R A:M)(ws:J Us)(st:M × Uv)(w:UF)(h:RS w R A ws st.1 st.2)(E:dN ws.length (aP ws [bJ] st).1 (aP ws [bJ] st).2=UD):
  UI prog 94 #[R] w fun e w' =>e=UW (UT #[gW ws st,UD,V UV 0,V UV 0])/\RS w' R A ws (aP ws [bJ] st).1 (aP ws [bJ] st).2/\Kept R w w':=by
 go_in;go_wp21;obtain⟨T,c⟩:=h.lt;obtain⟨X,a⟩:∃ X,X=w.alloc (UX #[UQ ⟨#[]⟩,UD,V UV 0,V UV 0] 163):=⟨_,rfl⟩;rw[<- a];have F:UH w w X:=by rw[a];exact aS
 have C:X.cell? (w,0)=U (UQ ⟨#[]⟩):=by rw[a];simp
 have z:X.cell? (w,1)=U ↑UD:=by rw[a];simp
 have y:X.cell? (w,2)=U (V UV 0):=by rw[a];simp
 have x:X.cell? (w,3)=U (V UV 0):=by rw[a];simp
 have u:∀ j:M,X.frozen? (w,j)=UD:=fun j=>by rw[a];simp
 have Q:w<X.heap.size:=by rw[a];simp
 clear a;refine aK (vp R A ws st.1 st.2 X (h.aD F)) ?_;rintro f ⟨G,D⟩;have z1:=D.size;go_wp21;obtain⟨Y,g⟩:∃ Y,Y=f.alloc (UX #[oL ws st.1 st.2,UD,V UV 0,V UV 0] 163):=⟨_,rfl⟩;rw[<- g];have t:UH f f Y:=by rw[g];exact aS
 have v0:Y.cell? (f,0)=U (UQ (oL ws st.1 st.2)):=by rw[g];simp
 have v1:Y.cell? (f,1)=U ↑UD:=by rw[g];simp
 have v2:Y.cell? (f,2)=U (V UV 0):=by rw[g];simp
 have v3:Y.cell? (f,3)=U (V UV 0):=by rw[g];simp
 have ys:f<Y.heap.size:=by rw[g];simp
 clear g;have q:=D.trans (Kept.aD (R:=R) t);have L:=q.cell (b:=w) (o:=0) O C;have K:=q.cell (b:=w) (o:=1) O z;have I:=q.cell (b:=w) (o:=2) O y;have H:=q.cell (b:=w) (o:=3) O x;have yf:∀ j:M,Y.frozen? (w,j)=UD:=fun j=>(q.frozen O Q).trans (u j);have m:=G.aD t;refine aK (kf R A ws _ _ Y m) ?_;rintro w2 ⟨n,rfl⟩;have W:Hid (dN ws.length (fP ws st.1 st.2 fun s=>Txt.gP s.data.toList) (fL ws st.1 st.2 fun s=>Txt.gP s.data.toList)=UD):=E;rw[W];have S:=(Kept.aD (R:=R) F).trans q;have H1:=hide m;clear G m C z y x u E;go_wp2;refine bodyPost_ret (v:=UT #[gW ws st,UD,V UV 0,V UV 0]) (by simp[results,results94,go_sem,L,K,I,H];rfl) rfl ⟨rfl,?_,?_⟩
 .exact (((((aO H1).drewN _).other O (fun i=>by have:=c i;omega)).other O (fun i=>by have:=c i;omega)).other O (fun i=>by have:=c i;omega)).other O (fun i=>by have:=c i;omega)
 .exact ((((S.drewN _).aW aJ _).aW aJ _).aW aJ _).aW aJ _
theorem b7W(R A:M)(ws:J Us)(st:M × Uv)(w:UF)(h:RS w R A ws st.1 st.2)(he:Env w)(Q:10<=R)(L:dN ws.length (aP ws [bJ] st).1 (aP ws [bJ] st).2=UE):
  UI prog 94 #[R] w fun e w' =>e=UW (UT #[gW ws st,UE,V UV (bV ws (aP ws [bJ] st) bB cL),V UV (bV ws (aP ws [bJ,bB] st) bB cL)])/\RS w' R A ws (aP ws [bJ,bB,bB] st).1 (aP ws [bJ,bB,bB] st).2/\Kept R w w':=by
 have HE:=hide he;clear he;go_in;go_wp21;obtain⟨ac,f⟩:=h.lt;obtain⟨X,t⟩:∃ X,X=w.alloc (UX #[UQ ⟨#[]⟩,UD,V UV 0,V UV 0] 163):=⟨_,rfl⟩;rw[<- t];have H:UH w w X:=by rw[t];exact aS
 have x0:X.cell? (w,0)=U (UQ ⟨#[]⟩):=by rw[t];simp
 have x1:X.cell? (w,1)=U ↑UD:=by rw[t];simp
 have x2:X.cell? (w,2)=U (V UV 0):=by rw[t];simp
 have W:X.cell? (w,3)=U (V UV 0):=by rw[t];simp
 have T:∀ j:M,X.frozen? (w,j)=UD:=fun j=>by rw[t];simp
 have xs:w<X.heap.size:=by rw[t];simp
 clear t;have eX:=(aO HE).later H;refine aK (vp R A ws st.1 st.2 X (h.aD H)) ?_;rintro a ⟨h1,K⟩;have z1:=K.size;have e1:=eX.kept K Q;go_wp21;obtain⟨Y,q⟩:∃ Y,Y=a.alloc (UX #[oL ws st.1 st.2,UD,V UV 0,V UV 0] 163):=⟨_,rfl⟩;rw[<- q];have i:UH a a Y:=by rw[q];exact aS
 have G:Y.cell? (a,0)=U (UQ (oL ws st.1 st.2)):=by rw[q];simp
 have F:Y.cell? (a,1)=U ↑UD:=by rw[q];simp
 have v2:Y.cell? (a,2)=U (V UV 0):=by rw[q];simp
 have E:Y.cell? (a,3)=U (V UV 0):=by rw[q];simp
 have D:∀ j:M,Y.frozen? (a,j)=UD:=fun j=>by rw[q];simp
 have ys:a<Y.heap.size:=by rw[q];simp
 clear q;have kY:=K.trans (Kept.aD (R:=R) i);have eY:=e1.later i;have x:=h1.aD i;refine aK (kf R A ws _ _ Y x) ?_;rintro w2 ⟨n,c⟩;have HM:Hid (dN ws.length (fP ws st.1 st.2 fun s=>Txt.gP s.data.toList) (fL ws st.1 st.2 fun s=>Txt.gP s.data.toList)=UE):=L;rw[HM];have S:=x.drewN n;rw[<- c] at S;have k2:Kept R X w2:=by rw[c];exact kY.drewN n
 have e2:Env w2:=by rw[c];exact eY.drewN n
 have G:w2.cell? (a,0)=U (UQ (oL ws st.1 st.2)):=by rw[c];exact G
 have F:w2.cell? (a,1)=U ↑UD:=by rw[c];exact F
 have v2:w2.cell? (a,2)=U (V UV 0):=by rw[c];exact v2
 have E:w2.cell? (a,3)=U (V UV 0):=by rw[c];exact E
 have D:∀ j:M,w2.frozen? (a,j)=UD:=fun j=>by rw[c];exact D j
 have I:a<w2.heap.size:=by rw[c];exact ys
 have ad:=hide L;clear c x eY kY i ys h1 L;have H2:=hide S;have ae:=hide e2;clear S e2 eX e1;go_wp21;have y:a≠R:=O;have u:=(aO H2).other (b:=a) (o:=1) (v:=UR UE) y (fun g=>by have:=f g;omega);obtain⟨Z,m⟩:∃ Z,Z=w2.setCell (a,1) UE:=⟨_,rfl⟩;rw[<- m] at u ⊢;have u0:Z.cell? (a,0)=U (UQ (oL ws st.1 st.2)):=by rw[m];exact (bC Ui).trans G
 have u1:Z.cell? (a,1)=U ↑UE:=by rw[m];exact zm _ _ _ F
 have u2:Z.cell? (a,2)=U (V UV 0):=by rw[m];exact (bC Ui).trans v2
 have u3:Z.cell? (a,3)=U (V UV 0):=by rw[m];exact (bC Ui).trans E
 have uf:∀ j:M,Z.frozen? (a,j)=UD:=fun j=>by rw[m];exact (zF ..).trans (D j)
 have kZ:Kept R X Z:=by rw[m];exact k2.aW O _
 have zs:a<Z.heap.size:=by rw[m];simpa using I
 have eZ:=(aO HE).kept (((Kept.aD (R:=R) H)).trans kZ) Q;clear m G F v2 E D;refine aK (Bc R A ws _ _ Z u eZ Q) ?_;rintro w3 ⟨h3,C⟩;have z:=kZ.trans C;have y0:=z.cell (b:=w) (o:=0) O x0;have y1:=z.cell (b:=w) (o:=1) O x1;have y2:=z.cell (b:=w) (o:=2) O x2;have y3:=z.cell (b:=w) (o:=3) O W;have yf:∀ j:M,w3.frozen? (w,j)=UD:=fun j=>(z.frozen O xs).trans (T j);have q0:=C.cell (b:=a) (o:=0) y u0;have q1:=C.cell (b:=a) (o:=1) y u1;have q2:=C.cell (b:=a) (o:=2) y u2;have q3:=C.cell (b:=a) (o:=3) y u3;have qf:∀ j:M,w3.frozen? (a,j)=UD:=fun j=>(C.frozen y zs).trans (uf j);have kt:=(Kept.aD (R:=R) H).trans z;have H3:=hide h3;have ab:w≠a.heap.size:=O;have aa:a≠w.heap.size:=O;clear h3 u eZ x0 x1 x2 W T u0 u1 u2 u3 uf;go_wp2;refine bodyPost_ret (v:=UT #[gW ws st,UE,V UV (bV ws (aP ws [bJ] st) bB cL),V UV (bV ws (aP ws [bJ,bB] st) bB cL)]) (by simp[results,results94,go_sem,y0,y1,y2,y3];exact⟨rfl,rfl,rfl⟩) rfl ⟨rfl,?_,?_⟩;exact ((((((aO H3).other O (fun g=>by have:=f g;omega)).other O (fun g=>by have:=f g;omega)).other O (fun g=>by have:=f g;omega)).other O (fun g=>by have:=f g;omega)).other O (fun g=>by have:=f g;omega)).other O (fun g=>by have:=f g;omega);exact (((((kt.aW O _).aW O _).aW aJ _).aW aJ _).aW aJ _).aW aJ _
theorem b7L(f:UG)(R A:M)(ws:J Us)(nx:M)(wr:Uv)(w:UF)(h:RS w R A ws nx wr)(hm:dN ws.length nx wr=UD):UI prog 178 #[R,f] w fun e w'=>e=UW (gD [])/\RS w' R A ws nx UE/\Kept R w w':=by
 go_in;go_wp21;obtain⟨X,t⟩:∃ X,X=(w.alloc (UX #[UD,UD,UD,UD,UD,UD,UD] 153)).alloc (UX #[UD,UD,UD,UD,UD,UD,UD] 153):=⟨_,rfl⟩;rw[<- t];let⟨hRl,hAl⟩:=h.lt;have u:UH w w X:=by rw[t];exact aS.alloc Ui _
 have hZ:w+2=X.heap.size:=by rw[t];simp
 have i:DS X w []:=by rw[t];refine⟨?_,?_,?_,?_,?_,?_,?_,fun j=>?_⟩ <;> simp[aI]
 have m:DS X (w.heap.size+1) []:=by rw[t];refine⟨?_,?_,?_,?_,?_,?_,?_,fun j=>?_⟩ <;> simp[aI]
 clear t;refine aK (kf R A ws nx wr X (h.aD u)) ?_;rintro w1 ⟨n,q⟩;have x:RS w1 R A ws nx wr:=by rw[q];exact (h.aD u).drewN n
 have H:Kept R w w1:=by rw[q];exact (Kept.aD u).drewN n
 have a:DS w1 w []:=by rw[q];exact⟨i.c0,i.c1,i.c2,i.c3,i.c4,i.c5,i.c6,i.f⟩
 have c:DS w1 (w.heap.size+1) []:=by rw[q];exact⟨m.c0,m.c1,m.c2,m.c3,m.c4,m.c5,m.c6,m.f⟩
 have I:X=w1.heap.size:=by rw[q];rfl
 have c2:=x.c2;have f2:=x.f2;clear q i m;have q0:=c.c0;have W:=c.c1;have T:=c.c2;have S:=c.c3;have Q:=c.c4;have L:=c.c5;have K:=c.c6;have G:=a.c0;have F:=a.c1;have E:=a.c2;have D:=a.c3;have C:=a.c4;have z:=a.c5;have y:=a.c6;have fR:=a.f;have fD:=c.f;have n1:R≠w:=O;have n2:R≠w+1:=O;go_wp2;refine bodyPost_ret (v:=gD []) (by simp[results,results178,go_sem,gD,aI,G,F,E,D,C,z,y]) rfl ⟨rfl,?_,?_⟩;exact (((((((x.bad.other O (fun g=>by have:=hAl g;omega)).other O (fun g=>by have:=hAl g;omega)).other O (fun g=>by have:=hAl g;omega)).other O (fun g=>by have:=hAl g;omega)).other O (fun g=>by have:=hAl g;omega)).other O (fun g=>by have:=hAl g;omega)).other O (fun g=>by have:=hAl g;omega));exact (((((((H.setCell _ _).aW aJ _).aW aJ _).aW aJ _).aW aJ _).aW aJ _).aW aJ _).aW aJ _
theorem c3r{acc0:J N}(acc:J N)(h:DS w b acc0):DS (((((((w.setCell (b,0) (aI acc 0)).setCell (b,1) (aI acc 1)).setCell (b,2) (aI acc 2)).setCell (b,3) (aI acc 3)).setCell (b,4) (aI acc 4)).setCell (b,5) (aI acc 5)).setCell (b,6) (aI acc 6)) b acc:=by
 have s:∀ (x:UF) (o:M) (v u:UG),x.cell? (b,o)=U u->(x.setCell (b,o) v).cell? (b,o)=U v:=fun x o v u a=>zm x (b,o) v a;have o:∀ (x:UF) (i j:M) (v:UG),i≠j->(x.setCell (b,i) v).cell? (b,j)=x.cell? (b,j):=fun x i j v _=>bC Ui;refine⟨?_,?_,?_,?_,?_,?_,?_,fun j=>?_⟩
 .rw[o _ 6 0 _ Uj,o _ 5 0 _ Uj,o _ 4 0 _ Uj,o _ 3 0 _ Uj,o _ 2 0 _ Uj,o _ 1 0 _ Uj];refine s _ _ _ (aI acc0 0) ?_;exact h.c0
 .rw[o _ 6 1 _ Uj,o _ 5 1 _ Uj,o _ 4 1 _ Uj,o _ 3 1 _ Uj,o _ 2 1 _ Uj];refine s _ _ _ (aI acc0 1) ?_;rw[o _ 0 1 _ Uj];exact h.c1
 .rw[o _ 6 2 _ Uj,o _ 5 2 _ Uj,o _ 4 2 _ Uj,o _ 3 2 _ Uj];refine s _ _ _ (aI acc0 2) ?_;rw[o _ 1 2 _ Uj,o _ 0 2 _ Uj];exact h.c2
 .rw[o _ 6 3 _ Uj,o _ 5 3 _ Uj,o _ 4 3 _ Uj];refine s _ _ _ (aI acc0 3) ?_;rw[o _ 2 3 _ Uj,o _ 1 3 _ Uj,o _ 0 3 _ Uj];exact h.c3
 .rw[o _ 6 4 _ Uj,o _ 5 4 _ Uj];refine s _ _ _ (aI acc0 4) ?_;rw[o _ 3 4 _ Uj,o _ 2 4 _ Uj,o _ 1 4 _ Uj,o _ 0 4 _ Uj];exact h.c4
 .rw[o _ 6 5 _ Uj];refine s _ _ _ (aI acc0 5) ?_;rw[o _ 4 5 _ Uj,o _ 3 5 _ Uj,o _ 2 5 _ Uj,o _ 1 5 _ Uj,o _ 0 5 _ Uj];exact h.c5
 .refine s _ _ _ (aI acc0 6) ?_;rw[o _ 5 6 _ Uj,o _ 4 6 _ Uj,o _ 3 6 _ Uj,o _ 2 6 _ Uj,o _ 1 6 _ Uj,o _ 0 6 _ Uj];exact h.c6
 .simp only[World.frozen?_setCell];exact h.f j
def Na(b:Uv)(s:Us)(e:Ending):Prop:=∃ acc,e=UW (gD acc)/\(b=UE->Txt.jf s=U acc)
theorem SH(w:UF)(b:M)(t q v2 m i f a:Uv)(c o:M)(h:c≠b):(((((((w.setCell (b,0) t).setCell (b,1) q).setCell (b,2) v2).setCell (b,3) m).setCell (b,4) i).setCell (b,5) f).setCell (b,6) a).cell? (c,o)=w.cell? (c,o):=by have g:∀ (x:UF) (j:M) (v:UG),(x.setCell (b,j) v).cell? (c,o)=x.cell? (c,o):=fun x j v=>YA x (b,j) (c,o) v (Ne.symm h);rw[g,g,g,g,g,g,g]
theorem b4s(b:Uv)(R A:M)(ws:J Us)(nx:M)(wr:Uv)(w:UF)(h:RS w R A ws nx wr)(he:Env w)(hm:dN ws.length nx wr=UE)(G:nx<ws.length)(hb:Txt.fC ws[nx]=b):UI prog 178 #[R,.func (.func 179) #[] #[]] w fun e w'=>Na b ws[nx] e/\RS w' R A ws (if b then nx+1 else nx) (if b then wr else UE)/\Kept R w w':=by
 have hi:(nx:N)<(ws.length:N):=O;have af:(0:N)<=(nx:N):=Yz _;have aa:ws[nx].size<=160:=h.short _ (zg G);have ac:=hide aa;have HE:=hide he;clear aa he;go_in;go_wp21;obtain⟨X,T⟩:∃ X,X=(w.alloc (UX #[UD,UD,UD,UD,UD,UD,UD] 153)).alloc (UX #[UD,UD,UD,UD,UD,UD,UD] 153):=⟨_,rfl⟩;rw[<- T];obtain⟨ag,a⟩:=h.lt;have hB:UH w w X:=by rw[T];exact aS.alloc Ui _
 have hZ:w+2=X.heap.size:=by rw[T];simp
 have E:DS X w []:=by rw[T];refine⟨?_,?_,?_,?_,?_,?_,?_,fun j=>?_⟩ <;> simp[aI]
 have F:DS X (w.heap.size+1) []:=by rw[T];refine⟨?_,?_,?_,?_,?_,?_,?_,fun j=>?_⟩ <;> simp[aI]
 clear T;refine aK (kf R A ws nx wr X (h.aD hB)) ?_;rintro w1 ⟨n,Q⟩;have D:RS w1 R A ws nx wr:=by rw[Q];exact (h.aD hB).drewN n
 have k1:Kept R w w1:=by rw[Q];exact (Kept.aD hB).drewN n
 have I:DS w1 w []:=by rw[Q];exact⟨E.c0,E.c1,E.c2,E.c3,E.c4,E.c5,E.c6,E.f⟩
 have K:DS w1 (w.heap.size+1) []:=by rw[Q];exact⟨F.c0,F.c1,F.c2,F.c3,F.c4,F.c5,F.c6,F.f⟩
 have z1:X=w1.heap.size:=by rw[Q];rfl
 have ad:Hid (Env w1):=by show Env w1;rw[Q];exact ((aO HE).later hB).drewN n
 have c0:=D.c0;have c1:=D.c1;have cr:=D.rows nx G;have c:=D.len;clear Q;go_wp21;have ab:w1≠R:=by have:=D.lt.1;omega
 have ae:w1≠A:=by have:=D.lt.2 O;omega
 go_region_held3 (fun w'=>w'.cell? (R,0)=U (UO A ws.length ws.length)/\w'.cell? (R,1)=U (UL Y nx)/\w'.cell? (A,nx)=U (UQ ws[nx]))
  (first
   |go_keep
   |(
    go_split_ands;refine⟨?_,?_,?_⟩
    .exact cell_later g Uk
    .exact cell_later g Uk
    .exact cell_later g Uk)
   |(
    refine⟨?_,?_,?_⟩
    .exact cell_later aS (cell_later g c0)
    .exact cell_later aS (cell_later g c1)
    .exact cell_later aS (cell_later g cr))
   |(
    refine⟨?_,?_,?_⟩
    .exact (kq _ _ ab.symm).trans (cell_later g (cell_later aS c0))
    .exact (kq _ _ ab.symm).trans (cell_later g (cell_later aS c1))
    .exact (kq _ _ ae.symm).trans (cell_later g (cell_later aS cr))))
  ((go_at_call 179;first
   |(
    refine (LU _ _ ?_ (aO ac)).mono ?_
    .exact (aO ad).later ⟨rfl,rfl,rfl,UY _,fun _ _=>rfl⟩
    rintro e w4 ⟨⟨acc,rfl,t⟩,g⟩;simp only[gD])
   |(
    refine (LU _ _ ?_ (aO ac)).mono ?_
    .exact ((aO ad).later aS).later ⟨rfl,rfl,rfl,UY _,fun _ _=>rfl⟩
    rintro e w4 ⟨⟨acc,rfl,t⟩,g⟩;have H:DS w4 w1 []:=DS.later (by refine⟨?_,?_,?_,?_,?_,?_,?_,fun j=>?_⟩ <;> simp[aI]) g;have t0:=H.c0;have t1:=H.c1;have t2:=H.c2;have t3:=H.c3;have t4:=H.c4;have t5:=H.c5;have t6:=H.c6;have tf:=H.f;have kq:=SH w4 w1 (aI acc 0) (aI acc 1) (aI acc 2) (aI acc 3) (aI acc 4) (aI acc 5) (aI acc 6);clear H;simp only[gD])))
 .obtain⟨Z,x⟩:∃ Z,Z=w4.alloc (UX #[aI acc 0,aI acc 1,aI acc 2,aI acc 3,aI acc 4,aI acc 5,aI acc 6] 153):=⟨_,rfl⟩;rw[<- x];have q:UH w1 w1 w4:=⟨g.os,g.tape,g.output,g.size,g.block⟩;have m:UH w1 w1 Z:=by rw[x];exact q.trans (fI.alloc q.size _)
  have y:DS Z w4 acc:=by rw[x];refine⟨?_,?_,?_,?_,?_,?_,?_,fun j=>?_⟩ <;> simp
  have S:w+1<w4.heap.size:=by have:=q.size;omega
  have i:=D.aD m;have kZ:=k1.trans (Kept.aD (R:=R) m);have u:=I.later m;have zD:=K.later m;obtain⟨V,hV⟩:∃ V,V=w4:=⟨_,rfl⟩;rw[<- hV] at S y ⊢;clear x q m g hV I K E F;rw[hb] at t;have C:=hide t;clear c0 c1 cr t D k1 h;have x1:=i.c1;have x2:=i.c2;have x3:=i.f1;have x4:=i.f2;have q0:=zD.c0;have q1:=zD.c1;have q2:=zD.c2;have q3:=zD.c3;have q4:=zD.c4;have q5:=zD.c5;have q6:=zD.c6;have r0:=u.c0;have r1:=u.c1;have r2:=u.c2;have r3:=u.c3;have r4:=u.c4;have r5:=u.c5;have W:=u.c6;have fR:=u.f;have s0:=y.c0;have s1:=y.c1;have s2:=y.c2;have s3:=y.c3;have s4:=y.c4;have s5:=y.c5;have s6:=y.c6;have n1:R≠w:=O;have n2:R≠w+1:=O;have n3:R≠V:=O;have z:=hide i;clear i u zD y
  cases b
  .go_wp2;refine bodyPost_ret (v:=gD []) (by simp[results,results178,go_sem,gD,aI,r0,r1,r2,r3,r4,r5,W]) rfl ⟨⟨[],rfl,fun h=>UA h Uj⟩,?_,?_⟩
   .exact ((((((((aO z).bad.other O (fun c=>by have:=a c;omega)).other O (fun c=>by have:=a c;omega)).other O (fun c=>by have:=a c;omega)).other O (fun c=>by have:=a c;omega)).other O (fun c=>by have:=a c;omega)).other O (fun c=>by have:=a c;omega)).other O (fun c=>by have:=a c;omega))
   .exact (((((((kZ.setCell _ _).aW aJ _).aW aJ _).aW aJ _).aW aJ _).aW aJ _).aW aJ _).aW aJ _
  .go_wp2;refine bodyPost_ret (v:=gD acc) (by simp[results,results178,go_sem,gD,r0,r1,r2,r3,r4,r5,W]) rfl ⟨⟨acc,rfl,fun _=>aO C trivial⟩,?_,?_⟩
   .exact (((((((((aO z).step G).other O (fun c=>by have:=a c;omega)).other O (fun c=>by have:=a c;omega)).other O (fun c=>by have:=a c;omega)).other O (fun c=>by have:=a c;omega)).other O (fun c=>by have:=a c;omega)).other O (fun c=>by have:=a c;omega)).other O (fun c=>by have:=a c;omega))
   .exact (((((((kZ.setCell _ _).aW aJ _).aW aJ _).aW aJ _).aW aJ _).aW aJ _).aW aJ _).aW aJ _
 .obtain⟨Z,x⟩:∃ Z,Z=((((((w4.setCell (w1,0) (aI acc 0)).setCell (w1,1) (aI acc 1)).setCell (w1,2) (aI acc 2)).setCell (w1,3) (aI acc 3)).setCell (w1,4) (aI acc 4)).setCell (w1,5) (aI acc 5)).setCell (w1,6) (aI acc 6):=⟨_,rfl⟩;rw[<- x];have L:UH w1 (w1.alloc (UX #[UD,UD,UD,UD,UD,UD,UD] 153)) w4:=⟨g.os,g.tape,g.output,g.size,fun k hk=>g.block k Un⟩;have q:UH w1 w1 w4:=((zr w1 w1).alloc aJ _).trans L;clear L;have m:UH w1 w1 Z:=by rw[x];exact ((((((q.setCell aJ _).setCell aJ _).setCell aJ _).setCell aJ _).setCell aJ _).setCell aJ _).setCell aJ _
  have y:DS Z w1 acc:=by rw[x];exact c3r acc (acc0:=[]) ⟨t0,t1,t2,t3,t4,t5,t6,tf⟩
  have S:w+1<w1.heap.size:=O;have i:=D.aD m;have kZ:=k1.trans (Kept.aD (R:=R) m);have u:=I.later m;have zD:=K.later m;obtain⟨V,hV⟩:∃ V,V=w1:=⟨_,rfl⟩;rw[<- hV] at S y ⊢;clear x q m g hV I K E F t0 t1 t2 t3 t4 t5 t6 tf kq;rw[hb] at t;have C:=hide t;clear c0 c1 cr t D k1 h;have x1:=i.c1;have x2:=i.c2;have x3:=i.f1;have x4:=i.f2;have q0:=zD.c0;have q1:=zD.c1;have q2:=zD.c2;have q3:=zD.c3;have q4:=zD.c4;have q5:=zD.c5;have q6:=zD.c6;have r0:=u.c0;have r1:=u.c1;have r2:=u.c2;have r3:=u.c3;have r4:=u.c4;have r5:=u.c5;have W:=u.c6;have fR:=u.f;have s0:=y.c0;have s1:=y.c1;have s2:=y.c2;have s3:=y.c3;have s4:=y.c4;have s5:=y.c5;have s6:=y.c6;have n1:R≠w:=O;have n2:R≠w+1:=O;have n3:R≠V:=O;have z:=hide i;clear i u zD y
  cases b
  .go_wp2;refine bodyPost_ret (v:=gD []) (by simp[results,results178,go_sem,gD,aI,r0,r1,r2,r3,r4,r5,W]) rfl ⟨⟨[],rfl,fun h=>UA h Uj⟩,?_,?_⟩
   .exact ((((((((aO z).bad.other O (fun c=>by have:=a c;omega)).other O (fun c=>by have:=a c;omega)).other O (fun c=>by have:=a c;omega)).other O (fun c=>by have:=a c;omega)).other O (fun c=>by have:=a c;omega)).other O (fun c=>by have:=a c;omega)).other O (fun c=>by have:=a c;omega))
   .exact (((((((kZ.setCell _ _).aW aJ _).aW aJ _).aW aJ _).aW aJ _).aW aJ _).aW aJ _).aW aJ _
  .go_wp2;refine bodyPost_ret (v:=gD acc) (by simp[results,results178,go_sem,gD,r0,r1,r2,r3,r4,r5,W]) rfl ⟨⟨acc,rfl,fun _=>aO C trivial⟩,?_,?_⟩
   .exact (((((((((aO z).step G).other O (fun c=>by have:=a c;omega)).other O (fun c=>by have:=a c;omega)).other O (fun c=>by have:=a c;omega)).other O (fun c=>by have:=a c;omega)).other O (fun c=>by have:=a c;omega)).other O (fun c=>by have:=a c;omega)).other O (fun c=>by have:=a c;omega))
   .exact (((((((kZ.setCell _ _).aW aJ _).aW aJ _).aW aJ _).aW aJ _).aW aJ _).aW aJ _).aW aJ _
theorem b7M(R A:M)(ws:J Us)(nx:M)(wr:Uv)(w:UF)(h:RS w R A ws nx wr)(i:Env w):UI prog 178 #[R,.func (.func 179) #[] #[]] w fun e w'=>Na (fQ ws nx wr Txt.fC) (ws.getD nx Ym) e/\RS w' R A ws (fP ws nx wr Txt.fC) (fL ws nx wr Txt.fC)/\Kept R w w':=by
 cases c:dN ws.length nx wr
 .have t:=uT (B:=Txt.fC) c;rw[fP,fL,t];refine aK (b7L _ R A ws nx wr w h c) ?_;rintro w' ⟨j,g⟩;exact⟨⟨[],rfl,fun h=>UA h Uj⟩,j,g⟩
 .have a:=sH c;obtain⟨b,f⟩:∃ b,Txt.fC ws[nx]=b:=⟨_,rfl⟩;have t:=pd (B:=Txt.fC) c a f;rw[fP,fL,t,sC ws nx a];exact b4s b R A ws nx wr w h i c a f
def rv(pc ev:N)(acc:J N)(fr mn mi ti un:N):M->UG
 |0=>V Y pc
 |1=>V Y ev
 |2=>UR (aI acc 0)
 |3=>UR (aI acc 1)
 |4=>UR (aI acc 2)
 |5=>UR (aI acc 3)
 |6=>UR (aI acc 4)
 |7=>UR (aI acc 5)
 |8=>UR (aI acc 6)
 |9=>V Y fr
 |10=>V Y mn
 |11=>V Y mi
 |12=>V Y ti
 |_=>V Y un
structure RL(w:UF)(P:M)(v:M->UG):Prop where
 c:∀ j:M,j<14->w.cell? (P,j)=U (v j)
 f:∀ j:M,w.frozen? (P,j)=UD
theorem qX{p:M->Prop}(D:p 0)(C:p 1)(z:p 2)(y:p 3)(x:p 4)(u:p 5)(t:p 6)(q:p 7)(m:p 8)(i:p 9)(g:p 10)(f:p 11)(c:p 12)(a:p 13):∀ j:M,j<14->p j
 |0,_=>D
 |1,_=>C
 |2,_=>z
 |3,_=>y
 |4,_=>x
 |5,_=>u
 |6,_=>t
 |7,_=>q
 |8,_=>m
 |9,_=>i
 |10,_=>g
 |11,_=>f
 |12,_=>c
 |13,_=>a
 |n+14,h=>UA h O
theorem RL.lt(h:RL w P v):P<w:=U1 _ (P,0) (h.c 0 O)
theorem RL.set(h:RL w P v)(j:M)(g:j<14)(x:UG):RL (w.setCell (P,j) x) P (fun i=>if i=j then x else v i):=by refine⟨fun i a=>?_,fun i=>(zF ..).trans (h.f i)⟩;by_cases e:i=j;subst e;rw[Uz rfl];exact zm _ (P,i) _ (h.c i a);rw[Uy e];exact (bC Ui).trans (h.c i a)
theorem RL.congr{v':M->UG}(h:RL w P v)(e:∀ j:M,j<14->v j=v' j):RL w P v':=⟨fun j a=>by rw[<- e j a];exact h.c j a,h.f⟩
theorem RL.other{x:UG}(h:RL w P v)(g:b≠P):RL (w.setCell (b,o) x) P v :=⟨fun j a=>(YA w (b,o) (P,j) x g).trans (h.c j a),fun i=>(zF ..).trans (h.f i)⟩
theorem RL.kept(h:RL w P v)(k:Kept R w w')(a:P≠R):RL w' P v :=⟨fun j g=>k.cell a (h.c j g),fun j=>(k.frozen a h.lt).trans (h.f j)⟩
structure lR(R P:M)(w w':UF):Prop where
 os:w'.os=w.os
 tape:w'.tape=w.tape
 output:w'.output=w.output
 size:w<=w'.heap.size
 block:∀ k,k<w.heap.size->k≠R->k≠P->w'.heap[k]?=w.heap[k]?
theorem Kept.two(P:M)(k:Kept R w w'):lR R P w w':=⟨k.os,k.tape,k.output,k.size,fun i c a _=>k.block i c a⟩
theorem lR.trans{a b c:UF}(h:lR R P a b)(k:lR R P b c):lR R P a c :=⟨k.os.trans h.os,k.tape.trans h.tape,k.output.trans h.output,U0 h.size k.size,fun i j f g=>(k.block i (zL j h.size) f g).trans (h.block i j f g)⟩
theorem lR.iz(h:lR R P w w')(o:M)(v:UG):lR R P w (w'.setCell (P,o) v) :=⟨(Below.setCell (B:=0) (Below.refl 0 w') (p:=(P,o)) (zN _) v).os.trans h.os,(Below.setCell (B:=0) (Below.refl 0 w') (p:=(P,o)) (zN _) v).tape.trans h.tape,(Below.setCell (B:=0) (Below.refl 0 w') (p:=(P,o)) (zN _) v).output.trans h.output,U0 h.size (Below.setCell (B:=0) (Below.refl 0 w') (p:=(P,o)) (zN _) v).size,fun k f c a=>(Below.heap_setCell w' (P,o) v k a).trans (h.block k f c a)⟩
theorem lR.wZ(h:lR R P w w')(o:M)(v:UG):lR R P w (w'.setCell (R,o) v) :=⟨(Below.setCell (B:=0) (Below.refl 0 w') (p:=(R,o)) (zN _) v).os.trans h.os,(Below.setCell (B:=0) (Below.refl 0 w') (p:=(R,o)) (zN _) v).tape.trans h.tape,(Below.setCell (B:=0) (Below.refl 0 w') (p:=(R,o)) (zN _) v).output.trans h.output,U0 h.size (Below.setCell (B:=0) (Below.refl 0 w') (p:=(R,o)) (zN _) v).size,fun k f a c=>(Below.heap_setCell w' (R,o) v k a).trans (h.block k f a c)⟩
theorem lR.one{x:UF}(k:Kept R w x)(h:lR R P x w')(f:w<=P):Kept R w w' :=⟨h.os.trans k.os,h.tape.trans k.tape,h.output.trans k.output,U0 k.size h.size,fun i c a=>(h.block i (zL c k.size) a O).trans (k.block i c a)⟩
theorem Env.iX(h:Env w)(k:lR R P w w')(q:10<=R)(t:10<=P):Env w':=by have g:UH 10 w w':=⟨k.os,k.tape,k.output,k.size,fun i j=>k.block i (zL j h.size) O O⟩;have a:∀ (b o:M) (v:UG),b<10->w.cell? (b,o)=U v->w'.cell? (b,o)=U v:=fun b o v f e=>(g.cell (p:=(b,o)) f).trans e;let⟨m,hm⟩:=h.uG;let⟨c0,c1,c2,c3,c4,c5,c6,c7,c8,c9,c10,c11⟩:=h.jH;refine⟨⟨a _ _ _ O c0,a _ _ _ O c1,a _ _ _ O c2,a _ _ _ O c3,a _ _ _ O c4,a _ _ _ O c5,a _ _ _ O c6,a _ _ _ O c7,a _ _ _ O c8,a _ _ _ O c9,a _ _ _ O c10,a _ _ _ O c11⟩,⟨m,a _ _ _ O hm⟩,?_,U0 h.size k.size,a _ _ _ O h.mo,a _ _ _ O h.tu,a _ _ _ O h.we,a _ _ _ O h.th,a _ _ _ O h.fr,a _ _ _ O h.sa,a _ _ _ O h.su⟩;have c:=h.pow;unfold Yw Yx at c ⊢;simp only[vP,Yy] at c ⊢;rw[g.block 1 O];exact c
def fZ:Us:=⟨#[100,97,105,108,121]⟩
def fU:Us:=⟨#[119,101,101,107,108,121]⟩
def gg:Us:=⟨#[109,111,110,116,104,108,121]⟩
def eV:Us:=⟨#[116,105,109,101,115]⟩
def fe:Us:=⟨#[117,110,116,105,108]⟩
def cC:Us:=⟨#[102,114,111,109]⟩
def cO:Us:=⟨#[97,116]⟩
def dA:Us:=⟨#[102,111,114]⟩
def eP(s:Us):Uv:=gy s 1 99
def dM(s:Us):Uv:=gy s 1 1048320
def cH(x s:Us):Uv:=s.toList==x.toList
def gB(st:M × Uv):M × Uv:=(st.1+1,st.2)
inductive qD (ws:Ut Us) (st:Uw × Uv):Ux->Ux->Ut Ux->Uw × Uv->Prop where
 |daily (h:bP ws st.1 st.2 fZ=UE):qD ws st 1 (bV ws (gB st) eP bD) [] (aP ws [eP] (gB st))
 |weekly (h1:bP ws st.1 st.2 fZ=UD) (h:bP ws st.1 st.2 fU=UE) (acc:Ut Ux) (ha:fQ ws (aP ws [eP] (gB st)).1 (aP ws [eP] (gB st)).2 Txt.fC=UE->Txt.jf (ws.getD (aP ws [eP] (gB st)).1 Ym)=UC acc):qD ws st 2 (bV ws (gB st) eP bD) acc (aP ws [eP,Txt.fC] (gB st))
 |monthly (h1:bP ws st.1 st.2 fZ=UD) (h2:bP ws st.1 st.2 fU=UD) (h:bP ws st.1 st.2 gg=UE):qD ws st 3 (bV ws (gB st) eP bD) [] (aP ws [eP] (gB st))
 |none (h1:bP ws st.1 st.2 fZ=UD) (h2:bP ws st.1 st.2 fU=UD) (h:bP ws st.1 st.2 gg=UD):qD ws st 0 0 [] (st.1,UE)
theorem Eg{ev:N}(h:RL w P (rv pc ev acc fr mn mi ti un))(x:N):RL (w.setCell (P,0) x) P (rv x ev acc fr mn mi ti un):=(h.set 0 O _).congr (qX rfl rfl rfl rfl rfl rfl rfl rfl rfl rfl rfl rfl rfl rfl)
theorem Eh{ev:N}(h:RL w P (rv pc ev acc fr mn mi ti un))(x:N):RL (w.setCell (P,1) x) P (rv pc x acc fr mn mi ti un):=(h.set 1 O _).congr (qX rfl rfl rfl rfl rfl rfl rfl rfl rfl rfl rfl rfl rfl rfl)
theorem c4Q{ev:N}(h:RL w P (rv pc ev acc fr mn mi ti un))(x:N):RL (w.setCell (P,9) x) P (rv pc ev acc x mn mi ti un):=(h.set 9 O _).congr (qX rfl rfl rfl rfl rfl rfl rfl rfl rfl rfl rfl rfl rfl rfl)
theorem c2u{ev:N}(h:RL w P (rv pc ev acc fr mn mi ti un))(x:N):RL (w.setCell (P,10) x) P (rv pc ev acc fr x mi ti un):=(h.set 10 O _).congr (qX rfl rfl rfl rfl rfl rfl rfl rfl rfl rfl rfl rfl rfl rfl)
theorem c2t{ev:N}(h:RL w P (rv pc ev acc fr mn mi ti un))(x:N):RL (w.setCell (P,11) x) P (rv pc ev acc fr mn x ti un):=(h.set 11 O _).congr (qX rfl rfl rfl rfl rfl rfl rfl rfl rfl rfl rfl rfl rfl rfl)
theorem c2s{ev:N}(h:RL w P (rv pc ev acc fr mn mi ti un))(x:N):RL (w.setCell (P,12) x) P (rv pc ev acc fr mn mi x un):=(h.set 12 O _).congr (qX rfl rfl rfl rfl rfl rfl rfl rfl rfl rfl rfl rfl rfl rfl)
theorem c2r{ev:N}(h:RL w P (rv pc ev acc fr mn mi ti un))(x:N):RL (w.setCell (P,13) x) P (rv pc ev acc fr mn mi ti x):=(h.set 13 O _).congr (qX rfl rfl rfl rfl rfl rfl rfl rfl rfl rfl rfl rfl rfl rfl)
theorem c2q{ev:N}(h:RL w P (rv pc ev acc fr mn mi ti un))(x:J N):RL (((((((w.setCell (P,2) (aI x 0)).setCell (P,3) (aI x 1)).setCell (P,4) (aI x 2)).setCell (P,5) (aI x 3)).setCell (P,6) (aI x 4)).setCell (P,7) (aI x 5)).setCell (P,8) (aI x 6)) P (rv pc ev x fr mn mi ti un) :=
 (((((((h.set 2 O _).set 3 O _).set 4 O _).set 5 O _).set 6 O _).set 7 O _).set 8 O _).congr (qX rfl rfl rfl rfl rfl rfl rfl rfl rfl rfl rfl rfl rfl rfl)
theorem b9F(R A P:M)(ws:J Us)(st:M × Uv)(w:UF)(h:RS w R A ws st.1 st.2)(he:Env w)(F:10<=R)(hP:10<=P)(a:P≠R)(g:0<ws.length->P≠A)(hl:RL w P (rv 0 0 [] 0 0 0 0 0)):
  UI prog 136 #[R,P] w fun e w' =>∃ (pc ev:N) (acc:J N) (s:M × Uv),e=UW (US #[])/\qD ws st pc ev acc s/\RS w' R A ws s.1 s.2/\RL w' P (rv pc ev acc 0 0 0 0 0)/\lR R P w w':=by
 have HE:=hide he;clear he;go_in;go_wp21;refine aK (kQ R A ws st.1 st.2 fZ w h) ?_;rintro w1 ⟨Q,k1⟩;have y:=k1.two P;have l1:=hl.kept k1 a;clear h hl k1
 cases I:bP ws st.1 st.2 fZ
 .rw[I] at Q
  go_wp21;refine aK (kQ R A ws st.1 st.2 fU w1 Q) ?_;rintro w2 ⟨L,k2⟩;have x:=y.trans (k2.two P);have H:=l1.kept k2 a;clear Q y l1 k2
  cases W:bP ws st.1 st.2 fU
  .rw[W] at L
   go_wp21;refine aK (kQ R A ws st.1 st.2 gg w2 L) ?_;rintro w3 ⟨G,k3⟩;have E:=x.trans (k3.two P);have T:=H.kept k3 a;clear L x H k3
   cases hm:bP ws st.1 st.2 gg
   .rw[hm] at G;have c2:=G.c2;have f2:=G.f2;go_wp2
    go_end0;exact⟨0,0,[],(st.1,UE),rfl,.none I W hm,G.bad,T.other a.symm,E.wZ _ _⟩
   .rw[hm,Uz rfl] at G;have S:=T.c 0 O;have t:=T.f
    go_wp21;have C:=G.other (b:=P) (o:=0) (v:=V Y 3) a g;have z:=Eg T 3;have q:=E.iz 0 (V Y 3);have EZ:=hide ((aO HE).iX q F hP);clear S t G T E;refine aK (FH R A ws (st.1+1) st.2 _ C) ?_;rintro w5 ⟨K,i⟩;have j:=q.trans (i.two P);have m:=z.kept i a;have E5:=hide ((aO EZ).kept i F);clear C z q i;have p1:=m.c 1 O;have t:=m.f;go_wp2;go_end0;exact⟨3,bV ws (gB st) eP bD,[],aP ws [eP] (gB st),rfl,.monthly I W hm,K.other a g,Eh m _,j.iz _ _⟩
  .rw[W,Uz rfl] at L;have S:=H.c 0 O;have t:=H.f
   go_wp21;have C:=L.other (b:=P) (o:=0) (v:=V Y 2) a g;have z:=Eg H 2;have q:=x.iz 0 (V Y 2);have EZ:=hide ((aO HE).iX q F hP);clear S t L H x;refine aK (FH R A ws (st.1+1) st.2 _ C) ?_;rintro w5 ⟨K,i⟩;have j:=q.trans (i.two P);have m:=z.kept i a;have E5:=hide ((aO EZ).kept i F);clear C z q i;have p1:=m.c 1 O;have t:=m.f;go_wp21;have h6:=K.other (b:=P) (o:=1) (v:=V Y (gS ws (st.1+1) st.2 (fun s=>gy s 1 99) (fun s=>Txt.dG s.data.toList))) a g;have l6:=Eh m (gS ws (st.1+1) st.2 (fun s=>gy s 1 99) (fun s=>Txt.dG s.data.toList));have k6:=j.iz 1 (V Y (gS ws (st.1+1) st.2 (fun s=>gy s 1 99) (fun s=>Txt.dG s.data.toList)));have E6:=hide ((aO HE).iX k6 F hP);clear p1 t K m j;refine (b7M R A ws _ _ _ h6 (aO E6)).mono ?_;rintro e w7 ⟨⟨acc,rfl,D⟩,h7,k7⟩;have aa:=k6.trans (k7.two P);have u:=l6.kept k7 a;have X:=hide D;clear h6 l6 k6 k7 D;have p2:=u.c 2 O;have p3:=u.c 3 O;have p4:=u.c 4 O;have p5:=u.c 5 O;have p6:=u.c 6 O;have p7:=u.c 7 O;have p8:=u.c 8 O;have t:=u.f;have H7:=hide h7;clear h7;simp only[gD];go_wp2;go_end0;exact⟨2,bV ws (gB st) eP bD,acc,aP ws [eP,Txt.fC] (gB st),rfl,.weekly I W acc (aO X),((((((((aO H7).other a g).other a g).other a g).other a g).other a g).other a g).other a g),c2q u acc,(((((((aa.iz _ _).iz _ _).iz _ _).iz _ _).iz _ _).iz _ _).iz _ _)⟩
 .rw[I,Uz rfl] at Q;have S:=l1.c 0 O;have t:=l1.f
  go_wp21;have C:=Q.other (b:=P) (o:=0) (v:=V Y 1) a g;have z:=Eg l1 1;have q:=y.iz 0 (V Y 1);have EZ:=hide ((aO HE).iX q F hP);clear S t Q l1 y;refine aK (FH R A ws (st.1+1) st.2 _ C) ?_;rintro w5 ⟨K,i⟩;have j:=q.trans (i.two P);have m:=z.kept i a;have E5:=hide ((aO EZ).kept i F);clear C z q i;have p1:=m.c 1 O;have t:=m.f;go_wp2;go_end0;exact⟨1,bV ws (gB st) eP bD,[],aP ws [eP] (gB st),rfl,.daily I,K.other a g,Eh m _,j.iz _ _⟩
inductive qw (ws:Ut Us) (st:Uw × Uv):Ux->Ux->Uw × Uv->Prop where
 |times (h:bP ws st.1 st.2 eV=UE):qw ws st (bV ws (gB st) eP bD) 0 (aP ws [eP] (gB st))
 |til (h1:bP ws st.1 st.2 eV=UD) (h:bP ws st.1 st.2 fe=UE):qw ws st 0 (bV ws (gB st) Txt.cU dV) (aP ws [Txt.cU] (gB st))
 |none (h1:bP ws st.1 st.2 eV=UD) (h:bP ws st.1 st.2 fe=UD):qw ws st 0 0 (st.1,UE)
theorem c2x(R A P:M)(ws:J Us)(st:M × Uv)(w:UF)(pc ev:N)(acc:J N)(fr mn mi:N)(h:RS w R A ws st.1 st.2)(I:Env w)(K:10<=R)(a:P≠R)(y:0<ws.length->P≠A)(H:RL w P (rv pc ev acc fr mn mi 0 0)):
  UI prog 141 #[R,P] w fun e w' =>∃ (ti un:N) (s:M × Uv),e=UW (US #[])/\qw ws st ti un s/\RS w' R A ws s.1 s.2/\RL w' P (rv pc ev acc fr mn mi ti un)/\lR R P w w':=by
 have W:=hide I;clear I;go_in;go_wp21;refine aK (kQ R A ws st.1 st.2 eV w h) ?_;rintro G ⟨u,C⟩;have g:=C.two P;have l1:=H.kept C a;have E1:=hide ((aO W).kept C K);clear h H C
 cases x:bP ws st.1 st.2 eV
 .rw[x] at u
  go_wp21;refine aK (kQ R A ws st.1 st.2 fe G u) ?_;rintro Q ⟨t,z⟩;have m:=g.trans (z.two P);have E:=l1.kept z a;have X:=hide ((aO E1).kept z K);clear u g l1 z
  cases D:bP ws st.1 st.2 fe
  .rw[D] at t;have c2:=t.c2;have f2:=t.f2;go_wp2
   go_end0;exact⟨0,0,(st.1,UE),rfl,.none x D,t.bad,E.other a.symm,m.wZ _ _⟩
  .rw[D,Uz rfl] at t
   go_wp21;refine aK (MU R A ws (st.1+1) st.2 Q t (aO X)) ?_;rintro L ⟨F,q⟩;have j:=m.trans (q.two P);have i:=E.kept q a;clear t m E q;have T:=i.c 13 O;have S:=i.f;go_wp2;go_end0;exact⟨0,bV ws (gB st) Txt.cU dV,aP ws [Txt.cU] (gB st),rfl,.til x D,F.other a y,c2r i _,j.iz _ _⟩
 .rw[x,Uz rfl] at u
  go_wp21;refine aK (Bp 1 99 R A ws (st.1+1) st.2 G u) ?_;rintro L ⟨F,q⟩;have j:=g.trans (q.two P);have i:=l1.kept q a;clear u g l1 q;have T:=i.c 12 O;have S:=i.f;go_wp2;go_end0;exact⟨bV ws (gB st) eP bD,0,aP ws [eP] (gB st),rfl,.times x,F.other a y,c2s i _,j.iz _ _⟩
def oT(ws:J Us)(s:M × Uv):M × Uv:=aP ws [cH cC,Txt.cU,cH cO,Txt.dZ,cH dA,dM] s
inductive lO (ws:Ut Us) (st:Uw × Uv):Ux->Ux->Ut Ux->Ux->Ux->Ux->Ux->Ux->Uw × Uv->Prop where
 |mk (pc ev:Ux) (acc:Ut Ux) (s:Uw × Uv) (ti un:Ux) (s':Uw × Uv) (hp:qD ws st pc ev acc s) (he:qw ws (oT ws s) ti un s'):lO ws st pc ev acc (bV ws (aP ws [cH cC] s) Txt.cU dV) (bV ws (aP ws [cH cC,Txt.cU,cH cO] s) Txt.dZ Txt.eA) (bV ws (aP ws [cH cC,Txt.cU,cH cO,Txt.dZ,cH dA] s) dM bD) ti un s'
theorem RL.iX{Q:M}(h:RL w P v)(k:lR R Q w w')(g:P≠R)(a:P≠Q):RL w' P v :=⟨fun j i=>(zo (w:=w) (k.block P h.lt g a)).trans (h.c j i),fun j=>(Wk (w:=w) (k.block P h.lt g a)).trans (h.f j)⟩
def kn(pc ev:N)(acc:J N)(fr mn mi ti un:N):UG :=UT #[pc,ev,aI acc 0,aI acc 1,aI acc 2,aI acc 3,aI acc 4,aI acc 5,aI acc 6,fr,mn,mi,ti,un]
def GP(ws:J Us):Prop:=∀ (R A:M)(st:M × Uv)(w:UF),RS w R A ws st.1 st.2->Env w->10<=R ->
  UI prog 92 #[R] w fun e w' =>∃ (pc ev:N) (acc:J N) (fr mn mi ti un:N) (s:M × Uv),e=UW (kn pc ev acc fr mn mi ti un)/\lO ws st pc ev acc fr mn mi ti un s/\RS w' R A ws s.1 s.2/\Kept R w w'
theorem b2P(R A:M)(ws:J Us)(st:M × Uv)(w:UF)(h:RS w R A ws st.1 st.2)(he:Env w)(z:10<=R):
  UI prog 92 #[R] w fun e w' =>∃ (pc ev:N) (acc:J N) (fr mn mi ti un:N) (s:M × Uv),e=UW (kn pc ev acc fr mn mi ti un)/\lO ws st pc ev acc fr mn mi ti un s/\RS w' R A ws s.1 s.2/\Kept R w w':=by
 have T:=hide he;clear he;go_in;go_wp21;obtain⟨bs,ag⟩:=h.lt;obtain⟨X,S⟩:∃ X,X=(w.alloc (UX #[V Y 0,V Y 0,UD,UD,UD,UD,UD,UD,UD,V Y 0,V Y 0,V Y 0,V Y 0,V Y 0] 155)).alloc (UX #[V Y 0,V Y 0,UD,UD,UD,UD,UD,UD,UD,V Y 0,V Y 0,V Y 0,V Y 0,V Y 0] 155):=⟨_,rfl⟩;rw[<- S];have hB:UH w w X:=by rw[S];exact aS.alloc Ui _
 have hZ:w+2=X.heap.size:=by rw[S];simp
 have gX:RL X w (rv 0 0 [] 0 0 0 0 0):=by rw[S];refine⟨qX ?_ ?_ ?_ ?_ ?_ ?_ ?_ ?_ ?_ ?_ ?_ ?_ ?_ ?_,fun j=>?_⟩ <;> simp[rv,aI]
 have lX:RL X (w.heap.size+1) (rv 0 0 [] 0 0 0 0 0):=by rw[S];refine⟨qX ?_ ?_ ?_ ?_ ?_ ?_ ?_ ?_ ?_ ?_ ?_ ?_ ?_ ?_,fun j=>?_⟩ <;> simp[rv,aI]
 clear S;have eX:=(aO T).later hB;have bf:=(aO T).size;have kX:=Kept.aD (R:=R) hB;have u:w+1≠R:=O;have y:0<ws.length->w+1≠A:=fun hq=>by have:=ag hq;omega
 have g:w≠R:=O;have q:0<ws.length->w≠A:=fun hq=>by have:=ag hq;omega
 obtain⟨P,hP⟩:∃ P,P=w.heap.size+1:=⟨_,rfl⟩;rw[<- hP] at lX u y ⊢;obtain⟨G,hG⟩:∃ G,G=w.heap.size:=⟨_,rfl⟩;rw[<- hG] at gX g q ⊢;have E:G≠P:=O;have D:w<=P:=O;have t:w<=G:=O;have af:10<=P:=O;clear hP hG;refine (b9F R A P ws st X (h.aD hB) eX z af u y lX).mono ?_;rintro e w1 ⟨pc,ev,acc,s,rfl,hp,h1,l1,k1⟩;have g1:=gX.iX k1 g E;have kt:=lR.one kX k1 D;have E1:=hide ((aO T).kept kt z);have av:=hide hp;clear gX lX k1 eX hp h;go_wp21;refine aK (EJ R A ws _ _ cC w1 h1) ?_;rintro w2 ⟨aq,k2⟩;have h2:RS w2 R A ws (aP ws [cH cC] s).1 (aP ws [cH cC] s).2:=aq;have l2:=l1.kept k2 u;have g2:=g1.kept k2 g;have ad:=kt.trans k2;have E2:=hide ((aO E1).kept k2 z);clear h1 aq l1 g1 kt k2 E1;go_wp21;refine aK (MU R A ws _ _ w2 h2 (aO E2)) ?_;rintro w3 ⟨an,k3⟩;have h3:RS w3 R A ws (aP ws [cH cC,Txt.cU] s).1 (aP ws [cH cC,Txt.cU] s).2:=an;have l3:=l2.kept k3 u;have g3:=g2.kept k3 g;have a9:=ad.trans k3;have E3:=hide ((aO E2).kept k3 z);clear h2 an l2 g2 ad k3 E2;have p3:=l3.c 9 O;have bq:=l3.f;have h4:=h3.other (b:=P) (o:=9) (v:=V Y (bV ws (aP ws [cH cC] s) Txt.cU dV)) u y;have l4:=c4Q l3 (bV ws (aP ws [cH cC] s) Txt.cU dV);have g4:=g3.other (b:=P) (o:=9) (x:=V Y (bV ws (aP ws [cH cC] s) Txt.cU dV)) E.symm;have H:=a9.aW (b:=P) (o:=9) D (V Y (bV ws (aP ws [cH cC] s) Txt.cU dV));have E4:=hide ((aO T).kept H z);go_wp21;refine aK (EJ R A ws _ _ cO _ h4) ?_;rintro w5 ⟨al,k5⟩;have h5:RS w5 R A ws (aP ws [cH cC,Txt.cU,cH cO] s).1 (aP ws [cH cC,Txt.cU,cH cO] s).2:=al;have l5:=l4.kept k5 u;have g5:=g4.kept k5 g;have ab:=H.trans k5;have E5:=hide ((aO E4).kept k5 z);clear h4 al l4 g4 H k5 E4;go_wp21;refine aK (b0c R A ws _ _ w5 h5) ?_;rintro w6 ⟨ak,k6⟩;have h6:RS w6 R A ws (aP ws [cH cC,Txt.cU,cH cO,Txt.dZ] s).1 (aP ws [cH cC,Txt.cU,cH cO,Txt.dZ] s).2:=ak;have l6:=l5.kept k6 u;have g6:=g5.kept k6 g;have a8:=ab.trans k6;have E6:=hide ((aO E5).kept k6 z);clear h5 ak l5 g5 ab k6 E5;have p6:=l6.c 10 O;have bn:=l6.f;have h7:=h6.other (b:=P) (o:=10) (v:=V Y (bV ws (aP ws [cH cC,Txt.cU,cH cO] s) Txt.dZ Txt.eA)) u y;have l7:=c2u l6 (bV ws (aP ws [cH cC,Txt.cU,cH cO] s) Txt.dZ Txt.eA);have g7:=g6.other (b:=P) (o:=10) (x:=V Y (bV ws (aP ws [cH cC,Txt.cU,cH cO] s) Txt.dZ Txt.eA)) E.symm;have F:=a8.aW (b:=P) (o:=10) D (V Y (bV ws (aP ws [cH cC,Txt.cU,cH cO] s) Txt.dZ Txt.eA));have E7:=hide ((aO T).kept F z);go_wp21;refine aK (EJ R A ws _ _ dA _ h7) ?_;rintro w8 ⟨aj,k8⟩;have h8:RS w8 R A ws (aP ws [cH cC,Txt.cU,cH cO,Txt.dZ,cH dA] s).1 (aP ws [cH cC,Txt.cU,cH cO,Txt.dZ,cH dA] s).2:=aj;have l8:=l7.kept k8 u;have g8:=g7.kept k8 g;have aa:=F.trans k8;have E8:=hide ((aO E7).kept k8 z);clear h7 aj l7 g7 F k8 E7;go_wp21;refine aK (zi R A ws _ _ w8 h8) ?_;rintro w9 ⟨ai,k9⟩;have h9:RS w9 R A ws (aP ws [cH cC,Txt.cU,cH cO,Txt.dZ,cH dA,dM] s).1 (aP ws [cH cC,Txt.cU,cH cO,Txt.dZ,cH dA,dM] s).2:=ai;have l9:=l8.kept k9 u;have g9:=g8.kept k9 g;have a7:=aa.trans k9;have E9:=hide ((aO E8).kept k9 z);clear h8 ai l8 g8 aa k9 E8;have p9:=l9.c 11 O;have bm:=l9.f;have ar:=h9.other (b:=P) (o:=11) (v:=V Y (bV ws (aP ws [cH cC,Txt.cU,cH cO,Txt.dZ,cH dA] s) dM bD)) u y;have W:=c2t l9 (bV ws (aP ws [cH cC,Txt.cU,cH cO,Txt.dZ,cH dA] s) dM bD);have au:=g9.other (b:=P) (o:=11) (x:=V Y (bV ws (aP ws [cH cC,Txt.cU,cH cO,Txt.dZ,cH dA] s) dM bD)) E.symm;have C:=a7.aW (b:=P) (o:=11) D (V Y (bV ws (aP ws [cH cC,Txt.cU,cH cO,Txt.dZ,cH dA] s) dM bD));have ax:=hide ((aO T).kept C z);go_wp21;refine (c2x R A P ws (oT ws s) _ pc ev acc _ _ _ ar (aO ax) z u y W).mono ?_;rintro e a ⟨ti,un,s',rfl,ae,ao,i,I⟩;have m:=au.iX I g E;have ac:=lR.one C I D;have aw:=hide ae;clear ar W au C I ax ae;obtain⟨fr,Q⟩:∃ fr,fr=bV ws (aP ws [cH cC] s) Txt.cU dV:=⟨_,rfl⟩;obtain⟨mn,K⟩:∃ mn,mn=bV ws (aP ws [cH cC,Txt.cU,cH cO] s) Txt.dZ Txt.eA:=⟨_,rfl⟩;obtain⟨mi,L⟩:∃ mi,mi=bV ws (aP ws [cH cC,Txt.cU,cH cO,Txt.dZ,cH dA] s) dM bD:=⟨_,rfl⟩;rw[<- Q,<- K,<- L] at i;have ba:Hid (lO ws st pc ev acc fr mn mi ti un s'):=by show lO ws st pc ev acc fr mn mi ti un s';rw[Q,K,L];exact .mk pc ev acc s ti un s' av aw
 clear Q K L av aw;have q0:a.cell? (P,0)=U ↑pc:=i.c 0 O;have q1:a.cell? (P,1)=U ↑ev:=i.c 1 O;have q2:a.cell? (P,2)=U (UR (aI acc 0)):=i.c 2 O;have q3:a.cell? (P,3)=U (UR (aI acc 1)):=i.c 3 O;have q4:a.cell? (P,4)=U (UR (aI acc 2)):=i.c 4 O;have q5:a.cell? (P,5)=U (UR (aI acc 3)):=i.c 5 O;have q6:a.cell? (P,6)=U (UR (aI acc 4)):=i.c 6 O;have q7:a.cell? (P,7)=U (UR (aI acc 5)):=i.c 7 O;have q8:a.cell? (P,8)=U (UR (aI acc 6)):=i.c 8 O;have q9:a.cell? (P,9)=U ↑fr:=i.c 9 O;have bj:a.cell? (P,10)=U ↑mn:=i.c 10 O;have bi:a.cell? (P,11)=U ↑mi:=i.c 11 O;have bh:a.cell? (P,12)=U ↑ti:=i.c 12 O;have bg:a.cell? (P,13)=U ↑un:=i.c 13 O;have r0:a.cell? (G,0)=U (V Y 0):=m.c 0 O;have r1:a.cell? (G,1)=U (V Y 0):=m.c 1 O;have r2:a.cell? (G,2)=U ↑UD:=m.c 2 O;have r3:a.cell? (G,3)=U ↑UD:=m.c 3 O;have r4:a.cell? (G,4)=U ↑UD:=m.c 4 O;have r5:a.cell? (G,5)=U ↑UD:=m.c 5 O;have r6:a.cell? (G,6)=U ↑UD:=m.c 6 O;have r7:a.cell? (G,7)=U ↑UD:=m.c 7 O;have r8:a.cell? (G,8)=U ↑UD:=m.c 8 O;have r9:a.cell? (G,9)=U (V Y 0):=m.c 9 O;have a4:a.cell? (G,10)=U (V Y 0):=m.c 10 O;have a3:a.cell? (G,11)=U (V Y 0):=m.c 11 O;have az:a.cell? (G,12)=U (V Y 0):=m.c 12 O;have ay:a.cell? (G,13)=U (V Y 0):=m.c 13 O;have rf:=m.f;have bc:=hide ao;clear ao i m;go_wp2;refine bodyPost_ret (v:=kn pc ev acc fr mn mi ti un) (by simp[results,results92,go_sem,kn,r0,r1,r2,r3,r4,r5,r6,r7,r8,r9,a4,a3,az,ay]) rfl ⟨pc,ev,acc,fr,mn,mi,ti,un,s',rfl,ba,?_,?_⟩
 .exact (((((((((((((((aO bc).other g q).other g q).other g q).other g q).other g q).other g q).other g q).other g q).other g q).other g q).other g q).other g q).other g q).other g q)
 .exact ((((((((((((((ac.aW t _).aW t _).aW t _).aW t _).aW t _).aW t _).aW t _).aW t _).aW t _).aW t _).aW t _).aW t _).aW t _).aW t _)
def ix:Us:=⟨#[116,104,105,110,103]⟩
def iO:Us:=⟨#[98,111,111,107]⟩
def iE:Us:=⟨#[104,111,108,100]⟩
def iF:Us:=⟨#[119,97,105,116]⟩
def eQ:Us:=⟨#[115,101,114,105,101,115]⟩
def iU:Us:=⟨#[99,111,110,102,105,114,109]⟩
def iR:Us:=⟨#[99,97,110,99,101,108]⟩
def dC:Us:=⟨#[108,105,115,116]⟩
def iT:Us:=⟨#[119,97,105,116,105,110,103]⟩
def iu:Us:=⟨#[112,101,97,107]⟩
def ir:Us:=⟨#[102,105,110,100]⟩
def fA:Us:=⟨#[101,120,112,97,110,100]⟩
def ja:Us:=⟨#[116,105,99,107]⟩
def iN:Us:=⟨#[99,108,111,99,107]⟩
def jQ(s:Us):Uv:=Txt.isNum s.data.toList
inductive jq (ws:Ut Us):UG->Uw × Uv->Prop where
 |bH (h:bP ws 0 UD ix=UE):jq ws (UU 143 (UT #[UQ (gW ws (1,UD)),UL UV (bV ws (aP ws [bJ] (1,UD)) cF bD)])) (aP ws [bJ,cF] (1,UD))
 |book (h:bP ws 0 UD iO=UE):jq ws (UU 148 (UT #[UQ (gW ws (1,UD)),UL UV (bV ws (aP ws [bJ] (1,UD)) cF bD),UL UV (bV ws (aP ws [bJ,cF] (1,UD)) bB cL),UL UV (bV ws (aP ws [bJ,cF,bB] (1,UD)) bB cL)])) (aP ws [bJ,cF,bB,bB] (1,UD))
 |hold (h:bP ws 0 UD iE=UE):jq ws (UU 150 (UT #[UQ (gW ws (1,UD)),UL UV (bV ws (aP ws [bJ] (1,UD)) cF bD),UL UV (bV ws (aP ws [bJ,cF] (1,UD)) bB cL),UL UV (bV ws (aP ws [bJ,cF,bB] (1,UD)) bB cL),UL UV (bV ws (aP ws [bJ,cF,bB,bB] (1,UD)) dM bD)])) (aP ws [bJ,cF,bB,bB,dM] (1,UD))
 |wait (h:bP ws 0 UD iF=UE):jq ws (UU 151 (UT #[UQ (gW ws (1,UD)),UL UV (bV ws (aP ws [bJ] (1,UD)) cF bD),UL UV (bV ws (aP ws [bJ,cF] (1,UD)) bB cL),UL UV (bV ws (aP ws [bJ,cF,bB] (1,UD)) bB cL),UL UV (bV ws (aP ws [bJ,cF,bB,bB] (1,UD)) dM bD)])) (aP ws [bJ,cF,bB,bB,dM] (1,UD))
 |series (h:bP ws 0 UD eQ=UE) (pc ev:Ux) (acc:Ut Ux) (fr mn mi ti un:Ux) (s:Uw × Uv) (hr:lO ws (aP ws [bJ,cF] (1,UD)) pc ev acc fr mn mi ti un s):jq ws (UU 158 (UT #[UQ (gW ws (1,UD)),UL UV (bV ws (aP ws [bJ] (1,UD)) cF bD),UL UV pc,UL UV ev,UR (aI acc 0),UR (aI acc 1),UR (aI acc 2),UR (aI acc 3),UR (aI acc 4),UR (aI acc 5),UR (aI acc 6),UL UV fr,UL UV mn,UL UV mi,UL UV ti,UL UV un])) s
 |bL (h:bP ws 0 UD iU=UE):jq ws (UU 160 (UT #[UL UV (bV ws (1,UD) jQ bD)])) (aP ws [jQ] (1,UD))
 |cancel (h:bP ws 0 UD iR=UE):jq ws (UU 161 (UT #[UL UV (bV ws (1,UD) jQ bD)])) (aP ws [jQ] (1,UD))
 |list0 (h:bP ws 0 UD dC=UE) (hm:dN ws.length (aP ws [bJ] (1,UD)).1 (aP ws [bJ] (1,UD)).2=UD):jq ws (UU 163 (UT #[UQ (gW ws (1,UD)),UR UD,UL UV 0,UL UV 0])) (aP ws [bJ] (1,UD))
 |list1 (h:bP ws 0 UD dC=UE) (hm:dN ws.length (aP ws [bJ] (1,UD)).1 (aP ws [bJ] (1,UD)).2=UE):jq ws (UU 163 (UT #[UQ (gW ws (1,UD)),UR UE,UL UV (bV ws (aP ws [bJ] (1,UD)) bB cL),UL UV (bV ws (aP ws [bJ,bB] (1,UD)) bB cL)])) (aP ws [bJ,bB,bB] (1,UD))
 |waiting (h:bP ws 0 UD iT=UE):jq ws (UU 166 (UT #[])) (1,UD)
 |ef (h:bP ws 0 UD iu=UE):jq ws (UU 169 (UT #[UQ (gW ws (1,UD)),UL UV (bV ws (aP ws [bJ] (1,UD)) bB cL),UL UV (bV ws (aP ws [bJ,bB] (1,UD)) bB cL)])) (aP ws [bJ,bB,bB] (1,UD))
 |find (h:bP ws 0 UD ir=UE):jq ws (UU 171 (UT #[UQ (gW ws (1,UD)),UL UV (bV ws (aP ws [bJ] (1,UD)) cF bD),UL UV (bV ws (aP ws [bJ,cF] (1,UD)) dM bD),UL UV (bV ws (aP ws [bJ,cF,dM] (1,UD)) bB cL),UL UV (bV ws (aP ws [bJ,cF,dM,bB] (1,UD)) bB cL)])) (aP ws [bJ,cF,dM,bB,bB] (1,UD))
 |expand (h:bP ws 0 UD fA=UE) (pc ev:Ux) (acc:Ut Ux) (fr mn mi ti un:Ux) (s:Uw × Uv) (hr:lO ws (1,UD) pc ev acc fr mn mi ti un s):jq ws (UU 173 (UT #[UL UV pc,UL UV ev,UR (aI acc 0),UR (aI acc 1),UR (aI acc 2),UR (aI acc 3),UR (aI acc 4),UR (aI acc 5),UR (aI acc 6),UL UV fr,UL UV mn,UL UV mi,UL UV ti,UL UV un])) s
 |tick (h:bP ws 0 UD ja=UE):jq ws (UU 175 (UT #[UL UV (bV ws (1,UD) dM bD)])) (aP ws [dM] (1,UD))
 |clock (h:bP ws 0 UD iN=UE):jq ws (UU 176 (UT #[])) (1,UD)
 |none (h0:bP ws 0 UD ix=UD) (h1:bP ws 0 UD iO=UD) (h2:bP ws 0 UD iE=UD) (h3:bP ws 0 UD iF=UD) (h4:bP ws 0 UD eQ=UD) (h5:bP ws 0 UD iU=UD) (h6:bP ws 0 UD iR=UD) (h7:bP ws 0 UD dC=UD) (h8:bP ws 0 UD iT=UD) (h9:bP ws 0 UD iu=UD) (h10:bP ws 0 UD ir=UD) (h11:bP ws 0 UD fA=UD) (h12:bP ws 0 UD ja=UD) (h13:bP ws 0 UD iN=UD):jq ws .nilIface (0,UE)
theorem RO(R A:M)(ws:J Us)(w:UF)(h:RS w R A ws 0 UD)(he:Env w)(c:10<=R)(hP:bP ws 0 UD eQ=UE\/bP ws 0 UD fA=UE->GP ws):
  UI prog 59 #[R] w fun e w' =>∃ (v:UG) (s:M × Uv),e=UW v/\jq ws v s/\RS w' R A ws s.1 s.2/\Kept R w w':=by
 have t:=hide he;have b6:=hide hP;clear he hP;have k0:=Kept.refl R w;have h0:=h;clear h;go_in;go_wp21;refine aK (kQ R A ws 0 UD ix w h0) ?_;rintro w1 ⟨h1,a⟩;have k1:=k0.trans a;clear a k0 h0;rcases YB (bP ws 0 UD ix) with aa|aa
 .rw[aa,Uz rfl] at h1;have E1:=hide ((aO t).kept k1 c)
  go_wp21;refine aK (vp R A ws _ _ w1 h1) ?_;rintro cl ⟨bu,a⟩;have bf:=k1.trans a;have ca:=hide ((aO E1).kept a c);clear a k1 h1 E1;go_wp21;refine aK (Be R A ws _ _ cl bu) ?_;rintro d0 ⟨c8,a⟩;have ct:=bf.trans a;have d9:=hide ((aO ca).kept a c);clear a bf bu ca;have f:=hide ct;have g:=hide c8;go_wp2;go_ret;exact⟨_,(aP ws [bJ,cF] (1,UD)),rfl,.bH aa,g,f⟩
 rw[aa] at h1 ⊢;go_wp21;refine aK (kQ R A ws 0 UD iO w1 h1) ?_;rintro w2 ⟨h2,a⟩;have k2:=k1.trans a;clear a k1 h1;rcases YB (bP ws 0 UD iO) with X|X
 .rw[X,Uz rfl] at h2;have E2:=hide ((aO t).kept k2 c)
  go_wp21;refine aK (FG R A ws (1,UD) w2 h2 (aO E2) c) ?_;rintro dz ⟨cz,a⟩;have cs:=k2.trans a;have d8:=hide ((aO E2).kept a c);clear a k2 h2 E2;have f:=hide cs;have g:=hide cz;go_wp2;go_ret;exact⟨_,(aP ws [bJ,cF,bB,bB] (1,UD)),rfl,.book X,g,f⟩
 rw[X] at h2 ⊢;go_wp21;refine aK (kQ R A ws 0 UD iE w2 h2) ?_;rintro w3 ⟨h3,a⟩;have k3:=k2.trans a;clear a k2 h2;rcases YB (bP ws 0 UD iE) with W|W
 .rw[W,Uz rfl] at h3;have E3:=hide ((aO t).kept k3 c)
  go_wp21;refine aK (FG R A ws (1,UD) w3 h3 (aO E3) c) ?_;rintro ck ⟨bs,a⟩;have bc:=k3.trans a;have b9:=hide ((aO E3).kept a c);clear a k3 h3 E3;go_wp21;refine aK (zi R A ws _ _ ck bs) ?_;rintro dy ⟨cy,a⟩;have cr:=bc.trans a;have d7:=hide ((aO b9).kept a c);clear a bc bs b9;have f:=hide cr;have g:=hide cy;go_wp2;go_ret;exact⟨_,(aP ws [bJ,cF,bB,bB,dM] (1,UD)),rfl,.hold W,g,f⟩
 rw[W] at h3 ⊢;go_wp21;refine aK (kQ R A ws 0 UD iF w3 h3) ?_;rintro w4 ⟨h4,a⟩;have k4:=k3.trans a;clear a k3 h3;rcases YB (bP ws 0 UD iF) with T|T
 .rw[T,Uz rfl] at h4;have E4:=hide ((aO t).kept k4 c)
  go_wp21;refine aK (FG R A ws (1,UD) w4 h4 (aO E4) c) ?_;rintro cj ⟨bq,a⟩;have ba:=k4.trans a;have b8:=hide ((aO E4).kept a c);clear a k4 h4 E4;go_wp21;refine aK (zi R A ws _ _ cj bq) ?_;rintro dw ⟨cx,a⟩;have cq:=ba.trans a;have d6:=hide ((aO b8).kept a c);clear a ba bq b8;have f:=hide cq;have g:=hide cx;go_wp2;go_ret;exact⟨_,(aP ws [bJ,cF,bB,bB,dM] (1,UD)),rfl,.wait T,g,f⟩
 rw[T] at h4 ⊢;go_wp21;refine aK (kQ R A ws 0 UD eQ w4 h4) ?_;rintro w5 ⟨h5,a⟩;have k5:=k4.trans a;clear a k4 h4;rcases YB (bP ws 0 UD eQ) with x|x
 .rw[x,Uz rfl] at h5;have E5:=hide ((aO t).kept k5 c)
  go_wp21;refine aK (vp R A ws _ _ w5 h5) ?_;rintro ch ⟨bn,a⟩;have a9:=k5.trans a;have b7:=hide ((aO E5).kept a c);clear a k5 h5 E5;go_wp21;refine aK (Be R A ws _ _ ch bn) ?_;rintro cg ⟨bm,a⟩;have a8:=a9.trans a;have ar:=hide ((aO b7).kept a c);clear a a9 bn b7;go_wp21;refine (aO b6 (.inl x) R A (aP ws [bJ,cF] (1,UD)) cg bm (aO ar) c).mono ?_;rintro e dv ⟨pc,ev,acc,fr,mn,mi,ti,un,s,rfl,hr,cw,a⟩;have HR:=hide hr;clear hr;simp only[kn];have cp:=a8.trans a;have d5:=hide ((aO ar).kept a c);clear a a8 bm ar;have f:=hide cp;have g:=hide cw;go_wp2;go_ret;exact⟨_,s,rfl,.series x pc ev acc fr mn mi ti un s HR,g,f⟩
 rw[x] at h5 ⊢;go_wp21;refine aK (kQ R A ws 0 UD iU w5 h5) ?_;rintro w6 ⟨h6,a⟩;have k6:=k5.trans a;clear a k5 h5;rcases YB (bP ws 0 UD iU) with S|S
 .rw[S,Uz rfl] at h6;have E6:=hide ((aO t).kept k6 c)
  go_wp21;refine aK (JS R A ws _ _ w6 h6) ?_;rintro du ⟨cv,a⟩;have cn:=k6.trans a;have d4:=hide ((aO E6).kept a c);clear a k6 h6 E6;have f:=hide cn;have g:=hide cv;go_wp2;go_ret;exact⟨_,(aP ws [jQ] (1,UD)),rfl,.bL S,g,f⟩
 rw[S] at h6 ⊢;go_wp21;refine aK (kQ R A ws 0 UD iR w6 h6) ?_;rintro w7 ⟨h7,a⟩;have k7:=k6.trans a;clear a k6 h6;rcases YB (bP ws 0 UD iR) with Q|Q
 .rw[Q,Uz rfl] at h7;have E7:=hide ((aO t).kept k7 c)
  go_wp21;refine aK (JS R A ws _ _ w7 h7) ?_;rintro dr ⟨cu,a⟩;have cm:=k7.trans a;have d2:=hide ((aO E7).kept a c);clear a k7 h7 E7;have f:=hide cm;have g:=hide cu;go_wp2;go_ret;exact⟨_,(aP ws [jQ] (1,UD)),rfl,.cancel Q,g,f⟩
 rw[Q] at h7 ⊢;go_wp21;refine aK (kQ R A ws 0 UD dC w7 h7) ?_;rintro w8 ⟨h8,a⟩;have k8:=k7.trans a;clear a k7 h7;rcases YB (bP ws 0 UD dC) with u|u
 .rw[u,Uz rfl] at h8;have E8:=hide ((aO t).kept k8 c)
  cases hm:dN ws.length (aP ws [bJ] (1,UD)).1 (aP ws [bJ] (1,UD)).2
  .go_wp21
   refine aK (b9H R A ws (1,UD) w8 h8 hm) ?_;rintro wz ⟨hz,kz⟩;have f:=hide (k8.trans kz);have g:=hide hz;have HM:=hide hm;clear hz kz hm k8 h8;go_wp2;go_ret;exact⟨_,(aP ws [bJ] (1,UD)),rfl,.list0 u HM,g,f⟩
  .go_wp21
   refine aK (b7W R A ws (1,UD) w8 h8 (aO E8) c hm) ?_;rintro wz ⟨hz,kz⟩;have f:=hide (k8.trans kz);have g:=hide hz;have HM:=hide hm;clear hz kz hm k8 h8;go_wp2;go_ret;exact⟨_,(aP ws [bJ,bB,bB] (1,UD)),rfl,.list1 u HM,g,f⟩
 rw[u] at h8 ⊢;go_wp21;refine aK (kQ R A ws 0 UD iT w8 h8) ?_;rintro w9 ⟨h9,a⟩;have k9:=k8.trans a;clear a k8 h8;rcases YB (bP ws 0 UD iT) with L|L
 .rw[L,Uz rfl] at h9;have E9:=hide ((aO t).kept k9 c);have f:=hide k9;have g:=hide h9;go_wp2;go_ret;exact⟨_,(1,UD),rfl,.waiting L,g,f⟩
 rw[L] at h9 ⊢;go_wp21;refine aK (kQ R A ws 0 UD iu w9 h9) ?_;rintro a7 ⟨E,a⟩;have I:=k9.trans a;clear a k9 h9;rcases YB (bP ws 0 UD iu) with K|K
 .rw[K,Uz rfl] at E;have cf:=hide ((aO t).kept I c)
  go_wp21;refine aK (vp R A ws _ _ a7 E) ?_;rintro a4 ⟨al,a⟩;have ag:=I.trans a;have ac:=hide ((aO cf).kept a c);clear a I E cf;go_wp21;refine aK (Bc R A ws _ _ a4 al (aO ac) c) ?_;rintro di ⟨b5,a⟩;have bj:=ag.trans a;have dq:=hide ((aO ac).kept a c);clear a ag al ac;have f:=hide bj;have g:=hide b5;go_wp2;go_ret;exact⟨_,(aP ws [bJ,bB,bB] (1,UD)),rfl,.ef K,g,f⟩
 rw[K] at E ⊢;go_wp21;refine aK (kQ R A ws 0 UD ir a7 E) ?_;rintro a3 ⟨D,a⟩;have H:=I.trans a;clear a I E;rcases YB (bP ws 0 UD ir) with q|q
 .rw[q,Uz rfl] at D;have cd:=hide ((aO t).kept H c)
  go_wp21;refine aK (vp R A ws _ _ a3 D) ?_;rintro az ⟨ak,a⟩;have af:=H.trans a;have ao:=hide ((aO cd).kept a c);clear a H D cd;go_wp21;refine aK (Be R A ws _ _ az ak) ?_;rintro ay ⟨aj,a⟩;have ae:=af.trans a;have an:=hide ((aO ao).kept a c);clear a af ak ao;go_wp21;refine aK (zi R A ws _ _ ay aj) ?_;rintro ax ⟨ai,a⟩;have ad:=ae.trans a;have ab:=hide ((aO an).kept a c);clear a ae aj an;go_wp21;refine aK (Bc R A ws _ _ ax ai (aO ab) c) ?_;rintro dh ⟨b4,a⟩;have bi:=ad.trans a;have dp:=hide ((aO ab).kept a c);clear a ad ai ab;have f:=hide bi;have g:=hide b4;go_wp2;go_ret;exact⟨_,(aP ws [bJ,cF,dM,bB,bB] (1,UD)),rfl,.find q,g,f⟩
 rw[q] at D ⊢;go_wp21;refine aK (kQ R A ws 0 UD fA a3 D) ?_;rintro aw ⟨C,a⟩;have G:=H.trans a;clear a H D;rcases YB (bP ws 0 UD fA) with i|i
 .rw[i,Uz rfl] at C;have au:=hide ((aO t).kept G c)
  go_wp21;refine (aO b6 (.inr i) R A (1,UD) aw C (aO au) c).mono ?_;rintro e db ⟨pc,ev,acc,fr,mn,mi,ti,un,s,rfl,hr,bz,a⟩;have HR:=hide hr;clear hr;simp only[kn];have bh:=G.trans a;have dn:=hide ((aO au).kept a c);clear a G C au;have f:=hide bh;have g:=hide bz;go_wp2;go_ret;exact⟨_,s,rfl,.expand i pc ev acc fr mn mi ti un s HR,g,f⟩
 rw[i] at C ⊢;go_wp21;refine aK (kQ R A ws 0 UD ja aw C) ?_;rintro av ⟨z,a⟩;have F:=G.trans a;clear a G C;rcases YB (bP ws 0 UD ja) with m|m
 .rw[m,Uz rfl] at z;have cc:=hide ((aO t).kept F c)
  go_wp21;refine aK (zi R A ws _ _ av z) ?_;rintro c9 ⟨bv,a⟩;have bg:=F.trans a;have dm:=hide ((aO cc).kept a c);clear a F z cc;have f:=hide bg;have g:=hide bv;go_wp2;go_ret;exact⟨_,(aP ws [dM] (1,UD)),rfl,.tick m,g,f⟩
 rw[m] at z ⊢;go_wp21;refine aK (kQ R A ws 0 UD iN av z) ?_;rintro d1 ⟨y,a⟩;have aq:=F.trans a;clear a F z;rcases YB (bP ws 0 UD iN) with j|j
 .rw[j,Uz rfl] at y;have fa:=hide ((aO t).kept aq c);have f:=hide aq;have g:=hide y;go_wp2;go_ret;exact⟨_,(1,UD),rfl,.clock j,g,f⟩
 rw[j] at y ⊢;have c2:=y.c2;have f2:=y.f2;go_wp2;go_ret;exact⟨_,(0,UE),rfl,.none aa X W T x S Q u L K q i m j,y.bad,aq.setCell _ _⟩
theorem ya(s:Us):∀ x∈Txt.aC s,x.size<=s.size:=by intro x a;unfold Txt.aC at a;simp only[List.mem_map] at a;obtain⟨y,_,rfl⟩:=a;have:(s.extract y.1 y.2).size=min y.2 s.size-y.1:=ByteArray.size_extract ..;omega
inductive pO (s:Us):Ending->Prop where
 |long (h:160<s.size):pO s (UW (US #[.nilIface,UL UV 1,UL UV 0]))
 |bad (h:s.size<=160) (v:UG) (st:Uw × Uv) (hl:jq (Txt.aC s) v st) (hb:st.2=UE\/dN (Txt.aC s).length st.1 st.2=UE):pO s (UW (US #[.nilIface,UL UV 2,UL UV st.1]))
 |sd (h:s.size<=160) (v:UG) (st:Uw × Uv) (hl:jq (Txt.aC s) v st) (h2:st.2=UD) (hb:dN (Txt.aC s).length st.1 st.2=UD):pO s (UW (US #[v,UL UV 0,UL UV 0]))
theorem JZ(s:Us):∀ k:M,k<=s.size->(Txt.oy s k).length+(if (Txt.jv s k).size=0 then 0 else 1)<=k
 |0,_=>by have:=Txt.xZ s 0;have:=Txt.J3 s 0;rw[Uz O];omega
 |k+1,hk=>by
  have ih:=JZ s k O;by_cases c:Txt.fK s k=32
  .let⟨h1,h2⟩:=Txt.Lm s k O c;have e:(if (⟨#[]⟩:Us).size=0 then (0:M) else 1)=0:=Uz rfl;rw[h1,h2,e,VA]
   by_cases a:(Txt.jv s k).size=0
   .rw[Uz a] at ih ⊢;simp;omega
   .rw[Uy a] at ih ⊢;simp;omega
  .let⟨_,h2⟩:=Txt.J2 s k c;rw[h2]
   split at ih <;> split <;> omega
theorem J9(s:Us):(Txt.aC s).length<=s.size:=by have:=JZ s s.size aJ;rw[Txt.El,VA];split <;> rename_i hc <;> simp[hc] at this ⊢ <;> omega
theorem b9Q{f g cap:M}{a:J Us}(h:w.ownsRow f 9 1 (UO g n cap) n (a.map UQ)):g<w/\∀ (i:M)(x:i<a.length),w.cell? (g,i)=U (UQ a[i]):=by
 rcases h.2 with ⟨C,_⟩|⟨H,y,q,z,E,m,F,_,D,ht⟩
 .cases C
 .cases z
  have j:g<w:=by
   by_cases j:g<w
   .exact j
   .rw[Array.getElem?_eq_none O] at m;cases m
  refine⟨j,fun i x=>?_⟩;have G:=h.1;have u:(a.map UQ).length=a.length:=Ui;have c:q[i]?=U (UQ a[i]):=by
   have t:(a.map UQ)[i]?=U (UQ a[i]):=by simp[x]
   rw[<- ht,List.getElem?_take,Uz O] at t;simpa using t
  simp[Vk,m,c]
theorem Rq(s:Us)(w:UF)(K:Env w)(Q:bP (Txt.aC s) 0 UD eQ=UE\/bP (Txt.aC s) 0 UD fA=UE->GP (Txt.aC s)):UI prog 35 #[s] w fun e w'=>pO s e/\UH w w w':=by
 have HE:=hide K;have ab:=K.size;clear K;by_cases C:s.size<=160
 .have H:(s.size:N)<=160:=O
  go_in;go_wp21;refine (b9v s w C).mono ?_;rintro e t ⟨A,rfl,hA,ho,L⟩;obtain⟨aa,j⟩:=b9Q ho;have G:=J9 s;have y:=ya s;obtain⟨ws,c⟩:∃ ws,ws=Txt.aC s:=⟨_,rfl⟩;have z:=hide c;rw[<- c] at j G y Q ⊢;have W:=hide Q;clear c ho Q;have E:=hide j;have T:=hide y;clear j y;go_wp21;obtain⟨X,F⟩:∃ X,X=t.alloc (UX #[UO A ws.length ws.length,V Y 0,UD] 121):=⟨_,rfl⟩;rw[<- F];have m:UH t t X:=by rw[F];exact aS
  have D:RS X t A ws 0 UD:=by refine⟨?_,?_,?_,?_,?_,O,fun i hi=>cell_later m (aO E i hi),O,VM _,fun x hx=>U0 (aO T x hx) C⟩ <;> (rw[F];simp)
  clear F;have eX:=((aO HE).later L).later m;have u:=L.size;refine (RO t A ws X D eX O (aO W)).mono ?_;rintro e w2 ⟨v,st,rfl,hl,q,k2⟩;have S:=q.c1;have c2:=q.c2;have HL:=hide hl;have a:=(L.trans (m.mono u)).trans (k2.below u (U0 u m.size));have I:=q.xU;clear hl eX D m;obtain⟨nx,wr⟩:=st;dsimp only at S c2 q I;have f:dN ws.length nx wr=UD\/dN ws.length nx wr=UE:=by cases dN ws.length nx wr <;> simp
  cases wr
  .rcases f with f|f
   .have HM:=hide f
    go_wp21;refine aK (kf t A ws nx UD w2 q) ?_;rintro w3 ⟨n,h⟩;have g:UH w w w3:=by rw[h];exact⟨a.os,a.tape,a.output,a.size,a.block⟩
    clear h q;rw[f];go_wp2;go_ret3;have c:=z.out;subst c;exact⟨.sd C v (nx,UD) HL rfl HM,g⟩
   .have HM:=hide f
    go_wp21;refine aK (kf t A ws nx UD w2 q) ?_;rintro w3 ⟨n,h⟩;have g:UH w w w3:=by rw[h];exact⟨a.os,a.tape,a.output,a.size,a.block⟩
    have d1:w3.cell? (t,1)=U (V Y nx):=by rw[h];exact S
    clear h q S c2;rw[f];go_wp2;go_quiet (fail);go_wp2;go_ret3;have c:=z.out;subst c;exact⟨.bad C v (nx,UD) HL (.inr HM),⟨g.os,g.tape,g.output,g.size,g.block⟩⟩
  .clear q f;go_wp2
   go_quiet (fail);go_wp2;go_ret3;have c:=z.out;subst c;exact⟨.bad C v (nx,UE) HL (.inl rfl),⟨a.os,a.tape,a.output,a.size,a.block⟩⟩
 .have H:¬ (s.size:N)<=160:=O
  go_in;go_wp2;go_ret3;exact⟨.long O,Below.refl _ _⟩
theorem Kd(s:Us)(w:UF)(a:Env w):UI prog 35 #[s] w fun e w'=>pO s e/\UH w w w':=Rq s w a (fun _ R A st w h a c=>b2P R A _ st w h a c)
open aA (aQ St eD kept fc ek ec jw dB dI jC eS jr cA Inv)
theorem Env.qM(h:Env w)(g:UH 10 w wx):Env wx:=by obtain⟨m,j⟩:=h.uG;have c:∀ {b:M}{o:M}{v:UG},b<10->w.cell? ⟨b,o,Z⟩=U v->wx.cell? ⟨b,o,Z⟩=U v:=fun f i=>(g.cell (p:=⟨_,_,Z⟩) f).trans i;have ht:=h.jH;let⟨a0,a1,a2,a3,a4,a5,a6,a7,a8,a9,a10,a11⟩:=ht;refine⟨⟨c Uj a0,c Uj a1,c Uj a2,c Uj a3,c Uj a4,c Uj a5,c Uj a6,c Uj a7,c Uj a8,c Uj a9,c Uj a10,c Uj a11⟩,⟨m,c Uj j⟩,?_,U0 h.size g.size,c Uj h.mo,c Uj h.tu,c Uj h.we,c Uj h.th,c Uj h.fr,c Uj h.sa,c Uj h.su⟩;have a:=h.pow;unfold Yw Yx at a ⊢;simp only[vP,Yy] at a ⊢;rw[g.block 1 Uj];exact a
theorem Step.qM{S:bO->Prop}{B:M}{a:M->Uu bO}(h:Step S B aM a w w')(q:10<=B)(m:10<=w.heap.size)(i:∀ b,b<10->aM b=Z):UH 10 w w'/\∀ b,b<10->a b=Z:=by
 let⟨G,h1,h2⟩:=h.off;refine⟨⟨h1.os,h1.tape,h1.output,h1.size,fun b f=>h1.block b O (fun j=>?_)⟩,fun b f=>?_⟩
 .rcases h2 b j with ⟨c,e,_⟩|⟨_,e⟩
  .rw[i b f] at e;cases e
  .omega
 .cases e:a b with
  |none=>rfl
  |some c =>
   rcases h.new b c e with g|g
   .rw[i b f] at g;cases g
   .omega
structure BD(w:UF)(p d:M)(s:St)(r:Raw)(aM:M->Uu bO):Prop where
 pc:w.heap[p]?=U (UX #[d] 67 (0,0))
 pn:aM p=Z
 ds:eH w d s r aM
 env:Env w
 gl:∀ b,b<10->aM b=Z
def oA(w:UF)(p d:M)(aM:M->Uu bO)(q:St × aA.bS)(v:UG)(w':UF):Prop :=∃ (c:Raw) (a:M->Uu bO),BD w' p d q.1 c a/\Step anyS w aM a w w'/\mV w' w a v q.2
def zM(t:Us):Prop:=∀ X,Env X->UI prog 35 #[t] X fun e w'=>pO t e/\UH X X w'
theorem QW{s:St}(h:BD w p d s r aM)(t:Us)(a:UG)(l:aA.jb)(Q:zM t)(hr:∀ e,pO t e->e=UW (US #[a,V Y 0,V Y 0]))(u:aA.eS (aA.aX s l).1)(x:aA.Inv (aA.jE s l).1)(y:(aA.aX s l).2.granted.length<=50000)
  (g:∀ X,hI X->10<=X.heap.size->eH X d s r aM->UI prog 62 #[d,a] X fun e w'=>∃ v,e=UW v/\eu X d aM (aA.aX s l) v w'):
  UI prog 24 #[p,t] w fun e w'=>∃ v,e=UW v/\oA w p d aM (aA.jE s l) v w':=by
 have L:UH w w (w.alloc bI):=aS;have hq:=dH w bI;have hs:w<(w.alloc bI).heap.size:=Ui;have RD:=aB (Q (w.alloc bI) (h.env.later L));have j:=aB (Vf L (Vf (Q7.of hq) (Vf (h.ds.dk.none aJ) hs)));have HH:=aB h;have HR:=aB hr;have HD:Hid (∀ c,UH w w c->UI prog 37 #[d,a] c fun e w'=>∃ v,e=UW v/\eu c d aM (aA.jE s l) v w'):=fun c k=>Tw ⟨h.ds.dk.later k,h.ds.of,h.ds.wl,h.ds.hl,h.ds.inv⟩ a l u y (fun X kX K=>g X (((h.env.later k).later kX).jH) (U0 (U0 h.env.size k.size) kX.size) K);have HI:=aB x;have f:=(YC.1 h.pc).1;clear h hr g L hq hs y u x;generalize aA.jE s l=q at *;go_in;go_upto_region 1 with fail;change YD _ _ _ _ (w.alloc bI);generalize w.alloc bI=X at *;go_upto_region 2 with (first
  |(go_at_call 35;refine RD.mono ?_;rintro e c ⟨m,D⟩;obtain rfl:=HR _ m))
 have BW:=j.1.trans (D.mono j.1.size);have pc:c.cell? (p,0)=U ↑d:=by have:=(BW.block p f).trans HH.pc;simp[Vk,this]
 have DD:=aB (HD c BW);have QX:Hid (Q7 c w.heap.size/\w<c.heap.size):=⟨j.2.1.later (D.block _ j.2.2.2),Nat.lt_of_lt_of_le j.2.2.2 D.size⟩;clear HD RD HR D m;go_wp21;refine DD.mono ?_;rintro e w2 ⟨v,rfl,ap⟩;obtain⟨S,at_,E,a1,a2,a3,a4,I,H,G,F,c1,c2,W,T,rfl,q7,hf⟩:=ap.up BW aJ QX.2 j.2.2.1 QX.1;have HF:Hid (oA w p d aM q (bT S at_ E (UO a1 I c1) (UO a2 H c2) (UO a3 G W) (UO a4 F T)) (dE w2 w (V Y S) (V Y at_) (V Y E) (UO a1 I c1) (UO a2 H c2) (UO a3 G W) (UO a4 F T))):=by obtain⟨r',z,k1,k2,k3,k4,C,k6⟩:=hf (V Y S) (V Y at_) (V Y E) (UO a1 I c1) (UO a2 H c2) (UO a3 G W) (UO a4 F T);have i:=HH.out;obtain⟨t1,t2⟩:=C.qM i.env.size i.env.size i.gl;exact⟨r',z,⟨(C.cS f i.pn f).trans i.pc,C.dY i.pn f,⟨k1,k2,k3,k4,HI⟩,i.env.qM t1,t2⟩,C,k6⟩
 clear ap hf DD pc;obtain⟨q0,q1,q2,q3,q4,q5,q6,fq⟩:=q7;simp only[bT];go_wp21;exact cV results24 ⟨q0,q1,q2,q3,q4,q5,q6,fq⟩ ⟨_,rfl,HF⟩
theorem Qw{s:St}(h:BD w p d s r aM)(t:Us)(q at_:N)(F:zM t)(L:q≠0)(I:∀ e,pO t e->e=UW (US #[.nilIface,q,at_])):UI prog 24 #[p,t] w fun e w'=>∃ v,e=UW v/\oA w p d aM (s,⟨q,at_,0,[],[],[],[]⟩) v w':=by
 have E:UH w w (w.alloc bI):=aS;have K:=dH w bI;have H:w<(w.alloc bI).heap.size:=Ui;have RD:=aB (F (w.alloc bI) (h.env.later E));have C:=aB (Vf E (Vf (Q7.of K) (Vf (h.ds.dk.none aJ) H)));have HH:=aB h;have Q:=aB I;have z:p<w:=(YC.1 h.pc).1;have T:(q != 0)=UE:=by simpa using L
 clear h I E K H L;go_in;go_upto_region 1 with fail;change YD _ _ _ _ (w.alloc bI);generalize w.alloc bI=X at *;go_upto_region 2 with (first
  |(go_at_call 35;refine RD.mono ?_;rintro e u ⟨y,m⟩;obtain rfl:=Q _ y))
 have S:Hid (UH w w u):=C.1.trans (m.mono C.1.size);have W:Hid (Q7 u w):=C.2.1.later (m.block _ C.2.2.2);have HF:Hid (∀ a b c e f g i,oA w p d aM (s,⟨q,at_,0,[],[],[],[]⟩) (bT q at_ 0 () () () ()) (dE u w a b c e f g i)):=fun a b c e f g i=>by have j:=HH.out;have G:=mY u w a b c e f g i;have nq:=j.ds.dk.none (zq w);have st:Step anyS w aM aM w (dE u w a b c e f g i):=(Step.below S).trans ⟨⟨_,G,fun x D=>.inr (by have:x=w:=X9.1 D;subst this;exact⟨nq,UY _⟩)⟩,fun _ _ h=>h,fun _ _ h=>.inl h⟩;let⟨t1,t2⟩:=st.qM j.env.size j.env.size j.gl;exact⟨r,aM,⟨(st.cS z j.pn z).trans j.pc,j.pn,⟨(j.ds.dk.later S).off G (fun x D=>by have:x=w:=X9.1 D;subst this;exact nq),j.ds.of,j.ds.wl,j.ds.hl,j.ds.inv⟩,j.env.qM t1,t2⟩,st,⟨_,_,_,_,[],rfl,rfl,iw.nil _ _ _,eO.nil _ _ _,eO.nil _ _ _,eO.nil _ _ _,(fun b m=>by cases m),fun b m=>by cases m⟩⟩
 clear RD Q m y C;let⟨q0,q1,q2,q3,q4,q5,q6,fq⟩:=W;go_wp21;exact cV results24 ⟨q0,q1,q2,q3,q4,q5,q6,fq⟩ ⟨_,rfl,HF _ _ _ _ _ _ _⟩
theorem oj{T:UK}{fs:Array Field}(c:prog.underlying T=U (.struct fs))(a:UK)(v:UG)(w:UF):(YF (UU T v) a T UE).run prog w=.ok (US #[v,UE]) w:=by simp[YF,go_sem,YG,run_underlying c]
theorem eH.pv{s:aA.St}(h:eH w d s r aM)(o:Obj):eH ((w.alloc bI).alloc o) d s r aM/\UH w w ((w.alloc bI).alloc o)/\Q7 ((w.alloc bI).alloc o) w.heap.size/\aM w=Z/\w<((w.alloc bI).alloc o).heap.size:=by have a:UH w w ((w.alloc bI).alloc o):=aS.alloc Ui _;exact⟨⟨h.dk.later a,h.of,h.wl,h.hl,h.inv⟩,a,Q7.of ((Below.heap_alloc _ _ _ Ui).trans (dH w bI)),h.dk.none aJ,by simp;omega⟩
theorem eu.pq{X D:UF}{q:aA.St × aA.bS}{v:UG}(h:eu X d aM q v D)(k:UH w w X/\Q7 X w.heap.size/\aM w=Z/\w<X.heap.size):∃ (i at_ n:N) (C z y x:Uu Addr) (g f c a u t m j:M),v=bT i at_ n (UO C g u) (UO z f t) (UO y c m) (UO x a j)/\Q7 D w.heap.size/\eu w d aM q v (dE D w i at_ n (UO C g u) (UO z f t) (UO y c m) (UO x a j)):=by
 let⟨i,at_,n,C,z,y,x,g,f,c,a,u,t,m,j,e,q7,hf⟩:=h.up k.1 aJ k.2.2.2 k.2.2.1 k.2.1;exact⟨i,at_,n,C,z,y,x,g,f,c,a,u,t,m,j,e,q7,hf _ _ _ _ _ _ _⟩
theorem oS(t:UK)(h:t≠143)(a:UK)(v:UG)(w:UF):(YF (UU t v) a 143 UE).run prog w=.ok (US #[UT #[UQ ⟨#[]⟩,V Y 0],UD]) w:=by simp[YF,go_sem,YG,run_underlying underlying143,h]
theorem pG(t:UK)(h:t≠148)(a:UK)(v:UG)(w:UF):(YF (UU t v) a 148 UE).run prog w=.ok (US #[UT #[UQ ⟨#[]⟩,V Y 0,V Y 0,V Y 0],UD]) w:=by simp[YF,go_sem,YG,run_underlying underlying148,h]
theorem qs(t:UK)(h:t≠150)(a:UK)(v:UG)(w:UF):(YF (UU t v) a 150 UE).run prog w=.ok (US #[UT #[UQ ⟨#[]⟩,V Y 0,V Y 0,V Y 0,V Y 0],UD]) w:=by simp[YF,go_sem,YG,run_underlying underlying150,h]
theorem qT(t:UK)(h:t≠151)(a:UK)(v:UG)(w:UF):(YF (UU t v) a 151 UE).run prog w=.ok (US #[UT #[UQ ⟨#[]⟩,V Y 0,V Y 0,V Y 0,V Y 0],UD]) w:=by simp[YF,go_sem,YG,run_underlying underlying151,h]
theorem sk(t:UK)(h:t≠158)(a:UK)(v:UG)(w:UF):(YF (UU t v) a 158 UE).run prog w=.ok (US #[UT #[UQ ⟨#[]⟩,V Y 0,V Y 0,V Y 0,UD,UD,UD,UD,UD,UD,UD,V Y 0,V Y 0,V Y 0,V Y 0,V Y 0],UD]) w:=by simp[YF,go_sem,YG,run_underlying underlying158,h]
theorem te(t:UK)(h:t≠160)(a:UK)(v:UG)(w:UF):(YF (UU t v) a 160 UE).run prog w=.ok (US #[UT #[V Y 0],UD]) w:=by simp[YF,go_sem,YG,run_underlying underlying160,h]
theorem uD(t:UK)(h:t≠161)(a:UK)(v:UG)(w:UF):(YF (UU t v) a 161 UE).run prog w=.ok (US #[UT #[V Y 0],UD]) w:=by simp[YF,go_sem,YG,run_underlying underlying161,h]
theorem vL(t:UK)(h:t≠163)(a:UK)(v:UG)(w:UF):(YF (UU t v) a 163 UE).run prog w=.ok (US #[UT #[UQ ⟨#[]⟩,UD,V Y 0,V Y 0],UD]) w:=by simp[YF,go_sem,YG,run_underlying underlying163,h]
theorem xT(t:UK)(h:t≠166)(a:UK)(v:UG)(w:UF):(YF (UU t v) a 166 UE).run prog w=.ok (US #[UT #[],UD]) w:=by simp[YF,go_sem,YG,run_underlying underlying166,h]
theorem zY(t:UK)(h:t≠169)(a:UK)(v:UG)(w:UF):(YF (UU t v) a 169 UE).run prog w=.ok (US #[UT #[UQ ⟨#[]⟩,V Y 0,V Y 0],UD]) w:=by simp[YF,go_sem,YG,run_underlying underlying169,h]
theorem Cv(t:UK)(h:t≠171)(a:UK)(v:UG)(w:UF):(YF (UU t v) a 171 UE).run prog w=.ok (US #[UT #[UQ ⟨#[]⟩,V Y 0,V Y 0,V Y 0,V Y 0],UD]) w:=by simp[YF,go_sem,YG,run_underlying underlying171,h]
theorem IV(t:UK)(h:t≠173)(a:UK)(v:UG)(w:UF):(YF (UU t v) a 173 UE).run prog w=.ok (US #[UT #[V Y 0,V Y 0,UD,UD,UD,UD,UD,UD,UD,V Y 0,V Y 0,V Y 0,V Y 0,V Y 0],UD]) w:=by simp[YF,go_sem,YG,run_underlying underlying173,h]
theorem Rt(t:UK)(h:t≠175)(a:UK)(v:UG)(w:UF):(YF (UU t v) a 175 UE).run prog w=.ok (US #[UT #[V Y 0],UD]) w:=by simp[YF,go_sem,YG,run_underlying underlying175,h]
theorem b8L{s:St}(h:eH w d s r aM)(id:N)(ae:0<=id/\id<=9999999):UI prog 105 #[d,UT #[id]] w fun e w'=>∃ v,e=UW v/\eu w d aM (aA.aX s (.cancel id)) v w':=by
 obtain⟨hX,ab,aa,_⟩:=qR w (UX #[id] 161);have xi:=bN aa 0 rfl;have i:=aB h;have K:=aB (Vf hX ab);clear h hX ab aa;go_in;go_upto_region 1 with fail;change YD _ _ _ _ ((w.alloc (UX #[id] 161)).alloc bI);generalize (w.alloc (UX #[id] 161)).alloc bI=X at K xi ⊢;have t:=i.dk.later K.1;obtain⟨m,f,a1,a2,a3,a4⟩:=t.me;have kk:=yq (n:=id) O O;have a:=(a3.block (w':=X.drew) rfl).look yh underlying87 (Jy X.drew) kk;rw[a4 id] at a;have QX:Hid (Q7 X.drew (w.heap.size+1)):=Q7.of K.2;have BX:Hid (UH w w X.drew):=K.1.drew
 cases H:jc r.eg id with
 |none =>
  rw[H] at a;have c:(Yi 87 (.map (U m)) id UD).run prog X.drew=.ok (.pointer Z) X.drew:=a;have HD:Hid (aA.aX s (.cancel id)=(s,aA.bS.error 9)):=by have e:=MW i.of H;simp only[Hid,aA.aX,e]
  clear a a3 a4 H t K;go_big_region;clear c xi a1;go_wp21;refine aK (ly 9 X.drew) fun w1 hb=>?_;have Q:=aB (i.refuse BX QX hb HD);obtain⟨q0,q1,q2,q3,q4,T,S,fq⟩:=Q.1;simp only[bT];go_wp21;exact cV results105 ⟨q0,q1,q2,q3,q4,T,S,fq⟩ ⟨_,rfl,Q.2⟩
 |some b =>
  rw[H] at a;obtain⟨g,C,rfl,rfl⟩:=Et H;have c:(Yi 87 (.map (U m)) g.e.id UD).run prog X.drew=.ok g.eb X.drew:=a;have hf:=Bi i.of t.ni C;have ck:X.drew.cell? (g.eb,1)=U ↑g.e.kind:=(t.en g C).1.k;have hd:=t.later (eN X);have HD:Hid (aA.aX s (.cancel g.e.id)=({ s with es:=kept g.e.id s.es },aA.bS.num 0)):=by simp only[Hid,aA.aX,hf]
  have hQ:w+1<X.drew.heap.size:=U1 _ _ QX.q0;have I:aM (w.heap.size+1)=Z:=i.dk.none O;by_cases G:g.e.kind=1
  .have ad:(g.e.kind != 1)=UD:=by simpa using G
   have LV:=aB (Fo hd i.of i.wl i.bA C (i.hl.qd t.ni C G));have ST:Hid (Step anyS w aM aM w X.drew):=Step.below BX;have Q2:=QX;have q:=hQ;have j:=I;clear a a3 a4 H t K hf G hd C;go_big_region;clear c xi a1;go_wp21;refine LV.mono ?_;rintro e w2 ⟨rfl,r2,ac,z,y,k7,k8,D⟩;have hq:=D.cS q j q;have Q:Hid (eu w d aM (aA.aX s (.cancel g.e.id)) (bT 0 0 0 () () () ()) (dE w2 (w.heap.size+1) (V Y 0) (V Y 0) (V Y 0) () () () ())):=by rw[HD];exact wH z y k7 k8 (ST.trans (D.any ST.size)) O (D.dY j q) 0 0 _ _ _ _ _ _ _
   clear z y k7 k8 D LV;obtain⟨q0,q1,q2,q3,q4,T,S,fq⟩:=Q2.later hq;go_wp21;exact cV results105 ⟨q0,q1,q2,q3,q4,T,S,fq⟩ ⟨_,rfl,Q⟩
  .have ad:(g.e.kind != 1)=UE:=by simpa using G
   have E:r.hl.length<=1000:=by
    have h1:=i.hl.len;have h2:r.eg.length=s.es.length:=by rw[<- i.of.es];simp
    have h3:=kS i.bA;omega
   have DR:=aB (fun wx (k:UH X.drew.heap.size X.drew wx)=>Lo (hd.later k) i.hl.1 E g.e.bY g.e.id ⟨_,i.hl.has C G,rfl,rfl⟩);have c0:X.drew.cell? (g.eb,0)=U ↑g.e.id:=(t.en g C).1.en.c0;have c5:X.drew.cell? (g.eb,5)=U ↑g.e.bY:=(t.en g C).1.u;have L:=aB (Vf C (Vf G t.ni));clear a a3 a4 H t K hf G hd C E;go_big_region;clear c xi a1;go_upto_region 5 with fail;generalize hW:X.drew=W at *;go_region_held3 (fun w'=>w'.cell? (g.eb,0)=U ↑g.e.id/\w'.cell? (g.eb,5)=U ↑g.e.bY)
    (first
     |exact⟨c0,c5⟩
     |exact⟨((z.en g L.1).1).en.c0,((z.en g L.1).1).u⟩)
    (first
     |(go_at_call 154;refine aK (DR _ (eN W)) ?_;rintro w4 ⟨x,l',F,k1,k2,k3,k4,z,y⟩))
   have LV:=aB (Fo z (s:=s) ⟨i.of.now,i.of.given,i.of.ts,i.of.es,i.of.th,i.of.tb⟩ i.wl i.bA L.1 (i.hl.goes L.2.2 L.1 L.2.1 k2 k3 k4));have ST:Hid (Step anyS w aM F w w4):=(Step.below BX).trans ((Step.below (eN W)).trans (y.any BX.size));have Q2:Hid (Q7 w4 (w.heap.size+1)):=QX.later (y.cS (b:=w.heap.size+1) hQ I hQ);have q:w+1<w4.heap.size:=U1 _ _ Q2.q0;have j:F (w.heap.size+1)=Z:=y.dY I hQ;clear k1 k2 k3 k4 z y DR c0 c5 ck hW;go_wp21;refine LV.mono ?_;rintro e w2 ⟨rfl,r2,ac,z,y,k7,k8,D⟩;have hq:=D.cS q j q;have Q:Hid (eu w d aM (aA.aX s (.cancel g.e.id)) (bT 0 0 0 () () () ()) (dE w2 (w.heap.size+1) (V Y 0) (V Y 0) (V Y 0) () () () ())):=by rw[HD];exact wH z y k7 k8 (ST.trans (D.any ST.size)) O (D.dY j q) 0 0 _ _ _ _ _ _ _
   clear z y k7 k8 D LV;obtain⟨q0,q1,q2,q3,q4,T,S,fq⟩:=Q2.later hq;go_wp21;exact cV results105 ⟨q0,q1,q2,q3,q4,T,S,fq⟩ ⟨_,rfl,Q⟩
end Go.Proofs.YtolaacmheeaadaaGreatDoor
