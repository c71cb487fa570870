import Derived.Test.YtfigmlfdnickmaaGreatDoorL05
import Derived.Test.YtfigmlfdnickmaaGreatDoorShelf
import Derived.Lib.SmallJoins
import Derived.Deep.RegionHeld3
import Derived.Deep.AppendLies
import Derived.Deep.RegionHeld
set_option maxRecDepth 100000
set_option maxHeartbeats 8000000
open Go.Proofs.Tryz
open _root_ renaming ByteArray->UU,List->UV,Bool->UX,Nat->UY,Int->UZ,if_neg->U0,if_pos->U1,absurd->U2
open Option renaming none->U3,some->U4,bind_some->YC
open Bool renaming false->U5,true->U6,and_eq_true->WN,false_eq_true->Vn,true_and->YH,and_self->YI,and_false->YJ,eq_iff_iff->WU,beq_comm->YL
open Go renaming World->U7,Value->U8,Calls->Va
open Go.RowKit renaming Below->U9
open Go.Lib renaming TabIs->YA,decFrom->YD,atoi->YG,cut->WV,countB->YM
open Nat renaming le_trans->Vg,le_refl->Vd,zero_le->V6
open Go.World renaming var?->YB,block_lt_of_cell?->Vh,cell?_setCell_far->YP
open List renaming all_cons->YF,map_append->We,length_append->VU,append_nil->XT,drop_eq_getElem_cons->Ws
open ByteArray renaming size_extract->Xh,empty->Yy
open Go.Value renaming string->YK,ownBlock->Wr
open Go.Calls renaming quiet_of_same->Yz,quiet_of->Yx
open Int renaming natCast_nonneg->YN
namespace Go.Proofs.YtfigmlfdnickmaaGreatDoor
variable{wr:UX}{s:UU}{B:UU->UX}{fr mi mn pc ti un:UZ}{ws:UV UU}{acc:UV UZ}{l:UV UInt8}{A P R b hi k lo n nx o:UY}{v:UY->U8}{w w' wx:U7}
open Go.RowKit
structure Env(w:U7):Prop where
 iL:gy w
 tw:∃ m,w.cell? ⟨2,0,U3⟩=U4 (.int .i64 m)
 pow : YA prog w "internal/strconv.uint64pow10" .u64 Lib.pow10Tab
 size:10<=w.heap.size
 mo:w.cell? ⟨3,0,U3⟩=U4 (.string ⟨#[109,111]⟩)
 tu:w.cell? ⟨3,1,U3⟩=U4 (.string ⟨#[116,117]⟩)
 we:w.cell? ⟨3,2,U3⟩=U4 (.string ⟨#[119,101]⟩)
 th:w.cell? ⟨3,3,U3⟩=U4 (.string ⟨#[116,104]⟩)
 fr:w.cell? ⟨3,4,U3⟩=U4 (.string ⟨#[102,114]⟩)
 sa:w.cell? ⟨3,5,U3⟩=U4 (.string ⟨#[115,97]⟩)
 su:w.cell? ⟨3,6,U3⟩=U4 (.string ⟨#[115,117]⟩)
theorem uW : prog.globalNamed "internal/strconv.uint64pow10" = U4 0 := by kernel_rfl
theorem Env.later(h:Env w)(a:U9 w.heap.size w wx):Env wx:=by
 obtain⟨m,d⟩:=h.tw;refine⟨h.iL.later a,⟨m,cell_later a d⟩,?_,Vg h.size a.size,cell_later a h.mo,cell_later a h.tu,cell_later a h.we,cell_later a h.th,cell_later a h.fr,cell_later a h.sa,cell_later a h.su⟩;have c:=h.pow;have f:=h.size;unfold YA YB at c ⊢;simp only[uW,YC] at c ⊢;rw[a.block 0 UI];exact c
theorem Env.drewN(h:Env w)(n:UY):Env (w.drewN n):=h.later (w:=w) (wx:=w.drewN n) ⟨rfl,rfl,rfl,Vd _,fun _ _=>rfl⟩
theorem xH{a b:UU}{c d:UX}(h:a=b)(g:c=d):Ending.returned (.tuple #[.string a,.bool c])=.returned (.tuple #[.string b,.bool d]):=by rw[h,g]
theorem Hq(s:UU)(w:U7)(a:s.size<=281474976710656):
  Va prog 142 #[.string s] w fun e w'=>e=.returned (.string s)/\U9 w.heap.size w w':=by
 go_in
 go_wp2_with fail
 refine (stringslite_Clone s w a).mono ?_;rintro e w' ⟨rfl,c⟩;go_wp2;go_ret;exact⟨rfl,c⟩
def qF(s:UU):UU:=if aB.fc s.data.toList then s else ⟨#[]⟩
theorem I8(s:UU)(w:U7)(z:s.size<=160):
  Va prog 131 #[.string s] w fun e w'=>e=.returned (.tuple #[.string (qF s),.bool (aB.fc s.data.toList)])/\U9 w.heap.size w w':=by
 by_cases x:s.size=0
 ·have H:Hid (aB.fc s.data.toList=U5):=aB.xL (by rw[aB.fM];omega);have u:((s.size:UZ)==0)=U6:=beq_iff_eq.2 UI
  go_in
  go_wp2;go_ret2;exact⟨xH (by simp[qF,H.y]) (by rw[H.y]),Below.refl _ _⟩
 ·have u:((s.size:UZ)==0)=U5:=beq_eq_false_iff_ne.2 UI
  by_cases D:8<s.size
  ·have H:Hid (aB.fc s.data.toList=U5):=aB.xL (by rw[aB.fM];omega);clear x
   go_in
   go_wp2;go_ret2;exact⟨xH (by simp[qF,H.y]) (by rw[H.y]),Below.refl _ _⟩
  ·go_in
   go_wp2
   go_loop [4] (fun i=>∃ k:UY,k<=s.size/\i=.int .i64 k/\aB.nM (s.data.toList.take k)=U6) (fun i=>s.size-(intOf i).toNat)
   case atStart=>exact⟨0,V6 _,rfl,rfl⟩
   case round =>
    obtain⟨k,C,rfl,h⟩:=hrel;have g:=hide h;clear h
    by_cases f:k<s.size
    ·have m:Hid (s.data.toList.take (k+1)=s.data.toList.take k++[s[k]]):=aB.xO s k f
     by_cases c:aB.low s[k]=U6
     ·have a:=(aB.xn _).1 c;have d:=hide c;obtain⟨r,q⟩:=a;clear c;go_wp2
      go_round
      case rel=>exact⟨k+1,by omega,by go_num,by rw[m.y,aB.xD,g.y,d.y];rfl⟩
      case measure=>simp[intOf];omega
     ·have d:Hid (aB.fc s.data.toList=U5):=aB.Gb (aB.Hf _ (k+1) (by rw[m.y,aB.xD,g.y];simpa using c))
      have a:(s[k].toNat:UZ)<97\/(¬ (s[k].toNat:UZ)<97/\122<(s[k].toNat:UZ)):=by
       have:=mt (aB.xn s[k]).2 c;omega
      clear c;rcases a with a |⟨a,j⟩
      all_goals
       go_wp2;go_ret2;exact⟨xH (by simp[qF,d.y]) (by rw[d.y]),Below.refl _ _⟩
    ·have y:Hid (s.data.toList.take k=s.data.toList):=aB.sE s k UI;have p:Hid (aB.fc s.data.toList=U6):=aB.GM (by rw[aB.fM];omega) (by rw[aB.fM];omega) (by rw[<- y.y];exact g.y)
     go_wp2_with fail
     refine (Hq s w UI).mono ?_;rintro e w' ⟨rfl,t⟩;go_wp2;go_ret2;exact⟨xH (by simp[qF,p.y]) (by rw[p.y]),t⟩
theorem Mj(s:UU)(w:U7)(x:s.size<=160):
  Va prog 186 #[.string s] w fun e w'=>e=.returned (.bool (aB.fc s.data.toList))/\w'=w:=by
 by_cases C:s.size<1
 ·have H:Hid (aB.fc s.data.toList=U5):=aB.xL (by rw[aB.fM];omega);have r:((s.size:UZ)<1):=UI
  go_in
  go_wp2;go_ret;exact⟨eC (by rw[H.y]),rfl⟩
 ·have r:¬ ((s.size:UZ)<1):=UI
  by_cases z:8<s.size
  ·have H:Hid (aB.fc s.data.toList=U5):=aB.xL (by rw[aB.fM];omega)
   go_in
   go_wp2;go_ret;exact⟨eC (by rw[H.y]),rfl⟩
  ·go_in
   go_wp2
   go_loop [3] (fun i=>∃ k:UY,k<=s.size/\i=.int .i64 k/\aB.nM (s.data.toList.take k)=U6) (fun i=>s.size-(intOf i).toNat)
   case atStart=>exact⟨0,V6 _,rfl,rfl⟩
   case round =>
    obtain⟨k,y,rfl,h⟩:=hrel;have f:=hide h;clear h
    by_cases d:k<s.size
    ·have m:Hid (s.data.toList.take (k+1)=s.data.toList.take k++[s[k]]):=aB.xO s k d
     by_cases c:aB.low s[k]=U6
     ·have a:=(aB.xn _).1 c;have g:=hide c;obtain⟨q,p⟩:=a;clear c;go_wp2
      go_round
      case rel=>exact⟨k+1,by omega,by go_num,by rw[m.y,aB.xD,f.y,g.y];rfl⟩
      case measure=>simp[intOf];omega
     ·have g:Hid (aB.fc s.data.toList=U5):=aB.Gb (aB.Hf _ (k+1) (by rw[m.y,aB.xD,f.y];simpa using c))
      have a:(s[k].toNat:UZ)<97\/(¬ (s[k].toNat:UZ)<97/\122<(s[k].toNat:UZ)):=by
       have:=mt (aB.xn s[k]).2 c;omega
      clear c;rcases a with a |⟨a,j⟩
      all_goals
       go_wp2;go_ret;exact⟨eC (by rw[g.y]),rfl⟩
    ·have u:Hid (s.data.toList.take k=s.data.toList):=aB.sE s k UI;have t:Hid (aB.fc s.data.toList=U6):=aB.GM (by rw[aB.fM];omega) (by rw[aB.fM];omega) (by rw[<- u.y];exact f.y);go_wp2;go_ret;exact⟨eC (by rw[t.y]),rfl⟩
theorem TA(l:UV UInt8):∀ acc:UY,aB.gu l=U6->∃ n:UY,YD acc l=U4 n/\(n:UZ)=l.foldl (fun n c=>n*10+((c.toNat:UZ)-48)) (acc:UZ):=by
 induction l with
 |nil=>intro acc _;exact⟨acc,rfl,rfl⟩
 |cons c l ih =>
  intro acc h;simp only[aB.gu,YF,WN] at h;have f:=(aB.sD c).1 h.1;obtain⟨n,d,a⟩:=ih (acc*10+(c.toNat-48)) h.2;refine⟨n,?_,?_⟩
  ·simp only[YD,Lib.digitVal];rw[U1 UI];exact d
  ·rw[a,List.foldl_cons]
   congr 1
   omega
theorem Ql(l:UV UInt8)(h:aB.gu l=U6)(f:l≠[]):YG l=U4 (aB.mD l):=by
 obtain⟨n,d,c⟩:=TA l 0 h
 cases l with
 |nil=>exact U2 rfl f
 |cons b r =>
  simp only[aB.gu,YF,WN] at h;have a:=(aB.sD b).1 h.1
  have i:(b==45)=U5:=by
   rw[beq_eq_false_iff_ne];intro e;subst e;revert a;decide
  have g:(b==43)=U5:=by
   rw[beq_eq_false_iff_ne];intro e;subst e;revert a;decide
  simp only[YG,i,g,Vn,if_false,Lib.decNat,List.isEmpty_cons,d,Option.map_some];rw[c];rfl
def bF(s:UU)(lo hi:UY):UZ:=if lo<=s.size/\s.size<=hi/\aB.gu s.data.toList=U6 then aB.mD s.data.toList else -1
theorem A3(h:¬ (lo<=s.size/\s.size<=hi)):bF s lo hi=-1:=by
 unfold bF;rw[U0 (fun g=>h ⟨g.1,g.2.1⟩)]
theorem A5(h:aB.gu s.data.toList=U5):bF s lo hi=-1:=by
 unfold bF;rw[U0 (fun g=>by rw[h] at g;exact U2 g.2.2 UK)]
theorem A4(c:lo<=s.size)(a:s.size<=hi)(h:aB.gu s.data.toList=U6):bF s lo hi=aB.mD s.data.toList:=by
 unfold bF;rw[U1 ⟨c,a,h⟩]
theorem eQ(s:UU)(lo hi:UY)(w:U7)(I:s.size<=160)(r:1<=lo)(u:hi<=7):
  Va prog 126 #[.string s,.int .i64 lo,.int .i64 hi] w fun e w'=>e=.returned (.int .i64 (bF s lo hi))/\U9 w.heap.size w w':=by
 by_cases L:s.size<lo
 ·have H:Hid (bF s lo hi=-1):=A3 UI;have D:((s.size:UZ)<(lo:UZ)):=UI
  go_in
  go_wp2;go_ret;exact⟨fL (by rw[H.y]),Below.refl _ _⟩
 ·have D:¬ ((s.size:UZ)<(lo:UZ)):=UI
  by_cases K:hi<s.size
  ·have H:Hid (bF s lo hi=-1):=A3 UI;have C:((hi:UZ)<(s.size:UZ)):=UI
   go_in
   go_wp2;go_ret;exact⟨fL (by rw[H.y]),Below.refl _ _⟩
  ·have C:¬ ((hi:UZ)<(s.size:UZ)):=UI
   go_in
   go_wp2
   go_loop [7] (fun i=>∃ k:UY,k<=s.size/\i=.int .i64 k/\aB.gu (s.data.toList.take k)=U6) (fun i=>s.size-(intOf i).toNat)
   case atStart=>exact⟨0,V6 _,rfl,rfl⟩
   case round =>
    obtain⟨k,J,rfl,m⟩:=hrel;have g:=hide m;clear m
    by_cases f:k<s.size
    ·have q:Hid (s.data.toList.take (k+1)=s.data.toList.take k++[s[k]]):=aB.xO s k f
     by_cases d:aB.rR s[k]=U6
     ·have a:=(aB.sD _).1 d;have h:=hide d;obtain⟨y,x⟩:=a;clear d;go_wp2
      go_round
      case rel=>exact⟨k+1,by omega,by go_num,by rw[q.y,aB.xU,g.y,h.y];rfl⟩
      case measure=>simp[intOf];omega
     ·have h:Hid (bF s lo hi=-1):=A5 (aB.I3 _ (k+1) (by rw[q.y,aB.xU,g.y];simpa using d))
      have a:(s[k].toNat:UZ)<48\/(¬ (s[k].toNat:UZ)<48/\57<(s[k].toNat:UZ)):=by
       have:=mt (aB.sD s[k]).2 d;omega
      clear d;rcases a with a |⟨a,p⟩
      all_goals
       go_wp2;go_ret;exact⟨fL (by rw[h.y]),Below.refl _ _⟩
    ·have G:Hid (s.data.toList.take k=s.data.toList):=aB.sE s k UI;have c:aB.gu s.data.toList=U6:=by rw[<- G.y];exact g.y
     have E:Hid (bF s lo hi=aB.mD s.data.toList):=A4 UI UI c;have F:Hid (YG s.data.toList=U4 (aB.mD s.data.toList)):=Ql _ c (fun e=>by have:=aB.fM s;rw[e] at this;simp at this;omega);clear c
     go_wp2_with fail
     refine (strconv_Atoi s _ UI F.y w).mono ?_;rintro e w' ⟨rfl,t,j⟩;have z:U9 w.heap.size w w':=by rw[j];exact Joins.below_bytesWorld _ _ _ _ (zq _)
     clear j;go_wp2;go_ret;exact⟨fL (by rw[E.y]),z⟩
theorem ox(s:UU)(a b:UY)(h:s.size<=160):(s.extract a b).size<=160:=by
 have:(s.extract a b).size=min b s.size-a:=Xh ..;omega
theorem vm(s:UU)(a b n:UY)(h:min b s.size-a=n):(s.extract a b).size=n:=(Xh ..).trans h
theorem vl(t:UU)(n:UY)(h:t.size=n)(g:1<=n)(f:n<=7):bF t n n=if aB.isNum t.data.toList then aB.cF t.data.toList else -1:=by
 have d:=aB.fM t
 cases a:aB.gu t.data.toList
 ·rw[A5 a,aB.Bi a];rfl
 ·have c:aB.isNum t.data.toList=U6:=aB.BC UI UI a;rw[A4 UI UI a,c];simp[aB.cF,c]
theorem uR(t:UU):bF t 1 7=if aB.isNum t.data.toList then aB.cF t.data.toList else -1:=by
 have d:=aB.fM t
 cases a:aB.gu t.data.toList
 ·rw[A5 a,aB.Bi a];rfl
 ·by_cases h:1<=t.size/\t.size<=7
  ·have c:aB.isNum t.data.toList=U6:=aB.BC UI UI a;rw[A4 h.1 h.2 a,c];simp[aB.cF,c]
  ·rw[A3 h,aB.xA UI];rfl
def gT(s:UU):UZ:=if aB.dA s then aB.fo s else -1
def eV(s:UU):UZ:=if aB.iI s=U6/\0<=aB.eI s/\aB.eI s<=728 then aB.eI s else -1
theorem Bs(h:aB.dA s=U5):gT s=-1:=by simp[gT,h]
theorem wT(h:aB.iI s=U5):eV s=-1:=by simp[eV,h]
theorem Aw(s:UU)(w:U7)(D:s.size<=160):
  Va prog 188 #[.string s] w fun e w'=>e=.returned (.int .i64 (gT s))/\U9 w.heap.size w w':=by
 by_cases f:s.size=5
 ·have G:((s.size:UZ) != 5)=U5:=nO UI;have j:2<s.size:=UI
  have T:(2:UZ)<(s.size:UZ):=UI
  have S:(3:UZ)<=(s.size:UZ):=UI
  by_cases i:aB.dP s 2=58
  ·have F:(((s[2]'j).toNat:UZ) != 58)=U5:=nO (by rw[<- aB.jc];exact i);have K:=aB.kV (aB.part s 0 2);have J:=aB.kV (aB.part s 3 5);have d:=hide (aB.GG f i);have C:bF (s.extract 0 2) 2 2=if aB.isNum (aB.part s 0 2) then aB.cF (aB.part s 0 2) else -1:=vl _ 2 (vm _ _ _ _ UI) UI UI
   have z:bF (s.extract 3 s.size) 2 2=if aB.isNum (aB.part s 3 5) then aB.cF (aB.part s 3 5) else -1:=by
    rw[f];exact vl _ 2 (vm _ _ _ _ UI) UI UI
   have c:∃ x y:UZ,bF (s.extract 0 2) 2 2=x/\bF (s.extract 3 s.size) 2 2=y:=⟨_,_,rfl,rfl⟩;obtain⟨x,y,c,p⟩:=c;have U:-1<=x/\x<=9999999:=by rw[<- c,C];split <;> omega
   have I:-1<=y/\y<=9999999:=by rw[<- p,z];split <;> omega
   have N:Hid (gT s=if x<0\/23<x\/y<0\/59<y then -1 else 60*x+y):=by
    show gT s=_;rw[<- c,<- p,C,z,gT,aB.fo,aK d]
    cases aB.isNum (aB.part s 0 2)
    ·simp
    ·cases aB.isNum (aB.part s 3 5)
     ·simp
     ·simp only[YH,if_true]
      by_cases t:aB.cF (aB.part s 0 2)<=23
      ·by_cases E:aB.cF (aB.part s 3 5)<=59
       ·simp only[t,E,decide_true,YI,if_true];rw[U0 UI];omega
       ·simp only[t,E,decide_true,decide_false,YJ,Vn,if_false];rw[U1 UI]
      ·simp only[t,decide_false,Bool.false_and,Vn,if_false];rw[U1 UI]
   have M:=hide c;have L:=hide p;clear C z c p f i K J d;have a:x<0\/(¬ x<0/\23<x)\/(¬ x<0/\¬ 23<x/\y<0)\/(¬ x<0/\¬ 23<x/\¬ y<0/\59<y)\/(¬ x<0/\¬ 23<x/\¬ y<0/\¬ 59<y):=UI
   rcases a with g|⟨g,u⟩|⟨g,u,m⟩|⟨g,u,m,H⟩|⟨g,u,m,H⟩
   all_goals
    go_in
    go_wp2_with fail
    refine (eQ (s.extract 0 2) 2 2 _ (ox _ _ _ D) UI UI).mono ?_;rintro e Q ⟨rfl,h⟩;rw[aK M]
    go_wp2_with fail
    refine (eQ (s.extract 3 s.size) 2 2 _ (ox _ _ _ D) UI UI).mono ?_;rintro e O ⟨rfl,r⟩;rw[aK L];have q:=h.trans (r.mono h.size);go_wp2;go_ret;refine⟨fL ?_,q⟩;rw[N.y]
    first|rw[U1 UI]|rw[U0 UI]
  ·have F:(((s[2]'j).toNat:UZ) != 58)=U6:=nP (by rw[<- aB.jc];exact i);have d:=hide (Bs (aB.yg (s:=s) UI));clear f i
   go_in
   go_wp2;go_ret;exact⟨fL (by rw[aK d]),Below.refl _ _⟩
 ·have G:((s.size:UZ) != 5)=U6:=nP UI;have d:=hide (Bs (aB.yg (s:=s) UI));clear f
  go_in
  go_wp2;go_ret;exact⟨fL (by rw[aK d]),Below.refl _ _⟩
theorem uS(s:UU)(w:U7)(q:s.size<=160):
  Va prog 187 #[.string s] w fun e w'=>e=.returned (.int .i64 (eV s))/\U9 w.heap.size w w':=by
 by_cases p:s.size=10
 ·have U:((s.size:UZ) != 10)=U5:=nO UI;have D:4<s.size:=UI
  have C:7<s.size:=UI
  have Y:(4:UZ)<(s.size:UZ):=UI
  have X:(7:UZ)<(s.size:UZ):=UI
  have W:(8:UZ)<=(s.size:UZ):=UI
  by_cases r:aB.dP s 4=45
  ·have T:(((s[4]'D).toNat:UZ) != 45)=U5:=nO (by rw[<- aB.jc];exact r)
   by_cases u:aB.dP s 7=45
   ·have S:(((s[7]'C).toNat:UZ) != 45)=U5:=nO (by rw[<- aB.jc];exact u);have f:=hide (aB.FE p r u);have J:bF (s.extract 0 4) 4 4=if aB.isNum (aB.part s 0 4) then aB.cF (aB.part s 0 4) else -1:=vl _ 4 (vm _ _ _ _ UI) UI UI
    have I:bF (s.extract 5 7) 2 2=if aB.isNum (aB.part s 5 7) then aB.cF (aB.part s 5 7) else -1:=vl _ 2 (vm _ _ _ _ UI) UI UI
    have H:bF (s.extract 8 s.size) 2 2=if aB.isNum (aB.part s 8 10) then aB.cF (aB.part s 8 10) else -1:=by
     rw[p];exact vl _ 2 (vm _ _ _ _ UI) UI UI
    have t:∃ x y z:UZ,bF (s.extract 0 4) 4 4=x/\bF (s.extract 5 7) 2 2=y/\bF (s.extract 8 s.size) 2 2=z:=⟨_,_,_,rfl,rfl,rfl⟩;obtain⟨x,y,z,t,G,F⟩:=t
    have N:Hid (eV s=if Cal.ok x y z=U6/\0<=Cal.num x y z/\Cal.num x y z<=728 then Cal.num x y z else -1):=by
     show eV s=_;rw[<- t,<- G,<- F,J,I,H,eV,aB.eI,aK f]
     cases aB.isNum (aB.part s 0 4)
     ·simp[lu (y:=-1) (m:=_) (d:=_) UI]
     ·cases aB.isNum (aB.part s 5 7)
      ·simp[lu (y:=_) (m:=-1) (d:=_) UI]
      ·cases aB.isNum (aB.part s 8 10)
       ·simp[lu (y:=_) (m:=_) (d:=-1) UI]
       ·simp only[YH,if_true]
        cases Cal.ok (aB.cF (aB.part s 0 4)) (aB.cF (aB.part s 5 7)) (aB.cF (aB.part s 8 10)) <;> simp
    have M:=hide t;have L:=hide G;have K:=hide F;clear J I H t G F p r u f
    cases E:Cal.ok x y z
    ·go_in
     go_wp2_with fail
     refine (eQ (s.extract 0 4) 4 4 _ (ox _ _ _ q) UI UI).mono ?_;rintro e Q ⟨rfl,a⟩;rw[aK M]
     go_wp2_with fail
     refine (eQ (s.extract 5 7) 2 2 _ (ox _ _ _ q) UI UI).mono ?_;rintro e O ⟨rfl,c⟩;rw[aK L]
     go_wp2_with fail
     refine (eQ (s.extract 8 s.size) 2 2 _ (ox _ _ _ q) UI UI).mono ?_;rintro e w3 ⟨rfl,j⟩;rw[aK K];have i:=(a.trans (c.mono a.size)).trans (j.mono (Vg a.size c.size))
     go_wp2_with fail
     refine (Mr _ _ _ _ E).mono ?_;rintro e w4 ⟨rfl,rfl⟩;go_wp2;go_ret;exact⟨fL (by rw[N.y,E];simp),i⟩
    ·have h:Cal.num x y z<0\/(¬ Cal.num x y z<0/\728<Cal.num x y z)\/(¬ Cal.num x y z<0/\¬ 728<Cal.num x y z):=UI
     rcases h with g|⟨g,V⟩|⟨g,V⟩
     all_goals
      go_in
      go_wp2_with fail
      refine (eQ (s.extract 0 4) 4 4 _ (ox _ _ _ q) UI UI).mono ?_;rintro e Q ⟨rfl,a⟩;rw[aK M]
      go_wp2_with fail
      refine (eQ (s.extract 5 7) 2 2 _ (ox _ _ _ q) UI UI).mono ?_;rintro e O ⟨rfl,c⟩;rw[aK L]
      go_wp2_with fail
      refine (eQ (s.extract 8 s.size) 2 2 _ (ox _ _ _ q) UI UI).mono ?_;rintro e w3 ⟨rfl,j⟩;rw[aK K];have i:=(a.trans (c.mono a.size)).trans (j.mono (Vg a.size c.size))
      go_wp2_with fail
      refine (MI _ _ _ _ E).mono ?_;rintro e w4 ⟨rfl,rfl⟩;go_wp2;go_ret;refine⟨fL ?_,i⟩;rw[N.y]
      first|rw[U0 UI]|rw[U1 ⟨E,by omega,by omega⟩]
   ·have S:(((s[7]'C).toNat:UZ) != 45)=U6:=nP (by rw[<- aB.jc];exact u);have f:=hide (wT (aB.tV (s:=s) UI));clear p r u
    go_in
    go_wp2;go_ret;exact⟨fL (by rw[aK f]),Below.refl _ _⟩
  ·have T:(((s[4]'D).toNat:UZ) != 45)=U6:=nP (by rw[<- aB.jc];exact r);have f:=hide (wT (aB.tV (s:=s) UI));clear p r
   go_in
   go_wp2;go_ret;exact⟨fL (by rw[aK f]),Below.refl _ _⟩
 ·have U:((s.size:UZ) != 10)=U6:=nP UI;have f:=hide (wT (aB.tV (s:=s) UI));clear p
  go_in
  go_wp2;go_ret;exact⟨fL (by rw[aK f]),Below.refl _ _⟩
theorem Pb(s:UU):aB.cM s=(aB.iI s && decide (0<=aB.eI s) && decide (aB.eI s<728)):=by
 rw[WU];simp[aB.cM,and_assoc]
def fT(s:UU):UZ:=if aB.cM s then aB.eI s else 0
theorem I7(s:UU)(w:U7)(ht:gy w)(j:s.size<=160):
  Va prog 136 #[.string s] w fun e w'=>e=.returned (.tuple #[.int .i64 (fT s),.bool (aB.cM s)])/\w'=w:=by
 have d:s.size<=maxLen:=by unfold maxLen;omega
 have h:=hide (Pb s)
 cases f:aB.iI s
 ·go_in
  go_wp2_with fail
  refine (v7 s w ht d).mono ?_;rintro e w' ⟨rfl,rfl⟩;go_wp2;go_ret2;exact⟨eG (by simp[fT,aK h,f]) (by simp[aK h,f]),rfl⟩
 ·have a:aB.eI s<0\/(¬ aB.eI s<0/\728<=aB.eI s)\/(¬ aB.eI s<0/\¬ 728<=aB.eI s):=UI
  rcases a with g|⟨g,i⟩|⟨g,i⟩
  all_goals
   have c:Hid (aB.cM s=(decide (0<=aB.eI s) && decide (aB.eI s<728))):=(aK h).trans (by rw[f];rfl)
   go_in
   go_wp2_with fail
   refine (v7 s w ht d).mono ?_;rintro e w' ⟨rfl,rfl⟩;go_wp2;go_ret2;refine⟨eG ?_ ?_,rfl⟩
  ·rw[fT,c.y,decide_eq_false UI];rfl
  ·rw[c.y,decide_eq_false UI];rfl
  ·rw[fT,c.y,decide_eq_false (p:=aB.eI s<728) UI,YJ];rfl
  ·rw[c.y,decide_eq_false (p:=aB.eI s<728) UI,YJ]
  ·rw[fT,c.y,decide_eq_true (p:=aB.eI s<728) UI,decide_eq_true (p:=0<=aB.eI s) UI];rfl
  ·rw[c.y,decide_eq_true (p:=aB.eI s<728) UI,decide_eq_true (p:=0<=aB.eI s) UI];rfl
def oC(s:UU):UZ:=if aB.isNum s.data.toList then aB.cF s.data.toList else aB.kg s
def bA(s:UU):UX:=(aB.isNum s.data.toList || aB.iQ s) && decide (0<=oC s/\oC s<=1048320)
def dL(s:UU):UZ:=if bA s then oC s else 0
def cZ(s:UU):UZ:=if bA s then oC s else -1
theorem Qq(s:UU)(h:s.size<=160):(aB.iU s).size<=160:=by
 rw[<- aB.fM];unfold aB.iU WV;have:=aB.fM s
 split <;> simp <;> omega
theorem Qr(s:UU)(h:s.size<=160):(aB.iV s).size<=160:=by
 rw[<- aB.fM];unfold aB.iV WV;have:=aB.fM s
 split <;> simp <;> omega
theorem yE(s:UU)(w:U7)(h:Env w)(t:s.size<=160):
  Va prog 196 #[.string s] w fun e w'=>e=.returned (.tuple #[.int .i64 (aB.kg s),.bool (aB.iQ s)])/\∃ n,w'=w.drewN n:=by
 obtain⟨m,d⟩:=h.tw;have j:=hide h;have f:=hide (aB.Ol s);have C:=aB.Fv (aB.iU s);have z:=aB.xg (aB.iV s);have x:(aB.iU s).size<=maxLen:=by have:=Qq s t;unfold maxLen;omega
 have u:(aB.iV s).size<=maxLen:=by have:=Qr s t;unfold maxLen;omega
 have q:=hide x;have p:=hide u;clear h x u
 cases g:aB.ou s
 ·have a:Hid (aB.iQ s=U5):=by show aB.iQ s=U5;rw[<- (aK f).1,g];rfl
  go_in
  go_wp2_with fail
  refine (strings_Cut s ⟨#[47]⟩ m w UI d).mono ?_;rintro e c ⟨rfl,n,rfl⟩;rw[show (WV s.data.toList (ByteArray.mk #[47]).data.toList).snd.snd=aB.ou s from rfl];go_wp2;go_ret2;exact⟨eG (by simp[aB.kg,a.y]) (by rw[a.y]),_,rfl⟩
 ·cases i:aB.iI (aB.iU s)
  ·have a:Hid (aB.iQ s=U5):=by show aB.iQ s=U5;rw[<- (aK f).1,g,i];rfl
   go_in
   go_wp2_with fail
   refine (strings_Cut s ⟨#[47]⟩ m w UI d).mono ?_;rintro e c ⟨rfl,n,rfl⟩;rw[show (WV s.data.toList (ByteArray.mk #[47]).data.toList).snd.snd=aB.ou s from rfl,show (ByteArray.mk (WV s.data.toList (ByteArray.mk #[47]).data.toList).fst.toArray)=aB.iU s from rfl,show (ByteArray.mk (WV s.data.toList (ByteArray.mk #[47]).data.toList).snd.fst.toArray)=aB.iV s from rfl]
   go_wp2_with fail
   refine (v7 (aB.iU s) _ ((aK j).drewN n).iL (aK q)).mono ?_;rintro e c ⟨rfl,rfl⟩
   go_wp2_with fail
   refine (vX (aB.iV s) _ (aK p)).mono ?_;rintro e c ⟨rfl,rfl⟩;go_wp2;go_ret2;exact⟨eG (by simp[aB.kg,a.y]) (by rw[a.y]),_,rfl⟩
  ·cases r:aB.dA (aB.iV s)
   ·have a:Hid (aB.iQ s=U5):=by show aB.iQ s=U5;rw[<- (aK f).1,g,i,r];rfl
    go_in
    go_wp2_with fail
    refine (strings_Cut s ⟨#[47]⟩ m w UI d).mono ?_;rintro e c ⟨rfl,n,rfl⟩;rw[show (WV s.data.toList (ByteArray.mk #[47]).data.toList).snd.snd=aB.ou s from rfl,show (ByteArray.mk (WV s.data.toList (ByteArray.mk #[47]).data.toList).fst.toArray)=aB.iU s from rfl,show (ByteArray.mk (WV s.data.toList (ByteArray.mk #[47]).data.toList).snd.fst.toArray)=aB.iV s from rfl]
    go_wp2_with fail
    refine (v7 (aB.iU s) _ ((aK j).drewN n).iL (aK q)).mono ?_;rintro e c ⟨rfl,rfl⟩
    go_wp2_with fail
    refine (vX (aB.iV s) _ (aK p)).mono ?_;rintro e c ⟨rfl,rfl⟩;go_wp2;go_ret2;exact⟨eG (by simp[aB.kg,a.y]) (by rw[a.y]),_,rfl⟩
   ·have a:Hid (aB.iQ s=U6):=by show aB.iQ s=U6;rw[<- (aK f).1,g,i,r];rfl
    have y:=hide ((aK f).2 a.y)
    go_in
    go_wp2_with fail
    refine (strings_Cut s ⟨#[47]⟩ m w UI d).mono ?_;rintro e c ⟨rfl,n,rfl⟩;rw[show (WV s.data.toList (ByteArray.mk #[47]).data.toList).snd.snd=aB.ou s from rfl,show (ByteArray.mk (WV s.data.toList (ByteArray.mk #[47]).data.toList).fst.toArray)=aB.iU s from rfl,show (ByteArray.mk (WV s.data.toList (ByteArray.mk #[47]).data.toList).snd.fst.toArray)=aB.iV s from rfl]
    go_wp2_with fail
    refine (v7 (aB.iU s) _ ((aK j).drewN n).iL (aK q)).mono ?_;rintro e c ⟨rfl,rfl⟩
    go_wp2_with fail
    refine (vX (aB.iV s) _ (aK p)).mono ?_;rintro e c ⟨rfl,rfl⟩;go_wp2;go_ret2;exact⟨eG (aK y) (by rw[a.y]),_,rfl⟩
theorem FV(h:aB.isNum s.data.toList=U6):bA s=decide (aB.cF s.data.toList<=1048320)/\oC s=aB.cF s.data.toList:=by
 have b:=aB.kV s.data.toList;have e:oC s=aB.cF s.data.toList:=by simp[oC,h]
 refine⟨?_,e⟩;unfold bA;rw[e,h,WU];simp;omega
theorem AO(h:aB.isNum s.data.toList=U5):bA s=(aB.iQ s && decide (0<=aB.kg s/\aB.kg s<=1048320))/\oC s=aB.kg s:=by
 have e:oC s=aB.kg s:=by simp[oC,h]
 exact⟨by unfold bA;rw[e,h];rfl,e⟩
theorem Je(s:UU)(w:U7)(r:Env w)(h:s.size<=160):
  Va prog 140 #[.string s] w fun e w'=>e=.returned (.tuple #[.int .i64 (dL s),.bool (bA s)])/\∃ n,w'=w.drewN n:=by
 have j:=hide r;have c:s.size<=maxLen:=by unfold maxLen;omega
 clear r
 cases q:aB.isNum s.data.toList
 ·have d:=hide (AO q)
  cases i:aB.iQ s
  ·have a:Hid (bA s=U5):=by show bA s=U5;rw[(aK d).1,i];rfl
   go_in
   go_wp2_with fail
   refine (eT s w c).mono ?_;rintro e w' ⟨rfl,rfl⟩
   go_wp2_with fail
   refine (yE s _ (aK j) h).mono ?_;rintro e m ⟨rfl,n,rfl⟩;go_wp2;go_ret2;exact⟨eG (by simp[dL,a.y]) (by rw[a.y]),_,rfl⟩
  ·have f:aB.kg s<0\/(¬ aB.kg s<0/\1048320<aB.kg s)\/(¬ aB.kg s<0/\¬ 1048320<aB.kg s):=UI
   rcases f with g|⟨g,t⟩|⟨g,t⟩
   ·have a:Hid (bA s=U5):=by show bA s=U5;rw[(aK d).1,i,decide_eq_false UI];rfl
    go_in
    go_wp2_with fail
    refine (eT s w c).mono ?_;rintro e w' ⟨rfl,rfl⟩
    go_wp2_with fail
    refine (yE s _ (aK j) h).mono ?_;rintro e m ⟨rfl,n,rfl⟩;go_wp2;go_ret2;exact⟨eG (by simp[dL,a.y]) (by rw[a.y]),_,rfl⟩
   ·have a:Hid (bA s=U5):=by show bA s=U5;rw[(aK d).1,i,decide_eq_false UI];rfl
    go_in
    go_wp2_with fail
    refine (eT s w c).mono ?_;rintro e w' ⟨rfl,rfl⟩
    go_wp2_with fail
    refine (yE s _ (aK j) h).mono ?_;rintro e m ⟨rfl,n,rfl⟩;go_wp2;go_ret2;exact⟨eG (by simp[dL,a.y]) (by rw[a.y]),_,rfl⟩
   ·have a:Hid (bA s=U6):=by show bA s=U6;rw[(aK d).1,i,decide_eq_true UI];rfl
    have p:=hide (aK d).2
    go_in
    go_wp2_with fail
    refine (eT s w c).mono ?_;rintro e w' ⟨rfl,rfl⟩
    go_wp2_with fail
    refine (yE s _ (aK j) h).mono ?_;rintro e m ⟨rfl,n,rfl⟩;go_wp2;go_ret2;exact⟨eG (by simp[dL,a.y,aK p]) (by rw[a.y]),_,rfl⟩
 ·have d:=hide (FV q);have b:=aB.kV s.data.toList
  by_cases g:1048320<aB.cF s.data.toList
  ·have a:Hid (bA s=U5):=by show bA s=U5;rw[(aK d).1,decide_eq_false UI]
   go_in
   go_wp2_with fail
   refine (eT s w c).mono ?_;rintro e w' ⟨rfl,rfl⟩;go_wp2;go_ret2;exact⟨eG (by simp[dL,a.y]) (by rw[a.y]),0,rfl⟩
  ·have a:Hid (bA s=U6):=by show bA s=U6;rw[(aK d).1,decide_eq_true UI]
   have p:=hide (aK d).2
   go_in
   go_wp2_with fail
   refine (eT s w c).mono ?_;rintro e w' ⟨rfl,rfl⟩;go_wp2;go_ret2;exact⟨eG (by simp[dL,a.y,aK p]) (by rw[a.y]),0,rfl⟩
theorem KQ(h:s.size=16):aB.isNum s.data.toList=U5:=aB.xA (by rw[aB.fM];omega)
theorem K5(d:s.size=16)(j:aB.dP s 10=47):cZ s=if eV (s.extract 0 10)<0\/gT (s.extract 11 16)<0\/1048320<1440*eV (s.extract 0 10)+gT (s.extract 11 16) then -1 else 1440*eV (s.extract 0 10)+gT (s.extract 11 16):=by
 have ⟨e1,e2⟩:=AO (KQ d);have p:=aB.xg (s.extract 11 16);have r:=aB.Fv (s.extract 0 10)
 have a:aB.iQ s=(aB.iI (s.extract 0 10) && aB.dA (s.extract 11 16)):=by
  rw[WU];simp[aB.iQ,d,j]
 unfold cZ;rw[e1,e2,aB.kg,a]
 cases i:aB.iI (s.extract 0 10)
 ·rw[wT i];simp
 ·cases f:aB.dA (s.extract 11 16)
  ·rw[Bs f];simp
  ·have m:gT (s.extract 11 16)=aB.fo (s.extract 11 16):=by simp[gT,f]
   simp only[YI,YH,if_true,m,decide_eq_true_eq]
   by_cases g:0<=aB.eI (s.extract 0 10)/\aB.eI (s.extract 0 10)<=728
   ·have c:eV (s.extract 0 10)=aB.eI (s.extract 0 10):=by simp[eV,i,g]
    rw[c]
    by_cases q:aB.eI (s.extract 0 10)*1440+aB.fo (s.extract 11 16)<=1048320
    ·rw[U1 UI,U0 UI];omega
    ·rw[U0 UI,U1 UI]
   ·have c:eV (s.extract 0 10)=-1:=by unfold eV;rw[U0 (fun h=>g h.2)]
    rw[c,U0 UI,U1 UI]
theorem Ef(h:¬ (s.size=16/\aB.dP s 10=47)):cZ s=if 1048320<bF s 1 7 then -1 else bF s 1 7:=by
 have a:aB.iQ s=U5:=by
  cases d:aB.iQ s
  ·rfl
  ·have:=of_decide_eq_true d;exact U2 ⟨this.1,this.2.1⟩ h
 rw[uR]
 cases c:aB.isNum s.data.toList
 ·have ⟨e1,e2⟩:=AO c;unfold cZ;rw[e1,a];simp
 ·have ⟨e1,e2⟩:=FV c;unfold cZ;rw[e1,e2]
  by_cases g:aB.cF s.data.toList<=1048320
  ·rw[decide_eq_true g];simp;omega
  ·rw[decide_eq_false g];simp;omega
theorem qs(s:UU)(w:U7)(r:s.size<=160):
  Va prog 127 #[.string s] w fun e w'=>e=.returned (.int .i64 (cZ s))/\U9 w.heap.size w w':=by
 by_cases h:s.size=16
 ·have F:((s.size:UZ)==16)=U6:=beq_iff_eq.2 UI;have j:10<s.size:=UI
  have K:(10:UZ)<(s.size:UZ):=UI
  have J:(11:UZ)<=(s.size:UZ):=UI
  by_cases i:aB.dP s 10=47
  ·have E:(((s[10]'j).toNat:UZ)==47)=U6:=beq_iff_eq.2 (by rw[<- aB.jc];exact i);have d:=hide (K5 h i);have a:∃ x y:UZ,eV (s.extract 0 10)=x/\gT (s.extract 11 16)=y:=⟨_,_,rfl,rfl⟩;obtain⟨x,y,a,q⟩:=a;have L:-1<=x/\x<=728:=by rw[<- a,eV];split <;> omega
   have G:-1<=y/\y<=1439:=by have:=aB.xg (s.extract 11 16);rw[<- q,gT];split <;> omega
   have m:=hide a;have H:Hid (gT (s.extract 11 s.size)=y):=by show gT (s.extract 11 s.size)=y;rw[h];exact q
   have p:Hid (cZ s=if x<0\/y<0\/1048320<1440*x+y then -1 else 1440*x+y):=by
    show cZ s=_;rw[aK d,a,q]
   clear a q h i d;have f:x<0\/(¬ x<0/\y<0)\/(¬ x<0/\¬ y<0/\1048320<1440*x+y)\/(¬ x<0/\¬ y<0/\¬ 1048320<1440*x+y):=UI
   rcases f with g|⟨g,D⟩|⟨g,D,z⟩|⟨g,D,z⟩
   all_goals
    go_in
    go_wp2_with fail
    refine (uS (s.extract 0 10) _ (ox _ _ _ r)).mono ?_;rintro e C ⟨rfl,c⟩;rw[aK m]
    go_wp2_with fail
    refine (Aw (s.extract 11 s.size) _ (ox _ _ _ r)).mono ?_;rintro e I ⟨rfl,u⟩;rw[H.y];have t:=c.trans (u.mono c.size);go_wp2;go_ret;refine⟨fL ?_,t⟩;rw[p.y]
    first|rw[U1 UI]|rw[U0 UI]
  ·have E:(((s[10]'j).toNat:UZ)==47)=U5:=beq_eq_false_iff_ne.2 (by rw[<- aB.jc];exact i);have d:=hide (Ef (s:=s) UI);clear h i;have a:∃ x:UZ,bF s 1 7=x:=⟨_,rfl⟩;obtain⟨x,a⟩:=a;have m:=hide a
   have p:Hid (cZ s=if 1048320<x then -1 else x):=by
    show cZ s=_;rw[aK d,a]
   clear a d
   by_cases g:1048320<x
   all_goals
    go_in
    go_wp2_with fail
    refine (eQ s 1 7 _ r UI UI).mono ?_;rintro e C ⟨rfl,c⟩;rw[aK m];go_wp2;go_ret;refine⟨fL ?_,c⟩;rw[p.y]
    first|rw[U1 UI]|rw[U0 UI]
 ·have F:((s.size:UZ)==16)=U5:=beq_eq_false_iff_ne.2 UI;have d:=hide (Ef (s:=s) UI);clear h;have a:∃ x:UZ,bF s 1 7=x:=⟨_,rfl⟩;obtain⟨x,a⟩:=a;have m:=hide a
  have p:Hid (cZ s=if 1048320<x then -1 else x):=by
   show cZ s=_;rw[aK d,a]
  clear a d
  by_cases g:1048320<x
  all_goals
   go_in
   go_wp2_with fail
   refine (eQ s 1 7 _ r UI UI).mono ?_;rintro e C ⟨rfl,c⟩;rw[aK m];go_wp2;go_ret;refine⟨fL ?_,c⟩;rw[p.y]
   first|rw[U1 UI]|rw[U0 UI]
theorem Qm(x:UY)(w:U7):
  Va prog 81 #[.int .i32 x] w fun e w'=>e=.returned (.bool (x==32))/\∃ q,w'=w.drewN q:=by
 go_in
 go_wp2;go_ret;refine⟨eC ?_,0,rfl⟩;rw[WU];simp;omega
theorem SZ(a:Array U8)(w:U7):Sem.run prog (callFunc 81 a) w=.ok (.enter 81 a) w:=UO
theorem Q0(s:UU)(w:U7)(g:s.size<=160):
  Va prog 61 #[.string s] w fun e w'=>∃ A,e=.returned (.slice (U4 ⟨A,0,U3⟩) (aB.aP s).length (aB.aP s).length)/\w.heap.size<=A /\
   w'.ownsRow w.heap.size 9 1 (.slice (U4 ⟨A,0,U3⟩) (aB.aP s).length (aB.aP s).length) (aB.aP s).length ((aB.aP s).map YK)/\U9 w.heap.size w w':=by
 have a:PredAtRunes prog 81 #[] (fun r=>r==32) w:=fun W x _ _=>Qm x W
 have HP:=hide a;clear a
 go_in
 go_wp2_with fail
 refine (strings_FieldsFunc_runes 81 #[] SZ (fun r=>r==32) s w UI (aK HP)).mono ?_;rintro e w' ⟨A,rfl,f,c,d⟩;rw[aB.TF] at c ⊢;go_wp2;go_ret;exact⟨A,rfl,f,c,d⟩
theorem toList_data(b:UU):b.toList=b.data.toList:=Lib.toList_data b
theorem wS{b:UU}(h:b.toList.isEmpty=U6):b.size=0:=by
 rw[toList_data,List.isEmpty_iff] at h;rw[<- aB.fM,h];rfl
theorem wZ{b:UU}(h:b.toList.isEmpty=U5):b.size≠0:=by
 intro e;rw[toList_data,List.isEmpty_eq_false_iff] at h;exact h (List.eq_nil_of_length_eq_zero (by rw[aB.fM];exact e))
theorem om{a e size:UY}{v:U8}{d:UV U8}(h:w.ownsRow a e size v n d)(c:v.ownBlock=U4 k):a<=k:=by
 rcases h.2 with ⟨rfl,_⟩|⟨g,cap,f,rfl,i,_⟩
 ·simp[Wr] at c
 ·simp[Wr] at c;omega
theorem wH:(prog.info? 9).map (fun i=>(i.zero,i.size,i.bytes))=U4 (U4 (.string ⟨#[]⟩),1,16):=UO
theorem Et(s:UU)(w:U7)(H:s.size<=160):
  Va prog 59 #[.string s] w fun e w'=>∃ v,e=.returned v/\w'.ownsRow w.heap.size 9 1 v (aB.aP s).length ((aB.aP s).map YK)/\U9 w.heap.size w w':=by
 obtain⟨D,hi,r,q,p⟩:=info_parts wH
 go_in
 go_wp2
 go_loopw [3,4,5] (fun v c i wr=>∃ k:UY,k<=s.size/\i=.int .i64 k/\c=.string (aB.eH s k)/\wr.ownsRow w.heap.size 9 1 v (aB.jF s k).length ((aB.jF s k).map YK)/\U9 w.heap.size w wr) (fun _ _ i _=>s.size-(intOf i).toNat)
 case atStart=>exact⟨0,V6 _,rfl,rfl,World.ownsRow_nil _ _ _ _,Below.refl _ _⟩
 case round =>
  obtain⟨k,x,rfl,rfl,a,d⟩:=hrel;have I:=aB.xt s k
  by_cases G:k<s.size
  ·by_cases m:aB.dP s k=32
   ·have z:((s[k].toNat:UZ)==32)=U6:=beq_iff_eq.2 (by rw[<- aB.jc];exact m);have j:=hide (aB.xE s k x m);clear m
    cases y:(aB.eH s k).toList.isEmpty
    ·have h:Hid ((aB.eH s k).size≠0):=(wZ y);have C:=aB.qB s k
     go_wp2_with (first
      |(at_builtin;refine wpList_append_own _ rfl _ _ 26 rfl w.heap.size 9 D (.string ⟨#[]⟩) 1 16 underlying26 hi r q p rfl UK _ _ _ rfl (a.alloc _) ⟨wr.heap.size,0,U3⟩ 1 1 [.string (aB.eH s k)] rfl rfl ?c1 ?c2 ?c3 ?c4 ?c5 ?_)
      |go_in)
     case c1=>exact cell_one_new _ _ _
     case c2=>intro u t;simp at t;subst t;rfl
     case c3=>unfold maxLen;omega
     case c4=>omega
     case c5=>have:=d.size;simp;omega
     intro v' F f g _;go_wp2;refine⟨⟨k+1,by omega,by go_num,by rw[(aK j).1],?_,?_⟩,by simp[intOf];omega⟩
     ·rw[(aK j).2,U0 h.y,We,VU];exact f
     ·refine (d.alloc d.size _).grown g (by have:=d.size;simp;omega) (fun k x=>?_);exact om a x
    ·have h:Hid ((aB.eH s k).size=0):=(wS y);go_wp2;exact⟨⟨k+1,by omega,by go_num,by rw[(aK j).1],by rw[(aK j).2,U1 h.y,XT];exact a,d⟩,by simp[intOf];omega⟩
   ·have z:((s[k].toNat:UZ)==32)=U5:=beq_eq_false_iff_ne.2 (by rw[<- aB.jc];exact m);have j:=hide (aB.xr s k m);clear m;go_wp2;exact⟨⟨k+1,by omega,by go_num,by rw[(aK j).1],by rw[(aK j).2];exact a,d⟩,by simp[intOf];omega⟩
  ·obtain rfl:k=s.size:=UI
   have E:=hide (aB.vk s)
   cases y:(aB.eH s s.size).toList.isEmpty
   ·have h:Hid ((aB.eH s s.size).size≠0):=(wZ y);have C:=aB.qB s s.size
    go_wp2_with (first
     |(at_builtin;refine wpList_append_own _ rfl _ _ 26 rfl w.heap.size 9 D (.string ⟨#[]⟩) 1 16 underlying26 hi r q p rfl UK _ _ _ rfl (a.alloc _) ⟨wr.heap.size,0,U3⟩ 1 1 [.string (aB.eH s s.size)] rfl rfl ?c1 ?c2 ?c3 ?c4 ?c5 ?_)
     |go_in)
    case c1=>exact cell_one_new _ _ _
    case c2=>intro u t;simp at t;subst t;rfl
    case c3=>unfold maxLen;omega
    case c4=>omega
    case c5=>have:=d.size;simp;omega
    intro v' F f g _;go_wp2;go_ret;refine⟨v',rfl,?_,?_⟩
    ·rw[aK E,U0 h.y,We,VU];exact f
    ·refine (d.alloc d.size _).grown g (by have:=d.size;simp;omega) (fun k x=>?_);exact om a x
   ·have h:Hid ((aB.eH s s.size).size=0):=(wS y);go_wp2;go_ret;exact⟨_,rfl,by rw[aK E,U1 h.y,XT];exact a,d⟩
def eL(k:UY):UV UInt8:=match k with|0=>[109,111]|1=>[116,117]|2=>[119,101]|3=>[116,104]|4=>[102,114]|5=>[115,97]|_=>[115,117]
theorem lR(c:k<7)(h:(l==eL k)=U6)(a:∀ j,j<k->(l==eL j)=U5):aB.dC l=k:=by
 have e:=beq_iff_eq.1 h;subst e;rcases (show k=0\/k=1\/k=2\/k=3\/k=4\/k=5\/k=6 by omega) with rfl|rfl|rfl|rfl|rfl|rfl|rfl <;> decide
theorem Fh(a:∀ j,j<7->(l==eL j)=U5):aB.dC l=-1:=by
 have m:=a 0 UI;have i:=a 1 UI;have h:=a 2 UI;have g:=a 3 UI;have f:=a 4 UI;have d:=a 5 UI;have c:=a 6 UI;simp only[eL] at m i h g f d c;simp[aB.dC,m,i,h,g,f,d,c]
theorem lT(a:∀ j,j<k->(l==eL j)=U5)(h:(l==eL k)=U5):∀ j,j<k+1->(l==eL j)=U5:=fun j c=>by
 by_cases e:j=k
 ·subst e;exact h
 ·exact a j UI
def mK(s:UU):UZ:=if 0<=aB.dC s.data.toList then aB.dC s.data.toList else 0
def mc(s:UU):UX:=decide (0<=aB.dC s.data.toList)
theorem Us(s:UU)(w:U7)(g:Env w):
  Va prog 246 #[.string s] w fun e w'=>e=.returned (.tuple #[.int .i64 (mK s),.bool (mc s)])/\w'=w:=by
 have y:=g.mo;have x:=g.tu;have u:=g.we;have t:=g.th;have r:=g.fr;have q:=g.sa;have p:=g.su;have f:=hide (toList_data s);clear g
 go_in
 go_wp2
 go_loop [4,5] (fun _ i=>∃ k:UY,k<=7/\i=.int .i64 k/\∀ j,j<k->(s.data.toList==eL j)=U5) (fun _ i=>7-(intOf i).toNat)
 case atStart=>exact⟨0,by omega,rfl,fun j m=>U2 m UI⟩
 case round =>
  obtain⟨k,z,rfl,h⟩:=hrel;have d:=hide h;clear h;rcases (show k=0\/k=1\/k=2\/k=3\/k=4\/k=5\/k=6\/k=7 by omega) with rfl|rfl|rfl|rfl|rfl|rfl|rfl|rfl
  ·cases c:([109,111]==s.toList)
   ·have a:Hid ((s.data.toList==eL 0)=U5):=by
     show (s.data.toList==eL 0)=U5;rw[<- aK f,YL];exact c
    go_wp2
    go_round
    case rel=>exact⟨1,by omega,by go_num,lT (aK d) a.y⟩
    case measure=>simp[intOf]
   ·have a:Hid (aB.dC s.data.toList=0):=lR (k:=0) UI (by rw[<- aK f,YL];exact c) (aK d);go_wp2;go_ret2;exact⟨eG (by rw[mK,a.y];rfl) (by rw[mc,a.y];rfl),rfl⟩
  ·cases c:([116,117]==s.toList)
   ·have a:Hid ((s.data.toList==eL 1)=U5):=by
     show (s.data.toList==eL 1)=U5;rw[<- aK f,YL];exact c
    go_wp2
    go_round
    case rel=>exact⟨2,by omega,by go_num,lT (aK d) a.y⟩
    case measure=>simp[intOf]
   ·have a:Hid (aB.dC s.data.toList=1):=lR (k:=1) UI (by rw[<- aK f,YL];exact c) (aK d);go_wp2;go_ret2;exact⟨eG (by rw[mK,a.y];rfl) (by rw[mc,a.y];rfl),rfl⟩
  ·cases c:([119,101]==s.toList)
   ·have a:Hid ((s.data.toList==eL 2)=U5):=by
     show (s.data.toList==eL 2)=U5;rw[<- aK f,YL];exact c
    go_wp2
    go_round
    case rel=>exact⟨3,by omega,by go_num,lT (aK d) a.y⟩
    case measure=>simp[intOf]
   ·have a:Hid (aB.dC s.data.toList=2):=lR (k:=2) UI (by rw[<- aK f,YL];exact c) (aK d);go_wp2;go_ret2;exact⟨eG (by rw[mK,a.y];rfl) (by rw[mc,a.y];rfl),rfl⟩
  ·cases c:([116,104]==s.toList)
   ·have a:Hid ((s.data.toList==eL 3)=U5):=by
     show (s.data.toList==eL 3)=U5;rw[<- aK f,YL];exact c
    go_wp2
    go_round
    case rel=>exact⟨4,by omega,by go_num,lT (aK d) a.y⟩
    case measure=>simp[intOf]
   ·have a:Hid (aB.dC s.data.toList=3):=lR (k:=3) UI (by rw[<- aK f,YL];exact c) (aK d);go_wp2;go_ret2;exact⟨eG (by rw[mK,a.y];rfl) (by rw[mc,a.y];rfl),rfl⟩
  ·cases c:([102,114]==s.toList)
   ·have a:Hid ((s.data.toList==eL 4)=U5):=by
     show (s.data.toList==eL 4)=U5;rw[<- aK f,YL];exact c
    go_wp2
    go_round
    case rel=>exact⟨5,by omega,by go_num,lT (aK d) a.y⟩
    case measure=>simp[intOf]
   ·have a:Hid (aB.dC s.data.toList=4):=lR (k:=4) UI (by rw[<- aK f,YL];exact c) (aK d);go_wp2;go_ret2;exact⟨eG (by rw[mK,a.y];rfl) (by rw[mc,a.y];rfl),rfl⟩
  ·cases c:([115,97]==s.toList)
   ·have a:Hid ((s.data.toList==eL 5)=U5):=by
     show (s.data.toList==eL 5)=U5;rw[<- aK f,YL];exact c
    go_wp2
    go_round
    case rel=>exact⟨6,by omega,by go_num,lT (aK d) a.y⟩
    case measure=>simp[intOf]
   ·have a:Hid (aB.dC s.data.toList=5):=lR (k:=5) UI (by rw[<- aK f,YL];exact c) (aK d);go_wp2;go_ret2;exact⟨eG (by rw[mK,a.y];rfl) (by rw[mc,a.y];rfl),rfl⟩
  ·cases c:([115,117]==s.toList)
   ·have a:Hid ((s.data.toList==eL 6)=U5):=by
     show (s.data.toList==eL 6)=U5;rw[<- aK f,YL];exact c
    go_wp2
    go_round
    case rel=>exact⟨7,by omega,by go_num,lT (aK d) a.y⟩
    case measure=>simp[intOf]
   ·have a:Hid (aB.dC s.data.toList=6):=lR (k:=6) UI (by rw[<- aK f,YL];exact c) (aK d);go_wp2;go_ret2;exact⟨eG (by rw[mK,a.y];rfl) (by rw[mc,a.y];rfl),rfl⟩
  ·have a:Hid (aB.dC s.data.toList=-1):=Fh (aK d);go_wp2;go_ret2;exact⟨eG (by rw[mK,a.y];rfl) (by rw[mc,a.y];rfl),rfl⟩
theorem M7(s:UU)(w:U7):
  Va prog 190 #[.string s] w fun e w'=>e=.returned (.int .i64 (aB.dC s.data.toList))/\U9 w.heap.size w w':=by
 have f:=hide (toList_data s);have g:Hid (∀ o,U9 w.heap.size w (w.alloc o)):=fun o=>(zr _ _).alloc (zq _) o
 go_in
 go_wp2
 go_loop [4] (fun i=>∃ k:UY,k<=7/\i=.int .i64 k/\∀ j,j<k->(s.data.toList==eL j)=U5) (fun i=>7-(intOf i).toNat)
 case atStart=>exact⟨0,by omega,rfl,fun j m=>U2 m UI⟩
 case round =>
  obtain⟨k,p,rfl,h⟩:=hrel;have d:=hide h;clear h;rcases (show k=0\/k=1\/k=2\/k=3\/k=4\/k=5\/k=6\/k=7 by omega) with rfl|rfl|rfl|rfl|rfl|rfl|rfl|rfl
  ·cases c:(s.toList==[109,111])
   ·have a:Hid ((s.data.toList==eL 0)=U5):=by
     show (s.data.toList==eL 0)=U5;rw[<- aK f];exact c
    go_wp2
    go_round
    case rel=>exact⟨1,by omega,by go_num,lT (aK d) a.y⟩
    case measure=>simp[intOf]
   ·have a:Hid (aB.dC s.data.toList=0):=lR (k:=0) UI (by rw[<- aK f];exact c) (aK d);go_wp2;go_ret;exact⟨fL (by rw[a.y]),g.y _⟩
  ·cases c:(s.toList==[116,117])
   ·have a:Hid ((s.data.toList==eL 1)=U5):=by
     show (s.data.toList==eL 1)=U5;rw[<- aK f];exact c
    go_wp2
    go_round
    case rel=>exact⟨2,by omega,by go_num,lT (aK d) a.y⟩
    case measure=>simp[intOf]
   ·have a:Hid (aB.dC s.data.toList=1):=lR (k:=1) UI (by rw[<- aK f];exact c) (aK d);go_wp2;go_ret;exact⟨fL (by rw[a.y]),g.y _⟩
  ·cases c:(s.toList==[119,101])
   ·have a:Hid ((s.data.toList==eL 2)=U5):=by
     show (s.data.toList==eL 2)=U5;rw[<- aK f];exact c
    go_wp2
    go_round
    case rel=>exact⟨3,by omega,by go_num,lT (aK d) a.y⟩
    case measure=>simp[intOf]
   ·have a:Hid (aB.dC s.data.toList=2):=lR (k:=2) UI (by rw[<- aK f];exact c) (aK d);go_wp2;go_ret;exact⟨fL (by rw[a.y]),g.y _⟩
  ·cases c:(s.toList==[116,104])
   ·have a:Hid ((s.data.toList==eL 3)=U5):=by
     show (s.data.toList==eL 3)=U5;rw[<- aK f];exact c
    go_wp2
    go_round
    case rel=>exact⟨4,by omega,by go_num,lT (aK d) a.y⟩
    case measure=>simp[intOf]
   ·have a:Hid (aB.dC s.data.toList=3):=lR (k:=3) UI (by rw[<- aK f];exact c) (aK d);go_wp2;go_ret;exact⟨fL (by rw[a.y]),g.y _⟩
  ·cases c:(s.toList==[102,114])
   ·have a:Hid ((s.data.toList==eL 4)=U5):=by
     show (s.data.toList==eL 4)=U5;rw[<- aK f];exact c
    go_wp2
    go_round
    case rel=>exact⟨5,by omega,by go_num,lT (aK d) a.y⟩
    case measure=>simp[intOf]
   ·have a:Hid (aB.dC s.data.toList=4):=lR (k:=4) UI (by rw[<- aK f];exact c) (aK d);go_wp2;go_ret;exact⟨fL (by rw[a.y]),g.y _⟩
  ·cases c:(s.toList==[115,97])
   ·have a:Hid ((s.data.toList==eL 5)=U5):=by
     show (s.data.toList==eL 5)=U5;rw[<- aK f];exact c
    go_wp2
    go_round
    case rel=>exact⟨6,by omega,by go_num,lT (aK d) a.y⟩
    case measure=>simp[intOf]
   ·have a:Hid (aB.dC s.data.toList=5):=lR (k:=5) UI (by rw[<- aK f];exact c) (aK d);go_wp2;go_ret;exact⟨fL (by rw[a.y]),g.y _⟩
  ·cases c:(s.toList==[115,117])
   ·have a:Hid ((s.data.toList==eL 6)=U5):=by
     show (s.data.toList==eL 6)=U5;rw[<- aK f];exact c
    go_wp2
    go_round
    case rel=>exact⟨7,by omega,by go_num,lT (aK d) a.y⟩
    case measure=>simp[intOf]
   ·have a:Hid (aB.dC s.data.toList=6):=lR (k:=6) UI (by rw[<- aK f];exact c) (aK d);go_wp2;go_ret;exact⟨fL (by rw[a.y]),g.y _⟩
  ·have a:Hid (aB.dC s.data.toList=-1):=Fh (aK d);go_wp2;go_ret;exact⟨fL (by rw[a.y]),g.y _⟩
structure DS(w:U7)(b:UY)(acc:UV UZ):Prop where
 c0:w.cell? ⟨b,0,U3⟩=U4 (.bool (aI acc 0))
 c1:w.cell? ⟨b,1,U3⟩=U4 (.bool (aI acc 1))
 c2:w.cell? ⟨b,2,U3⟩=U4 (.bool (aI acc 2))
 c3:w.cell? ⟨b,3,U3⟩=U4 (.bool (aI acc 3))
 c4:w.cell? ⟨b,4,U3⟩=U4 (.bool (aI acc 4))
 c5:w.cell? ⟨b,5,U3⟩=U4 (.bool (aI acc 5))
 c6:w.cell? ⟨b,6,U3⟩=U4 (.bool (aI acc 6))
 f:∀ j:UY,w.frozen? ⟨b,j,U3⟩=U5
theorem DS.later(h:DS w b acc)(a:U9 w.heap.size w wx):DS wx b acc :=
 ⟨cell_later a h.c0,cell_later a h.c1,cell_later a h.c2,cell_later a h.c3,cell_later a h.c4,cell_later a h.c5,cell_later a h.c6,fun j=>(a.frozen (p:=⟨b,j,U3⟩) (show b<w.heap.size from Vh _ ⟨b,0,U3⟩ h.c0)).trans (h.f j)⟩
theorem DS.at(h:DS w b acc)(d:UZ)(c:0<=d)(a:d<7):w.cell? ⟨b,d.toNat,U3⟩=U4 (.bool (aI acc d)):=by
 rcases (show d=0\/d=1\/d=2\/d=3\/d=4\/d=5\/d=6 by omega) with rfl|rfl|rfl|rfl|rfl|rfl|rfl
 ·exact h.c0
 ·exact h.c1
 ·exact h.c2
 ·exact h.c3
 ·exact h.c4
 ·exact h.c5
 ·exact h.c6
theorem sy(d:UZ)(g:0<=d){u:U8}(a:w.cell? ⟨b,k,U3⟩=U4 (.bool (aI acc k)))(_hu:u=.bool U6):(w.setCell ⟨b,d.toNat,U3⟩ (.bool U6)).cell? ⟨b,k,U3⟩=U4 (.bool (aI (d :: acc) k)):=by
 by_cases e:d.toNat=k
 ·have f:d=(k:UZ):=UI
  rw[e,World.cell?_setCell_same _ _ _ a];simp[aI,f]
 ·rw[World.cell?_setCell_other _ _ _ _ UJ,a];have c:(k:UZ)≠d:=UI
  simp[aI,c]
theorem DS.set(h:DS w b acc)(d:UZ)(a:0<=d):DS (w.setCell ⟨b,d.toNat,U3⟩ (.bool U6)) b (d :: acc) :=
 ⟨sy (k:=0) d a h.c0 rfl,sy (k:=1) d a h.c1 rfl,sy (k:=2) d a h.c2 rfl,sy (k:=3) d a h.c3 rfl,sy (k:=4) d a h.c4 rfl,sy (k:=5) d a h.c5 rfl,sy (k:=6) d a h.c6 rfl,fun j=>(zF ..).trans (h.f j)⟩
theorem AB{a:UY}{v:U8}(h:DS w b acc)(_hne:a≠b):DS (w.setCell ⟨a,o,U3⟩ v) b acc:=by
 have g:∀ j:UY,(w.setCell ⟨a,o,U3⟩ v).cell? ⟨b,j,U3⟩=w.cell? ⟨b,j,U3⟩:=fun j=>zS _ _ _ _ UJ
 exact⟨(g 0).trans h.c0,(g 1).trans h.c1,(g 2).trans h.c2,(g 3).trans h.c3,(g 4).trans h.c4,(g 5).trans h.c5,(g 6).trans h.c6,fun j=>(zF ..).trans (h.f j)⟩
def fa(acc:UV UZ):U8:=.agg #[.bool (aI acc 0),.bool (aI acc 1),.bool (aI acc 2),.bool (aI acc 3),.bool (aI acc 4),.bool (aI acc 5),.bool (aI acc 6)]
def rG(s:UU)(k:UY)(acc:UV UZ):Prop :=
 (3*k<s.size/\aB.iq s=aB.iz (s.data.toList.drop (3*k)) acc)\/(3*k=s.size+1/\aB.iq s=U4 acc)
theorem EM(s:UU)(k:UY)(h:s.size % 3=2)(m:3*k<s.size):
  (3*k+2=s.size/\s.data.toList.drop (3*k)=aB.part s (3*k) (3*k+2)/\(aB.part s (3*k) (3*k+2)).length=2) \/
  (3*k+3<s.size/\∃ a b c,s.data.toList.drop (3*k)=a :: b :: c :: s.data.toList.drop (3*(k+1))/\aB.part s (3*k) (3*k+2)=[a,b]/\(c.toNat:UZ)=aB.dP s (3*k+2)):=by
 have j:=aB.fM s
 have d:aB.part s (3*k) (3*k+2)=(s.data.toList.drop (3*k)).take 2:=by
  unfold aB.part;rw[aB.oF,List.drop_take];congr 1;omega
 by_cases g:3*k+2=s.size
 ·left;have e:(s.data.toList.drop (3*k)).length=2:=by rw[List.length_drop];omega
  refine⟨g,?_,?_⟩
  ·rw[d,List.take_of_length_le UI]
  ·rw[d,List.length_take];omega
 ·right;have f:3*k+3<s.size:=UI
  refine⟨f,s.data.toList[3*k]'UI,s.data.toList[3*k+1]'UI,s.data.toList[3*k+2]'UI,?_,?_,?_⟩
  ·rw[Ws UI,Ws (i:=3*k+1) UI,Ws (i:=3*k+1+1) UI,show 3*k+1+1+1=3*(k+1) from by omega]
  ·rw[d,Ws UI,Ws (i:=3*k+1) UI];rfl
  ·unfold aB.dP;rw[List.getD_eq_getElem?_getD,List.getElem?_eq_getElem UI];rfl
theorem MF(s:UU)(h:s.size % 3=2):rG s 0 []:=.inl ⟨by omega,rfl⟩
theorem LG(h:rG s k acc)(r:s.size % 3=2)(p:3*k<s.size)(d:aB.dC (aB.part s (3*k) (3*k+2))<0\/aI acc (aB.dC (aB.part s (3*k) (3*k+2)))=U6\/(3*k+2<s.size/\aB.dP s (3*k+2)≠44)):aB.iq s=U3:=by
 rcases h with ⟨_,h⟩|⟨h,_⟩
 ·rw[h]
  have f:aB.dC (aB.part s (3*k) (3*k+2))<0\/aI acc (aB.dC (aB.part s (3*k) (3*k+2)))=U6->aB.jM acc (aB.dC (aB.part s (3*k) (3*k+2)))=U3:=fun q=>by
   unfold aB.jM;rw[U0];rintro ⟨z,m⟩;rcases q with q|q
   ·omega
   ·unfold aI at q;rw[q] at m;cases m
  rcases EM s k r p with ⟨u,j,g⟩|⟨u,a,b,c,j,g,t⟩
  ·rw[j];rcases d with d|d|d
   all_goals first|omega|skip
   all_goals
    obtain⟨x,y,i⟩:∃ x y,aB.part s (3*k) (3*k+2)=[x,y]:=by
     match hm:aB.part s (3*k) (3*k+2),g with
     |[x,y],_=>exact⟨x,y,rfl⟩
    have:=f (by first|exact .inl d|exact .inr d);rw[i] at this ⊢;exact this
  ·rw[j,aB.iz]
   split
   ·rename_i hc
    rcases d with d|d|d
    ·have:=f (.inl d);rw[g] at this;rw[this];rfl
    ·have:=f (.inr d);rw[g] at this;rw[this];rfl
    ·subst hc;exfalso;apply d.2;rw[<- t];rfl
   ·rfl
 ·omega
theorem L9(h:rG s k acc)(q:s.size % 3=2)(m:3*k<s.size)(r:0<=aB.dC (aB.part s (3*k) (3*k+2)))(i:aI acc (aB.dC (aB.part s (3*k) (3*k+2)))=U5)(j:3*k+2<s.size->aB.dP s (3*k+2)=44):rG s (k+1) (aB.dC (aB.part s (3*k) (3*k+2)) :: acc):=by
 have st:aB.jM acc (aB.dC (aB.part s (3*k) (3*k+2)))=U4 (aB.dC (aB.part s (3*k) (3*k+2)) :: acc):=by
  unfold aB.jM;rw[U1 ⟨r,i⟩]
 rcases h with ⟨_,h⟩|⟨h,_⟩
 ·rcases EM s k q m with ⟨u,g,f⟩|⟨u,a,b,c,g,f,t⟩
  ·right;refine⟨by omega,?_⟩;rw[h,g]
   obtain⟨x,y,d⟩:∃ x y,aB.part s (3*k) (3*k+2)=[x,y]:=by
    match i:aB.part s (3*k) (3*k+2),f with
    |[x,y],_=>exact⟨x,y,rfl⟩
   rw[d] at st ⊢;exact st
  ·left;refine⟨by omega,?_⟩
   have p:c=44:=by
    have:=j UI;rw[<- t] at this;exact UInt8.toNat_inj.1 (by simpa using (by omega:(c.toNat)=44))
   rw[h,g,aB.iz,U1 p,<- f,st];rfl
 ·omega
theorem zh(s:UU)(w:U7)(hm:s.size<=160):
  Va prog 129 #[.string s] w fun e w'=>(∃ acc,e=.returned (.tuple #[fa acc,.bool (aB.dU s)])/\(aB.dU s=U6->aB.iq s=U4 acc))/\U9 w.heap.size w w':=by
 by_cases V:s.size % 3=2
 ·have aa:(((s.size:UZ) % 3) != 2)=U5:=nO UI
  go_in
  go_wp2;obtain⟨W,F⟩:∃ W,W=(w.alloc (.cells #[.bool U5,.bool U5,.bool U5,.bool U5,.bool U5,.bool U5,.bool U5] 159)).alloc (.cells #[.bool U5,.bool U5,.bool U5,.bool U5,.bool U5,.bool U5,.bool U5] 159):=⟨_,rfl⟩;rw[<- F];have hB:U9 w.heap.size w W:=by rw[F];exact ((zr _ _).alloc (zq _) _).alloc UJ _
  have hZ:w.heap.size+2=W.heap.size:=by rw[F];simp
  have dR:DS W w.heap.size []:=by
   rw[F];refine⟨?_,?_,?_,?_,?_,?_,?_,fun j=>?_⟩ <;> simp[aI]
  have dD:DS W (w.heap.size+1) []:=by
   rw[F];refine⟨?_,?_,?_,?_,?_,?_,?_,fun j=>?_⟩ <;> simp[aI]
  clear F
  go_loopw [5,6] (fun i _ wx=>∃ (k:UY) (acc:UV UZ),3*k<=s.size+1/\i=.int .i64 ((3*k:UY):UZ)/\rG s k acc/\DS wx (w.heap.size+1) acc/\DS wx w.heap.size []/\U9 w.heap.size w wx/\w.heap.size+2<=wx.heap.size) (fun i _ _=>s.size+3-(intOf i).toNat)
  case atStart=>exact⟨0,[],by omega,rfl,MF s V,dD,dR,hB,by omega⟩
  case round =>
   obtain⟨k,acc,hk,rfl,C,D,y,z,N⟩:=hrel
   by_cases Q:3*k<s.size
   ·have hd:=aB.xj (aB.part s (3*k) (3*k+2));have U:=hide C;clear C
    go_wp2_with fail
    refine (M7 _ _).mono ?_;rintro e w1 ⟨rfl,u⟩;rw[show (s.extract (3*k) (3*k+2)).data.toList=aB.part s (3*k) (3*k+2) from rfl];have x:U9 w.heap.size w w1:=z.trans (u.mono z.size);have ab:w.heap.size+2<=w1.heap.size:=Vg N u.size;have a:=D.later u;have c:=y.later u;have q0:=a.c0;have Z:=a.c1;have Y:=a.c2;have X:=a.c3;have q4:=a.c4;have q5:=a.c5;have q6:=a.c6;have M:=c.c0;have L:=c.c1;have K:=c.c2;have J:=c.c3;have I:=c.c4;have H:=c.c5;have G:=c.c6;have fR:=c.f;have fD:=a.f;obtain⟨d,S⟩:∃ d,d=aB.dC (aB.part s (3*k) (3*k+2)):=⟨_,rfl⟩;have m:=hide (fun q=>LG (aK U) V Q q);have g:=hide (fun Z Y X=>L9 (aK U) V Q Z Y X);rw[<- S] at hd m g ⊢;clear S D y z N u hB hZ dR dD
    by_cases O:d<0
    ·have p:Hid (aB.dU s=U5):=by show aB.dU s=U5;unfold aB.dU;rw[aK m (.inl O)];rfl
     go_wp2;refine bodyPost_ret (v:=.tuple #[fa acc,.bool U5]) (by simp[results,results129,go_sem,fa,M,L,K,J,I,H,G]) rfl ⟨⟨acc,?_,?_⟩,?_⟩
     ·rw[p.y]
     ·intro h;rw[p.y] at h;cases h
     ·exact (((((((x.setCell (zq _) _).setCell (zq _) _).setCell (zq _) _).setCell (zq _) _).setCell (zq _) _).setCell (zq _) _).setCell (zq _) _)
    ·have hc:=a.at d UI UI
     cases t:aI acc d
     ·rw[t] at hc
      by_cases T:3*k+2<s.size
      ·cases E:(((s[3*k+2]'T).toNat:UZ) != 44)
       ·have HX:Hid (rG s (k+1) (d :: acc)):=aK g UI t (fun _=>by
         rw[aB.jc s _ T];simpa using E)
        go_wp2;refine⟨⟨k+1,d :: acc,by omega,by go_num,HX.y,?_,?_,?_,?_⟩,by simp[intOf];omega⟩
        ·exact a.set d UI
        ·exact AB c UI
        ·exact x.setCell UJ _
        ·simp;omega
       ·have p:Hid (aB.dU s=U5):=by
         show aB.dU s=U5;unfold aB.dU;rw[aK m (.inr (.inr ⟨T,by rw[aB.jc s _ T];simpa using E⟩))];rfl
        go_wp2;refine bodyPost_ret (v:=.tuple #[fa acc,.bool U5]) (by simp[results,results129,go_sem,fa,M,L,K,J,I,H,G]) rfl ⟨⟨acc,?_,?_⟩,?_⟩
        ·rw[p.y]
        ·intro h;rw[p.y] at h;cases h
        ·exact (((((((x.setCell (zq _) _).setCell (zq _) _).setCell (zq _) _).setCell (zq _) _).setCell (zq _) _).setCell (zq _) _).setCell (zq _) _)
      ·have HX:Hid (rG s (k+1) (d :: acc)):=aK g UI t (fun h=>U2 h T);go_wp2;refine⟨⟨k+1,d :: acc,by omega,by go_num,HX.y,?_,?_,?_,?_⟩,by simp[intOf];omega⟩
       ·exact a.set d UI
       ·exact AB c UI
       ·exact x.setCell UJ _
       ·simp;omega
     ·rw[t] at hc;have p:Hid (aB.dU s=U5):=by show aB.dU s=U5;unfold aB.dU;rw[aK m (.inr (.inl t))];rfl
      go_wp2;refine bodyPost_ret (v:=.tuple #[fa acc,.bool U5]) (by simp[results,results129,go_sem,fa,M,L,K,J,I,H,G]) rfl ⟨⟨acc,?_,?_⟩,?_⟩
      ·rw[p.y]
      ·intro h;rw[p.y] at h;cases h
      ·exact (((((((x.setCell (zq _) _).setCell (zq _) _).setCell (zq _) _).setCell (zq _) _).setCell (zq _) _).setCell (zq _) _).setCell (zq _) _)
   ·have HF:Hid (aB.iq s=U4 acc):=by
     rcases C with ⟨h,_⟩|⟨_,h⟩
     ·omega
     ·exact h
    have p:Hid (aB.dU s=U6):=by show aB.dU s=U6;unfold aB.dU;rw[HF.y];rfl
    clear C;have q0:=D.c0;have Z:=D.c1;have Y:=D.c2;have X:=D.c3;have q4:=D.c4;have q5:=D.c5;have q6:=D.c6;have M:=y.c0;have L:=y.c1;have K:=y.c2;have J:=y.c3;have I:=y.c4;have H:=y.c5;have G:=y.c6;have fR:=y.f;go_wp2;refine bodyPost_ret (v:=.tuple #[fa acc,.bool U6]) (by simp[results,results129,go_sem,fa,M,L,K,J,I,H,G]) rfl ⟨⟨acc,?_,?_⟩,?_⟩
    ·rw[p.y]
    ·intro _;exact HF.y
    ·exact (((((((z.setCell (zq _) _).setCell (zq _) _).setCell (zq _) _).setCell (zq _) _).setCell (zq _) _).setCell (zq _) _).setCell (zq _) _)
 ·have aa:(((s.size:UZ) % 3) != 2)=U6:=nP UI
  have p:Hid (aB.dU s=U5):=by
   show aB.dU s=U5;unfold aB.dU
   cases ho:aB.iq s with
   |none=>rfl
   |some r=>have:=aB.Du _ _ _ ho;rw[aB.fM] at this;omega
  clear V
  go_in
  go_wp2;refine bodyPost_ret (v:=.tuple #[fa [],.bool U5]) (by simp[results,results129,go_sem,fa,aI]) rfl ⟨⟨[],?_,?_⟩,?_⟩
  ·rw[p.y]
  ·intro h;rw[p.y] at h;cases h
  ·exact ((zr _ _).alloc (zq _) _).alloc UJ _
def eU(s:UU):UV UU:=Lib.splitB ⟨#[44]⟩ 0 (YM s ⟨#[44]⟩) s
theorem F7(s:UU):(eU s).length=YM s ⟨#[44]⟩+1:=Lib.splitB_all ⟨#[44]⟩ UK 0 _ s rfl
theorem N8(s:UU):aB.np ((eU s).map (·.data.toList)) []=aB.iq s:=aB.Rl s
theorem SQ(s:UU)(h:s.size<=160):(eU s).length<=161:=by
 rw[F7];have:=Lib.countB_le ⟨#[44]⟩ UK s.size s (zq _);omega
theorem Sk(w:U7)(l:UV UU)(t:TypeId)(j:UY)(x:UU)(h:l[j]?=U4 x):(w.alloc (.cells (l.map YK).toArray t)).cell? ⟨w.heap.size,j,U3⟩=U4 (.string x):=by
 rw[World.cell?_alloc_at _ _ _ _ rfl];simp[h]
def qH(s:UU)(k:UY)(acc:UV UZ):Prop:=aB.iq s=aB.np (((eU s).map (·.data.toList)).drop k) acc
theorem IJ(h:qH s k acc)(a:k<(eU s).length):aB.iq s=(aB.jM acc (aB.dC (eU s)[k].data.toList)).bind (aB.np (((eU s).map (·.data.toList)).drop (k+1))):=by
 rw[h,Ws (by simpa using a)];simp[aB.np]
theorem Rg(h:qH s k acc)(d:k<(eU s).length)(f:aB.dC (eU s)[k].data.toList<0\/aI acc (aB.dC (eU s)[k].data.toList)=U6):aB.dU s=U5:=by
 have e:=IJ h d
 have a:aB.jM acc (aB.dC (eU s)[k].data.toList)=U3:=by
  unfold aB.jM;rw[U0];rintro ⟨g,c⟩;rcases f with q|q
  ·omega
  ·unfold aI at q;rw[q] at c;cases c
 rw[a] at e;unfold aB.dU;rw[e];rfl
theorem RO(h:qH s k acc)(c:k<(eU s).length)(d:0<=aB.dC (eU s)[k].data.toList)(a:aI acc (aB.dC (eU s)[k].data.toList)=U5):qH s (k+1) (aB.dC (eU s)[k].data.toList :: acc):=by
 have e:=IJ h c
 have st:aB.jM acc (aB.dC (eU s)[k].data.toList)=U4 (aB.dC (eU s)[k].data.toList :: acc):=by
  unfold aB.jM;rw[U1 ⟨d,a⟩]
 rw[st] at e;exact e
theorem Rh(h:qH s k acc)(a:(eU s).length<=k):aB.iq s=U4 acc:=by
 unfold qH at h;rw[List.drop_of_length_le (by simpa using a)] at h;exact h
theorem Ip(s:UU)(w:U7)(V:Env w)(hm:s.size<=160):
  Va prog 194 #[.string s] w fun e w'=>(∃ acc,e=.returned (.tuple #[fa acc,.bool (aB.dU s)])/\(aB.dU s=U6->aB.iq s=U4 acc))/\U9 w.heap.size w w':=by
 obtain⟨mx,I⟩:=V.tw;have HE:=hide V;have hz:=V.size;clear V;have ai:=SQ s hm
 go_in
 go_wp2_with fail
 obtain⟨W,F⟩:∃ W,W=(w.alloc (.cells #[.bool U5,.bool U5,.bool U5,.bool U5,.bool U5,.bool U5,.bool U5] 160)).alloc (.cells #[.bool U5,.bool U5,.bool U5,.bool U5,.bool U5,.bool U5,.bool U5] 160):=⟨_,rfl⟩;rw[<- F];have X:U9 w.heap.size w W:=by rw[F];exact ((zr _ _).alloc (zq _) _).alloc UJ _
 have hZ:w.heap.size+2=W.heap.size:=by rw[F];simp
 have dR:DS W w.heap.size []:=by
  rw[F];refine⟨?_,?_,?_,?_,?_,?_,?_,fun j=>?_⟩ <;> simp[aI]
 have dD:DS W (w.heap.size+1) []:=by
  rw[F];refine⟨?_,?_,?_,?_,?_,?_,?_,fun j=>?_⟩ <;> simp[aI]
 have J:=cell_later X I;clear F;refine (strings_Split s ⟨#[44]⟩ mx W UI J UK).mono ?_;rintro e w1 ⟨rfl,t⟩;have hP:∀ j x,(eU s)[j]?=U4 x->w1.cell? ⟨W.heap.size,j,U3⟩=U4 (.string x):=fun j x hx=>by rw[t];exact Sk W (eU s) _ j x hx
 have z:U9 W.heap.size W w1:=by rw[t];exact (zr _ _).alloc (zq _) _
 have aj:W.heap.size<w1.heap.size:=by rw[t];simp
 clear t;rw[show YM s ⟨#[44]⟩+1=(eU s).length from (F7 s).symm];have HP:=hide hP;have af:=hide (((aK HE).later X).later z);have ac:=dR.later z;have ad:=dD.later z;have aa:U9 w.heap.size w w1:=X.trans (z.mono UI);clear hP dR dD X J I af;go_wp2
 go_loopw [6,7,8,12] (fun _ _ _ i wx=>∃ (k:UY) (acc:UV UZ),k<=(eU s).length/\i=.int .i64 k/\qH s k acc/\DS wx (w.heap.size+1) acc/\DS wx w.heap.size []/\U9 w.heap.size w wx/\w1.heap.size<=wx.heap.size/\(∀ j x,(eU s)[j]?=U4 x->wx.cell? ⟨W.heap.size,j,U3⟩=U4 (.string x))) (fun _ _ _ i _=>(eU s).length-(intOf i).toNat)
 case atStart=>exact⟨0,[],V6 _,rfl,(N8 s).symm,ad,ac,aa,Vd _,aK HP⟩
 case round =>
  obtain⟨k,acc,hk,rfl,m,c,a,g,ag,G⟩:=hrel;have L:=hide G;clear G;have ab:=hide ((aK HE).later g)
  by_cases C:k<(eU s).length
  ·have hc:=aK L k (eU s)[k] (by simp[C]);have hi:(k:UZ)<((eU s).length:UZ):=UI
   have q0:=c.c0;have Z:=c.c1;have Y:=c.c2;have q3:=c.c3;have q4:=c.c4;have q5:=c.c5;have q6:=c.c6;have U:=a.c0;have T:=a.c1;have S:=a.c2;have Q:=a.c3;have O:=a.c4;have N:=a.c5;have M:=a.c6;have fR:=a.f;have fD:=c.f;have hd:=aB.xj (eU s)[k].data.toList;have r:=hide (fun q=>Rg m C q);have p:=hide (fun Z Y=>RO m C Z Y);clear m
   go_wp2_with fail
   refine (Us _ _ (aK ab)).mono ?_;rintro e w2 ⟨rfl,rfl⟩;obtain⟨d,y⟩:∃ d,d=aB.dC (eU s)[k].data.toList:=⟨_,rfl⟩;have HV:Hid (mK (eU s)[k]=if 0<=d then d else 0):=by show mK (eU s)[k]=_;rw[y];rfl
   have HW:Hid (mc (eU s)[k]=decide (0<=d)):=by show mc (eU s)[k]=_;rw[y];rfl
   rw[<- y] at hd r p;clear y
   by_cases H:d<0
   ·have E:Hid (aB.dU s=U5):=aK r (.inl H);have D:Hid (mc (eU s)[k]=U5):=HW.y.trans (decide_eq_false UI);rw[D.y];go_wp2;refine bodyPost_ret (v:=.tuple #[fa [],.bool U5]) (by simp[results,results194,go_sem,fa,aI,U,T,S,Q,O,N,M]) rfl ⟨⟨[],?_,?_⟩,?_⟩
    ·rw[E.y]
    ·intro h;rw[E.y] at h;cases h
    ·exact (((((((g.setCell (zq _) _).setCell (zq _) _).setCell (zq _) _).setCell (zq _) _).setCell (zq _) _).setCell (zq _) _).setCell (zq _) _)
   ·have ae:Hid (mK (eU s)[k]=d):=HV.y.trans (U1 UI);have D:Hid (mc (eU s)[k]=U6):=HW.y.trans (decide_eq_true UI);rw[ae.y,D.y];have K:=c.at d UI UI
    cases u:aI acc d
    ·rw[u] at K;have HX:Hid (qH s (k+1) (d :: acc)):=aK p UI u;go_wp2;refine⟨⟨k+1,d :: acc,by omega,by go_num,HX.y,?_,?_,?_,?_,?_⟩,by simp[intOf];omega⟩
     ·exact c.set d UI
     ·exact AB a UI
     ·exact g.setCell UJ _
     ·simp;omega
     ·intro j x hx;exact (zS _ _ _ _ UJ).trans (aK L j x hx)
    ·rw[u] at K;have E:Hid (aB.dU s=U5):=aK r (.inr u);go_wp2;refine bodyPost_ret (v:=.tuple #[fa [],.bool U5]) (by simp[results,results194,go_sem,fa,aI,U,T,S,Q,O,N,M]) rfl ⟨⟨[],?_,?_⟩,?_⟩
     ·rw[E.y]
     ·intro h;rw[E.y] at h;cases h
     ·exact (((((((g.setCell (zq _) _).setCell (zq _) _).setCell (zq _) _).setCell (zq _) _).setCell (zq _) _).setCell (zq _) _).setCell (zq _) _)
  ·have HF:Hid (aB.iq s=U4 acc):=Rh m UI;have E:Hid (aB.dU s=U6):=by show aB.dU s=U6;unfold aB.dU;rw[HF.y];rfl
   clear m;have q0:=c.c0;have Z:=c.c1;have Y:=c.c2;have q3:=c.c3;have q4:=c.c4;have q5:=c.c5;have q6:=c.c6;have U:=a.c0;have T:=a.c1;have S:=a.c2;have Q:=a.c3;have O:=a.c4;have N:=a.c5;have M:=a.c6;have fR:=a.f;go_wp2;refine bodyPost_ret (v:=.tuple #[fa acc,.bool U6]) (by simp[results,results194,go_sem,fa,U,T,S,Q,O,N,M]) rfl ⟨⟨acc,?_,?_⟩,?_⟩
   ·rw[E.y]
   ·intro _;exact HF.y
   ·exact (((((((g.setCell (zq _) _).setCell (zq _) _).setCell (zq _) _).setCell (zq _) _).setCell (zq _) _).setCell (zq _) _).setCell (zq _) _)
theorem Env.kept(h:Env w)(k:Kept R w w')(q:10<=R):Env w':=by
 have i:U9 10 w w':=k.below q h.size;have a:∀ (b o:UY) (v:U8),b<10->w.cell? ⟨b,o,U3⟩=U4 v->w'.cell? ⟨b,o,U3⟩=U4 v:=fun b o v d e=>(i.cell (p:=⟨b,o,U3⟩) d).trans e
 obtain⟨m,j⟩:=h.tw;obtain⟨F,E,D,C,z,y,x,u,t,r,g,f⟩:=h.iL;refine⟨⟨a _ _ _ UI F,a _ _ _ UI E,a _ _ _ UI D,a _ _ _ UI C,a _ _ _ UI z,a _ _ _ UI y,a _ _ _ UI x,a _ _ _ UI u,a _ _ _ UI t,a _ _ _ UI r,a _ _ _ UI g,a _ _ _ UI f⟩,⟨m,a _ _ _ UI j⟩,?_,Vg h.size k.size,a _ _ _ UI h.mo,a _ _ _ UI h.tu,a _ _ _ UI h.we,a _ _ _ UI h.th,a _ _ _ UI h.fr,a _ _ _ UI h.sa,a _ _ _ UI h.su⟩;have c:=h.pow;unfold YA YB at c ⊢;simp only[uW,YC] at c ⊢;rw[i.block 0 UI];exact c
def eM(s:UU)(lo hi:UZ):UX:=aB.isNum s.data.toList && decide (lo<=aB.cF s.data.toList) && decide (aB.cF s.data.toList<=hi)
theorem Iv(s:UU)(L M:UY)(lo hi:UZ)(w:U7)(j:s.size<=160)(p:w.cell? ⟨L,0,U3⟩=U4 (.int .i64 lo))(m:w.cell? ⟨M,0,U3⟩=U4 (.int .i64 hi)):
  Va prog 191 #[.string s,.pointer (U4 ⟨L,0,U3⟩),.pointer (U4 ⟨M,0,U3⟩)] w fun e w'=>e=.returned (.tuple #[.int .i64 (aB.cF s.data.toList),.bool (eM s lo hi)])/\∃ n,w'=w.drewN n:=by
 have c:s.size<=maxLen:=by unfold maxLen;omega
 cases a:aB.isNum s.data.toList
 ·go_in
  go_wp2_with fail
  refine (eT s w c).mono ?_;rintro e d ⟨rfl,rfl⟩;rw[a];go_wp2
  go_quiet (fail)
  go_wp2;go_ret2;exact⟨eG rfl (by simp[eM,a]),_,rfl⟩
 ·by_cases h:lo<=aB.cF s.data.toList
  ·by_cases i:aB.cF s.data.toList<=hi
   ·go_in
    go_wp2_with fail
    refine (eT s w c).mono ?_;rintro e d ⟨rfl,rfl⟩;rw[a];go_wp2
    go_quiet (fail)
    go_wp2;go_ret2;exact⟨eG rfl (by simp[eM,a,h,i]),_,rfl⟩
   ·have f:decide (aB.cF s.data.toList<=hi)=U5:=decide_eq_false i
    go_in
    go_wp2_with fail
    refine (eT s w c).mono ?_;rintro e d ⟨rfl,rfl⟩;rw[a];go_wp2
    go_quiet (fail)
    go_wp2;go_ret2;exact⟨eG rfl (by simp[eM,a,h,f]),_,rfl⟩
  ·have g:decide (lo<=aB.cF s.data.toList)=U5:=decide_eq_false h
   go_in
   go_wp2_with fail
   refine (eT s w c).mono ?_;rintro e d ⟨rfl,rfl⟩;rw[a];go_wp2
   go_quiet (fail)
   go_wp2;go_ret2;exact⟨eG rfl (by simp[eM,a,g]),_,rfl⟩
theorem Tb(R A:UY)(ws:UV UU)(nx:UY)(wr:UX)(w:U7)(h:RS w R A ws nx wr)(j:Env w)(q:cB ws.length nx wr=U6)(a:nx<ws.length)(t:aB.cM ws[nx]=U6):
  Va prog 135 #[.pointer (U4 ⟨R,0,U3⟩),.func (.func 136) #[] #[]] w fun e w'=>e=.returned (.int .i64 (fT ws[nx]))/\RS w' R A ws (nx+1) wr/\Kept R w w':=by
 have hi:(nx:UZ)<(ws.length:UZ):=UI
 have d:ws[nx].size<=160:=h.short _ (zg a);have g:=hide d;clear d;have p:=hide j;clear j
 go_in
 go_wp2_with fail
 refine (im R A ws nx wr w h).mono ?_;rintro e w1 ⟨rfl,n,f⟩;have c:RS w1 R A ws nx wr:=by rw[f];exact h.drewN n
 have m:Kept R w w1:=by rw[f];exact (Kept.refl R w).drewN n
 have i:Hid (Env w1):=by show Env w1;rw[f];exact (aK p).drewN n
 have z:=c.c0;have y:=c.c1;have u:=c.f1;have x:=c.rows nx a;have r:=c.len;clear f;go_wp2
 go_quiet ((go_at_call 136;exact Yz (I7 _ _ ((aK i).drewN _).iL (aK g))))
 go_wp2;go_ret;exact⟨rfl,(c.drewN _).step a,(m.drewN _).setCell _ _⟩
theorem Ta(R A:UY)(ws:UV UU)(nx:UY)(wr:UX)(w:U7)(h:RS w R A ws nx wr)(j:Env w)(q:cB ws.length nx wr=U6)(d:nx<ws.length)(t:aB.cM ws[nx]=U5):
  Va prog 135 #[.pointer (U4 ⟨R,0,U3⟩),.func (.func 136) #[] #[]] w fun e w'=>e=.returned (.int .i64 (0))/\RS w' R A ws nx U6/\Kept R w w':=by
 have hi:(nx:UZ)<(ws.length:UZ):=UI
 have c:ws[nx].size<=160:=h.short _ (zg d);have g:=hide c;clear c;have p:=hide j;clear j
 go_in
 go_wp2_with fail
 refine (im R A ws nx wr w h).mono ?_;rintro e w1 ⟨rfl,n,f⟩;have a:RS w1 R A ws nx wr:=by rw[f];exact h.drewN n
 have m:Kept R w w1:=by rw[f];exact (Kept.refl R w).drewN n
 have i:Hid (Env w1):=by show Env w1;rw[f];exact (aK p).drewN n
 have C:=a.c0;have z:=a.c1;have y:=a.c2;have u:=a.f2;have x:=a.rows nx d;have r:=a.len;clear f;go_wp2
 go_quiet ((go_at_call 136;exact Yz (I7 _ _ ((aK i).drewN _).iL (aK g))))
 go_wp2;go_ret;exact⟨rfl,(a.drewN _).bad,(m.drewN _).setCell _ _⟩
theorem small(h:n<=160):n<=maxLen:=by unfold maxLen;omega
theorem T5(R A:UY)(ws:UV UU)(nx:UY)(wr:UX)(w:U7)(h:RS w R A ws nx wr)(j:cB ws.length nx wr=U6)(a:nx<ws.length)(p:aB.dA ws[nx]=U6):
  Va prog 135 #[.pointer (U4 ⟨R,0,U3⟩),.func (.func 137) #[] #[]] w fun e w'=>e=.returned (.int .i64 (aB.fo ws[nx]))/\RS w' R A ws (nx+1) wr/\Kept R w w':=by
 have hi:(nx:UZ)<(ws.length:UZ):=UI
 have d:ws[nx].size<=160:=h.short _ (zg a);have g:=hide d;clear d
 go_in
 go_wp2_with fail
 refine (im R A ws nx wr w h).mono ?_;rintro e w1 ⟨rfl,n,f⟩;have c:RS w1 R A ws nx wr:=by rw[f];exact h.drewN n
 have i:Kept R w w1:=by rw[f];exact (Kept.refl R w).drewN n
 have u:=c.c0;have t:=c.c1;have q:=c.f1;have r:=c.rows nx a;have m:=c.len;clear f;go_wp2
 go_quiet ((go_at_call 137;exact Yz (vX _ _ (small (aK g)))))
 go_wp2;go_ret;exact⟨rfl,(c.drewN _).step a,(i.drewN _).setCell _ _⟩
theorem T4(R A:UY)(ws:UV UU)(nx:UY)(wr:UX)(w:U7)(h:RS w R A ws nx wr)(j:cB ws.length nx wr=U6)(d:nx<ws.length)(p:aB.dA ws[nx]=U5):
  Va prog 135 #[.pointer (U4 ⟨R,0,U3⟩),.func (.func 137) #[] #[]] w fun e w'=>e=.returned (.int .i64 (0))/\RS w' R A ws nx U6/\Kept R w w':=by
 have hi:(nx:UZ)<(ws.length:UZ):=UI
 have c:ws[nx].size<=160:=h.short _ (zg d);have g:=hide c;clear c
 go_in
 go_wp2_with fail
 refine (im R A ws nx wr w h).mono ?_;rintro e w1 ⟨rfl,n,f⟩;have a:RS w1 R A ws nx wr:=by rw[f];exact h.drewN n
 have i:Kept R w w1:=by rw[f];exact (Kept.refl R w).drewN n
 have x:=a.c0;have u:=a.c1;have t:=a.c2;have q:=a.f2;have r:=a.rows nx d;have m:=a.len;clear f;go_wp2
 go_quiet ((go_at_call 137;exact Yz (vX _ _ (small (aK g)))))
 go_wp2;go_ret;exact⟨rfl,(a.drewN _).bad,(i.drewN _).setCell _ _⟩
theorem Tj(R A:UY)(ws:UV UU)(nx:UY)(wr:UX)(w:U7)(h:RS w R A ws nx wr)(j:Env w)(q:cB ws.length nx wr=U6)(a:nx<ws.length)(t:bA ws[nx]=U6):
  Va prog 135 #[.pointer (U4 ⟨R,0,U3⟩),.func (.func 140) #[] #[]] w fun e w'=>e=.returned (.int .i64 (dL ws[nx]))/\RS w' R A ws (nx+1) wr/\Kept R w w':=by
 have hi:(nx:UZ)<(ws.length:UZ):=UI
 have d:ws[nx].size<=160:=h.short _ (zg a);have g:=hide d;clear d;have p:=hide j;clear j
 go_in
 go_wp2_with fail
 refine (im R A ws nx wr w h).mono ?_;rintro e w1 ⟨rfl,n,f⟩;have c:RS w1 R A ws nx wr:=by rw[f];exact h.drewN n
 have m:Kept R w w1:=by rw[f];exact (Kept.refl R w).drewN n
 have i:Hid (Env w1):=by show Env w1;rw[f];exact (aK p).drewN n
 have z:=c.c0;have y:=c.c1;have u:=c.f1;have x:=c.rows nx a;have r:=c.len;clear f;go_wp2
 go_quiet ((go_at_call 140;exact Yx (Je _ _ ((aK i).drewN _) (aK g))))
 go_wp2;go_ret;exact⟨rfl,(c.drewN _).step a,(m.drewN _).setCell _ _⟩
theorem Ti(R A:UY)(ws:UV UU)(nx:UY)(wr:UX)(w:U7)(h:RS w R A ws nx wr)(j:Env w)(q:cB ws.length nx wr=U6)(d:nx<ws.length)(t:bA ws[nx]=U5):
  Va prog 135 #[.pointer (U4 ⟨R,0,U3⟩),.func (.func 140) #[] #[]] w fun e w'=>e=.returned (.int .i64 (0))/\RS w' R A ws nx U6/\Kept R w w':=by
 have hi:(nx:UZ)<(ws.length:UZ):=UI
 have c:ws[nx].size<=160:=h.short _ (zg d);have g:=hide c;clear c;have p:=hide j;clear j
 go_in
 go_wp2_with fail
 refine (im R A ws nx wr w h).mono ?_;rintro e w1 ⟨rfl,n,f⟩;have a:RS w1 R A ws nx wr:=by rw[f];exact h.drewN n
 have m:Kept R w w1:=by rw[f];exact (Kept.refl R w).drewN n
 have i:Hid (Env w1):=by show Env w1;rw[f];exact (aK p).drewN n
 have C:=a.c0;have z:=a.c1;have y:=a.c2;have u:=a.f2;have x:=a.rows nx d;have r:=a.len;clear f;go_wp2
 go_quiet ((go_at_call 140;exact Yx (Je _ _ ((aK i).drewN _) (aK g))))
 go_wp2;go_ret;exact⟨rfl,(a.drewN _).bad,(m.drewN _).setCell _ _⟩
theorem T8(L M:UY)(lo hi:UZ)(R A:UY)(ws:UV UU)(nx:UY)(wr:UX)(w:U7)(h:RS w R A ws nx wr)(p:w.cell? ⟨L,0,U3⟩=U4 (.int .i64 lo))(m:w.cell? ⟨M,0,U3⟩=U4 (.int .i64 hi))(t:cB ws.length nx wr=U6)(a:nx<ws.length)(x:eM ws[nx] lo hi=U6):
  Va prog 135 #[.pointer (U4 ⟨R,0,U3⟩),.func (.func 191) #[] #[.pointer (U4 ⟨L,0,U3⟩),.pointer (U4 ⟨M,0,U3⟩)]] w fun e w'=>e=.returned (.int .i64 (aB.cF ws[nx].data.toList))/\RS w' R A ws (nx+1) wr/\Kept R w w':=by
 have r:(nx:UZ)<(ws.length:UZ):=UI
 have f:ws[nx].size<=160:=h.short _ (zg a);have j:=hide f;clear f
 go_in
 go_wp2_with fail
 refine (im R A ws nx wr w h).mono ?_;rintro e w1 ⟨rfl,n,d⟩;have c:RS w1 R A ws nx wr:=by rw[d];exact h.drewN n
 have q:Kept R w w1:=by rw[d];exact (Kept.refl R w).drewN n
 have i:Hid (w1.cell? ⟨L,0,U3⟩=U4 (.int .i64 lo)):=by show w1.cell? _=_;rw[d];exact p
 have g:Hid (w1.cell? ⟨M,0,U3⟩=U4 (.int .i64 hi)):=by show w1.cell? _=_;rw[d];exact m
 clear p m;have D:=c.c0;have C:=c.c1;have y:=c.f1;have z:=c.rows nx a;have u:=c.len;clear d;go_wp2
 go_quiet ((go_at_call 191;exact Yx (Iv _ L M lo hi _ (aK j) (aK i) (aK g))))
 go_wp2;go_ret;exact⟨rfl,(c.drewN _).step a,(q.drewN _).setCell _ _⟩
theorem T7(L M:UY)(lo hi:UZ)(R A:UY)(ws:UV UU)(nx:UY)(wr:UX)(w:U7)(h:RS w R A ws nx wr)(p:w.cell? ⟨L,0,U3⟩=U4 (.int .i64 lo))(m:w.cell? ⟨M,0,U3⟩=U4 (.int .i64 hi))(t:cB ws.length nx wr=U6)(f:nx<ws.length)(x:eM ws[nx] lo hi=U5):
  Va prog 135 #[.pointer (U4 ⟨R,0,U3⟩),.func (.func 191) #[] #[.pointer (U4 ⟨L,0,U3⟩),.pointer (U4 ⟨M,0,U3⟩)]] w fun e w'=>e=.returned (.int .i64 (0))/\RS w' R A ws nx U6/\Kept R w w':=by
 have r:(nx:UZ)<(ws.length:UZ):=UI
 have d:ws[nx].size<=160:=h.short _ (zg f);have j:=hide d;clear d
 go_in
 go_wp2_with fail
 refine (im R A ws nx wr w h).mono ?_;rintro e w1 ⟨rfl,n,c⟩;have a:RS w1 R A ws nx wr:=by rw[c];exact h.drewN n
 have q:Kept R w w1:=by rw[c];exact (Kept.refl R w).drewN n
 have i:Hid (w1.cell? ⟨L,0,U3⟩=U4 (.int .i64 lo)):=by show w1.cell? _=_;rw[c];exact p
 have g:Hid (w1.cell? ⟨M,0,U3⟩=U4 (.int .i64 hi)):=by show w1.cell? _=_;rw[c];exact m
 clear p m;have E:=a.c0;have D:=a.c1;have C:=a.c2;have y:=a.f2;have z:=a.rows nx f;have u:=a.len;clear c;go_wp2
 go_quiet ((go_at_call 191;exact Yx (Iv _ L M lo hi _ (aK j) (aK i) (aK g))))
 go_wp2;go_ret;exact⟨rfl,(a.drewN _).bad,(q.drewN _).setCell _ _⟩
theorem Th(f:U8)(R A:UY)(ws:UV UU)(nx:UY)(wr:UX)(w:U7)(h:RS w R A ws nx wr)(g:cB ws.length nx wr=U5):
  Va prog 130 #[.pointer (U4 ⟨R,0,U3⟩),f] w fun e w'=>e=.returned (.string ⟨#[]⟩)/\RS w' R A ws nx U6/\Kept R w w':=by
 go_in
 go_wp2_with fail
 refine (im R A ws nx wr w h).mono ?_;rintro e w1 ⟨rfl,n,a⟩;have c:RS w1 R A ws nx wr:=by rw[a];exact h.drewN n
 have d:Kept R w w1:=by rw[a];exact (Kept.refl R w).drewN n
 have j:=c.c2;have i:=c.f2;clear a;go_wp2;go_ret;exact⟨rfl,c.bad,d.setCell _ _⟩
theorem Td(R A:UY)(ws:UV UU)(nx:UY)(wr:UX)(w:U7)(h:RS w R A ws nx wr)(y:cB ws.length nx wr=U6)(d:nx<ws.length)(C:aB.fc ws[nx].data.toList=U6):
  Va prog 130 #[.pointer (U4 ⟨R,0,U3⟩),.func (.func 131) #[] #[]] w fun e w'=>e=.returned (.string (qF ws[nx]))/\RS w' R A ws (nx+1) wr/\Kept R w w':=by
 have hi:(nx:UZ)<(ws.length:UZ):=UI
 have r:(0:UZ)<=(nx:UZ):=YN _;have f:ws[nx].size<=160:=h.short _ (zg d);have m:=hide f;clear f
 go_in
 go_wp2_with fail
 refine (im R A ws nx wr w h).mono ?_;rintro e w1 ⟨rfl,n,j⟩;have i:RS w1 R A ws nx wr:=by rw[j];exact h.drewN n
 have q:Kept R w w1:=by rw[j];exact (Kept.refl R w).drewN n
 have x:=i.c0;have u:=i.c1;have t:=i.rows nx d;have z:=i.len;clear j
 go_wp2_with fail
 go_region_held3 (fun w'=>w'.cell? ⟨R,0,U3⟩=U4 (.slice (U4 ⟨A,0,U3⟩) ws.length ws.length)/\w'.cell? ⟨R,1,U3⟩=U4 (.int .i64 nx)/\w'.cell? ⟨A,nx,U3⟩=U4 (.string ws[nx]))
  (first
   |go_keep
   |(
    go_split_ands
    refine⟨?_,?_,?_⟩
    ·exact cell_later a UL
    ·exact cell_later a UL
    ·exact cell_later a UL))
  ((go_at_call 131;refine (I8 _ _ (aK m)).mono ?_;rintro e w4 ⟨rfl,a⟩))
 have c:U9 w1.heap.size w1 w4:=⟨a.os,a.tape,a.output,a.size,a.block⟩;have g:=i.aD c;have p:=q.trans (Kept.aD c);have G:=g.c1;have F:=g.c2;have E:=g.f1;have D:=g.f2;clear x u t;go_wp2;go_ret;exact⟨rfl,g.step d,p.setCell _ _⟩
theorem Tc(R A:UY)(ws:UV UU)(nx:UY)(wr:UX)(w:U7)(h:RS w R A ws nx wr)(y:cB ws.length nx wr=U6)(f:nx<ws.length)(C:aB.fc ws[nx].data.toList=U5):
  Va prog 130 #[.pointer (U4 ⟨R,0,U3⟩),.func (.func 131) #[] #[]] w fun e w'=>e=.returned (.string ⟨#[]⟩)/\RS w' R A ws nx U6/\Kept R w w':=by
 have hi:(nx:UZ)<(ws.length:UZ):=UI
 have r:(0:UZ)<=(nx:UZ):=YN _;have d:ws[nx].size<=160:=h.short _ (zg f);have m:=hide d;clear d
 go_in
 go_wp2_with fail
 refine (im R A ws nx wr w h).mono ?_;rintro e w1 ⟨rfl,n,j⟩;have i:RS w1 R A ws nx wr:=by rw[j];exact h.drewN n
 have q:Kept R w w1:=by rw[j];exact (Kept.refl R w).drewN n
 have x:=i.c0;have u:=i.c1;have t:=i.rows nx f;have z:=i.len;clear j
 go_wp2_with fail
 go_region_held3 (fun w'=>w'.cell? ⟨R,0,U3⟩=U4 (.slice (U4 ⟨A,0,U3⟩) ws.length ws.length)/\w'.cell? ⟨R,1,U3⟩=U4 (.int .i64 nx)/\w'.cell? ⟨A,nx,U3⟩=U4 (.string ws[nx]))
  (first
   |go_keep
   |(
    go_split_ands
    refine⟨?_,?_,?_⟩
    ·exact cell_later a UL
    ·exact cell_later a UL
    ·exact cell_later a UL))
  ((go_at_call 131;refine (I8 _ _ (aK m)).mono ?_;rintro e w4 ⟨rfl,a⟩))
 have c:U9 w1.heap.size w1 w4:=⟨a.os,a.tape,a.output,a.size,a.block⟩;have g:=i.aD c;have p:=q.trans (Kept.aD c);have G:=g.c1;have F:=g.c2;have E:=g.f1;have D:=g.f2;clear x u t;go_wp2;go_ret;exact⟨rfl,g.bad,p.setCell _ _⟩
theorem sA(h:cB ws.length nx wr=U5):eB ws nx wr B=U5:=by simp[eB,h]
theorem mG{b:UX}(h:cB ws.length nx wr=U6)(a:nx<ws.length)(c:B ws[nx]=b):eB ws nx wr B=b:=by
 rw[eB,h,pG ws nx a,c,YH]
theorem Te(R A:UY)(ws:UV UU)(nx:UY)(wr:UX)(w:U7)(h:RS w R A ws nx wr):
  Va prog 135 #[.pointer (U4 ⟨R,0,U3⟩),.func (.func 139) #[] #[]] w fun e w'=>e=.returned (.int .i64 (fh ws nx wr (fun s=>aB.isNum s.data.toList) (fun s=>aB.cF s.data.toList)))/\RS w' R A ws (eo ws nx wr (fun s=>aB.isNum s.data.toList)) (ei ws nx wr (fun s=>aB.isNum s.data.toList))/\Kept R w w':=by
 cases c:cB ws.length nx wr
 ·have t:=sA (B:=(fun s=>aB.isNum s.data.toList)) c;rw[fh,eo,ei,t];exact vT _ R A ws nx wr w h c
 ·have a:=pM c
  cases d:(fun s=>aB.isNum s.data.toList) ws[nx]
  ·have t:=mG (B:=(fun s=>aB.isNum s.data.toList)) c a d;rw[fh,eo,ei,t];exact Sp R A ws nx wr w h c a (small (h.short _ (zg a))) d
  ·have t:=mG (B:=(fun s=>aB.isNum s.data.toList)) c a d;rw[fh,eo,ei,t,pG ws nx a];exact Sq R A ws nx wr w h c a (small (h.short _ (zg a))) d
theorem Jh(R A:UY)(ws:UV UU)(nx:UY)(wr:UX)(w:U7)(h:RS w R A ws nx wr)(f:Env w):
  Va prog 135 #[.pointer (U4 ⟨R,0,U3⟩),.func (.func 136) #[] #[]] w fun e w'=>e=.returned (.int .i64 (fh ws nx wr aB.cM fT))/\RS w' R A ws (eo ws nx wr aB.cM) (ei ws nx wr aB.cM)/\Kept R w w':=by
 cases c:cB ws.length nx wr
 ·have t:=sA (B:=aB.cM) c;rw[fh,eo,ei,t];exact vT _ R A ws nx wr w h c
 ·have a:=pM c
  cases d:aB.cM ws[nx]
  ·have t:=mG (B:=aB.cM) c a d;rw[fh,eo,ei,t];exact Ta R A ws nx wr w h f c a d
  ·have t:=mG (B:=aB.cM) c a d;rw[fh,eo,ei,t,pG ws nx a];exact Tb R A ws nx wr w h f c a d
theorem Ui(R A:UY)(ws:UV UU)(nx:UY)(wr:UX)(w:U7)(h:RS w R A ws nx wr):
  Va prog 135 #[.pointer (U4 ⟨R,0,U3⟩),.func (.func 137) #[] #[]] w fun e w'=>e=.returned (.int .i64 (fh ws nx wr aB.dA aB.fo))/\RS w' R A ws (eo ws nx wr aB.dA) (ei ws nx wr aB.dA)/\Kept R w w':=by
 cases c:cB ws.length nx wr
 ·have t:=sA (B:=aB.dA) c;rw[fh,eo,ei,t];exact vT _ R A ws nx wr w h c
 ·have a:=pM c
  cases d:aB.dA ws[nx]
  ·have t:=mG (B:=aB.dA) c a d;rw[fh,eo,ei,t];exact T4 R A ws nx wr w h c a d
  ·have t:=mG (B:=aB.dA) c a d;rw[fh,eo,ei,t,pG ws nx a];exact T5 R A ws nx wr w h c a d
theorem Ji(R A:UY)(ws:UV UU)(nx:UY)(wr:UX)(w:U7)(h:RS w R A ws nx wr)(f:Env w):
  Va prog 135 #[.pointer (U4 ⟨R,0,U3⟩),.func (.func 140) #[] #[]] w fun e w'=>e=.returned (.int .i64 (fh ws nx wr bA dL))/\RS w' R A ws (eo ws nx wr bA) (ei ws nx wr bA)/\Kept R w w':=by
 cases c:cB ws.length nx wr
 ·have t:=sA (B:=bA) c;rw[fh,eo,ei,t];exact vT _ R A ws nx wr w h c
 ·have a:=pM c
  cases d:bA ws[nx]
  ·have t:=mG (B:=bA) c a d;rw[fh,eo,ei,t];exact Ti R A ws nx wr w h f c a d
  ·have t:=mG (B:=bA) c a d;rw[fh,eo,ei,t,pG ws nx a];exact Tj R A ws nx wr w h f c a d
theorem Uj(L M:UY)(lo hi:UZ)(R A:UY)(ws:UV UU)(nx:UY)(wr:UX)(w:U7)(h:RS w R A ws nx wr)(g:w.cell? ⟨L,0,U3⟩=U4 (.int .i64 lo))(f:w.cell? ⟨M,0,U3⟩=U4 (.int .i64 hi)):
  Va prog 135 #[.pointer (U4 ⟨R,0,U3⟩),.func (.func 191) #[] #[.pointer (U4 ⟨L,0,U3⟩),.pointer (U4 ⟨M,0,U3⟩)]] w fun e w'=>e=.returned (.int .i64 (fh ws nx wr (fun s=>eM s lo hi) (fun s=>aB.cF s.data.toList)))/\RS w' R A ws (eo ws nx wr (fun s=>eM s lo hi)) (ei ws nx wr (fun s=>eM s lo hi))/\Kept R w w':=by
 cases c:cB ws.length nx wr
 ·have t:=sA (B:=(fun s=>eM s lo hi)) c;rw[fh,eo,ei,t];exact vT _ R A ws nx wr w h c
 ·have a:=pM c
  cases d:(fun s=>eM s lo hi) ws[nx]
  ·have t:=mG (B:=(fun s=>eM s lo hi)) c a d;rw[fh,eo,ei,t];exact T7 L M lo hi R A ws nx wr w h g f c a d
  ·have t:=mG (B:=(fun s=>eM s lo hi)) c a d;rw[fh,eo,ei,t,pG ws nx a];exact T8 L M lo hi R A ws nx wr w h g f c a d
def mg(ws:UV UU)(nx:UY)(wr:UX):UU:=if eB ws nx wr (fun s=>aB.fc s.data.toList) then qF (ws.getD nx Yy) else ⟨#[]⟩
theorem TY(R A:UY)(ws:UV UU)(nx:UY)(wr:UX)(w:U7)(h:RS w R A ws nx wr):
  Va prog 130 #[.pointer (U4 ⟨R,0,U3⟩),.func (.func 131) #[] #[]] w fun e w'=>e=.returned (.string (mg ws nx wr))/\RS w' R A ws (eo ws nx wr (fun s=>aB.fc s.data.toList)) (ei ws nx wr (fun s=>aB.fc s.data.toList))/\Kept R w w':=by
 cases c:cB ws.length nx wr
 ·have t:=sA (B:=fun s=>aB.fc s.data.toList) c;rw[mg,eo,ei,t];exact Th _ R A ws nx wr w h c
 ·have a:=pM c
  cases d:aB.fc ws[nx].data.toList
  ·have t:=mG (B:=fun s=>aB.fc s.data.toList) c a d;rw[mg,eo,ei,t];exact Tc R A ws nx wr w h c a d
  ·have t:=mG (B:=fun s=>aB.fc s.data.toList) c a d;rw[mg,eo,ei,t,pG ws nx a];exact Td R A ws nx wr w h c a d
theorem yk(lo hi:UZ)(R A:UY)(ws:UV UU)(nx:UY)(wr:UX)(w:U7)(h:RS w R A ws nx wr):
  Va prog 132 #[.pointer (U4 ⟨R,0,U3⟩),.int .i64 lo,.int .i64 hi] w fun e w'=>e=.returned (.int .i64 (fh ws nx wr (fun s=>eM s lo hi) (fun s=>aB.cF s.data.toList)))/\RS w' R A ws (eo ws nx wr (fun s=>eM s lo hi)) (ei ws nx wr (fun s=>eM s lo hi))/\Kept R w w':=by
 go_in
 go_wp2_with fail
 obtain⟨X,a⟩:∃ X,X=(w.alloc (.cells #[.int .i64 lo] 3)).alloc (.cells #[.int .i64 hi] 3):=⟨_,rfl⟩;rw[<- a];have c:U9 w.heap.size w X:=by rw[a];exact ((zr _ _).alloc (zq _) _).alloc UJ _
 have j:X.cell? ⟨w.heap.size,0,U3⟩=U4 (.int .i64 lo):=by rw[a];simp
 have i:X.cell? ⟨w.heap.size+1,0,U3⟩=U4 (.int .i64 hi):=by rw[a];simp
 clear a;refine (Uj w.heap.size (w.heap.size+1) lo hi R A ws nx wr X (h.aD c) j i).mono ?_;rintro e m ⟨rfl,g,f⟩;have d:=(Kept.aD (R:=R) c).trans f;go_wp2;go_ret;exact⟨rfl,g,d⟩
theorem sN(R A:UY)(ws:UV UU)(nx:UY)(wr:UX)(w:U7)(h:RS w R A ws nx wr):
  Va prog 83 #[.pointer (U4 ⟨R,0,U3⟩)] w fun e w'=>e=.returned (.string (mg ws nx wr))/\RS w' R A ws (eo ws nx wr (fun s=>aB.fc s.data.toList)) (ei ws nx wr (fun s=>aB.fc s.data.toList))/\Kept R w w':=by
 go_in
 go_wp2_with fail
 refine (TY R A ws nx wr w h).mono ?_;rintro e d ⟨rfl,c,a⟩;go_wp2;go_ret;exact⟨rfl,c,a⟩
theorem F8(R A:UY)(ws:UV UU)(nx:UY)(wr:UX)(w:U7)(h:RS w R A ws nx wr):
  Va prog 88 #[.pointer (U4 ⟨R,0,U3⟩)] w fun e w'=>e=.returned (.int .i64 (fh ws nx wr (fun s=>aB.isNum s.data.toList) (fun s=>aB.cF s.data.toList)))/\RS w' R A ws (eo ws nx wr (fun s=>aB.isNum s.data.toList)) (ei ws nx wr (fun s=>aB.isNum s.data.toList))/\Kept R w w':=by
 go_in
 go_wp2_with fail
 refine (Te R A ws nx wr w h).mono ?_;rintro e d ⟨rfl,c,a⟩;go_wp2;go_ret;exact⟨rfl,c,a⟩
theorem xY(R A:UY)(ws:UV UU)(nx:UY)(wr:UX)(w:U7)(h:RS w R A ws nx wr):
  Va prog 84 #[.pointer (U4 ⟨R,0,U3⟩)] w fun e w'=>e=.returned (.int .i64 (fh ws nx wr (fun s=>eM s 1 9) (fun s=>aB.cF s.data.toList)))/\RS w' R A ws (eo ws nx wr (fun s=>eM s 1 9)) (ei ws nx wr (fun s=>eM s 1 9))/\Kept R w w':=by
 go_in
 go_wp2_with fail
 refine (yk 1 9 R A ws nx wr w h).mono ?_;rintro e d ⟨rfl,c,a⟩;go_wp2;go_ret;exact⟨rfl,c,a⟩
theorem vZ(R A:UY)(ws:UV UU)(nx:UY)(wr:UX)(w:U7)(h:RS w R A ws nx wr):
  Va prog 86 #[.pointer (U4 ⟨R,0,U3⟩)] w fun e w'=>e=.returned (.int .i64 (fh ws nx wr (fun s=>eM s 1 1048320) (fun s=>aB.cF s.data.toList)))/\RS w' R A ws (eo ws nx wr (fun s=>eM s 1 1048320)) (ei ws nx wr (fun s=>eM s 1 1048320))/\Kept R w w':=by
 go_in
 go_wp2_with fail
 refine (yk 1 1048320 R A ws nx wr w h).mono ?_;rintro e d ⟨rfl,c,a⟩;go_wp2;go_ret;exact⟨rfl,c,a⟩
theorem B9(R A:UY)(ws:UV UU)(nx:UY)(wr:UX)(w:U7)(h:RS w R A ws nx wr):
  Va prog 192 #[.pointer (U4 ⟨R,0,U3⟩)] w fun e w'=>e=.returned (.int .i64 (fh ws nx wr (fun s=>eM s 1 99) (fun s=>aB.cF s.data.toList)))/\RS w' R A ws (eo ws nx wr (fun s=>eM s 1 99)) (ei ws nx wr (fun s=>eM s 1 99))/\Kept R w w':=by
 go_in
 go_wp2_with fail
 refine (yk 1 99 R A ws nx wr w h).mono ?_;rintro e d ⟨rfl,c,a⟩;go_wp2;go_ret;exact⟨rfl,c,a⟩
theorem RS.other{v:U8}(h:RS w R A ws nx wr)(a:b≠R)(c:0<ws.length->b≠A):RS (w.setCell ⟨b,o,U3⟩ v) R A ws nx wr:=by
 have g:∀ j:UY,(w.setCell ⟨b,o,U3⟩ v).cell? ⟨R,j,U3⟩=w.cell? ⟨R,j,U3⟩:=fun j=>YP w ⟨b,o,U3⟩ ⟨R,j,U3⟩ v a
 refine⟨(g 0).trans h.c0,(g 1).trans h.c1,(g 2).trans h.c2,(zF ..).trans h.f1,(zF ..).trans h.f2,h.ne,fun i hi=>?_,h.len,h.uX,h.short⟩;exact (YP w ⟨b,o,U3⟩ ⟨A,i,U3⟩ v (c UI)).trans (h.rows i hi)
theorem RS.lt(h:RS w R A ws nx wr):R<w.heap.size/\(0<ws.length->A<w.heap.size) :=
 ⟨Vh _ ⟨R,0,U3⟩ h.c0,fun a=>Vh _ ⟨A,0,U3⟩ (h.rows 0 a)⟩
theorem Kept.aO(h:Kept R w w')(d:w.heap.size<=b)(v:U8):Kept R w (w'.setCell ⟨b,o,U3⟩ v) :=
 ⟨(Below.setCell (B:=0) (Below.refl 0 w') (p:=⟨b,o,U3⟩) (zN _) v).os.trans h.os,(Below.setCell (B:=0) (Below.refl 0 w') (p:=⟨b,o,U3⟩) (zN _) v).tape.trans h.tape,(Below.setCell (B:=0) (Below.refl 0 w') (p:=⟨b,o,U3⟩) (zN _) v).output.trans h.output,Vg h.size (Below.setCell (B:=0) (Below.refl 0 w') (p:=⟨b,o,U3⟩) (zN _) v).size,fun k c a=>(Below.heap_setCell w' ⟨b,o,U3⟩ v k (show k≠b by omega)).trans (h.block k c a)⟩
theorem Kept.frozen(h:Kept R w w')(a:b≠R)(c:b<w.heap.size):w'.frozen? ⟨b,o,U3⟩=w.frozen? ⟨b,o,U3⟩:=World.frozen?_of_block (w:=w) (h.block b c a)
def JC(ws:UV UU)(nx:UY)(wr:UX)(B C:UU->UX):UY:=eo ws (eo ws nx wr B) (ei ws nx wr B) C
def JB(ws:UV UU)(nx:UY)(wr:UX)(B C:UU->UX):UX:=ei ws (eo ws nx wr B) (ei ws nx wr B) C
theorem xX(R A:UY)(ws:UV UU)(nx:UY)(wr:UX)(w:U7)(h:RS w R A ws nx wr)(t:Env w)(J:10<=R):
  Va prog 90 #[.pointer (U4 ⟨R,0,U3⟩)] w fun e w'=>e=.returned (.agg #[.int .i64 (fh ws nx wr bA dL),.int .i64 (fh ws (eo ws nx wr bA) (ei ws nx wr bA) bA dL)])/\RS w' R A ws (JC ws nx wr bA bA) (JB ws nx wr bA bA)/\Kept R w w':=by
 have K:=hide t;clear t
 go_in
 go_wp2_with fail
 obtain⟨I,d⟩:=h.lt;obtain⟨X,c⟩:∃ X,X=w.alloc (.cells #[.int .i64 0,.int .i64 0] 60):=⟨_,rfl⟩;rw[<- c];have g:U9 w.heap.size w X:=by rw[c];exact (zr _ _).alloc (zq _) _
 have q:X.cell? ⟨w.heap.size,0,U3⟩=U4 (.int .i64 0):=by rw[c];simp
 have p:X.cell? ⟨w.heap.size,1,U3⟩=U4 (.int .i64 0):=by rw[c];simp
 have m:∀ j:UY,X.frozen? ⟨w.heap.size,j,U3⟩=U5:=fun j=>by rw[c];simp
 have D:w.heap.size<X.heap.size:=by rw[c];simp
 clear c;have i:=(aK K).later g;refine (Ji R A ws nx wr X (h.aD g) i).mono ?_;rintro e F ⟨rfl,x,r⟩;have y:=i.kept r J
 go_wp2_with fail
 refine (Ji R A ws _ _ F x y).mono ?_;rintro e E ⟨rfl,u,H⟩;have a:=r.trans H;have C:=a.cell (b:=w.heap.size) (o:=0) UI q;have z:=a.cell (b:=w.heap.size) (o:=1) UI p;have M:∀ j:UY,E.frozen? ⟨w.heap.size,j,U3⟩=U5:=fun j=>(a.frozen UI D).trans (m j)
 have G:=(Kept.aD (R:=R) g).trans a;have L:=hide u;clear x u y i q p m;go_wp2;refine bodyPost_ret (v:=.agg #[.int .i64 (fh ws nx wr bA dL),.int .i64 (fh ws (eo ws nx wr bA) (ei ws nx wr bA) bA dL)]) (by simp[results,results90,go_sem,C,z]) rfl ⟨rfl,?_,?_⟩
 ·exact ((aK L).other UI (fun f=>by have:=d f;omega)).other UI (fun f=>by have:=d f;omega)
 ·exact (G.aO (zq _) _).aO (zq _) _
def bI(s:UU):UX:=aB.fc s.data.toList
def dE(s:UU):UX:=eM s 1 9
def cL(s:UU):UZ:=aB.cF s.data.toList
def dI(ws:UV UU)(B:UU->UX)(st:UY × UX):UY × UX:=(eo ws st.1 st.2 B,ei ws st.1 st.2 B)
def aQ(ws:UV UU)(a:UV (UU->UX))(st:UY × UX):UY × UX:=a.foldl (fun st B=>dI ws B st) st
def gV(ws:UV UU)(st:UY × UX):UU:=mg ws st.1 st.2
def bT(ws:UV UU)(st:UY × UX)(B:UU->UX)(V:UU->UZ):UZ:=fh ws st.1 st.2 B V
theorem B8(R A:UY)(ws:UV UU)(st:UY × UX)(w:U7)(h:RS w R A ws st.1 st.2)(y:Env w)(i:10<=R):
  Va prog 85 #[.pointer (U4 ⟨R,0,U3⟩)] w fun e w' =>
   e=.returned (.agg #[.string (gV ws st),.int .i64 (bT ws (aQ ws [bI] st) dE cL),.int .i64 (bT ws (aQ ws [bI,dE] st) bA dL),.int .i64 (bT ws (aQ ws [bI,dE,bA] st) bA dL)]) /\
   RS w' R A ws (aQ ws [bI,dE,bA,bA] st).1 (aQ ws [bI,dE,bA,bA] st).2/\Kept R w w':=by
 have T:=hide y;clear y
 go_in
 go_wp2_with fail
 obtain⟨S,d⟩:=h.lt;obtain⟨X,c⟩:∃ X,X=w.alloc (.cells #[.string ⟨#[]⟩,.int .i64 0,.int .i64 0,.int .i64 0] 151):=⟨_,rfl⟩;rw[<- c];have g:U9 w.heap.size w X:=by rw[c];exact (zr _ _).alloc (zq _) _
 have t:X.cell? ⟨w.heap.size,0,U3⟩=U4 (.string ⟨#[]⟩):=by rw[c];simp
 have r:X.cell? ⟨w.heap.size,1,U3⟩=U4 (.int .i64 0):=by rw[c];simp
 have q:X.cell? ⟨w.heap.size,2,U3⟩=U4 (.int .i64 0):=by rw[c];simp
 have p:X.cell? ⟨w.heap.size,3,U3⟩=U4 (.int .i64 0):=by rw[c];simp
 have m:∀ j:UY,X.frozen? ⟨w.heap.size,j,U3⟩=U5:=fun j=>by rw[c];simp
 have L:w.heap.size<X.heap.size:=by rw[c];simp
 clear c;have E:=(aK T).later g;refine (sN R A ws st.1 st.2 X (h.aD g)).mono ?_;rintro e N ⟨rfl,D,x⟩;have G:=E.kept x i
 go_wp2_with fail
 refine (xY R A ws _ _ N D).mono ?_;rintro e M ⟨rfl,C,u⟩;have F:=G.kept u i
 go_wp2_with fail
 refine (xX R A ws _ _ M C F i).mono ?_;rintro e w3 ⟨rfl,z,Q⟩;have a:=(x.trans u).trans Q;have K:=a.cell (b:=w.heap.size) (o:=0) UI t;have J:=a.cell (b:=w.heap.size) (o:=1) UI r;have I:=a.cell (b:=w.heap.size) (o:=2) UI q;have H:=a.cell (b:=w.heap.size) (o:=3) UI p;have V:∀ j:UY,w3.frozen? ⟨w.heap.size,j,U3⟩=U5:=fun j=>(a.frozen UI L).trans (m j)
 have O:=(Kept.aD (R:=R) g).trans a;have U:=hide z;clear D C z G F E t r q p m;go_wp2;refine bodyPost_ret (v:=.agg #[.string (gV ws st),.int .i64 (bT ws (aQ ws [bI] st) dE cL),.int .i64 (bT ws (aQ ws [bI,dE] st) bA dL),.int .i64 (bT ws (aQ ws [bI,dE,bA] st) bA dL)]) (by simp[results,results85,go_sem,K,J,I,H];exact⟨rfl,rfl,rfl,rfl⟩) rfl ⟨rfl,?_,?_⟩
 ·exact ((((aK U).other UI (fun f=>by have:=d f;omega)).other UI (fun f=>by have:=d f;omega)).other UI (fun f=>by have:=d f;omega)).other UI (fun f=>by have:=d f;omega)
 ·exact (((O.aO (zq _) _).aO (zq _) _).aO (zq _) _).aO (zq _) _
theorem Rm(R A:UY)(ws:UV UU)(st:UY × UX)(w:U7)(h:RS w R A ws st.1 st.2)(z:cB ws.length (aQ ws [bI] st).1 (aQ ws [bI] st).2=U5):
  Va prog 89 #[.pointer (U4 ⟨R,0,U3⟩)] w fun e w' =>
   e=.returned (.agg #[.string (gV ws st),.bool U5,.int .i64 0,.int .i64 0])/\RS w' R A ws (aQ ws [bI] st).1 (aQ ws [bI] st).2/\Kept R w w':=by
 go_in
 go_wp2_with fail
 obtain⟨K,c⟩:=h.lt;obtain⟨X,a⟩:∃ X,X=w.alloc (.cells #[.string ⟨#[]⟩,.bool U5,.int .i64 0,.int .i64 0] 170):=⟨_,rfl⟩;rw[<- a];have C:U9 w.heap.size w X:=by rw[a];exact (zr _ _).alloc (zq _) _
 have x:X.cell? ⟨w.heap.size,0,U3⟩=U4 (.string ⟨#[]⟩):=by rw[a];simp
 have u:X.cell? ⟨w.heap.size,1,U3⟩=U4 (.bool U5):=by rw[a];simp
 have t:X.cell? ⟨w.heap.size,2,U3⟩=U4 (.int .i64 0):=by rw[a];simp
 have r:X.cell? ⟨w.heap.size,3,U3⟩=U4 (.int .i64 0):=by rw[a];simp
 have q:∀ j:UY,X.frozen? ⟨w.heap.size,j,U3⟩=U5:=fun j=>by rw[a];simp
 have I:w.heap.size<X.heap.size:=by rw[a];simp
 clear a;refine (sN R A ws st.1 st.2 X (h.aD C)).mono ?_;rintro e d ⟨rfl,D,y⟩;have N:=y.size
 go_wp2_with fail
 obtain⟨Y,f⟩:∃ Y,Y=d.alloc (.cells #[.string (mg ws st.1 st.2),.bool U5,.int .i64 0,.int .i64 0] 170):=⟨_,rfl⟩;rw[<- f];have p:U9 d.heap.size d Y:=by rw[f];exact (zr _ _).alloc (zq _) _
 have U:Y.cell? ⟨d.heap.size,0,U3⟩=U4 (.string (mg ws st.1 st.2)):=by rw[f];simp
 have T:Y.cell? ⟨d.heap.size,1,U3⟩=U4 (.bool U5):=by rw[f];simp
 have v2:Y.cell? ⟨d.heap.size,2,U3⟩=U4 (.int .i64 0):=by rw[f];simp
 have S:Y.cell? ⟨d.heap.size,3,U3⟩=U4 (.int .i64 0):=by rw[f];simp
 have ys:d.heap.size<Y.heap.size:=by rw[f];simp
 clear f;have m:=y.trans (Kept.aD (R:=R) p);have H:=m.cell (b:=w.heap.size) (o:=0) UI x;have G:=m.cell (b:=w.heap.size) (o:=1) UI u;have F:=m.cell (b:=w.heap.size) (o:=2) UI t;have E:=m.cell (b:=w.heap.size) (o:=3) UI r;have O:∀ j:UY,Y.frozen? ⟨w.heap.size,j,U3⟩=U5:=fun j=>(m.frozen UI I).trans (q j)
 have i:=D.aD p;refine (im R A ws _ _ Y i).mono ?_;rintro e Q ⟨rfl,n,rfl⟩;have L:Hid (cB ws.length (eo ws st.1 st.2 fun s=>aB.fc s.data.toList) (ei ws st.1 st.2 fun s=>aB.fc s.data.toList)=U5):=z;rw[L.y];have J:=(Kept.aD (R:=R) C).trans m;have M:=hide i;clear D i x u t r q z;go_wp2;refine bodyPost_ret (v:=.agg #[.string (gV ws st),.bool U5,.int .i64 0,.int .i64 0]) (by simp[results,results89,go_sem,H,G,F,E];rfl) rfl ⟨rfl,?_,?_⟩
 ·exact (((((aK M).drewN _).other UI (fun g=>by have:=c g;omega)).other UI (fun g=>by have:=c g;omega)).other UI (fun g=>by have:=c g;omega)).other UI (fun g=>by have:=c g;omega)
 ·exact ((((J.drewN _).aO (zq _) _).aO (zq _) _).aO (zq _) _).aO (zq _) _
theorem Sl(R A:UY)(ws:UV UU)(st:UY × UX)(w:U7)(h:RS w R A ws st.1 st.2)(U:Env w)(I:10<=R)(H:cB ws.length (aQ ws [bI] st).1 (aQ ws [bI] st).2=U6):
  Va prog 89 #[.pointer (U4 ⟨R,0,U3⟩)] w fun e w' =>
   e=.returned (.agg #[.string (gV ws st),.bool U6,.int .i64 (bT ws (aQ ws [bI] st) bA dL),.int .i64 (bT ws (aQ ws [bI,bA] st) bA dL)])/\RS w' R A ws (aQ ws [bI,bA,bA] st).1 (aQ ws [bI,bA,bA] st).2/\Kept R w w':=by
 have HE:=hide U;clear U
 go_in
 go_wp2_with fail
 obtain⟨ac,d⟩:=h.lt;obtain⟨X,p⟩:∃ X,X=w.alloc (.cells #[.string ⟨#[]⟩,.bool U5,.int .i64 0,.int .i64 0] 170):=⟨_,rfl⟩;rw[<- p];have E:U9 w.heap.size w X:=by rw[p];exact (zr _ _).alloc (zq _) _
 have O:X.cell? ⟨w.heap.size,0,U3⟩=U4 (.string ⟨#[]⟩):=by rw[p];simp
 have N:X.cell? ⟨w.heap.size,1,U3⟩=U4 (.bool U5):=by rw[p];simp
 have M:X.cell? ⟨w.heap.size,2,U3⟩=U4 (.int .i64 0):=by rw[p];simp
 have L:X.cell? ⟨w.heap.size,3,U3⟩=U4 (.int .i64 0):=by rw[p];simp
 have K:∀ j:UY,X.frozen? ⟨w.heap.size,j,U3⟩=U5:=fun j=>by rw[p];simp
 have xs:w.heap.size<X.heap.size:=by rw[p];simp
 clear p;have eX:=(aK HE).later E;refine (sN R A ws st.1 st.2 X (h.aD E)).mono ?_;rintro e a ⟨rfl,W,G⟩;have z1:=G.size;have e1:=eX.kept G I
 go_wp2_with fail
 obtain⟨Y,m⟩:∃ Y,Y=a.alloc (.cells #[.string (mg ws st.1 st.2),.bool U5,.int .i64 0,.int .i64 0] 170):=⟨_,rfl⟩;rw[<- m];have g:U9 a.heap.size a Y:=by rw[m];exact (zr _ _).alloc (zq _) _
 have D:Y.cell? ⟨a.heap.size,0,U3⟩=U4 (.string (mg ws st.1 st.2)):=by rw[m];simp
 have C:Y.cell? ⟨a.heap.size,1,U3⟩=U4 (.bool U5):=by rw[m];simp
 have v2:Y.cell? ⟨a.heap.size,2,U3⟩=U4 (.int .i64 0):=by rw[m];simp
 have z:Y.cell? ⟨a.heap.size,3,U3⟩=U4 (.int .i64 0):=by rw[m];simp
 have y:∀ j:UY,Y.frozen? ⟨a.heap.size,j,U3⟩=U5:=fun j=>by rw[m];simp
 have ys:a.heap.size<Y.heap.size:=by rw[m];simp
 clear m;have T:=G.trans (Kept.aD (R:=R) g);have eY:=e1.later g;have r:=W.aD g;refine (im R A ws _ _ Y r).mono ?_;rintro e w2 ⟨rfl,n,c⟩;have HM:Hid (cB ws.length (eo ws st.1 st.2 fun s=>aB.fc s.data.toList) (ei ws st.1 st.2 fun s=>aB.fc s.data.toList)=U6):=H;rw[HM.y];have J:=r.drewN n;rw[<- c] at J;have k2:Kept R X w2:=by rw[c];exact T.drewN n
 have e2:Env w2:=by rw[c];exact eY.drewN n
 have D:w2.cell? ⟨a.heap.size,0,U3⟩=U4 (.string (mg ws st.1 st.2)):=by rw[c];exact D
 have C:w2.cell? ⟨a.heap.size,1,U3⟩=U4 (.bool U5):=by rw[c];exact C
 have v2:w2.cell? ⟨a.heap.size,2,U3⟩=U4 (.int .i64 0):=by rw[c];exact v2
 have z:w2.cell? ⟨a.heap.size,3,U3⟩=U4 (.int .i64 0):=by rw[c];exact z
 have y:∀ j:UY,w2.frozen? ⟨a.heap.size,j,U3⟩=U5:=fun j=>by rw[c];exact y j
 have F:a.heap.size<w2.heap.size:=by rw[c];exact ys
 have ad:=hide H;clear c r eY T g ys W H;have H2:=hide J;have ae:=hide e2;clear J e2 eX e1
 go_wp2_with fail
 have t:a.heap.size≠R:=UI
 have q:=(aK H2).other (b:=a.heap.size) (o:=1) (v:=.bool U6) t (fun f=>by have:=d f;omega);obtain⟨Z,i⟩:∃ Z,Z=w2.setCell ⟨a.heap.size,1,U3⟩ (.bool U6):=⟨_,rfl⟩;rw[<- i] at q ⊢;have u0:Z.cell? ⟨a.heap.size,0,U3⟩=U4 (.string (mg ws st.1 st.2)):=by rw[i];exact (zS _ _ _ _ UJ).trans D
 have u1:Z.cell? ⟨a.heap.size,1,U3⟩=U4 (.bool U6):=by rw[i];exact zm _ _ _ C
 have u2:Z.cell? ⟨a.heap.size,2,U3⟩=U4 (.int .i64 0):=by rw[i];exact (zS _ _ _ _ UJ).trans v2
 have u3:Z.cell? ⟨a.heap.size,3,U3⟩=U4 (.int .i64 0):=by rw[i];exact (zS _ _ _ _ UJ).trans z
 have Q:∀ j:UY,Z.frozen? ⟨a.heap.size,j,U3⟩=U5:=fun j=>by rw[i];exact (zF ..).trans (y j)
 have S:Kept R X Z:=by rw[i];exact k2.aO UI _
 have zs:a.heap.size<Z.heap.size:=by rw[i];simpa using F
 have eZ:Env Z:=(aK HE).kept (((Kept.aD (R:=R) E)).trans S) I;clear i D C v2 z y;refine (xX R A ws _ _ Z q eZ I).mono ?_;rintro e w3 ⟨rfl,V,x⟩;have u:=S.trans x;have y0:=u.cell (b:=w.heap.size) (o:=0) UI O;have y1:=u.cell (b:=w.heap.size) (o:=1) UI N;have y2:=u.cell (b:=w.heap.size) (o:=2) UI M;have y3:=u.cell (b:=w.heap.size) (o:=3) UI L;have yf:∀ j:UY,w3.frozen? ⟨w.heap.size,j,U3⟩=U5:=fun j=>(u.frozen UI xs).trans (K j)
 have q0:=x.cell (b:=a.heap.size) (o:=0) t u0;have q1:=x.cell (b:=a.heap.size) (o:=1) t u1;have q2:=x.cell (b:=a.heap.size) (o:=2) t u2;have q3:=x.cell (b:=a.heap.size) (o:=3) t u3;have qf:∀ j:UY,w3.frozen? ⟨a.heap.size,j,U3⟩=U5:=fun j=>(x.frozen t zs).trans (Q j)
 have kt:=(Kept.aD (R:=R) E).trans u;have H3:=hide V;have ab:w.heap.size≠a.heap.size:=UI
 have aa:a.heap.size≠w.heap.size:=UI
 clear V q eZ O N M L K u0 u1 u2 u3 Q;go_wp2;refine bodyPost_ret (v:=.agg #[.string (gV ws st),.bool U6,.int .i64 (bT ws (aQ ws [bI] st) bA dL),.int .i64 (bT ws (aQ ws [bI,bA] st) bA dL)]) (by simp[results,results89,go_sem,y0,y1,y2,y3];exact⟨rfl,rfl,rfl⟩) rfl ⟨rfl,?_,?_⟩
 ·exact ((((((aK H3).other UI (fun f=>by have:=d f;omega)).other UI (fun f=>by have:=d f;omega)).other UI (fun f=>by have:=d f;omega)).other UI (fun f=>by have:=d f;omega)).other UI (fun f=>by have:=d f;omega)).other UI (fun f=>by have:=d f;omega)
 ·exact (((((kt.aO UI _).aO UI _).aO (zq _) _).aO (zq _) _).aO (zq _) _).aO (zq _) _
theorem Ss(f:U8)(R A:UY)(ws:UV UU)(nx:UY)(wr:UX)(w:U7)(h:RS w R A ws nx wr)(T:cB ws.length nx wr=U5):
  Va prog 193 #[.pointer (U4 ⟨R,0,U3⟩),f] w fun e w'=>e=.returned (fa [])/\RS w' R A ws nx U6/\Kept R w w':=by
 go_in
 go_wp2_with fail
 obtain⟨X,q⟩:∃ X,X=(w.alloc (.cells #[.bool U5,.bool U5,.bool U5,.bool U5,.bool U5,.bool U5,.bool U5] 160)).alloc (.cells #[.bool U5,.bool U5,.bool U5,.bool U5,.bool U5,.bool U5,.bool U5] 160):=⟨_,rfl⟩;rw[<- q];obtain⟨G,d⟩:=h.lt;have r:U9 w.heap.size w X:=by rw[q];exact ((zr _ _).alloc (zq _) _).alloc UJ _
 have U:w.heap.size+2=X.heap.size:=by rw[q];simp
 have i:DS X w.heap.size []:=by
  rw[q];refine⟨?_,?_,?_,?_,?_,?_,?_,fun j=>?_⟩ <;> simp[aI]
 have m:DS X (w.heap.size+1) []:=by
  rw[q];refine⟨?_,?_,?_,?_,?_,?_,?_,fun j=>?_⟩ <;> simp[aI]
 clear q;refine (im R A ws nx wr X (h.aD r)).mono ?_;rintro e w1 ⟨rfl,n,p⟩;have t:RS w1 R A ws nx wr:=by rw[p];exact (h.aD r).drewN n
 have F:Kept R w w1:=by rw[p];exact (Kept.aD r).drewN n
 have a:DS w1 w.heap.size []:=by rw[p];exact⟨i.c0,i.c1,i.c2,i.c3,i.c4,i.c5,i.c6,i.f⟩
 have c:DS w1 (w.heap.size+1) []:=by rw[p];exact⟨m.c0,m.c1,m.c2,m.c3,m.c4,m.c5,m.c6,m.f⟩
 have H:X.heap.size=w1.heap.size:=by rw[p];rfl
 have Z:=t.c2;have Y:=t.f2;clear p i m;have O:=c.c0;have N:=c.c1;have M:=c.c2;have L:=c.c3;have K:=c.c4;have J:=c.c5;have I:=c.c6;have E:=a.c0;have D:=a.c1;have C:=a.c2;have z:=a.c3;have y:=a.c4;have x:=a.c5;have u:=a.c6;have V:=a.f;have W:=c.f;have S:R≠w.heap.size:=UI
 have Q:R≠w.heap.size+1:=UI
 go_wp2;refine bodyPost_ret (v:=fa []) (by simp[results,results193,go_sem,fa,aI,E,D,C,z,y,x,u]) rfl ⟨rfl,?_,?_⟩
 ·exact (((((((t.bad.other UI (fun g=>by have:=d g;omega)).other UI (fun g=>by have:=d g;omega)).other UI (fun g=>by have:=d g;omega)).other UI (fun g=>by have:=d g;omega)).other UI (fun g=>by have:=d g;omega)).other UI (fun g=>by have:=d g;omega)).other UI (fun g=>by have:=d g;omega))
 ·exact (((((((F.setCell _ _).aO (zq _) _).aO (zq _) _).aO (zq _) _).aO (zq _) _).aO (zq _) _).aO (zq _) _).aO (zq _) _
theorem Pd{acc0:UV UZ}(acc:UV UZ)(h:DS w b acc0):DS (((((((w.setCell ⟨b,0,U3⟩ (.bool (aI acc 0))).setCell ⟨b,1,U3⟩ (.bool (aI acc 1))).setCell ⟨b,2,U3⟩ (.bool (aI acc 2))).setCell ⟨b,3,U3⟩ (.bool (aI acc 3))).setCell ⟨b,4,U3⟩ (.bool (aI acc 4))).setCell ⟨b,5,U3⟩ (.bool (aI acc 5))).setCell ⟨b,6,U3⟩ (.bool (aI acc 6))) b acc:=by
 have s:∀ (x:U7) (o:UY) (v u:U8),x.cell? ⟨b,o,U3⟩=U4 u->(x.setCell ⟨b,o,U3⟩ v).cell? ⟨b,o,U3⟩=U4 v:=fun x o v u a=>zm x ⟨b,o,U3⟩ v a
 have o:∀ (x:U7) (i j:UY) (v:U8),i≠j->(x.setCell ⟨b,i,U3⟩ v).cell? ⟨b,j,U3⟩=x.cell? ⟨b,j,U3⟩:=fun x i j v _=>zS _ _ _ _ UJ
 refine⟨?_,?_,?_,?_,?_,?_,?_,fun j=>?_⟩
 ·rw[o _ 6 0 _ UK,o _ 5 0 _ UK,o _ 4 0 _ UK,o _ 3 0 _ UK,o _ 2 0 _ UK,o _ 1 0 _ UK];refine s _ _ _ (.bool (aI acc0 0)) ?_;exact h.c0
 ·rw[o _ 6 1 _ UK,o _ 5 1 _ UK,o _ 4 1 _ UK,o _ 3 1 _ UK,o _ 2 1 _ UK];refine s _ _ _ (.bool (aI acc0 1)) ?_;rw[o _ 0 1 _ UK];exact h.c1
 ·rw[o _ 6 2 _ UK,o _ 5 2 _ UK,o _ 4 2 _ UK,o _ 3 2 _ UK];refine s _ _ _ (.bool (aI acc0 2)) ?_;rw[o _ 1 2 _ UK,o _ 0 2 _ UK];exact h.c2
 ·rw[o _ 6 3 _ UK,o _ 5 3 _ UK,o _ 4 3 _ UK];refine s _ _ _ (.bool (aI acc0 3)) ?_;rw[o _ 2 3 _ UK,o _ 1 3 _ UK,o _ 0 3 _ UK];exact h.c3
 ·rw[o _ 6 4 _ UK,o _ 5 4 _ UK];refine s _ _ _ (.bool (aI acc0 4)) ?_;rw[o _ 3 4 _ UK,o _ 2 4 _ UK,o _ 1 4 _ UK,o _ 0 4 _ UK];exact h.c4
 ·rw[o _ 6 5 _ UK];refine s _ _ _ (.bool (aI acc0 5)) ?_;rw[o _ 4 5 _ UK,o _ 3 5 _ UK,o _ 2 5 _ UK,o _ 1 5 _ UK,o _ 0 5 _ UK];exact h.c5
 ·refine s _ _ _ (.bool (aI acc0 6)) ?_;rw[o _ 5 6 _ UK,o _ 4 6 _ UK,o _ 3 6 _ UK,o _ 2 6 _ UK,o _ 1 6 _ UK,o _ 0 6 _ UK];exact h.c6
 ·simp only[World.frozen?_setCell];exact h.f j
def Jy(b:UX)(s:UU)(e:Ending):Prop:=∃ acc,e=.returned (fa acc)/\(b=U6->aB.iq s=U4 acc)
theorem Nw(w:U7)(b:UY)(p m v2 i f d a:UX)(c o:UY)(h:c≠b):(((((((w.setCell ⟨b,0,U3⟩ (.bool p)).setCell ⟨b,1,U3⟩ (.bool m)).setCell ⟨b,2,U3⟩ (.bool v2)).setCell ⟨b,3,U3⟩ (.bool i)).setCell ⟨b,4,U3⟩ (.bool f)).setCell ⟨b,5,U3⟩ (.bool d)).setCell ⟨b,6,U3⟩ (.bool a)).cell? ⟨c,o,U3⟩=w.cell? ⟨c,o,U3⟩:=by
 have g:∀ (x:U7) (j:UY) (v:U8),(x.setCell ⟨b,j,U3⟩ v).cell? ⟨c,o,U3⟩=x.cell? ⟨c,o,U3⟩:=fun x j v=>YP x ⟨b,j,U3⟩ ⟨c,o,U3⟩ v (Ne.symm h)
 rw[g,g,g,g,g,g,g]
theorem Tf(b:UX)(R A:UY)(ws:UV UU)(nx:UY)(wr:UX)(w:U7)(h:RS w R A ws nx wr)(he:Env w)(hm:cB ws.length nx wr=U6)(D:nx<ws.length)(hb:aB.dU ws[nx]=b):
  Va prog 193 #[.pointer (U4 ⟨R,0,U3⟩),.func (.func 194) #[] #[]] w fun e w'=>Jy b ws[nx] e/\RS w' R A ws (if b then nx+1 else nx) (if b then wr else U6)/\Kept R w w':=by
 have hi:(nx:UZ)<(ws.length:UZ):=UI
 have ad:(0:UZ)<=(nx:UZ):=YN _;have W:ws[nx].size<=160:=h.short _ (zg D);have aa:=hide W;have HE:=hide he;clear W he
 go_in
 go_wp2_with fail
 obtain⟨X,K⟩:∃ X,X=(w.alloc (.cells #[.bool U5,.bool U5,.bool U5,.bool U5,.bool U5,.bool U5,.bool U5] 160)).alloc (.cells #[.bool U5,.bool U5,.bool U5,.bool U5,.bool U5,.bool U5,.bool U5] 160):=⟨_,rfl⟩;rw[<- K];obtain⟨ae,a⟩:=h.lt;have hB:U9 w.heap.size w X:=by rw[K];exact ((zr _ _).alloc (zq _) _).alloc UJ _
 have hZ:w.heap.size+2=X.heap.size:=by rw[K];simp
 have z:DS X w.heap.size []:=by
  rw[K];refine⟨?_,?_,?_,?_,?_,?_,?_,fun j=>?_⟩ <;> simp[aI]
 have C:DS X (w.heap.size+1) []:=by
  rw[K];refine⟨?_,?_,?_,?_,?_,?_,?_,fun j=>?_⟩ <;> simp[aI]
 clear K;refine (im R A ws nx wr X (h.aD hB)).mono ?_;rintro e w1 ⟨rfl,n,I⟩;have y:RS w1 R A ws nx wr:=by rw[I];exact (h.aD hB).drewN n
 have k1:Kept R w w1:=by rw[I];exact (Kept.aD hB).drewN n
 have F:DS w1 w.heap.size []:=by rw[I];exact⟨z.c0,z.c1,z.c2,z.c3,z.c4,z.c5,z.c6,z.f⟩
 have G:DS w1 (w.heap.size+1) []:=by rw[I];exact⟨C.c0,C.c1,C.c2,C.c3,C.c4,C.c5,C.c6,C.f⟩
 have z1:X.heap.size=w1.heap.size:=by rw[I];rfl
 have ab:Hid (Env w1):=by show Env w1;rw[I];exact ((aK HE).later hB).drewN n
 have c0:=y.c0;have c1:=y.c1;have cr:=y.rows nx D;have c:=y.len;clear I
 go_wp2_with fail
 have Y:w1.heap.size≠R:=by have:=y.lt.1;omega
 have ac:w1.heap.size≠A:=by have:=y.lt.2 UI;omega
 go_region_held3 (fun w'=>w'.cell? ⟨R,0,U3⟩=U4 (.slice (U4 ⟨A,0,U3⟩) ws.length ws.length)/\w'.cell? ⟨R,1,U3⟩=U4 (.int .i64 nx)/\w'.cell? ⟨A,nx,U3⟩=U4 (.string ws[nx]))
  (first
   |go_keep
   |(
    go_split_ands
    refine⟨?_,?_,?_⟩
    ·exact cell_later d UL
    ·exact cell_later d UL
    ·exact cell_later d UL)
   |(
    refine⟨?_,?_,?_⟩
    ·exact cell_later ((zr _ _).alloc (zq _) _) (cell_later d c0)
    ·exact cell_later ((zr _ _).alloc (zq _) _) (cell_later d c1)
    ·exact cell_later ((zr _ _).alloc (zq _) _) (cell_later d cr))
   |(
    refine⟨?_,?_,?_⟩
    ·exact (kq _ _ Y.symm).trans (cell_later d (cell_later ((zr _ _).alloc (zq _) _) c0))
    ·exact (kq _ _ Y.symm).trans (cell_later d (cell_later ((zr _ _).alloc (zq _) _) c1))
    ·exact (kq _ _ ac.symm).trans (cell_later d (cell_later ((zr _ _).alloc (zq _) _) cr))))
  ((go_at_call 194;first
   |(
    refine (Ip _ _ ?_ (aK aa)).mono ?_
    ·exact (aK ab).later ⟨rfl,rfl,rfl,Vd _,fun _ _=>rfl⟩
    rintro e w4 ⟨⟨acc,rfl,p⟩,d⟩
    simp only[fa])
   |(
    refine (Ip _ _ ?_ (aK aa)).mono ?_
    ·exact ((aK ab).later ((zr _ _).alloc (zq _) _)).later ⟨rfl,rfl,rfl,Vd _,fun _ _=>rfl⟩
    rintro e w4 ⟨⟨acc,rfl,p⟩,d⟩;have E:DS w4 w1.heap.size []:=DS.later (by refine⟨?_,?_,?_,?_,?_,?_,?_,fun j=>?_⟩ <;> simp[aI]) d;have t0:=E.c0;have t1:=E.c1;have t2:=E.c2;have t3:=E.c3;have t4:=E.c4;have t5:=E.c5;have t6:=E.c6;have tf:=E.f;have kq:=Nw w4 w1.heap.size (aI acc 0) (aI acc 1) (aI acc 2) (aI acc 3) (aI acc 4) (aI acc 5) (aI acc 6);clear E
    simp only[fa])))
 ·obtain⟨Z,r⟩:∃ Z,Z=w4.alloc (.cells #[.bool (aI acc 0),.bool (aI acc 1),.bool (aI acc 2),.bool (aI acc 3),.bool (aI acc 4),.bool (aI acc 5),.bool (aI acc 6)] 160):=⟨_,rfl⟩;rw[<- r];have m:U9 w1.heap.size w1 w4:=⟨d.os,d.tape,d.output,d.size,d.block⟩;have i:U9 w1.heap.size w1 Z:=by rw[r];exact m.trans ((zr _ _).alloc m.size _)
  have t:DS Z w4.heap.size acc:=by
   rw[r];refine⟨?_,?_,?_,?_,?_,?_,?_,fun j=>?_⟩ <;> simp
  have J:w.heap.size+1<w4.heap.size:=by have:=m.size;omega
  have g:=y.aD i;have U:=k1.trans (Kept.aD (R:=R) i);have q:=F.later i;have zD:=G.later i;obtain⟨V,hV⟩:∃ V,V=w4.heap.size:=⟨_,rfl⟩;rw[<- hV] at J t ⊢;clear r m i d hV F G z C;rw[hb] at p;have x:=hide p;clear c0 c1 cr p y k1 h;have x1:=g.c1;have x2:=g.c2;have x3:=g.f1;have x4:=g.f2;have q0:=zD.c0;have q1:=zD.c1;have q2:=zD.c2;have q3:=zD.c3;have q4:=zD.c4;have q5:=zD.c5;have q6:=zD.c6;have T:=q.c0;have S:=q.c1;have Q:=q.c2;have O:=q.c3;have N:=q.c4;have M:=q.c5;have L:=q.c6;have fR:=q.f;have s0:=t.c0;have s1:=t.c1;have s2:=t.c2;have s3:=t.c3;have s4:=t.c4;have s5:=t.c5;have s6:=t.c6;have n1:R≠w.heap.size:=UI
  have n2:R≠w.heap.size+1:=UI
  have n3:R≠V:=UI
  have u:=hide g;clear g q zD t
  cases b
  ·go_wp2;refine bodyPost_ret (v:=fa []) (by simp[results,results193,go_sem,fa,aI,T,S,Q,O,N,M,L]) rfl ⟨⟨[],rfl,fun h=>U2 h UK⟩,?_,?_⟩
   ·exact ((((((((aK u).bad.other UI (fun c=>by have:=a c;omega)).other UI (fun c=>by have:=a c;omega)).other UI (fun c=>by have:=a c;omega)).other UI (fun c=>by have:=a c;omega)).other UI (fun c=>by have:=a c;omega)).other UI (fun c=>by have:=a c;omega)).other UI (fun c=>by have:=a c;omega))
   ·exact (((((((U.setCell _ _).aO (zq _) _).aO (zq _) _).aO (zq _) _).aO (zq _) _).aO (zq _) _).aO (zq _) _).aO (zq _) _
  ·go_wp2;refine bodyPost_ret (v:=fa acc) (by simp[results,results193,go_sem,fa,T,S,Q,O,N,M,L]) rfl ⟨⟨acc,rfl,fun _=>aK x trivial⟩,?_,?_⟩
   ·exact (((((((((aK u).step D).other UI (fun c=>by have:=a c;omega)).other UI (fun c=>by have:=a c;omega)).other UI (fun c=>by have:=a c;omega)).other UI (fun c=>by have:=a c;omega)).other UI (fun c=>by have:=a c;omega)).other UI (fun c=>by have:=a c;omega)).other UI (fun c=>by have:=a c;omega))
   ·exact (((((((U.setCell _ _).aO (zq _) _).aO (zq _) _).aO (zq _) _).aO (zq _) _).aO (zq _) _).aO (zq _) _).aO (zq _) _
 ·obtain⟨Z,r⟩:∃ Z,Z=((((((w4.setCell ⟨w1.heap.size,0,U3⟩ (.bool (aI acc 0))).setCell ⟨w1.heap.size,1,U3⟩ (.bool (aI acc 1))).setCell ⟨w1.heap.size,2,U3⟩ (.bool (aI acc 2))).setCell ⟨w1.heap.size,3,U3⟩ (.bool (aI acc 3))).setCell ⟨w1.heap.size,4,U3⟩ (.bool (aI acc 4))).setCell ⟨w1.heap.size,5,U3⟩ (.bool (aI acc 5))).setCell ⟨w1.heap.size,6,U3⟩ (.bool (aI acc 6)):=⟨_,rfl⟩;rw[<- r];have H:U9 w1.heap.size (w1.alloc (.cells #[.bool U5,.bool U5,.bool U5,.bool U5,.bool U5,.bool U5,.bool U5] 160)) w4:=⟨d.os,d.tape,d.output,d.size,fun k hk=>d.block k UQ⟩;have m:U9 w1.heap.size w1 w4:=((zr w1.heap.size w1).alloc (zq _) _).trans H;clear H;have i:U9 w1.heap.size w1 Z:=by rw[r];exact ((((((m.setCell (zq _) _).setCell (zq _) _).setCell (zq _) _).setCell (zq _) _).setCell (zq _) _).setCell (zq _) _).setCell (zq _) _
  have t:DS Z w1.heap.size acc:=by
   rw[r];exact Pd acc (acc0:=[]) ⟨t0,t1,t2,t3,t4,t5,t6,tf⟩
  have J:w.heap.size+1<w1.heap.size:=UI
  have g:=y.aD i;have U:=k1.trans (Kept.aD (R:=R) i);have q:=F.later i;have zD:=G.later i;obtain⟨V,hV⟩:∃ V,V=w1.heap.size:=⟨_,rfl⟩;rw[<- hV] at J t ⊢;clear r m i d hV F G z C t0 t1 t2 t3 t4 t5 t6 tf kq;rw[hb] at p;have x:=hide p;clear c0 c1 cr p y k1 h;have x1:=g.c1;have x2:=g.c2;have x3:=g.f1;have x4:=g.f2;have q0:=zD.c0;have q1:=zD.c1;have q2:=zD.c2;have q3:=zD.c3;have q4:=zD.c4;have q5:=zD.c5;have q6:=zD.c6;have T:=q.c0;have S:=q.c1;have Q:=q.c2;have O:=q.c3;have N:=q.c4;have M:=q.c5;have L:=q.c6;have fR:=q.f;have s0:=t.c0;have s1:=t.c1;have s2:=t.c2;have s3:=t.c3;have s4:=t.c4;have s5:=t.c5;have s6:=t.c6;have n1:R≠w.heap.size:=UI
  have n2:R≠w.heap.size+1:=UI
  have n3:R≠V:=UI
  have u:=hide g;clear g q zD t
  cases b
  ·go_wp2;refine bodyPost_ret (v:=fa []) (by simp[results,results193,go_sem,fa,aI,T,S,Q,O,N,M,L]) rfl ⟨⟨[],rfl,fun h=>U2 h UK⟩,?_,?_⟩
   ·exact ((((((((aK u).bad.other UI (fun c=>by have:=a c;omega)).other UI (fun c=>by have:=a c;omega)).other UI (fun c=>by have:=a c;omega)).other UI (fun c=>by have:=a c;omega)).other UI (fun c=>by have:=a c;omega)).other UI (fun c=>by have:=a c;omega)).other UI (fun c=>by have:=a c;omega))
   ·exact (((((((U.setCell _ _).aO (zq _) _).aO (zq _) _).aO (zq _) _).aO (zq _) _).aO (zq _) _).aO (zq _) _).aO (zq _) _
  ·go_wp2;refine bodyPost_ret (v:=fa acc) (by simp[results,results193,go_sem,fa,T,S,Q,O,N,M,L]) rfl ⟨⟨acc,rfl,fun _=>aK x trivial⟩,?_,?_⟩
   ·exact (((((((((aK u).step D).other UI (fun c=>by have:=a c;omega)).other UI (fun c=>by have:=a c;omega)).other UI (fun c=>by have:=a c;omega)).other UI (fun c=>by have:=a c;omega)).other UI (fun c=>by have:=a c;omega)).other UI (fun c=>by have:=a c;omega)).other UI (fun c=>by have:=a c;omega))
   ·exact (((((((U.setCell _ _).aO (zq _) _).aO (zq _) _).aO (zq _) _).aO (zq _) _).aO (zq _) _).aO (zq _) _).aO (zq _) _
theorem Sr(R A:UY)(ws:UV UU)(nx:UY)(wr:UX)(w:U7)(h:RS w R A ws nx wr)(g:Env w):
  Va prog 193 #[.pointer (U4 ⟨R,0,U3⟩),.func (.func 194) #[] #[]] w fun e w'=>Jy (eB ws nx wr aB.dU) (ws.getD nx Yy) e/\RS w' R A ws (eo ws nx wr aB.dU) (ei ws nx wr aB.dU)/\Kept R w w':=by
 cases c:cB ws.length nx wr
 ·have t:=sA (B:=aB.dU) c;rw[eo,ei,t];refine (Ss _ R A ws nx wr w h c).mono ?_;rintro e w' ⟨rfl,i,f⟩;exact⟨⟨[],rfl,fun h=>U2 h UK⟩,i,f⟩
 ·have a:=pM c;obtain⟨b,d⟩:∃ b,aB.dU ws[nx]=b:=⟨_,rfl⟩;have t:=mG (B:=aB.dU) c a d;rw[eo,ei,t,pG ws nx a];exact Tf b R A ws nx wr w h g c a d
def rv(pc ev:UZ)(acc:UV UZ)(fr mn mi ti un:UZ):UY->U8
 |0=>.int .i64 pc
 |1=>.int .i64 ev
 |2=>.bool (aI acc 0)
 |3=>.bool (aI acc 1)
 |4=>.bool (aI acc 2)
 |5=>.bool (aI acc 3)
 |6=>.bool (aI acc 4)
 |7=>.bool (aI acc 5)
 |8=>.bool (aI acc 6)
 |9=>.int .i64 fr
 |10=>.int .i64 mn
 |11=>.int .i64 mi
 |12=>.int .i64 ti
 |_=>.int .i64 un
structure RL(w:U7)(P:UY)(v:UY->U8):Prop where
 c:∀ j:UY,j<14->w.cell? ⟨P,j,U3⟩=U4 (v j)
 f:∀ j:UY,w.frozen? ⟨P,j,U3⟩=U5
theorem ov{p:UY->Prop}(z:p 0)(y:p 1)(x:p 2)(u:p 3)(t:p 4)(r:p 5)(q:p 6)(m:p 7)(i:p 8)(g:p 9)(f:p 10)(d:p 11)(c:p 12)(a:p 13):∀ j:UY,j<14->p j
 |0,_=>z
 |1,_=>y
 |2,_=>x
 |3,_=>u
 |4,_=>t
 |5,_=>r
 |6,_=>q
 |7,_=>m
 |8,_=>i
 |9,_=>g
 |10,_=>f
 |11,_=>d
 |12,_=>c
 |13,_=>a
 |n+14,h=>U2 h UI
theorem RL.lt(h:RL w P v):P<w.heap.size:=Vh _ ⟨P,0,U3⟩ (h.c 0 UI)
theorem RL.set(h:RL w P v)(j:UY)(a:j<14)(x:U8):RL (w.setCell ⟨P,j,U3⟩ x) P (fun i=>if i=j then x else v i):=by
 refine⟨fun i hi=>?_,fun i=>(zF ..).trans (h.f i)⟩
 by_cases e:i=j
 ·subst e;rw[U1 rfl];exact zm _ ⟨P,i,U3⟩ _ (h.c i hi)
 ·rw[U0 e];exact (zS _ _ _ _ UJ).trans (h.c i hi)
theorem RL.congr{v':UY->U8}(h:RL w P v)(e:∀ j:UY,j<14->v j=v' j):RL w P v':=⟨fun j a=>by rw[<- e j a];exact h.c j a,h.f⟩
theorem RL.other{x:U8}(h:RL w P v)(d:b≠P):RL (w.setCell ⟨b,o,U3⟩ x) P v :=
 ⟨fun j a=>(YP w ⟨b,o,U3⟩ ⟨P,j,U3⟩ x d).trans (h.c j a),fun i=>(zF ..).trans (h.f i)⟩
theorem RL.kept(h:RL w P v)(k:Kept R w w')(a:P≠R):RL w' P v :=
 ⟨fun j d=>k.cell a (h.c j d),fun j=>(k.frozen a h.lt).trans (h.f j)⟩
structure jy(R P:UY)(w w':U7):Prop where
 os:w'.os=w.os
 tape:w'.tape=w.tape
 output:w'.output=w.output
 size:w.heap.size<=w'.heap.size
 block:∀ k,k<w.heap.size->k≠R->k≠P->w'.heap[k]?=w.heap[k]?
theorem Kept.two(P:UY)(k:Kept R w w'):jy R P w w':=⟨k.os,k.tape,k.output,k.size,fun i hi a _=>k.block i hi a⟩
theorem jy.trans{a b c:U7}(h:jy R P a b)(k:jy R P b c):jy R P a c :=
 ⟨k.os.trans h.os,k.tape.trans h.tape,k.output.trans h.output,Vg h.size k.size,fun i hi d f=>(k.block i (zL hi h.size) d f).trans (h.block i hi d f)⟩
theorem jy.fI(h:jy R P w w')(o:UY)(v:U8):jy R P w (w'.setCell ⟨P,o,U3⟩ v) :=
 ⟨(Below.setCell (B:=0) (Below.refl 0 w') (p:=⟨P,o,U3⟩) (zN _) v).os.trans h.os,(Below.setCell (B:=0) (Below.refl 0 w') (p:=⟨P,o,U3⟩) (zN _) v).tape.trans h.tape,(Below.setCell (B:=0) (Below.refl 0 w') (p:=⟨P,o,U3⟩) (zN _) v).output.trans h.output,Vg h.size (Below.setCell (B:=0) (Below.refl 0 w') (p:=⟨P,o,U3⟩) (zN _) v).size,fun k d c a=>(Below.heap_setCell w' ⟨P,o,U3⟩ v k a).trans (h.block k d c a)⟩
theorem jy.ui(h:jy R P w w')(o:UY)(v:U8):jy R P w (w'.setCell ⟨R,o,U3⟩ v) :=
 ⟨(Below.setCell (B:=0) (Below.refl 0 w') (p:=⟨R,o,U3⟩) (zN _) v).os.trans h.os,(Below.setCell (B:=0) (Below.refl 0 w') (p:=⟨R,o,U3⟩) (zN _) v).tape.trans h.tape,(Below.setCell (B:=0) (Below.refl 0 w') (p:=⟨R,o,U3⟩) (zN _) v).output.trans h.output,Vg h.size (Below.setCell (B:=0) (Below.refl 0 w') (p:=⟨R,o,U3⟩) (zN _) v).size,fun k d a c=>(Below.heap_setCell w' ⟨R,o,U3⟩ v k a).trans (h.block k d a c)⟩
theorem jy.one{x:U7}(k:Kept R w x)(h:jy R P x w')(c:w.heap.size<=P):Kept R w w' :=
 ⟨h.os.trans k.os,h.tape.trans k.tape,h.output.trans k.output,Vg k.size h.size,fun i hi a=>(h.block i (zL hi k.size) a UI).trans (k.block i hi a)⟩
theorem Env.fZ(h:Env w)(k:jy R P w w')(G:10<=R)(H:10<=P):Env w':=by
 have j:U9 10 w w':=⟨k.os,k.tape,k.output,k.size,fun i hi=>k.block i (zL hi h.size) UI UI⟩;have a:∀ (b o:UY) (v:U8),b<10->w.cell? ⟨b,o,U3⟩=U4 v->w'.cell? ⟨b,o,U3⟩=U4 v:=fun b o v d e=>(j.cell (p:=⟨b,o,U3⟩) d).trans e
 obtain⟨m,q⟩:=h.tw;obtain⟨F,E,D,C,z,y,x,u,t,r,g,f⟩:=h.iL;refine⟨⟨a _ _ _ UI F,a _ _ _ UI E,a _ _ _ UI D,a _ _ _ UI C,a _ _ _ UI z,a _ _ _ UI y,a _ _ _ UI x,a _ _ _ UI u,a _ _ _ UI t,a _ _ _ UI r,a _ _ _ UI g,a _ _ _ UI f⟩,⟨m,a _ _ _ UI q⟩,?_,Vg h.size k.size,a _ _ _ UI h.mo,a _ _ _ UI h.tu,a _ _ _ UI h.we,a _ _ _ UI h.th,a _ _ _ UI h.fr,a _ _ _ UI h.sa,a _ _ _ UI h.su⟩;have c:=h.pow;unfold YA YB at c ⊢;simp only[uW,YC] at c ⊢;rw[j.block 0 UI];exact c
def iW:UU:=⟨#[100,97,105,108,121]⟩
def ix:UU:=⟨#[119,101,101,107,108,121]⟩
def jI:UU:=⟨#[109,111,110,116,104,108,121]⟩
def iT:UU:=⟨#[116,105,109,101,115]⟩
def js:UU:=⟨#[117,110,116,105,108]⟩
def cV:UU:=⟨#[102,114,111,109]⟩
def ek:UU:=⟨#[97,116]⟩
def fS:UU:=⟨#[102,111,114]⟩
def eu(s:UU):UX:=eM s 1 99
def eK(s:UU):UX:=eM s 1 1048320
def bE(x s:UU):UX:=s.toList==x.toList
def dV(st:UY × UX):UY × UX:=(st.1+1,st.2)
inductive nS (ws:UV UU) (st:UY × UX):UZ->UZ->UV UZ->UY × UX->Prop where
 |daily (h:bD ws st.1 st.2 iW=U6):nS ws st 1 (bT ws (dV st) eu cL) [] (aQ ws [eu] (dV st))
 |weekly (h1:bD ws st.1 st.2 iW=U5) (h:bD ws st.1 st.2 ix=U6) (acc:UV UZ) (ha:eB ws (aQ ws [eu] (dV st)).1 (aQ ws [eu] (dV st)).2 aB.dU=U6->aB.iq (ws.getD (aQ ws [eu] (dV st)).1 Yy)=U4 acc):
   nS ws st 2 (bT ws (dV st) eu cL) acc (aQ ws [eu,aB.dU] (dV st))
 |monthly (h1:bD ws st.1 st.2 iW=U5) (h2:bD ws st.1 st.2 ix=U5) (h:bD ws st.1 st.2 jI=U6):nS ws st 3 (bT ws (dV st) eu cL) [] (aQ ws [eu] (dV st))
 |none (h1:bD ws st.1 st.2 iW=U5) (h2:bD ws st.1 st.2 ix=U5) (h:bD ws st.1 st.2 jI=U5):nS ws st 0 0 [] (st.1,U6)
theorem Bd{ev:UZ}(h:RL w P (rv pc ev acc fr mn mi ti un))(x:UZ):RL (w.setCell ⟨P,0,U3⟩ (.int .i64 x)) P (rv x ev acc fr mn mi ti un):=(h.set 0 UI _).congr (ov rfl rfl rfl rfl rfl rfl rfl rfl rfl rfl rfl rfl rfl rfl)
theorem Be{ev:UZ}(h:RL w P (rv pc ev acc fr mn mi ti un))(x:UZ):RL (w.setCell ⟨P,1,U3⟩ (.int .i64 x)) P (rv pc x acc fr mn mi ti un):=(h.set 1 UI _).congr (ov rfl rfl rfl rfl rfl rfl rfl rfl rfl rfl rfl rfl rfl rfl)
theorem O2{ev:UZ}(h:RL w P (rv pc ev acc fr mn mi ti un))(x:UZ):RL (w.setCell ⟨P,9,U3⟩ (.int .i64 x)) P (rv pc ev acc x mn mi ti un):=(h.set 9 UI _).congr (ov rfl rfl rfl rfl rfl rfl rfl rfl rfl rfl rfl rfl rfl rfl)
theorem PA{ev:UZ}(h:RL w P (rv pc ev acc fr mn mi ti un))(x:UZ):RL (w.setCell ⟨P,10,U3⟩ (.int .i64 x)) P (rv pc ev acc fr x mi ti un):=(h.set 10 UI _).congr (ov rfl rfl rfl rfl rfl rfl rfl rfl rfl rfl rfl rfl rfl rfl)
theorem PC{ev:UZ}(h:RL w P (rv pc ev acc fr mn mi ti un))(x:UZ):RL (w.setCell ⟨P,11,U3⟩ (.int .i64 x)) P (rv pc ev acc fr mn x ti un):=(h.set 11 UI _).congr (ov rfl rfl rfl rfl rfl rfl rfl rfl rfl rfl rfl rfl rfl rfl)
theorem PE{ev:UZ}(h:RL w P (rv pc ev acc fr mn mi ti un))(x:UZ):RL (w.setCell ⟨P,12,U3⟩ (.int .i64 x)) P (rv pc ev acc fr mn mi x un):=(h.set 12 UI _).congr (ov rfl rfl rfl rfl rfl rfl rfl rfl rfl rfl rfl rfl rfl rfl)
theorem PG{ev:UZ}(h:RL w P (rv pc ev acc fr mn mi ti un))(x:UZ):RL (w.setCell ⟨P,13,U3⟩ (.int .i64 x)) P (rv pc ev acc fr mn mi ti x):=(h.set 13 UI _).congr (ov rfl rfl rfl rfl rfl rfl rfl rfl rfl rfl rfl rfl rfl rfl)
theorem PH{ev:UZ}(h:RL w P (rv pc ev acc fr mn mi ti un))(x:UV UZ):
  RL (((((((w.setCell ⟨P,2,U3⟩ (.bool (aI x 0))).setCell ⟨P,3,U3⟩ (.bool (aI x 1))).setCell ⟨P,4,U3⟩ (.bool (aI x 2))).setCell ⟨P,5,U3⟩ (.bool (aI x 3))).setCell ⟨P,6,U3⟩ (.bool (aI x 4))).setCell ⟨P,7,U3⟩ (.bool (aI x 5))).setCell ⟨P,8,U3⟩ (.bool (aI x 6))) P (rv pc ev x fr mn mi ti un) :=
 (((((((h.set 2 UI _).set 3 UI _).set 4 UI _).set 5 UI _).set 6 UI _).set 7 UI _).set 8 UI _).congr (ov rfl rfl rfl rfl rfl rfl rfl rfl rfl rfl rfl rfl rfl rfl)
theorem Ro(R A P:UY)(ws:UV UU)(st:UY × UX)(w:U7)(h:RS w R A ws st.1 st.2)(he:Env w)(C:10<=R)(Q:10<=P)(a:P≠R)(d:0<ws.length->P≠A)(hl:RL w P (rv 0 0 [] 0 0 0 0 0)):
  Va prog 133 #[.pointer (U4 ⟨R,0,U3⟩),.pointer (U4 ⟨P,0,U3⟩)] w fun e w' =>
   ∃ (pc ev:UZ) (acc:UV UZ) (s:UY × UX),e=.returned (.tuple #[])/\nS ws st pc ev acc s/\RS w' R A ws s.1 s.2/\RL w' P (rv pc ev acc 0 0 0 0 0)/\jy R P w w':=by
 have S:=hide he;clear he
 go_in
 go_wp2_with fail
 refine (iJ R A ws st.1 st.2 iW w h).mono ?_;rintro e w1 ⟨rfl,I,Z⟩;have t:=Z.two P;have l1:=hl.kept Z a;clear h hl Z
 cases F:bD ws st.1 st.2 iW
 ·rw[F] at I
  go_wp2_with fail
  refine (iJ R A ws st.1 st.2 ix w1 I).mono ?_;rintro e w2 ⟨rfl,H,Y⟩;have r:=t.trans (Y.two P);have E:=l1.kept Y a;clear I t l1 Y
  cases L:bD ws st.1 st.2 ix
  ·rw[L] at H
   go_wp2_with fail
   refine (iJ R A ws st.1 st.2 jI w2 H).mono ?_;rintro e w3 ⟨rfl,D,X⟩;have z:=r.trans (X.two P);have K:=E.kept X a;clear H r E X
   cases O:bD ws st.1 st.2 jI
   ·rw[O] at D;have c2:=D.c2;have f2:=D.f2;go_wp2
    go_end0
    exact⟨0,0,[],(st.1,U6),rfl,.none F L O,D.bad,K.other a.symm,z.ui _ _⟩
   ·rw[O,U1 rfl] at D;have J:=K.c 0 UI;have p:=K.f
    go_wp2_with fail
    have x:=D.other (b:=P) (o:=0) (v:=.int .i64 3) a d;have u:=Bd K 3;have m:=z.fI 0 (.int .i64 3);have N:=hide ((aK S).fZ m C Q);clear J p D K z;refine (B9 R A ws (st.1+1) st.2 _ x).mono ?_;rintro e w5 ⟨rfl,G,g⟩;have i:=m.trans (g.two P);have j:=u.kept g a;have E5:=hide ((aK N).kept g C);clear x u m g;have T:=j.c 1 UI;have p:=j.f;go_wp2
    go_end0
    exact⟨3,bT ws (dV st) eu cL,[],aQ ws [eu] (dV st),rfl,.monthly F L O,G.other a d,Be j _,i.fI _ _⟩
  ·rw[L,U1 rfl] at H;have J:=E.c 0 UI;have p:=E.f
   go_wp2_with fail
   have x:=H.other (b:=P) (o:=0) (v:=.int .i64 2) a d;have u:=Bd E 2;have m:=r.fI 0 (.int .i64 2);have N:=hide ((aK S).fZ m C Q);clear J p H E r;refine (B9 R A ws (st.1+1) st.2 _ x).mono ?_;rintro e w5 ⟨rfl,G,g⟩;have i:=m.trans (g.two P);have j:=u.kept g a;have E5:=hide ((aK N).kept g C);clear x u m g;have T:=j.c 1 UI;have p:=j.f
   go_wp2_with fail
   have h6:=G.other (b:=P) (o:=1) (v:=.int .i64 (fh ws (st.1+1) st.2 (fun s=>eM s 1 99) (fun s=>aB.cF s.data.toList))) a d;have l6:=Be j (fh ws (st.1+1) st.2 (fun s=>eM s 1 99) (fun s=>aB.cF s.data.toList));have W:=i.fI 1 (.int .i64 (fh ws (st.1+1) st.2 (fun s=>eM s 1 99) (fun s=>aB.cF s.data.toList)));have E6:=hide ((aK S).fZ W C Q);clear T p G j i;refine (Sr R A ws _ _ _ h6 (aK E6)).mono ?_;rintro e w7 ⟨⟨acc,rfl,y⟩,h7,V⟩;have U:=W.trans (V.two P);have q:=l6.kept V a;have M:=hide y;clear h6 l6 W V y;have p2:=q.c 2 UI;have p3:=q.c 3 UI;have p4:=q.c 4 UI;have p5:=q.c 5 UI;have p6:=q.c 6 UI;have p7:=q.c 7 UI;have p8:=q.c 8 UI;have p:=q.f;have H7:=hide h7;clear h7;simp only[fa];go_wp2
   go_end0
   exact⟨2,bT ws (dV st) eu cL,acc,aQ ws [eu,aB.dU] (dV st),rfl,.weekly F L acc (aK M),((((((((aK H7).other a d).other a d).other a d).other a d).other a d).other a d).other a d),PH q acc,(((((((U.fI _ _).fI _ _).fI _ _).fI _ _).fI _ _).fI _ _).fI _ _)⟩
 ·rw[F,U1 rfl] at I;have J:=l1.c 0 UI;have p:=l1.f
  go_wp2_with fail
  have x:=I.other (b:=P) (o:=0) (v:=.int .i64 1) a d;have u:=Bd l1 1;have m:=t.fI 0 (.int .i64 1);have N:=hide ((aK S).fZ m C Q);clear J p I l1 t;refine (B9 R A ws (st.1+1) st.2 _ x).mono ?_;rintro e w5 ⟨rfl,G,g⟩;have i:=m.trans (g.two P);have j:=u.kept g a;have E5:=hide ((aK N).kept g C);clear x u m g;have T:=j.c 1 UI;have p:=j.f;go_wp2
  go_end0
  exact⟨1,bT ws (dV st) eu cL,[],aQ ws [eu] (dV st),rfl,.daily F,G.other a d,Be j _,i.fI _ _⟩
end Go.Proofs.YtfigmlfdnickmaaGreatDoor
