import Derived.Test.YtolaacmheeaadaaGreatDoorL08
import Derived.Test.YtolaacmheeaadaaGreatDoorRows
import Derived.Test.YtolaacmheeaadaaGreatDoorCards
import Derived.Test.YtolaacmheeaadaaGreatDoorTie
import Derived.WalkKit
import Derived.ProofKit
import Derived.Deep.DeepWitnessRowRef
import Derived.LaidLaws
import Derived.OpenShut
import Derived.Deep.Slices
import Derived.Deep.DeepHandedRow
import Derived.Lib.LaidTab
import Derived.Lib.LaidU8
import Derived.Shelf.Vars
set_option maxRecDepth 100000
set_option maxHeartbeats 8000000
open Go.Proofs.Tryz
open _root_ renaming ByteArray->Xn,List->Xo,Bool->Xq,Nat->Xr,Int->Xs,if_neg->Xt,if_pos->Xu,absurd->Xv,Int->N,Nat->M,List->J
open Option renaming none->Xw,some->Xx,none->Z,some->U
open Bool renaming false->Xy,true->Xz,and_eq_true->Zs
open Go renaming World->XA,Value->XC,Calls->XE
open Go.RowKit renaming Below->XD
open List renaming append_assoc->Y9,take_of_length_le->YL,getElem?_eq_getElem->Zv,map_append->YT,length_append->Yy,mem_cons_of_mem->Zl,mem_map->YP,length_map->Ze,mem_cons->X8,cons_append->Yk,mem_filter->ZX,length_filter_le->Zj
open Go.Value renaming string->XK,oneCell'->Zg,int->XH,pointer->XI,slice->XJ,bool->XL,agg->XN,iface->XP,int->V
open Nat renaming le_refl->XT,lt_of_lt_of_le->YN,le_trans->XV
open Go.World renaming news_of_block->Zf,block_lt_of_cell?->XW
open Option.some renaming inj->Zo
open ByteArray renaming size_extract->ZO
open Go.IntKind renaming i64->XQ,i64->Y
open Go.Ending renaming returned->XR
open Go.Obj renaming cells->XS
variable{b:Xq}{k s sym:Xn}{a pc:Xs}{L:Xo (Xs × Xs)}{ps:Xo (Xo Xn)}{E H K Q R p q ws:Xo Xn}{acc:Xo Xs}{B g m n:Xr}{st:Xr × Xq}{c:UInt8}{v:Go.Value}{W w w' x y z:Go.World}
namespace Go.Proofs.YtolaacmheeaadaaGreatDoor
open Go.RowKit
def fO(n:N):Xn:=vB (Cal.yT n) (Cal.mT n) (Cal.dT n)
def dU(t:N):Xn:=fO (t / 1440)++⟨#[47]⟩++jf (t % 1440)
theorem QS(a b c:Xn):a++b++c=a++(b++c):=by apply Txt.nS;simp only[Txt.rE,Y9]
theorem RP(y m d:N)(h:Cal.ok y m d=Xz):(vB y m d).size<=40:=by let⟨y1,y2,m1,m2,d1,d2⟩:=(Cal.jv y m d).1 h;have o:=Cal.pK y m;have j:=Txt.nN y 4 O O;have i:=Txt.nN m 2 O O;have f:=Txt.nN d 2 O O;have l:(⟨#[45]⟩:Xn).size=1:=Xd;unfold vB;simp only[ByteArray.size_append];omega
theorem He(n:N)(i:0<=n)(h:n<1440):(jf n).size<=19:=by have f:=Txt.nN (n / 60) 2 O O;have d:=Txt.nN (n % 60) 2 O O;have j:(⟨#[58]⟩:Xn).size=1:=Xd;unfold jf;simp only[ByteArray.size_append];omega
theorem Hw(n:N)(f:-738885<=n)(d:n<=2913173):(fO n).size<=40:=RP _ _ _ (Cal.vL n f d).1
theorem Ai(n:N)(w:XA)(i:Env w)(o:-738885<=n)(l:n<=2913173):XE prog 293 #[n] w fun e w'=>e=XR (fO n)/\XD w w w':=by
 refine (Sh n w i o l).mono ?_;rintro e w' ⟨⟨y,m,d,rfl,h,f⟩,j⟩;obtain⟨rfl,rfl,rfl⟩:=Cal.xT y m d n h f;exact⟨rfl,j⟩
theorem Aj(t:N)(w:XA)(l:Env w)(C:0<=t)(A:t<=1048320):XE prog 292 #[t] w fun e w'=>e=XR (dU t)/\XD w w w':=by
 have i:=hide l;have r:=Hw (t / 1440) O O;have o:=He (t % 1440) O O;go_in;go_wp21;refine aK (Ai (t / 1440) w (aO i) O O) fun j d=>?_;go_wp21;refine aK (Df (t % 1440) j ((aO i).later d) O O) fun u h=>?_;have f:=d.trans (h.mono d.size);go_wp2;go_ret;exact⟨rfl,f⟩
def nM(k:M):Xn:=⟨(gu k).toArray⟩
def jm(acc:J N):M->Xn
 |0=>⟨#[]⟩
 |k+1=>if aI acc k then jm acc k++⟨#[44]⟩++nM k else jm acc k
def ug(acc:J N):Xn:=(jm acc 7).extract 1 (jm acc 7).size
theorem CG(k:M):(nM k).size=2:=by unfold nM gu;split <;> rfl
theorem Ad(acc:J N):∀ k:M,(jm acc k).size<=3*k:=by simp_all[zq,Ad,CG,jm]
theorem IV(acc:J N)(d:M)(h:aI acc d=Xz):∀ k:M,d<k->1<=(jm acc k).size
 |0,hk=>by omega
 |k+1,hk=>by
  have n:=CG k;unfold jm;by_cases e:d=k
  .subst e;rw[Xu h];simp only[ByteArray.size_append];omega
  .have:=IV acc d h k O
   split
   .simp only[ByteArray.size_append];omega
   .exact this
theorem RQ{d:N}{r:J N}(h:Txt.mu acc d=U r)(f:d<=6):∃ x:M,x<7/\aI r x=Xz:=by
 unfold Txt.mu at h;split at h
 .rename_i hc
  cases h;exact⟨d.toNat,O,by simp[aI,show ((d.toNat:M):N)=d from by omega]⟩
 .cases h
theorem Ih:∀ (l:J UInt8)(acc r:J N),Txt.lC l acc=U r->∃ x:M,x<7/\aI r x=Xz
 |[],_,_,h=>by simp[Txt.lC] at h
 |[_],_,_,h=>by simp[Txt.lC] at h
 |[a,b],acc,r,h=>RQ (acc:=acc) (d:=Txt.fu [a,b]) h (Txt.As [a,b]).2
 |a :: b :: c :: l,acc,r,h=>by unfold Txt.lC at h;split at h;simp only[Option.bind_eq_some_iff] at h;let⟨x,_,h⟩:=h;exact Ih l x r h;cases h
theorem GO(h:Txt.je s=U acc):1<=(jm acc 7).size:=by let⟨x,hx,hi⟩:=Ih _ _ _ h;exact IV acc x hi 7 hx
def py(w:Xn):Xn:=match Txt.je w with|some acc=>ug acc|none=>⟨#[]⟩
def bA(sym w:Xn):Xn :=
 if sym.toList==[85,78,73,84,83] then Txt.bF (cB w 1 7) else
 if sym.toList==[77,73,78,85,84,69,83] then Txt.bF (cB w 1 7) else
 if sym.toList==[69,86,69,82,89] then Txt.bF (cB w 1 7) else
 if sym.toList==[73,68] then Txt.bF (cB w 1 7) else
 if sym.toList==[84,73,77,69] then dU (eJ w) else
 if sym.toList==[79,78] then py w else w
theorem Hd(w:Xn):-1<=cB w 1 7/\cB w 1 7<=9999999:=by rw[xM];have:=Txt.lS w.data.toList;split <;> omega
theorem Hf(w:Xn):-1<=eJ w/\eJ w<=1048320:=by
 unfold eJ;split
 .rename_i h
  unfold bC at h;simp only[Zs,decide_eq_true_eq] at h;omega
 .omega
theorem Co(n:N)(w:XA)(l:-738885<=n)(j:n<=2913173):XE prog 21 #[n] w fun e w'=>e=XR (.tuple #[V Y (Cal.yT n),V Y (Cal.mT n),V Y (Cal.dT n),V Y 0])/\w'=w:=by
 refine (CD n w O O).mono ?_;rintro e w' ⟨⟨h,_⟩|⟨_,y,m,d,rfl,i,f⟩,rfl⟩
 .omega
 .obtain⟨rfl,rfl,rfl⟩:=Cal.xT y m d n i f;exact⟨rfl,rfl⟩
theorem Rl(t:N):Txt.jU (Cal.yT (t / 1440)) 4++⟨#[45]⟩++Txt.jU (Cal.mT (t / 1440)) 2++⟨#[45]⟩++Txt.jU (Cal.dT (t / 1440)) 2++⟨#[47]⟩++Txt.jU (t % 1440 / 60) 2++⟨#[58]⟩++Txt.jU (t % 60) 2=dU t:=by unfold dU fO vB jf;rw[show t % 1440 % 60=t % 60 from by omega];simp only[QS]
theorem Al(sym w:Xn)(W:XA)(r:Env W)(o:w.size<=160)
  (t:(sym.toList==[85,78,73,84,83])=Xz\/((sym.toList==[85,78,73,84,83])=Xy/\(sym.toList==[77,73,78,85,84,69,83])=Xz)\/((sym.toList==[85,78,73,84,83])=Xy/\(sym.toList==[77,73,78,85,84,69,83])=Xy/\(sym.toList==[69,86,69,82,89])=Xz)\/((sym.toList==[85,78,73,84,83])=Xy/\(sym.toList==[77,73,78,85,84,69,83])=Xy/\(sym.toList==[69,86,69,82,89])=Xy/\(sym.toList==[73,68])=Xz)):
  XE prog 29 #[sym,w] W fun e w'=>e=XR (Txt.bF (cB w 1 7))/\XD W W w':=by
 have A:=hide r;have D:=Hd w;rcases t with i|⟨i,j⟩|⟨i,j,u⟩|⟨i,j,u,F⟩;all_goals go_in;go_wp21;refine aK (gC w 1 7 W o O O) fun l d=>?_;go_wp21;refine aK (Dt _ l ((aO A).later d) O O) fun C h=>?_;have f:=d.trans (h.mono d.size);go_wp2;go_ret;exact⟨rfl,f⟩
theorem Sv(sym w:Xn)(W:XA)
  (l:(sym.toList==[85,78,73,84,83])=Xy) (j:(sym.toList==[77,73,78,85,84,69,83])=Xy) (i:(sym.toList==[69,86,69,82,89])=Xy) (h:(sym.toList==[73,68])=Xy) (f:(sym.toList==[84,73,77,69])=Xy) (d:(sym.toList==[79,78])=Xy):
  XE prog 29 #[sym,w] W fun e w'=>e=XR w/\w'=W:=by
 go_in;go_wp2;go_ret;exact⟨rfl,rfl⟩
theorem Ss(sym w:Xn)(W:XA)(F:Env W)(hs:w.size<=160)(ht:0<=eJ w)
  (c0:(sym.toList==[85,78,73,84,83])=Xy) (c1:(sym.toList==[77,73,78,85,84,69,83])=Xy) (c2:(sym.toList==[69,86,69,82,89])=Xy) (c3:(sym.toList==[73,68])=Xy) (c4:(sym.toList==[84,73,77,69])=Xz):
  XE prog 29 #[XK sym,XK w] W fun e w'=>e=XR (XK (dU (eJ w)))/\XD W.heap.size W w':=by
 have HE:=hide F;have tb:=Hf w;have T:=hide (Rl (eJ w));obtain⟨t,d⟩:∃ t,t=eJ w:=⟨_,rfl⟩;rw[<- d] at ht tb T ⊢;have r:=hide d;clear F d;have ⟨hok,_⟩:=Cal.vL (t / 1440) O O;obtain⟨y1,y2,m1,m2,d1,d2⟩:=(Cal.jv _ _ _).1 hok;have db:=Cal.pK (Cal.yT (t / 1440)) (Cal.mT (t / 1440));have z1:=Txt.nN (Cal.yT (t / 1440)) 4 O O;have z2:=Txt.nN (Cal.mT (t / 1440)) 2 O O;have z3:=Txt.nN (Cal.dT (t / 1440)) 2 O O;have z4:=Txt.nN (t % 1440 / 60) 2 O O;have z5:=Txt.nN (t % 60) 2 O O;clear hok;go_in;go_wp2_with fail;refine (td w W hs).mono ?_;rintro e X ⟨rfl,f⟩;rw[<- aO r];go_wp2_with fail;refine (Co (t / 1440) X O O).mono ?_;rintro e w2 ⟨rfl,rfl⟩;have S:=hide ((aO HE).later f);go_wp2_with fail;refine (xu _ 4 _ (aO S) O O O).mono ?_;rintro e w3 ⟨rfl,l⟩;have P:=hide ((aO S).later l);go_wp2_with fail;refine (xu _ 2 _ (aO P) O O O).mono ?_;rintro e w4 ⟨rfl,j⟩;have I:=hide ((aO P).later j);go_wp2_with fail;refine (xu _ 2 _ (aO I) O O O).mono ?_;rintro e w5 ⟨rfl,i⟩;have G:=hide ((aO I).later i);go_wp2_with fail;refine (xu _ 2 _ (aO G) O O O).mono ?_;rintro e w6 ⟨rfl,h⟩;have e6:=hide ((aO G).later h);go_wp2_with fail;refine (xu _ 2 _ (aO e6) O O O).mono ?_;rintro e w7 ⟨rfl,o⟩;have D:=f.trans (l.mono f.size);have C:=D.trans (j.mono D.size);have A:=C.trans (i.mono C.size);have u:=A.trans (h.mono A.size);have k5:=u.trans (o.mono u.size);go_wp2;go_ret;exact⟨zU (aO T),k5⟩
def WR(w w':XA)(d:J Xn)(e:Ending):Prop:=∃ v,e=XR v/\w'.ownsRow w 9 1 v d.length (d.map XK)/\XD w w w'
theorem oR(w x:XA)(d:J Xn)(b:M)(h:w<=b)(f:x.heap[b]?=U (XS (d.map XK).toArray 9))(i:d.length<=160):x.ownsRow w 9 1 (XJ b d.length d.length) d.length (d.map XK):=by refine⟨by simp,.inr ⟨b,d.length,(d.map XK).toArray,rfl,h,f,XT _,by unfold maxLen;omega,by simp,?_⟩⟩;exact YL Xc
theorem iX{d:XA}(h:XD d d x)(f:XD x x y):XD d d y:=h.trans (f.mono h.size)
theorem ia(w:XA):XD w w w.drew:=⟨rfl,rfl,rfl,XT _,fun _ _=>rfl⟩
theorem QV(w:XA):XE prog 305 #[XN #[]] w fun e w'=>WR w w' [iT] e:=by
 go_in;go_wp2;go_ret;have e:=heap_alloc_new (w.alloc (XS #[] 166)) (XS #[iT] 9);rw[show (w.alloc (XS #[] 166)).heap.size=w.heap.size+1 from by simp] at e;exact⟨_,rfl,oR w _ [iT] _ Xc e (show 1<=160 by omega),iX aS aS⟩
theorem Qa(w:XA):XE prog 310 #[XN #[]] w fun e w'=>WR w w' [iN] e:=by
 go_in;go_wp2;go_ret;have e:=heap_alloc_new (w.alloc (XS #[] 176)) (XS #[iN] 9);rw[show (w.alloc (XS #[] 176)).heap.size=w.heap.size+1 from by simp] at e;exact⟨_,rfl,oR w _ [iN] _ Xc e (show 1<=160 by omega),iX aS aS⟩
theorem Qg(n:Xn)(u:N)(w:XA)(r:Env w)(u0:0<=u)(u1:u<=9999999):XE prog 288 #[XN #[n,u]] w fun e w'=>WR w w' [iw,n,Txt.bF u] e:=by
 go_in;go_wp21;obtain⟨X,f⟩:∃ X,X=w.alloc (XS #[n,u] 143):=⟨_,rfl⟩;rw[<- f];have i:XD w w X:=by rw[f];exact aS
 have F:=r.later i;have D:X.cell? (w,0)=U ↑n:=by rw[f];simp
 have C:X.cell? (w,1)=U ↑u:=by rw[f];simp
 have A:w<X.heap.size:=by rw[f];simp
 clear f r;go_region_held3 (fun w'=>Env w'/\XD w w w'/\w<w'.heap.size/\w'.cell? (w,0)=U ↑n/\w'.cell? (w,1)=U ↑u)
  (first
   |(refine⟨?_,?_,?_,?_,?_⟩ <;> go_keep)
   |(go_split_ands;exact⟨Env.later Xe d,iX Xe d,YN Xe (Below.size d),cell_later d Xe,cell_later d Xe⟩)
   |(go_split_ands;exact⟨Env.later Xe aS,iX Xe aS,YN Xe (Below.size aS),cell_later aS Xe,cell_later aS Xe⟩)
   |(go_split_ands;exact⟨Env.later Xe (ia _),iX Xe (ia _),YN Xe (Below.size (ia _)),cell_later (ia _) Xe,cell_later (ia _) Xe⟩))
  (first
   |(go_at_call 289;go_split_ands;refine aK (nu _ _ Xe O O) fun w4 d=>?_))
 go_split_ands;have j:XD w w (w4.alloc (XS #[iw,n,Txt.bF u] 9)):=Xe;have h:w<(w4.alloc (XS #[iw,n,Txt.bF u] 9)).heap.size:=Xe;have t:w<w4.heap.size+1:=aU h;have o:=hide j;have l:Hid (w<=w4.heap.size):=by show w<=w4.heap.size;omega
 go_wp2;go_ret;exact⟨_,rfl,oR w _ [iw,n,Txt.bF u] w4 l (heap_alloc_new w4 _) (show 3<=160 by omega),o⟩
theorem QU(u:N)(w:XA)(l:Env w)(u0:0<=u)(u1:u<=9999999):XE prog 302 #[XN #[u]] w fun e w'=>WR w w' [iU,Txt.bF u] e:=by
 go_in;go_wp21;obtain⟨X,j⟩:∃ X,X=w.alloc (XS #[u] 160):=⟨_,rfl⟩;rw[<- j];have d:XD w w X:=by rw[j];exact aS
 have o:=l.later d;clear j l;refine aK (nu u X o O O) fun w4 i=>?_;have f:=iX d i;have h:=f.size;go_wp2;go_ret;exact⟨_,rfl,oR w _ [iU,Txt.bF u] w4 h (heap_alloc_new w4 _) (show 2<=160 by omega),iX f aS⟩
theorem Qw(u:N)(w:XA)(l:Env w)(u0:0<=u)(u1:u<=9999999):XE prog 303 #[XN #[u]] w fun e w'=>WR w w' [iR,Txt.bF u] e:=by
 go_in;go_wp21;obtain⟨X,j⟩:∃ X,X=w.alloc (XS #[u] 161):=⟨_,rfl⟩;rw[<- j];have d:XD w w X:=by rw[j];exact aS
 have o:=l.later d;clear j l;refine aK (nu u X o O O) fun w4 i=>?_;have f:=iX d i;have h:=f.size;go_wp2;go_ret;exact⟨_,rfl,oR w _ [iR,Txt.bF u] w4 h (heap_alloc_new w4 _) (show 2<=160 by omega),iX f aS⟩
theorem PP(u:N)(w:XA)(l:Env w)(u0:0<=u)(u1:u<=9999999):XE prog 309 #[XN #[u]] w fun e w'=>WR w w' [iZ,Txt.bF u] e:=by
 go_in;go_wp21;obtain⟨X,j⟩:∃ X,X=w.alloc (XS #[u] 175):=⟨_,rfl⟩;rw[<- j];have d:XD w w X:=by rw[j];exact aS
 have o:=l.later d;clear j l;refine aK (nu u X o O O) fun w4 i=>?_;have f:=iX d i;have h:=f.size;go_wp2;go_ret;exact⟨_,rfl,oR w _ [iZ,Txt.bF u] w4 h (heap_alloc_new w4 _) (show 2<=160 by omega),iX f aS⟩
theorem PO(n:Xn)(a b:N)(w:XA)(r:Env w)(S:0<=a)(P:a<=1048320)(I:0<=b)(G:b<=1048320):XE prog 306 #[XN #[n,a,b]] w fun e w'=>WR w w' [ir,n,dU a,dU b] e:=by
 go_in;go_wp21;obtain⟨X,f⟩:∃ X,X=w.alloc (XS #[n,a,b] 169):=⟨_,rfl⟩;rw[<- f];have i:XD w w X:=by rw[f];exact aS
 have F:=r.later i;have D:X.cell? (w,0)=U ↑n:=by rw[f];simp
 have C:X.cell? (w,1)=U ↑a:=by rw[f];simp
 have A:X.cell? (w,2)=U ↑b:=by rw[f];simp
 have u:w<X.heap.size:=by rw[f];simp
 clear f r;go_region_held3 (fun w'=>Env w'/\XD w w w'/\w<w'.heap.size/\w'.cell? (w,0)=U ↑n/\w'.cell? (w,1)=U ↑a/\w'.cell? (w,2)=U ↑b)
  (first
   |(refine⟨?_,?_,?_,?_,?_,?_⟩ <;> go_keep)
   |(go_split_ands;exact⟨Env.later Xe d,iX Xe d,YN Xe (Below.size d),cell_later d Xe,cell_later d Xe,cell_later d Xe⟩)
   |(go_split_ands;exact⟨Env.later Xe aS,iX Xe aS,YN Xe (Below.size aS),cell_later aS Xe,cell_later aS Xe,cell_later aS Xe⟩)
   |(go_split_ands;exact⟨Env.later Xe (ia _),iX Xe (ia _),YN Xe (Below.size (ia _)),cell_later (ia _) Xe,cell_later (ia _) Xe,cell_later (ia _) Xe⟩))
  (first
   |(go_at_call 292;go_split_ands;refine aK (Aj _ _ Xe O O) fun w4 d=>?_))
 go_split_ands;have j:XD w w (w4.alloc (XS #[ir,n,dU a,dU b] 9)):=Xe;have h:w<(w4.alloc (XS #[ir,n,dU a,dU b] 9)).heap.size:=Xe;have t:w<w4.heap.size+1:=aU h;have o:=hide j;have l:Hid (w<=w4.heap.size):=by show w<=w4.heap.size;omega
 go_wp2;go_ret;exact⟨_,rfl,oR w _ [ir,n,dU a,dU b] w4 l (heap_alloc_new w4 _) (show 4<=160 by omega),o⟩
theorem PM(n:Xn)(u m a b:N)(w:XA)(r:Env w)(u0:0<=u)(u1:u<=9999999)(S:0<=m)(P:m<=9999999)(a0:0<=a)(a1:a<=1048320)(b0:0<=b)(b1:b<=1048320):XE prog 307 #[XN #[n,u,m,a,b]] w fun e w'=>WR w w' [iq,n,Txt.bF u,Txt.bF m,dU a,dU b] e:=by
 go_in;go_wp21;obtain⟨X,f⟩:∃ X,X=w.alloc (XS #[n,u,m,a,b] 171):=⟨_,rfl⟩;rw[<- f];have i:XD w w X:=by rw[f];exact aS
 have T:=r.later i;have I:X.cell? (w,0)=U ↑n:=by rw[f];simp
 have G:X.cell? (w,1)=U ↑u:=by rw[f];simp
 have F:X.cell? (w,2)=U ↑m:=by rw[f];simp
 have D:X.cell? (w,3)=U ↑a:=by rw[f];simp
 have C:X.cell? (w,4)=U ↑b:=by rw[f];simp
 have A:w<X.heap.size:=by rw[f];simp
 clear f r;go_region_held3 (fun w'=>Env w'/\XD w w w'/\w<w'.heap.size/\w'.cell? (w,0)=U ↑n/\w'.cell? (w,1)=U ↑u/\w'.cell? (w,2)=U ↑m/\w'.cell? (w,3)=U ↑a/\w'.cell? (w,4)=U ↑b)
  (first
   |(refine⟨?_,?_,?_,?_,?_,?_,?_,?_⟩ <;> go_keep)
   |(go_split_ands;exact⟨Env.later Xe d,iX Xe d,YN Xe (Below.size d),cell_later d Xe,cell_later d Xe,cell_later d Xe,cell_later d Xe,cell_later d Xe⟩)
   |(go_split_ands;exact⟨Env.later Xe aS,iX Xe aS,YN Xe (Below.size aS),cell_later aS Xe,cell_later aS Xe,cell_later aS Xe,cell_later aS Xe,cell_later aS Xe⟩)
   |(go_split_ands;exact⟨Env.later Xe (ia _),iX Xe (ia _),YN Xe (Below.size (ia _)),cell_later (ia _) Xe,cell_later (ia _) Xe,cell_later (ia _) Xe,cell_later (ia _) Xe,cell_later (ia _) Xe⟩))
  (first
   |(go_at_call 289;go_split_ands;refine aK (nu _ _ Xe O O) fun w4 d=>?_)
   |(go_at_call 292;go_split_ands;refine aK (Aj _ _ Xe O O) fun w4 d=>?_))
 go_split_ands;have j:XD w w (w4.alloc (XS #[iq,n,Txt.bF u,Txt.bF m,dU a,dU b] 9)):=Xe;have h:w<(w4.alloc (XS #[iq,n,Txt.bF u,Txt.bF m,dU a,dU b] 9)).heap.size:=Xe;have t:w<w4.heap.size+1:=aU h;have o:=hide j;have l:Hid (w<=w4.heap.size):=by show w<=w4.heap.size;omega
 go_wp2;go_ret;exact⟨_,rfl,oR w _ [iq,n,Txt.bF u,Txt.bF m,dU a,dU b] w4 l (heap_alloc_new w4 _) (show 6<=160 by omega),o⟩
theorem De(k n:Xn)(u a b:N)(w:XA)(r:Env w)(u0:0<=u)(u1:u<=9999999)(a0:0<=a)(T:a<=1048320)(S:0<=b)(P:b<=1048320):XE prog 291 #[k,XN #[n,u,a,b]] w fun e w'=>WR w w' [k,n,Txt.bF u,dU a,dU b] e:=by
 go_in;go_wp21;obtain⟨X,f⟩:∃ X,X=w.alloc (XS #[n,u,a,b] 145):=⟨_,rfl⟩;rw[<- f];have i:XD w w X:=by rw[f];exact aS
 have I:=r.later i;have G:X.cell? (w,0)=U ↑n:=by rw[f];simp
 have F:X.cell? (w,1)=U ↑u:=by rw[f];simp
 have D:X.cell? (w,2)=U ↑a:=by rw[f];simp
 have C:X.cell? (w,3)=U ↑b:=by rw[f];simp
 have A:w<X.heap.size:=by rw[f];simp
 clear f r;go_region_held3 (fun w'=>Env w'/\XD w w w'/\w<w'.heap.size/\w'.cell? (w,0)=U ↑n/\w'.cell? (w,1)=U ↑u/\w'.cell? (w,2)=U ↑a/\w'.cell? (w,3)=U ↑b)
  (first
   |(refine⟨?_,?_,?_,?_,?_,?_,?_⟩ <;> go_keep)
   |(go_split_ands;exact⟨Env.later Xe d,iX Xe d,YN Xe (Below.size d),cell_later d Xe,cell_later d Xe,cell_later d Xe,cell_later d Xe⟩)
   |(go_split_ands;exact⟨Env.later Xe aS,iX Xe aS,YN Xe (Below.size aS),cell_later aS Xe,cell_later aS Xe,cell_later aS Xe,cell_later aS Xe⟩)
   |(go_split_ands;exact⟨Env.later Xe (ia _),iX Xe (ia _),YN Xe (Below.size (ia _)),cell_later (ia _) Xe,cell_later (ia _) Xe,cell_later (ia _) Xe,cell_later (ia _) Xe⟩))
  (first
   |(go_at_call 289;go_split_ands;refine aK (nu _ _ Xe O O) fun w4 d=>?_)
   |(go_at_call 292;go_split_ands;refine aK (Aj _ _ Xe O O) fun w4 d=>?_))
 go_split_ands;have j:XD w w (w4.alloc (XS #[k,n,Txt.bF u,dU a,dU b] 9)):=Xe;have h:w<(w4.alloc (XS #[k,n,Txt.bF u,dU a,dU b] 9)).heap.size:=Xe;have t:w<w4.heap.size+1:=aU h;have o:=hide j;have l:Hid (w<=w4.heap.size):=by show w<=w4.heap.size;omega
 go_wp2;go_ret;exact⟨_,rfl,oR w _ [k,n,Txt.bF u,dU a,dU b] w4 l (heap_alloc_new w4 _) (show 5<=160 by omega),o⟩
theorem jT(f:B<=x)(h:XD B x y)(d:XD y y z):XD B x z:=h.trans (d.mono (XV f h.size))
theorem pG(h:XD B x y)(d:XD y y z):x<=z.heap.size:=XV h.size d.size
theorem Env.jj(h:Env x)(l:10<=B)(i:XD B x y):Env y:=by let⟨m,hm⟩:=h.vO;have d:∀ (b o:M) (v:XC),b<10->x.cell? (b,o)=U v->y.cell? (b,o)=U v:=fun b o v j e=>(i.cell (p:=(b,o)) (show b<B by omega)).trans e;let⟨c0,c1,c2,c3,c4,c5,c6,c7,c8,c9,c10,c11⟩:=h.jO;refine⟨⟨d _ _ _ O c0,d _ _ _ O c1,d _ _ _ O c2,d _ _ _ O c3,d _ _ _ O c4,d _ _ _ O c5,d _ _ _ O c6,d _ _ _ O c7,d _ _ _ O c8,d _ _ _ O c9,d _ _ _ O c10,d _ _ _ O c11⟩,⟨m,d _ _ _ O hm⟩,?_,XV h.size i.size,d _ _ _ O h.mo,d _ _ _ O h.tu,d _ _ _ O h.we,d _ _ _ O h.th,d _ _ _ O h.fr,d _ _ _ O h.sa,d _ _ _ O h.su⟩;have f:=h.pow;unfold Lib.TabIs World.var? at f ⊢;simp only[xR,Option.bind_some] at f ⊢;rw[i.block 1 O];exact f
theorem jg{p:Prop}(h:XD B x y)(k:XD B x y->p):XD B x y/\p:=⟨h,k h⟩
theorem PJ(n:Xn)(u a b:N)(w:XA)(j:Env w)(u0:0<=u)(u1:u<=9999999)(A:0<=a)(t:a<=1048320)(r:0<=b)(o:b<=1048320):XE prog 290 #[XN #[n,u,a,b]] w fun e w'=>WR w w' [iO,n,Txt.bF u,dU a,dU b] e:=by
 go_in;go_wp21;obtain⟨X,h⟩:∃ X,X=w.alloc (XS #[n,u,a,b] 148):=⟨_,rfl⟩;rw[<- h];have d:XD w w X:=by rw[h];exact aS
 have l:=j.later d;refine (De iO n u a b X l u0 u1 A t r o).mono ?_;rintro e w4 ⟨v,rfl,i,f⟩;go_wp2;go_ret;exact⟨v,rfl,ow i d.size,iX d f⟩
theorem PN(n:Xn)(u a b m:N)(w:XA)(he:Env w)(u0:0<=u)(u1:u<=9999999)(a0:0<=a)(a1:a<=1048320)(b0:0<=b)(b1:b<=1048320)(m0:0<=m)(m1:m<=9999999):XE prog 296 #[XN #[n,u,a,b,m]] w fun e w'=>WR w w' [iD,n,Txt.bF u,dU a,dU b,Txt.bF m] e:=by
 obtain⟨i0,T,S,P,I⟩:=info_parts qj;go_in;go_wp21;obtain⟨X,f⟩:∃ X,X=w.alloc (XS #[n,u,a,b,m] 150):=⟨_,rfl⟩;rw[<- f];have r:XD w w X:=by rw[f];exact aS
 have eX:=he.later r;have l:w+1<=X.heap.size:=by rw[f];simp
 have ab:10<=w.heap.size+1:=by have:=he.size;omega
 have G:X.cell? (w,0)=U ↑n:=by rw[f];simp
 have F:X.cell? (w,1)=U ↑u:=by rw[f];simp
 have D:X.cell? (w,2)=U ↑a:=by rw[f];simp
 have C:X.cell? (w,3)=U ↑b:=by rw[f];simp
 have A:X.cell? (w,4)=U ↑m:=by rw[f];simp
 have bX:=zr (w.heap.size+1) X;have hZ:X=w.heap.size+1:=by rw[f];simp
 clear f he;go_region_held3 (fun w'=>XD (w.heap.size+1) X w'/\w'.cell? (w,0)=U ↑n/\w'.cell? (w,1)=U ↑u/\w'.cell? (w,2)=U ↑a/\w'.cell? (w,3)=U ↑b/\w'.cell? (w,4)=U ↑m)
  (first
   |(go_split_ands;exact jg (jT l Xe h) (fun d=>⟨(d.cell (p:=(w,0)) Xc).trans G,(d.cell (p:=(w,1)) Xc).trans F,(d.cell (p:=(w,2)) Xc).trans D,(d.cell (p:=(w,3)) Xc).trans C,(d.cell (p:=(w,4)) Xc).trans A⟩))
   |(go_split_ands;exact jg (jT l Xe aS) (fun d=>⟨(d.cell (p:=(w,0)) Xc).trans G,(d.cell (p:=(w,1)) Xc).trans F,(d.cell (p:=(w,2)) Xc).trans D,(d.cell (p:=(w,3)) Xc).trans C,(d.cell (p:=(w,4)) Xc).trans A⟩))
   |(go_split_ands;exact jg (jT l Xe (ia _)) (fun d=>⟨(d.cell (p:=(w,0)) Xc).trans G,(d.cell (p:=(w,1)) Xc).trans F,(d.cell (p:=(w,2)) Xc).trans D,(d.cell (p:=(w,3)) Xc).trans C,(d.cell (p:=(w,4)) Xc).trans A⟩))
   |(go_split_ands;exact jg (Below.grown Xe j Xh (fun k d=>lH o d)) (fun d=>⟨(d.cell (p:=(w,0)) Xc).trans G,(d.cell (p:=(w,1)) Xc).trans F,(d.cell (p:=(w,2)) Xc).trans D,(d.cell (p:=(w,3)) Xc).trans C,(d.cell (p:=(w,4)) Xc).trans A⟩)))
  (first
   |(go_at_call 291;go_split_ands;refine (De iD n u a b _ (Env.later eX (by rw[hZ];assumption)) u0 u1 a0 a1 b0 b1).mono ?_;rintro e w4 ⟨v1,rfl,ho,h⟩)
   |(go_at_call 289;go_split_ands;have o:=ow (base':=w.heap.size+1) ho Xh;refine aK (nu m _ (Env.later eX (by rw[hZ];assumption)) O O) fun w5 h=>?_;have ae:=pG (B:=w.heap.size+1) (x:=X) Xe h)
   |((refine step_append_lies _ (by rfl) _ _ _ (by rfl) (w.heap.size+1) 9 i0 _ 1 16 underlying78 T S P I rfl O v1 5 ([iD,n,Txt.bF u,dU a,dU b].map XK) (by rfl) ((nQ o h).alloc _) (w5,0) 1 1 [Txt.bF m] (by rfl) (by rfl) (Zf (cs:=#[Txt.bF m]) (t:=9) (fr:=(0,0)) (heap_alloc_new _ _)) Xl O Xk O Xh (w5.heap.size+1) Xc ?_;intro g cap w6 i j af ad)))
 go_split_ands;have aa:XD (w.heap.size+1) X w6:=Xe;have ac:=hide aa;go_wp2;go_ret;exact⟨_,rfl,ow i O,r.trans (ac.mono O)⟩
theorem PQ(n:Xn)(u a b m:N)(w:XA)(he:Env w)(u0:0<=u)(u1:u<=9999999)(a0:0<=a)(a1:a<=1048320)(b0:0<=b)(b1:b<=1048320)(m0:0<=m)(m1:m<=9999999):XE prog 297 #[XN #[n,u,a,b,m]] w fun e w'=>WR w w' [iE,n,Txt.bF u,dU a,dU b,Txt.bF m] e:=by
 obtain⟨i0,aa,T,S,P⟩:=info_parts qj;go_in;go_wp21;obtain⟨X,f⟩:∃ X,X=w.alloc (XS #[n,u,a,b,m] 151):=⟨_,rfl⟩;rw[<- f];have r:XD w w X:=by rw[f];exact aS
 have eX:=he.later r;have l:w+1<=X.heap.size:=by rw[f];simp
 have ab:10<=w.heap.size+1:=by have:=he.size;omega
 have I:X.cell? (w,0)=U ↑n:=by rw[f];simp
 have G:X.cell? (w,1)=U ↑u:=by rw[f];simp
 have F:X.cell? (w,2)=U ↑a:=by rw[f];simp
 have D:X.cell? (w,3)=U ↑b:=by rw[f];simp
 have C:X.cell? (w,4)=U ↑m:=by rw[f];simp
 have bX:=zr (w.heap.size+1) X;have hZ:X=w.heap.size+1:=by rw[f];simp
 clear f he;go_region_held3 (fun w'=>XD (w.heap.size+1) X w'/\w'.cell? (w,0)=U ↑n/\w'.cell? (w,1)=U ↑u/\w'.cell? (w,2)=U ↑a/\w'.cell? (w,3)=U ↑b/\w'.cell? (w,4)=U ↑m)
  (first
   |(go_split_ands;exact jg (jT l Xe h) (fun d=>⟨(d.cell (p:=(w,0)) Xc).trans I,(d.cell (p:=(w,1)) Xc).trans G,(d.cell (p:=(w,2)) Xc).trans F,(d.cell (p:=(w,3)) Xc).trans D,(d.cell (p:=(w,4)) Xc).trans C⟩))
   |(go_split_ands;exact jg (jT l Xe aS) (fun d=>⟨(d.cell (p:=(w,0)) Xc).trans I,(d.cell (p:=(w,1)) Xc).trans G,(d.cell (p:=(w,2)) Xc).trans F,(d.cell (p:=(w,3)) Xc).trans D,(d.cell (p:=(w,4)) Xc).trans C⟩))
   |(go_split_ands;exact jg (jT l Xe (ia _)) (fun d=>⟨(d.cell (p:=(w,0)) Xc).trans I,(d.cell (p:=(w,1)) Xc).trans G,(d.cell (p:=(w,2)) Xc).trans F,(d.cell (p:=(w,3)) Xc).trans D,(d.cell (p:=(w,4)) Xc).trans C⟩))
   |(go_split_ands;exact jg (Below.grown Xe j Xh (fun k d=>lH o d)) (fun d=>⟨(d.cell (p:=(w,0)) Xc).trans I,(d.cell (p:=(w,1)) Xc).trans G,(d.cell (p:=(w,2)) Xc).trans F,(d.cell (p:=(w,3)) Xc).trans D,(d.cell (p:=(w,4)) Xc).trans C⟩)))
  (first
   |(go_at_call 291;go_split_ands;refine (De iE n u a b _ (Env.later eX (by rw[hZ];assumption)) u0 u1 a0 a1 b0 b1).mono ?_;rintro e w4 ⟨v1,rfl,ho,h⟩)
   |(go_at_call 289;go_split_ands;have o:=ow (base':=w.heap.size+1) ho Xh;refine aK (nu m _ (Env.later eX (by rw[hZ];assumption)) O O) fun w5 h=>?_;have ae:=pG (B:=w.heap.size+1) (x:=X) Xe h)
   |((refine step_append_lies _ (by rfl) _ _ _ (by rfl) (w.heap.size+1) 9 i0 _ 1 16 underlying78 aa T S P rfl O v1 5 ([iE,n,Txt.bF u,dU a,dU b].map XK) (by rfl) ((nQ o h).alloc _) (w5,0) 1 1 [Txt.bF m] (by rfl) (by rfl) (Zf (cs:=#[Txt.bF m]) (t:=9) (fr:=(0,0)) (heap_alloc_new _ _)) Xl O Xk O Xh (w5.heap.size+1) Xc ?_;intro g cap w6 i j af ad)))
 go_split_ands;have A:XD (w.heap.size+1) X w6:=Xe;have ac:=hide A;clear A;go_wp2;go_ret;exact⟨_,rfl,ow i O,r.trans (ac.mono O)⟩
theorem Qb(n:Xn)(a b:N)(w:XA) :XE prog 304 #[XN #[n,Xy,a,b]] w fun e w'=>WR w w' [dC,n] e:=by
 go_in;go_wp2;go_ret;have e:=heap_alloc_new (w.alloc (XS #[n,Xy,a,b] 163)) (XS #[dC,n] 9);rw[show (w.alloc (XS #[n,Xy,a,b] 163)).heap.size=w.heap.size+1 from by simp] at e;exact⟨_,rfl,oR w _ [dC,n] _ Xc e (show 2<=160 by omega),iX aS aS⟩
theorem Qc(n:Xn)(a b:N)(w:XA)(he:Env w)(a0:0<=a)(a1:a<=1048320)(b0:0<=b)(b1:b<=1048320):XE prog 304 #[XN #[n,Xz,a,b]] w fun e w'=>WR w w' [dC,n,dU a,dU b] e:=by
 obtain⟨i0,aa,S,P,I⟩:=info_parts qj;go_in;go_wp21;obtain⟨X,f⟩:∃ X,X=(w.alloc (XS #[n,Xz,a,b] 163)).alloc (XS #[XK ⟨#[108,105,115,116]⟩,n] 9):=⟨_,rfl⟩;rw[<- f];have u:XD w w X:=by rw[f];exact aS.alloc Xc _
 have eX:=he.later u;have r:w+1<=X.heap.size:=by rw[f];simp
 have o:10<=w.heap.size+1:=by have:=he.size;omega
 have G:X.cell? (w,0)=U ↑n:=by rw[f];simp
 have F:X.cell? (w,1)=U ↑Xz:=by rw[f];simp
 have D:X.cell? (w,2)=U ↑a:=by rw[f];simp
 have C:X.cell? (w,3)=U ↑b:=by rw[f];simp
 have hZ:X=w.heap.size+2:=by rw[f];simp
 have T:X.ownsRow (w.heap.size+1) 9 1 (XJ (U ⟨w.heap.size+1,0,Z⟩) 2 2) 2 ([XK ⟨#[108,105,115,116]⟩,n]):=by refine⟨rfl,.inr ⟨w.heap.size+1,2,#[XK ⟨#[108,105,115,116]⟩,n],rfl,XT _,?_,XT _,by decide,rfl,rfl⟩⟩;rw[f];have e:=heap_alloc_new (w.alloc (XS #[n,Xz,a,b] 163)) (XS #[XK ⟨#[108,105,115,116]⟩,n] 9);rw[show (w.alloc (XS #[n,Xz,a,b] 163)).heap.size=w.heap.size+1 from by simp] at e;exact e
 have bX:=zr (w.heap.size+1) X;clear f he;have h:=T.drew;go_region_held3 (fun w'=>XD (w.heap.size+1) X w'/\w'.cell? (w,0)=U ↑n/\w'.cell? (w,1)=U ↑Xz/\w'.cell? (w,2)=U ↑a/\w'.cell? (w,3)=U ↑b)
  (first
   |(go_split_ands;exact jg (jT r Xe l) (fun d=>⟨(d.cell (p:=(w,0)) Xc).trans G,(d.cell (p:=(w,1)) Xc).trans F,(d.cell (p:=(w,2)) Xc).trans D,(d.cell (p:=(w,3)) Xc).trans C⟩))
   |(go_split_ands;exact jg (jT r Xe aS) (fun d=>⟨(d.cell (p:=(w,0)) Xc).trans G,(d.cell (p:=(w,1)) Xc).trans F,(d.cell (p:=(w,2)) Xc).trans D,(d.cell (p:=(w,3)) Xc).trans C⟩))
   |(go_split_ands;exact jg (jT r Xe (ia _)) (fun d=>⟨(d.cell (p:=(w,0)) Xc).trans G,(d.cell (p:=(w,1)) Xc).trans F,(d.cell (p:=(w,2)) Xc).trans D,(d.cell (p:=(w,3)) Xc).trans C⟩))
   |(go_split_ands;exact jg (Below.grown Xe j Xh (fun k d=>lH h d)) (fun d=>⟨(d.cell (p:=(w,0)) Xc).trans G,(d.cell (p:=(w,1)) Xc).trans F,(d.cell (p:=(w,2)) Xc).trans D,(d.cell (p:=(w,3)) Xc).trans C⟩)))
  (first
   |(go_at_call 292;go_split_ands;refine aK (Aj _ _ (eX.jj o Xe) O O) fun w5 l=>?_;have ad:=pG (B:=w.heap.size+1) (x:=X) Xe l;have h:=nQ h l)
   |((refine step_append_lies _ (by rfl) _ _ _ (by rfl) (w.heap.size+1) 9 i0 _ 1 16 underlying78 aa S P I rfl O (.slice (U ⟨w.heap.size+1,0,Z⟩) 2 2) 2 ([XK ⟨#[108,105,115,116]⟩,n]) (by rfl) (h.alloc _) (w5,0) 2 2 [dU a,dU b] (by rfl) (by rfl) (Zf (cs:=#[dU a,dU b]) (t:=9) (fr:=(0,0)) (heap_alloc_new _ _)) Xl O Xk O Xh (w5.heap.size+1) Xc ?_;intro g cap w6 i j ae ac)))
 go_split_ands;have A:XD (w.heap.size+1) X w6:=Xe;have ab:=hide A;clear A;go_wp2;go_ret;exact⟨_,rfl,ow i O,u.trans (ab.mono O)⟩
theorem QJ(k:M)(h:k<7):[XK ⟨#[109,111]⟩,XK ⟨#[116,117]⟩,XK ⟨#[119,101]⟩,XK ⟨#[116,104]⟩,XK ⟨#[102,114]⟩,XK ⟨#[115,97]⟩,XK ⟨#[115,117]⟩][k]?=U (XK (nM k)):=by rcases (show k=0\/k=1\/k=2\/k=3\/k=4\/k=5\/k=6 by omega) with rfl|rfl|rfl|rfl|rfl|rfl|rfl <;> rfl
theorem DS.nat{b:M}(h:DS w b acc)(k:M)(d:k<7):w.cell? (b,k)=U (XL (aI acc k)):=by have:=h.at k O O;simpa using this
theorem RT(sym w:Xn)(W:XA)(hs:w.size<=160)(ho:Txt.fF w=Xz)
  (c0:(sym.toList==[85,78,73,84,83])=Xy) (c1:(sym.toList==[77,73,78,85,84,69,83])=Xy) (c2:(sym.toList==[69,86,69,82,89])=Xy) (c3:(sym.toList==[73,68])=Xy) (c4:(sym.toList==[84,73,77,69])=Xy) (c5:(sym.toList==[79,78])=Xz):
  XE prog 29 #[sym,w] W fun e w'=>e=XR (py w)/\XD W W w':=by
 go_in;go_wp21;refine (Cc w W hs).mono ?_;rintro e C ⟨⟨acc,rfl,l⟩,t⟩;have P:=hide (l ho);have HS:=hide (GO (aO P));have HW:Hid (py w=ug acc):=by show py w=_;unfold py;rw[aO P]
 clear l;unfold gD;go_wp2;obtain⟨X,u⟩:∃ X,X=C.alloc (XS #[aI acc 0,aI acc 1,aI acc 2,aI acc 3,aI acc 4,aI acc 5,aI acc 6] 116):=⟨_,rfl⟩;rw[<- u];have F:XD W W X:=by rw[u];exact t.alloc t.size _
 have dX:DS X C acc:=by rw[u];refine⟨?_,?_,?_,?_,?_,?_,?_,fun j=>?_⟩ <;> simp
 have aa:C+1=X.heap.size:=by rw[u];simp
 clear u;go_loopw [12,13] (fun o i wx=>∃ k:M,k<=7/\i=V Y k/\o=XK (jm acc k)/\DS wx C acc/\XD W W wx) (fun _ i _=>7-(intOf i).toNat)
 .exact⟨0,O,rfl,rfl,dX,F⟩
 .obtain⟨k,hk,rfl,rfl,G,h⟩:=hrel;have oz:=Ad acc k
  by_cases f:k<7
  .have hi:(k:N)<7:=O
   have ab:(0:N)<=(k:N):=Int.natCast_nonneg _;have I:=G.nat k f;have hl:([XK ⟨#[109,111]⟩,XK ⟨#[116,117]⟩,XK ⟨#[119,101]⟩,XK ⟨#[116,104]⟩,XK ⟨#[102,114]⟩,XK ⟨#[115,97]⟩,XK ⟨#[115,117]⟩][k]'f)=XK (nM k):=Zo ((Zv f).symm.trans (QJ k f));have T:=CG k;have S:(nM k).size<=2:=O;clear T;have d:jm acc (k+1)=if aI acc k then jm acc k++⟨#[44]⟩++nM k else jm acc k:=rfl;have A:=hide d;clear d
   cases D:aI acc k
   .rw[D] at I;have r:Hid (jm acc (k+1)=jm acc k):=(aO A).trans (by rw[D];rfl);go_wp2;exact⟨⟨k+1,O,by go_num,by rw[r],G,h⟩,by simp[intOf];omega⟩
   .rw[D] at I;have r:Hid (jm acc (k+1)=jm acc k++⟨#[44]⟩++nM k):=(aO A).trans (by rw[D];rfl);go_wp2;exact⟨⟨k+1,O,by go_num,by rw[r],G.later aS,h.alloc h.size _⟩,by simp[intOf];omega⟩
  .obtain rfl:k=7:=O
   have h1:(1:N)<=((jm acc 7).size:N):=by have:=aO HS;omega
   go_wp2;go_ret;exact⟨zU (by rw[HW];rfl),h⟩
theorem Qi{w:Xn}(l:(sym.toList==[85,78,73,84,83])=Xy)(j:(sym.toList==[77,73,78,85,84,69,83])=Xy)(i:(sym.toList==[69,86,69,82,89])=Xy)(h:(sym.toList==[73,68])=Xy)(f:(sym.toList==[84,73,77,69])=Xy)(d:(sym.toList==[79,78])=Xy):bA sym w=w:=by simp[bA,l,j,i,h,f,d]
theorem Ic{w:Xn}(h:(sym.toList==[84,73,77,69])=Xz)(d:bH sym w=Xz):0<=eJ w:=by have e:=beq_iff_eq.1 h;unfold bH at d;rw[e] at d;simpa using d
theorem Pz{w:Xn}(h:(sym.toList==[79,78])=Xz)(d:bH sym w=Xz):Txt.fF w=Xz:=by have e:=beq_iff_eq.1 h;unfold bH at d;rw[e] at d;simpa using d
theorem I3(sym w:Xn)(W:XA)(o:Env W)(l:w.size<=160)(t:bH sym w=Xz):XE prog 29 #[sym,w] W fun e w'=>e=XR (bA sym w)/\XD W W w':=by
 cases d:(sym.toList==[85,78,73,84,83])
 case true =>rw[show bA sym w=Txt.bF (cB w 1 7) from by simp[bA,d]];exact Al sym w W o l (.inl d)
 cases f:(sym.toList==[77,73,78,85,84,69,83])
 case true =>rw[show bA sym w=Txt.bF (cB w 1 7) from by simp[bA,d,f]];exact Al sym w W o l (.inr (.inl ⟨d,f⟩))
 cases h:(sym.toList==[69,86,69,82,89])
 case true =>rw[show bA sym w=Txt.bF (cB w 1 7) from by simp[bA,d,f,h]];exact Al sym w W o l (.inr (.inr (.inl ⟨d,f,h⟩)))
 cases i:(sym.toList==[73,68])
 case true =>rw[show bA sym w=Txt.bF (cB w 1 7) from by simp[bA,d,f,h,i]];exact Al sym w W o l (.inr (.inr (.inr ⟨d,f,h,i⟩)))
 cases j:(sym.toList==[84,73,77,69])
 case true =>rw[show bA sym w=dU (eJ w) from by simp[bA,d,f,h,i,j]];exact Ss sym w W o l (Ic j t) d f h i j
 cases r:(sym.toList==[79,78])
 case true =>rw[show bA sym w=py w from by simp[bA,d,f,h,i,j,r]];exact RT sym w W l (Pz r t) d f h i j r
 rw[Qi d f h i j r];refine (Sv sym w W d f h i j r).mono ?_;rintro e w' ⟨rfl,rfl⟩;exact⟨rfl,Below.refl _ _⟩
def iz(acc:J N):M->J Xn
 |0=>[]
 |k+1=>if aI acc k then iz acc k++[nM k] else iz acc k
theorem Hg(acc:J N):∀ k:M,(iz acc k).length<=k:=by simp_all[zq,Hg,iz]
theorem Env.day(h:Env w)(k:M)(d:k<7):w.cell? (5,k)=U (XK (nM k)):=by
 rcases (show k=0\/k=1\/k=2\/k=3\/k=4\/k=5\/k=6 by omega) with rfl|rfl|rfl|rfl|rfl|rfl|rfl
 .exact h.mo
 .exact h.tu
 .exact h.we
 .exact h.th
 .exact h.fr
 .exact h.sa
 .exact h.su
def nH(acc:J N):Xn:=⟨(Lib.join ((iz acc 7).map (·.data.toList)) [44]).toArray⟩
theorem RY(acc:J N)(w:XA)(he:Env w)(D:iz acc 7≠[])(A:(Lib.join ((iz acc 7).map (·.data.toList)) [44]).length<=160):XE prog 301 #[gD acc] w fun e w'=>e=XR (nH acc)/\XD w w w':=by
 obtain⟨i0,hi,ae,ad,ac⟩:=info_parts qj;have HE:=hide he;have av:=he.size;have ak:=hide D;have ab:=hide A;clear he D A;simp only[gD];go_in;go_wp2;obtain⟨X,S⟩:∃ X,X=w.alloc (XS #[aI acc 0,aI acc 1,aI acc 2,aI acc 3,aI acc 4,aI acc 5,aI acc 6] 153):=⟨_,rfl⟩;rw[<- S];have aj:XD (w.heap.size+1) X X:=zr _ _;have I:XD w w X:=by rw[S];exact aS
 have dX:DS X w acc:=by rw[S];refine⟨?_,?_,?_,?_,?_,?_,?_,fun j=>?_⟩ <;> simp
 have ao:w+1=X.heap.size:=by rw[S];simp
 have HX:=hide ((aO HE).later I);clear S;go_loopw [3,4,5] (fun v _ i wx=>∃ k:M,k<=7/\i=V Y k/\wx.ownsRow (w.heap.size+1) 9 1 v (iz acc k).length ((iz acc k).map XK)/\XD (w.heap.size+1) X wx) (fun _ _ i _=>7-(intOf i).toNat)
 .exact⟨0,O,rfl,World.ownsRow_nil _ _ _ _,aj⟩
 .obtain⟨k,hk,rfl,d,f⟩:=hrel;have aq:=Hg acc k
  by_cases F:k<7
  .have au:(k:N)<7:=O
   have ar:(0:N)<=(k:N):=Int.natCast_nonneg _;have hc:wr.cell? ⟨w.heap.size,k,Z⟩=U (XL (aI acc k)):=(f.cell (p:=⟨w.heap.size,k,Z⟩) Xc).trans (dX.nat k F);have an:wr.cell? ⟨5,k,Z⟩=U (XK (nM k)):=(f.cell (p:=⟨5,k,Z⟩) (show 5<w.heap.size+1 by omega)).trans ((aO HX).day k F);have o:iz acc (k+1)=if aI acc k then iz acc k++[nM k] else iz acc k:=rfl;have T:=hide o;clear o;have al:=f.size
   cases hm:aI acc k
   .rw[hm] at hc;have C:Hid (iz acc (k+1)=iz acc k):=(aO T).trans (by rw[hm];rfl);go_wp2;exact⟨⟨k+1,O,by go_num,by rw[C];exact d,f⟩,by simp[intOf];omega⟩
   .rw[hm] at hc;have C:Hid (iz acc (k+1)=iz acc k++[nM k]):=(aO T).trans (by rw[hm];rfl)
    go_wp2_with (first
     |(at_builtin;refine wpList_append_own _ rfl _ _ 78 rfl (w.heap.size+1) 9 i0 (XK ⟨#[]⟩) 1 16 underlying78 hi ae ad ac rfl Xd _ _ _ rfl (d.alloc _) (wr,0) 1 1 [nM k] rfl rfl ?c1 ?c2 ?c3 ?c4 ?c5 ?_))
    .exact Zf (cs:=#[nM k]) (heap_alloc_new wr _)
    .simp[Zg]
    .unfold maxLen;omega
    .omega
    .simp;omega
    intro v' w' r t _;have P:XD (w.heap.size+1) X w':=(f.alloc O _).grown t Xh (fun k hk=>lH d hk);have HO:Hid (w'.ownsRow (w.heap.size+1) 9 1 v' (iz acc (k+1)).length ((iz acc (k+1)).map XK)):=by show w'.ownsRow _ _ _ _ _ _;rw[C,YT,Yy];exact ow r O
    clear r t;go_wp2;exact⟨⟨k+1,O,by go_num,HO,P⟩,by simp[intOf];omega⟩
  .obtain rfl:k=7:=O
   obtain⟨a,c,g,rfl,l⟩:=xH d rfl;have u:0<(iz acc 7).length:=List.length_pos_iff.2 (aO ak);obtain rfl:=l.at_ u;have aa:=hide l;have G:(iz acc 7).length<=c:=by
    rcases d.2 with ⟨h,_⟩|⟨g',cap,aw,hv,_,_,hc,_⟩
    .cases h
    .cases hv;exact hc
   have af:g<wr:=XW _ (g,0) (l.cells 0 u);clear d l;go_wp21;refine (strings_Join g 0 c (iz acc 7) ⟨#[44]⟩ wr (fun j x hx=>?_) af O G (XV (aO ab) O)).mono ?_
   .obtain⟨hj,e⟩:=List.getElem?_eq_some_iff.1 hx;have:=(aO aa).cells j hj;rw[e] at this;rw[Nat.zero_add];exact this
   rintro e w' ⟨rfl,ag⟩;have ai:=I.trans (Below.trans (f.mono O) (ag.mono (by have:=f.size;omega)));go_wp2;go_ret;exact⟨rfl,ai⟩
theorem Rv(ev:N)(acc:J N)(fr mn mi ti un:N)(w:XA)(l:Env w)(t:0<=ev)(r:ev<=9999999):XE prog 300 #[ki 1 ev acc fr mn mi ti un] w fun e w'=>WR w w' [fZ,Txt.bF ev] e:=by
 simp only[ki];go_in;go_wp21;obtain⟨X,j⟩:∃ X,X=w.alloc (XS #[V Y 1,ev,aI acc 0,aI acc 1,aI acc 2,aI acc 3,aI acc 4,aI acc 5,aI acc 6,fr,mn,mi,ti,un] 155):=⟨_,rfl⟩;rw[<- j];have d:XD w w X:=by rw[j];exact aS
 have o:=l.later d;refine aK (nu ev X o O O) fun w4 i=>?_;have f:=iX d i;have h:=f.size;go_wp2;go_ret;exact⟨_,rfl,oR w _ [fZ,Txt.bF ev] w4 h (heap_alloc_new w4 _) (show 2<=160 by omega),iX f aS⟩
theorem Se(ev:N)(acc:J N)(fr mn mi ti un:N)(w:XA)(l:Env w)(t:0<=ev)(r:ev<=9999999):XE prog 300 #[ki 3 ev acc fr mn mi ti un] w fun e w'=>WR w w' [gg,Txt.bF ev] e:=by
 simp only[ki];go_in;go_wp21;obtain⟨X,j⟩:∃ X,X=w.alloc (XS #[V Y 3,ev,aI acc 0,aI acc 1,aI acc 2,aI acc 3,aI acc 4,aI acc 5,aI acc 6,fr,mn,mi,ti,un] 155):=⟨_,rfl⟩;rw[<- j];have d:XD w w X:=by rw[j];exact aS
 have o:=l.later d;refine aK (nu ev X o O O) fun w4 i=>?_;have f:=iX d i;have h:=f.size;go_wp2;go_ret;exact⟨_,rfl,oR w _ [gg,Txt.bF ev] w4 h (heap_alloc_new w4 _) (show 2<=160 by omega),iX f aS⟩
theorem RZ(ev:N)(acc:J N)(fr mn mi ti un:N)(w:XA)(he:Env w)(e0:0<=ev)(e1:ev<=9999999)(A:iz acc 7≠[])(t:(Lib.join ((iz acc 7).map (·.data.toList)) [44]).length<=160):XE prog 300 #[ki 2 ev acc fr mn mi ti un] w fun e w'=>WR w w' [fU,Txt.bF ev,nH acc] e:=by
 have ab:=hide A;have F:=hide t;clear A t;simp only[ki];go_in;go_wp21;obtain⟨X,f⟩:∃ X,X=w.alloc (XS #[V Y 2,ev,aI acc 0,aI acc 1,aI acc 2,aI acc 3,aI acc 4,aI acc 5,aI acc 6,fr,mn,mi,ti,un] 155):=⟨_,rfl⟩;rw[<- f];have C:XD w w X:=by rw[f];exact aS
 have eX:=he.later C;have r:w+1<=X.heap.size:=by rw[f];simp
 have h:10<=w.heap.size+1:=by have:=he.size;omega
 have x0:X.cell? (w,0)=U (V Y 2):=by rw[f];simp
 have x1:X.cell? (w,1)=U ↑ev:=by rw[f];simp
 have x2:X.cell? (w,2)=U (XL (aI acc 0)):=by rw[f];simp
 have x3:X.cell? (w,3)=U (XL (aI acc 1)):=by rw[f];simp
 have x4:X.cell? (w,4)=U (XL (aI acc 2)):=by rw[f];simp
 have T:X.cell? (w,5)=U (XL (aI acc 3)):=by rw[f];simp
 have S:X.cell? (w,6)=U (XL (aI acc 4)):=by rw[f];simp
 have P:X.cell? (w,7)=U (XL (aI acc 5)):=by rw[f];simp
 have I:X.cell? (w,8)=U (XL (aI acc 6)):=by rw[f];simp
 have G:X.cell? (w,9)=U ↑fr:=by rw[f];simp
 have o:X.cell? (w,10)=U ↑mn:=by rw[f];simp
 have l:X.cell? (w,11)=U ↑mi:=by rw[f];simp
 have j:X.cell? (w,12)=U ↑ti:=by rw[f];simp
 have i:X.cell? (w,13)=U ↑un:=by rw[f];simp
 have bX:=zr (w.heap.size+1) X;clear f he;have ae:=r;go_region_held3 (fun w'=>XD (w.heap.size+1) X w'/\w'.cell? ⟨w.heap.size,0,Z⟩=U (V Y 2)/\w'.cell? ⟨w.heap.size,1,Z⟩=U (V Y ev)/\w'.cell? ⟨w.heap.size,2,Z⟩=U (XL (aI acc 0))/\w'.cell? ⟨w.heap.size,3,Z⟩=U (XL (aI acc 1))/\w'.cell? ⟨w.heap.size,4,Z⟩=U (XL (aI acc 2))/\w'.cell? ⟨w.heap.size,5,Z⟩=U (XL (aI acc 3))/\w'.cell? ⟨w.heap.size,6,Z⟩=U (XL (aI acc 4))/\w'.cell? ⟨w.heap.size,7,Z⟩=U (XL (aI acc 5))/\w'.cell? ⟨w.heap.size,8,Z⟩=U (XL (aI acc 6))/\w'.cell? ⟨w.heap.size,9,Z⟩=U (V Y fr)/\w'.cell? ⟨w.heap.size,10,Z⟩=U (V Y mn)/\w'.cell? ⟨w.heap.size,11,Z⟩=U (V Y mi)/\w'.cell? ⟨w.heap.size,12,Z⟩=U (V Y ti)/\w'.cell? ⟨w.heap.size,13,Z⟩=U (V Y un))
  (first
   |(go_split_ands;exact jg (jT r Xe u) (fun d=>⟨(d.cell (p:=(w,0)) Xc).trans x0,(d.cell (p:=(w,1)) Xc).trans x1,(d.cell (p:=(w,2)) Xc).trans x2,(d.cell (p:=(w,3)) Xc).trans x3,(d.cell (p:=(w,4)) Xc).trans x4,(d.cell (p:=(w,5)) Xc).trans T,(d.cell (p:=(w,6)) Xc).trans S,(d.cell (p:=(w,7)) Xc).trans P,(d.cell (p:=(w,8)) Xc).trans I,(d.cell (p:=(w,9)) Xc).trans G,(d.cell (p:=(w,10)) Xc).trans o,(d.cell (p:=(w,11)) Xc).trans l,(d.cell (p:=(w,12)) Xc).trans j,(d.cell (p:=(w,13)) Xc).trans i⟩))
   |(go_split_ands;exact jg (jT r Xe aS) (fun d=>⟨(d.cell (p:=(w,0)) Xc).trans x0,(d.cell (p:=(w,1)) Xc).trans x1,(d.cell (p:=(w,2)) Xc).trans x2,(d.cell (p:=(w,3)) Xc).trans x3,(d.cell (p:=(w,4)) Xc).trans x4,(d.cell (p:=(w,5)) Xc).trans T,(d.cell (p:=(w,6)) Xc).trans S,(d.cell (p:=(w,7)) Xc).trans P,(d.cell (p:=(w,8)) Xc).trans I,(d.cell (p:=(w,9)) Xc).trans G,(d.cell (p:=(w,10)) Xc).trans o,(d.cell (p:=(w,11)) Xc).trans l,(d.cell (p:=(w,12)) Xc).trans j,(d.cell (p:=(w,13)) Xc).trans i⟩))
   |(go_split_ands;exact jg (jT r Xe (ia _)) (fun d=>⟨(d.cell (p:=(w,0)) Xc).trans x0,(d.cell (p:=(w,1)) Xc).trans x1,(d.cell (p:=(w,2)) Xc).trans x2,(d.cell (p:=(w,3)) Xc).trans x3,(d.cell (p:=(w,4)) Xc).trans x4,(d.cell (p:=(w,5)) Xc).trans T,(d.cell (p:=(w,6)) Xc).trans S,(d.cell (p:=(w,7)) Xc).trans P,(d.cell (p:=(w,8)) Xc).trans I,(d.cell (p:=(w,9)) Xc).trans G,(d.cell (p:=(w,10)) Xc).trans o,(d.cell (p:=(w,11)) Xc).trans l,(d.cell (p:=(w,12)) Xc).trans j,(d.cell (p:=(w,13)) Xc).trans i⟩))
   |(go_split_ands;exact jg (Below.grown Xe hgrow Xh (fun k d=>lH hoN d)) (fun d=>⟨(d.cell (p:=(w,0)) Xc).trans x0,(d.cell (p:=(w,1)) Xc).trans x1,(d.cell (p:=(w,2)) Xc).trans x2,(d.cell (p:=(w,3)) Xc).trans x3,(d.cell (p:=(w,4)) Xc).trans x4,(d.cell (p:=(w,5)) Xc).trans T,(d.cell (p:=(w,6)) Xc).trans S,(d.cell (p:=(w,7)) Xc).trans P,(d.cell (p:=(w,8)) Xc).trans I,(d.cell (p:=(w,9)) Xc).trans G,(d.cell (p:=(w,10)) Xc).trans o,(d.cell (p:=(w,11)) Xc).trans l,(d.cell (p:=(w,12)) Xc).trans j,(d.cell (p:=(w,13)) Xc).trans i⟩)))
  (first
   |(go_at_call 289;go_split_ands;refine aK (nu _ _ (eX.jj h Xe) O O) fun w4 u=>?_)
   |(go_at_call 301;go_split_ands;refine aK (RY acc _ (eX.jj h Xe) (aO ab) (aO F)) fun w5 u=>?_;have ad:=pG (B:=w.heap.size+1) (x:=X) Xe u))
 go_split_ands;have D:XD (w.heap.size+1) X (w5.alloc (XS #[XK ⟨#[119,101,101,107,108,121]⟩,Txt.bF ev,nH acc] 9)):=Xe;have ac:=hide D;have aa:w<=w5.heap.size:=O;clear D;go_wp2;go_ret;exact⟨_,rfl,oR w _ [fU,Txt.bF ev,nH acc] w5 aa (heap_alloc_new w5 _) (show 3<=160 by omega),C.trans (ac.mono O)⟩
def gL(fr mn mi:N):J Xn:=[cC,fO fr,cN,jf mn,dA,Txt.bF mi]
inductive wT:Xs->Xs->Xo Xs->Xo Xn->Prop where
 |daily (ev:Xs) (acc:Xo Xs) (e0:0<=ev) (e1:ev<=9999999):wT 1 ev acc [fZ,Txt.bF ev]
 |weekly (ev:Xs) (acc:Xo Xs) (e0:0<=ev) (e1:ev<=9999999) (hne:iz acc 7≠[]) (hlen:(Lib.join ((iz acc 7).map (·.data.toList)) [44]).length<=160):wT 2 ev acc [fU,Txt.bF ev,nH acc]
 |monthly (ev:Xs) (acc:Xo Xs) (e0:0<=ev) (e1:ev<=9999999):wT 3 ev acc [gg,Txt.bF ev]
inductive Gi:Xs->Xs->Xo Xn->Prop where
 |times (ti un:Xs) (t0:0<ti) (t1:ti<=9999999):Gi ti un [eU,Txt.bF ti]
 |til (un:Xs) (u0:0<=un) (u1:un<=728):Gi 0 un [fe,fO un]
inductive RW:Xs->Xs->Xo Xs->Xs->Xs->Xs->Xs->Xs->Xo Xn->Prop where
 |mk (pc ev:Xs) (acc:Xo Xs) (fr mn mi ti un:Xs) (ps es:Xo Xn) (hp:wT pc ev acc ps) (he:Gi ti un es) (f0:0<=fr) (f1:fr<=728) (m0:0<=mn) (m1:mn<1440) (i0:0<=mi) (i1:mi<=9999999):RW pc ev acc fr mn mi ti un (ps++gL fr mn mi++es)
inductive PW:XC->Xo Xn->Prop where
 |bI (n:Xn) (u:Xs) (u0:0<=u) (u1:u<=9999999):PW (XP 143 (XN #[XK n,XH XQ u])) [iw,n,Txt.bF u]
 |book (n:Xn) (u a b:Xs) (u0:0<=u) (u1:u<=9999999) (a0:0<=a) (a1:a<=1048320) (b0:0<=b) (b1:b<=1048320):PW (XP 148 (XN #[XK n,XH XQ u,XH XQ a,XH XQ b])) [iO,n,Txt.bF u,dU a,dU b]
 |hold (n:Xn) (u a b m:Xs) (u0:0<=u) (u1:u<=9999999) (a0:0<=a) (a1:a<=1048320) (b0:0<=b) (b1:b<=1048320) (m0:0<=m) (m1:m<=9999999):PW (XP 150 (XN #[XK n,XH XQ u,XH XQ a,XH XQ b,XH XQ m])) [iD,n,Txt.bF u,dU a,dU b,Txt.bF m]
 |wait (n:Xn) (u a b m:Xs) (u0:0<=u) (u1:u<=9999999) (a0:0<=a) (a1:a<=1048320) (b0:0<=b) (b1:b<=1048320) (m0:0<=m) (m1:m<=9999999):PW (XP 151 (XN #[XK n,XH XQ u,XH XQ a,XH XQ b,XH XQ m])) [iE,n,Txt.bF u,dU a,dU b,Txt.bF m]
 |series (n:Xn) (u pc ev:Xs) (acc:Xo Xs) (fr mn mi ti un:Xs) (xs:Xo Xn) (u0:0<=u) (u1:u<=9999999) (hr:RW pc ev acc fr mn mi ti un xs):PW (XP 158 (XN #[XK n,XH XQ u,XH XQ pc,XH XQ ev,XL (aI acc 0),XL (aI acc 1),XL (aI acc 2),XL (aI acc 3),XL (aI acc 4),XL (aI acc 5),XL (aI acc 6),XH XQ fr,XH XQ mn,XH XQ mi,XH XQ ti,XH XQ un])) ([eQ,n,Txt.bF u]++xs)
 |bM (u:Xs) (u0:0<=u) (u1:u<=9999999):PW (XP 160 (XN #[XH XQ u])) [iU,Txt.bF u]
 |cancel (u:Xs) (u0:0<=u) (u1:u<=9999999):PW (XP 161 (XN #[XH XQ u])) [iR,Txt.bF u]
 |list0 (n:Xn) (a b:Xs):PW (XP 163 (XN #[XK n,XL Xy,XH XQ a,XH XQ b])) [dC,n]
 |list1 (n:Xn) (a b:Xs) (a0:0<=a) (a1:a<=1048320) (b0:0<=b) (b1:b<=1048320):PW (XP 163 (XN #[XK n,XL Xz,XH XQ a,XH XQ b])) [dC,n,dU a,dU b]
 |waiting:PW (XP 166 (XN #[])) [iT]
 |ef (n:Xn) (a b:Xs) (a0:0<=a) (a1:a<=1048320) (b0:0<=b) (b1:b<=1048320):PW (XP 169 (XN #[XK n,XH XQ a,XH XQ b])) [ir,n,dU a,dU b]
 |find (n:Xn) (u m a b:Xs) (u0:0<=u) (u1:u<=9999999) (m0:0<=m) (m1:m<=9999999) (a0:0<=a) (a1:a<=1048320) (b0:0<=b) (b1:b<=1048320):PW (XP 171 (XN #[XK n,XH XQ u,XH XQ m,XH XQ a,XH XQ b])) [iq,n,Txt.bF u,Txt.bF m,dU a,dU b]
 |expand (pc ev:Xs) (acc:Xo Xs) (fr mn mi ti un:Xs) (xs:Xo Xn) (hr:RW pc ev acc fr mn mi ti un xs):PW (XP 173 (XN #[XH XQ pc,XH XQ ev,XL (aI acc 0),XL (aI acc 1),XL (aI acc 2),XL (aI acc 3),XL (aI acc 4),XL (aI acc 5),XL (aI acc 6),XH XQ fr,XH XQ mn,XH XQ mi,XH XQ ti,XH XQ un])) ([fA]++xs)
 |tick (u:Xs) (u0:0<=u) (u1:u<=9999999):PW (XP 175 (XN #[XH XQ u])) [iZ,Txt.bF u]
 |clock:PW (XP 176 (XN #[])) [iN]
def jn(d:J Xn):Xn:=⟨(Lib.join (d.map (·.data.toList)) [32]).toArray⟩
open aA (aQ)
structure NV(w:XA)(v:XC)(l:J N):Prop where
 form:∃ a cap,v=XJ a l.length cap
 cell:∀ (k:M) (hk:k<l.length),∃ g cap,v=XJ (U ⟨g,0,Z⟩) l.length cap/\w.cell? (g,k)=U (V Y l[k])
theorem NV.later{l:J N}(h:NV w v l)(k:XD w w w'):NV w' v l :=
 ⟨h.form,fun i d=>by let⟨g,cap,e,a⟩:=h.cell i d;exact⟨g,cap,e,aT k a⟩⟩
structure SV(w:XA)(v:XC)(L:J (N × N)):Prop where
 form:∃ a cap,v=XJ a L.length cap
 cell:∀ (k:M) (hk:k<L.length),∃ g cap,v=XJ (U ⟨g,0,Z⟩) L.length cap/\w.cell? (g,k*2)=U (V Y L[k].1)/\w.cell? (g,k*2+1)=U (V Y L[k].2)
theorem SV.later(h:SV w v L)(k:XD w w w'):SV w' v L :=
 ⟨h.form,fun i d=>by let⟨g,cap,e,a,b⟩:=h.cell i d;exact⟨g,cap,e,aT k a,aT k b⟩⟩
structure EV(w:XA)(v:XC)(l:J (aQ × XC)):Prop where
 form:∃ a cap,v=XJ a l.length cap
 cell:∀ (k:M) (hk:k<l.length),∃ g cap,v=XJ (U ⟨g,0,Z⟩) l.length cap/\w.cell? (g,k*6)=U (V Y l[k].1.id)/\w.cell? (g,k*6+1)=U (V Y l[k].1.kind)/\w.cell? (g,k*6+2)=U (XK l[k].1.bI)/\w.cell? (g,k*6+3)=U (V Y l[k].1.aN)/\w.cell? (g,k*6+4)=U l[k].2/\w.cell? (g,k*6+5)=U (V Y l[k].1.bZ)
 sp:∀ p∈l,SV w p.2 p.1.aR
theorem EV.later{l:J (aQ × XC)}(h:EV w v l)(k:XD w w w'):EV w' v l :=
 ⟨h.form,fun i f=>by let⟨g,cap,e,a0,a1,a2,a3,a4,a5⟩:=h.cell i f;exact⟨g,cap,e,aT k a0,aT k a1,aT k a2,aT k a3,aT k a4,aT k a5⟩,fun p d=>(h.sp p d).later k⟩
namespace aA
theorem KT{a b:N}{x:aQ}:∀ l:J aQ,(sq a b x l).Perm (x :: l):=by grind[sq,List.Perm.refl,KT,List.Perm.swap]
theorem M6{a b:N}:∀ l:J aQ,(tK a b l).Perm l:=by grind[List.Perm.refl,KT,M6,tK]
end aA
open aA (aQ eM hasB)
theorem SV.own(h:w.ownsRow B 83 2 v L.length (L.flatMap iK)):SV w v L:=by refine⟨ly h,fun k i=>?_⟩;let⟨g,cap,e⟩:=Joins.ownsRow_form h O;subst e;let⟨f1,f2⟩:=Ln k i;have j:=L9 L;have f:=h.cellAt (k*2) O;have d:=h.cellAt (k*2+1) O;rw[f1] at f;rw[f2] at d;exact⟨g,cap,rfl,f,d⟩
theorem EV.own{l:J (aQ × XC)}(h:w.ownsRow B 85 6 v l.length (l.flatMap gv))(sp:∀ p∈l,SV w p.2 p.1.aR):EV w v l:=by
 refine⟨ly h,fun k f=>?_,sp⟩;let⟨g,cap,e⟩:=Joins.ownsRow_form h O;subst e;have at_:∀ j,j<6->w.cell? (g,k*6+j)=(gv l[k])[j]?:=fun j i=>by have d:=h.cellAt (k*6+j) O;rw[tU f i] at d;exact d
 exact⟨g,cap,rfl,at_ 0 O,at_ 1 O,at_ 2 O,at_ 3 O,at_ 4 O,at_ 5 O⟩
namespace aA
end aA
namespace aA
theorem b8H{s:St}{l:ja}(h:(aY s l).2.err≠0):(aY s l).2=bT.error (aY s l).2.err:=by
 cases l with
 |bI name u =>
  simp only[aY] at h ⊢;by_cases f:cI name s.ts≠0
  .rw[Xu f];rfl
  .rw[Xt f] at h ⊢
   by_cases d:s.ts.length=4
   .rw[Xu d];rfl
   .rw[Xt d] at h;exact Xv rfl h
 |enter k name u fr til long =>simp only[aY] at h ⊢;by_cases c:qF s k name u fr til long≠0;rw[Xu c];rfl;rw[Xt c] at h;exact Xv rfl h
 |series name u r =>simp only[aY] at h ⊢;by_cases c:oH s name u r≠0;rw[Xu c];rfl;rw[Xt c] at h;exact Xv rfl h
 |bM id =>
  simp only[aY] at h ⊢
  cases i:mW id s.es with
  |none=>rfl
  |some e =>rw[i] at h;simp only at h ⊢;by_cases c:e.kind≠2;rw[Xu c];rfl;rw[Xt c] at h;exact Xv rfl h
 |cancel id =>
  simp only[aY] at h ⊢
  cases i:mW id s.es with
  |none=>rfl
  |some e=>rw[i] at h;exact Xv rfl h
 |list name fr til =>
  simp only[aY] at h ⊢;by_cases f:cI name s.ts=0
  .rw[Xu f];rfl
  .rw[Xt f] at h ⊢
   by_cases d:til<=fr
   .rw[Xu d];rfl
   .rw[Xt d] at h;exact Xv rfl h
 |waiting=>exact Xv rfl h
 |ef name fr til =>
  simp only[aY] at h ⊢;by_cases f:cI name s.ts=0
  .rw[Xu f];rfl
  .rw[Xt f] at h ⊢
   by_cases d:til<=fr
   .rw[Xu d];rfl
   .rw[Xt d] at h;exact Xv rfl h
 |find name u long fr til =>
  simp only[aY] at h ⊢;by_cases f:eV s.ts name u≠0
  .rw[Xu f];rfl
  .rw[Xt f] at h ⊢
   by_cases d:til<=fr
   .rw[Xu d];rfl
   .rw[Xt d] at h;exact Xv rfl h
 |expand r =>simp only[aY] at h ⊢;by_cases c:Rd.iS r≠0;rw[Xu c];rfl;rw[Xt c] at h;exact Xv rfl h
 |tick n =>simp only[aY] at h ⊢;by_cases c:1048320<s.now+n;rw[Xu c];rfl;rw[Xt c] at h;exact Xv rfl h
 |clock=>exact Xv rfl h
end aA
namespace aA
theorem Jq:∀ (l:J N)(a b:N),l.Pairwise (· < ·)->(∀ x∈l,a<=x/\x<=b)->(l.length:N)<=max 0 (b-a+1):=by simp_all[List.pairwise_cons,List.mem_cons_self,Jq,Zl,List.length_cons]
theorem Dl{s:St}(h:Inv s):s.es.length<=60:=by
 have f:=h.ids;have j:=h.g1;have:=Jq _ 1 60 f (fun x d=>by obtain⟨e,i,rfl⟩:=YP.1 d;have:=h.nJ e i;omega)
 rw[Ze] at this;omega
end aA
open aA (aQ St eD kept fc ek ec ju dB dI jB eS jq cA Inv cI nB jD bT)
def nh(p ws:J Xn):M->Xn
 |0=>⟨#[]⟩
 |k+1=>(if 0<k then nh p ws k++⟨#[32]⟩ else nh p ws k)++bA (p.getD k ⟨#[]⟩) (ws.getD k ⟨#[]⟩)
theorem RO(n:N)(d:-1<=n)(h:n<=9999999):(Txt.bF n).size<=160:=by by_cases e:n=-1;subst e;decide +kernel;have:=Txt.BC n O h;omega
theorem RV(t:N)(i:0<=t)(h:t<=1048320):(dU t).size<=160:=by have f:=Hw (t / 1440) O O;have d:=He (t % 1440) O O;have j:(⟨#[47]⟩:Xn).size=1:=Xd;unfold dU;simp only[ByteArray.size_append];omega
theorem Rb(w:Xn):(py w).size<=160:=by
 unfold py;split
 .rename_i acc _
  have:=Ad acc 7;have e:(ug acc).size=min (jm acc 7).size (jm acc 7).size-1:=ZO ..;omega
 .exact zN _
theorem Ht(sym w:Xn)(i:w.size<=160)(j:bH sym w=Xz):(bA sym w).size<=160:=by
 have f:=Hd w;have d:=RO (cB w 1 7) f.1 f.2;unfold bA;split
 .exact d
 .split
  .exact d
  .split
   .exact d
   .split
    .exact d
    .split
     .rename_i h;exact RV _ (Ic h j) (Hf w).2
     .split
      .exact Rb w
      .exact i
theorem CI:∀ (ps:J (J Xn))(ws:J Xn)(m:M)(p:J Xn),scan ps ws m=(U p,0)->pre p ws=p.length/\pre p ws=ws.length
 |[],_,_,_,h=>by simp[scan] at h
 |q :: ps,ws,m,p,h=>by unfold scan at h;split at h;rename_i hc;simp at h;subst h;exact hc;exact CI ps ws _ p h
theorem CF(p ws:J Xn)(h:pre p ws=p.length)(d:pre p ws=ws.length)(f:∀ x∈ws,x.size<=160):∀ k:M,k<=ws.length->(nh p ws k).size<=161*k
 |0,_=>zq _
 |k+1,hk=>by
  have ih:=CF p ws h d f k O;have i:=Ab p ws k O O O;have l:p.getD k ⟨#[]⟩=p[k]'Xb:=by simp[List.getD,show k<p.length by omega]
  have j:ws.getD k ⟨#[]⟩=ws[k]'Xb:=by simp[List.getD,show k<ws.length by omega]
  have z:=Ht (p[k]'Xb) (ws[k]'Xb) (f _ (zg O)) i;have o:(⟨#[32]⟩:Xn).size=1:=Xd;unfold nh;rw[l,j];split;simp only[ByteArray.size_append];omega;simp only[ByteArray.size_append];omega
def PR(s:Xn)(e:Ending):Prop :=
 (160<s.size/\e=XR (.tuple #[XK ⟨#[]⟩,V Y 1,V Y 0])) \/
 (s.size<=160/\((∃ p,kF s=(U p,0)/\e=XR (.tuple #[nh p (Txt.aC s) (Txt.aC s).length,V Y 0,V Y 0])) \/(∃ m:M,kF s=(Z,m)/\e=XR (.tuple #[XK ⟨#[]⟩,V Y 2,V Y m]))))
theorem I6(s:Xn)(w:XA)(f:160<s.size):XE prog 28 #[s] w fun e w'=>e=XR (.tuple #[(),(),V Y 1,V Y 0])/\w'=w:=by
 have d:(160:N)<(s.size:N):=O;go_in;go_wp2;(try simp only[Exit.inBlock,Exit.then]);refine bodyPost_ret (oW rfl _ _ _) rfl ?_;exact⟨rfl,rfl⟩
theorem IG(s:Xn)(w:XA)(he:Env w):XE prog 13 #[s] w fun e w'=>PR s e/\XD w w w':=by
 by_cases hs:s.size<=160
 .have HE:=hide he;clear he
  go_in;go_wp21;refine (Dc s w hs).mono ?_;rintro e w1 ⟨hr,aa⟩;rcases hr with ⟨p,a,b,c,d,g,h,l,rfl,ra,rb⟩|⟨m,l,rfl⟩
  .have ⟨l1,l2⟩:=CI _ _ _ _ l;have S:=hide l;have ai:=C8 s;have hw:∀ x∈Txt.aC s,x.size<=160:=fun x hx=>XV (xY s x hx) hs
   have ag:=hide (CF p (Txt.aC s) l1 l2 hw);have HW:=hide hw;have L1:=hide l1;have L2:=hide l2;have af:=hide (Ab p (Txt.aC s));clear l hw l1 l2;go_wp2;go_loopw [9,10,11] (fun o i _ wx=>∃ k:M,k<=(Txt.aC s).length/\i=V Y k/\o=XK (nh p (Txt.aC s) k)/\Row wx a g (Txt.aC s)/\Row wx b h p/\XD w w wx) (fun _ i _ _=>(Txt.aC s).length-(intOf i).toNat)
   .exact⟨0,Nat.zero_le _,rfl,rfl,ra,rb,aa⟩
   .obtain⟨k,hk,rfl,rfl,A,u,r⟩:=hrel;clear ra rb;have oz:=aO ag k hk
    by_cases C:k<(Txt.aC s).length
    .have I:k<p.length:=by have:=aO L1;have:=aO L2;omega
     obtain rfl:=A.at_ O;obtain rfl:=u.at_ O;have k1:=u.cells k I;have k2:=A.cells k C;have j1:(k:N)<(p.length:N):=O;have j2:(k:N)<((Txt.aC s).length:N):=O;have j0:(0:N)<=(k:N):=Int.natCast_nonneg _;have G:(Txt.aC s)[k].size<=160:=aO HW _ (zg C);have P:=aO af k I C (by have:=aO L2;omega);have ad:=hide G;have ae:=hide P;have wz:=Ht _ _ G P;have ac:Hid (nh p (Txt.aC s) (k+1)=(if 0<k then nh p (Txt.aC s) k++⟨#[32]⟩ else nh p (Txt.aC s) k)++bA p[k] (Txt.aC s)[k]):=by show nh p (Txt.aC s) (k+1)=_;rw[nh,show p.getD k ⟨#[]⟩=p[k] from by simp[List.getD,I],show (Txt.aC s).getD k ⟨#[]⟩=(Txt.aC s)[k] from by simp[List.getD,C]]
     clear G P;have ab:=hide ((aO HE).later r);by_cases X:0<k
     .have j3:(0:N)<(k:N):=O
      have T:=ac.trans (by rw[Xu X]);go_wp21;go_region_held3 (fun w'=>w'.cell? (h,k)=U (XK p[k])/\w'.cell? (g,k)=U (XK (Txt.aC s)[k]))
       (first
        |go_keep
        |(
         go_split_ands;refine⟨?_,?_⟩
         .exact cell_later f Xe
         .exact cell_later f Xe))
       ((go_at_call 29;refine (I3 _ _ _ ?_ (aO ad) (aO ae)).mono ?_;exact (aO ab).later ⟨rfl,rfl,rfl,XT _,fun _ _=>rfl⟩;rintro e w4 ⟨rfl,f⟩))
      have j:XD wr wr w4:=⟨f.os,f.tape,f.output,f.size,f.block⟩;have t:=r.trans (j.mono r.size);have F:=A.later j;have D:=u.later j;go_wp2;exact⟨⟨k+1,O,by go_num,by rw[T],F,D,t⟩,by simp[intOf];omega⟩
     .have j3:¬ (0:N)<(k:N):=O
      have T:=ac.trans (by rw[Xt X]);go_wp21;go_region_held3 (fun w'=>w'.cell? (h,k)=U (XK p[k])/\w'.cell? (g,k)=U (XK (Txt.aC s)[k]))
       (first
        |go_keep
        |(
         go_split_ands;refine⟨?_,?_⟩
         .exact cell_later f Xe
         .exact cell_later f Xe))
       ((go_at_call 29;refine (I3 _ _ _ ?_ (aO ad) (aO ae)).mono ?_;exact (aO ab).later ⟨rfl,rfl,rfl,XT _,fun _ _=>rfl⟩;rintro e w4 ⟨rfl,f⟩))
      have j:XD wr wr w4:=⟨f.os,f.tape,f.output,f.size,f.block⟩;have t:=r.trans (j.mono r.size);have F:=A.later j;have D:=u.later j;go_wp2;exact⟨⟨k+1,O,by go_num,by rw[T],F,D,t⟩,by simp[intOf];omega⟩
    .obtain rfl:k=(Txt.aC s).length:=O
     go_wp2;go_ret3;exact⟨.inr ⟨hs,.inl ⟨p,aO S,rfl⟩⟩,r⟩
  .have S:=hide l;clear l;go_wp2;go_ret3;exact⟨.inr ⟨hs,.inr ⟨m,aO S,rfl⟩⟩,aa⟩
 .go_in
  go_wp21;refine aZ (I6 s w O) ?_;go_wp2;go_ret3;exact⟨.inl ⟨O,rfl⟩,Below.refl _ _⟩
theorem ng(ws:J Xn)(P Q:J (Xn->Xq))(st:M × Xq):aP ws (P++Q) st=aP ws Q (aP ws P st):=List.foldl_append ..
theorem P7(ws:J Xn)(B:Xn->Xq)(n:M):gG ws B (n,Xz)=(n,Xz):=by simp[gG,fP,fL,fQ,dN]
theorem ta(ws:J Xn):∀ (d:J (Xn->Xq))(n:M),aP ws d (n,Xz)=(n,Xz)
 |[],_=>rfl
 |B :: d,n=>by show aP ws d (gG ws B (n,Xz))=_;rw[P7,ta ws d n]
theorem zT{B:Xn->Xq}(h:fQ ws n Xy B=Xy):gG ws B (n,Xy)=(n,Xz):=by simp only[gG,fP,fL,h,if_false,Bool.false_eq_true]
theorem Qh{B:Xn->Xq}(h:¬ n<ws.length):fQ ws n Xy B=Xy:=by simp[fQ,dN,h]
theorem GY{B:Xn->Xq}(h:B (ws.getD n ByteArray.empty)=Xy):fQ ws n Xy B=Xy:=by simp only[fQ,h,Bool.and_false]
theorem oQ{B:Xn->Xq}{wr:Xq}(h:fQ ws n wr B=Xz):wr=Xy/\n<ws.length/\B (ws.getD n ByteArray.empty)=Xz:=by unfold fQ dN at h;simp only[Zs,Bool.not_eq_true',decide_eq_true_eq] at h;exact⟨h.1.1,h.1.2,h.2⟩
theorem Im(ws:J Xn):∀ (p:J Xn)(n:M),n<=ws.length->aP ws (p.map bH) (n,Xy)=(n+pre p (ws.drop n),decide (pre p (ws.drop n)≠p.length))
 |[],n,_=>by simp[pre,aP]
 |s :: p,n,hn=>by
  show aP ws (p.map bH) (gG ws (bH s) (n,Xy))=_;by_cases d:n<ws.length
  .have h:=List.drop_eq_getElem_cons d;have i:=sA ws n d
   cases f:bH s ws[n]
   .rw[zT (GY Xi),ta,h,pre,f];simp
   .rw[Jl d Xi,Im ws p (n+1) d,h,pre,f];simp only[if_true];refine Prod.ext ?_ ?_
    .show n+1+_=n+(_+1);omega
    .simp
  .rw[zT (Qh d),ta,List.drop_of_length_le O];simp[pre]
theorem Cb(ws p:J Xn):aP ws (p.map bH) (0,Xy)=(pre p ws,decide (pre p ws≠p.length)):=by have:=Im ws p 0 (zN _);simpa using this
theorem qi(h:aP ws (p.map bH) (0,Xy)=(n,b)):pre p ws=n:=by rw[Cb] at h;exact (Prod.mk.inj h).1
theorem sX(h:aP ws (p.map bH) (0,Xy)=(n,Xy)):n=p.length:=by rw[Cb] at h;let⟨h1,h2⟩:=Prod.mk.inj h;rw[h1] at h2;by_cases e:n=p.length;exact e;simp[e] at h2
theorem xx(h:aP ws (p.map bH) (0,Xy)=(n,Xz)):n<p.length:=by have d:=(uA p ws).1;rw[Cb] at h;let⟨h1,h2⟩:=Prod.mk.inj h;rw[h1] at h2 d;by_cases e:n=p.length;simp[e] at h2;omega
theorem GU(R:J Xn)(h:aP ws (Q.map bH) (0,Xy)=(n,Xz)):pre (Q++R) ws=n:=by apply qi (b:=Xz);rw[YT,ng,h,ta]
theorem GB(R:J Xn)(h:aP ws (Q.map bH) (0,Xy)=(n,Xy))(d:fQ ws n Xy (bH s)=Xy):pre (Q++s :: R) ws=n:=by apply qi (b:=Xz);rw[YT,ng,h];show aP ws (R.map bH) (gG ws (bH s) (n,Xy))=_;rw[zT d,ta]
theorem Cj(h:aP ws ((Q++R).map bH) (0,Xy)=(n,Xy)):aP ws (Q.map bH) (0,Xy)=(Q.length,Xy):=by
 rw[YT,ng] at h;obtain⟨m,b,d⟩:∃ m b,aP ws (Q.map bH) (0,Xy)=(m,b):=⟨_,_,rfl⟩
 cases b
 .rw[d,sX d]
 .rw[d,ta] at h;cases h
theorem xC(h:aP ws ((Q++s :: R).map bH) (0,Xy)=(n,Xy)):fQ ws Q.length Xy (bH s)=Xz:=by
 have d:=Cj h;rw[YT,ng,d] at h
 cases ht:fQ ws Q.length Xy (bH s)
 .have:aP ws (R.map bH) (gG ws (bH s) (Q.length,Xy))=(n,Xy):=h;rw[zT ht,ta] at this
  cases this
 .rfl
structure Sum(ps:J (J Xn))(ws:J Xn)(st:M × Xq)(q:J Xn):Prop where
 mem:q∈ps
 le:∀ p∈ps,pre p ws<=st.1
 at_:pre q ws=st.1
 bad:st.2=Xz->∀ p∈ps,¬ (pre p ws=p.length/\pre p ws=ws.length)
 rV:st.2=Xy->pre q ws=q.length/\∀ p∈ps,p≠q->¬ (pre p ws=p.length/\pre p ws=ws.length)
theorem IK:∀ (ps:J (J Xn))(ws:J Xn)(m d:M),(∀ p∈ps,¬ (pre p ws=p.length/\pre p ws=ws.length))->(∀ p∈ps,pre p ws<=d)->m<=d->(m=d\/∃ p∈ps,pre p ws=d)->scan ps ws m=(Z,d)
 |[],_,m,d,_,_,_,h=>by
  rcases h with rfl|⟨p,i,_⟩
  .rfl
  .simp at i
 |p :: ps,ws,m,d,h1,h2,h3,h4=>by
  have i:=h2 p (List.mem_cons_self ..);rw[scan,Xt (h1 p (List.mem_cons_self ..))];refine IK ps ws _ d (fun q f=>h1 q (Zl _ f)) (fun q f=>h2 q (Zl _ f)) Xi ?_;rcases h4 with rfl|⟨q,f,e⟩
  .left;rw[Xt O]
  .rcases X8.1 f with rfl|f
   .left;split <;> omega
   .exact .inr ⟨q,f,e⟩
theorem Ij:∀ (ps:J (J Xn))(ws:J Xn)(m:M)(q:J Xn),q∈ps->pre q ws=q.length/\pre q ws=ws.length->(∀ p∈ps,p≠q->¬ (pre p ws=p.length/\pre p ws=ws.length))->scan ps ws m=(U q,0)
 |[],_,_,_,h,_,_=>by simp at h
 |p :: ps,ws,m,q,h,hf,hn=>by
  rw[scan];by_cases e:p=q
  .subst e;rw[Xu hf]
  .rw[Xt (hn p (List.mem_cons_self ..) e)];rcases X8.1 h with h|h
   .exact Xv h.symm e
   .exact Ij ps ws _ q h hf (fun r d=>hn r (Zl _ d))
theorem Sum.yes(h:Sum ps ws st q)(d:st.2=Xy)(f:dN ws.length st.1 st.2=Xy):scan ps ws 0=(U q,0):=by
 let⟨g1,g2⟩:=h.rV d;have i:¬ st.1<ws.length:=by simpa[dN,d] using f
 have:=(uA q ws).2;have:=h.at_;exact Ij ps ws 0 q h.mem ⟨g1,O⟩ g2
theorem Sum.no(h:Sum ps ws st q)(d:st.2=Xz\/dN ws.length st.1 st.2=Xz):scan ps ws 0=(Z,st.1):=by
 refine IK ps ws 0 st.1 ?_ h.le (zN _) (.inr ⟨q,h.mem,h.at_⟩);rcases d with d|d
 .exact h.bad d
 .have i:=sF d;intro p f e;have:=h.le p f;omega
theorem C0(ws:J Xn)(f:J Xn->Xq):∀ (ps:J (J Xn))(m:M),(∀ p∈ps,f p=Xy->pre p ws=0/\p≠[])->scan ps ws m=scan (ps.filter f) ws m
 |[],_,_=>rfl
 |p :: ps,m,h=>by
  have ih:=fun m=>C0 ws f ps m (fun q i=>h q (Zl _ i))
  cases d:f p
  .let⟨h0,hne⟩:=h p (List.mem_cons_self ..) d;rw[List.filter_cons_of_neg (by simp[d]),scan,h0,Xt,Xt O,ih];rintro ⟨e,_⟩;exact hne (List.length_eq_zero_iff.1 e.symm)
  .rw[List.filter_cons_of_pos d,scan,scan,ih]
def bG:Xn:=⟨#[78,65,77,69]⟩
def bY:Xn:=⟨#[85,78,73,84,83]⟩
def cD:Xn:=⟨#[77,73,78,85,84,69,83]⟩
def fS:Xn:=⟨#[69,86,69,82,89]⟩
def gT:Xn:=⟨#[73,68]⟩
def aV:Xn:=⟨#[84,73,77,69]⟩
def fY:Xn:=⟨#[68,65,84,69]⟩
def im:Xn:=⟨#[77,73,78,85,84,69]⟩
def kv:Xn:=⟨#[79,78]⟩
theorem CV(w:Xn)(d hi:N)(h:0<=d):mM w d hi=gy w d hi:=by
 unfold mM gy;rw[xM]
 cases f:Txt.isNum w.data.toList
 .simp;omega
 .simp
theorem dQ:bH bG=bL:=by have d:(bG.toList==[78,65,77,69])=Xz:=Xf;funext w;unfold bH;rw[Xu d];rfl
theorem fo:bH bY=cF:=by have f:¬ (bY.toList==[78,65,77,69])=Xz:=Xf;have d:(bY.toList==[85,78,73,84,83])=Xz:=Xf;funext w;unfold bH;rw[Xt f,Xu d];exact CV w 1 9 O
theorem js:bH cD=dM:=by have h:¬ (cD.toList==[78,65,77,69])=Xz:=Xf;have f:¬ (cD.toList==[85,78,73,84,83])=Xz:=Xf;have d:(cD.toList==[77,73,78,85,84,69,83])=Xz:=Xf;funext w;unfold bH;rw[Xt h,Xt f,Xu d];exact CV w 1 1048320 O
theorem sT:bH fS=eP:=by have i:¬ (fS.toList==[78,65,77,69])=Xz:=Xf;have h:¬ (fS.toList==[85,78,73,84,83])=Xz:=Xf;have f:¬ (fS.toList==[77,73,78,85,84,69,83])=Xz:=Xf;have d:(fS.toList==[69,86,69,82,89])=Xz:=Xf;funext w;unfold bH;rw[Xt i,Xt h,Xt f,Xu d];exact CV w 1 99 O
theorem qK:bH gT=jQ:=by
 have j:¬ (gT.toList==[78,65,77,69])=Xz:=Xf;have i:¬ (gT.toList==[85,78,73,84,83])=Xz:=Xf;have h:¬ (gT.toList==[77,73,78,85,84,69,83])=Xz:=Xf;have f:¬ (gT.toList==[69,86,69,82,89])=Xz:=Xf;have d:(gT.toList==[73,68])=Xz:=Xf;funext w;unfold bH;rw[Xt j,Xt i,Xt h,Xt f,Xu d,xM];have:=Txt.lS w.data.toList;unfold jQ
 cases l:Txt.isNum w.data.toList
 .simp
 .simp;omega
theorem fM:bH aV=bC:=by
 have l:¬ (aV.toList==[78,65,77,69])=Xz:=Xf;have j:¬ (aV.toList==[85,78,73,84,83])=Xz:=Xf;have i:¬ (aV.toList==[77,73,78,85,84,69,83])=Xz:=Xf;have h:¬ (aV.toList==[69,86,69,82,89])=Xz:=Xf;have f:¬ (aV.toList==[73,68])=Xz:=Xf;have d:(aV.toList==[84,73,77,69])=Xz:=Xf;funext w;unfold bH;rw[Xt l,Xt j,Xt i,Xt h,Xt f,Xu d];unfold eJ
 cases ht:bC w
 .simp
 .unfold bC at ht;simp only[Zs,decide_eq_true_eq] at ht;simp;omega
theorem zw:bH fY=Txt.cU:=by
 have A:¬ (fY.toList==[78,65,77,69])=Xz:=Xf;have u:¬ (fY.toList==[85,78,73,84,83])=Xz:=Xf;have t:¬ (fY.toList==[77,73,78,85,84,69,83])=Xz:=Xf;have r:¬ (fY.toList==[69,86,69,82,89])=Xz:=Xf;have o:¬ (fY.toList==[73,68])=Xz:=Xf;have l:¬ (fY.toList==[84,73,77,69])=Xz:=Xf;have j:(fY.toList==[68,65,84,69])=Xz:=Xf;funext w;unfold bH;rw[Xt A,Xt u,Xt t,Xt r,Xt o,Xt l,Xu j];unfold gK Txt.cU;apply decide_eq_decide.2;constructor
 .intro h
  split at h
  .rename_i hc;exact⟨hc.1,hc.2.1,h.2⟩
  .omega
 .rintro ⟨i,d,f⟩;rw[Xu ⟨i,d,O⟩];exact⟨d,f⟩
theorem Gs:bH im=Txt.dZ:=by
 have r:¬ (im.toList==[78,65,77,69])=Xz:=Xf;have o:¬ (im.toList==[85,78,73,84,83])=Xz:=Xf;have l:¬ (im.toList==[77,73,78,85,84,69,83])=Xz:=Xf;have j:¬ (im.toList==[69,86,69,82,89])=Xz:=Xf;have i:¬ (im.toList==[73,68])=Xz:=Xf;have h:¬ (im.toList==[84,73,77,69])=Xz:=Xf;have f:¬ (im.toList==[68,65,84,69])=Xz:=Xf;have d:(im.toList==[77,73,78,85,84,69])=Xz:=Xf;funext w;unfold bH;rw[Xt r,Xt o,Xt l,Xt j,Xt i,Xt h,Xt f,Xu d];have:=Txt.mR w;unfold jK
 cases ht:Txt.dZ w
 .simp
 .simp;omega
theorem Gt:bH kv=Txt.fF:=by have t:¬ (kv.toList==[78,65,77,69])=Xz:=Xf;have r:¬ (kv.toList==[85,78,73,84,83])=Xz:=Xf;have o:¬ (kv.toList==[77,73,78,85,84,69,83])=Xz:=Xf;have l:¬ (kv.toList==[69,86,69,82,89])=Xz:=Xf;have j:¬ (kv.toList==[73,68])=Xz:=Xf;have i:¬ (kv.toList==[84,73,77,69])=Xz:=Xf;have h:¬ (kv.toList==[68,65,84,69])=Xz:=Xf;have f:¬ (kv.toList==[77,73,78,85,84,69])=Xz:=Xf;have d:(kv.toList==[79,78])=Xz:=Xf;funext w;unfold bH;rw[Xt t,Xt r,Xt o,Xt l,Xt j,Xt i,Xt h,Xt f,Xu d]
def fl(x:Xn):Xq:=!(x.toList==[78,65,77,69]) && !(x.toList==[85,78,73,84,83]) && !(x.toList==[77,73,78,85,84,69,83]) && !(x.toList==[69,86,69,82,89]) && !(x.toList==[73,68]) && !(x.toList==[84,73,77,69]) && !(x.toList==[68,65,84,69]) && !(x.toList==[77,73,78,85,84,69]) && !(x.toList==[79,78])
theorem jG(x:Xn)(h:fl x=Xz):bH x=cH x:=by grind[fl,bH,cH]
theorem cZ(x w:Xn)(h:fl x=Xz):bA x w=w:=by grind[fl,bA]
theorem qg(ws:J Xn)(n:M)(wr:Xq)(x:Xn):bS ws n wr x=fQ ws n wr (cH x):=rfl
theorem qn{x:Xn}(h:bS ws st.1 st.2 x=Xz):gB st=gG ws (cH x) st:=by let⟨n,wr⟩:=st;have ht:fQ ws n wr (cH x)=Xz:=h;simp only[gB,gG,fP,fL,ht,if_true]
theorem n9(w:Xn):bA bG w=w:=by simp_all[bA,bG]
theorem lU(w:Xn):bA fY w=w:=by simp_all[fY,bA]
theorem ph(w:Xn):bA im w=w:=by simp_all[bA,im]
theorem rT{w:Xn}(h:Txt.isNum w.data.toList=Xz):cB w 1 7=bE w:=by rw[xM,Xu h];rfl
theorem uz{w:Xn}{d hi:N}(h:gy w d hi=Xz):Txt.isNum w.data.toList=Xz/\d<=bE w/\bE w<=hi:=by grind[gy,Txt.isNum,bE]
theorem pT(w:Xn)(h:cF w=Xz):bA bY w=Txt.bF (bE w):=by have d:(bY.toList==[85,78,73,84,83])=Xz:=Xf;unfold bA;rw[Xu d,rT (uz h).1]
theorem na(w:Xn)(h:dM w=Xz):bA cD w=Txt.bF (bE w):=by have f:¬ (cD.toList==[85,78,73,84,83])=Xz:=Xf;have d:(cD.toList==[77,73,78,85,84,69,83])=Xz:=Xf;unfold bA;rw[Xt f,Xu d,rT (uz h).1]
theorem lT(w:Xn)(h:eP w=Xz):bA fS w=Txt.bF (bE w):=by have i:¬ (fS.toList==[85,78,73,84,83])=Xz:=Xf;have f:¬ (fS.toList==[77,73,78,85,84,69,83])=Xz:=Xf;have d:(fS.toList==[69,86,69,82,89])=Xz:=Xf;unfold bA;rw[Xt i,Xt f,Xu d,rT (uz h).1]
theorem Gj(w:Xn)(h:jQ w=Xz):bA gT w=Txt.bF (bE w):=by have j:¬ (gT.toList==[85,78,73,84,83])=Xz:=Xf;have i:¬ (gT.toList==[77,73,78,85,84,69,83])=Xz:=Xf;have f:¬ (gT.toList==[69,86,69,82,89])=Xz:=Xf;have d:(gT.toList==[73,68])=Xz:=Xf;unfold bA;rw[Xt j,Xt i,Xt f,Xu d,rT h]
theorem pg(w:Xn)(h:bC w=Xz):bA aV w=dU (cL w):=by have l:¬ (aV.toList==[85,78,73,84,83])=Xz:=Xf;have j:¬ (aV.toList==[77,73,78,85,84,69,83])=Xz:=Xf;have i:¬ (aV.toList==[69,86,69,82,89])=Xz:=Xf;have f:¬ (aV.toList==[73,68])=Xz:=Xf;have d:(aV.toList==[84,73,77,69])=Xz:=Xf;unfold bA;rw[Xt l,Xt j,Xt i,Xt f,Xu d];unfold eJ cL;rw[Xu h,Xu h]
theorem zj(w:Xn):bA kv w=py w:=by simp_all[kv,bA,py]
theorem jI(w:Xn):0<=cL w/\cL w<=1048320:=by
 unfold cL
 cases ht:bC w
 .simp
 .unfold bC at ht;simp only[Zs,decide_eq_true_eq] at ht;simp only[if_true];exact ht.2
theorem cY(w:Xn):0<=bE w/\bE w<=9999999:=Txt.lS w.data.toList
theorem PH{w:Xn}(h:bL w=Xz):tG w=w:=Xu h
theorem Cy{i:M}{l:J UInt8}(d:s.data.toList=l)(f:l[i]?=U c)(h:Txt.fI s i=n):c.toNat=n:=by grind[Txt.fI]
theorem CU(h:c.toNat=n)(d:n<256):c=UInt8.ofNat n:=by apply UInt8.toNat_inj.1;rw[h,UInt8.toNat_ofNat'];omega
theorem xL(s:Xn)(a b n:M)(f:min b s.size-a=n+1)(h:Txt.isNum (Txt.part s a b)=Xz):Txt.jU (Txt.dG (Txt.part s a b)) (n+1)=s.extract a b:=by
 have d:=vR s a b (n+1) f;have i:=Txt.A5 h;have e:Txt.dG (Txt.part s a b)=Txt.jA (s.extract a b).data.toList:=by unfold Txt.dG;rw[Xu h];rfl
 rw[e];exact Txt.QW _ n d i
theorem lZ(w:Xn)(h:Txt.cU w=Xz):fO (dV w)=w:=by
 have f:Txt.jY w=Xz:=by unfold Txt.cU at h;exact (of_decide_eq_true h).1
 have e:dV w=Cal.num (Txt.dG (Txt.part w 0 4)) (Txt.dG (Txt.part w 5 7)) (Txt.dG (Txt.part w 8 10)):=by unfold dV Txt.gh;rw[Xu h,Xu f]
 unfold Txt.jY at f;let⟨hs,b4,b7,n0,n1,n2,hok⟩:=of_decide_eq_true f;let⟨ey,em,ed⟩:=Cal.xT _ _ _ _ hok e.symm;unfold fO;rw[<- ey,<- em,<- ed];unfold vB;rw[xL w 0 4 3 O n0,xL w 5 7 1 O n1,xL w 8 10 1 O n2];apply Txt.nS;simp only[Txt.rE,Txt.rA];have j:w.data.toList.length=10:=by rw[Txt.iJ];exact hs
 obtain⟨l,d⟩:∃ l,w.data.toList=l:=⟨_,rfl⟩;rw[d] at j;rw[d];match l,j,d with
 |[a0,a1,a2,a3,a4,a5,a6,a7,a8,a9],_,d =>have r:=CU (Cy (i:=4) (c:=a4) d rfl (n:=45) b4) O;have o:=CU (Cy (i:=7) (c:=a7) d rfl (n:=45) b7) O;rw[r,o];rfl
theorem pA(w:Xn)(h:Txt.dZ w=Xz):jf (Txt.eA w)=w:=by
 have e:Txt.eA w=Txt.dG (Txt.part w 0 2)*60+Txt.dG (Txt.part w 3 5):=by unfold Txt.eA;rw[Xu h]
 unfold Txt.dZ at h;let⟨hs,b2,n0,n1,h23,h59⟩:=of_decide_eq_true h;have t:=Txt.lS (Txt.part w 0 2);have r:=Txt.lS (Txt.part w 3 5);have o:Txt.eA w / 60=Txt.dG (Txt.part w 0 2):=by rw[e];omega
 have f:Txt.eA w % 60=Txt.dG (Txt.part w 3 5):=by rw[e];omega
 unfold jf;rw[o,f,xL w 0 2 1 O n0,xL w 3 5 1 O n1];apply Txt.nS;simp only[Txt.rE,Txt.rA];have j:w.data.toList.length=5:=Xj;obtain⟨l,d⟩:∃ l,w.data.toList=l:=⟨_,rfl⟩;rw[d] at j;rw[d];match l,j,d with
 |[a0,a1,a2,a3,a4],_,d =>have f:=CU (Cy (i:=2) (c:=a2) d rfl (n:=58) b2) O;rw[f];rfl
theorem Ho(d:J UInt8)(r:J (J UInt8))(x:J UInt8):Lib.joinTail d (r++[x])=Lib.joinTail d r++(d++x):=by simp[Lib.joinTail]
theorem C6(acc:J N):∀ k:M,(jm acc k).data.toList=Lib.joinTail [44] ((iz acc k).map (·.data.toList)):=by grind[C6,jm,iz,YT,List.map_cons,List.map_nil,Ho,Txt.rE]
theorem Rp(L:J (J UInt8)):Lib.join L [44]=(Lib.joinTail [44] L).drop 1:=by
 cases L with
 |nil=>rfl
 |cons x r=>rw[Lib.join_cons];simp[Lib.joinTail]
theorem G8(acc:J N):Lib.join ((iz acc 7).map (·.data.toList)) [44]=(ug acc).data.toList:=by unfold ug;rw[Txt.rA,Rp,<- C6];rw[YL Xj]
theorem NJ(acc:J N):nH acc=ug acc:=by apply Txt.nS;show (Lib.join ((iz acc 7).map (·.data.toList)) [44]).toArray.toList=_;rw[G8]
theorem zI(h:Txt.je s=U acc):iz acc 7≠[]:=by intro e;have i:=GO h;have d:=C6 acc 7;rw[e] at d;have f:=Txt.iJ (jm acc 7);rw[d] at f;have:(Lib.joinTail [44] (([]:J Xn).map (·.data.toList))).length=0:=rfl;omega
theorem zR(acc:J N):(Lib.join ((iz acc 7).map (·.data.toList)) [44]).length<=160:=by rw[G8,Txt.iJ];unfold ug;have e:((jm acc 7).extract 1 (jm acc 7).size).size=min (jm acc 7).size (jm acc 7).size-1:=ZO ..;have:=Ad acc 7;omega
theorem zQ(h:Txt.je s=U acc):py s=nH acc:=by unfold py;rw[h,NJ]
theorem NH(x:Xn):jn [x]=x:=by apply Txt.nS;show (Lib.join [x.data.toList] [32]).toArray.toList=_;rw[Lib.join_one]
theorem NK(d:J Xn)(y:Xn)(h:d≠[]):jn (d++[y])=jn d++⟨#[32]⟩++y:=by
 apply Txt.nS;rw[Txt.rE,Txt.rE];show (Lib.join ((d++[y]).map (·.data.toList)) [32])=Lib.join (d.map (·.data.toList)) [32]++[32]++y.data.toList;match d,h with
 |x :: r,_ =>rw[Yk,List.map_cons,List.map_cons,Lib.join_cons,Lib.join_cons,YT,List.map_cons,List.map_nil,Ho];simp
theorem Gy(p ws:J Xn):∀ k:M,nh p ws k=jn ((List.range k).map fun j=>bA (p.getD j ByteArray.empty) (ws.getD j ByteArray.empty))
 |0=>rfl
 |k+1=>by
  have ih:=Gy p ws k;rw[List.range_succ,YT,List.map_cons,List.map_nil,nh];by_cases d:0<k
  .rw[Xu d,NK _ _ Xh,<- ih];rfl
  .obtain rfl:k=0:=O
   rw[Xt d];show nh p ws 0++_=jn [_];rw[NH];apply Txt.nS;rw[Txt.rE];rfl
theorem Rx(ps:J Xn)(pc ev:N)(acc:J N)(fr mn mi ti un:N)(w:XA)(he:Env w)(hl:ps.length<=3)(f0:0<=fr)(f1:fr<=728)(m0:0<=mn)(m1:mn<1440)(i0:0<=mi)(i1:mi<=9999999)(t0:0<ti)(t1:ti<=9999999)
  (hp:∀ x,Env x->XE prog 300 #[ki pc ev acc fr mn mi ti un] x fun e w'=>WR x w' ps e):
  XE prog 299 #[ki pc ev acc fr mn mi ti un] w fun e w'=>WR w w' (ps++gL fr mn mi++[eU,Txt.bF ti]) e:=by
 obtain⟨aa,ai,ad,ac,ab⟩:=info_parts qj;simp only[ki] at hp ⊢;go_in;go_wp21;obtain⟨X,F⟩:∃ X,X=w.alloc (XS #[pc,ev,aI acc 0,aI acc 1,aI acc 2,aI acc 3,aI acc 4,aI acc 5,aI acc 6,fr,mn,mi,ti,un] 155):=⟨_,rfl⟩;rw[<- F];have aj:XD w w X:=by rw[F];exact aS
 have eX:=he.later aj;have o:w+1<=X.heap.size:=by rw[F];simp
 have j:10<=w.heap.size+1:=by have:=he.size;omega
 have T:X.cell? (w,9)=U ↑fr:=by rw[F];simp
 have C:X.cell? (w,10)=U ↑mn:=by rw[F];simp
 have A:X.cell? (w,11)=U ↑mi:=by rw[F];simp
 have u:X.cell? (w,12)=U ↑ti:=by rw[F];simp
 have r:X.cell? (w,13)=U ↑un:=by rw[F];simp
 clear F he;refine (hp X eX).mono ?_;rintro e w1 ⟨v1,rfl,ag,an⟩;clear hp;have S:=an.mono o;have a7:=S.size;have y9:=(S.cell (p:=(w,9)) Xc).trans T;have az:=(S.cell (p:=(w,10)) Xc).trans C;have ay:=(S.cell (p:=(w,11)) Xc).trans A;have ax:=(S.cell (p:=(w,12)) Xc).trans u;have aw:=(S.cell (p:=(w,13)) Xc).trans r;have h:=ow (base':=w.heap.size+1) ag o;clear ag an;go_wp21;have h:=h.drew;go_region_held3 (fun w'=>XD (w.heap.size+1) X w'/\w'.cell? (w,9)=U ↑fr/\w'.cell? (w,10)=U ↑mn/\w'.cell? (w,11)=U ↑mi/\w'.cell? (w,12)=U ↑ti/\w'.cell? (w,13)=U ↑un)
  (first
   |(go_split_ands;exact jg (jT o Xe i) (fun d=>⟨(d.cell (p:=(w,9)) Xc).trans T,(d.cell (p:=(w,10)) Xc).trans C,(d.cell (p:=(w,11)) Xc).trans A,(d.cell (p:=(w,12)) Xc).trans u,(d.cell (p:=(w,13)) Xc).trans r⟩))
   |(go_split_ands;exact jg (jT o Xe aS) (fun d=>⟨(d.cell (p:=(w,9)) Xc).trans T,(d.cell (p:=(w,10)) Xc).trans C,(d.cell (p:=(w,11)) Xc).trans A,(d.cell (p:=(w,12)) Xc).trans u,(d.cell (p:=(w,13)) Xc).trans r⟩))
   |(go_split_ands;exact jg (jT o Xe (ia _)) (fun d=>⟨(d.cell (p:=(w,9)) Xc).trans T,(d.cell (p:=(w,10)) Xc).trans C,(d.cell (p:=(w,11)) Xc).trans A,(d.cell (p:=(w,12)) Xc).trans u,(d.cell (p:=(w,13)) Xc).trans r⟩))
   |(go_split_ands;exact jg (Below.grown Xe f Xh (fun k d=>lH h d)) (fun d=>⟨(d.cell (p:=(w,9)) Xc).trans T,(d.cell (p:=(w,10)) Xc).trans C,(d.cell (p:=(w,11)) Xc).trans A,(d.cell (p:=(w,12)) Xc).trans u,(d.cell (p:=(w,13)) Xc).trans r⟩)))
  (first
   |(go_at_call 293;go_split_ands;refine aK (Ai _ _ (eX.jj j Xe) O O) fun w5 i=>?_;have ae:=pG (B:=w.heap.size+1) (x:=X) Xe i;have h:=nQ h i)
   |(go_at_call 294;go_split_ands;refine aK (Df _ _ (eX.jj j Xe) O O) fun w5 i=>?_;have ae:=pG (B:=w.heap.size+1) (x:=X) Xe i;have h:=nQ h i)
   |(go_at_call 289;go_split_ands;refine aK (nu _ _ (eX.jj j Xe) O O) fun w5 i=>?_;have ae:=pG (B:=w.heap.size+1) (x:=X) Xe i;have h:=nQ h i)
   |((refine step_append_lies _ (by rfl) _ _ _ (by rfl) (w.heap.size+1) 9 aa _ 1 16 underlying78 ai ad ac ab rfl O v1 ps.length (ps.map XK) (by rfl) (h.alloc _) (w5,0) 6 6 [cC,fO fr,cN,jf mn,dA,Txt.bF mi] (by rfl) (by rfl) (Zf (cs:=#[cC,fO fr,cN,jf mn,dA,Txt.bF mi]) (t:=9) (fr:=(0,0)) (heap_alloc_new _ _)) Xl O Xk O Xh (w5.heap.size+1) Xc ?_;intro g cap w6 l f ao av)))
 go_split_ands;have P:XD (w.heap.size+1) X w6:=Xe;have a4:=P.size;obtain⟨ys,I⟩:∃ ys:J XC,ys=List.map XK ps++[XK cC,XK (fO fr),XK cN,XK (jf mn),XK dA,XK (Txt.bF mi)]:=⟨_,rfl⟩;rw[<- I] at l;have aq:=hide I;clear I f ao;go_wp21;refine aK (nu ti w6 (eX.jj j P) O O) fun w7 al=>?_;have af:=nQ l al;have G:=jT o P al;have a3:=G.size;clear l;go_wp2_with (first
  |(at_builtin;refine wpList_append_own _ rfl _ _ 78 rfl (w.heap.size+1) 9 aa (XK ⟨#[]⟩) 1 16 underlying78 ai ad ac ab rfl Xd _ _ _ rfl (af.alloc _) (w7,0) 2 2 [eU,Txt.bF ti] rfl rfl ?c1 ?c2 ?c3 ?c4 ?c5 ?_))
 .exact Zf (cs:=#[eU,Txt.bF ti]) (heap_alloc_new w7 _)
 .simp[Zg]
 .unfold maxLen;omega
 .omega
 .simp;omega
 intro v8 w8 D f _;have ak:=(G.alloc O _).grown f Xh (fun k d=>lH af d);have au:=hide ak;have ar:=hide D;clear ak f D;go_wp2;go_ret;refine⟨_,rfl,?_,aj.trans (au.mono O)⟩;have h9:=ow (base':=w) ar O;rw[aq] at h9;have e1:(ps++gL fr mn mi++[eU,Txt.bF ti]).length=ps.length+6+2:=by simp[gL]
 have e2:(ps++gL fr mn mi++[eU,Txt.bF ti]).map XK=List.map XK ps++[XK cC,XK (fO fr),XK cN,XK (jf mn),XK dA,XK (Txt.bF mi)]++[XK eU,XK (Txt.bF ti)]:=by simp[gL]
 rw[e1,e2];exact h9
theorem Ry(ps:J Xn)(pc ev:N)(acc:J N)(fr mn mi un:N)(w:XA)(he:Env w)(hl:ps.length<=3)(f0:0<=fr)(f1:fr<=728)(m0:0<=mn)(m1:mn<1440)(i0:0<=mi)(i1:mi<=9999999)(t0:0<=un)(t1:un<=728)
  (hp:∀ x,Env x->XE prog 300 #[ki pc ev acc fr mn mi 0 un] x fun e w'=>WR x w' ps e):
  XE prog 299 #[ki pc ev acc fr mn mi 0 un] w fun e w'=>WR w w' (ps++gL fr mn mi++[fe,fO un]) e:=by
 obtain⟨aa,ai,ad,ac,ab⟩:=info_parts qj;simp only[ki] at hp ⊢;go_in;go_wp21;obtain⟨X,F⟩:∃ X,X=w.alloc (XS #[pc,ev,aI acc 0,aI acc 1,aI acc 2,aI acc 3,aI acc 4,aI acc 5,aI acc 6,fr,mn,mi,V Y 0,un] 155):=⟨_,rfl⟩;rw[<- F];have aj:XD w w X:=by rw[F];exact aS
 have eX:=he.later aj;have o:w+1<=X.heap.size:=by rw[F];simp
 have j:10<=w.heap.size+1:=by have:=he.size;omega
 have T:X.cell? (w,9)=U ↑fr:=by rw[F];simp
 have C:X.cell? (w,10)=U ↑mn:=by rw[F];simp
 have A:X.cell? (w,11)=U ↑mi:=by rw[F];simp
 have u:X.cell? (w,12)=U (V Y 0):=by rw[F];simp
 have r:X.cell? (w,13)=U ↑un:=by rw[F];simp
 clear F he;refine (hp X eX).mono ?_;rintro e w1 ⟨v1,rfl,ag,an⟩;clear hp;have S:=an.mono o;have a7:=S.size;have y9:=(S.cell (p:=(w,9)) Xc).trans T;have az:=(S.cell (p:=(w,10)) Xc).trans C;have ay:=(S.cell (p:=(w,11)) Xc).trans A;have ax:=(S.cell (p:=(w,12)) Xc).trans u;have aw:=(S.cell (p:=(w,13)) Xc).trans r;have h:=ow (base':=w.heap.size+1) ag o;clear ag an;go_wp21;have h:=h.drew;go_region_held3 (fun w'=>XD (w.heap.size+1) X w'/\w'.cell? (w,9)=U ↑fr/\w'.cell? (w,10)=U ↑mn/\w'.cell? (w,11)=U ↑mi/\w'.cell? (w,12)=U (V Y 0)/\w'.cell? (w,13)=U ↑un)
  (first
   |(go_split_ands;exact jg (jT o Xe i) (fun d=>⟨(d.cell (p:=(w,9)) Xc).trans T,(d.cell (p:=(w,10)) Xc).trans C,(d.cell (p:=(w,11)) Xc).trans A,(d.cell (p:=(w,12)) Xc).trans u,(d.cell (p:=(w,13)) Xc).trans r⟩))
   |(go_split_ands;exact jg (jT o Xe aS) (fun d=>⟨(d.cell (p:=(w,9)) Xc).trans T,(d.cell (p:=(w,10)) Xc).trans C,(d.cell (p:=(w,11)) Xc).trans A,(d.cell (p:=(w,12)) Xc).trans u,(d.cell (p:=(w,13)) Xc).trans r⟩))
   |(go_split_ands;exact jg (jT o Xe (ia _)) (fun d=>⟨(d.cell (p:=(w,9)) Xc).trans T,(d.cell (p:=(w,10)) Xc).trans C,(d.cell (p:=(w,11)) Xc).trans A,(d.cell (p:=(w,12)) Xc).trans u,(d.cell (p:=(w,13)) Xc).trans r⟩))
   |(go_split_ands;exact jg (Below.grown Xe f Xh (fun k d=>lH h d)) (fun d=>⟨(d.cell (p:=(w,9)) Xc).trans T,(d.cell (p:=(w,10)) Xc).trans C,(d.cell (p:=(w,11)) Xc).trans A,(d.cell (p:=(w,12)) Xc).trans u,(d.cell (p:=(w,13)) Xc).trans r⟩)))
  (first
   |(go_at_call 293;go_split_ands;refine aK (Ai _ _ (eX.jj j Xe) O O) fun w5 i=>?_;have ae:=pG (B:=w.heap.size+1) (x:=X) Xe i;have h:=nQ h i)
   |(go_at_call 294;go_split_ands;refine aK (Df _ _ (eX.jj j Xe) O O) fun w5 i=>?_;have ae:=pG (B:=w.heap.size+1) (x:=X) Xe i;have h:=nQ h i)
   |(go_at_call 289;go_split_ands;refine aK (nu _ _ (eX.jj j Xe) O O) fun w5 i=>?_;have ae:=pG (B:=w.heap.size+1) (x:=X) Xe i;have h:=nQ h i)
   |((refine step_append_lies _ (by rfl) _ _ _ (by rfl) (w.heap.size+1) 9 aa _ 1 16 underlying78 ai ad ac ab rfl O v1 ps.length (ps.map XK) (by rfl) (h.alloc _) (w5,0) 6 6 [cC,fO fr,cN,jf mn,dA,Txt.bF mi] (by rfl) (by rfl) (Zf (cs:=#[cC,fO fr,cN,jf mn,dA,Txt.bF mi]) (t:=9) (fr:=(0,0)) (heap_alloc_new _ _)) Xl O Xk O Xh (w5.heap.size+1) Xc ?_;intro g cap w6 l f ao av)))
 go_split_ands;have P:XD (w.heap.size+1) X w6:=Xe;have a4:=P.size;obtain⟨ys,I⟩:∃ ys:J XC,ys=List.map XK ps++[XK cC,XK (fO fr),XK cN,XK (jf mn),XK dA,XK (Txt.bF mi)]:=⟨_,rfl⟩;rw[<- I] at l;have aq:=hide I;clear I f ao;go_wp21;refine aK (Ai un w6 (eX.jj j P) O O) fun w7 al=>?_;have af:=nQ l al;have G:=jT o P al;have a3:=G.size;clear l;go_wp2_with (first
  |(at_builtin;refine wpList_append_own _ rfl _ _ 78 rfl (w.heap.size+1) 9 aa (XK ⟨#[]⟩) 1 16 underlying78 ai ad ac ab rfl Xd _ _ _ rfl (af.alloc _) (w7,0) 2 2 [fe,fO un] rfl rfl ?c1 ?c2 ?c3 ?c4 ?c5 ?_))
 .exact Zf (cs:=#[fe,fO un]) (heap_alloc_new w7 _)
 .simp[Zg]
 .unfold maxLen;omega
 .omega
 .simp;omega
 intro v8 w8 D f _;have ak:=(G.alloc O _).grown f Xh (fun k d=>lH af d);have au:=hide ak;have ar:=hide D;clear ak f D;go_wp2;go_ret;refine⟨_,rfl,?_,aj.trans (au.mono O)⟩;have h9:=ow (base':=w) ar O;rw[aq] at h9;have e1:(ps++gL fr mn mi++[fe,fO un]).length=ps.length+6+2:=by simp[gL]
 have e2:(ps++gL fr mn mi++[fe,fO un]).map XK=List.map XK ps++[XK cC,XK (fO fr),XK cN,XK (jf mn),XK dA,XK (Txt.bF mi)]++[XK fe,XK (fO un)]:=by simp[gL]
 rw[e1,e2];exact h9
theorem CX(x:XA)(d:J Xn)(f:B<=x)(h:d.length<=160):(x.alloc (XS (d.map XK).toArray 9)).ownsRow B 9 1 (XJ x d.length d.length) d.length (d.map XK):=by refine⟨by simp,.inr ⟨x,d.length,(d.map XK).toArray,rfl,f,heap_alloc_new x _,XT _,by unfold maxLen;omega,by simp,?_⟩⟩;exact YL Xc
theorem Il(pc ev:N)(acc:J N)(fr mn mi ti un:N)(ps:J Xn)(f:wT pc ev acc ps)(w:XA)(d:Env w):XE prog 300 #[ki pc ev acc fr mn mi ti un] w fun e w'=>WR w w' ps e:=by
 cases f with
 |daily ev acc e0 e1=>exact Rv ev acc fr mn mi ti un w d e0 e1
 |weekly ev acc e0 e1 hne hlen=>exact RZ ev acc fr mn mi ti un w d e0 e1 hne hlen
 |monthly ev acc e0 e1=>exact Se ev acc fr mn mi ti un w d e0 e1
theorem CN{ev:N}{ps:J Xn}(d:wT pc ev acc ps):ps.length<=3:=by
 cases d <;> simp
theorem Ip(pc ev:N)(acc:J N)(fr mn mi ti un:N)(f:J Xn)(i:RW pc ev acc fr mn mi ti un f)(w:XA)(h:Env w):XE prog 299 #[ki pc ev acc fr mn mi ti un] w fun e w'=>WR w w' f e:=by
 cases i with
 |mk ps es hp hen f0 f1 m0 m1 i0 i1 =>
  cases hen with
  |times _ _ t0 t1=>exact Rx ps pc ev acc fr mn mi ti un w h (CN hp) f0 f1 m0 m1 i0 i1 t0 t1 (fun x d=>Il pc ev acc fr mn mi ti un ps hp x d)
  |til _ u0 u1=>exact Ry ps pc ev acc fr mn mi un w h (CN hp) f0 f1 m0 m1 i0 i1 u0 u1 (fun x d=>Il pc ev acc fr mn mi 0 un ps hp x d)
theorem Iq{ev:N}{fr mn mi ti un:N}{d:J Xn}(f:RW pc ev acc fr mn mi ti un d):0<d.length/\d.length<=11:=by
 cases f with
 |mk ps es hp hen f0 f1 m0 m1 i0 i1 =>
  have i:=CN hp;have h:es.length=2:=by cases hen <;> rfl
  simp[gL,h];omega
theorem Qj(pc ev:N)(acc:J N)(fr mn mi ti un:N)(d:J Xn)(S:RW pc ev acc fr mn mi ti un d)(w:XA)(he:Env w):XE prog 308 #[XN #[pc,ev,aI acc 0,aI acc 1,aI acc 2,aI acc 3,aI acc 4,aI acc 5,aI acc 6,fr,mn,mi,ti,un]] w fun e w'=>WR w w' ([fA]++d) e:=by
 obtain⟨D,ab,I,G,F⟩:=info_parts qj;obtain⟨P,ak⟩:=Iq S;have l:=fun x hx=>Ip pc ev acc fr mn mi ti un d S x hx;clear S;simp only[ki] at l;go_in;go_wp21;obtain⟨X,C⟩:∃ X,X=w.alloc (XS #[pc,ev,aI acc 0,aI acc 1,aI acc 2,aI acc 3,aI acc 4,aI acc 5,aI acc 6,fr,mn,mi,ti,un] 173):=⟨_,rfl⟩;rw[<- C];have ad:XD w w X:=by rw[C];exact aS
 have ag:X=w.heap.size+1:=by rw[C];simp
 clear C;obtain⟨Y,t⟩:∃ Y,Y=X.alloc (XS #[XK ⟨#[101,120,112,97,110,100]⟩] 9):=⟨_,rfl⟩;rw[<- t];have r:XD w w Y:=by rw[t];exact ad.alloc O _
 have T:Y.ownsRow (w.heap.size+1) 9 1 (XJ (U ⟨w.heap.size+1,0,Z⟩) 1 1) 1 ([fA].map XK):=by have h:=CX (B:=w.heap.size+1) X [fA] O Xc;rw[ag] at h;rw[t];exact h
 have al:Y=w.heap.size+2:=by rw[t];simp;omega
 clear t;refine (l Y (he.later r)).mono ?_;rintro e w5 ⟨v2,rfl,aa,j⟩;obtain⟨g2,A,rfl,aq,ao,ac⟩:=vH aa P;have o:=nQ T j;have af:=r.trans (j.mono O);have an:=j.size;go_wp2_with (first
  |(at_builtin;refine wpList_append_own _ rfl _ _ 78 rfl (w.heap.size+1) 9 D (XK ⟨#[]⟩) 1 16 underlying78 ab I G F rfl Xd _ _ _ rfl o (g2,0) d.length A (d.map XK) rfl Xc ?c1 ?c2 ?c3 ?c4 ?c5 ?_))
 .exact ac
 .intro u hu;simp only[YP] at hu;obtain⟨x,_,rfl⟩:=hu;rfl
 .unfold maxLen;omega
 .omega
 .omega
 intro v8 w8 f i _;have ae:=af.grown i O (fun k hk=>by have:=lH o hk;omega);have aj:=hide ae;have ai:=hide f;go_wp2;go_ret;refine⟨_,rfl,?_,aj⟩;have h9:=ow (base':=w) ai O;have e1:(fA :: d).length=1+d.length:=by simp;omega
 rw[e1];exact h9
theorem Qk(n:Xn)(u:N)(pc ev:N)(acc:J N)(fr mn mi ti un:N)(o:J Xn)(hr:RW pc ev acc fr mn mi ti un o)(w:XA)(he:Env w)(u0:0<=u)(u1:u<=9999999):XE prog 298 #[XN #[n,u,pc,ev,aI acc 0,aI acc 1,aI acc 2,aI acc 3,aI acc 4,aI acc 5,aI acc 6,fr,mn,mi,ti,un]] w fun e w'=>WR w w' ([eQ,n,Txt.bF u]++o) e:=by
 obtain⟨S,ag,ab,aa,T⟩:=info_parts qj;obtain⟨ac,au⟩:=Iq hr;have ad:=fun x hx=>Ip pc ev acc fr mn mi ti un o hr x hx;clear hr;simp only[ki] at ad;go_in;go_wp21;obtain⟨X,f⟩:∃ X,X=w.alloc (XS #[n,u,pc,ev,aI acc 0,aI acc 1,aI acc 2,aI acc 3,aI acc 4,aI acc 5,aI acc 6,fr,mn,mi,ti,un] 158):=⟨_,rfl⟩;rw[<- f];have ai:XD w w X:=by rw[f];exact aS
 have eX:=he.later ai;have P:w+1<=X.heap.size:=by rw[f];simp
 have l:10<=w.heap.size+1:=by have:=he.size;omega
 have x0:X.cell? (w,0)=U ↑n:=by rw[f];simp
 have x1:X.cell? (w,1)=U ↑u:=by rw[f];simp
 have x2:X.cell? (w,2)=U ↑pc:=by rw[f];simp
 have x3:X.cell? (w,3)=U ↑ev:=by rw[f];simp
 have x4:X.cell? (w,4)=U (XL (aI acc 0)):=by rw[f];simp
 have x5:X.cell? (w,5)=U (XL (aI acc 1)):=by rw[f];simp
 have x6:X.cell? (w,6)=U (XL (aI acc 2)):=by rw[f];simp
 have x7:X.cell? (w,7)=U (XL (aI acc 3)):=by rw[f];simp
 have x8:X.cell? (w,8)=U (XL (aI acc 4)):=by rw[f];simp
 have x9:X.cell? (w,9)=U (XL (aI acc 5)):=by rw[f];simp
 have F:X.cell? (w,10)=U (XL (aI acc 6)):=by rw[f];simp
 have D:X.cell? (w,11)=U ↑fr:=by rw[f];simp
 have C:X.cell? (w,12)=U ↑mn:=by rw[f];simp
 have A:X.cell? (w,13)=U ↑mi:=by rw[f];simp
 have t:X.cell? (w,14)=U ↑ti:=by rw[f];simp
 have r:X.cell? (w,15)=U ↑un:=by rw[f];simp
 have bX:=zr (w.heap.size+1) X;clear f he;go_region_held3 (fun w'=>XD (w.heap.size+1) X w'/\w'.cell? ⟨w.heap.size,0,Z⟩=U (XK n)/\w'.cell? ⟨w.heap.size,1,Z⟩=U (V Y u)/\w'.cell? ⟨w.heap.size,2,Z⟩=U (V Y pc)/\w'.cell? ⟨w.heap.size,3,Z⟩=U (V Y ev)/\w'.cell? ⟨w.heap.size,4,Z⟩=U (XL (aI acc 0))/\w'.cell? ⟨w.heap.size,5,Z⟩=U (XL (aI acc 1))/\w'.cell? ⟨w.heap.size,6,Z⟩=U (XL (aI acc 2))/\w'.cell? ⟨w.heap.size,7,Z⟩=U (XL (aI acc 3))/\w'.cell? ⟨w.heap.size,8,Z⟩=U (XL (aI acc 4))/\w'.cell? ⟨w.heap.size,9,Z⟩=U (XL (aI acc 5))/\w'.cell? ⟨w.heap.size,10,Z⟩=U (XL (aI acc 6))/\w'.cell? ⟨w.heap.size,11,Z⟩=U (V Y fr)/\w'.cell? ⟨w.heap.size,12,Z⟩=U (V Y mn)/\w'.cell? ⟨w.heap.size,13,Z⟩=U (V Y mi)/\w'.cell? ⟨w.heap.size,14,Z⟩=U (V Y ti)/\w'.cell? ⟨w.heap.size,15,Z⟩=U (V Y un))
  (first
   |(go_split_ands;exact jg (jT P Xe j) (fun d=>⟨(d.cell (p:=(w,0)) Xc).trans x0,(d.cell (p:=(w,1)) Xc).trans x1,(d.cell (p:=(w,2)) Xc).trans x2,(d.cell (p:=(w,3)) Xc).trans x3,(d.cell (p:=(w,4)) Xc).trans x4,(d.cell (p:=(w,5)) Xc).trans x5,(d.cell (p:=(w,6)) Xc).trans x6,(d.cell (p:=(w,7)) Xc).trans x7,(d.cell (p:=(w,8)) Xc).trans x8,(d.cell (p:=(w,9)) Xc).trans x9,(d.cell (p:=(w,10)) Xc).trans F,(d.cell (p:=(w,11)) Xc).trans D,(d.cell (p:=(w,12)) Xc).trans C,(d.cell (p:=(w,13)) Xc).trans A,(d.cell (p:=(w,14)) Xc).trans t,(d.cell (p:=(w,15)) Xc).trans r⟩))
   |(go_split_ands;exact jg (jT P Xe aS) (fun d=>⟨(d.cell (p:=(w,0)) Xc).trans x0,(d.cell (p:=(w,1)) Xc).trans x1,(d.cell (p:=(w,2)) Xc).trans x2,(d.cell (p:=(w,3)) Xc).trans x3,(d.cell (p:=(w,4)) Xc).trans x4,(d.cell (p:=(w,5)) Xc).trans x5,(d.cell (p:=(w,6)) Xc).trans x6,(d.cell (p:=(w,7)) Xc).trans x7,(d.cell (p:=(w,8)) Xc).trans x8,(d.cell (p:=(w,9)) Xc).trans x9,(d.cell (p:=(w,10)) Xc).trans F,(d.cell (p:=(w,11)) Xc).trans D,(d.cell (p:=(w,12)) Xc).trans C,(d.cell (p:=(w,13)) Xc).trans A,(d.cell (p:=(w,14)) Xc).trans t,(d.cell (p:=(w,15)) Xc).trans r⟩))
   |(go_split_ands;exact jg (jT P Xe (ia _)) (fun d=>⟨(d.cell (p:=(w,0)) Xc).trans x0,(d.cell (p:=(w,1)) Xc).trans x1,(d.cell (p:=(w,2)) Xc).trans x2,(d.cell (p:=(w,3)) Xc).trans x3,(d.cell (p:=(w,4)) Xc).trans x4,(d.cell (p:=(w,5)) Xc).trans x5,(d.cell (p:=(w,6)) Xc).trans x6,(d.cell (p:=(w,7)) Xc).trans x7,(d.cell (p:=(w,8)) Xc).trans x8,(d.cell (p:=(w,9)) Xc).trans x9,(d.cell (p:=(w,10)) Xc).trans F,(d.cell (p:=(w,11)) Xc).trans D,(d.cell (p:=(w,12)) Xc).trans C,(d.cell (p:=(w,13)) Xc).trans A,(d.cell (p:=(w,14)) Xc).trans t,(d.cell (p:=(w,15)) Xc).trans r⟩))
   |(go_split_ands;exact jg (Below.grown Xe i (by (try simp);omega) (fun k d=>lH G d)) (fun d=>⟨(d.cell (p:=(w,0)) Xc).trans x0,(d.cell (p:=(w,1)) Xc).trans x1,(d.cell (p:=(w,2)) Xc).trans x2,(d.cell (p:=(w,3)) Xc).trans x3,(d.cell (p:=(w,4)) Xc).trans x4,(d.cell (p:=(w,5)) Xc).trans x5,(d.cell (p:=(w,6)) Xc).trans x6,(d.cell (p:=(w,7)) Xc).trans x7,(d.cell (p:=(w,8)) Xc).trans x8,(d.cell (p:=(w,9)) Xc).trans x9,(d.cell (p:=(w,10)) Xc).trans F,(d.cell (p:=(w,11)) Xc).trans D,(d.cell (p:=(w,12)) Xc).trans C,(d.cell (p:=(w,13)) Xc).trans A,(d.cell (p:=(w,14)) Xc).trans t,(d.cell (p:=(w,15)) Xc).trans r⟩)))
  (first
   |(go_at_call 289;go_split_ands;refine aK (nu u _ (eX.jj l Xe) O O) fun w4 j=>?_;have aw:=pG (B:=w.heap.size+1) (x:=X) Xe j)
   |(go_at_call 299;go_split_ands;refine (ad _ (eX.jj l Xe)).mono ?_;rintro e w5 ⟨v2,rfl,ae,j⟩;obtain⟨g2,I,rfl,ay,ax,al⟩:=vH ae ac;have av:=pG (B:=w.heap.size+1) (x:=X) Xe j)
   |(have G:=nQ (CX (B:=w.heap.size+1) w4 [eQ,n,Txt.bF u] O Xc) j;(refine step_append_lies _ (by rfl) _ _ _ (by rfl) (w.heap.size+1) 9 S _ 1 16 underlying78 ag ab aa T rfl O (XJ w4 3 3) 3 ([eQ,n,Txt.bF u].map XK) (by rfl) G (g2,0) o.length I (o.map XK) (by rfl) Xc al (by intro u hu;simp only[YP] at hu;obtain⟨x,_,rfl⟩:=hu;rfl) O Xk O (by (try simp);omega) w5 Xc ?_;intro g cap w6 h i an af))
   |(
    have G:=CX (B:=w.heap.size+1) w5 [eQ,n,Txt.bF u] O Xc;obtain⟨g3,ar,e3,_,_,ak⟩:=vH (ae.alloc (XS ([eQ,n,Txt.bF u].map XK).toArray 9)) ac
    cases e3;(refine step_append_lies _ (by rfl) _ _ _ (by rfl) (w.heap.size+1) 9 S _ 1 16 underlying78 ag ab aa T rfl O (XJ (U ⟨w5.heap.size,0,Z⟩) 3 3) 3 ([eQ,n,Txt.bF u].map XK) (by rfl) G ⟨g2,0,Z⟩ o.length I (o.map XK) (by rfl) Xc ak (by intro u hu;simp only[YP] at hu;obtain⟨x,_,rfl⟩:=hu;rfl) O Xk O (by (try simp);omega) (w5.heap.size+1) Xc ?_;intro g cap w6 h i an af)))
 all_goals
  go_split_ands;have aj:XD (w.heap.size+1) X w6:=Xe;have aq:=hide aj;have ao:=hide h;clear aj h;go_wp2;go_ret;refine⟨_,rfl,?_,ai.trans (aq.mono O)⟩;have h9:=ow (base':=w) ao O;have e1:(eQ :: n :: Txt.bF u :: o).length=3+o.length:=by simp;omega
  rw[e1];exact h9
theorem nP (T K : M) (x : XC) (xs : J Xn) (w : XA) (he : Env w) (hm : ∀ w : XA, (method 468 T x "bookings/lines.plainWords").run prog w = .ok (K, x) w) (hk : ∀ w : XA, (callFunc K #[x]).run prog w = .ok (.enter K #[x]) w)
  (hc:∀ w:XA,Env w->XE prog K #[x] w fun e w'=>WR w w' xs e) (h0:0<xs.length) (h1:xs.length<=20) (hlen:(Lib.join (xs.map (·.data.toList)) [32]).length<=30000):
  XE prog 36 #[XP T x] w fun e w'=>e=XR (jn xs)/\XD w w w':=by
 have HE:=hide he;have HC:=hide hc;have HLEN:=hide hlen;clear he hc hlen;go_in;go_wp21;refine (aO HC w (aO HE)).mono ?_;rintro e w1 ⟨v,rfl,ho,hb1⟩;obtain⟨a,c,g,rfl,hrow⟩:=xH ho rfl;obtain rfl:=hrow.at_ h0;have HROW:=hide hrow;have hcap:xs.length<=c:=by
  rcases ho.2 with ⟨h,_⟩|⟨g',cap,cur,hv,_,_,hc,_⟩
  .cases h
  .cases hv;exact hc
 have hgl:=XW _ (g,0) (hrow.cells 0 h0);clear ho hrow;go_wp21;refine (strings_Join g 0 c xs ⟨#[32]⟩ w1 (fun j x hx=>?_) hgl O hcap (XV (aO HLEN) O)).mono ?_
 .let⟨hj,e⟩:=List.getElem?_eq_some_iff.1 hx;have:=(aO HROW).cells j hj;rw[e] at this;rw[Nat.zero_add];exact this
 rintro e w' ⟨rfl,hbj⟩;have hbe:=iX hb1 hbj;go_wp2;go_ret;exact⟨rfl,hbe⟩
theorem Qs(d:J Xn):(Lib.join (d.map (·.data.toList)) [32]).length=(jn d).size:=by rw[<- Txt.iJ];rfl
theorem Rw(v:XC)(j:J Xn)(l:PW v j)(w:XA)(d:Env w)(i:0<j.length)(h:j.length<=20)(f:(jn j).size<=30000):XE prog 36 #[v] w fun e w'=>e=XR (jn j)/\XD w w w':=by
 rw[<- Qs] at f
 cases l with
 |bI n u u0 u1=>exact nP 143 288 _ _ w d (fun _=>by kernel_rfl) (fun _=>by kernel_rfl) (fun w d=>Qg n u w d u0 u1) i h f
 |book n u a b u0 u1 a0 a1 b0 b1=>exact nP 148 290 _ _ w d (fun _=>by kernel_rfl) (fun _=>by kernel_rfl) (fun w d=>PJ n u a b w d u0 u1 a0 a1 b0 b1) i h f
 |hold n u a b m u0 u1 a0 a1 b0 b1 m0 m1=>exact nP 150 296 _ _ w d (fun _=>by kernel_rfl) (fun _=>by kernel_rfl) (fun w d=>PN n u a b m w d u0 u1 a0 a1 b0 b1 m0 m1) i h f
 |wait n u a b m u0 u1 a0 a1 b0 b1 m0 m1=>exact nP 151 297 _ _ w d (fun _=>by kernel_rfl) (fun _=>by kernel_rfl) (fun w d=>PQ n u a b m w d u0 u1 a0 a1 b0 b1 m0 m1) i h f
 |series n u pc ev acc fr mn mi ti un j u0 u1 hr=>exact nP 158 298 _ _ w d (fun _=>by kernel_rfl) (fun _=>by kernel_rfl) (fun w d=>Qk n u pc ev acc fr mn mi ti un j hr w d u0 u1) i h f
 |bM u u0 u1=>exact nP 160 302 _ _ w d (fun _=>by kernel_rfl) (fun _=>by kernel_rfl) (fun w d=>QU u w d u0 u1) i h f
 |cancel u u0 u1=>exact nP 161 303 _ _ w d (fun _=>by kernel_rfl) (fun _=>by kernel_rfl) (fun w d=>Qw u w d u0 u1) i h f
 |list0 n a b=>exact nP 163 304 _ _ w d (fun _=>by kernel_rfl) (fun _=>by kernel_rfl) (fun w d=>Qb n a b w) i h f
 |list1 n a b a0 a1 b0 b1=>exact nP 163 304 _ _ w d (fun _=>by kernel_rfl) (fun _=>by kernel_rfl) (fun w d=>Qc n a b w d a0 a1 b0 b1) i h f
 |waiting=>exact nP 166 305 _ _ w d (fun _=>by kernel_rfl) (fun _=>by kernel_rfl) (fun w d=>QV w) i h f
 |ef n a b a0 a1 b0 b1=>exact nP 169 306 _ _ w d (fun _=>by kernel_rfl) (fun _=>by kernel_rfl) (fun w d=>PO n a b w d a0 a1 b0 b1) i h f
 |find n u m a b u0 u1 m0 m1 a0 a1 b0 b1=>exact nP 171 307 _ _ w d (fun _=>by kernel_rfl) (fun _=>by kernel_rfl) (fun w d=>PM n u m a b w d u0 u1 m0 m1 a0 a1 b0 b1) i h f
 |expand pc ev acc fr mn mi ti un j hr=>exact nP 173 308 _ _ w d (fun _=>by kernel_rfl) (fun _=>by kernel_rfl) (fun w d=>Qj pc ev acc fr mn mi ti un j hr w d) i h f
 |tick u u0 u1=>exact nP 175 309 _ _ w d (fun _=>by kernel_rfl) (fun _=>by kernel_rfl) (fun w d=>PP u w d u0 u1) i h f
 |clock=>exact nP 176 310 _ _ w d (fun _=>by kernel_rfl) (fun _=>by kernel_rfl) (fun w d=>Qa w) i h f
theorem Rt(w:XA)(o:Env w):XE prog 8 #[] w fun e w'=>∃ p d l,e=XR (XI (U ⟨p,0,Z⟩))/\BD w' p d jy pI l/\XD w w w'/\(∀ b,b<w.heap.size->l b=Z)/\w<=p:=by
 have C:=aB (b5o w);have A:=aB o;have t:=o.size;clear o;go_in;go_wp2_with (first
  |(go_at_call 17;refine C.mono ?_;rintro e f ⟨v,rfl,rfl,i,j⟩))
 have u:Hid (BD (f.alloc (XS #[XI (U ⟨w.heap.size+2,0,Z⟩)] 67)) f (w.heap.size+2) jy pI (sk w)/\XD w w (f.alloc (XS #[XI (U ⟨w.heap.size+2,0,Z⟩)] 67))/\(∀ b,b<w.heap.size->sk w.heap.size b=Z)/\w<=f.heap.size):=by
  have k:XD f.heap.size f (f.alloc (XS #[XI (U ⟨w.heap.size+2,0,Z⟩)] 67)):=(zr _ _).alloc (zq _) _;have h:∀ b,b<w.heap.size->sk w.heap.size b=Z:=fun b r=>by unfold sk;rw[Xt O,Xt O,Xt O]
  exact⟨⟨dH f _,i.dk.none aJ,⟨i.dk.later k,i.of,i.wl,i.hl,i.inv⟩,(A.out.later j).later k,fun b r=>h b O⟩,j.trans (k.mono j.size),h,j.size⟩
 clear i j;go_wp21;exact bodyPost_ret (v:=f) (by simp[results,results8,go_sem]) rfl ⟨_,_,_,rfl,u⟩
namespace aA
theorem CY(p:aQ->Xq):∀ l:J aQ,(l.filter p).length+(l.filter fun e=>!p e).length=l.length:=by grind[CY,List.filter_cons]
theorem IY(ts:J (Xn × N)):∀ (k:M)(es:J aQ)(now tq:N),(gd ts k es now tq).2.1.length<=es.length
 |0,es,_,_=>by simp[gd]
 |k+1,es,now,tq=>by simp only[gd];split;have h:=IY ts k (dS ts (es.filter fun e=>!cA (eL tq es) e)).1 (eL tq es) tq;have f:=yy ts (es.filter fun e=>!cA (eL tq es) e);have d:=CY (cA (eL tq es)) es;simp only[Yy,Ze];omega;simp
structure zO(s:St)(r:bT):Prop where
 en:r.entries.length<=60
 es:∀ e∈r.entries,e∈s.es
 da:r.days.length<=60
 ed:r.ended.length<=60
theorem zO.plain{s:St}{r:bT}(d:r.entries=[])(h:r.days=[])(f:r.ended=[]):zO s r:=⟨by rw[d];simp,by rw[d];simp,by rw[h];simp,by rw[f];simp⟩
theorem Sa{s:St}(h:Inv s){l:ja}(o:kc l):zO s (aY s l).2:=by
 cases l with
 |bI name u=>simp only[aY];split <;> first|exact .plain rfl rfl rfl|(split <;> exact .plain rfl rfl rfl)
 |enter k name u fr til long=>simp only[aY];split <;> exact .plain rfl rfl rfl
 |series name u r=>simp only[aY];split <;> exact .plain rfl rfl rfl
 |bM id =>
  simp only[aY];split
  .exact .plain rfl rfl rfl
  .split <;> exact .plain rfl rfl rfl
 |cancel id=>simp only[aY];split <;> exact .plain rfl rfl rfl
 |list name fr til =>
  simp only[aY];split
  .exact .plain rfl rfl rfl
  .split
   .exact .plain rfl rfl rfl
   .have j:∀ e∈nB name fr til s.es,e∈s.es:=fun e i=>(ZX.1 (Bs.1 i)).1
    have d:(nB name fr til s.es).length<=60:=by have:=Dl h;have e:=(M6 (a:=fr) (b:=til) (s.es.filter (mS name fr til))).length_eq;have f:=Zj (mS name fr til) s.es;unfold nB;omega
    exact⟨d,j,by simp[bT.num],by simp[bT.num]⟩
 |waiting=>exact⟨XV (Zj ..) (Dl h),fun e i=>(ZX.1 i).1,by simp[aY,bT.num],by simp[aY,bT.num]⟩
 |ef name fr til=>simp only[aY];split <;> first|exact .plain rfl rfl rfl|(split <;> exact .plain rfl rfl rfl)
 |find name u long fr til=>simp only[aY];split <;> first|exact .plain rfl rfl rfl|(split <;> exact .plain rfl rfl rfl)
 |expand r =>
  simp only[aY];split
  .exact .plain rfl rfl rfl
  .rename_i c
   have t:=o;have:=((Rd.sD t).2 O).2.2.1;exact⟨by simp[bT.num],by simp[bT.num],by grind,by simp[bT.num]⟩
 |tick n =>simp only[aY];split;exact .plain rfl rfl rfl;have C:=IY s.ts (s.es.length+1) s.es s.now (s.now+n);have A:=Dl h;exact⟨by simp[bT.num],by simp[bT.num],by simp[bT.num],by grind⟩
 |clock=>exact .plain rfl rfl rfl
theorem Sd{s:St}(h:Inv s){l:ja}(f:kc l):zO s (jD s l).2/\(jD s l).2.granted.length<=100000:=by
 have d:=Sa h f;have o:=Dp h.bB l;unfold jD;split
 .exact⟨d,O⟩
 .refine⟨⟨d.en,d.es,d.da,d.ed⟩,?_⟩;have j:=Ax (aY s l).1.ts (aY s l).1.es;have i:=kQ (DP h f);simp only[Yy];omega
end aA
end Go.Proofs.YtolaacmheeaadaaGreatDoor
namespace Go.Proofs.YtolaacmheeaadaaGreatDoor.Laid
def val:DataW Unit->XC
 |.lit (.int k n)=>V k n
 |.lit (.string b)=>XK ⟨b.toArray⟩
 |_=>XL Xy
def row:DataW Unit->J XC
 |.agg l=>l.map val
 |_=>[]
def rows:DataW Unit->J XC
 |.agg l=>l.flatMap row
 |_=>[]
def text:DataW Unit->XC
 |.iface _ (.ptr (.agg [d]))=>val d
 |_=>XL Xy
def put(l:J XC):Obj->Obj
 |.cells _ t frozen=>XS l.toArray t frozen
 |o=>o
def Dj(w:XA):XA :={ w with heap:=(((((((((w.heap.modify 0 (put (row Rows.laid_bookings_calendar_monthDays))).modify 1 (put (row Rows.laid_internal_strconv_uint64pow10))).modify 2 (put [XP 327 w])).modify 3 (put [XP 327 (XI (U ⟨w.heap.size+1,0,Z⟩))])).modify 5 (put (row Rows.laid_bookings_lines_weekdays))).modify 6 (put (row Rows.laid_math_bits_deBruijn32tab))).modify 7 (put (row Rows.laid_math_bits_deBruijn64tab))).modify 8 (put (row Rows.laid_unicode_utf8_first))).modify 9 (put (rows Rows.laid_unicode_utf8_acceptRanges))).push (XS #[text Rows.laid_strconv_ErrSyntax] 329) |>.push (XS #[text Rows.laid_strconv_ErrRange] 329) }
end Go.Proofs.YtolaacmheeaadaaGreatDoor.Laid
namespace Go.Proofs.YtolaacmheeaadaaGreatDoor.datesLaw
open Go.ChangeShapes Go.WideShapes Go.ChangeAt Go.RowKit
theorem own:ownKnob prog.godebug=Z:=Xg
theorem TP:laidOutB prog=Xz:=Xg
theorem UQ:prog.cellsOf 3=1:=Xg
theorem DM:prog.cellsOf 9=1:=Xg
theorem Ct:prog.cellsOf 37=6:=Xg
theorem qI{α:Type}{l:J α}(h:l.length=6):∃ a b c d e f,l=[a,b,c,d,e,f]:=by
 match l,h with
 |[a,b,c,d,e,f],_=>exact⟨a,b,c,d,e,f,rfl⟩
end Go.Proofs.YtolaacmheeaadaaGreatDoor.datesLaw
namespace Go.Proofs.YtolaacmheeaadaaGreatDoor.EnvLaid
open Go.ChangeShapes Go.WideShapes Go.ChangeAt Go.RowKit
theorem Ly{P:Program}{name:String}{k:IntKind}{zs:J N}{t e:TypeId}
  (j:P.globalNamed name=U g) (d:(P.globals[g]?).map (·.type)=U t) (ht:P.underlying t=U (.array n e)) (l:P.underlying e=U (.int k)) (i:P.cellsOf e=1) (f:P.cellsOf t=n)
  (h:Lib.VarReads P W name (Lib.tabData k zs)):Lib.TabIs P W name k zs:=by
 let⟨g',t',cs,fuel,p,hg',ht',hvar,hd⟩:=h;obtain rfl:=Zo (j.symm.trans hg');obtain rfl:=Zo (d.symm.trans ht');unfold Lib.TabIs;rw[hvar,<- Lib.cells_of_tab ht l i f hd]
theorem Wc{P:Program}{name:String}{zs:J (J UInt8)}{t e:TypeId}
  (u:P.globalNamed name=U g) (l:(P.globals[g]?).map (·.type)=U t) (ht:P.underlying t=U (.array n e)) (C:P.underlying e=U .string) (o:P.cellsOf e=1)
  (h:Lib.VarReads P W name (.agg (zs.map fun z=>.lit (.string z)))) (i:M) (z:J UInt8) (A:zs[i]?=U z):W.cell? (g,i)=U (XK ⟨z.toArray⟩):=by
 let⟨g',t',cs,fuel,p,hg',ht',hvar,hd⟩:=h;obtain rfl:=Zo (u.symm.trans hg');obtain rfl:=Zo (l.symm.trans ht');let⟨xs,m,_,hx,_,hxl,hall⟩:=DataW.trod_array ht hd;have j:zs.map (fun z=>(DataW.lit (.string z):DataW Unit))=xs.map (·.1):=Xi;have r:zs.length=xs.length:=by have:=congrArg List.length j;simpa using this
 have G:i<zs.length:=(List.getElem?_eq_some_iff.1 A).1;have d:xs[i]?=U xs[i]:=Zv O;have f:=hall i O;rw[d,o] at f;let⟨s,hs1,hs2,_⟩:=DataW.trod_string C f;have S:(xs.map (·.1))[i]?=U (DataW.lit (.string z):DataW Unit):=Xi;have I:(xs.map (·.1))[i]?=U (DataW.lit (.string s.data.toList):DataW Unit):=by simp[d,hs2]
 have F:z=s.data.toList:=Xi;have D:cs[i]?=U ↑s:=by have:=congrArg (·[0]?) hs1;simpa[List.getElem?_take,List.getElem?_drop] using this
 rw[World.var?_cell u hvar i,D,F]
theorem UF:(prog.globals[1]?).map (·.type)=U 298:=Xg
theorem US:prog.cellsOf 298=20:=Xg
theorem Up:prog.cellsOf 255=1:=Xg
theorem Th : prog.globalNamed "bookings/lines.weekdays" = U 5 := by kernel_rfl
theorem V2:(prog.globals[5]?).map (·.type)=U 331:=Xg
theorem oU : prog.globalNamed "bookings/calendar.monthDays" = U 0 := by kernel_rfl
theorem UE:(prog.globals[0]?).map (·.type)=U 138:=Xg
theorem UR:prog.cellsOf 138=12:=Xg
theorem Tq:prog.cellsOf 3=1:=Xg
theorem DM:prog.cellsOf 9=1:=Xg
theorem Tf {W: XA} {l: J (String × DataW Unit)} (hM : laidMet prog l W) (hS : W.ShapedOpen prog) (m1 : ("bookings/calendar.monthDays", Rows.laid_bookings_calendar_monthDays) ∈ l) (m2 : ("internal/strconv.uint64pow10", Rows.laid_internal_strconv_uint64pow10) ∈ l) (m3 : ("bookings/lines.weekdays", Rows.laid_bookings_lines_weekdays) ∈ l) : Env W := by
 have ht : Lib.VarReads prog W "bookings/calendar.monthDays" (Lib.tabData Y [31, 28, 31, 30, 31, 30, 31, 31, 30, 31, 30, 31]) := Lib.laidMet.reads hM (d := Rows.laid_bookings_calendar_monthDays) m1;have hp : Lib.VarReads prog W "internal/strconv.uint64pow10" (Lib.tabData .u64 Lib.pow10Tab) := Lib.laidMet.reads hM (d := Rows.laid_internal_strconv_uint64pow10) m2;have hd : Lib.VarReads prog W "bookings/lines.weekdays" (.agg ([[109, 111], [116, 117], [119, 101], [116, 104], [102, 114], [115, 97], [115, 117]].map fun z => .lit (.string z))) := Lib.laidMet.reads hM (d := Rows.laid_bookings_lines_weekdays) m3;have day:=fun i z hz=>Wc Th V2 underlying331 underlying9 DM hd i z hz;have tb:=Ly oU UE underlying138 underlying3 Tq UR ht;have hsz:10<=W.heap.size:=by have h0:(((begin prog (fun _ _=>0) default).world.heap[9]?).bind Obj.row?).isSome=Xz:=Xg;obtain⟨⟨zero,t⟩,h1⟩:=Option.isSome_iff_exists.1 h0;obtain⟨cs,hh,_⟩:=hS.1 9 zero t (of_decide_eq_true Xg) h1;exact (Array.getElem?_eq_some_iff.1 hh).1
 exact⟨⟨tb.cell oU 0 Xd,tb.cell oU 1 Xd,tb.cell oU 2 Xd,tb.cell oU 3 Xd,tb.cell oU 4 Xd,tb.cell oU 5 Xd,tb.cell oU 6 Xd,tb.cell oU 7 Xd,tb.cell oU 8 Xd,tb.cell oU 9 Xd,tb.cell oU 10 Xd,tb.cell oU 11 Xd⟩,cell_of_shapedOpen_int (zero:=#[V Y 0]) (t:=3) hS (of_decide_eq_true Xg) Xg rfl Xg Xg underlying3,
  Ly xR UF underlying298 underlying255 Up US hp,hsz,
  day 0 _ rfl,day 1 _ rfl,day 2 _ rfl,day 3 _ rfl,day 4 _ rfl,day 5 _ rfl,day 6 _ rfl⟩
end Go.Proofs.YtolaacmheeaadaaGreatDoor.EnvLaid
namespace Go.Proofs.YtolaacmheeaadaaGreatDoor
open Go.RowKit
def cS:J Xn:=[cC,fY,cN,im,dA,cD]
def mK:J Xn:=[fZ,fS]
def nK:J Xn:=[fU,fS,kv]
def oN:J Xn:=[gg,fS]
def kU:J Xn:=[eU,fS]
def pv:J Xn:=[fe,fY]
def jR:J (J Xn):=[mK,nK,oN]
def ends:J (J Xn):=[kU,pv]
def kD(H:J Xn):J (J Xn):=jR.flatMap fun K=>ends.map fun E=>H++K++cS++E
def kV:J Xn:=[eQ,bG,bY]
def og:J Xn:=[fA]
def fV:J (J Xn):=[[iw,bG,bY],[iO,bG,bY,aV,aV],[iD,bG,bY,aV,aV,cD],[iE,bG,bY,aV,aV,cD],[iU,gT],[iR,gT],[dC,bG],[dC,bG,aV,aV],[iT],[ir,bG,aV,aV],[iq,bG,bY,cD,aV,aV],[iZ,cD],[iN]]++kD kV++kD og
theorem GQ:px=fV:=Xf
theorem GS:∀ p∈fV,p≠[]:=Xf
def gk(k:Xn)(p:J Xn):Xq:=bH (p.headD ByteArray.empty) k
theorem Cv(h:bS ws 0 Xy k=Xz):∃ t,ws=k :: t:=by
 rw[qg] at h;let⟨_,h1,h2⟩:=oQ h;have e:=qM h2;match ws,h1 with
 |a :: t,_=>exact⟨t,by grind⟩
theorem IJ{t:J Xn}(h:Txt.aC s=k :: t):kF s=scan (fV.filter (gk k)) (Txt.aC s) 0:=by
 unfold kF;rw[GQ,C0 _ (gk k) fV 0];intro p i f;have d:=GS p i;refine⟨?_,d⟩;match p,d,f with
 |a :: p',_,f =>have e:bH a k=Xy:=f;rw[h,pre,e];rfl
theorem fp(h:bS ws 0 Xy k=Xz)(d:fl k=Xz)(p:J Xn):aP ws (p.map bH) (1,Xy)=aP ws ((k :: p).map bH) (0,Xy):=by
 have e:gG ws (bH k) (0,Xy)=(1,Xy):=by let⟨_,h1,h2⟩:=oQ (qg ws 0 Xy k ▸ h);rw[jG k d];exact Jl h1 h2
 show _=aP ws (p.map bH) (gG ws (bH k) (0,Xy));rw[e]
theorem jH(h:aP ws (q.map bH) (0,Xy)=st):Sum [q] ws st q:=by
 let⟨n,b⟩:=st;have f:=qi h;have one:∀ p∈[q],p=q:=fun p f=>List.mem_singleton.1 f;refine⟨List.mem_singleton.2 rfl,fun p d=>by grind,f,fun j p d e=>?_,fun j=>⟨?_,fun p d i=>Xv (one p d) i⟩⟩
 .cases j
  rw[one p d] at e;have:=xx h;omega
 .cases j
  rw[f];exact sX h
theorem xD:∀ (Q R ws:J Xn),pre Q ws<=pre (Q++R) ws:=by grind[pre,xD,Yk]
theorem Cl(h:aP ws ([dC,bG].map bH) (0,Xy)=st)(o:dN ws.length st.1 st.2=Xy):Sum [[dC,bG],[dC,bG,aV,aV]] ws st [dC,bG]:=by
 let⟨n,b⟩:=st;have f:=qi h;have u:=(uA [dC,bG,aV,aV] ws).2;have r:pre [dC,bG,aV,aV] ws<=n:=by
  cases b
  .have:¬ n<ws.length:=by simpa[dN] using o
   omega
  .exact Nat.le_of_eq (GU [aV,aV] h)
 have t:n<=2:=by have:=(uA [dC,bG] ws).1;rw[f] at this;exact this
 refine⟨by simp,?_,f,?_,?_⟩
 .intro p d;rcases X8.1 d with rfl|d
  .exact Nat.le_of_eq f
  .rw[List.mem_singleton.1 d];exact r
 .intro j p d e
  cases j;have l:=xx h;rcases X8.1 d with rfl|d
  .rw[f] at e;exact Xv e.1 Xi
  .rw[List.mem_singleton.1 d] at e;exact Xv e.1 Xi
 .intro j
  cases j;refine⟨f.trans (sX h),fun p d i e=>?_⟩;rcases X8.1 d with rfl|d
  .exact i rfl
  .rw[List.mem_singleton.1 d] at e;exact Xv e.1 Xi
theorem Cm{f:M × Xq}(h:aP ws ([dC,bG].map bH) (0,Xy)=st)(A:dN ws.length st.1 st.2=Xz)(t:aP ws ([dC,bG,aV,aV].map bH) (0,Xy)=f):Sum [[dC,bG],[dC,bG,aV,aV]] ws f [dC,bG,aV,aV]:=by
 let⟨n,b⟩:=st;let⟨n',b'⟩:=f;have C:=qi h;have i:=qi t;have j:=sF A;have o:pre [dC,bG] ws<=pre [dC,bG,aV,aV] ws:=xD [dC,bG] [aV,aV] ws;refine⟨by simp,?_,i,?_,?_⟩
 .intro p d;rcases X8.1 d with rfl|d
  .show _<=n';omega
  .rw[List.mem_singleton.1 d];exact Nat.le_of_eq i
 .intro r p d e
  cases r;have u:n'<4:=xx t;rcases X8.1 d with rfl|d
  .have:n<ws.length:=j;omega
  .rw[List.mem_singleton.1 d] at e;have D:pre [dC,bG,aV,aV] ws=4:=e.1;omega
 .intro r
  cases r;refine⟨i.trans (sX t),fun p d l e=>?_⟩;rcases X8.1 d with rfl|d
  .have:n<ws.length:=j;omega
  .exact l (List.mem_singleton.1 d)
theorem Ci(h:p∈kD H):∃ K∈jR,∃ E∈ends,p=H++K++cS++E:=by unfold kD at h;simp only[List.mem_flatMap,YP] at h;obtain⟨K,d,E,f,rfl⟩:=h;exact⟨K,d,E,f,rfl⟩
theorem Cd(d:K∈jR)(f:E∈ends):H++K++cS++E∈kD H:=by unfold kD;simp only[List.mem_flatMap,YP];exact⟨K,d,E,f,rfl⟩
theorem Pe(h:K∈jR):∃ K',K=K.headD ByteArray.empty :: K':=by
 simp only[jR,X8,List.not_mem_nil,or_false] at h;rcases h with rfl|rfl|rfl
 .exact⟨[fS],rfl⟩
 .exact⟨[fS,kv],rfl⟩
 .exact⟨[fS],rfl⟩
theorem OA(h:E∈ends):∃ E',E=E.headD ByteArray.empty :: E':=by
 simp only[ends,X8,List.not_mem_nil,or_false] at h;rcases h with rfl|rfl
 .exact⟨[fS],rfl⟩
 .exact⟨[fY],rfl⟩
theorem Cg(h:K∈jR)(d:aP ws (H.map bH) (0,Xy)=(n,Xy))(f:fQ ws n Xy (bH (K.headD ByteArray.empty))=Xy):pre (H++K++cS++E) ws=n/\n<(H++K++cS++E).length:=by let⟨K',e⟩:=Pe h;have j:=sX d;have i:H++K++cS++E=H++K.headD ByteArray.empty :: (K'++cS++E):=Xi;rw[i];exact⟨GB _ d f,by simp;omega⟩
theorem GA(h:E∈ends)(d:aP ws (Q.map bH) (0,Xy)=(n,Xy))(f:fQ ws n Xy (bH (E.headD ByteArray.empty))=Xy):pre (Q++E) ws=n/\n<(Q++E).length:=by let⟨E',e⟩:=OA h;have i:=sX d;rw[e];exact⟨GB _ d f,by simp;omega⟩
theorem Gw(d:aP ws (Q.map bH) (0,Xy)=(n,Xz)):pre (Q++E) ws=n/\n<(Q++E).length:=by have:=xx d;exact⟨GU _ d,by simp;omega⟩
theorem GP(hK:K∈jR)(hE:E∈ends)(F:aP ws (H.map bH) (0,Xy)=(n,Xy))
  (hk:∀ A∈jR,A≠K->fQ ws n Xy (bH (A.headD ByteArray.empty))=Xy) (G:aP ws ((H++K++cS).map bH) (0,Xy)=(m,Xy))
  (he:∀ j∈ends,j≠E->fQ ws m Xy (bH (j.headD ByteArray.empty))=Xy) (i:aP ws ((H++K++cS++E).map bH) (0,Xy)=st):Sum (kD H) ws st (H++K++cS++E):=by
 let⟨l,b⟩:=st;have o:=qi i;have T:n<=l:=by have u:=xD H (K++cS++E) ws;rw[qi F,<- Y9,<- Y9,o] at u;exact u
 have X:m<=l:=by have u:=xD (H++K++cS) E ws;rw[qi G,o] at u;exact u
 have f:∀ p∈kD H,p=H++K++cS++E\/(pre p ws<=l/\pre p ws<p.length):=by
  intro p d;obtain⟨A,r,j,t,rfl⟩:=Ci d;by_cases S:A=K
  .subst S
   by_cases P:j=E
   .subst P;exact .inl rfl
   .let⟨q1,q2⟩:=GA t G (he j t P);exact .inr ⟨O,O⟩
  .let⟨q1,q2⟩:=Cg (E:=j) r F (hk A r S);exact .inr ⟨O,O⟩
 refine⟨Cd hK hE,fun p d=>?_,o,fun D p d e=>?_,fun D=>⟨?_,fun p d C e=>?_⟩⟩
 .rcases f p d with rfl|h
  .exact Nat.le_of_eq o
  .exact h.1
 .cases D
  have I:=xx i;rcases f p d with rfl|h
  .omega
  .omega
 .cases D;exact o.trans (sX i)
 .rcases f p d with h|h
  .exact C h
  .omega
theorem Pa(P:K∈jR)(t:aP ws (H.map bH) (0,Xy)=(n,Xy))
  (F:∀ l∈jR,l≠K->fQ ws n Xy (bH (l.headD ByteArray.empty))=Xy) (r:aP ws ((H++K++cS).map bH) (0,Xy)=(m,b))
  (G:∀ h∈ends,fQ ws m b (bH (h.headD ByteArray.empty))=Xy):Sum (kD H) ws (m,Xz) (H++K++cS++kU):=by
 have u:kU∈ends:=by simp[ends]
 have D:n<=m:=by have A:=xD H (K++cS) ws;rw[qi t,<- Y9,qi r] at A;exact A
 have i:∀ h∈ends,pre (H++K++cS++h) ws=m/\m<(H++K++cS++h).length:=by
  intro h f
  cases b
  .exact GA f r (G h f)
  .exact Gw r
 have o:∀ p∈kD H,pre p ws<=m/\pre p ws<p.length:=by intro p d;obtain⟨l,j,h,f,rfl⟩:=Ci d;by_cases C:l=K;subst C;let⟨q1,q2⟩:=i h f;exact⟨O,O⟩;let⟨q1,q2⟩:=Cg (E:=h) j t (F l j C);exact⟨O,O⟩
 exact⟨Cd P u,fun p d=>(o p d).1,(i kU u).1,fun _ p d e=>by grind,fun I=>Xv I Xc⟩
theorem Pn(o:aP ws (H.map bH) (0,Xy)=(n,b))(u:∀ h∈jR,fQ ws n b (bH (h.headD ByteArray.empty))=Xy):Sum (kD H) ws (n,Xz) (H++mK++cS++kU):=by
 have r:mK∈jR:=by simp[jR]
 have C:kU∈ends:=by simp[ends]
 have i:∀ h∈jR,∀ j:J Xn,pre (H++h++cS++j) ws=n/\n<(H++h++cS++j).length:=by
  intro h f j
  cases b
  .exact Cg f o (u h f)
  .have t:=Gw (E:=h++cS++j) o;rw[<- Y9,<- Y9] at t;exact t
 have l:∀ p∈kD H,pre p ws<=n/\pre p ws<p.length:=by intro p d;obtain⟨h,f,j,_,rfl⟩:=Ci d;let⟨q1,q2⟩:=i h f j;exact⟨O,O⟩
 exact⟨Cd r C,fun p d=>(l p d).1,(i mK r kU).1,fun _ p d e=>by grind,fun A=>Xv A Xc⟩
end Go.Proofs.YtolaacmheeaadaaGreatDoor
