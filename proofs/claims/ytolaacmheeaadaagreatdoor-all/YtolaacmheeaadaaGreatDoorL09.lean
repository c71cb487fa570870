import Derived.Test.YtolaacmheeaadaaGreatDoorL08
import Derived.Test.YtolaacmheeaadaaGreatDoorCards
import Derived.Test.YtolaacmheeaadaaGreatDoorTie
import Derived.Deep.DeepWitnessRowRef
import Derived.Lib.LaidU8
set_option maxRecDepth 100000
set_option maxHeartbeats 8000000
open Go.Proofs.Tryz
open _root_ renaming ByteArray->Xm,List->Xn,Bool->Xp,Nat->Xq,Int->Xr,if_neg->Xs,if_pos->Xt,absurd->Xu,Int->N,Nat->M,List->J
open Option renaming none->Xv,some->Xw,none->Z,some->U
open Bool renaming false->Xx,true->Xy,and_eq_true->Zr
open Go renaming World->Xz,Value->XA,Calls->XD
open Go.RowKit renaming Below->XC
open List renaming append_assoc->Y8,take_of_length_le->YK,getElem?_eq_getElem->Zu,map_append->YS,length_append->Yx,mem_cons_of_mem->Zk,mem_map->YN,length_map->Zd,mem_cons->X7,cons_append->Yj,mem_filter->ZW,length_filter_le->Zi
open Go.Value renaming string->XJ,oneCell'->Zf,int->XG,pointer->XH,slice->XI,bool->XK,agg->XM,iface->XN,int->V
open Nat renaming le_refl->XS,lt_of_lt_of_le->YM,le_trans->XU
open Go.World renaming news_of_block->Ze,block_lt_of_cell?->XV
open Option.some renaming inj->Zn
open ByteArray renaming size_extract->ZN
open Go.IntKind renaming i64->XP,i64->Y
open Go.Ending renaming returned->XQ
open Go.Obj renaming cells->XR
variable{b:Xp}{k s sym:Xm}{a pc:Xr}{L:Xn (Xr × Xr)}{ps:Xn (Xn Xm)}{E H K Q R p q ws:Xn Xm}{acc:Xn Xr}{B g m n:Xq}{st:Xq × Xp}{c:UInt8}{v:Go.Value}{W w w' x y z:Go.World}
namespace Go.Proofs.YtolaacmheeaadaaGreatDoor
open Go.RowKit
def fO(n:N):Xm:=vC (Cal.yT n) (Cal.mT n) (Cal.dT n)
def dU(t:N):Xm:=fO (t / 1440)++⟨#[47]⟩++jg (t % 1440)
theorem QT(a b c:Xm):a++b++c=a++(b++c):=by apply Txt.nS;simp only[Txt.qI,Y8]
theorem RQ(y m d:N)(h:Cal.ok y m d=Xy):(vC y m d).size<=40:=by let⟨y1,y2,m1,m2,d1,d2⟩:=(Cal.jx y m d).1 h;have o:=Cal.pK y m;have j:=Txt.nN y 4 O O;have i:=Txt.nN m 2 O O;have f:=Txt.nN d 2 O O;have l:(⟨#[45]⟩:Xm).size=1:=Xd;unfold vC;simp only[ByteArray.size_append];omega
theorem Hk(n:N)(i:0<=n)(h:n<1440):(jg n).size<=19:=by have f:=Txt.nN (n / 60) 2 O O;have d:=Txt.nN (n % 60) 2 O O;have j:(⟨#[58]⟩:Xm).size=1:=Xd;unfold jg;simp only[ByteArray.size_append];omega
theorem H6(n:N)(f:-738885<=n)(d:n<=2913173):(fO n).size<=40:=RQ _ _ _ (Cal.vM n f d).1
theorem Ai(n:N)(w:Xz)(i:Env w)(o:-738885<=n)(l:n<=2913173):XD prog 293 #[n] w fun e w'=>e=XQ (fO n)/\XC w w w':=by
 refine (Si n w i o l).mono ?_;rintro e w' ⟨⟨y,m,d,rfl,h,f⟩,j⟩;obtain⟨rfl,rfl,rfl⟩:=Cal.xU y m d n h f;exact⟨rfl,j⟩
theorem Aj(t:N)(w:Xz)(l:Env w)(C:0<=t)(A:t<=1048320):XD prog 292 #[t] w fun e w'=>e=XQ (dU t)/\XC w w w':=by
 have i:=hide l;have r:=H6 (t / 1440) O O;have o:=Hk (t % 1440) O O;go_in;go_wp21;refine aK (Ai (t / 1440) w (aO i) O O) fun j d=>?_;go_wp21;refine aK (Dg (t % 1440) j ((aO i).later d) O O) fun u h=>?_;have f:=d.trans (h.mono d.size);go_wp2;go_ret;exact⟨rfl,f⟩
def nM(k:M):Xm:=⟨(gu k).toArray⟩
def jo(acc:J N):M->Xm
 |0=>⟨#[]⟩
 |k+1=>if aI acc k then jo acc k++⟨#[44]⟩++nM k else jo acc k
def ug(acc:J N):Xm:=(jo acc 7).extract 1 (jo acc 7).size
theorem CG(k:M):(nM k).size=2:=by unfold nM gu;split <;> rfl
theorem Ae(acc:J N):∀ k:M,(jo acc k).size<=3*k
 |0=>zq _
 |k+1=>by have ih:=Ae acc k;have n:=CG k;have d:(⟨#[44]⟩:Xm).size=1:=Xd;unfold jo;split;simp only[ByteArray.size_append];omega;omega
theorem I0(acc:J N)(d:M)(h:aI acc d=Xy):∀ k:M,d<k->1<=(jo acc k).size
 |0,hk=>by omega
 |k+1,hk=>by
  have n:=CG k;unfold jo;by_cases e:d=k
  .subst e;rw[Xt h];simp only[ByteArray.size_append];omega
  .have:=I0 acc d h k O
   split
   .simp only[ByteArray.size_append];omega
   .exact this
theorem RT{d:N}{r:J N}(h:Txt.mv acc d=U r)(f:d<=6):∃ x:M,x<7/\aI r x=Xy:=by
 unfold Txt.mv at h;split at h
 .rename_i hc
  cases h;exact⟨d.toNat,O,by simp[aI,show ((d.toNat:M):N)=d from by omega]⟩
 .cases h
theorem Il:∀ (l:J UInt8)(acc r:J N),Txt.kC l acc=U r->∃ x:M,x<7/\aI r x=Xy
 |[],_,_,h=>by simp[Txt.kC] at h
 |[_],_,_,h=>by simp[Txt.kC] at h
 |[a,b],acc,r,h=>RT (acc:=acc) (d:=Txt.fu [a,b]) h (Txt.As [a,b]).2
 |a :: b :: c :: l,acc,r,h=>by unfold Txt.kC at h;split at h;simp only[Option.bind_eq_some_iff] at h;let⟨x,_,h⟩:=h;exact Il l x r h;cases h
theorem GU(h:Txt.jf s=U acc):1<=(jo acc 7).size:=by let⟨x,hx,hi⟩:=Il _ _ _ h;exact I0 acc x hi 7 hx
def py(w:Xm):Xm:=match Txt.jf w with|some acc=>ug acc|none=>⟨#[]⟩
def aZ(sym w:Xm):Xm :=
 if sym.toList==[85,78,73,84,83] then Txt.bE (cB w 1 7) else
 if sym.toList==[77,73,78,85,84,69,83] then Txt.bE (cB w 1 7) else
 if sym.toList==[69,86,69,82,89] then Txt.bE (cB w 1 7) else
 if sym.toList==[73,68] then Txt.bE (cB w 1 7) else
 if sym.toList==[84,73,77,69] then dU (eJ w) else
 if sym.toList==[79,78] then py w else w
theorem Hj(w:Xm):-1<=cB w 1 7/\cB w 1 7<=9999999:=by rw[xN];have:=Txt.lT w.data.toList;split <;> omega
theorem Hm(w:Xm):-1<=eJ w/\eJ w<=1048320:=by
 unfold eJ;split
 .rename_i h
  unfold bB at h;simp only[Zr,decide_eq_true_eq] at h;omega
 .omega
theorem Co(n:N)(w:Xz)(l:-738885<=n)(j:n<=2913173):XD prog 21 #[n] w fun e w'=>e=XQ (.tuple #[V Y (Cal.yT n),V Y (Cal.mT n),V Y (Cal.dT n),V Y 0])/\w'=w:=by
 refine (CD n w O O).mono ?_;rintro e w' ⟨⟨h,_⟩|⟨_,y,m,d,rfl,i,f⟩,rfl⟩
 .omega
 .obtain⟨rfl,rfl,rfl⟩:=Cal.xU y m d n i f;exact⟨rfl,rfl⟩
theorem Rm(t:N):Txt.jU (Cal.yT (t / 1440)) 4++⟨#[45]⟩++Txt.jU (Cal.mT (t / 1440)) 2++⟨#[45]⟩++Txt.jU (Cal.dT (t / 1440)) 2++⟨#[47]⟩++Txt.jU (t % 1440 / 60) 2++⟨#[58]⟩++Txt.jU (t % 60) 2=dU t:=by unfold dU fO vC jg;rw[show t % 1440 % 60=t % 60 from by omega];simp only[QT]
theorem Al(sym w:Xm)(W:Xz)(r:Env W)(o:w.size<=160)
  (t:(sym.toList==[85,78,73,84,83])=Xy\/((sym.toList==[85,78,73,84,83])=Xx/\(sym.toList==[77,73,78,85,84,69,83])=Xy)\/((sym.toList==[85,78,73,84,83])=Xx/\(sym.toList==[77,73,78,85,84,69,83])=Xx/\(sym.toList==[69,86,69,82,89])=Xy)\/((sym.toList==[85,78,73,84,83])=Xx/\(sym.toList==[77,73,78,85,84,69,83])=Xx/\(sym.toList==[69,86,69,82,89])=Xx/\(sym.toList==[73,68])=Xy)):
  XD prog 29 #[sym,w] W fun e w'=>e=XQ (Txt.bE (cB w 1 7))/\XC W W w':=by
 have A:=hide r;have D:=Hj w;rcases t with i|⟨i,j⟩|⟨i,j,u⟩|⟨i,j,u,F⟩;all_goals go_in;go_wp21;refine aK (gC w 1 7 W o O O) fun l d=>?_;go_wp21;refine aK (Du _ l ((aO A).later d) O O) fun C h=>?_;have f:=d.trans (h.mono d.size);go_wp2;go_ret;exact⟨rfl,f⟩
theorem Sw(sym w:Xm)(W:Xz)
  (l:(sym.toList==[85,78,73,84,83])=Xx) (j:(sym.toList==[77,73,78,85,84,69,83])=Xx) (i:(sym.toList==[69,86,69,82,89])=Xx) (h:(sym.toList==[73,68])=Xx) (f:(sym.toList==[84,73,77,69])=Xx) (d:(sym.toList==[79,78])=Xx):
  XD prog 29 #[sym,w] W fun e w'=>e=XQ w/\w'=W:=by
 go_in;go_wp2;go_ret;exact⟨rfl,rfl⟩
theorem Su(sym w:Xm)(W:Xz)(F:Env W)(hs:w.size<=160)(ht:0<=eJ w)
  (c0:(sym.toList==[85,78,73,84,83])=Xx) (c1:(sym.toList==[77,73,78,85,84,69,83])=Xx) (c2:(sym.toList==[69,86,69,82,89])=Xx) (c3:(sym.toList==[73,68])=Xx) (c4:(sym.toList==[84,73,77,69])=Xy):
  XD prog 29 #[XJ sym,XJ w] W fun e w'=>e=XQ (XJ (dU (eJ w)))/\XC W.heap.size W w':=by
 have HE:=hide F;have tb:=Hm w;have T:=hide (Rm (eJ w));obtain⟨t,d⟩:∃ t,t=eJ w:=⟨_,rfl⟩;rw[<- d] at ht tb T ⊢;have r:=hide d;clear F d;have ⟨hok,_⟩:=Cal.vM (t / 1440) O O;obtain⟨y1,y2,m1,m2,d1,d2⟩:=(Cal.jx _ _ _).1 hok;have db:=Cal.pK (Cal.yT (t / 1440)) (Cal.mT (t / 1440));have z1:=Txt.nN (Cal.yT (t / 1440)) 4 O O;have z2:=Txt.nN (Cal.mT (t / 1440)) 2 O O;have z3:=Txt.nN (Cal.dT (t / 1440)) 2 O O;have z4:=Txt.nN (t % 1440 / 60) 2 O O;have z5:=Txt.nN (t % 60) 2 O O;clear hok;go_in;go_wp2_with fail;refine (tj w W hs).mono ?_;rintro e X ⟨rfl,f⟩;rw[<- aO r];go_wp2_with fail;refine (Co (t / 1440) X O O).mono ?_;rintro e w2 ⟨rfl,rfl⟩;have S:=hide ((aO HE).later f);go_wp2_with fail;refine (xv _ 4 _ (aO S) O O O).mono ?_;rintro e w3 ⟨rfl,l⟩;have P:=hide ((aO S).later l);go_wp2_with fail;refine (xv _ 2 _ (aO P) O O O).mono ?_;rintro e w4 ⟨rfl,j⟩;have I:=hide ((aO P).later j);go_wp2_with fail;refine (xv _ 2 _ (aO I) O O O).mono ?_;rintro e w5 ⟨rfl,i⟩;have G:=hide ((aO I).later i);go_wp2_with fail;refine (xv _ 2 _ (aO G) O O O).mono ?_;rintro e w6 ⟨rfl,h⟩;have e6:=hide ((aO G).later h);go_wp2_with fail;refine (xv _ 2 _ (aO e6) O O O).mono ?_;rintro e w7 ⟨rfl,o⟩;have D:=f.trans (l.mono f.size);have C:=D.trans (j.mono D.size);have A:=C.trans (i.mono C.size);have u:=A.trans (h.mono A.size);have k5:=u.trans (o.mono u.size);go_wp2;go_ret;exact⟨zV (aO T),k5⟩
def WR(w w':Xz)(d:J Xm)(e:Ending):Prop:=∃ v,e=XQ v/\w'.ownsRow w 9 1 v d.length (d.map XJ)/\XC w w w'
theorem oR(w x:Xz)(d:J Xm)(b:M)(h:w<=b)(f:x.heap[b]?=U (XR (d.map XJ).toArray 9))(i:d.length<=160):x.ownsRow w 9 1 (XI b d.length d.length) d.length (d.map XJ):=by refine⟨by simp,.inr ⟨b,d.length,(d.map XJ).toArray,rfl,h,f,XS _,by unfold maxLen;omega,by simp,?_⟩⟩;exact YK Xc
theorem iY{d:Xz}(h:XC d d x)(f:XC x x y):XC d d y:=h.trans (f.mono h.size)
theorem ic(w:Xz):XC w w w.drew:=⟨rfl,rfl,rfl,XS _,fun _ _=>rfl⟩
theorem QW(w:Xz):XD prog 305 #[XM #[]] w fun e w'=>WR w w' [iT] e:=by
 go_in;go_wp2;go_ret;have e:=heap_alloc_new (w.alloc (XR #[] 166)) (XR #[iT] 9);rw[show (w.alloc (XR #[] 166)).heap.size=w.heap.size+1 from by simp] at e;exact⟨_,rfl,oR w _ [iT] _ Xc e (show 1<=160 by omega),iY aS aS⟩
theorem Qb(w:Xz):XD prog 310 #[XM #[]] w fun e w'=>WR w w' [iN] e:=by
 go_in;go_wp2;go_ret;have e:=heap_alloc_new (w.alloc (XR #[] 176)) (XR #[iN] 9);rw[show (w.alloc (XR #[] 176)).heap.size=w.heap.size+1 from by simp] at e;exact⟨_,rfl,oR w _ [iN] _ Xc e (show 1<=160 by omega),iY aS aS⟩
theorem Qh(n:Xm)(u:N)(w:Xz)(r:Env w)(u0:0<=u)(u1:u<=9999999):XD prog 288 #[XM #[n,u]] w fun e w'=>WR w w' [ix,n,Txt.bE u] e:=by
 go_in;go_wp21;obtain⟨X,f⟩:∃ X,X=w.alloc (XR #[n,u] 143):=⟨_,rfl⟩;rw[<- f];have i:XC w w X:=by rw[f];exact aS
 have F:=r.later i;have D:X.cell? (w,0)=U ↑n:=by rw[f];simp
 have C:X.cell? (w,1)=U ↑u:=by rw[f];simp
 have A:w<X.heap.size:=by rw[f];simp
 clear f r;go_region_held3 (fun w'=>Env w'/\XC w w w'/\w<w'.heap.size/\w'.cell? (w,0)=U ↑n/\w'.cell? (w,1)=U ↑u)
  (first
   |(refine⟨?_,?_,?_,?_,?_⟩ <;> go_keep)
   |(go_split_ands;exact⟨Env.later Xe d,iY Xe d,YM Xe (Below.size d),cell_later d Xe,cell_later d Xe⟩)
   |(go_split_ands;exact⟨Env.later Xe aS,iY Xe aS,YM Xe (Below.size aS),cell_later aS Xe,cell_later aS Xe⟩)
   |(go_split_ands;exact⟨Env.later Xe (ic _),iY Xe (ic _),YM Xe (Below.size (ic _)),cell_later (ic _) Xe,cell_later (ic _) Xe⟩))
  (first
   |(go_at_call 289;go_split_ands;refine aK (nu _ _ Xe O O) fun w4 d=>?_))
 go_split_ands;have j:XC w w (w4.alloc (XR #[ix,n,Txt.bE u] 9)):=Xe;have h:w<(w4.alloc (XR #[ix,n,Txt.bE u] 9)).heap.size:=Xe;have t:w<w4.heap.size+1:=bV h;have o:=hide j;have l:Hid (w<=w4.heap.size):=by show w<=w4.heap.size;omega
 go_wp2;go_ret;exact⟨_,rfl,oR w _ [ix,n,Txt.bE u] w4 l (heap_alloc_new w4 _) (show 3<=160 by omega),o⟩
theorem QV(u:N)(w:Xz)(l:Env w)(u0:0<=u)(u1:u<=9999999):XD prog 302 #[XM #[u]] w fun e w'=>WR w w' [iU,Txt.bE u] e:=by
 go_in;go_wp21;obtain⟨X,j⟩:∃ X,X=w.alloc (XR #[u] 160):=⟨_,rfl⟩;rw[<- j];have d:XC w w X:=by rw[j];exact aS
 have o:=l.later d;clear j l;refine aK (nu u X o O O) fun w4 i=>?_;have f:=iY d i;have h:=f.size;go_wp2;go_ret;exact⟨_,rfl,oR w _ [iU,Txt.bE u] w4 h (heap_alloc_new w4 _) (show 2<=160 by omega),iY f aS⟩
theorem Qx(u:N)(w:Xz)(l:Env w)(u0:0<=u)(u1:u<=9999999):XD prog 303 #[XM #[u]] w fun e w'=>WR w w' [iR,Txt.bE u] e:=by
 go_in;go_wp21;obtain⟨X,j⟩:∃ X,X=w.alloc (XR #[u] 161):=⟨_,rfl⟩;rw[<- j];have d:XC w w X:=by rw[j];exact aS
 have o:=l.later d;clear j l;refine aK (nu u X o O O) fun w4 i=>?_;have f:=iY d i;have h:=f.size;go_wp2;go_ret;exact⟨_,rfl,oR w _ [iR,Txt.bE u] w4 h (heap_alloc_new w4 _) (show 2<=160 by omega),iY f aS⟩
theorem PQ(u:N)(w:Xz)(l:Env w)(u0:0<=u)(u1:u<=9999999):XD prog 309 #[XM #[u]] w fun e w'=>WR w w' [ja,Txt.bE u] e:=by
 go_in;go_wp21;obtain⟨X,j⟩:∃ X,X=w.alloc (XR #[u] 175):=⟨_,rfl⟩;rw[<- j];have d:XC w w X:=by rw[j];exact aS
 have o:=l.later d;clear j l;refine aK (nu u X o O O) fun w4 i=>?_;have f:=iY d i;have h:=f.size;go_wp2;go_ret;exact⟨_,rfl,oR w _ [ja,Txt.bE u] w4 h (heap_alloc_new w4 _) (show 2<=160 by omega),iY f aS⟩
theorem PP(n:Xm)(a b:N)(w:Xz)(r:Env w)(S:0<=a)(P:a<=1048320)(I:0<=b)(G:b<=1048320):XD prog 306 #[XM #[n,a,b]] w fun e w'=>WR w w' [iu,n,dU a,dU b] e:=by
 go_in;go_wp21;obtain⟨X,f⟩:∃ X,X=w.alloc (XR #[n,a,b] 169):=⟨_,rfl⟩;rw[<- f];have i:XC w w X:=by rw[f];exact aS
 have F:=r.later i;have D:X.cell? (w,0)=U ↑n:=by rw[f];simp
 have C:X.cell? (w,1)=U ↑a:=by rw[f];simp
 have A:X.cell? (w,2)=U ↑b:=by rw[f];simp
 have u:w<X.heap.size:=by rw[f];simp
 clear f r;go_region_held3 (fun w'=>Env w'/\XC w w w'/\w<w'.heap.size/\w'.cell? (w,0)=U ↑n/\w'.cell? (w,1)=U ↑a/\w'.cell? (w,2)=U ↑b)
  (first
   |(refine⟨?_,?_,?_,?_,?_,?_⟩ <;> go_keep)
   |(go_split_ands;exact⟨Env.later Xe d,iY Xe d,YM Xe (Below.size d),cell_later d Xe,cell_later d Xe,cell_later d Xe⟩)
   |(go_split_ands;exact⟨Env.later Xe aS,iY Xe aS,YM Xe (Below.size aS),cell_later aS Xe,cell_later aS Xe,cell_later aS Xe⟩)
   |(go_split_ands;exact⟨Env.later Xe (ic _),iY Xe (ic _),YM Xe (Below.size (ic _)),cell_later (ic _) Xe,cell_later (ic _) Xe,cell_later (ic _) Xe⟩))
  (first
   |(go_at_call 292;go_split_ands;refine aK (Aj _ _ Xe O O) fun w4 d=>?_))
 go_split_ands;have j:XC w w (w4.alloc (XR #[iu,n,dU a,dU b] 9)):=Xe;have h:w<(w4.alloc (XR #[iu,n,dU a,dU b] 9)).heap.size:=Xe;have t:w<w4.heap.size+1:=bV h;have o:=hide j;have l:Hid (w<=w4.heap.size):=by show w<=w4.heap.size;omega
 go_wp2;go_ret;exact⟨_,rfl,oR w _ [iu,n,dU a,dU b] w4 l (heap_alloc_new w4 _) (show 4<=160 by omega),o⟩
theorem PN(n:Xm)(u m a b:N)(w:Xz)(r:Env w)(u0:0<=u)(u1:u<=9999999)(S:0<=m)(P:m<=9999999)(a0:0<=a)(a1:a<=1048320)(b0:0<=b)(b1:b<=1048320):XD prog 307 #[XM #[n,u,m,a,b]] w fun e w'=>WR w w' [ir,n,Txt.bE u,Txt.bE m,dU a,dU b] e:=by
 go_in;go_wp21;obtain⟨X,f⟩:∃ X,X=w.alloc (XR #[n,u,m,a,b] 171):=⟨_,rfl⟩;rw[<- f];have i:XC w w X:=by rw[f];exact aS
 have T:=r.later i;have I:X.cell? (w,0)=U ↑n:=by rw[f];simp
 have G:X.cell? (w,1)=U ↑u:=by rw[f];simp
 have F:X.cell? (w,2)=U ↑m:=by rw[f];simp
 have D:X.cell? (w,3)=U ↑a:=by rw[f];simp
 have C:X.cell? (w,4)=U ↑b:=by rw[f];simp
 have A:w<X.heap.size:=by rw[f];simp
 clear f r;go_region_held3 (fun w'=>Env w'/\XC w w w'/\w<w'.heap.size/\w'.cell? (w,0)=U ↑n/\w'.cell? (w,1)=U ↑u/\w'.cell? (w,2)=U ↑m/\w'.cell? (w,3)=U ↑a/\w'.cell? (w,4)=U ↑b)
  (first
   |(refine⟨?_,?_,?_,?_,?_,?_,?_,?_⟩ <;> go_keep)
   |(go_split_ands;exact⟨Env.later Xe d,iY Xe d,YM Xe (Below.size d),cell_later d Xe,cell_later d Xe,cell_later d Xe,cell_later d Xe,cell_later d Xe⟩)
   |(go_split_ands;exact⟨Env.later Xe aS,iY Xe aS,YM Xe (Below.size aS),cell_later aS Xe,cell_later aS Xe,cell_later aS Xe,cell_later aS Xe,cell_later aS Xe⟩)
   |(go_split_ands;exact⟨Env.later Xe (ic _),iY Xe (ic _),YM Xe (Below.size (ic _)),cell_later (ic _) Xe,cell_later (ic _) Xe,cell_later (ic _) Xe,cell_later (ic _) Xe,cell_later (ic _) Xe⟩))
  (first
   |(go_at_call 289;go_split_ands;refine aK (nu _ _ Xe O O) fun w4 d=>?_)
   |(go_at_call 292;go_split_ands;refine aK (Aj _ _ Xe O O) fun w4 d=>?_))
 go_split_ands;have j:XC w w (w4.alloc (XR #[ir,n,Txt.bE u,Txt.bE m,dU a,dU b] 9)):=Xe;have h:w<(w4.alloc (XR #[ir,n,Txt.bE u,Txt.bE m,dU a,dU b] 9)).heap.size:=Xe;have t:w<w4.heap.size+1:=bV h;have o:=hide j;have l:Hid (w<=w4.heap.size):=by show w<=w4.heap.size;omega
 go_wp2;go_ret;exact⟨_,rfl,oR w _ [ir,n,Txt.bE u,Txt.bE m,dU a,dU b] w4 l (heap_alloc_new w4 _) (show 6<=160 by omega),o⟩
theorem Df(k n:Xm)(u a b:N)(w:Xz)(r:Env w)(u0:0<=u)(u1:u<=9999999)(a0:0<=a)(T:a<=1048320)(S:0<=b)(P:b<=1048320):XD prog 291 #[k,XM #[n,u,a,b]] w fun e w'=>WR w w' [k,n,Txt.bE u,dU a,dU b] e:=by
 go_in;go_wp21;obtain⟨X,f⟩:∃ X,X=w.alloc (XR #[n,u,a,b] 145):=⟨_,rfl⟩;rw[<- f];have i:XC w w X:=by rw[f];exact aS
 have I:=r.later i;have G:X.cell? (w,0)=U ↑n:=by rw[f];simp
 have F:X.cell? (w,1)=U ↑u:=by rw[f];simp
 have D:X.cell? (w,2)=U ↑a:=by rw[f];simp
 have C:X.cell? (w,3)=U ↑b:=by rw[f];simp
 have A:w<X.heap.size:=by rw[f];simp
 clear f r;go_region_held3 (fun w'=>Env w'/\XC w w w'/\w<w'.heap.size/\w'.cell? (w,0)=U ↑n/\w'.cell? (w,1)=U ↑u/\w'.cell? (w,2)=U ↑a/\w'.cell? (w,3)=U ↑b)
  (first
   |(refine⟨?_,?_,?_,?_,?_,?_,?_⟩ <;> go_keep)
   |(go_split_ands;exact⟨Env.later Xe d,iY Xe d,YM Xe (Below.size d),cell_later d Xe,cell_later d Xe,cell_later d Xe,cell_later d Xe⟩)
   |(go_split_ands;exact⟨Env.later Xe aS,iY Xe aS,YM Xe (Below.size aS),cell_later aS Xe,cell_later aS Xe,cell_later aS Xe,cell_later aS Xe⟩)
   |(go_split_ands;exact⟨Env.later Xe (ic _),iY Xe (ic _),YM Xe (Below.size (ic _)),cell_later (ic _) Xe,cell_later (ic _) Xe,cell_later (ic _) Xe,cell_later (ic _) Xe⟩))
  (first
   |(go_at_call 289;go_split_ands;refine aK (nu _ _ Xe O O) fun w4 d=>?_)
   |(go_at_call 292;go_split_ands;refine aK (Aj _ _ Xe O O) fun w4 d=>?_))
 go_split_ands;have j:XC w w (w4.alloc (XR #[k,n,Txt.bE u,dU a,dU b] 9)):=Xe;have h:w<(w4.alloc (XR #[k,n,Txt.bE u,dU a,dU b] 9)).heap.size:=Xe;have t:w<w4.heap.size+1:=bV h;have o:=hide j;have l:Hid (w<=w4.heap.size):=by show w<=w4.heap.size;omega
 go_wp2;go_ret;exact⟨_,rfl,oR w _ [k,n,Txt.bE u,dU a,dU b] w4 l (heap_alloc_new w4 _) (show 5<=160 by omega),o⟩
theorem jT(f:B<=x)(h:XC B x y)(d:XC y y z):XC B x z:=h.trans (d.mono (XU f h.size))
theorem pG(h:XC B x y)(d:XC y y z):x<=z.heap.size:=XU h.size d.size
theorem Env.jk(h:Env x)(l:10<=B)(i:XC B x y):Env y:=by let⟨m,hm⟩:=h.vP;have d:∀ (b o:M) (v:XA),b<10->x.cell? (b,o)=U v->y.cell? (b,o)=U v:=fun b o v j e=>(i.cell (p:=(b,o)) (show b<B by omega)).trans e;let⟨c0,c1,c2,c3,c4,c5,c6,c7,c8,c9,c10,c11⟩:=h.jO;refine⟨⟨d _ _ _ O c0,d _ _ _ O c1,d _ _ _ O c2,d _ _ _ O c3,d _ _ _ O c4,d _ _ _ O c5,d _ _ _ O c6,d _ _ _ O c7,d _ _ _ O c8,d _ _ _ O c9,d _ _ _ O c10,d _ _ _ O c11⟩,⟨m,d _ _ _ O hm⟩,?_,XU h.size i.size,d _ _ _ O h.mo,d _ _ _ O h.tu,d _ _ _ O h.we,d _ _ _ O h.th,d _ _ _ O h.fr,d _ _ _ O h.sa,d _ _ _ O h.su⟩;have f:=h.pow;unfold Lib.TabIs World.var? at f ⊢;simp only[xS,Option.bind_some] at f ⊢;rw[i.block 1 O];exact f
theorem jh{p:Prop}(h:XC B x y)(k:XC B x y->p):XC B x y/\p:=⟨h,k h⟩
theorem PM(n:Xm)(u a b:N)(w:Xz)(j:Env w)(u0:0<=u)(u1:u<=9999999)(A:0<=a)(t:a<=1048320)(r:0<=b)(o:b<=1048320):XD prog 290 #[XM #[n,u,a,b]] w fun e w'=>WR w w' [iO,n,Txt.bE u,dU a,dU b] e:=by
 go_in;go_wp21;obtain⟨X,h⟩:∃ X,X=w.alloc (XR #[n,u,a,b] 148):=⟨_,rfl⟩;rw[<- h];have d:XC w w X:=by rw[h];exact aS
 have l:=j.later d;refine (Df iO n u a b X l u0 u1 A t r o).mono ?_;rintro e w4 ⟨v,rfl,i,f⟩;go_wp2;go_ret;exact⟨v,rfl,ov i d.size,iY d f⟩
theorem PO(n:Xm)(u a b m:N)(w:Xz)(he:Env w)(u0:0<=u)(u1:u<=9999999)(a0:0<=a)(a1:a<=1048320)(b0:0<=b)(b1:b<=1048320)(m0:0<=m)(m1:m<=9999999):XD prog 296 #[XM #[n,u,a,b,m]] w fun e w'=>WR w w' [iF,n,Txt.bE u,dU a,dU b,Txt.bE m] e:=by
 obtain⟨i0,T,S,P,I⟩:=info_parts qm;go_in;go_wp21;obtain⟨X,f⟩:∃ X,X=w.alloc (XR #[n,u,a,b,m] 150):=⟨_,rfl⟩;rw[<- f];have r:XC w w X:=by rw[f];exact aS
 have eX:=he.later r;have l:w+1<=X.heap.size:=by rw[f];simp
 have ab:10<=w.heap.size+1:=by have:=he.size;omega
 have G:X.cell? (w,0)=U ↑n:=by rw[f];simp
 have F:X.cell? (w,1)=U ↑u:=by rw[f];simp
 have D:X.cell? (w,2)=U ↑a:=by rw[f];simp
 have C:X.cell? (w,3)=U ↑b:=by rw[f];simp
 have A:X.cell? (w,4)=U ↑m:=by rw[f];simp
 have bX:=zr (w.heap.size+1) X;have hZ:X=w.heap.size+1:=by rw[f];simp
 clear f he;go_region_held3 (fun w'=>XC (w.heap.size+1) X w'/\w'.cell? (w,0)=U ↑n/\w'.cell? (w,1)=U ↑u/\w'.cell? (w,2)=U ↑a/\w'.cell? (w,3)=U ↑b/\w'.cell? (w,4)=U ↑m)
  (first
   |(go_split_ands;exact jh (jT l Xe h) (fun d=>⟨(d.cell (p:=(w,0)) Xc).trans G,(d.cell (p:=(w,1)) Xc).trans F,(d.cell (p:=(w,2)) Xc).trans D,(d.cell (p:=(w,3)) Xc).trans C,(d.cell (p:=(w,4)) Xc).trans A⟩))
   |(go_split_ands;exact jh (jT l Xe aS) (fun d=>⟨(d.cell (p:=(w,0)) Xc).trans G,(d.cell (p:=(w,1)) Xc).trans F,(d.cell (p:=(w,2)) Xc).trans D,(d.cell (p:=(w,3)) Xc).trans C,(d.cell (p:=(w,4)) Xc).trans A⟩))
   |(go_split_ands;exact jh (jT l Xe (ic _)) (fun d=>⟨(d.cell (p:=(w,0)) Xc).trans G,(d.cell (p:=(w,1)) Xc).trans F,(d.cell (p:=(w,2)) Xc).trans D,(d.cell (p:=(w,3)) Xc).trans C,(d.cell (p:=(w,4)) Xc).trans A⟩))
   |(go_split_ands;exact jh (Below.grown Xe j Xh (fun k d=>lI o d)) (fun d=>⟨(d.cell (p:=(w,0)) Xc).trans G,(d.cell (p:=(w,1)) Xc).trans F,(d.cell (p:=(w,2)) Xc).trans D,(d.cell (p:=(w,3)) Xc).trans C,(d.cell (p:=(w,4)) Xc).trans A⟩)))
  (first
   |(go_at_call 291;go_split_ands;refine (Df iF n u a b _ (Env.later eX (by rw[hZ];assumption)) u0 u1 a0 a1 b0 b1).mono ?_;rintro e w4 ⟨v1,rfl,ho,h⟩)
   |(go_at_call 289;go_split_ands;have o:=ov (base':=w.heap.size+1) ho Xh;refine aK (nu m _ (Env.later eX (by rw[hZ];assumption)) O O) fun w5 h=>?_;have ae:=pG (B:=w.heap.size+1) (x:=X) Xe h)
   |((refine step_append_lies _ (by rfl) _ _ _ (by rfl) (w.heap.size+1) 9 i0 _ 1 16 underlying78 T S P I rfl O v1 5 ([iF,n,Txt.bE u,dU a,dU b].map XJ) (by rfl) ((nQ o h).alloc _) (w5,0) 1 1 [Txt.bE m] (by rfl) (by rfl) (Ze (cs:=#[Txt.bE m]) (t:=9) (fr:=(0,0)) (heap_alloc_new _ _)) Xk O Xj O Xh (w5.heap.size+1) Xc ?_;intro g cap w6 i j af ad)))
 go_split_ands;have aa:XC (w.heap.size+1) X w6:=Xe;have ac:=hide aa;go_wp2;go_ret;exact⟨_,rfl,ov i O,r.trans (ac.mono O)⟩
theorem PS(n:Xm)(u a b m:N)(w:Xz)(he:Env w)(u0:0<=u)(u1:u<=9999999)(a0:0<=a)(a1:a<=1048320)(b0:0<=b)(b1:b<=1048320)(m0:0<=m)(m1:m<=9999999):XD prog 297 #[XM #[n,u,a,b,m]] w fun e w'=>WR w w' [iG,n,Txt.bE u,dU a,dU b,Txt.bE m] e:=by
 obtain⟨i0,aa,T,S,P⟩:=info_parts qm;go_in;go_wp21;obtain⟨X,f⟩:∃ X,X=w.alloc (XR #[n,u,a,b,m] 151):=⟨_,rfl⟩;rw[<- f];have r:XC w w X:=by rw[f];exact aS
 have eX:=he.later r;have l:w+1<=X.heap.size:=by rw[f];simp
 have ab:10<=w.heap.size+1:=by have:=he.size;omega
 have I:X.cell? (w,0)=U ↑n:=by rw[f];simp
 have G:X.cell? (w,1)=U ↑u:=by rw[f];simp
 have F:X.cell? (w,2)=U ↑a:=by rw[f];simp
 have D:X.cell? (w,3)=U ↑b:=by rw[f];simp
 have C:X.cell? (w,4)=U ↑m:=by rw[f];simp
 have bX:=zr (w.heap.size+1) X;have hZ:X=w.heap.size+1:=by rw[f];simp
 clear f he;go_region_held3 (fun w'=>XC (w.heap.size+1) X w'/\w'.cell? (w,0)=U ↑n/\w'.cell? (w,1)=U ↑u/\w'.cell? (w,2)=U ↑a/\w'.cell? (w,3)=U ↑b/\w'.cell? (w,4)=U ↑m)
  (first
   |(go_split_ands;exact jh (jT l Xe h) (fun d=>⟨(d.cell (p:=(w,0)) Xc).trans I,(d.cell (p:=(w,1)) Xc).trans G,(d.cell (p:=(w,2)) Xc).trans F,(d.cell (p:=(w,3)) Xc).trans D,(d.cell (p:=(w,4)) Xc).trans C⟩))
   |(go_split_ands;exact jh (jT l Xe aS) (fun d=>⟨(d.cell (p:=(w,0)) Xc).trans I,(d.cell (p:=(w,1)) Xc).trans G,(d.cell (p:=(w,2)) Xc).trans F,(d.cell (p:=(w,3)) Xc).trans D,(d.cell (p:=(w,4)) Xc).trans C⟩))
   |(go_split_ands;exact jh (jT l Xe (ic _)) (fun d=>⟨(d.cell (p:=(w,0)) Xc).trans I,(d.cell (p:=(w,1)) Xc).trans G,(d.cell (p:=(w,2)) Xc).trans F,(d.cell (p:=(w,3)) Xc).trans D,(d.cell (p:=(w,4)) Xc).trans C⟩))
   |(go_split_ands;exact jh (Below.grown Xe j Xh (fun k d=>lI o d)) (fun d=>⟨(d.cell (p:=(w,0)) Xc).trans I,(d.cell (p:=(w,1)) Xc).trans G,(d.cell (p:=(w,2)) Xc).trans F,(d.cell (p:=(w,3)) Xc).trans D,(d.cell (p:=(w,4)) Xc).trans C⟩)))
  (first
   |(go_at_call 291;go_split_ands;refine (Df iG n u a b _ (Env.later eX (by rw[hZ];assumption)) u0 u1 a0 a1 b0 b1).mono ?_;rintro e w4 ⟨v1,rfl,ho,h⟩)
   |(go_at_call 289;go_split_ands;have o:=ov (base':=w.heap.size+1) ho Xh;refine aK (nu m _ (Env.later eX (by rw[hZ];assumption)) O O) fun w5 h=>?_;have ae:=pG (B:=w.heap.size+1) (x:=X) Xe h)
   |((refine step_append_lies _ (by rfl) _ _ _ (by rfl) (w.heap.size+1) 9 i0 _ 1 16 underlying78 aa T S P rfl O v1 5 ([iG,n,Txt.bE u,dU a,dU b].map XJ) (by rfl) ((nQ o h).alloc _) (w5,0) 1 1 [Txt.bE m] (by rfl) (by rfl) (Ze (cs:=#[Txt.bE m]) (t:=9) (fr:=(0,0)) (heap_alloc_new _ _)) Xk O Xj O Xh (w5.heap.size+1) Xc ?_;intro g cap w6 i j af ad)))
 go_split_ands;have A:XC (w.heap.size+1) X w6:=Xe;have ac:=hide A;clear A;go_wp2;go_ret;exact⟨_,rfl,ov i O,r.trans (ac.mono O)⟩
theorem Qc(n:Xm)(a b:N)(w:Xz) :XD prog 304 #[XM #[n,Xx,a,b]] w fun e w'=>WR w w' [dC,n] e:=by
 go_in;go_wp2;go_ret;have e:=heap_alloc_new (w.alloc (XR #[n,Xx,a,b] 163)) (XR #[dC,n] 9);rw[show (w.alloc (XR #[n,Xx,a,b] 163)).heap.size=w.heap.size+1 from by simp] at e;exact⟨_,rfl,oR w _ [dC,n] _ Xc e (show 2<=160 by omega),iY aS aS⟩
theorem Qd(n:Xm)(a b:N)(w:Xz)(he:Env w)(a0:0<=a)(a1:a<=1048320)(b0:0<=b)(b1:b<=1048320):XD prog 304 #[XM #[n,Xy,a,b]] w fun e w'=>WR w w' [dC,n,dU a,dU b] e:=by
 obtain⟨i0,aa,S,P,I⟩:=info_parts qm;go_in;go_wp21;obtain⟨X,f⟩:∃ X,X=(w.alloc (XR #[n,Xy,a,b] 163)).alloc (XR #[XJ ⟨#[108,105,115,116]⟩,n] 9):=⟨_,rfl⟩;rw[<- f];have u:XC w w X:=by rw[f];exact aS.alloc Xc _
 have eX:=he.later u;have r:w+1<=X.heap.size:=by rw[f];simp
 have o:10<=w.heap.size+1:=by have:=he.size;omega
 have G:X.cell? (w,0)=U ↑n:=by rw[f];simp
 have F:X.cell? (w,1)=U ↑Xy:=by rw[f];simp
 have D:X.cell? (w,2)=U ↑a:=by rw[f];simp
 have C:X.cell? (w,3)=U ↑b:=by rw[f];simp
 have hZ:X=w.heap.size+2:=by rw[f];simp
 have T:X.ownsRow (w.heap.size+1) 9 1 (XI (U ⟨w.heap.size+1,0,Z⟩) 2 2) 2 ([XJ ⟨#[108,105,115,116]⟩,n]):=by refine⟨rfl,.inr ⟨w.heap.size+1,2,#[XJ ⟨#[108,105,115,116]⟩,n],rfl,XS _,?_,XS _,by decide,rfl,rfl⟩⟩;rw[f];have e:=heap_alloc_new (w.alloc (XR #[n,Xy,a,b] 163)) (XR #[XJ ⟨#[108,105,115,116]⟩,n] 9);rw[show (w.alloc (XR #[n,Xy,a,b] 163)).heap.size=w.heap.size+1 from by simp] at e;exact e
 have bX:=zr (w.heap.size+1) X;clear f he;have h:=T.drew;go_region_held3 (fun w'=>XC (w.heap.size+1) X w'/\w'.cell? (w,0)=U ↑n/\w'.cell? (w,1)=U ↑Xy/\w'.cell? (w,2)=U ↑a/\w'.cell? (w,3)=U ↑b)
  (first
   |(go_split_ands;exact jh (jT r Xe l) (fun d=>⟨(d.cell (p:=(w,0)) Xc).trans G,(d.cell (p:=(w,1)) Xc).trans F,(d.cell (p:=(w,2)) Xc).trans D,(d.cell (p:=(w,3)) Xc).trans C⟩))
   |(go_split_ands;exact jh (jT r Xe aS) (fun d=>⟨(d.cell (p:=(w,0)) Xc).trans G,(d.cell (p:=(w,1)) Xc).trans F,(d.cell (p:=(w,2)) Xc).trans D,(d.cell (p:=(w,3)) Xc).trans C⟩))
   |(go_split_ands;exact jh (jT r Xe (ic _)) (fun d=>⟨(d.cell (p:=(w,0)) Xc).trans G,(d.cell (p:=(w,1)) Xc).trans F,(d.cell (p:=(w,2)) Xc).trans D,(d.cell (p:=(w,3)) Xc).trans C⟩))
   |(go_split_ands;exact jh (Below.grown Xe j Xh (fun k d=>lI h d)) (fun d=>⟨(d.cell (p:=(w,0)) Xc).trans G,(d.cell (p:=(w,1)) Xc).trans F,(d.cell (p:=(w,2)) Xc).trans D,(d.cell (p:=(w,3)) Xc).trans C⟩)))
  (first
   |(go_at_call 292;go_split_ands;refine aK (Aj _ _ (eX.jk o Xe) O O) fun w5 l=>?_;have ad:=pG (B:=w.heap.size+1) (x:=X) Xe l;have h:=nQ h l)
   |((refine step_append_lies _ (by rfl) _ _ _ (by rfl) (w.heap.size+1) 9 i0 _ 1 16 underlying78 aa S P I rfl O (.slice (U ⟨w.heap.size+1,0,Z⟩) 2 2) 2 ([XJ ⟨#[108,105,115,116]⟩,n]) (by rfl) (h.alloc _) (w5,0) 2 2 [dU a,dU b] (by rfl) (by rfl) (Ze (cs:=#[dU a,dU b]) (t:=9) (fr:=(0,0)) (heap_alloc_new _ _)) Xk O Xj O Xh (w5.heap.size+1) Xc ?_;intro g cap w6 i j ae ac)))
 go_split_ands;have A:XC (w.heap.size+1) X w6:=Xe;have ab:=hide A;clear A;go_wp2;go_ret;exact⟨_,rfl,ov i O,u.trans (ab.mono O)⟩
theorem QK(k:M)(h:k<7):[XJ ⟨#[109,111]⟩,XJ ⟨#[116,117]⟩,XJ ⟨#[119,101]⟩,XJ ⟨#[116,104]⟩,XJ ⟨#[102,114]⟩,XJ ⟨#[115,97]⟩,XJ ⟨#[115,117]⟩][k]?=U (XJ (nM k)):=by rcases (show k=0\/k=1\/k=2\/k=3\/k=4\/k=5\/k=6 by omega) with rfl|rfl|rfl|rfl|rfl|rfl|rfl <;> rfl
theorem DS.nat{b:M}(h:DS w b acc)(k:M)(d:k<7):w.cell? (b,k)=U (XK (aI acc k)):=by have:=h.at k O O;simpa using this
theorem RU(sym w:Xm)(W:Xz)(hs:w.size<=160)(ho:Txt.fF w=Xy)
  (c0:(sym.toList==[85,78,73,84,83])=Xx) (c1:(sym.toList==[77,73,78,85,84,69,83])=Xx) (c2:(sym.toList==[69,86,69,82,89])=Xx) (c3:(sym.toList==[73,68])=Xx) (c4:(sym.toList==[84,73,77,69])=Xx) (c5:(sym.toList==[79,78])=Xy):
  XD prog 29 #[sym,w] W fun e w'=>e=XQ (py w)/\XC W W w':=by
 go_in;go_wp21;refine (Cc w W hs).mono ?_;rintro e C ⟨⟨acc,rfl,l⟩,t⟩;have P:=hide (l ho);have HS:=hide (GU (aO P));have HW:Hid (py w=ug acc):=by show py w=_;unfold py;rw[aO P]
 clear l;unfold gD;go_wp2;obtain⟨X,u⟩:∃ X,X=C.alloc (XR #[aI acc 0,aI acc 1,aI acc 2,aI acc 3,aI acc 4,aI acc 5,aI acc 6] 116):=⟨_,rfl⟩;rw[<- u];have F:XC W W X:=by rw[u];exact t.alloc t.size _
 have dX:DS X C acc:=by rw[u];refine⟨?_,?_,?_,?_,?_,?_,?_,fun j=>?_⟩ <;> simp
 have aa:C+1=X.heap.size:=by rw[u];simp
 clear u;go_loopw [12,13] (fun o i wx=>∃ k:M,k<=7/\i=V Y k/\o=XJ (jo acc k)/\DS wx C acc/\XC W W wx) (fun _ i _=>7-(intOf i).toNat)
 .exact⟨0,O,rfl,rfl,dX,F⟩
 .obtain⟨k,hk,rfl,rfl,G,h⟩:=hrel;have oz:=Ae acc k
  by_cases f:k<7
  .have hi:(k:N)<7:=O
   have ab:(0:N)<=(k:N):=Int.natCast_nonneg _;have I:=G.nat k f;have hl:([XJ ⟨#[109,111]⟩,XJ ⟨#[116,117]⟩,XJ ⟨#[119,101]⟩,XJ ⟨#[116,104]⟩,XJ ⟨#[102,114]⟩,XJ ⟨#[115,97]⟩,XJ ⟨#[115,117]⟩][k]'f)=XJ (nM k):=Zn ((Zu f).symm.trans (QK k f));have T:=CG k;have S:(nM k).size<=2:=O;clear T;have d:jo acc (k+1)=if aI acc k then jo acc k++⟨#[44]⟩++nM k else jo acc k:=rfl;have A:=hide d;clear d
   cases D:aI acc k
   .rw[D] at I;have r:Hid (jo acc (k+1)=jo acc k):=(aO A).trans (by rw[D];rfl);go_wp2;exact⟨⟨k+1,O,by go_num,by rw[r],G,h⟩,by simp[intOf];omega⟩
   .rw[D] at I;have r:Hid (jo acc (k+1)=jo acc k++⟨#[44]⟩++nM k):=(aO A).trans (by rw[D];rfl);go_wp2;exact⟨⟨k+1,O,by go_num,by rw[r],G.later aS,h.alloc h.size _⟩,by simp[intOf];omega⟩
  .obtain rfl:k=7:=O
   have h1:(1:N)<=((jo acc 7).size:N):=by have:=aO HS;omega
   go_wp2;go_ret;exact⟨zV (by rw[HW];rfl),h⟩
theorem Qj{w:Xm}(l:(sym.toList==[85,78,73,84,83])=Xx)(j:(sym.toList==[77,73,78,85,84,69,83])=Xx)(i:(sym.toList==[69,86,69,82,89])=Xx)(h:(sym.toList==[73,68])=Xx)(f:(sym.toList==[84,73,77,69])=Xx)(d:(sym.toList==[79,78])=Xx):aZ sym w=w:=by simp[aZ,l,j,i,h,f,d]
theorem Ii{w:Xm}(h:(sym.toList==[84,73,77,69])=Xy)(d:bG sym w=Xy):0<=eJ w:=by have e:=beq_iff_eq.1 h;unfold bG at d;rw[e] at d;simpa using d
theorem PA{w:Xm}(h:(sym.toList==[79,78])=Xy)(d:bG sym w=Xy):Txt.fF w=Xy:=by have e:=beq_iff_eq.1 h;unfold bG at d;rw[e] at d;simpa using d
theorem I7(sym w:Xm)(W:Xz)(o:Env W)(l:w.size<=160)(t:bG sym w=Xy):XD prog 29 #[sym,w] W fun e w'=>e=XQ (aZ sym w)/\XC W W w':=by
 cases d:(sym.toList==[85,78,73,84,83])
 case true =>rw[show aZ sym w=Txt.bE (cB w 1 7) from by simp[aZ,d]];exact Al sym w W o l (.inl d)
 cases f:(sym.toList==[77,73,78,85,84,69,83])
 case true =>rw[show aZ sym w=Txt.bE (cB w 1 7) from by simp[aZ,d,f]];exact Al sym w W o l (.inr (.inl ⟨d,f⟩))
 cases h:(sym.toList==[69,86,69,82,89])
 case true =>rw[show aZ sym w=Txt.bE (cB w 1 7) from by simp[aZ,d,f,h]];exact Al sym w W o l (.inr (.inr (.inl ⟨d,f,h⟩)))
 cases i:(sym.toList==[73,68])
 case true =>rw[show aZ sym w=Txt.bE (cB w 1 7) from by simp[aZ,d,f,h,i]];exact Al sym w W o l (.inr (.inr (.inr ⟨d,f,h,i⟩)))
 cases j:(sym.toList==[84,73,77,69])
 case true =>rw[show aZ sym w=dU (eJ w) from by simp[aZ,d,f,h,i,j]];exact Su sym w W o l (Ii j t) d f h i j
 cases r:(sym.toList==[79,78])
 case true =>rw[show aZ sym w=py w from by simp[aZ,d,f,h,i,j,r]];exact RU sym w W l (PA r t) d f h i j r
 rw[Qj d f h i j r];refine (Sw sym w W d f h i j r).mono ?_;rintro e w' ⟨rfl,rfl⟩;exact⟨rfl,Below.refl _ _⟩
def iA(acc:J N):M->J Xm
 |0=>[]
 |k+1=>if aI acc k then iA acc k++[nM k] else iA acc k
theorem Hn(acc:J N):∀ k:M,(iA acc k).length<=k
 |0=>zq _
 |k+1=>by have:=Hn acc k;unfold iA;split <;> simp <;> omega
theorem Env.day(h:Env w)(k:M)(d:k<7):w.cell? (5,k)=U (XJ (nM k)):=by
 rcases (show k=0\/k=1\/k=2\/k=3\/k=4\/k=5\/k=6 by omega) with rfl|rfl|rfl|rfl|rfl|rfl|rfl
 .exact h.mo
 .exact h.tu
 .exact h.we
 .exact h.th
 .exact h.fr
 .exact h.sa
 .exact h.su
def nI(acc:J N):Xm:=⟨(Lib.join ((iA acc 7).map (·.data.toList)) [44]).toArray⟩
theorem RZ(acc:J N)(w:Xz)(he:Env w)(D:iA acc 7≠[])(A:(Lib.join ((iA acc 7).map (·.data.toList)) [44]).length<=160):XD prog 301 #[gD acc] w fun e w'=>e=XQ (nI acc)/\XC w w w':=by
 obtain⟨i0,hi,ae,ad,ac⟩:=info_parts qm;have HE:=hide he;have av:=he.size;have ak:=hide D;have ab:=hide A;clear he D A;simp only[gD];go_in;go_wp2;obtain⟨X,S⟩:∃ X,X=w.alloc (XR #[aI acc 0,aI acc 1,aI acc 2,aI acc 3,aI acc 4,aI acc 5,aI acc 6] 153):=⟨_,rfl⟩;rw[<- S];have aj:XC (w.heap.size+1) X X:=zr _ _;have I:XC w w X:=by rw[S];exact aS
 have dX:DS X w acc:=by rw[S];refine⟨?_,?_,?_,?_,?_,?_,?_,fun j=>?_⟩ <;> simp
 have ao:w+1=X.heap.size:=by rw[S];simp
 have HX:=hide ((aO HE).later I);clear S;go_loopw [3,4,5] (fun v _ i wx=>∃ k:M,k<=7/\i=V Y k/\wx.ownsRow (w.heap.size+1) 9 1 v (iA acc k).length ((iA acc k).map XJ)/\XC (w.heap.size+1) X wx) (fun _ _ i _=>7-(intOf i).toNat)
 .exact⟨0,O,rfl,World.ownsRow_nil _ _ _ _,aj⟩
 .obtain⟨k,hk,rfl,d,f⟩:=hrel;have aq:=Hn acc k
  by_cases F:k<7
  .have au:(k:N)<7:=O
   have ar:(0:N)<=(k:N):=Int.natCast_nonneg _;have hc:wr.cell? ⟨w.heap.size,k,Z⟩=U (XK (aI acc k)):=(f.cell (p:=⟨w.heap.size,k,Z⟩) Xc).trans (dX.nat k F);have an:wr.cell? ⟨5,k,Z⟩=U (XJ (nM k)):=(f.cell (p:=⟨5,k,Z⟩) (show 5<w.heap.size+1 by omega)).trans ((aO HX).day k F);have o:iA acc (k+1)=if aI acc k then iA acc k++[nM k] else iA acc k:=rfl;have T:=hide o;clear o;have al:=f.size
   cases hm:aI acc k
   .rw[hm] at hc;have C:Hid (iA acc (k+1)=iA acc k):=(aO T).trans (by rw[hm];rfl);go_wp2;exact⟨⟨k+1,O,by go_num,by rw[C];exact d,f⟩,by simp[intOf];omega⟩
   .rw[hm] at hc;have C:Hid (iA acc (k+1)=iA acc k++[nM k]):=(aO T).trans (by rw[hm];rfl)
    go_wp2_with (first
     |(at_builtin;refine wpList_append_own _ rfl _ _ 78 rfl (w.heap.size+1) 9 i0 (XJ ⟨#[]⟩) 1 16 underlying78 hi ae ad ac rfl Xd _ _ _ rfl (d.alloc _) (wr,0) 1 1 [nM k] rfl rfl ?c1 ?c2 ?c3 ?c4 ?c5 ?_))
    .exact Ze (cs:=#[nM k]) (heap_alloc_new wr _)
    .simp[Zf]
    .unfold maxLen;omega
    .omega
    .simp;omega
    intro v' w' r t _;have P:XC (w.heap.size+1) X w':=(f.alloc O _).grown t Xh (fun k hk=>lI d hk);have HO:Hid (w'.ownsRow (w.heap.size+1) 9 1 v' (iA acc (k+1)).length ((iA acc (k+1)).map XJ)):=by show w'.ownsRow _ _ _ _ _ _;rw[C,YS,Yx];exact ov r O
    clear r t;go_wp2;exact⟨⟨k+1,O,by go_num,HO,P⟩,by simp[intOf];omega⟩
  .obtain rfl:k=7:=O
   obtain⟨a,c,g,rfl,l⟩:=xI d rfl;have u:0<(iA acc 7).length:=List.length_pos_iff.2 (aO ak);obtain rfl:=l.at_ u;have aa:=hide l;have G:(iA acc 7).length<=c:=by
    rcases d.2 with ⟨h,_⟩|⟨g',cap,aw,hv,_,_,hc,_⟩
    .cases h
    .cases hv;exact hc
   have af:g<wr:=XV _ (g,0) (l.cells 0 u);clear d l;go_wp21;refine (strings_Join g 0 c (iA acc 7) ⟨#[44]⟩ wr (fun j x hx=>?_) af O G (XU (aO ab) O)).mono ?_
   .obtain⟨hj,e⟩:=List.getElem?_eq_some_iff.1 hx;have:=(aO aa).cells j hj;rw[e] at this;rw[Nat.zero_add];exact this
   rintro e w' ⟨rfl,ag⟩;have ai:=I.trans (Below.trans (f.mono O) (ag.mono (by have:=f.size;omega)));go_wp2;go_ret;exact⟨rfl,ai⟩
theorem Rw(ev:N)(acc:J N)(fr mn mi ti un:N)(w:Xz)(l:Env w)(t:0<=ev)(r:ev<=9999999):XD prog 300 #[kn 1 ev acc fr mn mi ti un] w fun e w'=>WR w w' [fZ,Txt.bE ev] e:=by
 simp only[kn];go_in;go_wp21;obtain⟨X,j⟩:∃ X,X=w.alloc (XR #[V Y 1,ev,aI acc 0,aI acc 1,aI acc 2,aI acc 3,aI acc 4,aI acc 5,aI acc 6,fr,mn,mi,ti,un] 155):=⟨_,rfl⟩;rw[<- j];have d:XC w w X:=by rw[j];exact aS
 have o:=l.later d;refine aK (nu ev X o O O) fun w4 i=>?_;have f:=iY d i;have h:=f.size;go_wp2;go_ret;exact⟨_,rfl,oR w _ [fZ,Txt.bE ev] w4 h (heap_alloc_new w4 _) (show 2<=160 by omega),iY f aS⟩
theorem Sf(ev:N)(acc:J N)(fr mn mi ti un:N)(w:Xz)(l:Env w)(t:0<=ev)(r:ev<=9999999):XD prog 300 #[kn 3 ev acc fr mn mi ti un] w fun e w'=>WR w w' [gg,Txt.bE ev] e:=by
 simp only[kn];go_in;go_wp21;obtain⟨X,j⟩:∃ X,X=w.alloc (XR #[V Y 3,ev,aI acc 0,aI acc 1,aI acc 2,aI acc 3,aI acc 4,aI acc 5,aI acc 6,fr,mn,mi,ti,un] 155):=⟨_,rfl⟩;rw[<- j];have d:XC w w X:=by rw[j];exact aS
 have o:=l.later d;refine aK (nu ev X o O O) fun w4 i=>?_;have f:=iY d i;have h:=f.size;go_wp2;go_ret;exact⟨_,rfl,oR w _ [gg,Txt.bE ev] w4 h (heap_alloc_new w4 _) (show 2<=160 by omega),iY f aS⟩
theorem R9(ev:N)(acc:J N)(fr mn mi ti un:N)(w:Xz)(he:Env w)(e0:0<=ev)(e1:ev<=9999999)(A:iA acc 7≠[])(t:(Lib.join ((iA acc 7).map (·.data.toList)) [44]).length<=160):XD prog 300 #[kn 2 ev acc fr mn mi ti un] w fun e w'=>WR w w' [fU,Txt.bE ev,nI acc] e:=by
 have ab:=hide A;have F:=hide t;clear A t;simp only[kn];go_in;go_wp21;obtain⟨X,f⟩:∃ X,X=w.alloc (XR #[V Y 2,ev,aI acc 0,aI acc 1,aI acc 2,aI acc 3,aI acc 4,aI acc 5,aI acc 6,fr,mn,mi,ti,un] 155):=⟨_,rfl⟩;rw[<- f];have C:XC w w X:=by rw[f];exact aS
 have eX:=he.later C;have r:w+1<=X.heap.size:=by rw[f];simp
 have h:10<=w.heap.size+1:=by have:=he.size;omega
 have x0:X.cell? (w,0)=U (V Y 2):=by rw[f];simp
 have x1:X.cell? (w,1)=U ↑ev:=by rw[f];simp
 have x2:X.cell? (w,2)=U (XK (aI acc 0)):=by rw[f];simp
 have x3:X.cell? (w,3)=U (XK (aI acc 1)):=by rw[f];simp
 have x4:X.cell? (w,4)=U (XK (aI acc 2)):=by rw[f];simp
 have T:X.cell? (w,5)=U (XK (aI acc 3)):=by rw[f];simp
 have S:X.cell? (w,6)=U (XK (aI acc 4)):=by rw[f];simp
 have P:X.cell? (w,7)=U (XK (aI acc 5)):=by rw[f];simp
 have I:X.cell? (w,8)=U (XK (aI acc 6)):=by rw[f];simp
 have G:X.cell? (w,9)=U ↑fr:=by rw[f];simp
 have o:X.cell? (w,10)=U ↑mn:=by rw[f];simp
 have l:X.cell? (w,11)=U ↑mi:=by rw[f];simp
 have j:X.cell? (w,12)=U ↑ti:=by rw[f];simp
 have i:X.cell? (w,13)=U ↑un:=by rw[f];simp
 have bX:=zr (w.heap.size+1) X;clear f he;have ae:=r;go_region_held3 (fun w'=>XC (w.heap.size+1) X w'/\w'.cell? ⟨w.heap.size,0,Z⟩=U (V Y 2)/\w'.cell? ⟨w.heap.size,1,Z⟩=U (V Y ev)/\w'.cell? ⟨w.heap.size,2,Z⟩=U (XK (aI acc 0))/\w'.cell? ⟨w.heap.size,3,Z⟩=U (XK (aI acc 1))/\w'.cell? ⟨w.heap.size,4,Z⟩=U (XK (aI acc 2))/\w'.cell? ⟨w.heap.size,5,Z⟩=U (XK (aI acc 3))/\w'.cell? ⟨w.heap.size,6,Z⟩=U (XK (aI acc 4))/\w'.cell? ⟨w.heap.size,7,Z⟩=U (XK (aI acc 5))/\w'.cell? ⟨w.heap.size,8,Z⟩=U (XK (aI acc 6))/\w'.cell? ⟨w.heap.size,9,Z⟩=U (V Y fr)/\w'.cell? ⟨w.heap.size,10,Z⟩=U (V Y mn)/\w'.cell? ⟨w.heap.size,11,Z⟩=U (V Y mi)/\w'.cell? ⟨w.heap.size,12,Z⟩=U (V Y ti)/\w'.cell? ⟨w.heap.size,13,Z⟩=U (V Y un))
  (first
   |(go_split_ands;exact jh (jT r Xe u) (fun d=>⟨(d.cell (p:=(w,0)) Xc).trans x0,(d.cell (p:=(w,1)) Xc).trans x1,(d.cell (p:=(w,2)) Xc).trans x2,(d.cell (p:=(w,3)) Xc).trans x3,(d.cell (p:=(w,4)) Xc).trans x4,(d.cell (p:=(w,5)) Xc).trans T,(d.cell (p:=(w,6)) Xc).trans S,(d.cell (p:=(w,7)) Xc).trans P,(d.cell (p:=(w,8)) Xc).trans I,(d.cell (p:=(w,9)) Xc).trans G,(d.cell (p:=(w,10)) Xc).trans o,(d.cell (p:=(w,11)) Xc).trans l,(d.cell (p:=(w,12)) Xc).trans j,(d.cell (p:=(w,13)) Xc).trans i⟩))
   |(go_split_ands;exact jh (jT r Xe aS) (fun d=>⟨(d.cell (p:=(w,0)) Xc).trans x0,(d.cell (p:=(w,1)) Xc).trans x1,(d.cell (p:=(w,2)) Xc).trans x2,(d.cell (p:=(w,3)) Xc).trans x3,(d.cell (p:=(w,4)) Xc).trans x4,(d.cell (p:=(w,5)) Xc).trans T,(d.cell (p:=(w,6)) Xc).trans S,(d.cell (p:=(w,7)) Xc).trans P,(d.cell (p:=(w,8)) Xc).trans I,(d.cell (p:=(w,9)) Xc).trans G,(d.cell (p:=(w,10)) Xc).trans o,(d.cell (p:=(w,11)) Xc).trans l,(d.cell (p:=(w,12)) Xc).trans j,(d.cell (p:=(w,13)) Xc).trans i⟩))
   |(go_split_ands;exact jh (jT r Xe (ic _)) (fun d=>⟨(d.cell (p:=(w,0)) Xc).trans x0,(d.cell (p:=(w,1)) Xc).trans x1,(d.cell (p:=(w,2)) Xc).trans x2,(d.cell (p:=(w,3)) Xc).trans x3,(d.cell (p:=(w,4)) Xc).trans x4,(d.cell (p:=(w,5)) Xc).trans T,(d.cell (p:=(w,6)) Xc).trans S,(d.cell (p:=(w,7)) Xc).trans P,(d.cell (p:=(w,8)) Xc).trans I,(d.cell (p:=(w,9)) Xc).trans G,(d.cell (p:=(w,10)) Xc).trans o,(d.cell (p:=(w,11)) Xc).trans l,(d.cell (p:=(w,12)) Xc).trans j,(d.cell (p:=(w,13)) Xc).trans i⟩))
   |(go_split_ands;exact jh (Below.grown Xe hgrow Xh (fun k d=>lI hoN d)) (fun d=>⟨(d.cell (p:=(w,0)) Xc).trans x0,(d.cell (p:=(w,1)) Xc).trans x1,(d.cell (p:=(w,2)) Xc).trans x2,(d.cell (p:=(w,3)) Xc).trans x3,(d.cell (p:=(w,4)) Xc).trans x4,(d.cell (p:=(w,5)) Xc).trans T,(d.cell (p:=(w,6)) Xc).trans S,(d.cell (p:=(w,7)) Xc).trans P,(d.cell (p:=(w,8)) Xc).trans I,(d.cell (p:=(w,9)) Xc).trans G,(d.cell (p:=(w,10)) Xc).trans o,(d.cell (p:=(w,11)) Xc).trans l,(d.cell (p:=(w,12)) Xc).trans j,(d.cell (p:=(w,13)) Xc).trans i⟩)))
  (first
   |(go_at_call 289;go_split_ands;refine aK (nu _ _ (eX.jk h Xe) O O) fun w4 u=>?_)
   |(go_at_call 301;go_split_ands;refine aK (RZ acc _ (eX.jk h Xe) (aO ab) (aO F)) fun w5 u=>?_;have ad:=pG (B:=w.heap.size+1) (x:=X) Xe u))
 go_split_ands;have D:XC (w.heap.size+1) X (w5.alloc (XR #[XJ ⟨#[119,101,101,107,108,121]⟩,Txt.bE ev,nI acc] 9)):=Xe;have ac:=hide D;have aa:w<=w5.heap.size:=O;clear D;go_wp2;go_ret;exact⟨_,rfl,oR w _ [fU,Txt.bE ev,nI acc] w5 aa (heap_alloc_new w5 _) (show 3<=160 by omega),C.trans (ac.mono O)⟩
def gL(fr mn mi:N):J Xm:=[cC,fO fr,cO,jg mn,dA,Txt.bE mi]
inductive wU:Xr->Xr->Xn Xr->Xn Xm->Prop where
 |daily (ev:Xr) (acc:Xn Xr) (e0:0<=ev) (e1:ev<=9999999):wU 1 ev acc [fZ,Txt.bE ev]
 |weekly (ev:Xr) (acc:Xn Xr) (e0:0<=ev) (e1:ev<=9999999) (hne:iA acc 7≠[]) (hlen:(Lib.join ((iA acc 7).map (·.data.toList)) [44]).length<=160):wU 2 ev acc [fU,Txt.bE ev,nI acc]
 |monthly (ev:Xr) (acc:Xn Xr) (e0:0<=ev) (e1:ev<=9999999):wU 3 ev acc [gg,Txt.bE ev]
inductive Gm:Xr->Xr->Xn Xm->Prop where
 |times (ti un:Xr) (t0:0<ti) (t1:ti<=9999999):Gm ti un [eV,Txt.bE ti]
 |til (un:Xr) (u0:0<=un) (u1:un<=728):Gm 0 un [fe,fO un]
inductive RW:Xr->Xr->Xn Xr->Xr->Xr->Xr->Xr->Xr->Xn Xm->Prop where
 |mk (pc ev:Xr) (acc:Xn Xr) (fr mn mi ti un:Xr) (ps es:Xn Xm) (hp:wU pc ev acc ps) (he:Gm ti un es) (f0:0<=fr) (f1:fr<=728) (m0:0<=mn) (m1:mn<1440) (i0:0<=mi) (i1:mi<=9999999):RW pc ev acc fr mn mi ti un (ps++gL fr mn mi++es)
inductive PW:XA->Xn Xm->Prop where
 |bH (n:Xm) (u:Xr) (u0:0<=u) (u1:u<=9999999):PW (XN 143 (XM #[XJ n,XG XP u])) [ix,n,Txt.bE u]
 |book (n:Xm) (u a b:Xr) (u0:0<=u) (u1:u<=9999999) (a0:0<=a) (a1:a<=1048320) (b0:0<=b) (b1:b<=1048320):PW (XN 148 (XM #[XJ n,XG XP u,XG XP a,XG XP b])) [iO,n,Txt.bE u,dU a,dU b]
 |hold (n:Xm) (u a b m:Xr) (u0:0<=u) (u1:u<=9999999) (a0:0<=a) (a1:a<=1048320) (b0:0<=b) (b1:b<=1048320) (m0:0<=m) (m1:m<=9999999):PW (XN 150 (XM #[XJ n,XG XP u,XG XP a,XG XP b,XG XP m])) [iF,n,Txt.bE u,dU a,dU b,Txt.bE m]
 |wait (n:Xm) (u a b m:Xr) (u0:0<=u) (u1:u<=9999999) (a0:0<=a) (a1:a<=1048320) (b0:0<=b) (b1:b<=1048320) (m0:0<=m) (m1:m<=9999999):PW (XN 151 (XM #[XJ n,XG XP u,XG XP a,XG XP b,XG XP m])) [iG,n,Txt.bE u,dU a,dU b,Txt.bE m]
 |series (n:Xm) (u pc ev:Xr) (acc:Xn Xr) (fr mn mi ti un:Xr) (xs:Xn Xm) (u0:0<=u) (u1:u<=9999999) (hr:RW pc ev acc fr mn mi ti un xs):PW (XN 158 (XM #[XJ n,XG XP u,XG XP pc,XG XP ev,XK (aI acc 0),XK (aI acc 1),XK (aI acc 2),XK (aI acc 3),XK (aI acc 4),XK (aI acc 5),XK (aI acc 6),XG XP fr,XG XP mn,XG XP mi,XG XP ti,XG XP un])) ([eQ,n,Txt.bE u]++xs)
 |bL (u:Xr) (u0:0<=u) (u1:u<=9999999):PW (XN 160 (XM #[XG XP u])) [iU,Txt.bE u]
 |cancel (u:Xr) (u0:0<=u) (u1:u<=9999999):PW (XN 161 (XM #[XG XP u])) [iR,Txt.bE u]
 |list0 (n:Xm) (a b:Xr):PW (XN 163 (XM #[XJ n,XK Xx,XG XP a,XG XP b])) [dC,n]
 |list1 (n:Xm) (a b:Xr) (a0:0<=a) (a1:a<=1048320) (b0:0<=b) (b1:b<=1048320):PW (XN 163 (XM #[XJ n,XK Xy,XG XP a,XG XP b])) [dC,n,dU a,dU b]
 |waiting:PW (XN 166 (XM #[])) [iT]
 |ef (n:Xm) (a b:Xr) (a0:0<=a) (a1:a<=1048320) (b0:0<=b) (b1:b<=1048320):PW (XN 169 (XM #[XJ n,XG XP a,XG XP b])) [iu,n,dU a,dU b]
 |find (n:Xm) (u m a b:Xr) (u0:0<=u) (u1:u<=9999999) (m0:0<=m) (m1:m<=9999999) (a0:0<=a) (a1:a<=1048320) (b0:0<=b) (b1:b<=1048320):PW (XN 171 (XM #[XJ n,XG XP u,XG XP m,XG XP a,XG XP b])) [ir,n,Txt.bE u,Txt.bE m,dU a,dU b]
 |expand (pc ev:Xr) (acc:Xn Xr) (fr mn mi ti un:Xr) (xs:Xn Xm) (hr:RW pc ev acc fr mn mi ti un xs):PW (XN 173 (XM #[XG XP pc,XG XP ev,XK (aI acc 0),XK (aI acc 1),XK (aI acc 2),XK (aI acc 3),XK (aI acc 4),XK (aI acc 5),XK (aI acc 6),XG XP fr,XG XP mn,XG XP mi,XG XP ti,XG XP un])) ([fA]++xs)
 |tick (u:Xr) (u0:0<=u) (u1:u<=9999999):PW (XN 175 (XM #[XG XP u])) [ja,Txt.bE u]
 |clock:PW (XN 176 (XM #[])) [iN]
def jn(d:J Xm):Xm:=⟨(Lib.join (d.map (·.data.toList)) [32]).toArray⟩
open aA (aQ)
structure NV(w:Xz)(v:XA)(l:J N):Prop where
 form:∃ a cap,v=XI a l.length cap
 cell:∀ (k:M) (hk:k<l.length),∃ g cap,v=XI (U ⟨g,0,Z⟩) l.length cap/\w.cell? (g,k)=U (V Y l[k])
theorem NV.later{l:J N}(h:NV w v l)(k:XC w w w'):NV w' v l :=
 ⟨h.form,fun i d=>by let⟨g,cap,e,a⟩:=h.cell i d;exact⟨g,cap,e,aT k a⟩⟩
structure SV(w:Xz)(v:XA)(L:J (N × N)):Prop where
 form:∃ a cap,v=XI a L.length cap
 cell:∀ (k:M) (hk:k<L.length),∃ g cap,v=XI (U ⟨g,0,Z⟩) L.length cap/\w.cell? (g,k*2)=U (V Y L[k].1)/\w.cell? (g,k*2+1)=U (V Y L[k].2)
theorem SV.later(h:SV w v L)(k:XC w w w'):SV w' v L :=
 ⟨h.form,fun i d=>by let⟨g,cap,e,a,b⟩:=h.cell i d;exact⟨g,cap,e,aT k a,aT k b⟩⟩
structure EV(w:Xz)(v:XA)(l:J (aQ × XA)):Prop where
 form:∃ a cap,v=XI a l.length cap
 cell:∀ (k:M) (hk:k<l.length),∃ g cap,v=XI (U ⟨g,0,Z⟩) l.length cap/\w.cell? (g,k*6)=U (V Y l[k].1.id)/\w.cell? (g,k*6+1)=U (V Y l[k].1.kind)/\w.cell? (g,k*6+2)=U (XJ l[k].1.bH)/\w.cell? (g,k*6+3)=U (V Y l[k].1.aN)/\w.cell? (g,k*6+4)=U l[k].2/\w.cell? (g,k*6+5)=U (V Y l[k].1.bZ)
 sp:∀ p∈l,SV w p.2 p.1.aR
theorem EV.later{l:J (aQ × XA)}(h:EV w v l)(k:XC w w w'):EV w' v l :=
 ⟨h.form,fun i f=>by let⟨g,cap,e,a0,a1,a2,a3,a4,a5⟩:=h.cell i f;exact⟨g,cap,e,aT k a0,aT k a1,aT k a2,aT k a3,aT k a4,aT k a5⟩,fun p d=>(h.sp p d).later k⟩
namespace aA
theorem KW{a b:N}{x:aQ}:∀ l:J aQ,(qy a b x l).Perm (x :: l)
 |[]=>by simp[qy]
 |y :: r=>by
  simp only[qy];split
  .exact List.Perm.refl _
  .exact ((KW r).cons y).trans (List.Perm.swap x y r)
theorem M7{a b:N}:∀ l:J aQ,(tM a b l).Perm l
 |[]=>List.Perm.refl _
 |x :: r=>(KW _).trans ((M7 r).cons x)
end aA
open aA (aQ eM hasB)
theorem SV.own(h:w.ownsRow B 83 2 v L.length (L.flatMap ia)):SV w v L:=by refine⟨lz h,fun k i=>?_⟩;let⟨g,cap,e⟩:=Joins.ownsRow_form h O;subst e;let⟨f1,f2⟩:=Lq k i;have j:=Mc L;have f:=h.cellAt (k*2) O;have d:=h.cellAt (k*2+1) O;rw[f1] at f;rw[f2] at d;exact⟨g,cap,rfl,f,d⟩
theorem EV.own{l:J (aQ × XA)}(h:w.ownsRow B 85 6 v l.length (l.flatMap gv))(sp:∀ p∈l,SV w p.2 p.1.aR):EV w v l:=by
 refine⟨lz h,fun k f=>?_,sp⟩;let⟨g,cap,e⟩:=Joins.ownsRow_form h O;subst e;have at_:∀ j,j<6->w.cell? (g,k*6+j)=(gv l[k])[j]?:=fun j i=>by have d:=h.cellAt (k*6+j) O;rw[tV f i] at d;exact d
 exact⟨g,cap,rfl,at_ 0 O,at_ 1 O,at_ 2 O,at_ 3 O,at_ 4 O,at_ 5 O⟩
namespace aA
end aA
namespace aA
theorem b8H{s:St}{l:jb}(h:(aX s l).2.err≠0):(aX s l).2=bS.error (aX s l).2.err:=by
 cases l with
 |bH name u =>
  simp only[aX] at h ⊢;by_cases f:cI name s.ts≠0
  .rw[Xt f];rfl
  .rw[Xs f] at h ⊢
   by_cases d:s.ts.length=4
   .rw[Xt d];rfl
   .rw[Xs d] at h;exact Xu rfl h
 |enter k name u fr til long =>simp only[aX] at h ⊢;by_cases c:qK s k name u fr til long≠0;rw[Xt c];rfl;rw[Xs c] at h;exact Xu rfl h
 |series name u r =>simp only[aX] at h ⊢;by_cases c:oG s name u r≠0;rw[Xt c];rfl;rw[Xs c] at h;exact Xu rfl h
 |bL id =>
  simp only[aX] at h ⊢
  cases i:mW id s.es with
  |none=>rfl
  |some e =>rw[i] at h;simp only at h ⊢;by_cases c:e.kind≠2;rw[Xt c];rfl;rw[Xs c] at h;exact Xu rfl h
 |cancel id =>
  simp only[aX] at h ⊢
  cases i:mW id s.es with
  |none=>rfl
  |some e=>rw[i] at h;exact Xu rfl h
 |list name fr til =>
  simp only[aX] at h ⊢;by_cases f:cI name s.ts=0
  .rw[Xt f];rfl
  .rw[Xs f] at h ⊢
   by_cases d:til<=fr
   .rw[Xt d];rfl
   .rw[Xs d] at h;exact Xu rfl h
 |waiting=>exact Xu rfl h
 |ef name fr til =>
  simp only[aX] at h ⊢;by_cases f:cI name s.ts=0
  .rw[Xt f];rfl
  .rw[Xs f] at h ⊢
   by_cases d:til<=fr
   .rw[Xt d];rfl
   .rw[Xs d] at h;exact Xu rfl h
 |find name u long fr til =>
  simp only[aX] at h ⊢;by_cases f:eW s.ts name u≠0
  .rw[Xt f];rfl
  .rw[Xs f] at h ⊢
   by_cases d:til<=fr
   .rw[Xt d];rfl
   .rw[Xs d] at h;exact Xu rfl h
 |expand r =>simp only[aX] at h ⊢;by_cases c:Rd.iS r≠0;rw[Xt c];rfl;rw[Xs c] at h;exact Xu rfl h
 |tick n =>simp only[aX] at h ⊢;by_cases c:1048320<s.now+n;rw[Xt c];rfl;rw[Xs c] at h;exact Xu rfl h
 |clock=>exact Xu rfl h
end aA
namespace aA
theorem Ju:∀ (l:J N)(a b:N),l.Pairwise (· < ·)->(∀ x∈l,a<=x/\x<=b)->(l.length:N)<=max 0 (b-a+1)
 |[],_,_,_,_=>by grind
 |x :: r,a,b,hp,hb=>by let⟨h1,h2⟩:=List.pairwise_cons.1 hp;have f:=hb x (List.mem_cons_self ..);have:=Ju r (x+1) b h2 (fun y d=>⟨by grind,(hb y (Zk _ d)).2⟩);simp only[List.length_cons];omega
theorem Dm{s:St}(h:Inv s):s.es.length<=60:=by
 have f:=h.ids;have j:=h.g1;have:=Ju _ 1 60 f (fun x d=>by obtain⟨e,i,rfl⟩:=YN.1 d;have:=h.nK e i;omega)
 rw[Zd] at this;omega
end aA
open aA (aQ St eD kept fc ek ec jw dB dI jC eS jr cA Inv cI nC jE bS)
def nh(p ws:J Xm):M->Xm
 |0=>⟨#[]⟩
 |k+1=>(if 0<k then nh p ws k++⟨#[32]⟩ else nh p ws k)++aZ (p.getD k ⟨#[]⟩) (ws.getD k ⟨#[]⟩)
theorem RP(n:N)(d:-1<=n)(h:n<=9999999):(Txt.bE n).size<=160:=by by_cases e:n=-1;subst e;decide +kernel;have:=Txt.BC n O h;omega
theorem RY(t:N)(i:0<=t)(h:t<=1048320):(dU t).size<=160:=by have f:=H6 (t / 1440) O O;have d:=Hk (t % 1440) O O;have j:(⟨#[47]⟩:Xm).size=1:=Xd;unfold dU;simp only[ByteArray.size_append];omega
theorem Rc(w:Xm):(py w).size<=160:=by
 unfold py;split
 .rename_i acc _
  have:=Ae acc 7;have e:(ug acc).size=min (jo acc 7).size (jo acc 7).size-1:=ZN ..;omega
 .exact zN _
theorem Hx(sym w:Xm)(i:w.size<=160)(j:bG sym w=Xy):(aZ sym w).size<=160:=by
 have f:=Hj w;have d:=RP (cB w 1 7) f.1 f.2;unfold aZ;split
 .exact d
 .split
  .exact d
  .split
   .exact d
   .split
    .exact d
    .split
     .rename_i h;exact RY _ (Ii h j) (Hm w).2
     .split
      .exact Rc w
      .exact i
theorem CI:∀ (ps:J (J Xm))(ws:J Xm)(m:M)(p:J Xm),scan ps ws m=(U p,0)->pre p ws=p.length/\pre p ws=ws.length
 |[],_,_,_,h=>by simp[scan] at h
 |q :: ps,ws,m,p,h=>by unfold scan at h;split at h;rename_i hc;simp at h;subst h;exact hc;exact CI ps ws _ p h
theorem CF(p ws:J Xm)(h:pre p ws=p.length)(d:pre p ws=ws.length)(f:∀ x∈ws,x.size<=160):∀ k:M,k<=ws.length->(nh p ws k).size<=161*k
 |0,_=>zq _
 |k+1,hk=>by have ih:=CF p ws h d f k O;have i:=Ac p ws k O O O;have l:p.getD k ⟨#[]⟩=p[k]'Xb:=Xi;have j:ws.getD k ⟨#[]⟩=ws[k]'Xb:=Xi;have z:=Hx (p[k]'Xb) (ws[k]'Xb) (f _ (zg O)) i;have o:(⟨#[32]⟩:Xm).size=1:=Xd;unfold nh;rw[l,j];split;simp only[ByteArray.size_append];omega;simp only[ByteArray.size_append];omega
def PR(s:Xm)(e:Ending):Prop :=
 (160<s.size/\e=XQ (.tuple #[XJ ⟨#[]⟩,V Y 1,V Y 0])) \/
 (s.size<=160/\((∃ p,kH s=(U p,0)/\e=XQ (.tuple #[nh p (Txt.aC s) (Txt.aC s).length,V Y 0,V Y 0])) \/(∃ m:M,kH s=(Z,m)/\e=XQ (.tuple #[XJ ⟨#[]⟩,V Y 2,V Y m]))))
theorem Ja(s:Xm)(w:Xz)(f:160<s.size):XD prog 28 #[s] w fun e w'=>e=XQ (.tuple #[(),(),V Y 1,V Y 0])/\w'=w:=by
 have d:(160:N)<(s.size:N):=O;go_in;go_wp2;(try simp only[Exit.inBlock,Exit.then]);refine bodyPost_ret (oW rfl _ _ _) rfl ?_;exact⟨rfl,rfl⟩
theorem IL(s:Xm)(w:Xz)(he:Env w):XD prog 13 #[s] w fun e w'=>PR s e/\XC w w w':=by
 by_cases hs:s.size<=160
 .have HE:=hide he;clear he
  go_in;go_wp21;refine (Dd s w hs).mono ?_;rintro e w1 ⟨hr,aa⟩;rcases hr with ⟨p,a,b,c,d,g,h,l,rfl,ra,rb⟩|⟨m,l,rfl⟩
  .have ⟨l1,l2⟩:=CI _ _ _ _ l;have S:=hide l;have ai:=C8 s;have hw:∀ x∈Txt.aC s,x.size<=160:=fun x hx=>XU (xZ s x hx) hs
   have ag:=hide (CF p (Txt.aC s) l1 l2 hw);have HW:=hide hw;have L1:=hide l1;have L2:=hide l2;have af:=hide (Ac p (Txt.aC s));clear l hw l1 l2;go_wp2;go_loopw [9,10,11] (fun o i _ wx=>∃ k:M,k<=(Txt.aC s).length/\i=V Y k/\o=XJ (nh p (Txt.aC s) k)/\Row wx a g (Txt.aC s)/\Row wx b h p/\XC w w wx) (fun _ i _ _=>(Txt.aC s).length-(intOf i).toNat)
   .exact⟨0,Nat.zero_le _,rfl,rfl,ra,rb,aa⟩
   .obtain⟨k,hk,rfl,rfl,A,u,r⟩:=hrel;clear ra rb;have oz:=aO ag k hk
    by_cases C:k<(Txt.aC s).length
    .have I:k<p.length:=by have:=aO L1;have:=aO L2;omega
     obtain rfl:=A.at_ O;obtain rfl:=u.at_ O;have k1:=u.cells k I;have k2:=A.cells k C;have j1:(k:N)<(p.length:N):=O;have j2:(k:N)<((Txt.aC s).length:N):=O;have j0:(0:N)<=(k:N):=Int.natCast_nonneg _;have G:(Txt.aC s)[k].size<=160:=aO HW _ (zg C);have P:=aO af k I C (by have:=aO L2;omega);have ad:=hide G;have ae:=hide P;have wz:=Hx _ _ G P;have ac:Hid (nh p (Txt.aC s) (k+1)=(if 0<k then nh p (Txt.aC s) k++⟨#[32]⟩ else nh p (Txt.aC s) k)++aZ p[k] (Txt.aC s)[k]):=by show nh p (Txt.aC s) (k+1)=_;rw[nh,show p.getD k ⟨#[]⟩=p[k] from by simp[List.getD,I],show (Txt.aC s).getD k ⟨#[]⟩=(Txt.aC s)[k] from by simp[List.getD,C]]
     clear G P;have ab:=hide ((aO HE).later r);by_cases X:0<k
     .have j3:(0:N)<(k:N):=O
      have T:=ac.trans (by rw[Xt X]);go_wp21;go_region_held3 (fun w'=>w'.cell? (h,k)=U (XJ p[k])/\w'.cell? (g,k)=U (XJ (Txt.aC s)[k]))
       (first
        |go_keep
        |(
         go_split_ands;refine⟨?_,?_⟩
         .exact cell_later f Xe
         .exact cell_later f Xe))
       ((go_at_call 29;refine (I7 _ _ _ ?_ (aO ad) (aO ae)).mono ?_;exact (aO ab).later ⟨rfl,rfl,rfl,XS _,fun _ _=>rfl⟩;rintro e w4 ⟨rfl,f⟩))
      have j:XC wr wr w4:=⟨f.os,f.tape,f.output,f.size,f.block⟩;have t:=r.trans (j.mono r.size);have F:=A.later j;have D:=u.later j;go_wp2;exact⟨⟨k+1,O,by go_num,by rw[T],F,D,t⟩,by simp[intOf];omega⟩
     .have j3:¬ (0:N)<(k:N):=O
      have T:=ac.trans (by rw[Xs X]);go_wp21;go_region_held3 (fun w'=>w'.cell? (h,k)=U (XJ p[k])/\w'.cell? (g,k)=U (XJ (Txt.aC s)[k]))
       (first
        |go_keep
        |(
         go_split_ands;refine⟨?_,?_⟩
         .exact cell_later f Xe
         .exact cell_later f Xe))
       ((go_at_call 29;refine (I7 _ _ _ ?_ (aO ad) (aO ae)).mono ?_;exact (aO ab).later ⟨rfl,rfl,rfl,XS _,fun _ _=>rfl⟩;rintro e w4 ⟨rfl,f⟩))
      have j:XC wr wr w4:=⟨f.os,f.tape,f.output,f.size,f.block⟩;have t:=r.trans (j.mono r.size);have F:=A.later j;have D:=u.later j;go_wp2;exact⟨⟨k+1,O,by go_num,by rw[T],F,D,t⟩,by simp[intOf];omega⟩
    .obtain rfl:k=(Txt.aC s).length:=O
     go_wp2;go_ret3;exact⟨.inr ⟨hs,.inl ⟨p,aO S,rfl⟩⟩,r⟩
  .have S:=hide l;clear l;go_wp2;go_ret3;exact⟨.inr ⟨hs,.inr ⟨m,aO S,rfl⟩⟩,aa⟩
 .go_in
  go_wp21;refine aY (Ja s w O) ?_;go_wp2;go_ret3;exact⟨.inl ⟨O,rfl⟩,Below.refl _ _⟩
theorem ng(ws:J Xm)(P Q:J (Xm->Xp))(st:M × Xp):aP ws (P++Q) st=aP ws Q (aP ws P st):=List.foldl_append ..
theorem P8(ws:J Xm)(B:Xm->Xp)(n:M):gG ws B (n,Xy)=(n,Xy):=by simp[gG,fP,fL,fQ,dN]
theorem td(ws:J Xm):∀ (d:J (Xm->Xp))(n:M),aP ws d (n,Xy)=(n,Xy)
 |[],_=>rfl
 |B :: d,n=>by show aP ws d (gG ws B (n,Xy))=_;rw[P8,td ws d n]
theorem zU{B:Xm->Xp}(h:fQ ws n Xx B=Xx):gG ws B (n,Xx)=(n,Xy):=by simp only[gG,fP,fL,h,if_false,Bool.false_eq_true]
theorem Qi{B:Xm->Xp}(h:¬ n<ws.length):fQ ws n Xx B=Xx:=by simp[fQ,dN,h]
theorem G6{B:Xm->Xp}(h:B (ws.getD n ByteArray.empty)=Xx):fQ ws n Xx B=Xx:=by simp only[fQ,h,Bool.and_false]
theorem oQ{B:Xm->Xp}{wr:Xp}(h:fQ ws n wr B=Xy):wr=Xx/\n<ws.length/\B (ws.getD n ByteArray.empty)=Xy:=by unfold fQ dN at h;simp only[Zr,Bool.not_eq_true',decide_eq_true_eq] at h;exact⟨h.1.1,h.1.2,h.2⟩
theorem Ir(ws:J Xm):∀ (p:J Xm)(n:M),n<=ws.length->aP ws (p.map bG) (n,Xx)=(n+pre p (ws.drop n),decide (pre p (ws.drop n)≠p.length))
 |[],n,_=>by simp[pre,aP]
 |s :: p,n,hn=>by
  show aP ws (p.map bG) (gG ws (bG s) (n,Xx))=_;by_cases d:n<ws.length
  .have h:=List.drop_eq_getElem_cons d;have i:=sD ws n d
   cases f:bG s ws[n]
   .rw[zU (G6 Xi),td,h,pre,f];simp
   .rw[Jp d Xi,Ir ws p (n+1) d,h,pre,f];simp only[if_true];refine Prod.ext ?_ ?_
    .show n+1+_=n+(_+1);omega
    .simp
  .rw[zU (Qi d),td,List.drop_of_length_le O];simp[pre]
theorem Cb(ws p:J Xm):aP ws (p.map bG) (0,Xx)=(pre p ws,decide (pre p ws≠p.length)):=by have:=Ir ws p 0 (zN _);simpa using this
theorem qk(h:aP ws (p.map bG) (0,Xx)=(n,b)):pre p ws=n:=by rw[Cb] at h;exact (Prod.mk.inj h).1
theorem sZ(h:aP ws (p.map bG) (0,Xx)=(n,Xx)):n=p.length:=by rw[Cb] at h;let⟨h1,h2⟩:=Prod.mk.inj h;rw[h1] at h2;by_cases e:n=p.length;exact e;simp[e] at h2
theorem xy(h:aP ws (p.map bG) (0,Xx)=(n,Xy)):n<p.length:=by have d:=(uA p ws).1;rw[Cb] at h;let⟨h1,h2⟩:=Prod.mk.inj h;rw[h1] at h2 d;by_cases e:n=p.length;simp[e] at h2;omega
theorem GZ(R:J Xm)(h:aP ws (Q.map bG) (0,Xx)=(n,Xy)):pre (Q++R) ws=n:=by apply qk (b:=Xy);rw[YS,ng,h,td]
theorem GG(R:J Xm)(h:aP ws (Q.map bG) (0,Xx)=(n,Xx))(d:fQ ws n Xx (bG s)=Xx):pre (Q++s :: R) ws=n:=by apply qk (b:=Xy);rw[YS,ng,h];show aP ws (R.map bG) (gG ws (bG s) (n,Xx))=_;rw[zU d,td]
theorem Cj(h:aP ws ((Q++R).map bG) (0,Xx)=(n,Xx)):aP ws (Q.map bG) (0,Xx)=(Q.length,Xx):=by
 rw[YS,ng] at h;obtain⟨m,b,d⟩:∃ m b,aP ws (Q.map bG) (0,Xx)=(m,b):=⟨_,_,rfl⟩
 cases b
 .rw[d,sZ d]
 .rw[d,td] at h;cases h
theorem xD(h:aP ws ((Q++s :: R).map bG) (0,Xx)=(n,Xx)):fQ ws Q.length Xx (bG s)=Xy:=by
 have d:=Cj h;rw[YS,ng,d] at h
 cases ht:fQ ws Q.length Xx (bG s)
 .have:aP ws (R.map bG) (gG ws (bG s) (Q.length,Xx))=(n,Xx):=h;rw[zU ht,td] at this
  cases this
 .rfl
structure Sum(ps:J (J Xm))(ws:J Xm)(st:M × Xp)(q:J Xm):Prop where
 mem:q∈ps
 le:∀ p∈ps,pre p ws<=st.1
 at_:pre q ws=st.1
 bad:st.2=Xy->∀ p∈ps,¬ (pre p ws=p.length/\pre p ws=ws.length)
 sd:st.2=Xx->pre q ws=q.length/\∀ p∈ps,p≠q->¬ (pre p ws=p.length/\pre p ws=ws.length)
theorem IQ:∀ (ps:J (J Xm))(ws:J Xm)(m d:M),(∀ p∈ps,¬ (pre p ws=p.length/\pre p ws=ws.length))->(∀ p∈ps,pre p ws<=d)->m<=d->(m=d\/∃ p∈ps,pre p ws=d)->scan ps ws m=(Z,d)
 |[],_,m,d,_,_,_,h=>by
  rcases h with rfl|⟨p,i,_⟩
  .rfl
  .simp at i
 |p :: ps,ws,m,d,h1,h2,h3,h4=>by
  have i:=h2 p (List.mem_cons_self ..);rw[scan,Xs (h1 p (List.mem_cons_self ..))];refine IQ ps ws _ d (fun q f=>h1 q (Zk _ f)) (fun q f=>h2 q (Zk _ f)) Xi ?_;rcases h4 with rfl|⟨q,f,e⟩
  .left;rw[Xs O]
  .rcases X7.1 f with rfl|f
   .left;split <;> omega
   .exact .inr ⟨q,f,e⟩
theorem Io:∀ (ps:J (J Xm))(ws:J Xm)(m:M)(q:J Xm),q∈ps->pre q ws=q.length/\pre q ws=ws.length->(∀ p∈ps,p≠q->¬ (pre p ws=p.length/\pre p ws=ws.length))->scan ps ws m=(U q,0)
 |[],_,_,_,h,_,_=>by grind
 |p :: ps,ws,m,q,h,hf,hn=>by
  rw[scan];by_cases e:p=q
  .subst e;rw[Xt hf]
  .rw[Xs (hn p (List.mem_cons_self ..) e)];rcases X7.1 h with h|h
   .exact Xu h.symm e
   .exact Io ps ws _ q h hf (fun r d=>hn r (Zk _ d))
theorem Sum.yes(h:Sum ps ws st q)(d:st.2=Xx)(f:dN ws.length st.1 st.2=Xx):scan ps ws 0=(U q,0):=by
 let⟨g1,g2⟩:=h.sd d;have i:¬ st.1<ws.length:=by simpa[dN,d] using f
 have:=(uA q ws).2;have:=h.at_;exact Io ps ws 0 q h.mem ⟨g1,O⟩ g2
theorem Sum.no(h:Sum ps ws st q)(d:st.2=Xy\/dN ws.length st.1 st.2=Xy):scan ps ws 0=(Z,st.1):=by
 refine IQ ps ws 0 st.1 ?_ h.le (zN _) (.inr ⟨q,h.mem,h.at_⟩);rcases d with d|d
 .exact h.bad d
 .have i:=sI d;intro p f e;have:=h.le p f;omega
theorem C0(ws:J Xm)(f:J Xm->Xp):∀ (ps:J (J Xm))(m:M),(∀ p∈ps,f p=Xx->pre p ws=0/\p≠[])->scan ps ws m=scan (ps.filter f) ws m
 |[],_,_=>rfl
 |p :: ps,m,h=>by
  have ih:=fun m=>C0 ws f ps m (fun q i=>h q (Zk _ i))
  cases d:f p
  .let⟨h0,hne⟩:=h p (List.mem_cons_self ..) d;rw[List.filter_cons_of_neg (by simp[d]),scan,h0,Xs,Xs O,ih];rintro ⟨e,_⟩;exact hne (List.length_eq_zero_iff.1 e.symm)
  .rw[List.filter_cons_of_pos d,scan,scan,ih]
def bF:Xm:=⟨#[78,65,77,69]⟩
def bY:Xm:=⟨#[85,78,73,84,83]⟩
def cD:Xm:=⟨#[77,73,78,85,84,69,83]⟩
def fS:Xm:=⟨#[69,86,69,82,89]⟩
def gT:Xm:=⟨#[73,68]⟩
def aU:Xm:=⟨#[84,73,77,69]⟩
def fY:Xm:=⟨#[68,65,84,69]⟩
def iq:Xm:=⟨#[77,73,78,85,84,69]⟩
def kB:Xm:=⟨#[79,78]⟩
theorem CV(w:Xm)(d hi:N)(h:0<=d):mM w d hi=gy w d hi:=by
 unfold mM gy;rw[xN]
 cases f:Txt.isNum w.data.toList
 .simp;omega
 .simp
theorem dQ:bG bF=bJ:=by have d:(bF.toList==[78,65,77,69])=Xy:=Xf;funext w;unfold bG;rw[Xt d];rfl
theorem fo:bG bY=cF:=by have f:¬ (bY.toList==[78,65,77,69])=Xy:=Xf;have d:(bY.toList==[85,78,73,84,83])=Xy:=Xf;funext w;unfold bG;rw[Xs f,Xt d];exact CV w 1 9 O
theorem jt:bG cD=dM:=by have h:¬ (cD.toList==[78,65,77,69])=Xy:=Xf;have f:¬ (cD.toList==[85,78,73,84,83])=Xy:=Xf;have d:(cD.toList==[77,73,78,85,84,69,83])=Xy:=Xf;funext w;unfold bG;rw[Xs h,Xs f,Xt d];exact CV w 1 1048320 O
theorem sV:bG fS=eP:=by have i:¬ (fS.toList==[78,65,77,69])=Xy:=Xf;have h:¬ (fS.toList==[85,78,73,84,83])=Xy:=Xf;have f:¬ (fS.toList==[77,73,78,85,84,69,83])=Xy:=Xf;have d:(fS.toList==[69,86,69,82,89])=Xy:=Xf;funext w;unfold bG;rw[Xs i,Xs h,Xs f,Xt d];exact CV w 1 99 O
theorem qP:bG gT=jQ:=by
 have j:¬ (gT.toList==[78,65,77,69])=Xy:=Xf;have i:¬ (gT.toList==[85,78,73,84,83])=Xy:=Xf;have h:¬ (gT.toList==[77,73,78,85,84,69,83])=Xy:=Xf;have f:¬ (gT.toList==[69,86,69,82,89])=Xy:=Xf;have d:(gT.toList==[73,68])=Xy:=Xf;funext w;unfold bG;rw[Xs j,Xs i,Xs h,Xs f,Xt d,xN];have:=Txt.lT w.data.toList;unfold jQ
 cases l:Txt.isNum w.data.toList
 .simp
 .simp;omega
theorem fM:bG aU=bB:=by
 have l:¬ (aU.toList==[78,65,77,69])=Xy:=Xf;have j:¬ (aU.toList==[85,78,73,84,83])=Xy:=Xf;have i:¬ (aU.toList==[77,73,78,85,84,69,83])=Xy:=Xf;have h:¬ (aU.toList==[69,86,69,82,89])=Xy:=Xf;have f:¬ (aU.toList==[73,68])=Xy:=Xf;have d:(aU.toList==[84,73,77,69])=Xy:=Xf;funext w;unfold bG;rw[Xs l,Xs j,Xs i,Xs h,Xs f,Xt d];unfold eJ
 cases ht:bB w
 .simp
 .unfold bB at ht;simp only[Zr,decide_eq_true_eq] at ht;simp;omega
theorem zx:bG fY=Txt.cU:=by
 have A:¬ (fY.toList==[78,65,77,69])=Xy:=Xf;have u:¬ (fY.toList==[85,78,73,84,83])=Xy:=Xf;have t:¬ (fY.toList==[77,73,78,85,84,69,83])=Xy:=Xf;have r:¬ (fY.toList==[69,86,69,82,89])=Xy:=Xf;have o:¬ (fY.toList==[73,68])=Xy:=Xf;have l:¬ (fY.toList==[84,73,77,69])=Xy:=Xf;have j:(fY.toList==[68,65,84,69])=Xy:=Xf;funext w;unfold bG;rw[Xs A,Xs u,Xs t,Xs r,Xs o,Xs l,Xt j];unfold gK Txt.cU;apply decide_eq_decide.2;constructor
 .intro h
  split at h
  .rename_i hc;exact⟨hc.1,hc.2.1,h.2⟩
  .omega
 .rintro ⟨i,d,f⟩;rw[Xt ⟨i,d,O⟩];exact⟨d,f⟩
theorem Gw:bG iq=Txt.dZ:=by
 have r:¬ (iq.toList==[78,65,77,69])=Xy:=Xf;have o:¬ (iq.toList==[85,78,73,84,83])=Xy:=Xf;have l:¬ (iq.toList==[77,73,78,85,84,69,83])=Xy:=Xf;have j:¬ (iq.toList==[69,86,69,82,89])=Xy:=Xf;have i:¬ (iq.toList==[73,68])=Xy:=Xf;have h:¬ (iq.toList==[84,73,77,69])=Xy:=Xf;have f:¬ (iq.toList==[68,65,84,69])=Xy:=Xf;have d:(iq.toList==[77,73,78,85,84,69])=Xy:=Xf;funext w;unfold bG;rw[Xs r,Xs o,Xs l,Xs j,Xs i,Xs h,Xs f,Xt d];have:=Txt.mR w;unfold jK
 cases ht:Txt.dZ w
 .simp
 .simp;omega
theorem Gx:bG kB=Txt.fF:=by have t:¬ (kB.toList==[78,65,77,69])=Xy:=Xf;have r:¬ (kB.toList==[85,78,73,84,83])=Xy:=Xf;have o:¬ (kB.toList==[77,73,78,85,84,69,83])=Xy:=Xf;have l:¬ (kB.toList==[69,86,69,82,89])=Xy:=Xf;have j:¬ (kB.toList==[73,68])=Xy:=Xf;have i:¬ (kB.toList==[84,73,77,69])=Xy:=Xf;have h:¬ (kB.toList==[68,65,84,69])=Xy:=Xf;have f:¬ (kB.toList==[77,73,78,85,84,69])=Xy:=Xf;have d:(kB.toList==[79,78])=Xy:=Xf;funext w;unfold bG;rw[Xs t,Xs r,Xs o,Xs l,Xs j,Xs i,Xs h,Xs f,Xt d]
def fl(x:Xm):Xp:=!(x.toList==[78,65,77,69]) && !(x.toList==[85,78,73,84,83]) && !(x.toList==[77,73,78,85,84,69,83]) && !(x.toList==[69,86,69,82,89]) && !(x.toList==[73,68]) && !(x.toList==[84,73,77,69]) && !(x.toList==[68,65,84,69]) && !(x.toList==[77,73,78,85,84,69]) && !(x.toList==[79,78])
theorem jH(x:Xm)(h:fl x=Xy):bG x=cH x:=by grind[fl,bG,cH]
theorem cZ(x w:Xm)(h:fl x=Xy):aZ x w=w:=by grind[fl,aZ]
theorem qi(ws:J Xm)(n:M)(wr:Xp)(x:Xm):bP ws n wr x=fQ ws n wr (cH x):=rfl
theorem qq{x:Xm}(h:bP ws st.1 st.2 x=Xy):gB st=gG ws (cH x) st:=by let⟨n,wr⟩:=st;have ht:fQ ws n wr (cH x)=Xy:=h;simp only[gB,gG,fP,fL,ht,if_true]
theorem nZ(w:Xm):aZ bF w=w:=by simp_all[aZ,bF]
theorem lV(w:Xm):aZ fY w=w:=by simp_all[fY,aZ]
theorem ph(w:Xm):aZ iq w=w:=by simp_all[aZ,iq]
theorem rZ{w:Xm}(h:Txt.isNum w.data.toList=Xy):cB w 1 7=bD w:=by rw[xN,Xt h];rfl
theorem uz{w:Xm}{d hi:N}(h:gy w d hi=Xy):Txt.isNum w.data.toList=Xy/\d<=bD w/\bD w<=hi:=by grind[gy,Txt.isNum,bD]
theorem pU(w:Xm)(h:cF w=Xy):aZ bY w=Txt.bE (bD w):=by have d:(bY.toList==[85,78,73,84,83])=Xy:=Xf;unfold aZ;rw[Xt d,rZ (uz h).1]
theorem na(w:Xm)(h:dM w=Xy):aZ cD w=Txt.bE (bD w):=by have f:¬ (cD.toList==[85,78,73,84,83])=Xy:=Xf;have d:(cD.toList==[77,73,78,85,84,69,83])=Xy:=Xf;unfold aZ;rw[Xs f,Xt d,rZ (uz h).1]
theorem lU(w:Xm)(h:eP w=Xy):aZ fS w=Txt.bE (bD w):=by have i:¬ (fS.toList==[85,78,73,84,83])=Xy:=Xf;have f:¬ (fS.toList==[77,73,78,85,84,69,83])=Xy:=Xf;have d:(fS.toList==[69,86,69,82,89])=Xy:=Xf;unfold aZ;rw[Xs i,Xs f,Xt d,rZ (uz h).1]
theorem Gn(w:Xm)(h:jQ w=Xy):aZ gT w=Txt.bE (bD w):=by have j:¬ (gT.toList==[85,78,73,84,83])=Xy:=Xf;have i:¬ (gT.toList==[77,73,78,85,84,69,83])=Xy:=Xf;have f:¬ (gT.toList==[69,86,69,82,89])=Xy:=Xf;have d:(gT.toList==[73,68])=Xy:=Xf;unfold aZ;rw[Xs j,Xs i,Xs f,Xt d,rZ h]
theorem pg(w:Xm)(h:bB w=Xy):aZ aU w=dU (cL w):=by have l:¬ (aU.toList==[85,78,73,84,83])=Xy:=Xf;have j:¬ (aU.toList==[77,73,78,85,84,69,83])=Xy:=Xf;have i:¬ (aU.toList==[69,86,69,82,89])=Xy:=Xf;have f:¬ (aU.toList==[73,68])=Xy:=Xf;have d:(aU.toList==[84,73,77,69])=Xy:=Xf;unfold aZ;rw[Xs l,Xs j,Xs i,Xs f,Xt d];unfold eJ cL;rw[Xt h,Xt h]
theorem zk(w:Xm):aZ kB w=py w:=by simp_all[kB,aZ,py]
theorem jJ(w:Xm):0<=cL w/\cL w<=1048320:=by
 unfold cL
 cases ht:bB w
 .simp
 .unfold bB at ht;simp only[Zr,decide_eq_true_eq] at ht;simp only[if_true];exact ht.2
theorem cY(w:Xm):0<=bD w/\bD w<=9999999:=Txt.lT w.data.toList
theorem PI{w:Xm}(h:bJ w=Xy):tJ w=w:=Xt h
theorem Cy{i:M}{l:J UInt8}(d:s.data.toList=l)(f:l[i]?=U c)(h:Txt.fK s i=n):c.toNat=n:=by grind[Txt.fK]
theorem CU(h:c.toNat=n)(d:n<256):c=UInt8.ofNat n:=by apply UInt8.toNat_inj.1;rw[h,UInt8.toNat_ofNat'];omega
theorem xM(s:Xm)(a b n:M)(f:min b s.size-a=n+1)(h:Txt.isNum (Txt.part s a b)=Xy):Txt.jU (Txt.dG (Txt.part s a b)) (n+1)=s.extract a b:=by
 have d:=vS s a b (n+1) f;have i:=Txt.A5 h;have e:Txt.dG (Txt.part s a b)=Txt.jB (s.extract a b).data.toList:=by unfold Txt.dG;rw[Xt h];rfl
 rw[e];exact Txt.QY _ n d i
theorem ma(w:Xm)(h:Txt.cU w=Xy):fO (dV w)=w:=by
 have f:Txt.jY w=Xy:=by unfold Txt.cU at h;exact (of_decide_eq_true h).1
 have e:dV w=Cal.num (Txt.dG (Txt.part w 0 4)) (Txt.dG (Txt.part w 5 7)) (Txt.dG (Txt.part w 8 10)):=by unfold dV Txt.gh;rw[Xt h,Xt f]
 unfold Txt.jY at f;let⟨hs,b4,b7,n0,n1,n2,hok⟩:=of_decide_eq_true f;let⟨ey,em,ed⟩:=Cal.xU _ _ _ _ hok e.symm;unfold fO;rw[<- ey,<- em,<- ed];unfold vC;rw[xM w 0 4 3 O n0,xM w 5 7 1 O n1,xM w 8 10 1 O n2];apply Txt.nS;simp only[Txt.qI,Txt.rF];have j:w.data.toList.length=10:=by rw[Txt.iL];exact hs
 obtain⟨l,d⟩:∃ l,w.data.toList=l:=⟨_,rfl⟩;rw[d] at j;rw[d];match l,j,d with
 |[a0,a1,a2,a3,a4,a5,a6,a7,a8,a9],_,d =>have r:=CU (Cy (i:=4) (c:=a4) d rfl (n:=45) b4) O;have o:=CU (Cy (i:=7) (c:=a7) d rfl (n:=45) b7) O;rw[r,o];rfl
theorem pA(w:Xm)(h:Txt.dZ w=Xy):jg (Txt.eA w)=w:=by
 have e:Txt.eA w=Txt.dG (Txt.part w 0 2)*60+Txt.dG (Txt.part w 3 5):=by unfold Txt.eA;rw[Xt h]
 unfold Txt.dZ at h;let⟨hs,b2,n0,n1,h23,h59⟩:=of_decide_eq_true h;have t:=Txt.lT (Txt.part w 0 2);have r:=Txt.lT (Txt.part w 3 5);have o:Txt.eA w / 60=Txt.dG (Txt.part w 0 2):=Xi;have f:Txt.eA w % 60=Txt.dG (Txt.part w 3 5):=Xi;unfold jg;rw[o,f,xM w 0 2 1 O n0,xM w 3 5 1 O n1];apply Txt.nS;simp only[Txt.qI,Txt.rF];have j:w.data.toList.length=5:=by simp_all
 obtain⟨l,d⟩:∃ l,w.data.toList=l:=⟨_,rfl⟩;rw[d] at j;rw[d];match l,j,d with
 |[a0,a1,a2,a3,a4],_,d =>have f:=CU (Cy (i:=2) (c:=a2) d rfl (n:=58) b2) O;rw[f];rfl
theorem Ht(d:J UInt8)(r:J (J UInt8))(x:J UInt8):Lib.joinTail d (r++[x])=Lib.joinTail d r++(d++x):=by simp[Lib.joinTail]
theorem C6(acc:J N):∀ k:M,(jo acc k).data.toList=Lib.joinTail [44] ((iA acc k).map (·.data.toList))
 |0=>rfl
 |k+1=>by have ih:=C6 acc k;unfold jo iA;split;rw[YS,List.map_cons,List.map_nil,Ht,Txt.qI,Txt.qI,ih];simp;exact ih
theorem Rq(L:J (J UInt8)):Lib.join L [44]=(Lib.joinTail [44] L).drop 1:=by
 cases L with
 |nil=>rfl
 |cons x r=>rw[Lib.join_cons];simp[Lib.joinTail]
theorem Hc(acc:J N):Lib.join ((iA acc 7).map (·.data.toList)) [44]=(ug acc).data.toList:=by unfold ug;rw[Txt.rF,Rq,<- C6];rw[YK (by simp_all)]
theorem NK(acc:J N):nI acc=ug acc:=by apply Txt.nS;show (Lib.join ((iA acc 7).map (·.data.toList)) [44]).toArray.toList=_;rw[Hc]
theorem zJ(h:Txt.jf s=U acc):iA acc 7≠[]:=by intro e;have i:=GU h;have d:=C6 acc 7;rw[e] at d;have f:=Txt.iL (jo acc 7);rw[d] at f;have:(Lib.joinTail [44] (([]:J Xm).map (·.data.toList))).length=0:=rfl;omega
theorem zT(acc:J N):(Lib.join ((iA acc 7).map (·.data.toList)) [44]).length<=160:=by rw[Hc,Txt.iL];unfold ug;have e:((jo acc 7).extract 1 (jo acc 7).size).size=min (jo acc 7).size (jo acc 7).size-1:=ZN ..;have:=Ae acc 7;omega
theorem zR(h:Txt.jf s=U acc):py s=nI acc:=by unfold py;rw[h,NK]
theorem NJ(x:Xm):jn [x]=x:=by apply Txt.nS;show (Lib.join [x.data.toList] [32]).toArray.toList=_;rw[Lib.join_one]
theorem NN(d:J Xm)(y:Xm)(h:d≠[]):jn (d++[y])=jn d++⟨#[32]⟩++y:=by
 apply Txt.nS;rw[Txt.qI,Txt.qI];show (Lib.join ((d++[y]).map (·.data.toList)) [32])=Lib.join (d.map (·.data.toList)) [32]++[32]++y.data.toList;match d,h with
 |x :: r,_ =>rw[Yj,List.map_cons,List.map_cons,Lib.join_cons,Lib.join_cons,YS,List.map_cons,List.map_nil,Ht];simp
theorem GC(p ws:J Xm):∀ k:M,nh p ws k=jn ((List.range k).map fun j=>aZ (p.getD j ByteArray.empty) (ws.getD j ByteArray.empty))
 |0=>rfl
 |k+1=>by
  have ih:=GC p ws k;rw[List.range_succ,YS,List.map_cons,List.map_nil,nh];by_cases d:0<k
  .rw[Xt d,NN _ _ Xh,<- ih];rfl
  .obtain rfl:k=0:=O
   rw[Xs d];show nh p ws 0++_=jn [_];rw[NJ];apply Txt.nS;rw[Txt.qI];rfl
theorem Ry(ps:J Xm)(pc ev:N)(acc:J N)(fr mn mi ti un:N)(w:Xz)(he:Env w)(hl:ps.length<=3)(f0:0<=fr)(f1:fr<=728)(m0:0<=mn)(m1:mn<1440)(i0:0<=mi)(i1:mi<=9999999)(t0:0<ti)(t1:ti<=9999999)
  (hp:∀ x,Env x->XD prog 300 #[kn pc ev acc fr mn mi ti un] x fun e w'=>WR x w' ps e):
  XD prog 299 #[kn pc ev acc fr mn mi ti un] w fun e w'=>WR w w' (ps++gL fr mn mi++[eV,Txt.bE ti]) e:=by
 obtain⟨aa,ai,ad,ac,ab⟩:=info_parts qm;simp only[kn] at hp ⊢;go_in;go_wp21;obtain⟨X,F⟩:∃ X,X=w.alloc (XR #[pc,ev,aI acc 0,aI acc 1,aI acc 2,aI acc 3,aI acc 4,aI acc 5,aI acc 6,fr,mn,mi,ti,un] 155):=⟨_,rfl⟩;rw[<- F];have aj:XC w w X:=by rw[F];exact aS
 have eX:=he.later aj;have o:w+1<=X.heap.size:=by rw[F];simp
 have j:10<=w.heap.size+1:=by have:=he.size;omega
 have T:X.cell? (w,9)=U ↑fr:=by rw[F];simp
 have C:X.cell? (w,10)=U ↑mn:=by rw[F];simp
 have A:X.cell? (w,11)=U ↑mi:=by rw[F];simp
 have u:X.cell? (w,12)=U ↑ti:=by rw[F];simp
 have r:X.cell? (w,13)=U ↑un:=by rw[F];simp
 clear F he;refine (hp X eX).mono ?_;rintro e w1 ⟨v1,rfl,ag,an⟩;clear hp;have S:=an.mono o;have a7:=S.size;have y9:=(S.cell (p:=(w,9)) Xc).trans T;have az:=(S.cell (p:=(w,10)) Xc).trans C;have ay:=(S.cell (p:=(w,11)) Xc).trans A;have ax:=(S.cell (p:=(w,12)) Xc).trans u;have aw:=(S.cell (p:=(w,13)) Xc).trans r;have h:=ov (base':=w.heap.size+1) ag o;clear ag an;go_wp21;have h:=h.drew;go_region_held3 (fun w'=>XC (w.heap.size+1) X w'/\w'.cell? (w,9)=U ↑fr/\w'.cell? (w,10)=U ↑mn/\w'.cell? (w,11)=U ↑mi/\w'.cell? (w,12)=U ↑ti/\w'.cell? (w,13)=U ↑un)
  (first
   |(go_split_ands;exact jh (jT o Xe i) (fun d=>⟨(d.cell (p:=(w,9)) Xc).trans T,(d.cell (p:=(w,10)) Xc).trans C,(d.cell (p:=(w,11)) Xc).trans A,(d.cell (p:=(w,12)) Xc).trans u,(d.cell (p:=(w,13)) Xc).trans r⟩))
   |(go_split_ands;exact jh (jT o Xe aS) (fun d=>⟨(d.cell (p:=(w,9)) Xc).trans T,(d.cell (p:=(w,10)) Xc).trans C,(d.cell (p:=(w,11)) Xc).trans A,(d.cell (p:=(w,12)) Xc).trans u,(d.cell (p:=(w,13)) Xc).trans r⟩))
   |(go_split_ands;exact jh (jT o Xe (ic _)) (fun d=>⟨(d.cell (p:=(w,9)) Xc).trans T,(d.cell (p:=(w,10)) Xc).trans C,(d.cell (p:=(w,11)) Xc).trans A,(d.cell (p:=(w,12)) Xc).trans u,(d.cell (p:=(w,13)) Xc).trans r⟩))
   |(go_split_ands;exact jh (Below.grown Xe f Xh (fun k d=>lI h d)) (fun d=>⟨(d.cell (p:=(w,9)) Xc).trans T,(d.cell (p:=(w,10)) Xc).trans C,(d.cell (p:=(w,11)) Xc).trans A,(d.cell (p:=(w,12)) Xc).trans u,(d.cell (p:=(w,13)) Xc).trans r⟩)))
  (first
   |(go_at_call 293;go_split_ands;refine aK (Ai _ _ (eX.jk j Xe) O O) fun w5 i=>?_;have ae:=pG (B:=w.heap.size+1) (x:=X) Xe i;have h:=nQ h i)
   |(go_at_call 294;go_split_ands;refine aK (Dg _ _ (eX.jk j Xe) O O) fun w5 i=>?_;have ae:=pG (B:=w.heap.size+1) (x:=X) Xe i;have h:=nQ h i)
   |(go_at_call 289;go_split_ands;refine aK (nu _ _ (eX.jk j Xe) O O) fun w5 i=>?_;have ae:=pG (B:=w.heap.size+1) (x:=X) Xe i;have h:=nQ h i)
   |((refine step_append_lies _ (by rfl) _ _ _ (by rfl) (w.heap.size+1) 9 aa _ 1 16 underlying78 ai ad ac ab rfl O v1 ps.length (ps.map XJ) (by rfl) (h.alloc _) (w5,0) 6 6 [cC,fO fr,cO,jg mn,dA,Txt.bE mi] (by rfl) (by rfl) (Ze (cs:=#[cC,fO fr,cO,jg mn,dA,Txt.bE mi]) (t:=9) (fr:=(0,0)) (heap_alloc_new _ _)) Xk O Xj O Xh (w5.heap.size+1) Xc ?_;intro g cap w6 l f ao av)))
 go_split_ands;have P:XC (w.heap.size+1) X w6:=Xe;have a4:=P.size;obtain⟨ys,I⟩:∃ ys:J XA,ys=List.map XJ ps++[XJ cC,XJ (fO fr),XJ cO,XJ (jg mn),XJ dA,XJ (Txt.bE mi)]:=⟨_,rfl⟩;rw[<- I] at l;have aq:=hide I;clear I f ao;go_wp21;refine aK (nu ti w6 (eX.jk j P) O O) fun w7 al=>?_;have af:=nQ l al;have G:=jT o P al;have a3:=G.size;clear l;go_wp2_with (first
  |(at_builtin;refine wpList_append_own _ rfl _ _ 78 rfl (w.heap.size+1) 9 aa (XJ ⟨#[]⟩) 1 16 underlying78 ai ad ac ab rfl Xd _ _ _ rfl (af.alloc _) (w7,0) 2 2 [eV,Txt.bE ti] rfl rfl ?c1 ?c2 ?c3 ?c4 ?c5 ?_))
 .exact Ze (cs:=#[eV,Txt.bE ti]) (heap_alloc_new w7 _)
 .simp[Zf]
 .unfold maxLen;omega
 .omega
 .simp;omega
 intro v8 w8 D f _;have ak:=(G.alloc O _).grown f Xh (fun k d=>lI af d);have au:=hide ak;have ar:=hide D;clear ak f D;go_wp2;go_ret;refine⟨_,rfl,?_,aj.trans (au.mono O)⟩;have h9:=ov (base':=w) ar O;rw[aq] at h9;have e1:(ps++gL fr mn mi++[eV,Txt.bE ti]).length=ps.length+6+2:=by simp[gL]
 have e2:(ps++gL fr mn mi++[eV,Txt.bE ti]).map XJ=List.map XJ ps++[XJ cC,XJ (fO fr),XJ cO,XJ (jg mn),XJ dA,XJ (Txt.bE mi)]++[XJ eV,XJ (Txt.bE ti)]:=by simp[gL]
 rw[e1,e2];exact h9
theorem Rz(ps:J Xm)(pc ev:N)(acc:J N)(fr mn mi un:N)(w:Xz)(he:Env w)(hl:ps.length<=3)(f0:0<=fr)(f1:fr<=728)(m0:0<=mn)(m1:mn<1440)(i0:0<=mi)(i1:mi<=9999999)(t0:0<=un)(t1:un<=728)
  (hp:∀ x,Env x->XD prog 300 #[kn pc ev acc fr mn mi 0 un] x fun e w'=>WR x w' ps e):
  XD prog 299 #[kn pc ev acc fr mn mi 0 un] w fun e w'=>WR w w' (ps++gL fr mn mi++[fe,fO un]) e:=by
 obtain⟨aa,ai,ad,ac,ab⟩:=info_parts qm;simp only[kn] at hp ⊢;go_in;go_wp21;obtain⟨X,F⟩:∃ X,X=w.alloc (XR #[pc,ev,aI acc 0,aI acc 1,aI acc 2,aI acc 3,aI acc 4,aI acc 5,aI acc 6,fr,mn,mi,V Y 0,un] 155):=⟨_,rfl⟩;rw[<- F];have aj:XC w w X:=by rw[F];exact aS
 have eX:=he.later aj;have o:w+1<=X.heap.size:=by rw[F];simp
 have j:10<=w.heap.size+1:=by have:=he.size;omega
 have T:X.cell? (w,9)=U ↑fr:=by rw[F];simp
 have C:X.cell? (w,10)=U ↑mn:=by rw[F];simp
 have A:X.cell? (w,11)=U ↑mi:=by rw[F];simp
 have u:X.cell? (w,12)=U (V Y 0):=by rw[F];simp
 have r:X.cell? (w,13)=U ↑un:=by rw[F];simp
 clear F he;refine (hp X eX).mono ?_;rintro e w1 ⟨v1,rfl,ag,an⟩;clear hp;have S:=an.mono o;have a7:=S.size;have y9:=(S.cell (p:=(w,9)) Xc).trans T;have az:=(S.cell (p:=(w,10)) Xc).trans C;have ay:=(S.cell (p:=(w,11)) Xc).trans A;have ax:=(S.cell (p:=(w,12)) Xc).trans u;have aw:=(S.cell (p:=(w,13)) Xc).trans r;have h:=ov (base':=w.heap.size+1) ag o;clear ag an;go_wp21;have h:=h.drew;go_region_held3 (fun w'=>XC (w.heap.size+1) X w'/\w'.cell? (w,9)=U ↑fr/\w'.cell? (w,10)=U ↑mn/\w'.cell? (w,11)=U ↑mi/\w'.cell? (w,12)=U (V Y 0)/\w'.cell? (w,13)=U ↑un)
  (first
   |(go_split_ands;exact jh (jT o Xe i) (fun d=>⟨(d.cell (p:=(w,9)) Xc).trans T,(d.cell (p:=(w,10)) Xc).trans C,(d.cell (p:=(w,11)) Xc).trans A,(d.cell (p:=(w,12)) Xc).trans u,(d.cell (p:=(w,13)) Xc).trans r⟩))
   |(go_split_ands;exact jh (jT o Xe aS) (fun d=>⟨(d.cell (p:=(w,9)) Xc).trans T,(d.cell (p:=(w,10)) Xc).trans C,(d.cell (p:=(w,11)) Xc).trans A,(d.cell (p:=(w,12)) Xc).trans u,(d.cell (p:=(w,13)) Xc).trans r⟩))
   |(go_split_ands;exact jh (jT o Xe (ic _)) (fun d=>⟨(d.cell (p:=(w,9)) Xc).trans T,(d.cell (p:=(w,10)) Xc).trans C,(d.cell (p:=(w,11)) Xc).trans A,(d.cell (p:=(w,12)) Xc).trans u,(d.cell (p:=(w,13)) Xc).trans r⟩))
   |(go_split_ands;exact jh (Below.grown Xe f Xh (fun k d=>lI h d)) (fun d=>⟨(d.cell (p:=(w,9)) Xc).trans T,(d.cell (p:=(w,10)) Xc).trans C,(d.cell (p:=(w,11)) Xc).trans A,(d.cell (p:=(w,12)) Xc).trans u,(d.cell (p:=(w,13)) Xc).trans r⟩)))
  (first
   |(go_at_call 293;go_split_ands;refine aK (Ai _ _ (eX.jk j Xe) O O) fun w5 i=>?_;have ae:=pG (B:=w.heap.size+1) (x:=X) Xe i;have h:=nQ h i)
   |(go_at_call 294;go_split_ands;refine aK (Dg _ _ (eX.jk j Xe) O O) fun w5 i=>?_;have ae:=pG (B:=w.heap.size+1) (x:=X) Xe i;have h:=nQ h i)
   |(go_at_call 289;go_split_ands;refine aK (nu _ _ (eX.jk j Xe) O O) fun w5 i=>?_;have ae:=pG (B:=w.heap.size+1) (x:=X) Xe i;have h:=nQ h i)
   |((refine step_append_lies _ (by rfl) _ _ _ (by rfl) (w.heap.size+1) 9 aa _ 1 16 underlying78 ai ad ac ab rfl O v1 ps.length (ps.map XJ) (by rfl) (h.alloc _) (w5,0) 6 6 [cC,fO fr,cO,jg mn,dA,Txt.bE mi] (by rfl) (by rfl) (Ze (cs:=#[cC,fO fr,cO,jg mn,dA,Txt.bE mi]) (t:=9) (fr:=(0,0)) (heap_alloc_new _ _)) Xk O Xj O Xh (w5.heap.size+1) Xc ?_;intro g cap w6 l f ao av)))
 go_split_ands;have P:XC (w.heap.size+1) X w6:=Xe;have a4:=P.size;obtain⟨ys,I⟩:∃ ys:J XA,ys=List.map XJ ps++[XJ cC,XJ (fO fr),XJ cO,XJ (jg mn),XJ dA,XJ (Txt.bE mi)]:=⟨_,rfl⟩;rw[<- I] at l;have aq:=hide I;clear I f ao;go_wp21;refine aK (Ai un w6 (eX.jk j P) O O) fun w7 al=>?_;have af:=nQ l al;have G:=jT o P al;have a3:=G.size;clear l;go_wp2_with (first
  |(at_builtin;refine wpList_append_own _ rfl _ _ 78 rfl (w.heap.size+1) 9 aa (XJ ⟨#[]⟩) 1 16 underlying78 ai ad ac ab rfl Xd _ _ _ rfl (af.alloc _) (w7,0) 2 2 [fe,fO un] rfl rfl ?c1 ?c2 ?c3 ?c4 ?c5 ?_))
 .exact Ze (cs:=#[fe,fO un]) (heap_alloc_new w7 _)
 .simp[Zf]
 .unfold maxLen;omega
 .omega
 .simp;omega
 intro v8 w8 D f _;have ak:=(G.alloc O _).grown f Xh (fun k d=>lI af d);have au:=hide ak;have ar:=hide D;clear ak f D;go_wp2;go_ret;refine⟨_,rfl,?_,aj.trans (au.mono O)⟩;have h9:=ov (base':=w) ar O;rw[aq] at h9;have e1:(ps++gL fr mn mi++[fe,fO un]).length=ps.length+6+2:=by simp[gL]
 have e2:(ps++gL fr mn mi++[fe,fO un]).map XJ=List.map XJ ps++[XJ cC,XJ (fO fr),XJ cO,XJ (jg mn),XJ dA,XJ (Txt.bE mi)]++[XJ fe,XJ (fO un)]:=by simp[gL]
 rw[e1,e2];exact h9
theorem CX(x:Xz)(d:J Xm)(f:B<=x)(h:d.length<=160):(x.alloc (XR (d.map XJ).toArray 9)).ownsRow B 9 1 (XI x d.length d.length) d.length (d.map XJ):=by refine⟨by simp,.inr ⟨x,d.length,(d.map XJ).toArray,rfl,f,heap_alloc_new x _,XS _,by unfold maxLen;omega,by simp,?_⟩⟩;exact YK Xc
theorem Iq(pc ev:N)(acc:J N)(fr mn mi ti un:N)(ps:J Xm)(f:wU pc ev acc ps)(w:Xz)(d:Env w):XD prog 300 #[kn pc ev acc fr mn mi ti un] w fun e w'=>WR w w' ps e:=by
 cases f with
 |daily ev acc e0 e1=>exact Rw ev acc fr mn mi ti un w d e0 e1
 |weekly ev acc e0 e1 hne hlen=>exact R9 ev acc fr mn mi ti un w d e0 e1 hne hlen
 |monthly ev acc e0 e1=>exact Sf ev acc fr mn mi ti un w d e0 e1
theorem CN{ev:N}{ps:J Xm}(d:wU pc ev acc ps):ps.length<=3:=by
 cases d <;> simp
theorem Iu(pc ev:N)(acc:J N)(fr mn mi ti un:N)(f:J Xm)(i:RW pc ev acc fr mn mi ti un f)(w:Xz)(h:Env w):XD prog 299 #[kn pc ev acc fr mn mi ti un] w fun e w'=>WR w w' f e:=by
 cases i with
 |mk ps es hp hen f0 f1 m0 m1 i0 i1 =>
  cases hen with
  |times _ _ t0 t1=>exact Ry ps pc ev acc fr mn mi ti un w h (CN hp) f0 f1 m0 m1 i0 i1 t0 t1 (fun x d=>Iq pc ev acc fr mn mi ti un ps hp x d)
  |til _ u0 u1=>exact Rz ps pc ev acc fr mn mi un w h (CN hp) f0 f1 m0 m1 i0 i1 u0 u1 (fun x d=>Iq pc ev acc fr mn mi 0 un ps hp x d)
theorem Iv{ev:N}{fr mn mi ti un:N}{d:J Xm}(f:RW pc ev acc fr mn mi ti un d):0<d.length/\d.length<=11:=by
 cases f with
 |mk ps es hp hen f0 f1 m0 m1 i0 i1 =>
  have i:=CN hp;have h:es.length=2:=by cases hen <;> rfl
  simp[gL,h];omega
theorem Qk(pc ev:N)(acc:J N)(fr mn mi ti un:N)(d:J Xm)(S:RW pc ev acc fr mn mi ti un d)(w:Xz)(he:Env w):XD prog 308 #[XM #[pc,ev,aI acc 0,aI acc 1,aI acc 2,aI acc 3,aI acc 4,aI acc 5,aI acc 6,fr,mn,mi,ti,un]] w fun e w'=>WR w w' ([fA]++d) e:=by
 obtain⟨D,ab,I,G,F⟩:=info_parts qm;obtain⟨P,ak⟩:=Iv S;have l:=fun x hx=>Iu pc ev acc fr mn mi ti un d S x hx;clear S;simp only[kn] at l;go_in;go_wp21;obtain⟨X,C⟩:∃ X,X=w.alloc (XR #[pc,ev,aI acc 0,aI acc 1,aI acc 2,aI acc 3,aI acc 4,aI acc 5,aI acc 6,fr,mn,mi,ti,un] 173):=⟨_,rfl⟩;rw[<- C];have ad:XC w w X:=by rw[C];exact aS
 have ag:X=w.heap.size+1:=by rw[C];simp
 clear C;obtain⟨Y,t⟩:∃ Y,Y=X.alloc (XR #[XJ ⟨#[101,120,112,97,110,100]⟩] 9):=⟨_,rfl⟩;rw[<- t];have r:XC w w Y:=by rw[t];exact ad.alloc O _
 have T:Y.ownsRow (w.heap.size+1) 9 1 (XI (U ⟨w.heap.size+1,0,Z⟩) 1 1) 1 ([fA].map XJ):=by have h:=CX (B:=w.heap.size+1) X [fA] O Xc;rw[ag] at h;rw[t];exact h
 have al:Y=w.heap.size+2:=by rw[t];simp;omega
 clear t;refine (l Y (he.later r)).mono ?_;rintro e w5 ⟨v2,rfl,aa,j⟩;obtain⟨g2,A,rfl,aq,ao,ac⟩:=vI aa P;have o:=nQ T j;have af:=r.trans (j.mono O);have an:=j.size;go_wp2_with (first
  |(at_builtin;refine wpList_append_own _ rfl _ _ 78 rfl (w.heap.size+1) 9 D (XJ ⟨#[]⟩) 1 16 underlying78 ab I G F rfl Xd _ _ _ rfl o (g2,0) d.length A (d.map XJ) rfl Xc ?c1 ?c2 ?c3 ?c4 ?c5 ?_))
 .exact ac
 .intro u hu;simp only[YN] at hu;obtain⟨x,_,rfl⟩:=hu;rfl
 .unfold maxLen;omega
 .omega
 .omega
 intro v8 w8 f i _;have ae:=af.grown i O (fun k hk=>by have:=lI o hk;omega);have aj:=hide ae;have ai:=hide f;go_wp2;go_ret;refine⟨_,rfl,?_,aj⟩;have h9:=ov (base':=w) ai O;have e1:(fA :: d).length=1+d.length:=by simp;omega
 rw[e1];exact h9
theorem Ql(n:Xm)(u:N)(pc ev:N)(acc:J N)(fr mn mi ti un:N)(o:J Xm)(hr:RW pc ev acc fr mn mi ti un o)(w:Xz)(he:Env w)(u0:0<=u)(u1:u<=9999999):XD prog 298 #[XM #[n,u,pc,ev,aI acc 0,aI acc 1,aI acc 2,aI acc 3,aI acc 4,aI acc 5,aI acc 6,fr,mn,mi,ti,un]] w fun e w'=>WR w w' ([eQ,n,Txt.bE u]++o) e:=by
 obtain⟨S,ag,ab,aa,T⟩:=info_parts qm;obtain⟨ac,au⟩:=Iv hr;have ad:=fun x hx=>Iu pc ev acc fr mn mi ti un o hr x hx;clear hr;simp only[kn] at ad;go_in;go_wp21;obtain⟨X,f⟩:∃ X,X=w.alloc (XR #[n,u,pc,ev,aI acc 0,aI acc 1,aI acc 2,aI acc 3,aI acc 4,aI acc 5,aI acc 6,fr,mn,mi,ti,un] 158):=⟨_,rfl⟩;rw[<- f];have ai:XC w w X:=by rw[f];exact aS
 have eX:=he.later ai;have P:w+1<=X.heap.size:=by rw[f];simp
 have l:10<=w.heap.size+1:=by have:=he.size;omega
 have x0:X.cell? (w,0)=U ↑n:=by rw[f];simp
 have x1:X.cell? (w,1)=U ↑u:=by rw[f];simp
 have x2:X.cell? (w,2)=U ↑pc:=by rw[f];simp
 have x3:X.cell? (w,3)=U ↑ev:=by rw[f];simp
 have x4:X.cell? (w,4)=U (XK (aI acc 0)):=by rw[f];simp
 have x5:X.cell? (w,5)=U (XK (aI acc 1)):=by rw[f];simp
 have x6:X.cell? (w,6)=U (XK (aI acc 2)):=by rw[f];simp
 have x7:X.cell? (w,7)=U (XK (aI acc 3)):=by rw[f];simp
 have x8:X.cell? (w,8)=U (XK (aI acc 4)):=by rw[f];simp
 have x9:X.cell? (w,9)=U (XK (aI acc 5)):=by rw[f];simp
 have F:X.cell? (w,10)=U (XK (aI acc 6)):=by rw[f];simp
 have D:X.cell? (w,11)=U ↑fr:=by rw[f];simp
 have C:X.cell? (w,12)=U ↑mn:=by rw[f];simp
 have A:X.cell? (w,13)=U ↑mi:=by rw[f];simp
 have t:X.cell? (w,14)=U ↑ti:=by rw[f];simp
 have r:X.cell? (w,15)=U ↑un:=by rw[f];simp
 have bX:=zr (w.heap.size+1) X;clear f he;go_region_held3 (fun w'=>XC (w.heap.size+1) X w'/\w'.cell? ⟨w.heap.size,0,Z⟩=U (XJ n)/\w'.cell? ⟨w.heap.size,1,Z⟩=U (V Y u)/\w'.cell? ⟨w.heap.size,2,Z⟩=U (V Y pc)/\w'.cell? ⟨w.heap.size,3,Z⟩=U (V Y ev)/\w'.cell? ⟨w.heap.size,4,Z⟩=U (XK (aI acc 0))/\w'.cell? ⟨w.heap.size,5,Z⟩=U (XK (aI acc 1))/\w'.cell? ⟨w.heap.size,6,Z⟩=U (XK (aI acc 2))/\w'.cell? ⟨w.heap.size,7,Z⟩=U (XK (aI acc 3))/\w'.cell? ⟨w.heap.size,8,Z⟩=U (XK (aI acc 4))/\w'.cell? ⟨w.heap.size,9,Z⟩=U (XK (aI acc 5))/\w'.cell? ⟨w.heap.size,10,Z⟩=U (XK (aI acc 6))/\w'.cell? ⟨w.heap.size,11,Z⟩=U (V Y fr)/\w'.cell? ⟨w.heap.size,12,Z⟩=U (V Y mn)/\w'.cell? ⟨w.heap.size,13,Z⟩=U (V Y mi)/\w'.cell? ⟨w.heap.size,14,Z⟩=U (V Y ti)/\w'.cell? ⟨w.heap.size,15,Z⟩=U (V Y un))
  (first
   |(go_split_ands;exact jh (jT P Xe j) (fun d=>⟨(d.cell (p:=(w,0)) Xc).trans x0,(d.cell (p:=(w,1)) Xc).trans x1,(d.cell (p:=(w,2)) Xc).trans x2,(d.cell (p:=(w,3)) Xc).trans x3,(d.cell (p:=(w,4)) Xc).trans x4,(d.cell (p:=(w,5)) Xc).trans x5,(d.cell (p:=(w,6)) Xc).trans x6,(d.cell (p:=(w,7)) Xc).trans x7,(d.cell (p:=(w,8)) Xc).trans x8,(d.cell (p:=(w,9)) Xc).trans x9,(d.cell (p:=(w,10)) Xc).trans F,(d.cell (p:=(w,11)) Xc).trans D,(d.cell (p:=(w,12)) Xc).trans C,(d.cell (p:=(w,13)) Xc).trans A,(d.cell (p:=(w,14)) Xc).trans t,(d.cell (p:=(w,15)) Xc).trans r⟩))
   |(go_split_ands;exact jh (jT P Xe aS) (fun d=>⟨(d.cell (p:=(w,0)) Xc).trans x0,(d.cell (p:=(w,1)) Xc).trans x1,(d.cell (p:=(w,2)) Xc).trans x2,(d.cell (p:=(w,3)) Xc).trans x3,(d.cell (p:=(w,4)) Xc).trans x4,(d.cell (p:=(w,5)) Xc).trans x5,(d.cell (p:=(w,6)) Xc).trans x6,(d.cell (p:=(w,7)) Xc).trans x7,(d.cell (p:=(w,8)) Xc).trans x8,(d.cell (p:=(w,9)) Xc).trans x9,(d.cell (p:=(w,10)) Xc).trans F,(d.cell (p:=(w,11)) Xc).trans D,(d.cell (p:=(w,12)) Xc).trans C,(d.cell (p:=(w,13)) Xc).trans A,(d.cell (p:=(w,14)) Xc).trans t,(d.cell (p:=(w,15)) Xc).trans r⟩))
   |(go_split_ands;exact jh (jT P Xe (ic _)) (fun d=>⟨(d.cell (p:=(w,0)) Xc).trans x0,(d.cell (p:=(w,1)) Xc).trans x1,(d.cell (p:=(w,2)) Xc).trans x2,(d.cell (p:=(w,3)) Xc).trans x3,(d.cell (p:=(w,4)) Xc).trans x4,(d.cell (p:=(w,5)) Xc).trans x5,(d.cell (p:=(w,6)) Xc).trans x6,(d.cell (p:=(w,7)) Xc).trans x7,(d.cell (p:=(w,8)) Xc).trans x8,(d.cell (p:=(w,9)) Xc).trans x9,(d.cell (p:=(w,10)) Xc).trans F,(d.cell (p:=(w,11)) Xc).trans D,(d.cell (p:=(w,12)) Xc).trans C,(d.cell (p:=(w,13)) Xc).trans A,(d.cell (p:=(w,14)) Xc).trans t,(d.cell (p:=(w,15)) Xc).trans r⟩))
   |(go_split_ands;exact jh (Below.grown Xe i (by (try simp);omega) (fun k d=>lI G d)) (fun d=>⟨(d.cell (p:=(w,0)) Xc).trans x0,(d.cell (p:=(w,1)) Xc).trans x1,(d.cell (p:=(w,2)) Xc).trans x2,(d.cell (p:=(w,3)) Xc).trans x3,(d.cell (p:=(w,4)) Xc).trans x4,(d.cell (p:=(w,5)) Xc).trans x5,(d.cell (p:=(w,6)) Xc).trans x6,(d.cell (p:=(w,7)) Xc).trans x7,(d.cell (p:=(w,8)) Xc).trans x8,(d.cell (p:=(w,9)) Xc).trans x9,(d.cell (p:=(w,10)) Xc).trans F,(d.cell (p:=(w,11)) Xc).trans D,(d.cell (p:=(w,12)) Xc).trans C,(d.cell (p:=(w,13)) Xc).trans A,(d.cell (p:=(w,14)) Xc).trans t,(d.cell (p:=(w,15)) Xc).trans r⟩)))
  (first
   |(go_at_call 289;go_split_ands;refine aK (nu u _ (eX.jk l Xe) O O) fun w4 j=>?_;have aw:=pG (B:=w.heap.size+1) (x:=X) Xe j)
   |(go_at_call 299;go_split_ands;refine (ad _ (eX.jk l Xe)).mono ?_;rintro e w5 ⟨v2,rfl,ae,j⟩;obtain⟨g2,I,rfl,ay,ax,al⟩:=vI ae ac;have av:=pG (B:=w.heap.size+1) (x:=X) Xe j)
   |(have G:=nQ (CX (B:=w.heap.size+1) w4 [eQ,n,Txt.bE u] O Xc) j;(refine step_append_lies _ (by rfl) _ _ _ (by rfl) (w.heap.size+1) 9 S _ 1 16 underlying78 ag ab aa T rfl O (XI w4 3 3) 3 ([eQ,n,Txt.bE u].map XJ) (by rfl) G (g2,0) o.length I (o.map XJ) (by rfl) Xc al (by intro u hu;simp only[YN] at hu;obtain⟨x,_,rfl⟩:=hu;rfl) O Xj O (by (try simp);omega) w5 Xc ?_;intro g cap w6 h i an af))
   |(
    have G:=CX (B:=w.heap.size+1) w5 [eQ,n,Txt.bE u] O Xc;obtain⟨g3,ar,e3,_,_,ak⟩:=vI (ae.alloc (XR ([eQ,n,Txt.bE u].map XJ).toArray 9)) ac
    cases e3;(refine step_append_lies _ (by rfl) _ _ _ (by rfl) (w.heap.size+1) 9 S _ 1 16 underlying78 ag ab aa T rfl O (XI (U ⟨w5.heap.size,0,Z⟩) 3 3) 3 ([eQ,n,Txt.bE u].map XJ) (by rfl) G ⟨g2,0,Z⟩ o.length I (o.map XJ) (by rfl) Xc ak (by intro u hu;simp only[YN] at hu;obtain⟨x,_,rfl⟩:=hu;rfl) O Xj O (by (try simp);omega) (w5.heap.size+1) Xc ?_;intro g cap w6 h i an af)))
 all_goals
  go_split_ands;have aj:XC (w.heap.size+1) X w6:=Xe;have aq:=hide aj;have ao:=hide h;clear aj h;go_wp2;go_ret;refine⟨_,rfl,?_,ai.trans (aq.mono O)⟩;have h9:=ov (base':=w) ao O;have e1:(eQ :: n :: Txt.bE u :: o).length=3+o.length:=by simp;omega
  rw[e1];exact h9
theorem nP (T K : M) (x : XA) (xs : J Xm) (w : Xz) (he : Env w) (hm : ∀ w : Xz, (method 468 T x "bookings/lines.plainWords").run prog w = .ok (K, x) w) (hk : ∀ w : Xz, (callFunc K #[x]).run prog w = .ok (.enter K #[x]) w)
  (hc:∀ w:Xz,Env w->XD prog K #[x] w fun e w'=>WR w w' xs e) (h0:0<xs.length) (h1:xs.length<=20) (hlen:(Lib.join (xs.map (·.data.toList)) [32]).length<=30000):
  XD prog 36 #[XN T x] w fun e w'=>e=XQ (jn xs)/\XC w w w':=by
 have HE:=hide he;have HC:=hide hc;have HLEN:=hide hlen;clear he hc hlen;go_in;go_wp21;refine (aO HC w (aO HE)).mono ?_;rintro e w1 ⟨v,rfl,ho,hb1⟩;obtain⟨a,c,g,rfl,hrow⟩:=xI ho rfl;obtain rfl:=hrow.at_ h0;have HROW:=hide hrow;have hcap:xs.length<=c:=by
  rcases ho.2 with ⟨h,_⟩|⟨g',cap,cur,hv,_,_,hc,_⟩
  .cases h
  .cases hv;exact hc
 have hgl:=XV _ (g,0) (hrow.cells 0 h0);clear ho hrow;go_wp21;refine (strings_Join g 0 c xs ⟨#[32]⟩ w1 (fun j x hx=>?_) hgl O hcap (XU (aO HLEN) O)).mono ?_
 .let⟨hj,e⟩:=List.getElem?_eq_some_iff.1 hx;have:=(aO HROW).cells j hj;rw[e] at this;rw[Nat.zero_add];exact this
 rintro e w' ⟨rfl,hbj⟩;have hbe:=iY hb1 hbj;go_wp2;go_ret;exact⟨rfl,hbe⟩
theorem Qt(d:J Xm):(Lib.join (d.map (·.data.toList)) [32]).length=(jn d).size:=by rw[<- Txt.iL];rfl
theorem Rx(v:XA)(j:J Xm)(l:PW v j)(w:Xz)(d:Env w)(i:0<j.length)(h:j.length<=20)(f:(jn j).size<=30000):XD prog 36 #[v] w fun e w'=>e=XQ (jn j)/\XC w w w':=by
 rw[<- Qt] at f
 cases l with
 |bH n u u0 u1=>exact nP 143 288 _ _ w d (fun _=>by kernel_rfl) (fun _=>by kernel_rfl) (fun w d=>Qh n u w d u0 u1) i h f
 |book n u a b u0 u1 a0 a1 b0 b1=>exact nP 148 290 _ _ w d (fun _=>by kernel_rfl) (fun _=>by kernel_rfl) (fun w d=>PM n u a b w d u0 u1 a0 a1 b0 b1) i h f
 |hold n u a b m u0 u1 a0 a1 b0 b1 m0 m1=>exact nP 150 296 _ _ w d (fun _=>by kernel_rfl) (fun _=>by kernel_rfl) (fun w d=>PO n u a b m w d u0 u1 a0 a1 b0 b1 m0 m1) i h f
 |wait n u a b m u0 u1 a0 a1 b0 b1 m0 m1=>exact nP 151 297 _ _ w d (fun _=>by kernel_rfl) (fun _=>by kernel_rfl) (fun w d=>PS n u a b m w d u0 u1 a0 a1 b0 b1 m0 m1) i h f
 |series n u pc ev acc fr mn mi ti un j u0 u1 hr=>exact nP 158 298 _ _ w d (fun _=>by kernel_rfl) (fun _=>by kernel_rfl) (fun w d=>Ql n u pc ev acc fr mn mi ti un j hr w d u0 u1) i h f
 |bL u u0 u1=>exact nP 160 302 _ _ w d (fun _=>by kernel_rfl) (fun _=>by kernel_rfl) (fun w d=>QV u w d u0 u1) i h f
 |cancel u u0 u1=>exact nP 161 303 _ _ w d (fun _=>by kernel_rfl) (fun _=>by kernel_rfl) (fun w d=>Qx u w d u0 u1) i h f
 |list0 n a b=>exact nP 163 304 _ _ w d (fun _=>by kernel_rfl) (fun _=>by kernel_rfl) (fun w d=>Qc n a b w) i h f
 |list1 n a b a0 a1 b0 b1=>exact nP 163 304 _ _ w d (fun _=>by kernel_rfl) (fun _=>by kernel_rfl) (fun w d=>Qd n a b w d a0 a1 b0 b1) i h f
 |waiting=>exact nP 166 305 _ _ w d (fun _=>by kernel_rfl) (fun _=>by kernel_rfl) (fun w d=>QW w) i h f
 |ef n a b a0 a1 b0 b1=>exact nP 169 306 _ _ w d (fun _=>by kernel_rfl) (fun _=>by kernel_rfl) (fun w d=>PP n a b w d a0 a1 b0 b1) i h f
 |find n u m a b u0 u1 m0 m1 a0 a1 b0 b1=>exact nP 171 307 _ _ w d (fun _=>by kernel_rfl) (fun _=>by kernel_rfl) (fun w d=>PN n u m a b w d u0 u1 m0 m1 a0 a1 b0 b1) i h f
 |expand pc ev acc fr mn mi ti un j hr=>exact nP 173 308 _ _ w d (fun _=>by kernel_rfl) (fun _=>by kernel_rfl) (fun w d=>Qk pc ev acc fr mn mi ti un j hr w d) i h f
 |tick u u0 u1=>exact nP 175 309 _ _ w d (fun _=>by kernel_rfl) (fun _=>by kernel_rfl) (fun w d=>PQ u w d u0 u1) i h f
 |clock=>exact nP 176 310 _ _ w d (fun _=>by kernel_rfl) (fun _=>by kernel_rfl) (fun w d=>Qb w) i h f
theorem Ru(w:Xz)(o:Env w):XD prog 8 #[] w fun e w'=>∃ p d l,e=XQ (XH (U ⟨p,0,Z⟩))/\BD w' p d jz pI l/\XC w w w'/\(∀ b,b<w.heap.size->l b=Z)/\w<=p:=by
 have C:=aB (b5o w);have A:=aB o;have t:=o.size;clear o;go_in;go_wp2_with (first
  |(go_at_call 17;refine C.mono ?_;rintro e f ⟨v,rfl,rfl,i,j⟩))
 have u:Hid (BD (f.alloc (XR #[XH (U ⟨w.heap.size+2,0,Z⟩)] 67)) f (w.heap.size+2) jz pI (sy w)/\XC w w (f.alloc (XR #[XH (U ⟨w.heap.size+2,0,Z⟩)] 67))/\(∀ b,b<w.heap.size->sy w.heap.size b=Z)/\w<=f.heap.size):=by
  have k:XC f.heap.size f (f.alloc (XR #[XH (U ⟨w.heap.size+2,0,Z⟩)] 67)):=(zr _ _).alloc (zq _) _;have h:∀ b,b<w.heap.size->sy w.heap.size b=Z:=fun b r=>by unfold sy;rw[Xs O,Xs O,Xs O]
  exact⟨⟨dH f _,i.dk.none aJ,⟨i.dk.later k,i.of,i.wl,i.hl,i.inv⟩,(A.out.later j).later k,fun b r=>h b O⟩,j.trans (k.mono j.size),h,j.size⟩
 clear i j;go_wp21;exact bodyPost_ret (v:=f) (by simp[results,results8,go_sem]) rfl ⟨_,_,_,rfl,u⟩
namespace aA
theorem CY(p:aQ->Xp):∀ l:J aQ,(l.filter p).length+(l.filter fun e=>!p e).length=l.length
 |[]=>rfl
 |a :: r=>by
  have ih:=CY p r;simp only[List.filter_cons]
  cases p a <;> simp <;> omega
theorem I4(ts:J (Xm × N)):∀ (k:M)(es:J aQ)(now tq:N),(gd ts k es now tq).2.1.length<=es.length
 |0,es,_,_=>by simp[gd]
 |k+1,es,now,tq=>by simp only[gd];split;have h:=I4 ts k (dS ts (es.filter fun e=>!cA (eL tq es) e)).1 (eL tq es) tq;have f:=yz ts (es.filter fun e=>!cA (eL tq es) e);have d:=CY (cA (eL tq es)) es;simp only[Yx,Zd];omega;simp
structure zP(s:St)(r:bS):Prop where
 en:r.entries.length<=60
 es:∀ e∈r.entries,e∈s.es
 da:r.days.length<=60
 ed:r.ended.length<=60
theorem zP.plain{s:St}{r:bS}(h:r.entries=[])(f:r.days=[])(d:r.ended=[]):zP s r:=⟨by grind,by grind,by grind,by grind⟩
theorem Sb{s:St}(h:Inv s){l:jb}(o:ke l):zP s (aX s l).2:=by
 cases l with
 |bH name u=>simp only[aX];split <;> first|exact .plain rfl rfl rfl|(split <;> exact .plain rfl rfl rfl)
 |enter k name u fr til long=>simp only[aX];split <;> exact .plain rfl rfl rfl
 |series name u r=>simp only[aX];split <;> exact .plain rfl rfl rfl
 |bL id =>
  simp only[aX];split
  .exact .plain rfl rfl rfl
  .split <;> exact .plain rfl rfl rfl
 |cancel id=>simp only[aX];split <;> exact .plain rfl rfl rfl
 |list name fr til =>
  simp only[aX];split
  .exact .plain rfl rfl rfl
  .split
   .exact .plain rfl rfl rfl
   .have j:∀ e∈nC name fr til s.es,e∈s.es:=fun e i=>(ZW.1 (Br.1 i)).1
    have d:(nC name fr til s.es).length<=60:=by have:=Dm h;have e:=(M7 (a:=fr) (b:=til) (s.es.filter (mS name fr til))).length_eq;have f:=Zi (mS name fr til) s.es;unfold nC;omega
    exact⟨d,j,by simp[bS.num],by simp[bS.num]⟩
 |waiting=>exact⟨XU (Zi ..) (Dm h),fun e i=>(ZW.1 i).1,by simp[aX,bS.num],by simp[aX,bS.num]⟩
 |ef name fr til=>simp only[aX];split <;> first|exact .plain rfl rfl rfl|(split <;> exact .plain rfl rfl rfl)
 |find name u long fr til=>simp only[aX];split <;> first|exact .plain rfl rfl rfl|(split <;> exact .plain rfl rfl rfl)
 |expand r =>
  simp only[aX];split
  .exact .plain rfl rfl rfl
  .rename_i c
   have t:=o;have:=((Rd.sG t).2 O).2.2.1;exact⟨by simp[bS.num],by simp[bS.num],by grind,by simp[bS.num]⟩
 |tick n =>simp only[aX];split;exact .plain rfl rfl rfl;have C:=I4 s.ts (s.es.length+1) s.es s.now (s.now+n);have A:=Dm h;exact⟨by simp[bS.num],by simp[bS.num],by simp[bS.num],by grind⟩
 |clock=>exact .plain rfl rfl rfl
theorem Se{s:St}(h:Inv s){l:jb}(f:ke l):zP s (jE s l).2/\(jE s l).2.granted.length<=100000:=by
 have d:=Sb h f;have o:=Dq h.bA l;unfold jE;split
 .exact⟨d,O⟩
 .refine⟨⟨d.en,d.es,d.da,d.ed⟩,?_⟩;have j:=Ax (aX s l).1.ts (aX s l).1.es;have i:=kS (DU h f);simp only[Yx];omega
end aA
end Go.Proofs.YtolaacmheeaadaaGreatDoor
namespace Go.Proofs.YtolaacmheeaadaaGreatDoor.Laid
def val:DataW Unit->XA
 |.lit (.int k n)=>V k n
 |.lit (.string b)=>XJ ⟨b.toArray⟩
 |_=>XK Xx
def row:DataW Unit->J XA
 |.agg l=>l.map val
 |_=>[]
def rows:DataW Unit->J XA
 |.agg l=>l.flatMap row
 |_=>[]
def text:DataW Unit->XA
 |.iface _ (.ptr (.agg [d]))=>val d
 |_=>XK Xx
def put(l:J XA):Obj->Obj
 |.cells _ t frozen=>XR l.toArray t frozen
 |o=>o
def Dl(w:Xz):Xz :={ w with heap:=(((((((((w.heap.modify 0 (put (row Rows.laid_bookings_calendar_monthDays))).modify 1 (put (row Rows.laid_internal_strconv_uint64pow10))).modify 2 (put [XN 327 w])).modify 3 (put [XN 327 (XH (U ⟨w.heap.size+1,0,Z⟩))])).modify 5 (put (row Rows.laid_bookings_lines_weekdays))).modify 6 (put (row Rows.laid_math_bits_deBruijn32tab))).modify 7 (put (row Rows.laid_math_bits_deBruijn64tab))).modify 8 (put (row Rows.laid_unicode_utf8_first))).modify 9 (put (rows Rows.laid_unicode_utf8_acceptRanges))).push (XR #[text Rows.laid_strconv_ErrSyntax] 329) |>.push (XR #[text Rows.laid_strconv_ErrRange] 329) }
end Go.Proofs.YtolaacmheeaadaaGreatDoor.Laid
namespace Go.Proofs.YtolaacmheeaadaaGreatDoor.datesLaw
open Go.ChangeShapes Go.WideShapes Go.ChangeAt Go.RowKit
theorem own:ownKnob prog.godebug=Z:=Xg
theorem TQ:laidOutB prog=Xy:=Xg
theorem UR:prog.cellsOf 3=1:=Xg
theorem DQ:prog.cellsOf 9=1:=Xg
theorem Ct:prog.cellsOf 37=6:=Xg
theorem qN{α:Type}{l:J α}(h:l.length=6):∃ a b c d e f,l=[a,b,c,d,e,f]:=by
 match l,h with
 |[a,b,c,d,e,f],_=>exact⟨a,b,c,d,e,f,rfl⟩
end Go.Proofs.YtolaacmheeaadaaGreatDoor.datesLaw
namespace Go.Proofs.YtolaacmheeaadaaGreatDoor.EnvLaid
open Go.ChangeShapes Go.WideShapes Go.ChangeAt Go.RowKit
theorem LD{P:Program}{name:String}{k:IntKind}{zs:J N}{t e:TypeId}
  (j:P.globalNamed name=U g) (d:(P.globals[g]?).map (·.type)=U t) (ht:P.underlying t=U (.array n e)) (l:P.underlying e=U (.int k)) (i:P.cellsOf e=1) (f:P.cellsOf t=n)
  (h:Lib.VarReads P W name (Lib.tabData k zs)):Lib.TabIs P W name k zs:=by
 let⟨g',t',cs,fuel,p,hg',ht',hvar,hd⟩:=h;obtain rfl:=Zn (j.symm.trans hg');obtain rfl:=Zn (d.symm.trans ht');unfold Lib.TabIs;rw[hvar,<- Lib.cells_of_tab ht l i f hd]
theorem We{P:Program}{name:String}{zs:J (J UInt8)}{t e:TypeId}
  (u:P.globalNamed name=U g) (l:(P.globals[g]?).map (·.type)=U t) (ht:P.underlying t=U (.array n e)) (C:P.underlying e=U .string) (o:P.cellsOf e=1)
  (h:Lib.VarReads P W name (.agg (zs.map fun z=>.lit (.string z)))) (i:M) (z:J UInt8) (A:zs[i]?=U z):W.cell? (g,i)=U (XJ ⟨z.toArray⟩):=by
 let⟨g',t',cs,fuel,p,hg',ht',hvar,hd⟩:=h;obtain rfl:=Zn (u.symm.trans hg');obtain rfl:=Zn (l.symm.trans ht');let⟨xs,m,_,hx,_,hxl,hall⟩:=DataW.trod_array ht hd;have j:zs.map (fun z=>(DataW.lit (.string z):DataW Unit))=xs.map (·.1):=Xi;have r:zs.length=xs.length:=by have:=congrArg List.length j;simpa using this
 have G:i<zs.length:=(List.getElem?_eq_some_iff.1 A).1;have d:xs[i]?=U xs[i]:=Zu O;have f:=hall i O;rw[d,o] at f;let⟨s,hs1,hs2,_⟩:=DataW.trod_string C f;have S:(xs.map (·.1))[i]?=U (DataW.lit (.string z):DataW Unit):=Xi;have I:(xs.map (·.1))[i]?=U (DataW.lit (.string s.data.toList):DataW Unit):=by simp[d,hs2]
 have F:z=s.data.toList:=Xi;have D:cs[i]?=U ↑s:=by have:=congrArg (·[0]?) hs1;simpa[List.getElem?_take,List.getElem?_drop] using this
 rw[World.var?_cell u hvar i,D,F]
theorem UG:(prog.globals[1]?).map (·.type)=U 298:=Xg
theorem UT:prog.cellsOf 298=20:=Xg
theorem Uq:prog.cellsOf 255=1:=Xg
theorem Ti : prog.globalNamed "bookings/lines.weekdays" = U 5 := by kernel_rfl
theorem V4:(prog.globals[5]?).map (·.type)=U 331:=Xg
theorem oU : prog.globalNamed "bookings/calendar.monthDays" = U 0 := by kernel_rfl
theorem UF:(prog.globals[0]?).map (·.type)=U 138:=Xg
theorem US:prog.cellsOf 138=12:=Xg
theorem Tr:prog.cellsOf 3=1:=Xg
theorem DQ:prog.cellsOf 9=1:=Xg
theorem Th {W: Xz} {l: J (String × DataW Unit)} (hM : laidMet prog l W) (hS : W.ShapedOpen prog) (m1 : ("bookings/calendar.monthDays", Rows.laid_bookings_calendar_monthDays) ∈ l) (m2 : ("internal/strconv.uint64pow10", Rows.laid_internal_strconv_uint64pow10) ∈ l) (m3 : ("bookings/lines.weekdays", Rows.laid_bookings_lines_weekdays) ∈ l) : Env W := by
 have ht : Lib.VarReads prog W "bookings/calendar.monthDays" (Lib.tabData Y [31, 28, 31, 30, 31, 30, 31, 31, 30, 31, 30, 31]) := Lib.laidMet.reads hM (d := Rows.laid_bookings_calendar_monthDays) m1;have hp : Lib.VarReads prog W "internal/strconv.uint64pow10" (Lib.tabData .u64 Lib.pow10Tab) := Lib.laidMet.reads hM (d := Rows.laid_internal_strconv_uint64pow10) m2;have hd : Lib.VarReads prog W "bookings/lines.weekdays" (.agg ([[109, 111], [116, 117], [119, 101], [116, 104], [102, 114], [115, 97], [115, 117]].map fun z => .lit (.string z))) := Lib.laidMet.reads hM (d := Rows.laid_bookings_lines_weekdays) m3;have day:=fun i z hz=>We Ti V4 underlying331 underlying9 DQ hd i z hz;have tb:=LD oU UF underlying138 underlying3 Tr US ht;have hsz:10<=W.heap.size:=by have h0:(((begin prog (fun _ _=>0) default).world.heap[9]?).bind Obj.row?).isSome=Xy:=Xg;obtain⟨⟨zero,t⟩,h1⟩:=Option.isSome_iff_exists.1 h0;obtain⟨cs,hh,_⟩:=hS.1 9 zero t (of_decide_eq_true Xg) h1;exact (Array.getElem?_eq_some_iff.1 hh).1
 exact⟨⟨tb.cell oU 0 Xd,tb.cell oU 1 Xd,tb.cell oU 2 Xd,tb.cell oU 3 Xd,tb.cell oU 4 Xd,tb.cell oU 5 Xd,tb.cell oU 6 Xd,tb.cell oU 7 Xd,tb.cell oU 8 Xd,tb.cell oU 9 Xd,tb.cell oU 10 Xd,tb.cell oU 11 Xd⟩,cell_of_shapedOpen_int (zero:=#[V Y 0]) (t:=3) hS (of_decide_eq_true Xg) Xg rfl Xg Xg underlying3,
  LD xS UG underlying298 underlying255 Uq UT hp,hsz,
  day 0 _ rfl,day 1 _ rfl,day 2 _ rfl,day 3 _ rfl,day 4 _ rfl,day 5 _ rfl,day 6 _ rfl⟩
end Go.Proofs.YtolaacmheeaadaaGreatDoor.EnvLaid
namespace Go.Proofs.YtolaacmheeaadaaGreatDoor
open Go.RowKit
def cW:J Xm:=[cC,fY,cO,iq,dA,cD]
def mZ:J Xm:=[fZ,fS]
def oN:J Xm:=[fU,fS,kB]
def pv:J Xm:=[gg,fS]
def lF:J Xm:=[eV,fS]
def qg:J Xm:=[fe,fY]
def jR:J (J Xm):=[mZ,oN,pv]
def ends:J (J Xm):=[lF,qg]
def kG(H:J Xm):J (J Xm):=jR.flatMap fun K=>ends.map fun E=>H++K++cW++E
def lf:J Xm:=[eQ,bF,bY]
def oe:J Xm:=[fA]
def fV:J (J Xm):=[[ix,bF,bY],[iO,bF,bY,aU,aU],[iF,bF,bY,aU,aU,cD],[iG,bF,bY,aU,aU,cD],[iU,gT],[iR,gT],[dC,bF],[dC,bF,aU,aU],[iT],[iu,bF,aU,aU],[ir,bF,bY,cD,aU,aU],[ja,cD],[iN]]++kG lf++kG oe
theorem GW:px=fV:=Xf
theorem GY:∀ p∈fV,p≠[]:=Xf
def gk(k:Xm)(p:J Xm):Xp:=bG (p.headD ByteArray.empty) k
theorem Cv(h:bP ws 0 Xx k=Xy):∃ t,ws=k :: t:=by
 rw[qi] at h;let⟨_,h1,h2⟩:=oQ h;have e:=qR h2;match ws,h1 with
 |a :: t,_=>exact⟨t,by grind⟩
theorem IP{t:J Xm}(h:Txt.aC s=k :: t):kH s=scan (fV.filter (gk k)) (Txt.aC s) 0:=by
 unfold kH;rw[GW,C0 _ (gk k) fV 0];intro p i f;have d:=GY p i;refine⟨?_,d⟩;match p,d,f with
 |a :: p',_,f =>have e:bG a k=Xx:=f;rw[h,pre,e];rfl
theorem fp(h:bP ws 0 Xx k=Xy)(d:fl k=Xy)(p:J Xm):aP ws (p.map bG) (1,Xx)=aP ws ((k :: p).map bG) (0,Xx):=by
 have e:gG ws (bG k) (0,Xx)=(1,Xx):=by let⟨_,h1,h2⟩:=oQ (qi ws 0 Xx k ▸ h);rw[jH k d];exact Jp h1 h2
 show _=aP ws (p.map bG) (gG ws (bG k) (0,Xx));rw[e]
theorem jI(h:aP ws (q.map bG) (0,Xx)=st):Sum [q] ws st q:=by
 let⟨n,b⟩:=st;have f:=qk h;have one:∀ p∈[q],p=q:=fun p f=>List.mem_singleton.1 f;refine⟨List.mem_singleton.2 rfl,fun p d=>by grind,f,fun j p d e=>?_,fun j=>⟨?_,fun p d i=>Xu (one p d) i⟩⟩
 .cases j
  rw[one p d] at e;have:=xy h;omega
 .cases j
  rw[f];exact sZ h
theorem xE:∀ (Q R ws:J Xm),pre Q ws<=pre (Q++R) ws
 |[],_,_=>by simp[pre]
 |_ :: _,_,[]=>by simp[pre]
 |s :: Q,R,w :: ws=>by have:=xE Q R ws;simp only[Yj,pre];split <;> omega
theorem Cl(h:aP ws ([dC,bF].map bG) (0,Xx)=st)(o:dN ws.length st.1 st.2=Xx):Sum [[dC,bF],[dC,bF,aU,aU]] ws st [dC,bF]:=by
 let⟨n,b⟩:=st;have f:=qk h;have u:=(uA [dC,bF,aU,aU] ws).2;have r:pre [dC,bF,aU,aU] ws<=n:=by
  cases b
  .have:¬ n<ws.length:=by simpa[dN] using o
   omega
  .exact Nat.le_of_eq (GZ [aU,aU] h)
 have t:n<=2:=by have:=(uA [dC,bF] ws).1;rw[f] at this;exact this
 refine⟨by simp,?_,f,?_,?_⟩
 .intro p d;rcases X7.1 d with rfl|d
  .exact Nat.le_of_eq f
  .rw[List.mem_singleton.1 d];exact r
 .intro j p d e
  cases j;have l:=xy h;rcases X7.1 d with rfl|d
  .rw[f] at e;exact Xu e.1 Xi
  .rw[List.mem_singleton.1 d] at e;exact Xu e.1 Xi
 .intro j
  cases j;refine⟨f.trans (sZ h),fun p d i e=>?_⟩;rcases X7.1 d with rfl|d
  .exact i rfl
  .rw[List.mem_singleton.1 d] at e;exact Xu e.1 Xi
theorem Cm{f:M × Xp}(h:aP ws ([dC,bF].map bG) (0,Xx)=st)(A:dN ws.length st.1 st.2=Xy)(t:aP ws ([dC,bF,aU,aU].map bG) (0,Xx)=f):Sum [[dC,bF],[dC,bF,aU,aU]] ws f [dC,bF,aU,aU]:=by
 let⟨n,b⟩:=st;let⟨n',b'⟩:=f;have C:=qk h;have i:=qk t;have j:=sI A;have o:pre [dC,bF] ws<=pre [dC,bF,aU,aU] ws:=xE [dC,bF] [aU,aU] ws;refine⟨by simp,?_,i,?_,?_⟩
 .intro p d;rcases X7.1 d with rfl|d
  .show _<=n';omega
  .rw[List.mem_singleton.1 d];exact Nat.le_of_eq i
 .intro r p d e
  cases r;have u:n'<4:=xy t;rcases X7.1 d with rfl|d
  .have:n<ws.length:=j;omega
  .rw[List.mem_singleton.1 d] at e;have D:pre [dC,bF,aU,aU] ws=4:=e.1;omega
 .intro r
  cases r;refine⟨i.trans (sZ t),fun p d l e=>?_⟩;rcases X7.1 d with rfl|d
  .have:n<ws.length:=j;omega
  .exact l (List.mem_singleton.1 d)
theorem Ci(h:p∈kG H):∃ K∈jR,∃ E∈ends,p=H++K++cW++E:=by unfold kG at h;simp only[List.mem_flatMap,YN] at h;obtain⟨K,d,E,f,rfl⟩:=h;exact⟨K,d,E,f,rfl⟩
theorem Cd(d:K∈jR)(f:E∈ends):H++K++cW++E∈kG H:=by unfold kG;simp only[List.mem_flatMap,YN];exact⟨K,d,E,f,rfl⟩
theorem Pf(h:K∈jR):∃ K',K=K.headD ByteArray.empty :: K':=by
 simp only[jR,X7,List.not_mem_nil,or_false] at h;rcases h with rfl|rfl|rfl
 .exact⟨[fS],rfl⟩
 .exact⟨[fS,kB],rfl⟩
 .exact⟨[fS],rfl⟩
theorem OB(h:E∈ends):∃ E',E=E.headD ByteArray.empty :: E':=by
 simp only[ends,X7,List.not_mem_nil,or_false] at h;rcases h with rfl|rfl
 .exact⟨[fS],rfl⟩
 .exact⟨[fY],rfl⟩
theorem Cg(h:K∈jR)(d:aP ws (H.map bG) (0,Xx)=(n,Xx))(f:fQ ws n Xx (bG (K.headD ByteArray.empty))=Xx):pre (H++K++cW++E) ws=n/\n<(H++K++cW++E).length:=by let⟨K',e⟩:=Pf h;have j:=sZ d;have i:H++K++cW++E=H++K.headD ByteArray.empty :: (K'++cW++E):=Xi;rw[i];exact⟨GG _ d f,by grind⟩
theorem GF(h:E∈ends)(d:aP ws (Q.map bG) (0,Xx)=(n,Xx))(f:fQ ws n Xx (bG (E.headD ByteArray.empty))=Xx):pre (Q++E) ws=n/\n<(Q++E).length:=by let⟨E',e⟩:=OB h;have i:=sZ d;rw[e];exact⟨GG _ d f,by grind⟩
theorem GA(d:aP ws (Q.map bG) (0,Xx)=(n,Xy)):pre (Q++E) ws=n/\n<(Q++E).length:=by have:=xy d;exact⟨GZ _ d,by grind⟩
theorem GV(hK:K∈jR)(hE:E∈ends)(F:aP ws (H.map bG) (0,Xx)=(n,Xx))
  (hk:∀ A∈jR,A≠K->fQ ws n Xx (bG (A.headD ByteArray.empty))=Xx) (G:aP ws ((H++K++cW).map bG) (0,Xx)=(m,Xx))
  (he:∀ j∈ends,j≠E->fQ ws m Xx (bG (j.headD ByteArray.empty))=Xx) (i:aP ws ((H++K++cW++E).map bG) (0,Xx)=st):Sum (kG H) ws st (H++K++cW++E):=by
 let⟨l,b⟩:=st;have o:=qk i;have T:n<=l:=by have u:=xE H (K++cW++E) ws;rw[qk F,<- Y8,<- Y8,o] at u;exact u
 have X:m<=l:=by have u:=xE (H++K++cW) E ws;rw[qk G,o] at u;exact u
 have f:∀ p∈kG H,p=H++K++cW++E\/(pre p ws<=l/\pre p ws<p.length):=by
  intro p d;obtain⟨A,r,j,t,rfl⟩:=Ci d;by_cases S:A=K
  .subst S
   by_cases P:j=E
   .subst P;exact .inl rfl
   .let⟨q1,q2⟩:=GF t G (he j t P);exact .inr ⟨O,O⟩
  .let⟨q1,q2⟩:=Cg (E:=j) r F (hk A r S);exact .inr ⟨O,O⟩
 refine⟨Cd hK hE,fun p d=>?_,o,fun D p d e=>?_,fun D=>⟨?_,fun p d C e=>?_⟩⟩
 .rcases f p d with rfl|h
  .exact Nat.le_of_eq o
  .exact h.1
 .cases D
  have I:=xy i;rcases f p d with rfl|h
  .omega
  .omega
 .cases D;exact o.trans (sZ i)
 .rcases f p d with h|h
  .exact C h
  .omega
theorem Pb(P:K∈jR)(t:aP ws (H.map bG) (0,Xx)=(n,Xx))
  (F:∀ l∈jR,l≠K->fQ ws n Xx (bG (l.headD ByteArray.empty))=Xx) (r:aP ws ((H++K++cW).map bG) (0,Xx)=(m,b))
  (G:∀ h∈ends,fQ ws m b (bG (h.headD ByteArray.empty))=Xx):Sum (kG H) ws (m,Xy) (H++K++cW++lF):=by
 have u:lF∈ends:=by simp[ends]
 have D:n<=m:=by have A:=xE H (K++cW) ws;rw[qk t,<- Y8,qk r] at A;exact A
 have i:∀ h∈ends,pre (H++K++cW++h) ws=m/\m<(H++K++cW++h).length:=by
  intro h f
  cases b
  .exact GF f r (G h f)
  .exact GA r
 have o:∀ p∈kG H,pre p ws<=m/\pre p ws<p.length:=by intro p d;obtain⟨l,j,h,f,rfl⟩:=Ci d;by_cases C:l=K;subst C;let⟨q1,q2⟩:=i h f;exact⟨O,O⟩;let⟨q1,q2⟩:=Cg (E:=h) j t (F l j C);exact⟨O,O⟩
 exact⟨Cd P u,fun p d=>(o p d).1,(i lF u).1,fun _ p d e=>by grind,fun I=>Xu I Xc⟩
theorem Po(o:aP ws (H.map bG) (0,Xx)=(n,b))(u:∀ h∈jR,fQ ws n b (bG (h.headD ByteArray.empty))=Xx):Sum (kG H) ws (n,Xy) (H++mZ++cW++lF):=by
 have r:mZ∈jR:=by simp[jR]
 have C:lF∈ends:=by simp[ends]
 have i:∀ h∈jR,∀ j:J Xm,pre (H++h++cW++j) ws=n/\n<(H++h++cW++j).length:=by
  intro h f j
  cases b
  .exact Cg f o (u h f)
  .have t:=GA (E:=h++cW++j) o;rw[<- Y8,<- Y8] at t;exact t
 have l:∀ p∈kG H,pre p ws<=n/\pre p ws<p.length:=by intro p d;obtain⟨h,f,j,_,rfl⟩:=Ci d;let⟨q1,q2⟩:=i h f j;exact⟨O,O⟩
 exact⟨Cd r C,fun p d=>(l p d).1,(i mZ r lF).1,fun _ p d e=>by grind,fun A=>Xu A Xc⟩
end Go.Proofs.YtolaacmheeaadaaGreatDoor
