import Derived.Test.YtolaacmheeaadaaGreatDoorL08
import Derived.Test.YtolaacmheeaadaaGreatDoorCards
import Derived.Test.YtolaacmheeaadaaGreatDoorTie
import Derived.Deep.DeepWitnessRowRef
import Derived.Lib.LaidU8
set_option maxRecDepth 100000
set_option maxHeartbeats 8000000
open Go.Proofs.Tryz
open _root_ renaming ByteArray->Us,List->Ut,Bool->Uv,Nat->Uw,Int->Ux,if_neg->Uy,if_pos->Uz,absurd->UA,Int->N,Nat->M,List->J
open Option renaming none->UB,some->UC,none->Z,some->U
open Bool renaming false->UD,true->UE,and_eq_true->Wu
open Go renaming World->UF,Value->UG,Calls->UI
open Go.RowKit renaming Below->UH
open List renaming append_assoc->V8,take_of_length_le->VN,getElem?_eq_getElem->Wx,map_append->VU,length_append->VA,getElem?_eq_some_iff->Zt,mem_cons_self->XF,mem_cons_of_mem->Wm,mem_map->VQ,length_map->We,mem_cons->Va,map_cons->Xl,map_nil->Zy,cons_append->Vm,map->ZA,mem_filter->Xb,length_filter_le->Wj,mem_singleton->X9,mem_flatMap->ZG,not_mem_nil->ZH
open ByteArray renaming size_append->Zm,size_extract->WX,empty->Ym
open Go.Value renaming string->UQ,oneCell'->Wg,int->UL,pointer->UM,slice->UO,bool->UR,agg->UT,iface->UU,int->V
open Nat renaming le_refl->UY,lt_of_lt_of_le->VP,le_trans->U0,zero_add->Zu,le_of_eq->ZF
open Go.Lib renaming TabIs->Yw,join->Zs,joinTail->Zx,join_cons->Zz,VarReads->ZB,tabData->ZC
open Go.World renaming news_of_block->Wf,block_lt_of_cell?->U1
open Int renaming natCast_nonneg->Yz
open Option.some renaming inj->Wq
open List.Perm renaming refl->Zv
open Go.Joins renaming ownsRow_form->XR
open Prod.mk renaming inj->Zw
open Go.DataW renaming lit->ZD
open Go.Lib.laidMet renaming reads->ZE
open Go.IntKind renaming i64->UV,i64->Y
open Go.Ending renaming returned->UW
open Go.Obj renaming cells->UX
variable{b:Uv}{k s sym:Us}{a pc:Ux}{L:Ut (Ux × Ux)}{ps:Ut (Ut Us)}{E H K Q R p q ws:Ut Us}{acc:Ut Ux}{B g m n:Uw}{st:Uw × Uv}{c:UInt8}{v:Go.Value}{W w w' x y z:Go.World}
namespace Go.Proofs.YtolaacmheeaadaaGreatDoor
open Go.RowKit
def fO(n:N):Us:=vF (Cal.yT n) (Cal.mT n) (Cal.dT n)
def dU(t:N):Us:=fO (t / 1440)++⟨#[47]⟩++jg (t % 1440)
theorem QV(a b c:Us):a++b++c=a++(b++c):=by apply Txt.nT;simp only[Txt.qI,V8]
theorem RU(y m d:N)(h:Cal.ok y m d=UE):(vF y m d).size<=40:=by let⟨y1,y2,m1,m2,d1,d2⟩:=(Cal.jx y m d).1 h;have o:=Cal.pL y m;have j:=Txt.nO y 4 O O;have i:=Txt.nO m 2 O O;have f:=Txt.nO d 2 O O;have l:(⟨#[45]⟩:Us).size=1:=Uj;unfold vF;simp only[Zm];omega
theorem Hn(n:N)(i:0<=n)(h:n<1440):(jg n).size<=19:=by have f:=Txt.nO (n / 60) 2 O O;have d:=Txt.nO (n % 60) 2 O O;have j:(⟨#[58]⟩:Us).size=1:=Uj;unfold jg;simp only[Zm];omega
theorem H9(n:N)(f:-738885<=n)(d:n<=2913173):(fO n).size<=40:=RU _ _ _ (Cal.vQ n f d).1
theorem Aj(n:N)(w:UF)(i:Env w)(o:-738885<=n)(l:n<=2913173):UI prog 293 #[n] w fun e w'=>e=UW (fO n)/\UH w w w':=by
 refine (Sk n w i o l).mono ?_;rintro e w' ⟨⟨y,m,d,rfl,h,f⟩,j⟩;obtain⟨rfl,rfl,rfl⟩:=Cal.xV y m d n h f;exact⟨rfl,j⟩
theorem Ak(t:N)(w:UF)(i:Env w)(C:0<=t)(A:t<=1048320):UI prog 292 #[t] w fun e w'=>e=UW (dU t)/\UH w w w':=by
 have j:=hide i;clear i;have r:=H9 (t / 1440) O O;have o:=Hn (t % 1440) O O;go_in;go_wp21;refine aK (Aj (t / 1440) w (aO j) O O) fun l d=>?_;go_wp21;refine aK (Dh (t % 1440) l ((aO j).later d) O O) fun u h=>?_;have f:=d.trans (h.mono d.size);go_wp2;go_ret;exact⟨rfl,f⟩
def nN(k:M):Us:=⟨(gu k).toArray⟩
def jo(acc:J N):M->Us
 |0=>⟨#[]⟩
 |k+1=>if aI acc k then jo acc k++⟨#[44]⟩++nN k else jo acc k
def uh(acc:J N):Us:=(jo acc 7).extract 1 (jo acc 7).size
theorem CI(k:M):(nN k).size=2:=by unfold nN gu;split <;> rfl
theorem Af(acc:J N):∀ k:M,(jo acc k).size<=3*k
 |0=>zq _
 |k+1=>by have ih:=Af acc k;have n:=CI k;have d:(⟨#[44]⟩:Us).size=1:=Uj;unfold jo;split;simp only[Zm];omega;omega
theorem I4(acc:J N)(d:M)(h:aI acc d=UE):∀ k:M,d<k->1<=(jo acc k).size
 |0,hk=>by omega
 |k+1,hk=>by
  have n:=CI k;unfold jo;by_cases e:d=k
  .subst e;rw[Uz h];simp only[Zm];omega
  .have:=I4 acc d h k O
   split
   .simp only[Zm];omega
   .exact this
theorem RV{d:N}{r:J N}(h:Txt.mv acc d=U r)(f:d<=6):∃ x:M,x<7/\aI r x=UE:=by
 unfold Txt.mv at h;split at h
 .rename_i hc
  cases h;exact⟨d.toNat,O,by simp[aI,show ((d.toNat:M):N)=d from by omega]⟩
 .cases h
theorem Io:∀ (l:J UInt8)(acc r:J N),Txt.kC l acc=U r->∃ x:M,x<7/\aI r x=UE
 |[],_,_,h=>by simp[Txt.kC] at h
 |[_],_,_,h=>by simp[Txt.kC] at h
 |[a,b],acc,r,h=>RV (acc:=acc) (d:=Txt.fu [a,b]) h (Txt.At [a,b]).2
 |a :: b :: c :: l,acc,r,h=>by unfold Txt.kC at h;split at h;simp only[Option.bind_eq_some_iff] at h;let⟨x,_,h⟩:=h;exact Io l x r h;cases h
theorem GW(h:Txt.jf s=U acc):1<=(jo acc 7).size:=by let⟨x,hx,hi⟩:=Io _ _ _ h;exact I4 acc x hi 7 hx
def pA(w:Us):Us:=match Txt.jf w with|some acc=>uh acc|none=>⟨#[]⟩
def aZ(sym w:Us):Us :=
 if sym.toList==[85,78,73,84,83] then Txt.bE (cB w 1 7) else
 if sym.toList==[77,73,78,85,84,69,83] then Txt.bE (cB w 1 7) else
 if sym.toList==[69,86,69,82,89] then Txt.bE (cB w 1 7) else
 if sym.toList==[73,68] then Txt.bE (cB w 1 7) else
 if sym.toList==[84,73,77,69] then dU (eJ w) else
 if sym.toList==[79,78] then pA w else w
theorem Hm(w:Us):-1<=cB w 1 7/\cB w 1 7<=9999999:=by rw[xP];have:=Txt.lT w.data.toList;split <;> omega
theorem Ho(w:Us):-1<=eJ w/\eJ w<=1048320:=by
 unfold eJ;split
 .rename_i h
  unfold bB at h;simp only[Wu,decide_eq_true_eq] at h;omega
 .omega
theorem Cp(n:N)(w:UF)(l:-738885<=n)(j:n<=2913173):UI prog 21 #[n] w fun e w'=>e=UW (.tuple #[V Y (Cal.yT n),V Y (Cal.mT n),V Y (Cal.dT n),V Y 0])/\w'=w:=by
 refine (CF n w O O).mono ?_;rintro e w' ⟨⟨h,_⟩|⟨_,y,m,d,rfl,i,f⟩,rfl⟩
 .omega
 .obtain⟨rfl,rfl,rfl⟩:=Cal.xV y m d n i f;exact⟨rfl,rfl⟩
theorem Ro(t:N):Txt.jU (Cal.yT (t / 1440)) 4++⟨#[45]⟩++Txt.jU (Cal.mT (t / 1440)) 2++⟨#[45]⟩++Txt.jU (Cal.dT (t / 1440)) 2++⟨#[47]⟩++Txt.jU (t % 1440 / 60) 2++⟨#[58]⟩++Txt.jU (t % 60) 2=dU t:=by unfold dU fO vF jg;rw[show t % 1440 % 60=t % 60 from by omega];simp only[QV]
theorem Am(sym w:Us)(W:UF)(j:Env W)(r:w.size<=160)
  (t:(sym.toList==[85,78,73,84,83])=UE\/((sym.toList==[85,78,73,84,83])=UD/\(sym.toList==[77,73,78,85,84,69,83])=UE)\/((sym.toList==[85,78,73,84,83])=UD/\(sym.toList==[77,73,78,85,84,69,83])=UD/\(sym.toList==[69,86,69,82,89])=UE)\/((sym.toList==[85,78,73,84,83])=UD/\(sym.toList==[77,73,78,85,84,69,83])=UD/\(sym.toList==[69,86,69,82,89])=UD/\(sym.toList==[73,68])=UE)):
  UI prog 29 #[sym,w] W fun e w'=>e=UW (Txt.bE (cB w 1 7))/\UH W W w':=by
 have A:=hide j;have D:=Hm w;clear j;rcases t with i|⟨i,l⟩|⟨i,l,u⟩|⟨i,l,u,F⟩;all_goals go_in;go_wp21;refine aK (gC w 1 7 W r O O) fun o d=>?_;go_wp21;refine aK (Dv _ o ((aO A).later d) O O) fun C h=>?_;have f:=d.trans (h.mono d.size);go_wp2;go_ret;exact⟨rfl,f⟩
theorem Sy(sym w:Us)(W:UF)
  (l:(sym.toList==[85,78,73,84,83])=UD) (j:(sym.toList==[77,73,78,85,84,69,83])=UD) (i:(sym.toList==[69,86,69,82,89])=UD) (h:(sym.toList==[73,68])=UD) (f:(sym.toList==[84,73,77,69])=UD) (d:(sym.toList==[79,78])=UD):
  UI prog 29 #[sym,w] W fun e w'=>e=UW w/\w'=W:=by
 go_in;go_wp2;go_ret;exact⟨rfl,rfl⟩
theorem Sw(sym w:Us)(W:UF)(F:Env W)(hs:w.size<=160)(ht:0<=eJ w)
  (c0:(sym.toList==[85,78,73,84,83])=UD) (c1:(sym.toList==[77,73,78,85,84,69,83])=UD) (c2:(sym.toList==[69,86,69,82,89])=UD) (c3:(sym.toList==[73,68])=UD) (c4:(sym.toList==[84,73,77,69])=UE):
  UI prog 29 #[UQ sym,UQ w] W fun e w'=>e=UW (UQ (dU (eJ w)))/\UH W.heap.size W w':=by
 have HE:=hide F;have tb:=Ho w;have T:=hide (Ro (eJ w));obtain⟨t,d⟩:∃ t,t=eJ w:=⟨_,rfl⟩;rw[<- d] at ht tb T ⊢;have r:=hide d;clear F d;have ⟨hok,_⟩:=Cal.vQ (t / 1440) O O;obtain⟨y1,y2,m1,m2,d1,d2⟩:=(Cal.jx _ _ _).1 hok;have db:=Cal.pL (Cal.yT (t / 1440)) (Cal.mT (t / 1440));have z1:=Txt.nO (Cal.yT (t / 1440)) 4 O O;have z2:=Txt.nO (Cal.mT (t / 1440)) 2 O O;have z3:=Txt.nO (Cal.dT (t / 1440)) 2 O O;have z4:=Txt.nO (t % 1440 / 60) 2 O O;have z5:=Txt.nO (t % 60) 2 O O;clear hok;go_in;go_wp2_with fail;refine (tj w W hs).mono ?_;rintro e X ⟨rfl,f⟩;rw[<- aO r];go_wp2_with fail;refine (Cp (t / 1440) X O O).mono ?_;rintro e w2 ⟨rfl,rfl⟩;have S:=hide ((aO HE).later f);go_wp2_with fail;refine (xx _ 4 _ (aO S) O O O).mono ?_;rintro e w3 ⟨rfl,l⟩;have P:=hide ((aO S).later l);go_wp2_with fail;refine (xx _ 2 _ (aO P) O O O).mono ?_;rintro e w4 ⟨rfl,j⟩;have I:=hide ((aO P).later j);go_wp2_with fail;refine (xx _ 2 _ (aO I) O O O).mono ?_;rintro e w5 ⟨rfl,i⟩;have G:=hide ((aO I).later i);go_wp2_with fail;refine (xx _ 2 _ (aO G) O O O).mono ?_;rintro e w6 ⟨rfl,h⟩;have e6:=hide ((aO G).later h);go_wp2_with fail;refine (xx _ 2 _ (aO e6) O O O).mono ?_;rintro e w7 ⟨rfl,o⟩;have D:=f.trans (l.mono f.size);have C:=D.trans (j.mono D.size);have A:=C.trans (i.mono C.size);have u:=A.trans (h.mono A.size);have k5:=u.trans (o.mono u.size);go_wp2;go_ret;exact⟨zX (aO T),k5⟩
def WR(w w':UF)(d:J Us)(e:Ending):Prop:=∃ v,e=UW v/\w'.ownsRow w 9 1 v d.length (d.map UQ)/\UH w w w'
theorem oR(w x:UF)(d:J Us)(b:M)(h:w<=b)(f:x.heap[b]?=U (UX (d.map UQ).toArray 9))(i:d.length<=160):x.ownsRow w 9 1 (UO b d.length d.length) d.length (d.map UQ):=by refine⟨by simp,.inr ⟨b,d.length,(d.map UQ).toArray,rfl,h,f,UY _,by unfold maxLen;omega,by simp,?_⟩⟩;exact VN Ui
theorem iY{d:UF}(h:UH d d x)(f:UH x x y):UH d d y:=h.trans (f.mono h.size)
theorem ic(w:UF):UH w w w.drew:=⟨rfl,rfl,rfl,UY _,fun _ _=>rfl⟩
theorem QZ(w:UF):UI prog 305 #[UT #[]] w fun e w'=>WR w w' [iT] e:=by
 go_in;go_wp2;go_ret;have e:=heap_alloc_new (w.alloc (UX #[] 166)) (UX #[iT] 9);rw[show (w.alloc (UX #[] 166)).heap.size=w.heap.size+1 from by simp] at e;exact⟨_,rfl,oR w _ [iT] _ Ui e (show 1<=160 by omega),iY aS aS⟩
theorem Qd(w:UF):UI prog 310 #[UT #[]] w fun e w'=>WR w w' [iN] e:=by
 go_in;go_wp2;go_ret;have e:=heap_alloc_new (w.alloc (UX #[] 176)) (UX #[iN] 9);rw[show (w.alloc (UX #[] 176)).heap.size=w.heap.size+1 from by simp] at e;exact⟨_,rfl,oR w _ [iN] _ Ui e (show 1<=160 by omega),iY aS aS⟩
theorem Qj(n:Us)(u:N)(w:UF)(r:Env w)(u0:0<=u)(u1:u<=9999999):UI prog 288 #[UT #[n,u]] w fun e w'=>WR w w' [ix,n,Txt.bE u] e:=by
 go_in;go_wp21;obtain⟨X,f⟩:∃ X,X=w.alloc (UX #[n,u] 143):=⟨_,rfl⟩;rw[<- f];have i:UH w w X:=by rw[f];exact aS
 have F:=r.later i;have D:X.cell? (w,0)=U ↑n:=by rw[f];simp
 have C:X.cell? (w,1)=U ↑u:=by rw[f];simp
 have A:w<X.heap.size:=by rw[f];simp
 clear f r;go_region_held3 (fun w'=>Env w'/\UH w w w'/\w<w'.heap.size/\w'.cell? (w,0)=U ↑n/\w'.cell? (w,1)=U ↑u)
  (first
   |(refine⟨?_,?_,?_,?_,?_⟩ <;> go_keep)
   |(go_split_ands;exact⟨Env.later Uk d,iY Uk d,VP Uk (Below.size d),cell_later d Uk,cell_later d Uk⟩)
   |(go_split_ands;exact⟨Env.later Uk aS,iY Uk aS,VP Uk (Below.size aS),cell_later aS Uk,cell_later aS Uk⟩)
   |(go_split_ands;exact⟨Env.later Uk (ic _),iY Uk (ic _),VP Uk (Below.size (ic _)),cell_later (ic _) Uk,cell_later (ic _) Uk⟩))
  (first
   |(go_at_call 289;go_split_ands;refine aK (nz _ _ Uk O O) fun w4 d=>?_))
 go_split_ands;have j:UH w w (w4.alloc (UX #[ix,n,Txt.bE u] 9)):=Uk;have h:w<(w4.alloc (UX #[ix,n,Txt.bE u] 9)).heap.size:=Uk;have t:w<w4.heap.size+1:=bZ h;have o:=hide j;have l:Hid (w<=w4.heap.size):=by show w<=w4.heap.size;omega
 go_wp2;go_ret;exact⟨_,rfl,oR w _ [ix,n,Txt.bE u] w4 l (heap_alloc_new w4 _) (show 3<=160 by omega),o⟩
theorem QY(u:N)(w:UF)(l:Env w)(u0:0<=u)(u1:u<=9999999):UI prog 302 #[UT #[u]] w fun e w'=>WR w w' [iU,Txt.bE u] e:=by
 go_in;go_wp21;obtain⟨X,j⟩:∃ X,X=w.alloc (UX #[u] 160):=⟨_,rfl⟩;rw[<- j];have d:UH w w X:=by rw[j];exact aS
 have o:=l.later d;clear j l;refine aK (nz u X o O O) fun w4 i=>?_;have f:=iY d i;have h:=f.size;go_wp2;go_ret;exact⟨_,rfl,oR w _ [iU,Txt.bE u] w4 h (heap_alloc_new w4 _) (show 2<=160 by omega),iY f aS⟩
theorem Qz(u:N)(w:UF)(l:Env w)(u0:0<=u)(u1:u<=9999999):UI prog 303 #[UT #[u]] w fun e w'=>WR w w' [iR,Txt.bE u] e:=by
 go_in;go_wp21;obtain⟨X,j⟩:∃ X,X=w.alloc (UX #[u] 161):=⟨_,rfl⟩;rw[<- j];have d:UH w w X:=by rw[j];exact aS
 have o:=l.later d;clear j l;refine aK (nz u X o O O) fun w4 i=>?_;have f:=iY d i;have h:=f.size;go_wp2;go_ret;exact⟨_,rfl,oR w _ [iR,Txt.bE u] w4 h (heap_alloc_new w4 _) (show 2<=160 by omega),iY f aS⟩
theorem PV(u:N)(w:UF)(l:Env w)(u0:0<=u)(u1:u<=9999999):UI prog 309 #[UT #[u]] w fun e w'=>WR w w' [ja,Txt.bE u] e:=by
 go_in;go_wp21;obtain⟨X,j⟩:∃ X,X=w.alloc (UX #[u] 175):=⟨_,rfl⟩;rw[<- j];have d:UH w w X:=by rw[j];exact aS
 have o:=l.later d;clear j l;refine aK (nz u X o O O) fun w4 i=>?_;have f:=iY d i;have h:=f.size;go_wp2;go_ret;exact⟨_,rfl,oR w _ [ja,Txt.bE u] w4 h (heap_alloc_new w4 _) (show 2<=160 by omega),iY f aS⟩
theorem PS(n:Us)(a b:N)(w:UF)(r:Env w)(S:0<=a)(P:a<=1048320)(I:0<=b)(G:b<=1048320):UI prog 306 #[UT #[n,a,b]] w fun e w'=>WR w w' [iu,n,dU a,dU b] e:=by
 go_in;go_wp21;obtain⟨X,f⟩:∃ X,X=w.alloc (UX #[n,a,b] 169):=⟨_,rfl⟩;rw[<- f];have i:UH w w X:=by rw[f];exact aS
 have F:=r.later i;have D:X.cell? (w,0)=U ↑n:=by rw[f];simp
 have C:X.cell? (w,1)=U ↑a:=by rw[f];simp
 have A:X.cell? (w,2)=U ↑b:=by rw[f];simp
 have u:w<X.heap.size:=by rw[f];simp
 clear f r;go_region_held3 (fun w'=>Env w'/\UH w w w'/\w<w'.heap.size/\w'.cell? (w,0)=U ↑n/\w'.cell? (w,1)=U ↑a/\w'.cell? (w,2)=U ↑b)
  (first
   |(refine⟨?_,?_,?_,?_,?_,?_⟩ <;> go_keep)
   |(go_split_ands;exact⟨Env.later Uk d,iY Uk d,VP Uk (Below.size d),cell_later d Uk,cell_later d Uk,cell_later d Uk⟩)
   |(go_split_ands;exact⟨Env.later Uk aS,iY Uk aS,VP Uk (Below.size aS),cell_later aS Uk,cell_later aS Uk,cell_later aS Uk⟩)
   |(go_split_ands;exact⟨Env.later Uk (ic _),iY Uk (ic _),VP Uk (Below.size (ic _)),cell_later (ic _) Uk,cell_later (ic _) Uk,cell_later (ic _) Uk⟩))
  (first
   |(go_at_call 292;go_split_ands;refine aK (Ak _ _ Uk O O) fun w4 d=>?_))
 go_split_ands;have j:UH w w (w4.alloc (UX #[iu,n,dU a,dU b] 9)):=Uk;have h:w<(w4.alloc (UX #[iu,n,dU a,dU b] 9)).heap.size:=Uk;have t:w<w4.heap.size+1:=bZ h;have o:=hide j;have l:Hid (w<=w4.heap.size):=by show w<=w4.heap.size;omega
 go_wp2;go_ret;exact⟨_,rfl,oR w _ [iu,n,dU a,dU b] w4 l (heap_alloc_new w4 _) (show 4<=160 by omega),o⟩
theorem PP(n:Us)(u m a b:N)(w:UF)(r:Env w)(u0:0<=u)(u1:u<=9999999)(S:0<=m)(P:m<=9999999)(a0:0<=a)(a1:a<=1048320)(b0:0<=b)(b1:b<=1048320):UI prog 307 #[UT #[n,u,m,a,b]] w fun e w'=>WR w w' [ir,n,Txt.bE u,Txt.bE m,dU a,dU b] e:=by
 go_in;go_wp21;obtain⟨X,f⟩:∃ X,X=w.alloc (UX #[n,u,m,a,b] 171):=⟨_,rfl⟩;rw[<- f];have i:UH w w X:=by rw[f];exact aS
 have T:=r.later i;have I:X.cell? (w,0)=U ↑n:=by rw[f];simp
 have G:X.cell? (w,1)=U ↑u:=by rw[f];simp
 have F:X.cell? (w,2)=U ↑m:=by rw[f];simp
 have D:X.cell? (w,3)=U ↑a:=by rw[f];simp
 have C:X.cell? (w,4)=U ↑b:=by rw[f];simp
 have A:w<X.heap.size:=by rw[f];simp
 clear f r;go_region_held3 (fun w'=>Env w'/\UH w w w'/\w<w'.heap.size/\w'.cell? (w,0)=U ↑n/\w'.cell? (w,1)=U ↑u/\w'.cell? (w,2)=U ↑m/\w'.cell? (w,3)=U ↑a/\w'.cell? (w,4)=U ↑b)
  (first
   |(refine⟨?_,?_,?_,?_,?_,?_,?_,?_⟩ <;> go_keep)
   |(go_split_ands;exact⟨Env.later Uk d,iY Uk d,VP Uk (Below.size d),cell_later d Uk,cell_later d Uk,cell_later d Uk,cell_later d Uk,cell_later d Uk⟩)
   |(go_split_ands;exact⟨Env.later Uk aS,iY Uk aS,VP Uk (Below.size aS),cell_later aS Uk,cell_later aS Uk,cell_later aS Uk,cell_later aS Uk,cell_later aS Uk⟩)
   |(go_split_ands;exact⟨Env.later Uk (ic _),iY Uk (ic _),VP Uk (Below.size (ic _)),cell_later (ic _) Uk,cell_later (ic _) Uk,cell_later (ic _) Uk,cell_later (ic _) Uk,cell_later (ic _) Uk⟩))
  (first
   |(go_at_call 289;go_split_ands;refine aK (nz _ _ Uk O O) fun w4 d=>?_)
   |(go_at_call 292;go_split_ands;refine aK (Ak _ _ Uk O O) fun w4 d=>?_))
 go_split_ands;have j:UH w w (w4.alloc (UX #[ir,n,Txt.bE u,Txt.bE m,dU a,dU b] 9)):=Uk;have h:w<(w4.alloc (UX #[ir,n,Txt.bE u,Txt.bE m,dU a,dU b] 9)).heap.size:=Uk;have t:w<w4.heap.size+1:=bZ h;have o:=hide j;have l:Hid (w<=w4.heap.size):=by show w<=w4.heap.size;omega
 go_wp2;go_ret;exact⟨_,rfl,oR w _ [ir,n,Txt.bE u,Txt.bE m,dU a,dU b] w4 l (heap_alloc_new w4 _) (show 6<=160 by omega),o⟩
theorem Dg(k n:Us)(u a b:N)(w:UF)(r:Env w)(u0:0<=u)(u1:u<=9999999)(a0:0<=a)(T:a<=1048320)(S:0<=b)(P:b<=1048320):UI prog 291 #[k,UT #[n,u,a,b]] w fun e w'=>WR w w' [k,n,Txt.bE u,dU a,dU b] e:=by
 go_in;go_wp21;obtain⟨X,f⟩:∃ X,X=w.alloc (UX #[n,u,a,b] 145):=⟨_,rfl⟩;rw[<- f];have i:UH w w X:=by rw[f];exact aS
 have I:=r.later i;have G:X.cell? (w,0)=U ↑n:=by rw[f];simp
 have F:X.cell? (w,1)=U ↑u:=by rw[f];simp
 have D:X.cell? (w,2)=U ↑a:=by rw[f];simp
 have C:X.cell? (w,3)=U ↑b:=by rw[f];simp
 have A:w<X.heap.size:=by rw[f];simp
 clear f r;go_region_held3 (fun w'=>Env w'/\UH w w w'/\w<w'.heap.size/\w'.cell? (w,0)=U ↑n/\w'.cell? (w,1)=U ↑u/\w'.cell? (w,2)=U ↑a/\w'.cell? (w,3)=U ↑b)
  (first
   |(refine⟨?_,?_,?_,?_,?_,?_,?_⟩ <;> go_keep)
   |(go_split_ands;exact⟨Env.later Uk d,iY Uk d,VP Uk (Below.size d),cell_later d Uk,cell_later d Uk,cell_later d Uk,cell_later d Uk⟩)
   |(go_split_ands;exact⟨Env.later Uk aS,iY Uk aS,VP Uk (Below.size aS),cell_later aS Uk,cell_later aS Uk,cell_later aS Uk,cell_later aS Uk⟩)
   |(go_split_ands;exact⟨Env.later Uk (ic _),iY Uk (ic _),VP Uk (Below.size (ic _)),cell_later (ic _) Uk,cell_later (ic _) Uk,cell_later (ic _) Uk,cell_later (ic _) Uk⟩))
  (first
   |(go_at_call 289;go_split_ands;refine aK (nz _ _ Uk O O) fun w4 d=>?_)
   |(go_at_call 292;go_split_ands;refine aK (Ak _ _ Uk O O) fun w4 d=>?_))
 go_split_ands;have j:UH w w (w4.alloc (UX #[k,n,Txt.bE u,dU a,dU b] 9)):=Uk;have h:w<(w4.alloc (UX #[k,n,Txt.bE u,dU a,dU b] 9)).heap.size:=Uk;have t:w<w4.heap.size+1:=bZ h;have o:=hide j;have l:Hid (w<=w4.heap.size):=by show w<=w4.heap.size;omega
 go_wp2;go_ret;exact⟨_,rfl,oR w _ [k,n,Txt.bE u,dU a,dU b] w4 l (heap_alloc_new w4 _) (show 5<=160 by omega),o⟩
theorem jT(f:B<=x)(h:UH B x y)(d:UH y y z):UH B x z:=h.trans (d.mono (U0 f h.size))
theorem pH(h:UH B x y)(d:UH y y z):x<=z.heap.size:=U0 h.size d.size
theorem Env.jk(h:Env x)(l:10<=B)(i:UH B x y):Env y:=by let⟨m,hm⟩:=h.uG;have d:∀ (b o:M) (v:UG),b<10->x.cell? (b,o)=U v->y.cell? (b,o)=U v:=fun b o v j e=>(i.cell (p:=(b,o)) (show b<B by omega)).trans e;let⟨c0,c1,c2,c3,c4,c5,c6,c7,c8,c9,c10,c11⟩:=h.jH;refine⟨⟨d _ _ _ O c0,d _ _ _ O c1,d _ _ _ O c2,d _ _ _ O c3,d _ _ _ O c4,d _ _ _ O c5,d _ _ _ O c6,d _ _ _ O c7,d _ _ _ O c8,d _ _ _ O c9,d _ _ _ O c10,d _ _ _ O c11⟩,⟨m,d _ _ _ O hm⟩,?_,U0 h.size i.size,d _ _ _ O h.mo,d _ _ _ O h.tu,d _ _ _ O h.we,d _ _ _ O h.th,d _ _ _ O h.fr,d _ _ _ O h.sa,d _ _ _ O h.su⟩;have f:=h.pow;unfold Yw World.var? at f ⊢;simp only[vP,Option.bind_some] at f ⊢;rw[i.block 1 O];exact f
theorem jh{p:Prop}(h:UH B x y)(k:UH B x y->p):UH B x y/\p:=⟨h,k h⟩
theorem PO(n:Us)(u a b:N)(w:UF)(i:Env w)(u0:0<=u)(u1:u<=9999999)(A:0<=a)(t:a<=1048320)(r:0<=b)(o:b<=1048320):UI prog 290 #[UT #[n,u,a,b]] w fun e w'=>WR w w' [iO,n,Txt.bE u,dU a,dU b] e:=by
 go_in;go_wp21;obtain⟨X,h⟩:∃ X,X=w.alloc (UX #[n,u,a,b] 148):=⟨_,rfl⟩;rw[<- h];have d:UH w w X:=by rw[h];exact aS
 have l:=i.later d;clear h i;refine (Dg iO n u a b X l u0 u1 A t r o).mono ?_;rintro e w4 ⟨v,rfl,j,f⟩;go_wp2;go_ret;exact⟨v,rfl,ov j d.size,iY d f⟩
theorem PQ(n:Us)(u a b m:N)(w:UF)(he:Env w)(u0:0<=u)(u1:u<=9999999)(a0:0<=a)(a1:a<=1048320)(b0:0<=b)(b1:b<=1048320)(m0:0<=m)(m1:m<=9999999):UI prog 296 #[UT #[n,u,a,b,m]] w fun e w'=>WR w w' [iE,n,Txt.bE u,dU a,dU b,Txt.bE m] e:=by
 obtain⟨i0,aa,T,S,P⟩:=info_parts qm;go_in;go_wp21;obtain⟨X,f⟩:∃ X,X=w.alloc (UX #[n,u,a,b,m] 150):=⟨_,rfl⟩;rw[<- f];have r:UH w w X:=by rw[f];exact aS
 have eX:=he.later r;have l:w+1<=X.heap.size:=by rw[f];simp
 have ab:10<=w.heap.size+1:=by have:=he.size;omega
 have I:X.cell? (w,0)=U ↑n:=by rw[f];simp
 have G:X.cell? (w,1)=U ↑u:=by rw[f];simp
 have F:X.cell? (w,2)=U ↑a:=by rw[f];simp
 have D:X.cell? (w,3)=U ↑b:=by rw[f];simp
 have C:X.cell? (w,4)=U ↑m:=by rw[f];simp
 have bX:=zr (w.heap.size+1) X;have hZ:X=w.heap.size+1:=by rw[f];simp
 clear f he;go_region_held3 (fun w'=>UH (w.heap.size+1) X w'/\w'.cell? (w,0)=U ↑n/\w'.cell? (w,1)=U ↑u/\w'.cell? (w,2)=U ↑a/\w'.cell? (w,3)=U ↑b/\w'.cell? (w,4)=U ↑m)
  (first
   |(go_split_ands;exact jh (jT l Uk h) (fun d=>⟨(d.cell (p:=(w,0)) Ui).trans I,(d.cell (p:=(w,1)) Ui).trans G,(d.cell (p:=(w,2)) Ui).trans F,(d.cell (p:=(w,3)) Ui).trans D,(d.cell (p:=(w,4)) Ui).trans C⟩))
   |(go_split_ands;exact jh (jT l Uk aS) (fun d=>⟨(d.cell (p:=(w,0)) Ui).trans I,(d.cell (p:=(w,1)) Ui).trans G,(d.cell (p:=(w,2)) Ui).trans F,(d.cell (p:=(w,3)) Ui).trans D,(d.cell (p:=(w,4)) Ui).trans C⟩))
   |(go_split_ands;exact jh (jT l Uk (ic _)) (fun d=>⟨(d.cell (p:=(w,0)) Ui).trans I,(d.cell (p:=(w,1)) Ui).trans G,(d.cell (p:=(w,2)) Ui).trans F,(d.cell (p:=(w,3)) Ui).trans D,(d.cell (p:=(w,4)) Ui).trans C⟩))
   |(go_split_ands;exact jh (Below.grown Uk j Un (fun k d=>lI o d)) (fun d=>⟨(d.cell (p:=(w,0)) Ui).trans I,(d.cell (p:=(w,1)) Ui).trans G,(d.cell (p:=(w,2)) Ui).trans F,(d.cell (p:=(w,3)) Ui).trans D,(d.cell (p:=(w,4)) Ui).trans C⟩)))
  (first
   |(go_at_call 291;go_split_ands;refine (Dg iE n u a b _ (Env.later eX (by rw[hZ];assumption)) u0 u1 a0 a1 b0 b1).mono ?_;rintro e w4 ⟨v1,rfl,ho,h⟩)
   |(go_at_call 289;go_split_ands;have o:=ov (base':=w.heap.size+1) ho Un;refine aK (nz m _ (Env.later eX (by rw[hZ];assumption)) O O) fun w5 h=>?_;have ae:=pH (B:=w.heap.size+1) (x:=X) Uk h)
   |((refine step_append_lies _ (by rfl) _ _ _ (by rfl) (w.heap.size+1) 9 i0 _ 1 16 underlying78 aa T S P rfl O v1 5 ([iE,n,Txt.bE u,dU a,dU b].map UQ) (by rfl) ((nR o h).alloc _) (w5,0) 1 1 [Txt.bE m] (by rfl) (by rfl) (Wf (cs:=#[Txt.bE m]) (t:=9) (fr:=(0,0)) (heap_alloc_new _ _)) Uq O Up O Un (w5.heap.size+1) Ui ?_;intro g cap w6 i j af ad)))
 go_split_ands;have A:UH (w.heap.size+1) X w6:=Uk;have ac:=hide A;clear A;go_wp2;go_ret;exact⟨_,rfl,ov i O,r.trans (ac.mono O)⟩
theorem PY(n:Us)(u a b m:N)(w:UF)(he:Env w)(u0:0<=u)(u1:u<=9999999)(a0:0<=a)(a1:a<=1048320)(b0:0<=b)(b1:b<=1048320)(m0:0<=m)(m1:m<=9999999):UI prog 297 #[UT #[n,u,a,b,m]] w fun e w'=>WR w w' [iF,n,Txt.bE u,dU a,dU b,Txt.bE m] e:=by
 obtain⟨i0,aa,T,S,P⟩:=info_parts qm;go_in;go_wp21;obtain⟨X,f⟩:∃ X,X=w.alloc (UX #[n,u,a,b,m] 151):=⟨_,rfl⟩;rw[<- f];have r:UH w w X:=by rw[f];exact aS
 have eX:=he.later r;have l:w+1<=X.heap.size:=by rw[f];simp
 have ab:10<=w.heap.size+1:=by have:=he.size;omega
 have I:X.cell? (w,0)=U ↑n:=by rw[f];simp
 have G:X.cell? (w,1)=U ↑u:=by rw[f];simp
 have F:X.cell? (w,2)=U ↑a:=by rw[f];simp
 have D:X.cell? (w,3)=U ↑b:=by rw[f];simp
 have C:X.cell? (w,4)=U ↑m:=by rw[f];simp
 have bX:=zr (w.heap.size+1) X;have hZ:X=w.heap.size+1:=by rw[f];simp
 clear f he;go_region_held3 (fun w'=>UH (w.heap.size+1) X w'/\w'.cell? (w,0)=U ↑n/\w'.cell? (w,1)=U ↑u/\w'.cell? (w,2)=U ↑a/\w'.cell? (w,3)=U ↑b/\w'.cell? (w,4)=U ↑m)
  (first
   |(go_split_ands;exact jh (jT l Uk h) (fun d=>⟨(d.cell (p:=(w,0)) Ui).trans I,(d.cell (p:=(w,1)) Ui).trans G,(d.cell (p:=(w,2)) Ui).trans F,(d.cell (p:=(w,3)) Ui).trans D,(d.cell (p:=(w,4)) Ui).trans C⟩))
   |(go_split_ands;exact jh (jT l Uk aS) (fun d=>⟨(d.cell (p:=(w,0)) Ui).trans I,(d.cell (p:=(w,1)) Ui).trans G,(d.cell (p:=(w,2)) Ui).trans F,(d.cell (p:=(w,3)) Ui).trans D,(d.cell (p:=(w,4)) Ui).trans C⟩))
   |(go_split_ands;exact jh (jT l Uk (ic _)) (fun d=>⟨(d.cell (p:=(w,0)) Ui).trans I,(d.cell (p:=(w,1)) Ui).trans G,(d.cell (p:=(w,2)) Ui).trans F,(d.cell (p:=(w,3)) Ui).trans D,(d.cell (p:=(w,4)) Ui).trans C⟩))
   |(go_split_ands;exact jh (Below.grown Uk j Un (fun k d=>lI o d)) (fun d=>⟨(d.cell (p:=(w,0)) Ui).trans I,(d.cell (p:=(w,1)) Ui).trans G,(d.cell (p:=(w,2)) Ui).trans F,(d.cell (p:=(w,3)) Ui).trans D,(d.cell (p:=(w,4)) Ui).trans C⟩)))
  (first
   |(go_at_call 291;go_split_ands;refine (Dg iF n u a b _ (Env.later eX (by rw[hZ];assumption)) u0 u1 a0 a1 b0 b1).mono ?_;rintro e w4 ⟨v1,rfl,ho,h⟩)
   |(go_at_call 289;go_split_ands;have o:=ov (base':=w.heap.size+1) ho Un;refine aK (nz m _ (Env.later eX (by rw[hZ];assumption)) O O) fun w5 h=>?_;have ae:=pH (B:=w.heap.size+1) (x:=X) Uk h)
   |((refine step_append_lies _ (by rfl) _ _ _ (by rfl) (w.heap.size+1) 9 i0 _ 1 16 underlying78 aa T S P rfl O v1 5 ([iF,n,Txt.bE u,dU a,dU b].map UQ) (by rfl) ((nR o h).alloc _) (w5,0) 1 1 [Txt.bE m] (by rfl) (by rfl) (Wf (cs:=#[Txt.bE m]) (t:=9) (fr:=(0,0)) (heap_alloc_new _ _)) Uq O Up O Un (w5.heap.size+1) Ui ?_;intro g cap w6 i j af ad)))
 go_split_ands;have A:UH (w.heap.size+1) X w6:=Uk;have ac:=hide A;clear A;go_wp2;go_ret;exact⟨_,rfl,ov i O,r.trans (ac.mono O)⟩
theorem Qe(n:Us)(a b:N)(w:UF) :UI prog 304 #[UT #[n,UD,a,b]] w fun e w'=>WR w w' [dC,n] e:=by
 go_in;go_wp2;go_ret;have e:=heap_alloc_new (w.alloc (UX #[n,UD,a,b] 163)) (UX #[dC,n] 9);rw[show (w.alloc (UX #[n,UD,a,b] 163)).heap.size=w.heap.size+1 from by simp] at e;exact⟨_,rfl,oR w _ [dC,n] _ Ui e (show 2<=160 by omega),iY aS aS⟩
theorem Qf(n:Us)(a b:N)(w:UF)(he:Env w)(a0:0<=a)(a1:a<=1048320)(b0:0<=b)(b1:b<=1048320):UI prog 304 #[UT #[n,UE,a,b]] w fun e w'=>WR w w' [dC,n,dU a,dU b] e:=by
 obtain⟨i0,aa,S,P,I⟩:=info_parts qm;go_in;go_wp21;obtain⟨X,f⟩:∃ X,X=(w.alloc (UX #[n,UE,a,b] 163)).alloc (UX #[UQ ⟨#[108,105,115,116]⟩,n] 9):=⟨_,rfl⟩;rw[<- f];have u:UH w w X:=by rw[f];exact aS.alloc Ui _
 have eX:=he.later u;have r:w+1<=X.heap.size:=by rw[f];simp
 have o:10<=w.heap.size+1:=by have:=he.size;omega
 have G:X.cell? (w,0)=U ↑n:=by rw[f];simp
 have F:X.cell? (w,1)=U ↑UE:=by rw[f];simp
 have D:X.cell? (w,2)=U ↑a:=by rw[f];simp
 have C:X.cell? (w,3)=U ↑b:=by rw[f];simp
 have hZ:X=w.heap.size+2:=by rw[f];simp
 have T:X.ownsRow (w.heap.size+1) 9 1 (UO (U ⟨w.heap.size+1,0,Z⟩) 2 2) 2 ([UQ ⟨#[108,105,115,116]⟩,n]):=by refine⟨rfl,.inr ⟨w.heap.size+1,2,#[UQ ⟨#[108,105,115,116]⟩,n],rfl,UY _,?_,UY _,by decide,rfl,rfl⟩⟩;rw[f];have e:=heap_alloc_new (w.alloc (UX #[n,UE,a,b] 163)) (UX #[UQ ⟨#[108,105,115,116]⟩,n] 9);rw[show (w.alloc (UX #[n,UE,a,b] 163)).heap.size=w.heap.size+1 from by simp] at e;exact e
 have bX:=zr (w.heap.size+1) X;clear f he;have h:=T.drew;go_region_held3 (fun w'=>UH (w.heap.size+1) X w'/\w'.cell? (w,0)=U ↑n/\w'.cell? (w,1)=U ↑UE/\w'.cell? (w,2)=U ↑a/\w'.cell? (w,3)=U ↑b)
  (first
   |(go_split_ands;exact jh (jT r Uk l) (fun d=>⟨(d.cell (p:=(w,0)) Ui).trans G,(d.cell (p:=(w,1)) Ui).trans F,(d.cell (p:=(w,2)) Ui).trans D,(d.cell (p:=(w,3)) Ui).trans C⟩))
   |(go_split_ands;exact jh (jT r Uk aS) (fun d=>⟨(d.cell (p:=(w,0)) Ui).trans G,(d.cell (p:=(w,1)) Ui).trans F,(d.cell (p:=(w,2)) Ui).trans D,(d.cell (p:=(w,3)) Ui).trans C⟩))
   |(go_split_ands;exact jh (jT r Uk (ic _)) (fun d=>⟨(d.cell (p:=(w,0)) Ui).trans G,(d.cell (p:=(w,1)) Ui).trans F,(d.cell (p:=(w,2)) Ui).trans D,(d.cell (p:=(w,3)) Ui).trans C⟩))
   |(go_split_ands;exact jh (Below.grown Uk j Un (fun k d=>lI h d)) (fun d=>⟨(d.cell (p:=(w,0)) Ui).trans G,(d.cell (p:=(w,1)) Ui).trans F,(d.cell (p:=(w,2)) Ui).trans D,(d.cell (p:=(w,3)) Ui).trans C⟩)))
  (first
   |(go_at_call 292;go_split_ands;refine aK (Ak _ _ (eX.jk o Uk) O O) fun w5 l=>?_;have ad:=pH (B:=w.heap.size+1) (x:=X) Uk l;have h:=nR h l)
   |((refine step_append_lies _ (by rfl) _ _ _ (by rfl) (w.heap.size+1) 9 i0 _ 1 16 underlying78 aa S P I rfl O (.slice (U ⟨w.heap.size+1,0,Z⟩) 2 2) 2 ([UQ ⟨#[108,105,115,116]⟩,n]) (by rfl) (h.alloc _) (w5,0) 2 2 [dU a,dU b] (by rfl) (by rfl) (Wf (cs:=#[dU a,dU b]) (t:=9) (fr:=(0,0)) (heap_alloc_new _ _)) Uq O Up O Un (w5.heap.size+1) Ui ?_;intro g cap w6 i j ae ac)))
 go_split_ands;have A:UH (w.heap.size+1) X w6:=Uk;have ab:=hide A;clear A;go_wp2;go_ret;exact⟨_,rfl,ov i O,u.trans (ab.mono O)⟩
theorem QN(k:M)(h:k<7):[UQ ⟨#[109,111]⟩,UQ ⟨#[116,117]⟩,UQ ⟨#[119,101]⟩,UQ ⟨#[116,104]⟩,UQ ⟨#[102,114]⟩,UQ ⟨#[115,97]⟩,UQ ⟨#[115,117]⟩][k]?=U (UQ (nN k)):=by rcases (show k=0\/k=1\/k=2\/k=3\/k=4\/k=5\/k=6 by omega) with rfl|rfl|rfl|rfl|rfl|rfl|rfl <;> rfl
theorem DS.nat{b:M}(h:DS w b acc)(k:M)(d:k<7):w.cell? (b,k)=U (UR (aI acc k)):=by have:=h.at k O O;simpa using this
theorem RY(sym w:Us)(W:UF)(hs:w.size<=160)(ho:Txt.fC w=UE)
  (c0:(sym.toList==[85,78,73,84,83])=UD) (c1:(sym.toList==[77,73,78,85,84,69,83])=UD) (c2:(sym.toList==[69,86,69,82,89])=UD) (c3:(sym.toList==[73,68])=UD) (c4:(sym.toList==[84,73,77,69])=UD) (c5:(sym.toList==[79,78])=UE):
  UI prog 29 #[sym,w] W fun e w'=>e=UW (pA w)/\UH W W w':=by
 go_in;go_wp21;refine (Cd w W hs).mono ?_;rintro e C ⟨⟨acc,rfl,l⟩,t⟩;have P:=hide (l ho);have HS:=hide (GW (aO P));have HW:Hid (pA w=uh acc):=by show pA w=_;unfold pA;rw[aO P]
 clear l;unfold gD;go_wp2;obtain⟨X,u⟩:∃ X,X=C.alloc (UX #[aI acc 0,aI acc 1,aI acc 2,aI acc 3,aI acc 4,aI acc 5,aI acc 6] 116):=⟨_,rfl⟩;rw[<- u];have F:UH W W X:=by rw[u];exact t.alloc t.size _
 have dX:DS X C acc:=by rw[u];refine⟨?_,?_,?_,?_,?_,?_,?_,fun j=>?_⟩ <;> simp
 have aa:C+1=X.heap.size:=by rw[u];simp
 clear u;go_loopw [12,13] (fun o i wx=>∃ k:M,k<=7/\i=V Y k/\o=UQ (jo acc k)/\DS wx C acc/\UH W W wx) (fun _ i _=>7-(intOf i).toNat)
 .exact⟨0,O,rfl,rfl,dX,F⟩
 .obtain⟨k,hk,rfl,rfl,G,h⟩:=hrel;have oz:=Af acc k
  by_cases f:k<7
  .have hi:(k:N)<7:=O
   have ab:(0:N)<=(k:N):=Yz _;have I:=G.nat k f;have hl:([UQ ⟨#[109,111]⟩,UQ ⟨#[116,117]⟩,UQ ⟨#[119,101]⟩,UQ ⟨#[116,104]⟩,UQ ⟨#[102,114]⟩,UQ ⟨#[115,97]⟩,UQ ⟨#[115,117]⟩][k]'f)=UQ (nN k):=Wq ((Wx f).symm.trans (QN k f));have T:=CI k;have S:(nN k).size<=2:=O;clear T;have d:jo acc (k+1)=if aI acc k then jo acc k++⟨#[44]⟩++nN k else jo acc k:=rfl;have A:=hide d;clear d
   cases D:aI acc k
   .rw[D] at I;have r:Hid (jo acc (k+1)=jo acc k):=(aO A).trans (by rw[D];rfl);go_wp2;exact⟨⟨k+1,O,by go_num,by rw[r],G,h⟩,by simp[intOf];omega⟩
   .rw[D] at I;have r:Hid (jo acc (k+1)=jo acc k++⟨#[44]⟩++nN k):=(aO A).trans (by rw[D];rfl);go_wp2;exact⟨⟨k+1,O,by go_num,by rw[r],G.later aS,h.alloc h.size _⟩,by simp[intOf];omega⟩
  .obtain rfl:k=7:=O
   have h1:(1:N)<=((jo acc 7).size:N):=by have:=aO HS;omega
   go_wp2;go_ret;exact⟨zX (by rw[HW];rfl),h⟩
theorem Ql{w:Us}(l:(sym.toList==[85,78,73,84,83])=UD)(j:(sym.toList==[77,73,78,85,84,69,83])=UD)(i:(sym.toList==[69,86,69,82,89])=UD)(h:(sym.toList==[73,68])=UD)(f:(sym.toList==[84,73,77,69])=UD)(d:(sym.toList==[79,78])=UD):aZ sym w=w:=by simp[aZ,l,j,i,h,f,d]
theorem Ik{w:Us}(h:(sym.toList==[84,73,77,69])=UE)(d:bG sym w=UE):0<=eJ w:=by have e:=beq_iff_eq.1 h;unfold bG at d;rw[e] at d;simpa using d
theorem PG{w:Us}(h:(sym.toList==[79,78])=UE)(d:bG sym w=UE):Txt.fC w=UE:=by have e:=beq_iff_eq.1 h;unfold bG at d;rw[e] at d;simpa using d
theorem I9(sym w:Us)(W:UF)(o:Env W)(l:w.size<=160)(t:bG sym w=UE):UI prog 29 #[sym,w] W fun e w'=>e=UW (aZ sym w)/\UH W W w':=by
 cases d:(sym.toList==[85,78,73,84,83])
 case true =>rw[show aZ sym w=Txt.bE (cB w 1 7) from by simp[aZ,d]];exact Am sym w W o l (.inl d)
 cases f:(sym.toList==[77,73,78,85,84,69,83])
 case true =>rw[show aZ sym w=Txt.bE (cB w 1 7) from by simp[aZ,d,f]];exact Am sym w W o l (.inr (.inl ⟨d,f⟩))
 cases h:(sym.toList==[69,86,69,82,89])
 case true =>rw[show aZ sym w=Txt.bE (cB w 1 7) from by simp[aZ,d,f,h]];exact Am sym w W o l (.inr (.inr (.inl ⟨d,f,h⟩)))
 cases i:(sym.toList==[73,68])
 case true =>rw[show aZ sym w=Txt.bE (cB w 1 7) from by simp[aZ,d,f,h,i]];exact Am sym w W o l (.inr (.inr (.inr ⟨d,f,h,i⟩)))
 cases j:(sym.toList==[84,73,77,69])
 case true =>rw[show aZ sym w=dU (eJ w) from by simp[aZ,d,f,h,i,j]];exact Sw sym w W o l (Ik j t) d f h i j
 cases r:(sym.toList==[79,78])
 case true =>rw[show aZ sym w=pA w from by simp[aZ,d,f,h,i,j,r]];exact RY sym w W l (PG r t) d f h i j r
 rw[Ql d f h i j r];refine (Sy sym w W d f h i j r).mono ?_;rintro e w' ⟨rfl,rfl⟩;exact⟨rfl,Below.refl _ _⟩
def iA(acc:J N):M->J Us
 |0=>[]
 |k+1=>if aI acc k then iA acc k++[nN k] else iA acc k
theorem Hq(acc:J N):∀ k:M,(iA acc k).length<=k
 |0=>zq _
 |k+1=>by have:=Hq acc k;unfold iA;split <;> simp <;> omega
theorem Env.day(h:Env w)(k:M)(d:k<7):w.cell? (5,k)=U (UQ (nN k)):=by
 rcases (show k=0\/k=1\/k=2\/k=3\/k=4\/k=5\/k=6 by omega) with rfl|rfl|rfl|rfl|rfl|rfl|rfl
 .exact h.mo
 .exact h.tu
 .exact h.we
 .exact h.th
 .exact h.fr
 .exact h.sa
 .exact h.su
def nK(acc:J N):Us:=⟨(Zs ((iA acc 7).map (·.data.toList)) [44]).toArray⟩
theorem Sa(acc:J N)(w:UF)(he:Env w)(D:iA acc 7≠[])(A:(Zs ((iA acc 7).map (·.data.toList)) [44]).length<=160):UI prog 301 #[gD acc] w fun e w'=>e=UW (nK acc)/\UH w w w':=by
 obtain⟨i0,hi,ae,ad,ac⟩:=info_parts qm;have HE:=hide he;have av:=he.size;have ak:=hide D;have ab:=hide A;clear he D A;simp only[gD];go_in;go_wp2;obtain⟨X,S⟩:∃ X,X=w.alloc (UX #[aI acc 0,aI acc 1,aI acc 2,aI acc 3,aI acc 4,aI acc 5,aI acc 6] 153):=⟨_,rfl⟩;rw[<- S];have aj:UH (w.heap.size+1) X X:=zr _ _;have I:UH w w X:=by rw[S];exact aS
 have dX:DS X w acc:=by rw[S];refine⟨?_,?_,?_,?_,?_,?_,?_,fun j=>?_⟩ <;> simp
 have ao:w+1=X.heap.size:=by rw[S];simp
 have HX:=hide ((aO HE).later I);clear S;go_loopw [3,4,5] (fun v _ i wx=>∃ k:M,k<=7/\i=V Y k/\wx.ownsRow (w.heap.size+1) 9 1 v (iA acc k).length ((iA acc k).map UQ)/\UH (w.heap.size+1) X wx) (fun _ _ i _=>7-(intOf i).toNat)
 .exact⟨0,O,rfl,World.ownsRow_nil _ _ _ _,aj⟩
 .obtain⟨k,hk,rfl,d,f⟩:=hrel;have aq:=Hq acc k
  by_cases F:k<7
  .have au:(k:N)<7:=O
   have ar:(0:N)<=(k:N):=Yz _;have hc:wr.cell? ⟨w.heap.size,k,Z⟩=U (UR (aI acc k)):=(f.cell (p:=⟨w.heap.size,k,Z⟩) Ui).trans (dX.nat k F);have an:wr.cell? ⟨5,k,Z⟩=U (UQ (nN k)):=(f.cell (p:=⟨5,k,Z⟩) (show 5<w.heap.size+1 by omega)).trans ((aO HX).day k F);have o:iA acc (k+1)=if aI acc k then iA acc k++[nN k] else iA acc k:=rfl;have T:=hide o;clear o;have al:=f.size
   cases hm:aI acc k
   .rw[hm] at hc;have C:Hid (iA acc (k+1)=iA acc k):=(aO T).trans (by rw[hm];rfl);go_wp2;exact⟨⟨k+1,O,by go_num,by rw[C];exact d,f⟩,by simp[intOf];omega⟩
   .rw[hm] at hc;have C:Hid (iA acc (k+1)=iA acc k++[nN k]):=(aO T).trans (by rw[hm];rfl)
    go_wp2_with (first
     |(at_builtin;refine wpList_append_own _ rfl _ _ 78 rfl (w.heap.size+1) 9 i0 (UQ ⟨#[]⟩) 1 16 underlying78 hi ae ad ac rfl Uj _ _ _ rfl (d.alloc _) (wr,0) 1 1 [nN k] rfl rfl ?c1 ?c2 ?c3 ?c4 ?c5 ?_))
    .exact Wf (cs:=#[nN k]) (heap_alloc_new wr _)
    .simp[Wg]
    .unfold maxLen;omega
    .omega
    .simp;omega
    intro v' w' r t _;have P:UH (w.heap.size+1) X w':=(f.alloc O _).grown t Un (fun k hk=>lI d hk);have HO:Hid (w'.ownsRow (w.heap.size+1) 9 1 v' (iA acc (k+1)).length ((iA acc (k+1)).map UQ)):=by show w'.ownsRow _ _ _ _ _ _;rw[C,VU,VA];exact ov r O
    clear r t;go_wp2;exact⟨⟨k+1,O,by go_num,HO,P⟩,by simp[intOf];omega⟩
  .obtain rfl:k=7:=O
   obtain⟨a,c,g,rfl,l⟩:=xK d rfl;have u:0<(iA acc 7).length:=List.length_pos_iff.2 (aO ak);obtain rfl:=l.at_ u;have aa:=hide l;have G:(iA acc 7).length<=c:=by
    rcases d.2 with ⟨h,_⟩|⟨g',cap,aw,hv,_,_,hc,_⟩
    .cases h
    .cases hv;exact hc
   have af:g<wr:=U1 _ (g,0) (l.cells 0 u);clear d l;go_wp21;refine (strings_Join g 0 c (iA acc 7) ⟨#[44]⟩ wr (fun j x hx=>?_) af O G (U0 (aO ab) O)).mono ?_
   .obtain⟨hj,e⟩:=Zt.1 hx;have:=(aO aa).cells j hj;rw[e] at this;rw[Zu];exact this
   rintro e w' ⟨rfl,ag⟩;have ai:=I.trans (Below.trans (f.mono O) (ag.mono (by have:=f.size;omega)));go_wp2;go_ret;exact⟨rfl,ai⟩
theorem Ry(ev:N)(acc:J N)(fr mn mi ti un:N)(w:UF)(l:Env w)(t:0<=ev)(r:ev<=9999999):UI prog 300 #[kn 1 ev acc fr mn mi ti un] w fun e w'=>WR w w' [fZ,Txt.bE ev] e:=by
 simp only[kn];go_in;go_wp21;obtain⟨X,j⟩:∃ X,X=w.alloc (UX #[V Y 1,ev,aI acc 0,aI acc 1,aI acc 2,aI acc 3,aI acc 4,aI acc 5,aI acc 6,fr,mn,mi,ti,un] 155):=⟨_,rfl⟩;rw[<- j];have d:UH w w X:=by rw[j];exact aS
 have o:=l.later d;clear j l;refine aK (nz ev X o O O) fun w4 i=>?_;have f:=iY d i;have h:=f.size;go_wp2;go_ret;exact⟨_,rfl,oR w _ [fZ,Txt.bE ev] w4 h (heap_alloc_new w4 _) (show 2<=160 by omega),iY f aS⟩
theorem Sh(ev:N)(acc:J N)(fr mn mi ti un:N)(w:UF)(l:Env w)(t:0<=ev)(r:ev<=9999999):UI prog 300 #[kn 3 ev acc fr mn mi ti un] w fun e w'=>WR w w' [gg,Txt.bE ev] e:=by
 simp only[kn];go_in;go_wp21;obtain⟨X,j⟩:∃ X,X=w.alloc (UX #[V Y 3,ev,aI acc 0,aI acc 1,aI acc 2,aI acc 3,aI acc 4,aI acc 5,aI acc 6,fr,mn,mi,ti,un] 155):=⟨_,rfl⟩;rw[<- j];have d:UH w w X:=by rw[j];exact aS
 have o:=l.later d;clear j l;refine aK (nz ev X o O O) fun w4 i=>?_;have f:=iY d i;have h:=f.size;go_wp2;go_ret;exact⟨_,rfl,oR w _ [gg,Txt.bE ev] w4 h (heap_alloc_new w4 _) (show 2<=160 by omega),iY f aS⟩
theorem Sb(ev:N)(acc:J N)(fr mn mi ti un:N)(w:UF)(he:Env w)(e0:0<=ev)(e1:ev<=9999999)(A:iA acc 7≠[])(t:(Zs ((iA acc 7).map (·.data.toList)) [44]).length<=160):UI prog 300 #[kn 2 ev acc fr mn mi ti un] w fun e w'=>WR w w' [fU,Txt.bE ev,nK acc] e:=by
 have ab:=hide A;have F:=hide t;clear A t;simp only[kn];go_in;go_wp21;obtain⟨X,f⟩:∃ X,X=w.alloc (UX #[V Y 2,ev,aI acc 0,aI acc 1,aI acc 2,aI acc 3,aI acc 4,aI acc 5,aI acc 6,fr,mn,mi,ti,un] 155):=⟨_,rfl⟩;rw[<- f];have C:UH w w X:=by rw[f];exact aS
 have eX:=he.later C;have r:w+1<=X.heap.size:=by rw[f];simp
 have h:10<=w.heap.size+1:=by have:=he.size;omega
 have x0:X.cell? (w,0)=U (V Y 2):=by rw[f];simp
 have x1:X.cell? (w,1)=U ↑ev:=by rw[f];simp
 have x2:X.cell? (w,2)=U (UR (aI acc 0)):=by rw[f];simp
 have x3:X.cell? (w,3)=U (UR (aI acc 1)):=by rw[f];simp
 have x4:X.cell? (w,4)=U (UR (aI acc 2)):=by rw[f];simp
 have T:X.cell? (w,5)=U (UR (aI acc 3)):=by rw[f];simp
 have S:X.cell? (w,6)=U (UR (aI acc 4)):=by rw[f];simp
 have P:X.cell? (w,7)=U (UR (aI acc 5)):=by rw[f];simp
 have I:X.cell? (w,8)=U (UR (aI acc 6)):=by rw[f];simp
 have G:X.cell? (w,9)=U ↑fr:=by rw[f];simp
 have o:X.cell? (w,10)=U ↑mn:=by rw[f];simp
 have l:X.cell? (w,11)=U ↑mi:=by rw[f];simp
 have j:X.cell? (w,12)=U ↑ti:=by rw[f];simp
 have i:X.cell? (w,13)=U ↑un:=by rw[f];simp
 have bX:=zr (w.heap.size+1) X;clear f he;have ae:=r;go_region_held3 (fun w'=>UH (w.heap.size+1) X w'/\w'.cell? ⟨w.heap.size,0,Z⟩=U (V Y 2)/\w'.cell? ⟨w.heap.size,1,Z⟩=U (V Y ev)/\w'.cell? ⟨w.heap.size,2,Z⟩=U (UR (aI acc 0))/\w'.cell? ⟨w.heap.size,3,Z⟩=U (UR (aI acc 1))/\w'.cell? ⟨w.heap.size,4,Z⟩=U (UR (aI acc 2))/\w'.cell? ⟨w.heap.size,5,Z⟩=U (UR (aI acc 3))/\w'.cell? ⟨w.heap.size,6,Z⟩=U (UR (aI acc 4))/\w'.cell? ⟨w.heap.size,7,Z⟩=U (UR (aI acc 5))/\w'.cell? ⟨w.heap.size,8,Z⟩=U (UR (aI acc 6))/\w'.cell? ⟨w.heap.size,9,Z⟩=U (V Y fr)/\w'.cell? ⟨w.heap.size,10,Z⟩=U (V Y mn)/\w'.cell? ⟨w.heap.size,11,Z⟩=U (V Y mi)/\w'.cell? ⟨w.heap.size,12,Z⟩=U (V Y ti)/\w'.cell? ⟨w.heap.size,13,Z⟩=U (V Y un))
  (first
   |(go_split_ands;exact jh (jT r Uk u) (fun d=>⟨(d.cell (p:=(w,0)) Ui).trans x0,(d.cell (p:=(w,1)) Ui).trans x1,(d.cell (p:=(w,2)) Ui).trans x2,(d.cell (p:=(w,3)) Ui).trans x3,(d.cell (p:=(w,4)) Ui).trans x4,(d.cell (p:=(w,5)) Ui).trans T,(d.cell (p:=(w,6)) Ui).trans S,(d.cell (p:=(w,7)) Ui).trans P,(d.cell (p:=(w,8)) Ui).trans I,(d.cell (p:=(w,9)) Ui).trans G,(d.cell (p:=(w,10)) Ui).trans o,(d.cell (p:=(w,11)) Ui).trans l,(d.cell (p:=(w,12)) Ui).trans j,(d.cell (p:=(w,13)) Ui).trans i⟩))
   |(go_split_ands;exact jh (jT r Uk aS) (fun d=>⟨(d.cell (p:=(w,0)) Ui).trans x0,(d.cell (p:=(w,1)) Ui).trans x1,(d.cell (p:=(w,2)) Ui).trans x2,(d.cell (p:=(w,3)) Ui).trans x3,(d.cell (p:=(w,4)) Ui).trans x4,(d.cell (p:=(w,5)) Ui).trans T,(d.cell (p:=(w,6)) Ui).trans S,(d.cell (p:=(w,7)) Ui).trans P,(d.cell (p:=(w,8)) Ui).trans I,(d.cell (p:=(w,9)) Ui).trans G,(d.cell (p:=(w,10)) Ui).trans o,(d.cell (p:=(w,11)) Ui).trans l,(d.cell (p:=(w,12)) Ui).trans j,(d.cell (p:=(w,13)) Ui).trans i⟩))
   |(go_split_ands;exact jh (jT r Uk (ic _)) (fun d=>⟨(d.cell (p:=(w,0)) Ui).trans x0,(d.cell (p:=(w,1)) Ui).trans x1,(d.cell (p:=(w,2)) Ui).trans x2,(d.cell (p:=(w,3)) Ui).trans x3,(d.cell (p:=(w,4)) Ui).trans x4,(d.cell (p:=(w,5)) Ui).trans T,(d.cell (p:=(w,6)) Ui).trans S,(d.cell (p:=(w,7)) Ui).trans P,(d.cell (p:=(w,8)) Ui).trans I,(d.cell (p:=(w,9)) Ui).trans G,(d.cell (p:=(w,10)) Ui).trans o,(d.cell (p:=(w,11)) Ui).trans l,(d.cell (p:=(w,12)) Ui).trans j,(d.cell (p:=(w,13)) Ui).trans i⟩))
   |(go_split_ands;exact jh (Below.grown Uk hgrow Un (fun k d=>lI hoN d)) (fun d=>⟨(d.cell (p:=(w,0)) Ui).trans x0,(d.cell (p:=(w,1)) Ui).trans x1,(d.cell (p:=(w,2)) Ui).trans x2,(d.cell (p:=(w,3)) Ui).trans x3,(d.cell (p:=(w,4)) Ui).trans x4,(d.cell (p:=(w,5)) Ui).trans T,(d.cell (p:=(w,6)) Ui).trans S,(d.cell (p:=(w,7)) Ui).trans P,(d.cell (p:=(w,8)) Ui).trans I,(d.cell (p:=(w,9)) Ui).trans G,(d.cell (p:=(w,10)) Ui).trans o,(d.cell (p:=(w,11)) Ui).trans l,(d.cell (p:=(w,12)) Ui).trans j,(d.cell (p:=(w,13)) Ui).trans i⟩)))
  (first
   |(go_at_call 289;go_split_ands;refine aK (nz _ _ (eX.jk h Uk) O O) fun w4 u=>?_)
   |(go_at_call 301;go_split_ands;refine aK (Sa acc _ (eX.jk h Uk) (aO ab) (aO F)) fun w5 u=>?_;have ad:=pH (B:=w.heap.size+1) (x:=X) Uk u))
 go_split_ands;have D:UH (w.heap.size+1) X (w5.alloc (UX #[UQ ⟨#[119,101,101,107,108,121]⟩,Txt.bE ev,nK acc] 9)):=Uk;have ac:=hide D;have aa:w<=w5.heap.size:=O;clear D;go_wp2;go_ret;exact⟨_,rfl,oR w _ [fU,Txt.bE ev,nK acc] w5 aa (heap_alloc_new w5 _) (show 3<=160 by omega),C.trans (ac.mono O)⟩
def gL(fr mn mi:N):J Us:=[cC,fO fr,cO,jg mn,dA,Txt.bE mi]
inductive wV:Ux->Ux->Ut Ux->Ut Us->Prop where
 |daily (ev:Ux) (acc:Ut Ux) (e0:0<=ev) (e1:ev<=9999999):wV 1 ev acc [fZ,Txt.bE ev]
 |weekly (ev:Ux) (acc:Ut Ux) (e0:0<=ev) (e1:ev<=9999999) (hne:iA acc 7≠[]) (hlen:(Zs ((iA acc 7).map (·.data.toList)) [44]).length<=160):wV 2 ev acc [fU,Txt.bE ev,nK acc]
 |monthly (ev:Ux) (acc:Ut Ux) (e0:0<=ev) (e1:ev<=9999999):wV 3 ev acc [gg,Txt.bE ev]
inductive Gp:Ux->Ux->Ut Us->Prop where
 |times (ti un:Ux) (t0:0<ti) (t1:ti<=9999999):Gp ti un [eV,Txt.bE ti]
 |til (un:Ux) (u0:0<=un) (u1:un<=728):Gp 0 un [fe,fO un]
inductive RW:Ux->Ux->Ut Ux->Ux->Ux->Ux->Ux->Ux->Ut Us->Prop where
 |mk (pc ev:Ux) (acc:Ut Ux) (fr mn mi ti un:Ux) (ps es:Ut Us) (hp:wV pc ev acc ps) (he:Gp ti un es) (f0:0<=fr) (f1:fr<=728) (m0:0<=mn) (m1:mn<1440) (i0:0<=mi) (i1:mi<=9999999):RW pc ev acc fr mn mi ti un (ps++gL fr mn mi++es)
inductive PW:UG->Ut Us->Prop where
 |bH (n:Us) (u:Ux) (u0:0<=u) (u1:u<=9999999):PW (UU 143 (UT #[UQ n,UL UV u])) [ix,n,Txt.bE u]
 |book (n:Us) (u a b:Ux) (u0:0<=u) (u1:u<=9999999) (a0:0<=a) (a1:a<=1048320) (b0:0<=b) (b1:b<=1048320):PW (UU 148 (UT #[UQ n,UL UV u,UL UV a,UL UV b])) [iO,n,Txt.bE u,dU a,dU b]
 |hold (n:Us) (u a b m:Ux) (u0:0<=u) (u1:u<=9999999) (a0:0<=a) (a1:a<=1048320) (b0:0<=b) (b1:b<=1048320) (m0:0<=m) (m1:m<=9999999):PW (UU 150 (UT #[UQ n,UL UV u,UL UV a,UL UV b,UL UV m])) [iE,n,Txt.bE u,dU a,dU b,Txt.bE m]
 |wait (n:Us) (u a b m:Ux) (u0:0<=u) (u1:u<=9999999) (a0:0<=a) (a1:a<=1048320) (b0:0<=b) (b1:b<=1048320) (m0:0<=m) (m1:m<=9999999):PW (UU 151 (UT #[UQ n,UL UV u,UL UV a,UL UV b,UL UV m])) [iF,n,Txt.bE u,dU a,dU b,Txt.bE m]
 |series (n:Us) (u pc ev:Ux) (acc:Ut Ux) (fr mn mi ti un:Ux) (xs:Ut Us) (u0:0<=u) (u1:u<=9999999) (hr:RW pc ev acc fr mn mi ti un xs):PW (UU 158 (UT #[UQ n,UL UV u,UL UV pc,UL UV ev,UR (aI acc 0),UR (aI acc 1),UR (aI acc 2),UR (aI acc 3),UR (aI acc 4),UR (aI acc 5),UR (aI acc 6),UL UV fr,UL UV mn,UL UV mi,UL UV ti,UL UV un])) ([eQ,n,Txt.bE u]++xs)
 |bL (u:Ux) (u0:0<=u) (u1:u<=9999999):PW (UU 160 (UT #[UL UV u])) [iU,Txt.bE u]
 |cancel (u:Ux) (u0:0<=u) (u1:u<=9999999):PW (UU 161 (UT #[UL UV u])) [iR,Txt.bE u]
 |list0 (n:Us) (a b:Ux):PW (UU 163 (UT #[UQ n,UR UD,UL UV a,UL UV b])) [dC,n]
 |list1 (n:Us) (a b:Ux) (a0:0<=a) (a1:a<=1048320) (b0:0<=b) (b1:b<=1048320):PW (UU 163 (UT #[UQ n,UR UE,UL UV a,UL UV b])) [dC,n,dU a,dU b]
 |waiting:PW (UU 166 (UT #[])) [iT]
 |ef (n:Us) (a b:Ux) (a0:0<=a) (a1:a<=1048320) (b0:0<=b) (b1:b<=1048320):PW (UU 169 (UT #[UQ n,UL UV a,UL UV b])) [iu,n,dU a,dU b]
 |find (n:Us) (u m a b:Ux) (u0:0<=u) (u1:u<=9999999) (m0:0<=m) (m1:m<=9999999) (a0:0<=a) (a1:a<=1048320) (b0:0<=b) (b1:b<=1048320):PW (UU 171 (UT #[UQ n,UL UV u,UL UV m,UL UV a,UL UV b])) [ir,n,Txt.bE u,Txt.bE m,dU a,dU b]
 |expand (pc ev:Ux) (acc:Ut Ux) (fr mn mi ti un:Ux) (xs:Ut Us) (hr:RW pc ev acc fr mn mi ti un xs):PW (UU 173 (UT #[UL UV pc,UL UV ev,UR (aI acc 0),UR (aI acc 1),UR (aI acc 2),UR (aI acc 3),UR (aI acc 4),UR (aI acc 5),UR (aI acc 6),UL UV fr,UL UV mn,UL UV mi,UL UV ti,UL UV un])) ([fA]++xs)
 |tick (u:Ux) (u0:0<=u) (u1:u<=9999999):PW (UU 175 (UT #[UL UV u])) [ja,Txt.bE u]
 |clock:PW (UU 176 (UT #[])) [iN]
def jn(d:J Us):Us:=⟨(Zs (d.map (·.data.toList)) [32]).toArray⟩
open aA (aQ)
structure NV(w:UF)(v:UG)(l:J N):Prop where
 form:∃ a cap,v=UO a l.length cap
 cell:∀ (k:M) (hk:k<l.length),∃ g cap,v=UO (U ⟨g,0,Z⟩) l.length cap/\w.cell? (g,k)=U (V Y l[k])
theorem NV.later{l:J N}(h:NV w v l)(k:UH w w w'):NV w' v l :=
 ⟨h.form,fun i d=>by let⟨g,cap,e,a⟩:=h.cell i d;exact⟨g,cap,e,aT k a⟩⟩
structure SV(w:UF)(v:UG)(L:J (N × N)):Prop where
 form:∃ a cap,v=UO a L.length cap
 cell:∀ (k:M) (hk:k<L.length),∃ g cap,v=UO (U ⟨g,0,Z⟩) L.length cap/\w.cell? (g,k*2)=U (V Y L[k].1)/\w.cell? (g,k*2+1)=U (V Y L[k].2)
theorem SV.later(h:SV w v L)(k:UH w w w'):SV w' v L :=
 ⟨h.form,fun i d=>by let⟨g,cap,e,a,b⟩:=h.cell i d;exact⟨g,cap,e,aT k a,aT k b⟩⟩
structure EV(w:UF)(v:UG)(l:J (aQ × UG)):Prop where
 form:∃ a cap,v=UO a l.length cap
 cell:∀ (k:M) (hk:k<l.length),∃ g cap,v=UO (U ⟨g,0,Z⟩) l.length cap/\w.cell? (g,k*6)=U (V Y l[k].1.id)/\w.cell? (g,k*6+1)=U (V Y l[k].1.kind)/\w.cell? (g,k*6+2)=U (UQ l[k].1.bH)/\w.cell? (g,k*6+3)=U (V Y l[k].1.aN)/\w.cell? (g,k*6+4)=U l[k].2/\w.cell? (g,k*6+5)=U (V Y l[k].1.bY)
 sp:∀ p∈l,SV w p.2 p.1.aR
theorem EV.later{l:J (aQ × UG)}(h:EV w v l)(k:UH w w w'):EV w' v l :=
 ⟨h.form,fun i f=>by let⟨g,cap,e,a0,a1,a2,a3,a4,a5⟩:=h.cell i f;exact⟨g,cap,e,aT k a0,aT k a1,aT k a2,aT k a3,aT k a4,aT k a5⟩,fun p d=>(h.sp p d).later k⟩
namespace aA
theorem KY{a b:N}{x:aQ}:∀ l:J aQ,(qy a b x l).Perm (x :: l)
 |[]=>by simp[qy]
 |y :: r=>by
  simp only[qy];split
  .exact Zv _
  .exact ((KY r).cons y).trans (List.Perm.swap x y r)
theorem M9{a b:N}:∀ l:J aQ,(tM a b l).Perm l
 |[]=>Zv _
 |x :: r=>(KY _).trans ((M9 r).cons x)
end aA
open aA (aQ eM hasB)
theorem SV.own(h:w.ownsRow B 83 2 v L.length (L.flatMap ia)):SV w v L:=by refine⟨lz h,fun k i=>?_⟩;let⟨g,cap,e⟩:=XR h O;subst e;let⟨f1,f2⟩:=Ls k i;have j:=Me L;have f:=h.cellAt (k*2) O;have d:=h.cellAt (k*2+1) O;rw[f1] at f;rw[f2] at d;exact⟨g,cap,rfl,f,d⟩
theorem EV.own{l:J (aQ × UG)}(h:w.ownsRow B 85 6 v l.length (l.flatMap gv))(sp:∀ p∈l,SV w p.2 p.1.aR):EV w v l:=by
 refine⟨lz h,fun k f=>?_,sp⟩;let⟨g,cap,e⟩:=XR h O;subst e;have at_:∀ j,j<6->w.cell? (g,k*6+j)=(gv l[k])[j]?:=fun j i=>by have d:=h.cellAt (k*6+j) O;rw[tW f i] at d;exact d
 exact⟨g,cap,rfl,at_ 0 O,at_ 1 O,at_ 2 O,at_ 3 O,at_ 4 O,at_ 5 O⟩
namespace aA
end aA
namespace aA
theorem b8H{s:St}{l:jb}(h:(aX s l).2.err≠0):(aX s l).2=bS.error (aX s l).2.err:=by
 cases l with
 |bH name u =>
  simp only[aX] at h ⊢;by_cases f:cI name s.ts≠0
  .rw[Uz f];rfl
  .rw[Uy f] at h ⊢
   by_cases d:s.ts.length=4
   .rw[Uz d];rfl
   .rw[Uy d] at h;exact UA rfl h
 |enter k name u fr til long =>simp only[aX] at h ⊢;by_cases c:qK s k name u fr til long≠0;rw[Uz c];rfl;rw[Uy c] at h;exact UA rfl h
 |series name u r =>simp only[aX] at h ⊢;by_cases c:oG s name u r≠0;rw[Uz c];rfl;rw[Uy c] at h;exact UA rfl h
 |bL id =>
  simp only[aX] at h ⊢
  cases i:mW id s.es with
  |none=>rfl
  |some e =>rw[i] at h;simp only at h ⊢;by_cases c:e.kind≠2;rw[Uz c];rfl;rw[Uy c] at h;exact UA rfl h
 |cancel id =>
  simp only[aX] at h ⊢
  cases i:mW id s.es with
  |none=>rfl
  |some e=>rw[i] at h;exact UA rfl h
 |list name fr til =>
  simp only[aX] at h ⊢;by_cases f:cI name s.ts=0
  .rw[Uz f];rfl
  .rw[Uy f] at h ⊢
   by_cases d:til<=fr
   .rw[Uz d];rfl
   .rw[Uy d] at h;exact UA rfl h
 |waiting=>exact UA rfl h
 |ef name fr til =>
  simp only[aX] at h ⊢;by_cases f:cI name s.ts=0
  .rw[Uz f];rfl
  .rw[Uy f] at h ⊢
   by_cases d:til<=fr
   .rw[Uz d];rfl
   .rw[Uy d] at h;exact UA rfl h
 |find name u long fr til =>
  simp only[aX] at h ⊢;by_cases f:eW s.ts name u≠0
  .rw[Uz f];rfl
  .rw[Uy f] at h ⊢
   by_cases d:til<=fr
   .rw[Uz d];rfl
   .rw[Uy d] at h;exact UA rfl h
 |expand r =>simp only[aX] at h ⊢;by_cases c:Rd.iS r≠0;rw[Uz c];rfl;rw[Uy c] at h;exact UA rfl h
 |tick n =>simp only[aX] at h ⊢;by_cases c:1048320<s.now+n;rw[Uz c];rfl;rw[Uy c] at h;exact UA rfl h
 |clock=>exact UA rfl h
end aA
namespace aA
theorem Jw:∀ (l:J N)(a b:N),l.Pairwise (· < ·)->(∀ x∈l,a<=x/\x<=b)->(l.length:N)<=max 0 (b-a+1)
 |[],_,_,_,_=>by grind
 |x :: r,a,b,hp,hb=>by let⟨h1,h2⟩:=List.pairwise_cons.1 hp;have f:=hb x (XF ..);have:=Jw r (x+1) b h2 (fun y d=>⟨by grind,(hb y (Wm _ d)).2⟩);simp only[List.length_cons];omega
theorem Dn{s:St}(h:Inv s):s.es.length<=60:=by
 have f:=h.ids;have j:=h.g1;have:=Jw _ 1 60 f (fun x d=>by obtain⟨e,i,rfl⟩:=VQ.1 d;have:=h.mZ e i;omega)
 rw[We] at this;omega
end aA
open aA (aQ St eD kept fc ek ec jw dB dI jC eS jr cA Inv cI nE jE bS)
def nj(p ws:J Us):M->Us
 |0=>⟨#[]⟩
 |k+1=>(if 0<k then nj p ws k++⟨#[32]⟩ else nj p ws k)++aZ (p.getD k ⟨#[]⟩) (ws.getD k ⟨#[]⟩)
theorem RT(n:N)(d:-1<=n)(h:n<=9999999):(Txt.bE n).size<=160:=by by_cases e:n=-1;subst e;decide +kernel;have:=Txt.BE n O h;omega
theorem R9(t:N)(i:0<=t)(h:t<=1048320):(dU t).size<=160:=by have f:=H9 (t / 1440) O O;have d:=Hn (t % 1440) O O;have j:(⟨#[47]⟩:Us).size=1:=Uj;unfold dU;simp only[Zm];omega
theorem Rf(w:Us):(pA w).size<=160:=by
 unfold pA;split
 .rename_i acc _
  have:=Af acc 7;have e:(uh acc).size=min (jo acc 7).size (jo acc 7).size-1:=WX ..;omega
 .exact zN _
theorem Hz(sym w:Us)(i:w.size<=160)(j:bG sym w=UE):(aZ sym w).size<=160:=by
 have f:=Hm w;have d:=RT (cB w 1 7) f.1 f.2;unfold aZ;split
 .exact d
 .split
  .exact d
  .split
   .exact d
   .split
    .exact d
    .split
     .rename_i h;exact R9 _ (Ik h j) (Ho w).2
     .split
      .exact Rf w
      .exact i
theorem CJ:∀ (ps:J (J Us))(ws:J Us)(m:M)(p:J Us),scan ps ws m=(U p,0)->pre p ws=p.length/\pre p ws=ws.length
 |[],_,_,_,h=>by simp[scan] at h
 |q :: ps,ws,m,p,h=>by unfold scan at h;split at h;rename_i hc;simp at h;subst h;exact hc;exact CJ ps ws _ p h
theorem CG(p ws:J Us)(h:pre p ws=p.length)(d:pre p ws=ws.length)(f:∀ x∈ws,x.size<=160):∀ k:M,k<=ws.length->(nj p ws k).size<=161*k
 |0,_=>zq _
 |k+1,hk=>by have ih:=CG p ws h d f k O;have i:=Ad p ws k O O O;have l:p.getD k ⟨#[]⟩=p[k]'Uh:=Uo;have j:ws.getD k ⟨#[]⟩=ws[k]'Uh:=Uo;have z:=Hz (p[k]'Uh) (ws[k]'Uh) (f _ (zg O)) i;have o:(⟨#[32]⟩:Us).size=1:=Uj;unfold nj;rw[l,j];split;simp only[Zm];omega;simp only[Zm];omega
def PR(s:Us)(e:Ending):Prop :=
 (160<s.size/\e=UW (.tuple #[UQ ⟨#[]⟩,V Y 1,V Y 0])) \/
 (s.size<=160/\((∃ p,kH s=(U p,0)/\e=UW (.tuple #[nj p (Txt.aC s) (Txt.aC s).length,V Y 0,V Y 0])) \/(∃ m:M,kH s=(Z,m)/\e=UW (.tuple #[UQ ⟨#[]⟩,V Y 2,V Y m]))))
theorem Jc(s:Us)(w:UF)(f:160<s.size):UI prog 28 #[s] w fun e w'=>e=UW (.tuple #[(),(),V Y 1,V Y 0])/\w'=w:=by
 have d:(160:N)<(s.size:N):=O;go_in;go_wp2;(try simp only[Exit.inBlock,Exit.then]);refine bodyPost_ret (oW rfl _ _ _) rfl ?_;exact⟨rfl,rfl⟩
theorem IP(s:Us)(w:UF)(he:Env w):UI prog 13 #[s] w fun e w'=>PR s e/\UH w w w':=by
 by_cases hs:s.size<=160
 .have HE:=hide he;clear he
  go_in;go_wp21;refine (De s w hs).mono ?_;rintro e w1 ⟨hr,aa⟩;rcases hr with ⟨p,a,b,c,d,g,h,l,rfl,ra,rb⟩|⟨m,l,rfl⟩
  .have ⟨l1,l2⟩:=CJ _ _ _ _ l;have S:=hide l;have ai:=C9 s;have hw:∀ x∈Txt.aC s,x.size<=160:=fun x hx=>U0 (ya s x hx) hs
   have ag:=hide (CG p (Txt.aC s) l1 l2 hw);have HW:=hide hw;have L1:=hide l1;have L2:=hide l2;have af:=hide (Ad p (Txt.aC s));clear l hw l1 l2;go_wp2;go_loopw [9,10,11] (fun o i _ wx=>∃ k:M,k<=(Txt.aC s).length/\i=V Y k/\o=UQ (nj p (Txt.aC s) k)/\Row wx a g (Txt.aC s)/\Row wx b h p/\UH w w wx) (fun _ i _ _=>(Txt.aC s).length-(intOf i).toNat)
   .exact⟨0,Nat.zero_le _,rfl,rfl,ra,rb,aa⟩
   .obtain⟨k,hk,rfl,rfl,A,u,r⟩:=hrel;clear ra rb;have oz:=aO ag k hk
    by_cases C:k<(Txt.aC s).length
    .have I:k<p.length:=by have:=aO L1;have:=aO L2;omega
     obtain rfl:=A.at_ O;obtain rfl:=u.at_ O;have k1:=u.cells k I;have k2:=A.cells k C;have j1:(k:N)<(p.length:N):=O;have j2:(k:N)<((Txt.aC s).length:N):=O;have j0:(0:N)<=(k:N):=Yz _;have G:(Txt.aC s)[k].size<=160:=aO HW _ (zg C);have P:=aO af k I C (by have:=aO L2;omega);have ad:=hide G;have ae:=hide P;have wz:=Hz _ _ G P;have ac:Hid (nj p (Txt.aC s) (k+1)=(if 0<k then nj p (Txt.aC s) k++⟨#[32]⟩ else nj p (Txt.aC s) k)++aZ p[k] (Txt.aC s)[k]):=by show nj p (Txt.aC s) (k+1)=_;rw[nj,show p.getD k ⟨#[]⟩=p[k] from by simp[List.getD,I],show (Txt.aC s).getD k ⟨#[]⟩=(Txt.aC s)[k] from by simp[List.getD,C]]
     clear G P;have ab:=hide ((aO HE).later r);by_cases X:0<k
     .have j3:(0:N)<(k:N):=O
      have T:=ac.trans (by rw[Uz X]);go_wp21;go_region_held3 (fun w'=>w'.cell? (h,k)=U (UQ p[k])/\w'.cell? (g,k)=U (UQ (Txt.aC s)[k]))
       (first
        |go_keep
        |(
         go_split_ands;refine⟨?_,?_⟩
         .exact cell_later f Uk
         .exact cell_later f Uk))
       ((go_at_call 29;refine (I9 _ _ _ ?_ (aO ad) (aO ae)).mono ?_;exact (aO ab).later ⟨rfl,rfl,rfl,UY _,fun _ _=>rfl⟩;rintro e w4 ⟨rfl,f⟩))
      have j:UH wr wr w4:=⟨f.os,f.tape,f.output,f.size,f.block⟩;have t:=r.trans (j.mono r.size);have F:=A.later j;have D:=u.later j;go_wp2;exact⟨⟨k+1,O,by go_num,by rw[T],F,D,t⟩,by simp[intOf];omega⟩
     .have j3:¬ (0:N)<(k:N):=O
      have T:=ac.trans (by rw[Uy X]);go_wp21;go_region_held3 (fun w'=>w'.cell? (h,k)=U (UQ p[k])/\w'.cell? (g,k)=U (UQ (Txt.aC s)[k]))
       (first
        |go_keep
        |(
         go_split_ands;refine⟨?_,?_⟩
         .exact cell_later f Uk
         .exact cell_later f Uk))
       ((go_at_call 29;refine (I9 _ _ _ ?_ (aO ad) (aO ae)).mono ?_;exact (aO ab).later ⟨rfl,rfl,rfl,UY _,fun _ _=>rfl⟩;rintro e w4 ⟨rfl,f⟩))
      have j:UH wr wr w4:=⟨f.os,f.tape,f.output,f.size,f.block⟩;have t:=r.trans (j.mono r.size);have F:=A.later j;have D:=u.later j;go_wp2;exact⟨⟨k+1,O,by go_num,by rw[T],F,D,t⟩,by simp[intOf];omega⟩
    .obtain rfl:k=(Txt.aC s).length:=O
     go_wp2;go_ret3;exact⟨.inr ⟨hs,.inl ⟨p,aO S,rfl⟩⟩,r⟩
  .have S:=hide l;clear l;go_wp2;go_ret3;exact⟨.inr ⟨hs,.inr ⟨m,aO S,rfl⟩⟩,aa⟩
 .go_in
  go_wp21;refine aY (Jc s w O) ?_;go_wp2;go_ret3;exact⟨.inl ⟨O,rfl⟩,Below.refl _ _⟩
theorem nh(ws:J Us)(P Q:J (Us->Uv))(st:M × Uv):aP ws (P++Q) st=aP ws Q (aP ws P st):=List.foldl_append ..
theorem Qa(ws:J Us)(B:Us->Uv)(n:M):gG ws B (n,UE)=(n,UE):=by simp[gG,fP,fL,fQ,dN]
theorem td(ws:J Us):∀ (d:J (Us->Uv))(n:M),aP ws d (n,UE)=(n,UE)
 |[],_=>rfl
 |B :: d,n=>by show aP ws d (gG ws B (n,UE))=_;rw[Qa,td ws d n]
theorem zV{B:Us->Uv}(h:fQ ws n UD B=UD):gG ws B (n,UD)=(n,UE):=by simp only[gG,fP,fL,h,if_false,Bool.false_eq_true]
theorem Qk{B:Us->Uv}(h:¬ n<ws.length):fQ ws n UD B=UD:=by simp[fQ,dN,h]
theorem G8{B:Us->Uv}(h:B (ws.getD n Ym)=UD):fQ ws n UD B=UD:=by simp only[fQ,h,Bool.and_false]
theorem oQ{B:Us->Uv}{wr:Uv}(h:fQ ws n wr B=UE):wr=UD/\n<ws.length/\B (ws.getD n Ym)=UE:=by unfold fQ dN at h;simp only[Wu,Bool.not_eq_true',decide_eq_true_eq] at h;exact⟨h.1.1,h.1.2,h.2⟩
theorem Iu(ws:J Us):∀ (p:J Us)(n:M),n<=ws.length->aP ws (p.map bG) (n,UD)=(n+pre p (ws.drop n),decide (pre p (ws.drop n)≠p.length))
 |[],n,_=>by simp[pre,aP]
 |s :: p,n,hn=>by
  show aP ws (p.map bG) (gG ws (bG s) (n,UD))=_;by_cases d:n<ws.length
  .have h:=List.drop_eq_getElem_cons d;have i:=sC ws n d
   cases f:bG s ws[n]
   .rw[zV (G8 Uo),td,h,pre,f];simp
   .rw[Jr d Uo,Iu ws p (n+1) d,h,pre,f];simp only[if_true];refine Prod.ext ?_ ?_
    .show n+1+_=n+(_+1);omega
    .simp
  .rw[zV (Qk d),td,List.drop_of_length_le O];simp[pre]
theorem Cc(ws p:J Us):aP ws (p.map bG) (0,UD)=(pre p ws,decide (pre p ws≠p.length)):=by have:=Iu ws p 0 (zN _);simpa using this
theorem qk(h:aP ws (p.map bG) (0,UD)=(n,b)):pre p ws=n:=by rw[Cc] at h;exact (Zw h).1
theorem sY(h:aP ws (p.map bG) (0,UD)=(n,UD)):n=p.length:=by rw[Cc] at h;let⟨h1,h2⟩:=Zw h;rw[h1] at h2;by_cases e:n=p.length;exact e;simp[e] at h2
theorem xA(h:aP ws (p.map bG) (0,UD)=(n,UE)):n<p.length:=by have d:=(uB p ws).1;rw[Cc] at h;let⟨h1,h2⟩:=Zw h;rw[h1] at h2 d;by_cases e:n=p.length;simp[e] at h2;omega
theorem G5(R:J Us)(h:aP ws (Q.map bG) (0,UD)=(n,UE)):pre (Q++R) ws=n:=by apply qk (b:=UE);rw[VU,nh,h,td]
theorem GJ(R:J Us)(h:aP ws (Q.map bG) (0,UD)=(n,UD))(d:fQ ws n UD (bG s)=UD):pre (Q++s :: R) ws=n:=by apply qk (b:=UE);rw[VU,nh,h];show aP ws (R.map bG) (gG ws (bG s) (n,UD))=_;rw[zV d,td]
theorem Ck(h:aP ws ((Q++R).map bG) (0,UD)=(n,UD)):aP ws (Q.map bG) (0,UD)=(Q.length,UD):=by
 rw[VU,nh] at h;obtain⟨m,b,d⟩:∃ m b,aP ws (Q.map bG) (0,UD)=(m,b):=⟨_,_,rfl⟩
 cases b
 .rw[d,sY d]
 .rw[d,td] at h;cases h
theorem xF(h:aP ws ((Q++s :: R).map bG) (0,UD)=(n,UD)):fQ ws Q.length UD (bG s)=UE:=by
 have d:=Ck h;rw[VU,nh,d] at h
 cases ht:fQ ws Q.length UD (bG s)
 .have:aP ws (R.map bG) (gG ws (bG s) (Q.length,UD))=(n,UD):=h;rw[zV ht,td] at this
  cases this
 .rfl
structure Sum(ps:J (J Us))(ws:J Us)(st:M × Uv)(q:J Us):Prop where
 mem:q∈ps
 le:∀ p∈ps,pre p ws<=st.1
 at_:pre q ws=st.1
 bad:st.2=UE->∀ p∈ps,¬ (pre p ws=p.length/\pre p ws=ws.length)
 sd:st.2=UD->pre q ws=q.length/\∀ p∈ps,p≠q->¬ (pre p ws=p.length/\pre p ws=ws.length)
theorem IU:∀ (ps:J (J Us))(ws:J Us)(m d:M),(∀ p∈ps,¬ (pre p ws=p.length/\pre p ws=ws.length))->(∀ p∈ps,pre p ws<=d)->m<=d->(m=d\/∃ p∈ps,pre p ws=d)->scan ps ws m=(Z,d)
 |[],_,m,d,_,_,_,h=>by
  rcases h with rfl|⟨p,i,_⟩
  .rfl
  .simp at i
 |p :: ps,ws,m,d,h1,h2,h3,h4=>by
  have i:=h2 p (XF ..);rw[scan,Uy (h1 p (XF ..))];refine IU ps ws _ d (fun q f=>h1 q (Wm _ f)) (fun q f=>h2 q (Wm _ f)) Uo ?_;rcases h4 with rfl|⟨q,f,e⟩
  .left;rw[Uy O]
  .rcases Va.1 f with rfl|f
   .left;split <;> omega
   .exact .inr ⟨q,f,e⟩
theorem Iq:∀ (ps:J (J Us))(ws:J Us)(m:M)(q:J Us),q∈ps->pre q ws=q.length/\pre q ws=ws.length->(∀ p∈ps,p≠q->¬ (pre p ws=p.length/\pre p ws=ws.length))->scan ps ws m=(U q,0)
 |[],_,_,_,h,_,_=>by grind
 |p :: ps,ws,m,q,h,hf,hn=>by
  rw[scan];by_cases e:p=q
  .subst e;rw[Uz hf]
  .rw[Uy (hn p (XF ..) e)];rcases Va.1 h with h|h
   .exact UA h.symm e
   .exact Iq ps ws _ q h hf (fun r d=>hn r (Wm _ d))
theorem Sum.yes(h:Sum ps ws st q)(d:st.2=UD)(f:dN ws.length st.1 st.2=UD):scan ps ws 0=(U q,0):=by
 let⟨g1,g2⟩:=h.sd d;have i:¬ st.1<ws.length:=by simpa[dN,d] using f
 have:=(uB q ws).2;have:=h.at_;exact Iq ps ws 0 q h.mem ⟨g1,O⟩ g2
theorem Sum.no(h:Sum ps ws st q)(d:st.2=UE\/dN ws.length st.1 st.2=UE):scan ps ws 0=(Z,st.1):=by
 refine IU ps ws 0 st.1 ?_ h.le (zN _) (.inr ⟨q,h.mem,h.at_⟩);rcases d with d|d
 .exact h.bad d
 .have i:=sH d;intro p f e;have:=h.le p f;omega
theorem C5(ws:J Us)(f:J Us->Uv):∀ (ps:J (J Us))(m:M),(∀ p∈ps,f p=UD->pre p ws=0/\p≠[])->scan ps ws m=scan (ps.filter f) ws m
 |[],_,_=>rfl
 |p :: ps,m,h=>by
  have ih:=fun m=>C5 ws f ps m (fun q i=>h q (Wm _ i))
  cases d:f p
  .let⟨h0,hne⟩:=h p (XF ..) d;rw[List.filter_cons_of_neg (by simp[d]),scan,h0,Uy,Uy O,ih];rintro ⟨e,_⟩;exact hne (List.length_eq_zero_iff.1 e.symm)
  .rw[List.filter_cons_of_pos d,scan,scan,ih]
def bF:Us:=⟨#[78,65,77,69]⟩
def bW:Us:=⟨#[85,78,73,84,83]⟩
def cD:Us:=⟨#[77,73,78,85,84,69,83]⟩
def fS:Us:=⟨#[69,86,69,82,89]⟩
def gT:Us:=⟨#[73,68]⟩
def aU:Us:=⟨#[84,73,77,69]⟩
def fY:Us:=⟨#[68,65,84,69]⟩
def iq:Us:=⟨#[77,73,78,85,84,69]⟩
def kB:Us:=⟨#[79,78]⟩
theorem CW(w:Us)(d hi:N)(h:0<=d):mM w d hi=gy w d hi:=by
 unfold mM gy;rw[xP]
 cases f:Txt.isNum w.data.toList
 .simp;omega
 .simp
theorem dQ:bG bF=bJ:=by have d:(bF.toList==[78,65,77,69])=UE:=Ul;funext w;unfold bG;rw[Uz d];rfl
theorem fo:bG bW=cF:=by have f:¬ (bW.toList==[78,65,77,69])=UE:=Ul;have d:(bW.toList==[85,78,73,84,83])=UE:=Ul;funext w;unfold bG;rw[Uy f,Uz d];exact CW w 1 9 O
theorem jt:bG cD=dM:=by have h:¬ (cD.toList==[78,65,77,69])=UE:=Ul;have f:¬ (cD.toList==[85,78,73,84,83])=UE:=Ul;have d:(cD.toList==[77,73,78,85,84,69,83])=UE:=Ul;funext w;unfold bG;rw[Uy h,Uy f,Uz d];exact CW w 1 1048320 O
theorem sU:bG fS=eP:=by have i:¬ (fS.toList==[78,65,77,69])=UE:=Ul;have h:¬ (fS.toList==[85,78,73,84,83])=UE:=Ul;have f:¬ (fS.toList==[77,73,78,85,84,69,83])=UE:=Ul;have d:(fS.toList==[69,86,69,82,89])=UE:=Ul;funext w;unfold bG;rw[Uy i,Uy h,Uy f,Uz d];exact CW w 1 99 O
theorem qP:bG gT=jQ:=by
 have j:¬ (gT.toList==[78,65,77,69])=UE:=Ul;have i:¬ (gT.toList==[85,78,73,84,83])=UE:=Ul;have h:¬ (gT.toList==[77,73,78,85,84,69,83])=UE:=Ul;have f:¬ (gT.toList==[69,86,69,82,89])=UE:=Ul;have d:(gT.toList==[73,68])=UE:=Ul;funext w;unfold bG;rw[Uy j,Uy i,Uy h,Uy f,Uz d,xP];have:=Txt.lT w.data.toList;unfold jQ
 cases l:Txt.isNum w.data.toList
 .simp
 .simp;omega
theorem fM:bG aU=bB:=by
 have l:¬ (aU.toList==[78,65,77,69])=UE:=Ul;have j:¬ (aU.toList==[85,78,73,84,83])=UE:=Ul;have i:¬ (aU.toList==[77,73,78,85,84,69,83])=UE:=Ul;have h:¬ (aU.toList==[69,86,69,82,89])=UE:=Ul;have f:¬ (aU.toList==[73,68])=UE:=Ul;have d:(aU.toList==[84,73,77,69])=UE:=Ul;funext w;unfold bG;rw[Uy l,Uy j,Uy i,Uy h,Uy f,Uz d];unfold eJ
 cases ht:bB w
 .simp
 .unfold bB at ht;simp only[Wu,decide_eq_true_eq] at ht;simp;omega
theorem zy:bG fY=Txt.cU:=by
 have A:¬ (fY.toList==[78,65,77,69])=UE:=Ul;have u:¬ (fY.toList==[85,78,73,84,83])=UE:=Ul;have t:¬ (fY.toList==[77,73,78,85,84,69,83])=UE:=Ul;have r:¬ (fY.toList==[69,86,69,82,89])=UE:=Ul;have o:¬ (fY.toList==[73,68])=UE:=Ul;have l:¬ (fY.toList==[84,73,77,69])=UE:=Ul;have j:(fY.toList==[68,65,84,69])=UE:=Ul;funext w;unfold bG;rw[Uy A,Uy u,Uy t,Uy r,Uy o,Uy l,Uz j];unfold gK Txt.cU;apply decide_eq_decide.2;constructor
 .intro h
  split at h
  .rename_i hc;exact⟨hc.1,hc.2.1,h.2⟩
  .omega
 .rintro ⟨i,d,f⟩;rw[Uz ⟨i,d,O⟩];exact⟨d,f⟩
theorem Gy:bG iq=Txt.dZ:=by
 have r:¬ (iq.toList==[78,65,77,69])=UE:=Ul;have o:¬ (iq.toList==[85,78,73,84,83])=UE:=Ul;have l:¬ (iq.toList==[77,73,78,85,84,69,83])=UE:=Ul;have j:¬ (iq.toList==[69,86,69,82,89])=UE:=Ul;have i:¬ (iq.toList==[73,68])=UE:=Ul;have h:¬ (iq.toList==[84,73,77,69])=UE:=Ul;have f:¬ (iq.toList==[68,65,84,69])=UE:=Ul;have d:(iq.toList==[77,73,78,85,84,69])=UE:=Ul;funext w;unfold bG;rw[Uy r,Uy o,Uy l,Uy j,Uy i,Uy h,Uy f,Uz d];have:=Txt.mR w;unfold jL
 cases ht:Txt.dZ w
 .simp
 .simp;omega
theorem Gz:bG kB=Txt.fC:=by have t:¬ (kB.toList==[78,65,77,69])=UE:=Ul;have r:¬ (kB.toList==[85,78,73,84,83])=UE:=Ul;have o:¬ (kB.toList==[77,73,78,85,84,69,83])=UE:=Ul;have l:¬ (kB.toList==[69,86,69,82,89])=UE:=Ul;have j:¬ (kB.toList==[73,68])=UE:=Ul;have i:¬ (kB.toList==[84,73,77,69])=UE:=Ul;have h:¬ (kB.toList==[68,65,84,69])=UE:=Ul;have f:¬ (kB.toList==[77,73,78,85,84,69])=UE:=Ul;have d:(kB.toList==[79,78])=UE:=Ul;funext w;unfold bG;rw[Uy t,Uy r,Uy o,Uy l,Uy j,Uy i,Uy h,Uy f,Uz d]
def fl(x:Us):Uv:=!(x.toList==[78,65,77,69]) && !(x.toList==[85,78,73,84,83]) && !(x.toList==[77,73,78,85,84,69,83]) && !(x.toList==[69,86,69,82,89]) && !(x.toList==[73,68]) && !(x.toList==[84,73,77,69]) && !(x.toList==[68,65,84,69]) && !(x.toList==[77,73,78,85,84,69]) && !(x.toList==[79,78])
theorem jI(x:Us)(h:fl x=UE):bG x=cH x:=by grind[fl,bG,cH]
theorem cZ(x w:Us)(h:fl x=UE):aZ x w=w:=by grind[fl,aZ]
theorem qi(ws:J Us)(n:M)(wr:Uv)(x:Us):bP ws n wr x=fQ ws n wr (cH x):=rfl
theorem qq{x:Us}(h:bP ws st.1 st.2 x=UE):gB st=gG ws (cH x) st:=by let⟨n,wr⟩:=st;have ht:fQ ws n wr (cH x)=UE:=h;simp only[gB,gG,fP,fL,ht,if_true]
theorem n9(w:Us):aZ bF w=w:=by simp_all[aZ,bF]
theorem lV(w:Us):aZ fY w=w:=by simp_all[fY,aZ]
theorem pj(w:Us):aZ iq w=w:=by simp_all[aZ,iq]
theorem rZ{w:Us}(h:Txt.isNum w.data.toList=UE):cB w 1 7=bD w:=by rw[xP,Uz h];rfl
theorem uA{w:Us}{d hi:N}(h:gy w d hi=UE):Txt.isNum w.data.toList=UE/\d<=bD w/\bD w<=hi:=by grind[gy,Txt.isNum,bD]
theorem pU(w:Us)(h:cF w=UE):aZ bW w=Txt.bE (bD w):=by have d:(bW.toList==[85,78,73,84,83])=UE:=Ul;unfold aZ;rw[Uz d,rZ (uA h).1]
theorem nc(w:Us)(h:dM w=UE):aZ cD w=Txt.bE (bD w):=by have f:¬ (cD.toList==[85,78,73,84,83])=UE:=Ul;have d:(cD.toList==[77,73,78,85,84,69,83])=UE:=Ul;unfold aZ;rw[Uy f,Uz d,rZ (uA h).1]
theorem lU(w:Us)(h:eP w=UE):aZ fS w=Txt.bE (bD w):=by have i:¬ (fS.toList==[85,78,73,84,83])=UE:=Ul;have f:¬ (fS.toList==[77,73,78,85,84,69,83])=UE:=Ul;have d:(fS.toList==[69,86,69,82,89])=UE:=Ul;unfold aZ;rw[Uy i,Uy f,Uz d,rZ (uA h).1]
theorem Gq(w:Us)(h:jQ w=UE):aZ gT w=Txt.bE (bD w):=by have j:¬ (gT.toList==[85,78,73,84,83])=UE:=Ul;have i:¬ (gT.toList==[77,73,78,85,84,69,83])=UE:=Ul;have f:¬ (gT.toList==[69,86,69,82,89])=UE:=Ul;have d:(gT.toList==[73,68])=UE:=Ul;unfold aZ;rw[Uy j,Uy i,Uy f,Uz d,rZ h]
theorem ph(w:Us)(h:bB w=UE):aZ aU w=dU (cL w):=by have l:¬ (aU.toList==[85,78,73,84,83])=UE:=Ul;have j:¬ (aU.toList==[77,73,78,85,84,69,83])=UE:=Ul;have i:¬ (aU.toList==[69,86,69,82,89])=UE:=Ul;have f:¬ (aU.toList==[73,68])=UE:=Ul;have d:(aU.toList==[84,73,77,69])=UE:=Ul;unfold aZ;rw[Uy l,Uy j,Uy i,Uy f,Uz d];unfold eJ cL;rw[Uz h,Uz h]
theorem zn(w:Us):aZ kB w=pA w:=by simp_all[kB,aZ,pA]
theorem jK(w:Us):0<=cL w/\cL w<=1048320:=by
 unfold cL
 cases ht:bB w
 .simp
 .unfold bB at ht;simp only[Wu,decide_eq_true_eq] at ht;simp only[if_true];exact ht.2
theorem cY(w:Us):0<=bD w/\bD w<=9999999:=Txt.lT w.data.toList
theorem PM{w:Us}(h:bJ w=UE):tJ w=w:=Uz h
theorem Cz{i:M}{l:J UInt8}(d:s.data.toList=l)(f:l[i]?=U c)(h:Txt.fK s i=n):c.toNat=n:=by grind[Txt.fK]
theorem CV(h:c.toNat=n)(d:n<256):c=UInt8.ofNat n:=by apply UInt8.toNat_inj.1;rw[h,UInt8.toNat_ofNat'];omega
theorem xO(s:Us)(a b n:M)(f:min b s.size-a=n+1)(h:Txt.isNum (Txt.part s a b)=UE):Txt.jU (Txt.dG (Txt.part s a b)) (n+1)=s.extract a b:=by
 have d:=vU s a b (n+1) f;have i:=Txt.A6 h;have e:Txt.dG (Txt.part s a b)=Txt.jB (s.extract a b).data.toList:=by unfold Txt.dG;rw[Uz h];rfl
 rw[e];exact Txt.Q0 _ n d i
theorem ma(w:Us)(h:Txt.cU w=UE):fO (dV w)=w:=by
 have f:Txt.jY w=UE:=by unfold Txt.cU at h;exact (of_decide_eq_true h).1
 have e:dV w=Cal.num (Txt.dG (Txt.part w 0 4)) (Txt.dG (Txt.part w 5 7)) (Txt.dG (Txt.part w 8 10)):=by unfold dV Txt.gh;rw[Uz h,Uz f]
 unfold Txt.jY at f;let⟨hs,b4,b7,n0,n1,n2,hok⟩:=of_decide_eq_true f;let⟨ey,em,ed⟩:=Cal.xV _ _ _ _ hok e.symm;unfold fO;rw[<- ey,<- em,<- ed];unfold vF;rw[xO w 0 4 3 O n0,xO w 5 7 1 O n1,xO w 8 10 1 O n2];apply Txt.nT;simp only[Txt.qI,Txt.rE];have j:w.data.toList.length=10:=by rw[Txt.iK];exact hs
 obtain⟨l,d⟩:∃ l,w.data.toList=l:=⟨_,rfl⟩;rw[d] at j;rw[d];match l,j,d with
 |[a0,a1,a2,a3,a4,a5,a6,a7,a8,a9],_,d =>have r:=CV (Cz (i:=4) (c:=a4) d rfl (n:=45) b4) O;have o:=CV (Cz (i:=7) (c:=a7) d rfl (n:=45) b7) O;rw[r,o];rfl
theorem pB(w:Us)(h:Txt.dZ w=UE):jg (Txt.eA w)=w:=by
 have e:Txt.eA w=Txt.dG (Txt.part w 0 2)*60+Txt.dG (Txt.part w 3 5):=by unfold Txt.eA;rw[Uz h]
 unfold Txt.dZ at h;let⟨hs,b2,n0,n1,h23,h59⟩:=of_decide_eq_true h;have t:=Txt.lT (Txt.part w 0 2);have r:=Txt.lT (Txt.part w 3 5);have o:Txt.eA w / 60=Txt.dG (Txt.part w 0 2):=Uo;have f:Txt.eA w % 60=Txt.dG (Txt.part w 3 5):=Uo;unfold jg;rw[o,f,xO w 0 2 1 O n0,xO w 3 5 1 O n1];apply Txt.nT;simp only[Txt.qI,Txt.rE];have j:w.data.toList.length=5:=by simp_all
 obtain⟨l,d⟩:∃ l,w.data.toList=l:=⟨_,rfl⟩;rw[d] at j;rw[d];match l,j,d with
 |[a0,a1,a2,a3,a4],_,d =>have f:=CV (Cz (i:=2) (c:=a2) d rfl (n:=58) b2) O;rw[f];rfl
theorem Hv(d:J UInt8)(r:J (J UInt8))(x:J UInt8):Zx d (r++[x])=Zx d r++(d++x):=by simp[Zx]
theorem C7(acc:J N):∀ k:M,(jo acc k).data.toList=Zx [44] ((iA acc k).map (·.data.toList))
 |0=>rfl
 |k+1=>by have ih:=C7 acc k;unfold jo iA;split;rw[VU,Xl,Zy,Hv,Txt.qI,Txt.qI,ih];simp;exact ih
theorem Rs(L:J (J UInt8)):Zs L [44]=(Zx [44] L).drop 1:=by
 cases L with
 |nil=>rfl
 |cons x r=>rw[Zz];simp[Zx]
theorem He(acc:J N):Zs ((iA acc 7).map (·.data.toList)) [44]=(uh acc).data.toList:=by unfold uh;rw[Txt.rE,Rs,<- C7];rw[VN (by simp_all)]
theorem NP(acc:J N):nK acc=uh acc:=by apply Txt.nT;show (Zs ((iA acc 7).map (·.data.toList)) [44]).toArray.toList=_;rw[He]
theorem zK(h:Txt.jf s=U acc):iA acc 7≠[]:=by intro e;have i:=GW h;have d:=C7 acc 7;rw[e] at d;have f:=Txt.iK (jo acc 7);rw[d] at f;have:(Zx [44] (([]:J Us).map (·.data.toList))).length=0:=rfl;omega
theorem zU(acc:J N):(Zs ((iA acc 7).map (·.data.toList)) [44]).length<=160:=by rw[He,Txt.iK];unfold uh;have e:((jo acc 7).extract 1 (jo acc 7).size).size=min (jo acc 7).size (jo acc 7).size-1:=WX ..;have:=Af acc 7;omega
theorem zT(h:Txt.jf s=U acc):pA s=nK acc:=by unfold pA;rw[h,NP]
theorem NN(x:Us):jn [x]=x:=by apply Txt.nT;show (Zs [x.data.toList] [32]).toArray.toList=_;rw[Lib.join_one]
theorem NQ(d:J Us)(y:Us)(h:d≠[]):jn (d++[y])=jn d++⟨#[32]⟩++y:=by
 apply Txt.nT;rw[Txt.qI,Txt.qI];show (Zs ((d++[y]).map (·.data.toList)) [32])=Zs (d.map (·.data.toList)) [32]++[32]++y.data.toList;match d,h with
 |x :: r,_ =>rw[Vm,Xl,Xl,Zz,Zz,VU,Xl,Zy,Hv];simp
theorem GF(p ws:J Us):∀ k:M,nj p ws k=jn ((List.range k).map fun j=>aZ (p.getD j Ym) (ws.getD j Ym))
 |0=>rfl
 |k+1=>by
  have ih:=GF p ws k;rw[List.range_succ,VU,Xl,Zy,nj];by_cases d:0<k
  .rw[Uz d,NQ _ _ Un,<- ih];rfl
  .obtain rfl:k=0:=O
   rw[Uy d];show nj p ws 0++_=jn [_];rw[NN];apply Txt.nT;rw[Txt.qI];rfl
theorem RA(ps:J Us)(pc ev:N)(acc:J N)(fr mn mi ti un:N)(w:UF)(he:Env w)(hl:ps.length<=3)(f0:0<=fr)(f1:fr<=728)(m0:0<=mn)(m1:mn<1440)(i0:0<=mi)(i1:mi<=9999999)(t0:0<ti)(t1:ti<=9999999)
  (hp:∀ x,Env x->UI prog 300 #[kn pc ev acc fr mn mi ti un] x fun e w'=>WR x w' ps e):
  UI prog 299 #[kn pc ev acc fr mn mi ti un] w fun e w'=>WR w w' (ps++gL fr mn mi++[eV,Txt.bE ti]) e:=by
 obtain⟨aa,ai,ad,ac,ab⟩:=info_parts qm;simp only[kn] at hp ⊢;go_in;go_wp21;obtain⟨X,F⟩:∃ X,X=w.alloc (UX #[pc,ev,aI acc 0,aI acc 1,aI acc 2,aI acc 3,aI acc 4,aI acc 5,aI acc 6,fr,mn,mi,ti,un] 155):=⟨_,rfl⟩;rw[<- F];have aj:UH w w X:=by rw[F];exact aS
 have eX:=he.later aj;have o:w+1<=X.heap.size:=by rw[F];simp
 have j:10<=w.heap.size+1:=by have:=he.size;omega
 have T:X.cell? (w,9)=U ↑fr:=by rw[F];simp
 have C:X.cell? (w,10)=U ↑mn:=by rw[F];simp
 have A:X.cell? (w,11)=U ↑mi:=by rw[F];simp
 have u:X.cell? (w,12)=U ↑ti:=by rw[F];simp
 have r:X.cell? (w,13)=U ↑un:=by rw[F];simp
 clear F he;refine (hp X eX).mono ?_;rintro e w1 ⟨v1,rfl,ag,an⟩;clear hp;have S:=an.mono o;have a7:=S.size;have y9:=(S.cell (p:=(w,9)) Ui).trans T;have az:=(S.cell (p:=(w,10)) Ui).trans C;have ay:=(S.cell (p:=(w,11)) Ui).trans A;have ax:=(S.cell (p:=(w,12)) Ui).trans u;have aw:=(S.cell (p:=(w,13)) Ui).trans r;have h:=ov (base':=w.heap.size+1) ag o;clear ag an;go_wp21;have h:=h.drew;go_region_held3 (fun w'=>UH (w.heap.size+1) X w'/\w'.cell? (w,9)=U ↑fr/\w'.cell? (w,10)=U ↑mn/\w'.cell? (w,11)=U ↑mi/\w'.cell? (w,12)=U ↑ti/\w'.cell? (w,13)=U ↑un)
  (first
   |(go_split_ands;exact jh (jT o Uk i) (fun d=>⟨(d.cell (p:=(w,9)) Ui).trans T,(d.cell (p:=(w,10)) Ui).trans C,(d.cell (p:=(w,11)) Ui).trans A,(d.cell (p:=(w,12)) Ui).trans u,(d.cell (p:=(w,13)) Ui).trans r⟩))
   |(go_split_ands;exact jh (jT o Uk aS) (fun d=>⟨(d.cell (p:=(w,9)) Ui).trans T,(d.cell (p:=(w,10)) Ui).trans C,(d.cell (p:=(w,11)) Ui).trans A,(d.cell (p:=(w,12)) Ui).trans u,(d.cell (p:=(w,13)) Ui).trans r⟩))
   |(go_split_ands;exact jh (jT o Uk (ic _)) (fun d=>⟨(d.cell (p:=(w,9)) Ui).trans T,(d.cell (p:=(w,10)) Ui).trans C,(d.cell (p:=(w,11)) Ui).trans A,(d.cell (p:=(w,12)) Ui).trans u,(d.cell (p:=(w,13)) Ui).trans r⟩))
   |(go_split_ands;exact jh (Below.grown Uk f Un (fun k d=>lI h d)) (fun d=>⟨(d.cell (p:=(w,9)) Ui).trans T,(d.cell (p:=(w,10)) Ui).trans C,(d.cell (p:=(w,11)) Ui).trans A,(d.cell (p:=(w,12)) Ui).trans u,(d.cell (p:=(w,13)) Ui).trans r⟩)))
  (first
   |(go_at_call 293;go_split_ands;refine aK (Aj _ _ (eX.jk j Uk) O O) fun w5 i=>?_;have ae:=pH (B:=w.heap.size+1) (x:=X) Uk i;have h:=nR h i)
   |(go_at_call 294;go_split_ands;refine aK (Dh _ _ (eX.jk j Uk) O O) fun w5 i=>?_;have ae:=pH (B:=w.heap.size+1) (x:=X) Uk i;have h:=nR h i)
   |(go_at_call 289;go_split_ands;refine aK (nz _ _ (eX.jk j Uk) O O) fun w5 i=>?_;have ae:=pH (B:=w.heap.size+1) (x:=X) Uk i;have h:=nR h i)
   |((refine step_append_lies _ (by rfl) _ _ _ (by rfl) (w.heap.size+1) 9 aa _ 1 16 underlying78 ai ad ac ab rfl O v1 ps.length (ps.map UQ) (by rfl) (h.alloc _) (w5,0) 6 6 [cC,fO fr,cO,jg mn,dA,Txt.bE mi] (by rfl) (by rfl) (Wf (cs:=#[cC,fO fr,cO,jg mn,dA,Txt.bE mi]) (t:=9) (fr:=(0,0)) (heap_alloc_new _ _)) Uq O Up O Un (w5.heap.size+1) Ui ?_;intro g cap w6 l f ao av)))
 go_split_ands;have P:UH (w.heap.size+1) X w6:=Uk;have a4:=P.size;obtain⟨ys,I⟩:∃ ys:J UG,ys=ZA UQ ps++[UQ cC,UQ (fO fr),UQ cO,UQ (jg mn),UQ dA,UQ (Txt.bE mi)]:=⟨_,rfl⟩;rw[<- I] at l;have aq:=hide I;clear I f ao;go_wp21;refine aK (nz ti w6 (eX.jk j P) O O) fun w7 al=>?_;have af:=nR l al;have G:=jT o P al;have a3:=G.size;clear l;go_wp2_with (first
  |(at_builtin;refine wpList_append_own _ rfl _ _ 78 rfl (w.heap.size+1) 9 aa (UQ ⟨#[]⟩) 1 16 underlying78 ai ad ac ab rfl Uj _ _ _ rfl (af.alloc _) (w7,0) 2 2 [eV,Txt.bE ti] rfl rfl ?c1 ?c2 ?c3 ?c4 ?c5 ?_))
 .exact Wf (cs:=#[eV,Txt.bE ti]) (heap_alloc_new w7 _)
 .simp[Wg]
 .unfold maxLen;omega
 .omega
 .simp;omega
 intro v8 w8 D f _;have ak:=(G.alloc O _).grown f Un (fun k d=>lI af d);have au:=hide ak;have ar:=hide D;clear ak f D;go_wp2;go_ret;refine⟨_,rfl,?_,aj.trans (au.mono O)⟩;have h9:=ov (base':=w) ar O;rw[aq] at h9;have e1:(ps++gL fr mn mi++[eV,Txt.bE ti]).length=ps.length+6+2:=by simp[gL]
 have e2:(ps++gL fr mn mi++[eV,Txt.bE ti]).map UQ=ZA UQ ps++[UQ cC,UQ (fO fr),UQ cO,UQ (jg mn),UQ dA,UQ (Txt.bE mi)]++[UQ eV,UQ (Txt.bE ti)]:=by simp[gL]
 rw[e1,e2];exact h9
theorem RF(ps:J Us)(pc ev:N)(acc:J N)(fr mn mi un:N)(w:UF)(he:Env w)(hl:ps.length<=3)(f0:0<=fr)(f1:fr<=728)(m0:0<=mn)(m1:mn<1440)(i0:0<=mi)(i1:mi<=9999999)(t0:0<=un)(t1:un<=728)
  (hp:∀ x,Env x->UI prog 300 #[kn pc ev acc fr mn mi 0 un] x fun e w'=>WR x w' ps e):
  UI prog 299 #[kn pc ev acc fr mn mi 0 un] w fun e w'=>WR w w' (ps++gL fr mn mi++[fe,fO un]) e:=by
 obtain⟨aa,ai,ad,ac,ab⟩:=info_parts qm;simp only[kn] at hp ⊢;go_in;go_wp21;obtain⟨X,F⟩:∃ X,X=w.alloc (UX #[pc,ev,aI acc 0,aI acc 1,aI acc 2,aI acc 3,aI acc 4,aI acc 5,aI acc 6,fr,mn,mi,V Y 0,un] 155):=⟨_,rfl⟩;rw[<- F];have aj:UH w w X:=by rw[F];exact aS
 have eX:=he.later aj;have o:w+1<=X.heap.size:=by rw[F];simp
 have j:10<=w.heap.size+1:=by have:=he.size;omega
 have T:X.cell? (w,9)=U ↑fr:=by rw[F];simp
 have C:X.cell? (w,10)=U ↑mn:=by rw[F];simp
 have A:X.cell? (w,11)=U ↑mi:=by rw[F];simp
 have u:X.cell? (w,12)=U (V Y 0):=by rw[F];simp
 have r:X.cell? (w,13)=U ↑un:=by rw[F];simp
 clear F he;refine (hp X eX).mono ?_;rintro e w1 ⟨v1,rfl,ag,an⟩;clear hp;have S:=an.mono o;have a7:=S.size;have y9:=(S.cell (p:=(w,9)) Ui).trans T;have az:=(S.cell (p:=(w,10)) Ui).trans C;have ay:=(S.cell (p:=(w,11)) Ui).trans A;have ax:=(S.cell (p:=(w,12)) Ui).trans u;have aw:=(S.cell (p:=(w,13)) Ui).trans r;have h:=ov (base':=w.heap.size+1) ag o;clear ag an;go_wp21;have h:=h.drew;go_region_held3 (fun w'=>UH (w.heap.size+1) X w'/\w'.cell? (w,9)=U ↑fr/\w'.cell? (w,10)=U ↑mn/\w'.cell? (w,11)=U ↑mi/\w'.cell? (w,12)=U (V Y 0)/\w'.cell? (w,13)=U ↑un)
  (first
   |(go_split_ands;exact jh (jT o Uk i) (fun d=>⟨(d.cell (p:=(w,9)) Ui).trans T,(d.cell (p:=(w,10)) Ui).trans C,(d.cell (p:=(w,11)) Ui).trans A,(d.cell (p:=(w,12)) Ui).trans u,(d.cell (p:=(w,13)) Ui).trans r⟩))
   |(go_split_ands;exact jh (jT o Uk aS) (fun d=>⟨(d.cell (p:=(w,9)) Ui).trans T,(d.cell (p:=(w,10)) Ui).trans C,(d.cell (p:=(w,11)) Ui).trans A,(d.cell (p:=(w,12)) Ui).trans u,(d.cell (p:=(w,13)) Ui).trans r⟩))
   |(go_split_ands;exact jh (jT o Uk (ic _)) (fun d=>⟨(d.cell (p:=(w,9)) Ui).trans T,(d.cell (p:=(w,10)) Ui).trans C,(d.cell (p:=(w,11)) Ui).trans A,(d.cell (p:=(w,12)) Ui).trans u,(d.cell (p:=(w,13)) Ui).trans r⟩))
   |(go_split_ands;exact jh (Below.grown Uk f Un (fun k d=>lI h d)) (fun d=>⟨(d.cell (p:=(w,9)) Ui).trans T,(d.cell (p:=(w,10)) Ui).trans C,(d.cell (p:=(w,11)) Ui).trans A,(d.cell (p:=(w,12)) Ui).trans u,(d.cell (p:=(w,13)) Ui).trans r⟩)))
  (first
   |(go_at_call 293;go_split_ands;refine aK (Aj _ _ (eX.jk j Uk) O O) fun w5 i=>?_;have ae:=pH (B:=w.heap.size+1) (x:=X) Uk i;have h:=nR h i)
   |(go_at_call 294;go_split_ands;refine aK (Dh _ _ (eX.jk j Uk) O O) fun w5 i=>?_;have ae:=pH (B:=w.heap.size+1) (x:=X) Uk i;have h:=nR h i)
   |(go_at_call 289;go_split_ands;refine aK (nz _ _ (eX.jk j Uk) O O) fun w5 i=>?_;have ae:=pH (B:=w.heap.size+1) (x:=X) Uk i;have h:=nR h i)
   |((refine step_append_lies _ (by rfl) _ _ _ (by rfl) (w.heap.size+1) 9 aa _ 1 16 underlying78 ai ad ac ab rfl O v1 ps.length (ps.map UQ) (by rfl) (h.alloc _) (w5,0) 6 6 [cC,fO fr,cO,jg mn,dA,Txt.bE mi] (by rfl) (by rfl) (Wf (cs:=#[cC,fO fr,cO,jg mn,dA,Txt.bE mi]) (t:=9) (fr:=(0,0)) (heap_alloc_new _ _)) Uq O Up O Un (w5.heap.size+1) Ui ?_;intro g cap w6 l f ao av)))
 go_split_ands;have P:UH (w.heap.size+1) X w6:=Uk;have a4:=P.size;obtain⟨ys,I⟩:∃ ys:J UG,ys=ZA UQ ps++[UQ cC,UQ (fO fr),UQ cO,UQ (jg mn),UQ dA,UQ (Txt.bE mi)]:=⟨_,rfl⟩;rw[<- I] at l;have aq:=hide I;clear I f ao;go_wp21;refine aK (Aj un w6 (eX.jk j P) O O) fun w7 al=>?_;have af:=nR l al;have G:=jT o P al;have a3:=G.size;clear l;go_wp2_with (first
  |(at_builtin;refine wpList_append_own _ rfl _ _ 78 rfl (w.heap.size+1) 9 aa (UQ ⟨#[]⟩) 1 16 underlying78 ai ad ac ab rfl Uj _ _ _ rfl (af.alloc _) (w7,0) 2 2 [fe,fO un] rfl rfl ?c1 ?c2 ?c3 ?c4 ?c5 ?_))
 .exact Wf (cs:=#[fe,fO un]) (heap_alloc_new w7 _)
 .simp[Wg]
 .unfold maxLen;omega
 .omega
 .simp;omega
 intro v8 w8 D f _;have ak:=(G.alloc O _).grown f Un (fun k d=>lI af d);have au:=hide ak;have ar:=hide D;clear ak f D;go_wp2;go_ret;refine⟨_,rfl,?_,aj.trans (au.mono O)⟩;have h9:=ov (base':=w) ar O;rw[aq] at h9;have e1:(ps++gL fr mn mi++[fe,fO un]).length=ps.length+6+2:=by simp[gL]
 have e2:(ps++gL fr mn mi++[fe,fO un]).map UQ=ZA UQ ps++[UQ cC,UQ (fO fr),UQ cO,UQ (jg mn),UQ dA,UQ (Txt.bE mi)]++[UQ fe,UQ (fO un)]:=by simp[gL]
 rw[e1,e2];exact h9
theorem CY(x:UF)(d:J Us)(f:B<=x)(h:d.length<=160):(x.alloc (UX (d.map UQ).toArray 9)).ownsRow B 9 1 (UO x d.length d.length) d.length (d.map UQ):=by refine⟨by simp,.inr ⟨x,d.length,(d.map UQ).toArray,rfl,f,heap_alloc_new x _,UY _,by unfold maxLen;omega,by simp,?_⟩⟩;exact VN Ui
theorem Is(pc ev:N)(acc:J N)(fr mn mi ti un:N)(ps:J Us)(f:wV pc ev acc ps)(w:UF)(d:Env w):UI prog 300 #[kn pc ev acc fr mn mi ti un] w fun e w'=>WR w w' ps e:=by
 cases f with
 |daily ev acc e0 e1=>exact Ry ev acc fr mn mi ti un w d e0 e1
 |weekly ev acc e0 e1 hne hlen=>exact Sb ev acc fr mn mi ti un w d e0 e1 hne hlen
 |monthly ev acc e0 e1=>exact Sh ev acc fr mn mi ti un w d e0 e1
theorem CO{ev:N}{ps:J Us}(d:wV pc ev acc ps):ps.length<=3:=by
 cases d <;> simp
theorem Iw(pc ev:N)(acc:J N)(fr mn mi ti un:N)(f:J Us)(i:RW pc ev acc fr mn mi ti un f)(w:UF)(h:Env w):UI prog 299 #[kn pc ev acc fr mn mi ti un] w fun e w'=>WR w w' f e:=by
 cases i with
 |mk ps es hp hen f0 f1 m0 m1 i0 i1 =>
  cases hen with
  |times _ _ t0 t1=>exact RA ps pc ev acc fr mn mi ti un w h (CO hp) f0 f1 m0 m1 i0 i1 t0 t1 (fun x d=>Is pc ev acc fr mn mi ti un ps hp x d)
  |til _ u0 u1=>exact RF ps pc ev acc fr mn mi un w h (CO hp) f0 f1 m0 m1 i0 i1 u0 u1 (fun x d=>Is pc ev acc fr mn mi 0 un ps hp x d)
theorem Ix{ev:N}{fr mn mi ti un:N}{d:J Us}(f:RW pc ev acc fr mn mi ti un d):0<d.length/\d.length<=11:=by
 cases f with
 |mk ps es hp hen f0 f1 m0 m1 i0 i1 =>
  have i:=CO hp;have h:es.length=2:=by cases hen <;> rfl
  simp[gL,h];omega
theorem Qm(pc ev:N)(acc:J N)(fr mn mi ti un:N)(j:J Us)(hr:RW pc ev acc fr mn mi ti un j)(w:UF)(he:Env w):UI prog 308 #[UT #[pc,ev,aI acc 0,aI acc 1,aI acc 2,aI acc 3,aI acc 4,aI acc 5,aI acc 6,fr,mn,mi,ti,un]] w fun e w'=>WR w w' ([fA]++j) e:=by
 obtain⟨I,ab,T,S,P⟩:=info_parts qm;obtain⟨aa,aj⟩:=Ix hr;have o:=fun x hx=>Iw pc ev acc fr mn mi ti un j hr x hx;clear hr;simp only[kn] at o;go_in;go_wp21;obtain⟨X,G⟩:∃ X,X=w.alloc (UX #[pc,ev,aI acc 0,aI acc 1,aI acc 2,aI acc 3,aI acc 4,aI acc 5,aI acc 6,fr,mn,mi,ti,un] 173):=⟨_,rfl⟩;rw[<- G];have ad:UH w w X:=by rw[G];exact aS
 have af:X=w.heap.size+1:=by rw[G];simp
 clear G;obtain⟨Y,D⟩:∃ Y,Y=X.alloc (UX #[UQ ⟨#[101,120,112,97,110,100]⟩] 9):=⟨_,rfl⟩;rw[<- D];have A:UH w w Y:=by rw[D];exact ad.alloc O _
 have r:Y.ownsRow (w.heap.size+1) 9 1 (UO (U ⟨w.heap.size+1,0,Z⟩) 1 1) 1 ([fA].map UQ):=by have h:=CY (B:=w.heap.size+1) X [fA] O Ui;rw[af] at h;rw[D];exact h
 have ak:Y=w.heap.size+2:=by rw[D];simp;omega
 clear D;refine (o Y (he.later A)).mono ?_;rintro e w5 ⟨v2,rfl,t,i⟩;obtain⟨g2,F,rfl,ao,an,ac⟩:=vK t aa;have l:=nR r i;have ae:=A.trans (i.mono O);have al:=i.size;clear r t i;go_wp2_with (first
  |(at_builtin;refine wpList_append_own _ rfl _ _ 78 rfl (w.heap.size+1) 9 I (UQ ⟨#[]⟩) 1 16 underlying78 ab T S P rfl Uj _ _ _ rfl l (g2,0) j.length F (j.map UQ) rfl Ui ?c1 ?c2 ?c3 ?c4 ?c5 ?_))
 .exact ac
 .intro u hu;simp only[VQ] at hu;obtain⟨x,_,rfl⟩:=hu;rfl
 .unfold maxLen;omega
 .omega
 .omega
 intro v8 w8 d f _;have C:=ae.grown f O (fun k hk=>by have:=lI l hk;omega);have ai:=hide C;have ag:=hide d;clear C f d l;go_wp2;go_ret;refine⟨_,rfl,?_,ai⟩;have h9:=ov (base':=w) ag O;have e1:(fA :: j).length=1+j.length:=by simp;omega
 rw[e1];exact h9
theorem Qn(n:Us)(u:N)(pc ev:N)(acc:J N)(fr mn mi ti un:N)(o:J Us)(hr:RW pc ev acc fr mn mi ti un o)(w:UF)(he:Env w)(u0:0<=u)(u1:u<=9999999):UI prog 298 #[UT #[n,u,pc,ev,aI acc 0,aI acc 1,aI acc 2,aI acc 3,aI acc 4,aI acc 5,aI acc 6,fr,mn,mi,ti,un]] w fun e w'=>WR w w' ([eQ,n,Txt.bE u]++o) e:=by
 obtain⟨S,ag,ab,aa,T⟩:=info_parts qm;obtain⟨ac,au⟩:=Ix hr;have ad:=fun x hx=>Iw pc ev acc fr mn mi ti un o hr x hx;clear hr;simp only[kn] at ad;go_in;go_wp21;obtain⟨X,f⟩:∃ X,X=w.alloc (UX #[n,u,pc,ev,aI acc 0,aI acc 1,aI acc 2,aI acc 3,aI acc 4,aI acc 5,aI acc 6,fr,mn,mi,ti,un] 158):=⟨_,rfl⟩;rw[<- f];have ai:UH w w X:=by rw[f];exact aS
 have eX:=he.later ai;have P:w+1<=X.heap.size:=by rw[f];simp
 have l:10<=w.heap.size+1:=by have:=he.size;omega
 have x0:X.cell? (w,0)=U ↑n:=by rw[f];simp
 have x1:X.cell? (w,1)=U ↑u:=by rw[f];simp
 have x2:X.cell? (w,2)=U ↑pc:=by rw[f];simp
 have x3:X.cell? (w,3)=U ↑ev:=by rw[f];simp
 have x4:X.cell? (w,4)=U (UR (aI acc 0)):=by rw[f];simp
 have x5:X.cell? (w,5)=U (UR (aI acc 1)):=by rw[f];simp
 have x6:X.cell? (w,6)=U (UR (aI acc 2)):=by rw[f];simp
 have x7:X.cell? (w,7)=U (UR (aI acc 3)):=by rw[f];simp
 have x8:X.cell? (w,8)=U (UR (aI acc 4)):=by rw[f];simp
 have x9:X.cell? (w,9)=U (UR (aI acc 5)):=by rw[f];simp
 have F:X.cell? (w,10)=U (UR (aI acc 6)):=by rw[f];simp
 have D:X.cell? (w,11)=U ↑fr:=by rw[f];simp
 have C:X.cell? (w,12)=U ↑mn:=by rw[f];simp
 have A:X.cell? (w,13)=U ↑mi:=by rw[f];simp
 have t:X.cell? (w,14)=U ↑ti:=by rw[f];simp
 have r:X.cell? (w,15)=U ↑un:=by rw[f];simp
 have bX:=zr (w.heap.size+1) X;clear f he;go_region_held3 (fun w'=>UH (w.heap.size+1) X w'/\w'.cell? ⟨w.heap.size,0,Z⟩=U (UQ n)/\w'.cell? ⟨w.heap.size,1,Z⟩=U (V Y u)/\w'.cell? ⟨w.heap.size,2,Z⟩=U (V Y pc)/\w'.cell? ⟨w.heap.size,3,Z⟩=U (V Y ev)/\w'.cell? ⟨w.heap.size,4,Z⟩=U (UR (aI acc 0))/\w'.cell? ⟨w.heap.size,5,Z⟩=U (UR (aI acc 1))/\w'.cell? ⟨w.heap.size,6,Z⟩=U (UR (aI acc 2))/\w'.cell? ⟨w.heap.size,7,Z⟩=U (UR (aI acc 3))/\w'.cell? ⟨w.heap.size,8,Z⟩=U (UR (aI acc 4))/\w'.cell? ⟨w.heap.size,9,Z⟩=U (UR (aI acc 5))/\w'.cell? ⟨w.heap.size,10,Z⟩=U (UR (aI acc 6))/\w'.cell? ⟨w.heap.size,11,Z⟩=U (V Y fr)/\w'.cell? ⟨w.heap.size,12,Z⟩=U (V Y mn)/\w'.cell? ⟨w.heap.size,13,Z⟩=U (V Y mi)/\w'.cell? ⟨w.heap.size,14,Z⟩=U (V Y ti)/\w'.cell? ⟨w.heap.size,15,Z⟩=U (V Y un))
  (first
   |(go_split_ands;exact jh (jT P Uk j) (fun d=>⟨(d.cell (p:=(w,0)) Ui).trans x0,(d.cell (p:=(w,1)) Ui).trans x1,(d.cell (p:=(w,2)) Ui).trans x2,(d.cell (p:=(w,3)) Ui).trans x3,(d.cell (p:=(w,4)) Ui).trans x4,(d.cell (p:=(w,5)) Ui).trans x5,(d.cell (p:=(w,6)) Ui).trans x6,(d.cell (p:=(w,7)) Ui).trans x7,(d.cell (p:=(w,8)) Ui).trans x8,(d.cell (p:=(w,9)) Ui).trans x9,(d.cell (p:=(w,10)) Ui).trans F,(d.cell (p:=(w,11)) Ui).trans D,(d.cell (p:=(w,12)) Ui).trans C,(d.cell (p:=(w,13)) Ui).trans A,(d.cell (p:=(w,14)) Ui).trans t,(d.cell (p:=(w,15)) Ui).trans r⟩))
   |(go_split_ands;exact jh (jT P Uk aS) (fun d=>⟨(d.cell (p:=(w,0)) Ui).trans x0,(d.cell (p:=(w,1)) Ui).trans x1,(d.cell (p:=(w,2)) Ui).trans x2,(d.cell (p:=(w,3)) Ui).trans x3,(d.cell (p:=(w,4)) Ui).trans x4,(d.cell (p:=(w,5)) Ui).trans x5,(d.cell (p:=(w,6)) Ui).trans x6,(d.cell (p:=(w,7)) Ui).trans x7,(d.cell (p:=(w,8)) Ui).trans x8,(d.cell (p:=(w,9)) Ui).trans x9,(d.cell (p:=(w,10)) Ui).trans F,(d.cell (p:=(w,11)) Ui).trans D,(d.cell (p:=(w,12)) Ui).trans C,(d.cell (p:=(w,13)) Ui).trans A,(d.cell (p:=(w,14)) Ui).trans t,(d.cell (p:=(w,15)) Ui).trans r⟩))
   |(go_split_ands;exact jh (jT P Uk (ic _)) (fun d=>⟨(d.cell (p:=(w,0)) Ui).trans x0,(d.cell (p:=(w,1)) Ui).trans x1,(d.cell (p:=(w,2)) Ui).trans x2,(d.cell (p:=(w,3)) Ui).trans x3,(d.cell (p:=(w,4)) Ui).trans x4,(d.cell (p:=(w,5)) Ui).trans x5,(d.cell (p:=(w,6)) Ui).trans x6,(d.cell (p:=(w,7)) Ui).trans x7,(d.cell (p:=(w,8)) Ui).trans x8,(d.cell (p:=(w,9)) Ui).trans x9,(d.cell (p:=(w,10)) Ui).trans F,(d.cell (p:=(w,11)) Ui).trans D,(d.cell (p:=(w,12)) Ui).trans C,(d.cell (p:=(w,13)) Ui).trans A,(d.cell (p:=(w,14)) Ui).trans t,(d.cell (p:=(w,15)) Ui).trans r⟩))
   |(go_split_ands;exact jh (Below.grown Uk i (by (try simp);omega) (fun k d=>lI G d)) (fun d=>⟨(d.cell (p:=(w,0)) Ui).trans x0,(d.cell (p:=(w,1)) Ui).trans x1,(d.cell (p:=(w,2)) Ui).trans x2,(d.cell (p:=(w,3)) Ui).trans x3,(d.cell (p:=(w,4)) Ui).trans x4,(d.cell (p:=(w,5)) Ui).trans x5,(d.cell (p:=(w,6)) Ui).trans x6,(d.cell (p:=(w,7)) Ui).trans x7,(d.cell (p:=(w,8)) Ui).trans x8,(d.cell (p:=(w,9)) Ui).trans x9,(d.cell (p:=(w,10)) Ui).trans F,(d.cell (p:=(w,11)) Ui).trans D,(d.cell (p:=(w,12)) Ui).trans C,(d.cell (p:=(w,13)) Ui).trans A,(d.cell (p:=(w,14)) Ui).trans t,(d.cell (p:=(w,15)) Ui).trans r⟩)))
  (first
   |(go_at_call 289;go_split_ands;refine aK (nz u _ (eX.jk l Uk) O O) fun w4 j=>?_;have aw:=pH (B:=w.heap.size+1) (x:=X) Uk j)
   |(go_at_call 299;go_split_ands;refine (ad _ (eX.jk l Uk)).mono ?_;rintro e w5 ⟨v2,rfl,ae,j⟩;obtain⟨g2,I,rfl,ay,ax,al⟩:=vK ae ac;have av:=pH (B:=w.heap.size+1) (x:=X) Uk j)
   |(have G:=nR (CY (B:=w.heap.size+1) w4 [eQ,n,Txt.bE u] O Ui) j;(refine step_append_lies _ (by rfl) _ _ _ (by rfl) (w.heap.size+1) 9 S _ 1 16 underlying78 ag ab aa T rfl O (UO w4 3 3) 3 ([eQ,n,Txt.bE u].map UQ) (by rfl) G (g2,0) o.length I (o.map UQ) (by rfl) Ui al (by intro u hu;simp only[VQ] at hu;obtain⟨x,_,rfl⟩:=hu;rfl) O Up O (by (try simp);omega) w5 Ui ?_;intro g cap w6 h i an af))
   |(
    have G:=CY (B:=w.heap.size+1) w5 [eQ,n,Txt.bE u] O Ui;obtain⟨g3,ar,e3,_,_,ak⟩:=vK (ae.alloc (UX ([eQ,n,Txt.bE u].map UQ).toArray 9)) ac
    cases e3;(refine step_append_lies _ (by rfl) _ _ _ (by rfl) (w.heap.size+1) 9 S _ 1 16 underlying78 ag ab aa T rfl O (UO (U ⟨w5.heap.size,0,Z⟩) 3 3) 3 ([eQ,n,Txt.bE u].map UQ) (by rfl) G ⟨g2,0,Z⟩ o.length I (o.map UQ) (by rfl) Ui ak (by intro u hu;simp only[VQ] at hu;obtain⟨x,_,rfl⟩:=hu;rfl) O Up O (by (try simp);omega) (w5.heap.size+1) Ui ?_;intro g cap w6 h i an af)))
 all_goals
  go_split_ands;have aj:UH (w.heap.size+1) X w6:=Uk;have aq:=hide aj;have ao:=hide h;clear aj h;go_wp2;go_ret;refine⟨_,rfl,?_,ai.trans (aq.mono O)⟩;have h9:=ov (base':=w) ao O;have e1:(eQ :: n :: Txt.bE u :: o).length=3+o.length:=by simp;omega
  rw[e1];exact h9
theorem nQ (T K : M) (x : UG) (xs : J Us) (w : UF) (he : Env w) (hm : ∀ w : UF, (method 468 T x "bookings/lines.plainWords").run prog w = .ok (K, x) w) (hk : ∀ w : UF, (callFunc K #[x]).run prog w = .ok (.enter K #[x]) w)
  (hc:∀ w:UF,Env w->UI prog K #[x] w fun e w'=>WR w w' xs e) (h0:0<xs.length) (h1:xs.length<=20) (hlen:(Zs (xs.map (·.data.toList)) [32]).length<=30000):
  UI prog 36 #[UU T x] w fun e w'=>e=UW (jn xs)/\UH w w w':=by
 have HE:=hide he;have HC:=hide hc;have HLEN:=hide hlen;clear he hc hlen;go_in;go_wp21;refine (aO HC w (aO HE)).mono ?_;rintro e w1 ⟨v,rfl,ho,hb1⟩;obtain⟨a,c,g,rfl,hrow⟩:=xK ho rfl;obtain rfl:=hrow.at_ h0;have HROW:=hide hrow;have hcap:xs.length<=c:=by
  rcases ho.2 with ⟨h,_⟩|⟨g',cap,cur,hv,_,_,hc,_⟩
  .cases h
  .cases hv;exact hc
 have hgl:=U1 _ (g,0) (hrow.cells 0 h0);clear ho hrow;go_wp21;refine (strings_Join g 0 c xs ⟨#[32]⟩ w1 (fun j x hx=>?_) hgl O hcap (U0 (aO HLEN) O)).mono ?_
 .let⟨hj,e⟩:=Zt.1 hx;have:=(aO HROW).cells j hj;rw[e] at this;rw[Zu];exact this
 rintro e w' ⟨rfl,hbj⟩;have hbe:=iY hb1 hbj;go_wp2;go_ret;exact⟨rfl,hbe⟩
theorem Qv(d:J Us):(Zs (d.map (·.data.toList)) [32]).length=(jn d).size:=by rw[<- Txt.iK];rfl
theorem Rz(v:UG)(j:J Us)(l:PW v j)(w:UF)(d:Env w)(i:0<j.length)(h:j.length<=20)(f:(jn j).size<=30000):UI prog 36 #[v] w fun e w'=>e=UW (jn j)/\UH w w w':=by
 rw[<- Qv] at f
 cases l with
 |bH n u u0 u1=>exact nQ 143 288 _ _ w d (fun _=>by kernel_rfl) (fun _=>by kernel_rfl) (fun w d=>Qj n u w d u0 u1) i h f
 |book n u a b u0 u1 a0 a1 b0 b1=>exact nQ 148 290 _ _ w d (fun _=>by kernel_rfl) (fun _=>by kernel_rfl) (fun w d=>PO n u a b w d u0 u1 a0 a1 b0 b1) i h f
 |hold n u a b m u0 u1 a0 a1 b0 b1 m0 m1=>exact nQ 150 296 _ _ w d (fun _=>by kernel_rfl) (fun _=>by kernel_rfl) (fun w d=>PQ n u a b m w d u0 u1 a0 a1 b0 b1 m0 m1) i h f
 |wait n u a b m u0 u1 a0 a1 b0 b1 m0 m1=>exact nQ 151 297 _ _ w d (fun _=>by kernel_rfl) (fun _=>by kernel_rfl) (fun w d=>PY n u a b m w d u0 u1 a0 a1 b0 b1 m0 m1) i h f
 |series n u pc ev acc fr mn mi ti un j u0 u1 hr=>exact nQ 158 298 _ _ w d (fun _=>by kernel_rfl) (fun _=>by kernel_rfl) (fun w d=>Qn n u pc ev acc fr mn mi ti un j hr w d u0 u1) i h f
 |bL u u0 u1=>exact nQ 160 302 _ _ w d (fun _=>by kernel_rfl) (fun _=>by kernel_rfl) (fun w d=>QY u w d u0 u1) i h f
 |cancel u u0 u1=>exact nQ 161 303 _ _ w d (fun _=>by kernel_rfl) (fun _=>by kernel_rfl) (fun w d=>Qz u w d u0 u1) i h f
 |list0 n a b=>exact nQ 163 304 _ _ w d (fun _=>by kernel_rfl) (fun _=>by kernel_rfl) (fun w d=>Qe n a b w) i h f
 |list1 n a b a0 a1 b0 b1=>exact nQ 163 304 _ _ w d (fun _=>by kernel_rfl) (fun _=>by kernel_rfl) (fun w d=>Qf n a b w d a0 a1 b0 b1) i h f
 |waiting=>exact nQ 166 305 _ _ w d (fun _=>by kernel_rfl) (fun _=>by kernel_rfl) (fun w d=>QZ w) i h f
 |ef n a b a0 a1 b0 b1=>exact nQ 169 306 _ _ w d (fun _=>by kernel_rfl) (fun _=>by kernel_rfl) (fun w d=>PS n a b w d a0 a1 b0 b1) i h f
 |find n u m a b u0 u1 m0 m1 a0 a1 b0 b1=>exact nQ 171 307 _ _ w d (fun _=>by kernel_rfl) (fun _=>by kernel_rfl) (fun w d=>PP n u m a b w d u0 u1 m0 m1 a0 a1 b0 b1) i h f
 |expand pc ev acc fr mn mi ti un j hr=>exact nQ 173 308 _ _ w d (fun _=>by kernel_rfl) (fun _=>by kernel_rfl) (fun w d=>Qm pc ev acc fr mn mi ti un j hr w d) i h f
 |tick u u0 u1=>exact nQ 175 309 _ _ w d (fun _=>by kernel_rfl) (fun _=>by kernel_rfl) (fun w d=>PV u w d u0 u1) i h f
 |clock=>exact nQ 176 310 _ _ w d (fun _=>by kernel_rfl) (fun _=>by kernel_rfl) (fun w d=>Qd w) i h f
theorem Rw(w:UF)(o:Env w):UI prog 8 #[] w fun e w'=>∃ p d l,e=UW (UM (U ⟨p,0,Z⟩))/\BD w' p d jz pJ l/\UH w w w'/\(∀ b,b<w.heap.size->l b=Z)/\w<=p:=by
 have C:=aB (b5o w);have A:=aB o;have t:=o.size;clear o;go_in;go_wp2_with (first
  |(go_at_call 17;refine C.mono ?_;rintro e f ⟨v,rfl,rfl,i,j⟩))
 have u:Hid (BD (f.alloc (UX #[UM (U ⟨w.heap.size+2,0,Z⟩)] 67)) f (w.heap.size+2) jz pJ (sw w)/\UH w w (f.alloc (UX #[UM (U ⟨w.heap.size+2,0,Z⟩)] 67))/\(∀ b,b<w.heap.size->sw w.heap.size b=Z)/\w<=f.heap.size):=by
  have k:UH f.heap.size f (f.alloc (UX #[UM (U ⟨w.heap.size+2,0,Z⟩)] 67)):=(zr _ _).alloc (zq _) _;have h:∀ b,b<w.heap.size->sw w.heap.size b=Z:=fun b r=>by unfold sw;rw[Uy O,Uy O,Uy O]
  exact⟨⟨dH f _,i.dk.none aJ,⟨i.dk.later k,i.of,i.wl,i.hl,i.inv⟩,(A.out.later j).later k,fun b r=>h b O⟩,j.trans (k.mono j.size),h,j.size⟩
 clear i j;go_wp21;exact bodyPost_ret (v:=f) (by simp[results,results8,go_sem]) rfl ⟨_,_,_,rfl,u⟩
namespace aA
theorem CZ(p:aQ->Uv):∀ l:J aQ,(l.filter p).length+(l.filter fun e=>!p e).length=l.length
 |[]=>rfl
 |a :: r=>by
  have ih:=CZ p r;simp only[List.filter_cons]
  cases p a <;> simp <;> omega
theorem I6(ts:J (Us × N)):∀ (k:M)(es:J aQ)(now tq:N),(gd ts k es now tq).2.1.length<=es.length
 |0,es,_,_=>by simp[gd]
 |k+1,es,now,tq=>by simp only[gd];split;have h:=I6 ts k (dS ts (es.filter fun e=>!cA (eL tq es) e)).1 (eL tq es) tq;have f:=yD ts (es.filter fun e=>!cA (eL tq es) e);have d:=CZ (cA (eL tq es)) es;simp only[VA,We];omega;simp
structure zQ(s:St)(r:bS):Prop where
 en:r.entries.length<=60
 es:∀ e∈r.entries,e∈s.es
 da:r.days.length<=60
 ed:r.ended.length<=60
theorem zQ.plain{s:St}{r:bS}(h:r.entries=[])(f:r.days=[])(d:r.ended=[]):zQ s r:=⟨by grind,by grind,by grind,by grind⟩
theorem Sd{s:St}(h:Inv s){l:jb}(o:ke l):zQ s (aX s l).2:=by
 cases l with
 |bH name u=>simp only[aX];split <;> first|exact .plain rfl rfl rfl|(split <;> exact .plain rfl rfl rfl)
 |enter k name u fr til long=>simp only[aX];split <;> exact .plain rfl rfl rfl
 |series name u r=>simp only[aX];split <;> exact .plain rfl rfl rfl
 |bL id =>
  simp only[aX];split
  .exact .plain rfl rfl rfl
  .split <;> exact .plain rfl rfl rfl
 |cancel id=>simp only[aX];split <;> exact .plain rfl rfl rfl
 |list name fr til =>
  simp only[aX];split
  .exact .plain rfl rfl rfl
  .split
   .exact .plain rfl rfl rfl
   .have j:∀ e∈nE name fr til s.es,e∈s.es:=fun e i=>(Xb.1 (Bs.1 i)).1
    have d:(nE name fr til s.es).length<=60:=by have:=Dn h;have e:=(M9 (a:=fr) (b:=til) (s.es.filter (mS name fr til))).length_eq;have f:=Wj (mS name fr til) s.es;unfold nE;omega
    exact⟨d,j,by simp[bS.num],by simp[bS.num]⟩
 |waiting=>exact⟨U0 (Wj ..) (Dn h),fun e i=>(Xb.1 i).1,by simp[aX,bS.num],by simp[aX,bS.num]⟩
 |ef name fr til=>simp only[aX];split <;> first|exact .plain rfl rfl rfl|(split <;> exact .plain rfl rfl rfl)
 |find name u long fr til=>simp only[aX];split <;> first|exact .plain rfl rfl rfl|(split <;> exact .plain rfl rfl rfl)
 |expand r =>
  simp only[aX];split
  .exact .plain rfl rfl rfl
  .rename_i c
   have t:=o;have:=((Rd.sF t).2 O).2.2.1;exact⟨by simp[bS.num],by simp[bS.num],by grind,by simp[bS.num]⟩
 |tick n =>simp only[aX];split;exact .plain rfl rfl rfl;have C:=I6 s.ts (s.es.length+1) s.es s.now (s.now+n);have A:=Dn h;exact⟨by simp[bS.num],by simp[bS.num],by simp[bS.num],by grind⟩
 |clock=>exact .plain rfl rfl rfl
theorem Sg{s:St}(h:Inv s){l:jb}(f:ke l):zQ s (jE s l).2/\(jE s l).2.granted.length<=100000:=by
 have d:=Sd h f;have o:=Dr h.bA l;unfold jE;split
 .exact⟨d,O⟩
 .refine⟨⟨d.en,d.es,d.da,d.ed⟩,?_⟩;have j:=Ay (aX s l).1.ts (aX s l).1.es;have i:=kS (DV h f);simp only[VA];omega
end aA
end Go.Proofs.YtolaacmheeaadaaGreatDoor
namespace Go.Proofs.YtolaacmheeaadaaGreatDoor.Laid
def val:DataW Unit->UG
 |.lit (.int k n)=>V k n
 |.lit (.string b)=>UQ ⟨b.toArray⟩
 |_=>UR UD
def row:DataW Unit->J UG
 |.agg l=>l.map val
 |_=>[]
def rows:DataW Unit->J UG
 |.agg l=>l.flatMap row
 |_=>[]
def text:DataW Unit->UG
 |.iface _ (.ptr (.agg [d]))=>val d
 |_=>UR UD
def put(l:J UG):Obj->Obj
 |.cells _ t frozen=>UX l.toArray t frozen
 |o=>o
def Dm(w:UF):UF :={ w with heap:=(((((((((w.heap.modify 0 (put (row Rows.laid_bookings_calendar_monthDays))).modify 1 (put (row Rows.laid_internal_strconv_uint64pow10))).modify 2 (put [UU 327 w])).modify 3 (put [UU 327 (UM (U ⟨w.heap.size+1,0,Z⟩))])).modify 5 (put (row Rows.laid_bookings_lines_weekdays))).modify 6 (put (row Rows.laid_math_bits_deBruijn32tab))).modify 7 (put (row Rows.laid_math_bits_deBruijn64tab))).modify 8 (put (row Rows.laid_unicode_utf8_first))).modify 9 (put (rows Rows.laid_unicode_utf8_acceptRanges))).push (UX #[text Rows.laid_strconv_ErrSyntax] 329) |>.push (UX #[text Rows.laid_strconv_ErrRange] 329) }
end Go.Proofs.YtolaacmheeaadaaGreatDoor.Laid
namespace Go.Proofs.YtolaacmheeaadaaGreatDoor.datesLaw
open Go.ChangeShapes Go.WideShapes Go.ChangeAt Go.RowKit
theorem own:ownKnob prog.godebug=Z:=Um
theorem TS:laidOutB prog=UE:=Um
theorem c3D:prog.cellsOf 3=1:=Um
theorem DU:prog.cellsOf 9=1:=Um
theorem Cu:prog.cellsOf 37=6:=Um
theorem qN{α:Type}{l:J α}(h:l.length=6):∃ a b c d e f,l=[a,b,c,d,e,f]:=by
 match l,h with
 |[a,b,c,d,e,f],_=>exact⟨a,b,c,d,e,f,rfl⟩
end Go.Proofs.YtolaacmheeaadaaGreatDoor.datesLaw
namespace Go.Proofs.YtolaacmheeaadaaGreatDoor.EnvLaid
open Go.ChangeShapes Go.WideShapes Go.ChangeAt Go.RowKit
theorem LG{P:Program}{name:String}{k:IntKind}{zs:J N}{t e:TypeId}
  (j:P.globalNamed name=U g) (d:(P.globals[g]?).map (·.type)=U t) (ht:P.underlying t=U (.array n e)) (l:P.underlying e=U (.int k)) (i:P.cellsOf e=1) (f:P.cellsOf t=n)
  (h:ZB P W name (ZC k zs)):Yw P W name k zs:=by
 let⟨g',t',cs,fuel,p,hg',ht',hvar,hd⟩:=h;obtain rfl:=Wq (j.symm.trans hg');obtain rfl:=Wq (d.symm.trans ht');unfold Yw;rw[hvar,<- Lib.cells_of_tab ht l i f hd]
theorem b9t{P:Program}{name:String}{zs:J (J UInt8)}{t e:TypeId}
  (u:P.globalNamed name=U g) (l:(P.globals[g]?).map (·.type)=U t) (ht:P.underlying t=U (.array n e)) (C:P.underlying e=U .string) (o:P.cellsOf e=1)
  (h:ZB P W name (.agg (zs.map fun z=>.lit (.string z)))) (i:M) (z:J UInt8) (A:zs[i]?=U z):W.cell? (g,i)=U (UQ ⟨z.toArray⟩):=by
 let⟨g',t',cs,fuel,p,hg',ht',hvar,hd⟩:=h;obtain rfl:=Wq (u.symm.trans hg');obtain rfl:=Wq (l.symm.trans ht');let⟨xs,m,_,hx,_,hxl,hall⟩:=DataW.trod_array ht hd;have j:zs.map (fun z=>(ZD (.string z):DataW Unit))=xs.map (·.1):=Uo;have r:zs.length=xs.length:=by have:=congrArg List.length j;simpa using this
 have G:i<zs.length:=(Zt.1 A).1;have d:xs[i]?=U xs[i]:=Wx O;have f:=hall i O;rw[d,o] at f;let⟨s,hs1,hs2,_⟩:=DataW.trod_string C f;have S:(xs.map (·.1))[i]?=U (ZD (.string z):DataW Unit):=Uo;have I:(xs.map (·.1))[i]?=U (ZD (.string s.data.toList):DataW Unit):=by simp[d,hs2]
 have F:z=s.data.toList:=Uo;have D:cs[i]?=U ↑s:=by have:=congrArg (·[0]?) hs1;simpa[List.getElem?_take,List.getElem?_drop] using this
 rw[World.var?_cell u hvar i,D,F]
theorem c3f:(prog.globals[1]?).map (·.type)=U 298:=Um
theorem c3B:prog.cellsOf 298=20:=Um
theorem c3z:prog.cellsOf 255=1:=Um
theorem Tk : prog.globalNamed "bookings/lines.weekdays" = U 5 := by kernel_rfl
theorem c0J:(prog.globals[5]?).map (·.type)=U 331:=Um
theorem oU : prog.globalNamed "bookings/calendar.monthDays" = U 0 := by kernel_rfl
theorem c3g:(prog.globals[0]?).map (·.type)=U 138:=Um
theorem c3C:prog.cellsOf 138=12:=Um
theorem Tt:prog.cellsOf 3=1:=Um
theorem DU:prog.cellsOf 9=1:=Um
theorem Tj {W: UF} {l: J (String × DataW Unit)} (hM : laidMet prog l W) (hS : W.ShapedOpen prog) (m1 : ("bookings/calendar.monthDays", Rows.laid_bookings_calendar_monthDays) ∈ l) (m2 : ("internal/strconv.uint64pow10", Rows.laid_internal_strconv_uint64pow10) ∈ l) (m3 : ("bookings/lines.weekdays", Rows.laid_bookings_lines_weekdays) ∈ l) : Env W := by
 have ht : ZB prog W "bookings/calendar.monthDays" (ZC Y [31, 28, 31, 30, 31, 30, 31, 31, 30, 31, 30, 31]) := ZE hM (d := Rows.laid_bookings_calendar_monthDays) m1;have hp : ZB prog W "internal/strconv.uint64pow10" (ZC .u64 Lib.pow10Tab) := ZE hM (d := Rows.laid_internal_strconv_uint64pow10) m2;have hd : ZB prog W "bookings/lines.weekdays" (.agg ([[109, 111], [116, 117], [119, 101], [116, 104], [102, 114], [115, 97], [115, 117]].map fun z => .lit (.string z))) := ZE hM (d := Rows.laid_bookings_lines_weekdays) m3;have day:=fun i z hz=>b9t Tk c0J underlying331 underlying9 DU hd i z hz;have tb:=LG oU c3g underlying138 underlying3 Tt c3C ht;have hsz:10<=W.heap.size:=by have h0:(((begin prog (fun _ _=>0) default).world.heap[9]?).bind Obj.row?).isSome=UE:=Um;obtain⟨⟨zero,t⟩,h1⟩:=Option.isSome_iff_exists.1 h0;obtain⟨cs,hh,_⟩:=hS.1 9 zero t (of_decide_eq_true Um) h1;exact (Array.getElem?_eq_some_iff.1 hh).1
 exact⟨⟨tb.cell oU 0 Uj,tb.cell oU 1 Uj,tb.cell oU 2 Uj,tb.cell oU 3 Uj,tb.cell oU 4 Uj,tb.cell oU 5 Uj,tb.cell oU 6 Uj,tb.cell oU 7 Uj,tb.cell oU 8 Uj,tb.cell oU 9 Uj,tb.cell oU 10 Uj,tb.cell oU 11 Uj⟩,cell_of_shapedOpen_int (zero:=#[V Y 0]) (t:=3) hS (of_decide_eq_true Um) Um rfl Um Um underlying3,
  LG vP c3f underlying298 underlying255 c3z c3B hp,hsz,
  day 0 _ rfl,day 1 _ rfl,day 2 _ rfl,day 3 _ rfl,day 4 _ rfl,day 5 _ rfl,day 6 _ rfl⟩
end Go.Proofs.YtolaacmheeaadaaGreatDoor.EnvLaid
namespace Go.Proofs.YtolaacmheeaadaaGreatDoor
open Go.RowKit
def cW:J Us:=[cC,fY,cO,iq,dA,cD]
def na:J Us:=[fZ,fS]
def oN:J Us:=[fU,fS,kB]
def px:J Us:=[gg,fS]
def lF:J Us:=[eV,fS]
def qg:J Us:=[fe,fY]
def jR:J (J Us):=[na,oN,px]
def ends:J (J Us):=[lF,qg]
def kG(H:J Us):J (J Us):=jR.flatMap fun K=>ends.map fun E=>H++K++cW++E
def lf:J Us:=[eQ,bF,bW]
def og:J Us:=[fA]
def fV:J (J Us):=[[ix,bF,bW],[iO,bF,bW,aU,aU],[iE,bF,bW,aU,aU,cD],[iF,bF,bW,aU,aU,cD],[iU,gT],[iR,gT],[dC,bF],[dC,bF,aU,aU],[iT],[iu,bF,aU,aU],[ir,bF,bW,cD,aU,aU],[ja,cD],[iN]]++kG lf++kG og
theorem GZ:py=fV:=Ul
theorem G4:∀ p∈fV,p≠[]:=Ul
def gk(k:Us)(p:J Us):Uv:=bG (p.headD Ym) k
theorem Cw(h:bP ws 0 UD k=UE):∃ t,ws=k :: t:=by
 rw[qi] at h;let⟨_,h1,h2⟩:=oQ h;have e:=qQ h2;match ws,h1 with
 |a :: t,_=>exact⟨t,by grind⟩
theorem IR{t:J Us}(h:Txt.aC s=k :: t):kH s=scan (fV.filter (gk k)) (Txt.aC s) 0:=by
 unfold kH;rw[GZ,C5 _ (gk k) fV 0];intro p i f;have d:=G4 p i;refine⟨?_,d⟩;match p,d,f with
 |a :: p',_,f =>have e:bG a k=UD:=f;rw[h,pre,e];rfl
theorem fp(h:bP ws 0 UD k=UE)(d:fl k=UE)(p:J Us):aP ws (p.map bG) (1,UD)=aP ws ((k :: p).map bG) (0,UD):=by
 have e:gG ws (bG k) (0,UD)=(1,UD):=by let⟨_,h1,h2⟩:=oQ (qi ws 0 UD k ▸ h);rw[jI k d];exact Jr h1 h2
 show _=aP ws (p.map bG) (gG ws (bG k) (0,UD));rw[e]
theorem jJ(h:aP ws (q.map bG) (0,UD)=st):Sum [q] ws st q:=by
 let⟨n,b⟩:=st;have f:=qk h;have one:∀ p∈[q],p=q:=fun p f=>X9.1 f;refine⟨X9.2 rfl,fun p d=>by grind,f,fun j p d e=>?_,fun j=>⟨?_,fun p d i=>UA (one p d) i⟩⟩
 .cases j
  rw[one p d] at e;have:=xA h;omega
 .cases j
  rw[f];exact sY h
theorem xG:∀ (Q R ws:J Us),pre Q ws<=pre (Q++R) ws
 |[],_,_=>by simp[pre]
 |_ :: _,_,[]=>by simp[pre]
 |s :: Q,R,w :: ws=>by have:=xG Q R ws;simp only[Vm,pre];split <;> omega
theorem Cm(h:aP ws ([dC,bF].map bG) (0,UD)=st)(o:dN ws.length st.1 st.2=UD):Sum [[dC,bF],[dC,bF,aU,aU]] ws st [dC,bF]:=by
 let⟨n,b⟩:=st;have f:=qk h;have u:=(uB [dC,bF,aU,aU] ws).2;have r:pre [dC,bF,aU,aU] ws<=n:=by
  cases b
  .have:¬ n<ws.length:=by simpa[dN] using o
   omega
  .exact ZF (G5 [aU,aU] h)
 have t:n<=2:=by have:=(uB [dC,bF] ws).1;rw[f] at this;exact this
 refine⟨by simp,?_,f,?_,?_⟩
 .intro p d;rcases Va.1 d with rfl|d
  .exact ZF f
  .rw[X9.1 d];exact r
 .intro j p d e
  cases j;have l:=xA h;rcases Va.1 d with rfl|d
  .rw[f] at e;exact UA e.1 Uo
  .rw[X9.1 d] at e;exact UA e.1 Uo
 .intro j
  cases j;refine⟨f.trans (sY h),fun p d i e=>?_⟩;rcases Va.1 d with rfl|d
  .exact i rfl
  .rw[X9.1 d] at e;exact UA e.1 Uo
theorem Cn{f:M × Uv}(h:aP ws ([dC,bF].map bG) (0,UD)=st)(A:dN ws.length st.1 st.2=UE)(t:aP ws ([dC,bF,aU,aU].map bG) (0,UD)=f):Sum [[dC,bF],[dC,bF,aU,aU]] ws f [dC,bF,aU,aU]:=by
 let⟨n,b⟩:=st;let⟨n',b'⟩:=f;have C:=qk h;have i:=qk t;have j:=sH A;have o:pre [dC,bF] ws<=pre [dC,bF,aU,aU] ws:=xG [dC,bF] [aU,aU] ws;refine⟨by simp,?_,i,?_,?_⟩
 .intro p d;rcases Va.1 d with rfl|d
  .show _<=n';omega
  .rw[X9.1 d];exact ZF i
 .intro r p d e
  cases r;have u:n'<4:=xA t;rcases Va.1 d with rfl|d
  .have:n<ws.length:=j;omega
  .rw[X9.1 d] at e;have D:pre [dC,bF,aU,aU] ws=4:=e.1;omega
 .intro r
  cases r;refine⟨i.trans (sY t),fun p d l e=>?_⟩;rcases Va.1 d with rfl|d
  .have:n<ws.length:=j;omega
  .exact l (X9.1 d)
theorem Cj(h:p∈kG H):∃ K∈jR,∃ E∈ends,p=H++K++cW++E:=by unfold kG at h;simp only[ZG,VQ] at h;obtain⟨K,d,E,f,rfl⟩:=h;exact⟨K,d,E,f,rfl⟩
theorem Ce(d:K∈jR)(f:E∈ends):H++K++cW++E∈kG H:=by unfold kG;simp only[ZG,VQ];exact⟨K,d,E,f,rfl⟩
theorem Ph(h:K∈jR):∃ K',K=K.headD Ym :: K':=by
 simp only[jR,Va,ZH,or_false] at h;rcases h with rfl|rfl|rfl
 .exact⟨[fS],rfl⟩
 .exact⟨[fS,kB],rfl⟩
 .exact⟨[fS],rfl⟩
theorem OE(h:E∈ends):∃ E',E=E.headD Ym :: E':=by
 simp only[ends,Va,ZH,or_false] at h;rcases h with rfl|rfl
 .exact⟨[fS],rfl⟩
 .exact⟨[fY],rfl⟩
theorem Ch(h:K∈jR)(d:aP ws (H.map bG) (0,UD)=(n,UD))(f:fQ ws n UD (bG (K.headD Ym))=UD):pre (H++K++cW++E) ws=n/\n<(H++K++cW++E).length:=by let⟨K',e⟩:=Ph h;have j:=sY d;have i:H++K++cW++E=H++K.headD Ym :: (K'++cW++E):=Uo;rw[i];exact⟨GJ _ d f,by grind⟩
theorem GH(h:E∈ends)(d:aP ws (Q.map bG) (0,UD)=(n,UD))(f:fQ ws n UD (bG (E.headD Ym))=UD):pre (Q++E) ws=n/\n<(Q++E).length:=by let⟨E',e⟩:=OE h;have i:=sY d;rw[e];exact⟨GJ _ d f,by grind⟩
theorem GC(d:aP ws (Q.map bG) (0,UD)=(n,UE)):pre (Q++E) ws=n/\n<(Q++E).length:=by have:=xA d;exact⟨G5 _ d,by grind⟩
theorem GY(hK:K∈jR)(hE:E∈ends)(F:aP ws (H.map bG) (0,UD)=(n,UD))
  (hk:∀ A∈jR,A≠K->fQ ws n UD (bG (A.headD Ym))=UD) (G:aP ws ((H++K++cW).map bG) (0,UD)=(m,UD))
  (he:∀ j∈ends,j≠E->fQ ws m UD (bG (j.headD Ym))=UD) (i:aP ws ((H++K++cW++E).map bG) (0,UD)=st):Sum (kG H) ws st (H++K++cW++E):=by
 let⟨l,b⟩:=st;have o:=qk i;have T:n<=l:=by have u:=xG H (K++cW++E) ws;rw[qk F,<- V8,<- V8,o] at u;exact u
 have X:m<=l:=by have u:=xG (H++K++cW) E ws;rw[qk G,o] at u;exact u
 have f:∀ p∈kG H,p=H++K++cW++E\/(pre p ws<=l/\pre p ws<p.length):=by
  intro p d;obtain⟨A,r,j,t,rfl⟩:=Cj d;by_cases S:A=K
  .subst S
   by_cases P:j=E
   .subst P;exact .inl rfl
   .let⟨q1,q2⟩:=GH t G (he j t P);exact .inr ⟨O,O⟩
  .let⟨q1,q2⟩:=Ch (E:=j) r F (hk A r S);exact .inr ⟨O,O⟩
 refine⟨Ce hK hE,fun p d=>?_,o,fun D p d e=>?_,fun D=>⟨?_,fun p d C e=>?_⟩⟩
 .rcases f p d with rfl|h
  .exact ZF o
  .exact h.1
 .cases D
  have I:=xA i;rcases f p d with rfl|h
  .omega
  .omega
 .cases D;exact o.trans (sY i)
 .rcases f p d with h|h
  .exact C h
  .omega
theorem Pd(P:K∈jR)(t:aP ws (H.map bG) (0,UD)=(n,UD))
  (F:∀ l∈jR,l≠K->fQ ws n UD (bG (l.headD Ym))=UD) (r:aP ws ((H++K++cW).map bG) (0,UD)=(m,b))
  (G:∀ h∈ends,fQ ws m b (bG (h.headD Ym))=UD):Sum (kG H) ws (m,UE) (H++K++cW++lF):=by
 have u:lF∈ends:=by simp[ends]
 have D:n<=m:=by have A:=xG H (K++cW) ws;rw[qk t,<- V8,qk r] at A;exact A
 have i:∀ h∈ends,pre (H++K++cW++h) ws=m/\m<(H++K++cW++h).length:=by
  intro h f
  cases b
  .exact GH f r (G h f)
  .exact GC r
 have o:∀ p∈kG H,pre p ws<=m/\pre p ws<p.length:=by intro p d;obtain⟨l,j,h,f,rfl⟩:=Cj d;by_cases C:l=K;subst C;let⟨q1,q2⟩:=i h f;exact⟨O,O⟩;let⟨q1,q2⟩:=Ch (E:=h) j t (F l j C);exact⟨O,O⟩
 exact⟨Ce P u,fun p d=>(o p d).1,(i lF u).1,fun _ p d e=>by grind,fun I=>UA I Ui⟩
theorem Pq(o:aP ws (H.map bG) (0,UD)=(n,b))(u:∀ h∈jR,fQ ws n b (bG (h.headD Ym))=UD):Sum (kG H) ws (n,UE) (H++na++cW++lF):=by
 have r:na∈jR:=by simp[jR]
 have C:lF∈ends:=by simp[ends]
 have i:∀ h∈jR,∀ j:J Us,pre (H++h++cW++j) ws=n/\n<(H++h++cW++j).length:=by
  intro h f j
  cases b
  .exact Ch f o (u h f)
  .have t:=GC (E:=h++cW++j) o;rw[<- V8,<- V8] at t;exact t
 have l:∀ p∈kG H,pre p ws<=n/\pre p ws<p.length:=by intro p d;obtain⟨h,f,j,_,rfl⟩:=Cj d;let⟨q1,q2⟩:=i h f j;exact⟨O,O⟩
 exact⟨Ce r C,fun p d=>(l p d).1,(i na r lF).1,fun _ p d e=>by grind,fun A=>UA A Ui⟩
end Go.Proofs.YtolaacmheeaadaaGreatDoor
