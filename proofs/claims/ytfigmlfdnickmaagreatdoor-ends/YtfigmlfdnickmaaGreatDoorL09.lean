import Derived.Test.YtfigmlfdnickmaaGreatDoorL08
import Derived.Test.YtfigmlfdnickmaaGreatDoorRows
import Derived.Test.YtfigmlfdnickmaaGreatDoorCards
import Derived.Test.YtfigmlfdnickmaaGreatDoorTie
import Derived.WalkKit
import Derived.ProofKit
import Derived.Deep.DeepWitnessRowRef
import Derived.LaidLaws
import Derived.OpenShut
import Derived.Deep.Slices
import Derived.Deep.DeepHandedRow
import Derived.Lib.LaidTab
import Derived.Lib.LaidU8
import Derived.Shelf.Vars
import Derived.BigQuiet
set_option maxRecDepth 100000
set_option maxHeartbeats 8000000
open Go.Proofs.Tryz
open _root_ renaming ByteArray->XK,List->XL,Bool->XN,Nat->XP,Int->XQ,if_neg->XR,if_pos->XS,absurd->XT,Int->N,Nat->M,List->J
open Option renaming none->XU,some->XV,mem_toList->ZL,some->U
open Bool renaming false->XW,true->XX,false_eq_true->Yr,and_eq_true->ZR
open Go renaming World->XY,Value->XZ,Calls->X4,TypeId->X6
open Go.RowKit renaming Below->X0
open List renaming getD->Zm,drop_eq_getElem_cons->ZH,map_append->Zl,mem_cons_of_mem->ZK,mem_cons->Yu,length_append->YZ,length_map->ZE,length_filter_le->ZA,length->Y4,getElem?_eq_getElem->ZV,mem_map->Zh,append_assoc->YU,mem_append->Yv,length_set->Zx,length_cons->Y0,getElem?_append_right->Zt,drop_eq_nil_of_le->ZI,nodup_cons->Yx,getElem?_append_left->Zn
open Go.Exit renaming inBlock->Zz
open Nat renaming le_trans->Yk,zero_le->Zd,le_refl->Yi,add_sub_cancel_left->Zu,lt_of_lt_of_le->Zg
open Option.some renaming inj->ZN
open And renaming intro->Yz
open Go.World renaming size_alloc->ZM,setCell->YA,block_lt_of_cell?->Yl,news_of_block->ZF,cell?->YF,frozen?->Ym,ownsRow_nil->ZD
open Array renaming getElem?_eq_none->Zw
open Go.Value renaming oneCell'->ZG,int->X7,ownBlock->ZB,slice->X9,pointer->X8,string->Ya,int->V
open Go.IntKind renaming i64->Yf,i64->Y
open Go.Ending renaming returned->Yg
open Go.Obj renaming cells->Yh
variable{k:XK}{fr given mi mn pc ti un:XQ}{P:XQ->XL Go.Value}{ts:XL (XK × XQ)}{xs':XL (Go.Proofs.YtfigmlfdnickmaaGreatDoor.aA.aO × XP × XP)}{ps:XL (XL XK)}{E H R p q ws:XL XK}{acc:XL XQ}{F G:XL XP}{pat:XL Go.Value}{B Q cap d g i j n z:XP}{st:XP × XN}{o:Go.Obj}{a a0 a1 a2 a3 a4 a5 c l r r' u v:Go.Value}{W Z Z' Z3 w w' w0 w9 wr:Go.World}
namespace Go.Proofs.YtfigmlfdnickmaaGreatDoor
open Go.RowKit
def jz(p ws:J XK):M->XK
 |0=>⟨#[]⟩
 |k+1=>(if 0<k then jz p ws k++⟨#[32]⟩ else jz p ws k)++iq (p.getD k ⟨#[]⟩) (ws.getD k ⟨#[]⟩)
theorem PE(n:N)(f:-1<=n)(h:n<=9999999):(aB.hH n).size<=160:=by
 by_cases e:n=-1
 .subst e;decide +kernel
 .have:=aB.Fq n O h;omega
theorem PO(t:N)(A:0<=t)(y:t<=1048320):(tN t).size<=160:=by
 have h:=PH (t / 1440) O O;have f:=Pa (t % 1440) O O;have C:(⟨#[47]⟩:XK).size=1:=XC
 unfold tN;simp only[ByteArray.size_append];omega
theorem OU(w:XK):(rN w).size<=160:=by
 unfold rN
 split
 .rename_i acc _
  have:=B6 acc 7;have e:(A5 acc).size=min (jC acc 7).size (jC acc 7).size-1:=ByteArray.size_extract ..;omega
 .exact zN _
theorem Gw(f w:XK)(C:w.size<=160)(D:bE f w=XX):(iq f w).size<=160:=by
 have A:=Gl w;have y:=PE (bT w 1 7) A.1 A.2;unfold iq
 split
 .exact y
 .split
  .exact y
  .split
   .exact y
   .split
    .exact y
    .split
     .rename_i h;exact PO _ (GG h D) (Gn w).2
     .split
      .exact OU w
      .exact C
theorem Hg:∀ (ps:J (J XK))(ws:J XK)(m:M)(p:J XK),scan ps ws m=(U p,0)->pre p ws=p.length/\pre p ws=ws.length
 |[],_,_,_,h=>by simp[scan] at h
 |q :: ps,ws,m,p,h=>by
  unfold scan at h
  split at h
  .rename_i hc;simp at h;subst h;exact hc
  .exact Hg ps ws _ p h
theorem G4(p ws:J XK)(y:pre p ws=p.length)(f:pre p ws=ws.length)(h:∀ x∈ws,x.size<=160):∀ k:M,k<=ws.length->(jz p ws k).size<=161*k
 |0,_=>zq _
 |k+1,hk=>by
  have ih:=G4 p ws y f h k O;have A:=yM p ws k O O O;have D:p.getD k ⟨#[]⟩=p[k]'Xz:=by simp[Zm,show k<p.length by omega]
  have C:ws.getD k ⟨#[]⟩=ws[k]'Xz:=by simp[Zm,show k<ws.length by omega]
  have z:=Gw (p[k]'Xz) (ws[k]'Xz) (h _ (zg O)) A;have I:(⟨#[32]⟩:XK).size=1:=XC
  unfold jz;rw[D,C]
  split
  .simp only[ByteArray.size_append];omega
  .simp only[ByteArray.size_append];omega
def PR(s:XK)(e:Ending):Prop :=
 (160<s.size/\e=Yg (.tuple #[Ya ⟨#[]⟩,V Y 1,V Y 0])) \/
 (s.size<=160/\((∃ p,jW s=(U p,0)/\e=Yg (.tuple #[jz p (aB.aU s) (aB.aU s).length,V Y 0,V Y 0])) \/
  (∃ m:M,jW s=(XU,m)/\e=Yg (.tuple #[Ya ⟨#[]⟩,V Y 2,V Y m]))))
theorem H8(s:XK)(w:XY)(h:160<s.size):
  X4 prog 78 #[s] w fun e w'=>e=Yg (.tuple #[(),(),V Y 1,V Y 0])/\w'=w:=by
 have f:(160:N)<(s.size:N):=O
 go_in
 go_wp2
 (try simp only[Zz,Exit.then]);refine bodyPost_ret (qP rfl _ _ _) rfl ?_
 exact⟨rfl,rfl⟩
theorem Qe(s:XK)(w:XY)(he:Env w):
  X4 prog 55 #[s] w fun e w'=>PR s e/\X0 w w w':=by
 by_cases hs:s.size<=160
 .have HE:=hide he;clear he
  go_in
  go_wp21
  refine (Ci s w hs).mono ?_;rintro e w1 ⟨hr,ai⟩;rcases hr with ⟨p,a,b,c,d,g,h,A,rfl,ra,rb⟩|⟨m,A,rfl⟩
  .have ⟨l1,l2⟩:=Hg _ _ _ _ A;have ae:=hide A;have ar:=Cf s;have hw:∀ x∈aB.aU s,x.size<=160:=fun x hx=>Yk (zK s x hx) hs
   have aq:=hide (G4 p (aB.aU s) l1 l2 hw);have HW:=hide hw;have L1:=hide l1;have L2:=hide l2;have ao:=hide (yM p (aB.aU s));clear A hw l1 l2;go_wp2
   go_loopw [9,10,11] (fun o i _ wx=>∃ k:M,k<=(aB.aU s).length/\i=V Y k/\o=Ya (jz p (aB.aU s) k)/\Row wx a g (aB.aU s)/\Row wx b h p/\X0 w w wx) (fun _ i _ _=>(aB.aU s).length-(intOf i).toNat)
   .exact⟨0,Zd _,rfl,rfl,ra,rb,ai⟩
   .obtain⟨k,hk,rfl,rfl,S,I,C⟩:=hrel;clear ra rb;have oz:=aP aq k hk
    by_cases T:k<(aB.aU s).length
    .have ac:k<p.length:=by have:=aP L1;have:=aP L2;omega
     obtain rfl:=S.at_ O;obtain rfl:=I.at_ O;have k1:=I.cells k ac;have k2:=S.cells k T;have j1:(k:N)<(p.length:N):=O
     have j2:(k:N)<((aB.aU s).length:N):=O
     have j0:(0:N)<=(k:N):=Int.natCast_nonneg _;have ab:(aB.aU s)[k].size<=160:=aP HW _ (zg T);have ad:bE p[k] (aB.aU s)[k]=XX:=aP ao k ac T (by have:=aP L2;omega);have al:=hide ab;have an:=hide ad;have wz:=Gw _ _ ab ad
     have ak:Hid (jz p (aB.aU s) (k+1)=(if 0<k then jz p (aB.aU s) k++⟨#[32]⟩ else jz p (aB.aU s) k)++iq p[k] (aB.aU s)[k]):=by
      show jz p (aB.aU s) (k+1)=_;rw[jz,show p.getD k ⟨#[]⟩=p[k] from by simp[Zm,ac],show (aB.aU s).getD k ⟨#[]⟩=(aB.aU s)[k] from by simp[Zm,T]]
     clear ab ad;have aj:=hide ((aP HE).later C)
     by_cases ag:0<k
     .have j3:(0:N)<(k:N):=O
      have af:Hid (jz p (aB.aU s) (k+1)=jz p (aB.aU s) k++⟨#[32]⟩++iq p[k] (aB.aU s)[k]):=ak.trans (by rw[XS ag])
      go_wp21
      go_region_held3 (fun w'=>w'.cell? (h,k)=U (Ya p[k])/\w'.cell? (g,k)=U (Ya (aB.aU s)[k]))
       (first
        |go_keep
        |(
         go_split_ands
         refine⟨?_,?_⟩
         .exact cell_later f XD
         .exact cell_later f XD))
       ((go_at_call 79;refine (Hy _ _ _ ?_ (aP al) (aP an)).mono ?_;exact (aP aj).later ⟨rfl,rfl,rfl,Yi _,fun _ _=>rfl⟩;rintro e w4 ⟨rfl,f⟩))
      have y:X0 wr wr w4:=⟨f.os,f.tape,f.output,f.size,f.block⟩;have D:=C.trans (y.mono C.size);have aa:=S.later y;have X:=I.later y;go_wp2;exact⟨⟨k+1,O,by go_num,by rw[af],aa,X,D⟩,by simp[intOf];omega⟩
     .have j3:¬ (0:N)<(k:N):=O
      have af:Hid (jz p (aB.aU s) (k+1)=jz p (aB.aU s) k++iq p[k] (aB.aU s)[k]):=ak.trans (by rw[XR ag])
      go_wp21
      go_region_held3 (fun w'=>w'.cell? (h,k)=U (Ya p[k])/\w'.cell? (g,k)=U (Ya (aB.aU s)[k]))
       (first
        |go_keep
        |(
         go_split_ands
         refine⟨?_,?_⟩
         .exact cell_later f XD
         .exact cell_later f XD))
       ((go_at_call 79;refine (Hy _ _ _ ?_ (aP al) (aP an)).mono ?_;exact (aP aj).later ⟨rfl,rfl,rfl,Yi _,fun _ _=>rfl⟩;rintro e w4 ⟨rfl,f⟩))
      have y:X0 wr wr w4:=⟨f.os,f.tape,f.output,f.size,f.block⟩;have D:=C.trans (y.mono C.size);have aa:=S.later y;have X:=I.later y;go_wp2;exact⟨⟨k+1,O,by go_num,by rw[af],aa,X,D⟩,by simp[intOf];omega⟩
    .obtain rfl:k=(aB.aU s).length:=O
     go_wp2;go_ret3;exact⟨.inr ⟨hs,.inl ⟨p,aP ae,rfl⟩⟩,C⟩
  .have ae:=hide A;clear A;go_wp2;go_ret3;exact⟨.inr ⟨hs,.inr ⟨m,aP ae,rfl⟩⟩,ai⟩
 .go_in
  go_wp21
  refine aX (H8 s w O) ?_;go_wp2;go_ret3;exact⟨.inl ⟨O,rfl⟩,Below.refl _ _⟩
theorem lW(ws:J XK)(P Q:J (XK->XN))(st:M × XN):aW ws (P++Q) st=aW ws Q (aW ws P st):=List.foldl_append ..
theorem NH(ws:J XK)(B:XK->XN)(n:M):eC ws B (n,XX)=(n,XX):=by simp[eC,eS,eO,eU,cU]
theorem si(ws:J XK):∀ (f:J (XK->XN))(n:M),aW ws f (n,XX)=(n,XX)
 |[],_=>rfl
 |B :: f,n=>by
  show aW ws f (eC ws B (n,XX))=_;rw[NH,si ws f n]
theorem yE{B:XK->XN}(h:eU ws n XW B=XW):eC ws B (n,XW)=(n,XX):=by
 simp only[eC,eS,eO,h,if_false,Yr]
theorem NT{B:XK->XN}(h:¬ n<ws.length):eU ws n XW B=XW:=by simp[eU,cU,h]
theorem Ge{B:XK->XN}(h:B (ws.getD n ByteArray.empty)=XW):eU ws n XW B=XW:=by simp only[eU,h,Bool.and_false]
theorem nJ{B:XK->XN}{wr:XN}(h:eU ws n wr B=XX):wr=XW/\n<ws.length/\B (ws.getD n ByteArray.empty)=XX:=by
 unfold eU cU at h;simp only[ZR,Bool.not_eq_true',decide_eq_true_eq] at h;exact⟨h.1.1,h.1.2,h.2⟩
theorem GQ(ws:J XK):∀ (p:J XK)(n:M),n<=ws.length->aW ws (p.map bE) (n,XW)=(n+pre p (ws.drop n),decide (pre p (ws.drop n)≠p.length))
 |[],n,_=>by simp[pre,aW]
 |s :: p,n,hn=>by
  show aW ws (p.map bE) (eC ws (bE s) (n,XW))=_
  by_cases f:n<ws.length
  .have A:ws.drop n=ws[n] :: ws.drop (n+1):=ZH f;have y:ws.getD n ByteArray.empty=ws[n]:=qV ws n f
   cases h:bE s ws[n]
   .rw[yE (Ge (by rw[y];exact h)),si,A,pre,h];simp
   .rw[Iq f (by rw[y];exact h),GQ ws p (n+1) f,A,pre,h];simp only[if_true];refine Prod.ext ?_ ?_
    .show n+1+_=n+(_+1);omega
    .simp
  .rw[yE (NT f),si,List.drop_of_length_le O];simp[pre]
theorem Bg(ws p:J XK):aW ws (p.map bE) (0,XW)=(pre p ws,decide (pre p ws≠p.length)):=by
 have:=GQ ws p 0 (zN _)
 simpa using this
theorem oN{b:XN}(h:aW ws (p.map bE) (0,XW)=(n,b)):pre p ws=n:=by
 rw[Bg] at h;exact (Prod.mk.inj h).1
theorem rR(h:aW ws (p.map bE) (0,XW)=(n,XW)):n=p.length:=by
 rw[Bg] at h;let⟨h1,h2⟩:=Prod.mk.inj h;rw[h1] at h2
 by_cases e:n=p.length
 .exact e
 .simp[e] at h2
theorem wg(h:aW ws (p.map bE) (0,XW)=(n,XX)):n<p.length:=by
 have f:=(tH p ws).1;rw[Bg] at h;let⟨h1,h2⟩:=Prod.mk.inj h;rw[h1] at h2 f
 by_cases e:n=p.length
 .simp[e] at h2
 .omega
theorem Gc{Q:J XK}(R:J XK)(h:aW ws (Q.map bE) (0,XW)=(n,XX)):pre (Q++R) ws=n:=by
 apply oN (b:=XX);rw[Zl,lW,h,si]
theorem FU{Q:J XK}{s:XK}(R:J XK)(h:aW ws (Q.map bE) (0,XW)=(n,XW))(f:eU ws n XW (bE s)=XW):pre (Q++s :: R) ws=n:=by
 apply oN (b:=XX);rw[Zl,lW,h];show aW ws (R.map bE) (eC ws (bE s) (n,XW))=_;rw[yE f,si]
theorem Br{Q:J XK}(h:aW ws ((Q++R).map bE) (0,XW)=(n,XW)):aW ws (Q.map bE) (0,XW)=(Q.length,XW):=by
 rw[Zl,lW] at h;obtain⟨m,b,f⟩:∃ m b,aW ws (Q.map bE) (0,XW)=(m,b):=⟨_,_,rfl⟩
 cases b
 .rw[f,rR f]
 .rw[f,si] at h;cases h
theorem wu{Q:J XK}{s:XK}(h:aW ws ((Q++s :: R).map bE) (0,XW)=(n,XW)):eU ws Q.length XW (bE s)=XX:=by
 have f:=Br h;rw[Zl,lW,f] at h
 cases ht:eU ws Q.length XW (bE s)
 .have:aW ws (R.map bE) (eC ws (bE s) (Q.length,XW))=(n,XW):=h;rw[yE ht,si] at this
  cases this
 .rfl
structure Sum(ps:J (J XK))(ws:J XK)(st:M × XN)(q:J XK):Prop where
 mem:q∈ps
 le:∀ p∈ps,pre p ws<=st.1
 at_:pre q ws=st.1
 bad:st.2=XX->∀ p∈ps,¬ (pre p ws=p.length/\pre p ws=ws.length)
 rW:st.2=XW->pre q ws=q.length/\∀ p∈ps,p≠q->¬ (pre p ws=p.length/\pre p ws=ws.length)
theorem Hf:∀ (ps:J (J XK))(ws:J XK)(m f:M),(∀ p∈ps,¬ (pre p ws=p.length/\pre p ws=ws.length))->(∀ p∈ps,pre p ws<=f)->m<=f->(m=f\/∃ p∈ps,pre p ws=f)->scan ps ws m=(XU,f)
 |[],_,m,f,_,_,_,h=>by
  rcases h with rfl|⟨p,A,_⟩
  .rfl
  .simp at A
 |p :: ps,ws,m,f,h1,h2,h3,h4=>by
  have A:=h2 p (List.mem_cons_self ..);rw[scan,XR (h1 p (List.mem_cons_self ..))];refine Hf ps ws _ f (fun q y=>h1 q (ZK _ y)) (fun q y=>h2 q (ZK _ y)) (by split <;> omega) ?_;rcases h4 with rfl|⟨q,y,e⟩
  .left;rw[XR O]
  .rcases Yu.1 y with rfl|y
   .left;split <;> omega
   .exact .inr ⟨q,y,e⟩
theorem GO:∀ (ps:J (J XK))(ws:J XK)(m:M)(q:J XK),q∈ps->pre q ws=q.length/\pre q ws=ws.length->(∀ p∈ps,p≠q->¬ (pre p ws=p.length/\pre p ws=ws.length))->scan ps ws m=(U q,0)
 |[],_,_,_,h,_,_=>by simp at h
 |p :: ps,ws,m,q,h,hf,hn=>by
  rw[scan]
  by_cases e:p=q
  .subst e;rw[XS hf]
  .rw[XR (hn p (List.mem_cons_self ..) e)];rcases Yu.1 h with h|h
   .exact XT h.symm e
   .exact GO ps ws _ q h hf (fun r f=>hn r (ZK _ f))
theorem Sum.yes(h:Sum ps ws st q)(f:st.2=XW)(y:cU ws.length st.1 st.2=XW):scan ps ws 0=(U q,0):=by
 let⟨g1,g2⟩:=h.rW f;have A:¬ st.1<ws.length:=by simpa[cU,f] using y
 have:=(tH q ws).2;have:=h.at_;exact GO ps ws 0 q h.mem ⟨g1,O⟩ g2
theorem Sum.no(h:Sum ps ws st q)(f:st.2=XX\/cU ws.length st.1 st.2=XX):scan ps ws 0=(XU,st.1):=by
 refine Hf ps ws 0 st.1 ?_ h.le (zN _) (.inr ⟨q,h.mem,h.at_⟩);rcases f with f|f
 .exact h.bad f
 .have A:=rh f;intro p y e;have:=h.le p y;omega
theorem Hw(ws:J XK)(f:J XK->XN):∀ (ps:J (J XK))(m:M),(∀ p∈ps,f p=XW->pre p ws=0/\p≠[])->scan ps ws m=scan (ps.filter f) ws m
 |[],_,_=>rfl
 |p :: ps,m,h=>by
  have ih:=fun m=>Hw ws f ps m (fun q A=>h q (ZK _ A))
  cases y:f p
  .let⟨h0,hne⟩:=h p (List.mem_cons_self ..) y;rw[List.filter_cons_of_neg (by simp[y]),scan,h0,XR,XR O,ih];rintro ⟨e,_⟩;exact hne (List.length_eq_zero_iff.1 e.symm)
  .rw[List.filter_cons_of_pos y,scan,scan,ih]
def cM:XK:=⟨#[78,65,77,69]⟩
def eN:XK:=⟨#[85,78,73,84,83]⟩
def fp:XK:=⟨#[77,73,78,85,84,69,83]⟩
def iN:XK:=⟨#[69,86,69,82,89]⟩
def lT:XK:=⟨#[73,68]⟩
def bN:XK:=⟨#[84,73,77,69]⟩
def iM:XK:=⟨#[68,65,84,69]⟩
def kD:XK:=⟨#[77,73,78,85,84,69]⟩
def mG:XK:=⟨#[79,78]⟩
theorem B5(w:XK)(f hi:N)(h:0<=f):lr w f hi=fF w f hi:=by
 unfold lr fF;rw[wJ]
 cases y:aB.isNum w.data.toList
 .simp;omega
 .simp
theorem gU:bE cM=bV:=by
 have f:(cM.toList==[78,65,77,69])=XX:=XE
 funext w;unfold bE;rw[XS f];rfl
theorem jX:bE eN=dM:=by
 have h:¬ (eN.toList==[78,65,77,69])=XX:=XE
 have f:(eN.toList==[85,78,73,84,83])=XX:=XE
 funext w;unfold bE;rw[XR h,XS f];exact B5 w 1 9 O
theorem pE:bE fp=fc:=by
 have y:¬ (fp.toList==[78,65,77,69])=XX:=XE
 have h:¬ (fp.toList==[85,78,73,84,83])=XX:=XE
 have f:(fp.toList==[77,73,78,85,84,69,83])=XX:=XE
 funext w;unfold bE;rw[XR y,XR h,XS f];exact B5 w 1 1048320 O
theorem rK:bE iN=eT:=by
 have A:¬ (iN.toList==[78,65,77,69])=XX:=XE
 have y:¬ (iN.toList==[85,78,73,84,83])=XX:=XE
 have h:¬ (iN.toList==[77,73,78,85,84,69,83])=XX:=XE
 have f:(iN.toList==[69,86,69,82,89])=XX:=XE
 funext w;unfold bE;rw[XR A,XR y,XR h,XS f];exact B5 w 1 99 O
theorem yp:bE lT=nV:=by
 have C:¬ (lT.toList==[78,65,77,69])=XX:=XE
 have A:¬ (lT.toList==[85,78,73,84,83])=XX:=XE
 have y:¬ (lT.toList==[77,73,78,85,84,69,83])=XX:=XE
 have h:¬ (lT.toList==[69,86,69,82,89])=XX:=XE
 have f:(lT.toList==[73,68])=XX:=XE
 funext w;unfold bE;rw[XR C,XR A,XR y,XR h,XS f,wJ]
 have:=aB.mB w.data.toList;unfold nV
 cases D:aB.isNum w.data.toList
 .simp
 .simp;omega
theorem lU:bE bN=bL:=by
 have D:¬ (bN.toList==[78,65,77,69])=XX:=XE
 have C:¬ (bN.toList==[85,78,73,84,83])=XX:=XE
 have A:¬ (bN.toList==[77,73,78,85,84,69,83])=XX:=XE
 have y:¬ (bN.toList==[69,86,69,82,89])=XX:=XE
 have h:¬ (bN.toList==[73,68])=XX:=XE
 have f:(bN.toList==[84,73,77,69])=XX:=XE
 funext w;unfold bE;rw[XR D,XR C,XR A,XR y,XR h,XS f]
 unfold dX
 cases ht:bL w
 .simp
 .unfold bL at ht;simp only[ZR,decide_eq_true_eq] at ht;simp;omega
theorem yk:bE iM=aB.dC:=by
 have c0:¬ (iM.toList==[78,65,77,69])=XX:=XE
 have X:¬ (iM.toList==[85,78,73,84,83])=XX:=XE
 have T:¬ (iM.toList==[77,73,78,85,84,69,83])=XX:=XE
 have S:¬ (iM.toList==[69,86,69,82,89])=XX:=XE
 have I:¬ (iM.toList==[73,68])=XX:=XE
 have D:¬ (iM.toList==[84,73,77,69])=XX:=XE
 have C:(iM.toList==[68,65,84,69])=XX:=XE
 funext w;unfold bE;rw[XR c0,XR X,XR T,XR S,XR I,XR D,XS C]
 unfold fM aB.dC;apply decide_eq_decide.2;constructor
 .intro h
  split at h
  .rename_i hc;exact⟨hc.1,hc.2.1,h.2⟩
  .omega
 .rintro ⟨A,f,y⟩;rw[XS ⟨A,f,O⟩];exact⟨f,y⟩
theorem FE:bE kD=aB.ef:=by
 have S:¬ (kD.toList==[78,65,77,69])=XX:=XE
 have I:¬ (kD.toList==[85,78,73,84,83])=XX:=XE
 have D:¬ (kD.toList==[77,73,78,85,84,69,83])=XX:=XE
 have C:¬ (kD.toList==[69,86,69,82,89])=XX:=XE
 have A:¬ (kD.toList==[73,68])=XX:=XE
 have y:¬ (kD.toList==[84,73,77,69])=XX:=XE
 have h:¬ (kD.toList==[68,65,84,69])=XX:=XE
 have f:(kD.toList==[77,73,78,85,84,69])=XX:=XE
 funext w;unfold bE;rw[XR S,XR I,XR D,XR C,XR A,XR y,XR h,XS f]
 have:=aB.zi w;unfold iG
 cases ht:aB.ef w
 .simp
 .simp;omega
theorem FG:bE mG=aB.eJ:=by
 have T:¬ (mG.toList==[78,65,77,69])=XX:=XE
 have S:¬ (mG.toList==[85,78,73,84,83])=XX:=XE
 have I:¬ (mG.toList==[77,73,78,85,84,69,83])=XX:=XE
 have D:¬ (mG.toList==[69,86,69,82,89])=XX:=XE
 have C:¬ (mG.toList==[73,68])=XX:=XE
 have A:¬ (mG.toList==[84,73,77,69])=XX:=XE
 have y:¬ (mG.toList==[68,65,84,69])=XX:=XE
 have h:¬ (mG.toList==[77,73,78,85,84,69])=XX:=XE
 have f:(mG.toList==[79,78])=XX:=XE
 funext w;unfold bE;rw[XR T,XR S,XR I,XR D,XR C,XR A,XR y,XR h,XS f]
def jm(x:XK):XN:=!(x.toList==[78,65,77,69]) && !(x.toList==[85,78,73,84,83]) && !(x.toList==[77,73,78,85,84,69,83]) && !(x.toList==[69,86,69,82,89]) && !(x.toList==[73,68]) && !(x.toList==[84,73,77,69]) && !(x.toList==[68,65,84,69]) && !(x.toList==[77,73,78,85,84,69]) && !(x.toList==[79,78])
theorem O3{x:XK}(h:jm x=XX):(x.toList==[78,65,77,69])=XW/\(x.toList==[85,78,73,84,83])=XW/\(x.toList==[77,73,78,85,84,69,83])=XW/\(x.toList==[69,86,69,82,89])=XW/\(x.toList==[73,68])=XW/\(x.toList==[84,73,77,69])=XW/\(x.toList==[68,65,84,69])=XW/\(x.toList==[77,73,78,85,84,69])=XW/\(x.toList==[79,78])=XW:=by
 unfold jm at h;simp only[ZR,Bool.not_eq_true'] at h;let⟨⟨⟨⟨⟨⟨⟨⟨h0,h1⟩,h2⟩,h3⟩,h4⟩,h5⟩,h6⟩,h7⟩,h8⟩:=h;exact⟨h0,h1,h2,h3,h4,h5,h6,h7,h8⟩
theorem iL(x:XK)(h:jm x=XX):bE x=bU x:=by
 let⟨h0,h1,h2,h3,h4,h5,h6,h7,h8⟩:=O3 h
 funext w
 unfold bE bU;rw[h0,h1,h2,h3,h4,h5,h6,h7,h8];simp only[Yr,if_false];exact BEq.comm
theorem oK(ws:J XK)(n:M)(wr:XN)(x:XK):bS ws n wr x=eU ws n wr (bU x):=rfl
theorem oQ{x:XK}(h:bS ws st.1 st.2 x=XX):eK st=eC ws (bU x) st:=by
 let⟨n,wr⟩:=st;have ht:eU ws n wr (bU x)=XX:=h;simp only[eK,eC,eS,eO,ht,if_true]
theorem wk{w:XK}(h:aB.isNum w.data.toList=XX):bT w 1 7=cQ w:=by rw[wJ,XS h];rfl
theorem Ca{w:XK}{f hi:N}(h:fF w f hi=XX):aB.isNum w.data.toList=XX/\f<=cQ w/\cQ w<=hi:=by
 unfold fF at h;simp only[ZR,decide_eq_true_eq] at h;exact⟨h.1.1,h.1.2,h.2⟩
theorem Nu{w:XK}(h:bV w=XX):sG w=w:=XS h
open aA (aO St dL kept eA dI dE im cN cO iu dZ ie bO Inv bW lO ix bI)
theorem Pp(w:XY)(D:Env w):X4 prog 44 #[] w fun e w'=>∃ p d C,e=Yg (X8 (U ⟨p,0,XU⟩))/\BD w' p d iz ob C/\X0 w w w'/\(∀ b,b<w.heap.size->C b=XU)/\w<=p:=by
 have DN:=aC (VS w);have X:=aC D;have S:=D.size;clear D
 go_in
 go_wp2_with (first
  |(go_at_call 60;refine DN.mono ?_;rintro e f ⟨v,rfl,rfl,y,A⟩))
 have T:Hid (BD (f.alloc (Yh #[X8 (U ⟨w.heap.size+2,0,XU⟩)] 99)) f (w.heap.size+2) iz ob (qN w)/\X0 w w (f.alloc (Yh #[X8 (U ⟨w.heap.size+2,0,XU⟩)] 99))/\(∀ b,b<w.heap.size->qN w.heap.size b=XU)/\w<=f.heap.size):=by
  have k:X0 f.heap.size f (f.alloc (Yh #[X8 (U ⟨w.heap.size+2,0,XU⟩)] 99)):=(zr _ _).alloc (zq _) _;have h:∀ b,b<w.heap.size->qN w.heap.size b=XU:=fun b I=>by unfold qN;rw[XR O,XR O,XR O]
  exact⟨⟨cP f _,y.dk.none aI,⟨y.dk.later k,y.of,y.wl,y.hl,y.inv⟩,(X.out.later A).later k,fun b I=>h b O⟩,A.trans (k.mono A.size),h,A.size⟩
 clear y A
 go_wp21
 exact bodyPost_ret (v:=f) (by simp[results,results44,go_sem]) rfl ⟨_,_,_,rfl,T⟩
namespace aA
theorem B9(p:aO->XN):∀ l:J aO,(l.filter p).length+(l.filter fun e=>!p e).length=l.length
 |[]=>rfl
 |a :: r=>by
  have ih:=B9 p r;simp only[List.filter_cons]
  cases p a <;> simp <;> omega
theorem Hu(ts:J (XK × N)):∀ (k:M)(es:J aO)(now tq:N),(fg ts k es now tq).2.1.length<=es.length
 |0,es,_,_=>by simp[fg]
 |k+1,es,now,tq=>by
  simp only[fg]
  split
  .have y:=Hu ts k (dB ts (es.filter fun e=>!bO (dP tq es) e)).1 (dP tq es) tq;have h:=xz ts (es.filter fun e=>!bO (dP tq es) e);have f:=B9 (bO (dP tq es)) es;simp only[YZ,ZE];omega
  .simp
structure yz(s:St)(r:bI):Prop where
 en:r.entries.length<=60
 es:∀ e∈r.entries,e∈s.es
 da:r.days.length<=60
 ed:r.ended.length<=60
theorem yz.plain{s:St}{r:bI}(f:r.entries=[])(y:r.days=[])(h:r.ended=[]):yz s r:=⟨by rw[f];simp,by rw[f];simp,by rw[y];simp,by rw[h];simp⟩
theorem PQ{s:St}(h:Inv s){l:gn}(D:iV l):yz s (aV s l).2:=by
 cases l with
 |bA name u=>simp only[aV];split <;> first|exact .plain rfl rfl rfl|(split <;> exact .plain rfl rfl rfl)
 |enter k name u fr til long=>simp only[aV];split <;> exact .plain rfl rfl rfl
 |series name u r=>simp only[aV];split <;> exact .plain rfl rfl rfl
 |bF id =>
  simp only[aV]
  split
  .exact .plain rfl rfl rfl
  .split <;> exact .plain rfl rfl rfl
 |cancel id=>simp only[aV];split <;> exact .plain rfl rfl rfl
 |list name fr til =>
  simp only[aV]
  split
  .exact .plain rfl rfl rfl
  .split
   .exact .plain rfl rfl rfl
   .have C:∀ e∈lO name fr til s.es,e∈s.es:=fun e A=>(List.mem_filter.1 (Ax.1 A)).1
    have y:(lO name fr til s.es).length<=60:=by
     have:=Cp h;have e:=(LZ (a:=fr) (b:=til) (s.es.filter (lC name fr til))).length_eq;have f:=ZA (lC name fr til) s.es;unfold lO;omega
    exact⟨y,C,by simp[bI.num],by simp[bI.num]⟩
 |waiting=>exact⟨Yk (ZA ..) (Cp h),fun e A=>(List.mem_filter.1 A).1,by simp[aV,bI.num],by simp[aV,bI.num]⟩
 |dN name fr til=>simp only[aV];split <;> first|exact .plain rfl rfl rfl|(split <;> exact .plain rfl rfl rfl)
 |find name u long fr til=>simp only[aV];split <;> first|exact .plain rfl rfl rfl|(split <;> exact .plain rfl rfl rfl)
 |expand r =>
  simp only[aV]
  split
  .exact .plain rfl rfl rfl
  .rename_i c
   have I:Rd.fY r:=D;have:=((Rd.qY I).2 O).2.2.1;exact⟨by simp[bI.num],by simp[bI.num],by show (Rd.bY r).length<=60;omega,by simp[bI.num]⟩
 |tick n =>
  simp only[aV]
  split
  .exact .plain rfl rfl rfl
  .have T:=Hu s.ts (s.es.length+1) s.es s.now (s.now+n);have S:=Cp h;exact⟨by simp[bI.num],by simp[bI.num],by simp[bI.num],by show (fg s.ts (s.es.length+1) s.es s.now (s.now+n)).2.1.length<=60;omega⟩
 |clock=>exact .plain rfl rfl rfl
theorem PW{s:St}(h:Inv s){l:gn}(y:iV l):yz s (ix s l).2/\(ix s l).2.granted.length<=100000:=by
 have f:=PQ h y;have D:=Cv h.aY l;unfold ix
 split
 .exact⟨f,O⟩
 .refine⟨⟨f.en,f.es,f.da,f.ed⟩,?_⟩;have C:=zy (aV s l).1.ts (aV s l).1.es;have A:=jM (CV h y);simp only[YZ];omega
end aA
end Go.Proofs.YtfigmlfdnickmaaGreatDoor
namespace Go.Proofs.YtfigmlfdnickmaaGreatDoor.Laid
def val:DataW Unit->XZ
 |.lit (.int k n)=>V k n
 |.lit (.string b)=>Ya ⟨b.toArray⟩
 |_=>.bool XW
def row:DataW Unit->J XZ
 |.agg l=>l.map val
 |_=>[]
def rows:DataW Unit->J XZ
 |.agg l=>l.flatMap row
 |_=>[]
def text:DataW Unit->XZ
 |.iface _ (.ptr (.agg [d]))=>val d
 |_=>.bool XW
def put(l:J XZ):Obj->Obj
 |.cells _ t frozen=>Yh l.toArray t frozen
 |o=>o
def Co(w:XY):XY :=
 { w with heap:=(((((((((w.heap.modify 1 (put (row Rows.laid_bookings_calendar_monthDays))).modify 0 (put (row Rows.laid_internal_strconv_uint64pow10))).modify 6 (put [.iface 369 w])).modify 7 (put [.iface 369 (X8 (U ⟨w.heap.size+1,0,XU⟩))])).modify 3 (put (row Rows.laid_bookings_lines_weekdays))).modify 4 (put (row Rows.laid_math_bits_deBruijn32tab))).modify 5 (put (row Rows.laid_math_bits_deBruijn64tab))).modify 8 (put (row Rows.laid_unicode_utf8_first))).modify 9 (put (rows Rows.laid_unicode_utf8_acceptRanges))).push (Yh #[text Rows.laid_strconv_ErrSyntax] 371) |>.push (Yh #[text Rows.laid_strconv_ErrRange] 371) }
end Go.Proofs.YtfigmlfdnickmaaGreatDoor.Laid
namespace Go.Proofs.YtfigmlfdnickmaaGreatDoor.datesLaw
open Go.ChangeShapes Go.WideShapes Go.ChangeAt Go.RowKit
theorem own:ownKnob prog.godebug=XU:=XF
theorem Rn:laidOutB prog=XX:=XF
theorem Sy:prog.cellsOf 3=1:=XF
theorem CU:prog.cellsOf 9=1:=XF
theorem BA:prog.cellsOf 89=6:=XF
theorem pC{α:Type}{l:J α}(h:l.length=6):∃ a b c d e f,l=[a,b,c,d,e,f]:=by
 match l,h with
 |[a,b,c,d,e,f],_=>exact⟨a,b,c,d,e,f,rfl⟩
end Go.Proofs.YtfigmlfdnickmaaGreatDoor.datesLaw
namespace Go.Proofs.YtfigmlfdnickmaaGreatDoor.EnvLaid
open Go.ChangeShapes Go.WideShapes Go.ChangeAt Go.RowKit
theorem Kr{P:Program}{name:String}{k:IntKind}{zs:J N}{t e:X6}
  (C:P.globalNamed name=U g) (f:(P.globals[g]?).map (·.type)=U t) (ht:P.underlying t=U (.array n e)) (D:P.underlying e=U (.int k)) (A:P.cellsOf e=1) (y:P.cellsOf t=n)
  (h:Lib.VarReads P W name (Lib.tabData k zs)):Lib.TabIs P W name k zs:=by
 let⟨g',t',cs,fuel,p,hg',ht',hvar,hd⟩:=h;obtain rfl:=ZN (C.symm.trans hg');obtain rfl:=ZN (f.symm.trans ht');unfold Lib.TabIs;rw[hvar,<- Lib.cells_of_tab ht D A y hd]
theorem Us{P:Program}{name:String}{zs:J (J UInt8)}{t e:X6}
  (hg:P.globalNamed name=U g) (I:(P.globals[g]?).map (·.type)=U t) (ht:P.underlying t=U (.array n e)) (he:P.underlying e=U .string) (ab:P.cellsOf e=1)
  (h:Lib.VarReads P W name (.agg (zs.map fun z=>.lit (.string z)))) (i:M) (z:J UInt8) (hz:zs[i]?=U z):W.cell? (g,i)=U (Ya ⟨z.toArray⟩):=by
 obtain⟨g',t',cs,fuel,p,aa,S,A,hd⟩:=h;obtain rfl:=ZN (hg.symm.trans aa);obtain rfl:=ZN (I.symm.trans S);obtain⟨xs,m,_,hx,_,ad,D⟩:=DataW.trod_array ht hd
 have y:zs.map (fun z=>(DataW.lit (.string z):DataW Unit))=xs.map (·.1):=by
  have:=congrArg Prod.fst hx
  simpa using this
 have ac:zs.length=xs.length:=by
  have:=congrArg Y4 y
  simpa using this
 have hi:i<zs.length:=(List.getElem?_eq_some_iff.1 hz).1;have f:xs[i]?=U xs[i]:=ZV O;have C:=D i O;rw[f,ab] at C;obtain⟨s,X,T,_⟩:=DataW.trod_string he C
 have h1:(xs.map (·.1))[i]?=U (DataW.lit (.string z):DataW Unit):=by rw[<- y];simp[hz]
 have h2:(xs.map (·.1))[i]?=U (DataW.lit (.string s.data.toList):DataW Unit):=by simp[f,T]
 have h3:z=s.data.toList:=by
  have:=h1.symm.trans h2
  simpa using this
 have h4:cs[i]?=U ↑s:=by
  have:=congrArg (·[0]?) X
  simpa[List.getElem?_take,List.getElem?_drop] using this
 rw[World.var?_cell hg A i,h4,h3]
theorem Sn:(prog.globals[0]?).map (·.type)=U 306:=XF
theorem SA:prog.cellsOf 306=20:=XF
theorem RY:prog.cellsOf 265=1:=XF
theorem QT : prog.globalNamed "bookings/lines.weekdays" = U 3 := by kernel_rfl
theorem Uj:(prog.globals[3]?).map (·.type)=U 352:=XF
theorem nM : prog.globalNamed "bookings/calendar.monthDays" = U 1 := by kernel_rfl
theorem Sm:(prog.globals[1]?).map (·.type)=U 314:=XF
theorem Sz:prog.cellsOf 314=12:=XF
theorem Q8:prog.cellsOf 3=1:=XF
theorem CU:prog.cellsOf 9=1:=XF
theorem QS {W: XY} {l: J (String × DataW Unit)} (hM : laidMet prog l W) (hS : W.ShapedOpen prog) (m1 : ("bookings/calendar.monthDays", Rows.laid_bookings_calendar_monthDays) ∈ l) (m2 : ("internal/strconv.uint64pow10", Rows.laid_internal_strconv_uint64pow10) ∈ l) (m3 : ("bookings/lines.weekdays", Rows.laid_bookings_lines_weekdays) ∈ l) : Env W := by
 have ht : Lib.VarReads prog W "bookings/calendar.monthDays" (Lib.tabData Y [31, 28, 31, 30, 31, 30, 31, 31, 30, 31, 30, 31]) := Lib.laidMet.reads hM (d := Rows.laid_bookings_calendar_monthDays) m1;have hp : Lib.VarReads prog W "internal/strconv.uint64pow10" (Lib.tabData .u64 Lib.pow10Tab) := Lib.laidMet.reads hM (d := Rows.laid_internal_strconv_uint64pow10) m2;have hd : Lib.VarReads prog W "bookings/lines.weekdays" (.agg ([[109, 111], [116, 117], [119, 101], [116, 104], [102, 114], [115, 97], [115, 117]].map fun z => .lit (.string z))) := Lib.laidMet.reads hM (d := Rows.laid_bookings_lines_weekdays) m3;have day:=fun i z hz=>Us QT Uj underlying352 underlying9 CU hd i z hz
 have tb:=Kr nM Sm underlying314 underlying3 Q8 Sz ht
 have hsz:10<=W.heap.size:=by
  have h0:(((begin prog (fun _ _=>0) default).world.heap[9]?).bind Obj.row?).isSome=XX:=XF
  obtain⟨⟨zero,t⟩,h1⟩:=Option.isSome_iff_exists.1 h0;obtain⟨cs,hh,_⟩:=hS.1 9 zero t (of_decide_eq_true XF) h1;exact (Array.getElem?_eq_some_iff.1 hh).1
 exact⟨⟨tb.cell nM 0 XC,tb.cell nM 1 XC,tb.cell nM 2 XC,tb.cell nM 3 XC,tb.cell nM 4 XC,tb.cell nM 5 XC,tb.cell nM 6 XC,tb.cell nM 7 XC,tb.cell nM 8 XC,tb.cell nM 9 XC,tb.cell nM 10 XC,tb.cell nM 11 XC⟩,cell_of_shapedOpen_int (zero:=#[V Y 0]) (t:=3) hS (of_decide_eq_true XF) XF rfl XF XF underlying3,
  Kr wO Sn underlying306 underlying265 RY SA hp,hsz,
  day 0 _ rfl,day 1 _ rfl,day 2 _ rfl,day 3 _ rfl,day 4 _ rfl,day 5 _ rfl,day 6 _ rfl⟩
end Go.Proofs.YtfigmlfdnickmaaGreatDoor.EnvLaid
namespace Go.Proofs.YtfigmlfdnickmaaGreatDoor
open Go.RowKit
def cI:J XK:=[dQ,iM,eP,kD,gM,fp]
def ln:J XK:=[jG,iN]
def mH:J XK:=[jd,iN,mG]
def nE:J XK:=[kI,iN]
def jw:J XK:=[jD,iN]
def nW:J XK:=[kg,iM]
def iK:J (J XK):=[ln,mH,nE]
def ends:J (J XK):=[jw,nW]
def jV(H:J XK):J (J XK):=iK.flatMap fun K=>ends.map fun E=>H++K++cI++E
def nG:J XK:=[iS,cM,eN]
def oI:J XK:=[jI]
def nI:J (J XK):=[[lN,cM,eN],[lI,cM,eN,bN,bN],[lF,cM,eN,bN,bN,fp],[sE,cM,eN,bN,bN,fp],[lM,lT],[lJ,lT],[eL,cM],[eL,cM,bN,bN],[sN],[lH,cM,bN,bN],[lD,cM,eN,fp,bN,bN],[mh,fp],[mq]]++jV nG++jV oI
theorem NQ:nX=nI:=XE
theorem NS:∀ p∈nI,p≠[]:=XE
def oM(k:XK)(p:J XK):XN:=bE (p.headD ByteArray.empty) k
theorem BC(h:bS ws 0 XW k=XX):∃ t,ws=k :: t:=by
 rw[oK] at h;let⟨_,h1,h2⟩:=nJ h;have e:=pF h2
 match ws,h1 with
 |a :: t,_=>exact⟨t,by rw[show a=k from e]⟩
theorem He{s:XK}{t:J XK}(y:aB.aU s=k :: t):jW s=scan (nI.filter (oM k)) (aB.aU s) 0:=by
 unfold jW;rw[NQ,Hw _ (oM k) nI 0];intro p A h;have f:=NS p A;refine⟨?_,f⟩
 match p,f,h with
 |a :: p',_,h =>
  have e:bE a k=XW:=h;rw[y,pre,e];rfl
theorem jP(h:bS ws 0 XW k=XX)(f:jm k=XX)(p:J XK):aW ws (p.map bE) (1,XW)=aW ws ((k :: p).map bE) (0,XW):=by
 have e:eC ws (bE k) (0,XW)=(1,XW):=by
  let⟨_,h1,h2⟩:=nJ (oK ws 0 XW k ▸ h);rw[iL k f];exact Iq h1 h2
 show _=aW ws (p.map bE) (eC ws (bE k) (0,XW));rw[e]
theorem Gm(h:aW ws (q.map bE) (0,XW)=st):Sum [q] ws st q:=by
 let⟨n,b⟩:=st;have y:=oN h;have one:∀ p∈[q],p=q:=fun p y=>List.mem_singleton.1 y
 refine⟨List.mem_singleton.2 rfl,fun p f=>by rw[one p f];exact Nat.le_of_eq y,y,fun C p f e=>?_,fun C=>⟨?_,fun p f A=>XT (one p f) A⟩⟩
 .cases C
  rw[one p f] at e;have:=wg h;omega
 .cases C
  rw[y];exact rR h
theorem wv:∀ (Q R ws:J XK),pre Q ws<=pre (Q++R) ws
 |[],_,_=>by simp[pre]
 |_ :: _,_,[]=>by simp[pre]
 |s :: Q,R,w :: ws=>by
  have:=wv Q R ws;simp only[List.cons_append,pre]
  split <;> omega
theorem Pb(h:aW ws ([eL,cM].map bE) (0,XW)=st)(I:cU ws.length st.1 st.2=XW):Sum [[eL,cM],[eL,cM,bN,bN]] ws st [eL,cM]:=by
 let⟨n,b⟩:=st;have y:=oN h;have X:=(tH [eL,cM,bN,bN] ws).2
 have S:pre [eL,cM,bN,bN] ws<=n:=by
  cases b
  .have:¬ n<ws.length:=by simpa[cU] using I
   omega
  .exact Nat.le_of_eq (Gc [bN,bN] h)
 have T:n<=2:=by have:=(tH [eL,cM] ws).1;rw[y] at this;exact this
 refine⟨by simp,?_,y,?_,?_⟩
 .intro p f;rcases Yu.1 f with rfl|f
  .exact Nat.le_of_eq y
  .rw[List.mem_singleton.1 f];exact S
 .intro C p f e
  cases C
  have D:n<2:=wg h;rcases Yu.1 f with rfl|f
  .rw[y] at e;exact XT e.1 (by show ¬ n=2;omega)
  .rw[List.mem_singleton.1 f] at e;exact XT e.1 (by show ¬ _=4;omega)
 .intro C
  cases C
  refine⟨y.trans (rR h),fun p f A e=>?_⟩;rcases Yu.1 f with rfl|f
  .exact A rfl
  .rw[List.mem_singleton.1 f] at e;exact XT e.1 (by show ¬ _=4;omega)
theorem Pc{y:M × XN}(h:aW ws ([eL,cM].map bE) (0,XW)=st)(hm:cU ws.length st.1 st.2=XX)(T:aW ws ([eL,cM,bN,bN].map bE) (0,XW)=y):Sum [[eL,cM],[eL,cM,bN,bN]] ws y [eL,cM,bN,bN]:=by
 let⟨n,b⟩:=st;let⟨n',b'⟩:=y;have hp:=oN h;have A:=oN T;have C:=rh hm;have I:pre [eL,cM] ws<=pre [eL,cM,bN,bN] ws:=wv [eL,cM] [bN,bN] ws;refine⟨by simp,?_,A,?_,?_⟩
 .intro p f;rcases Yu.1 f with rfl|f
  .show _<=n';omega
  .rw[List.mem_singleton.1 f];exact Nat.le_of_eq A
 .intro S p f e
  cases S
  have X:n'<4:=wg T;rcases Yu.1 f with rfl|f
  .have:n<ws.length:=C;omega
  .rw[List.mem_singleton.1 f] at e;have e1:pre [eL,cM,bN,bN] ws=4:=e.1;omega
 .intro S
  cases S
  refine⟨A.trans (rR T),fun p f D e=>?_⟩;rcases Yu.1 f with rfl|f
  .have:n<ws.length:=C;omega
  .exact D (List.mem_singleton.1 f)
theorem Bo(h:p∈jV H):∃ K∈iK,∃ E∈ends,p=H++K++cI++E:=by
 unfold jV at h;simp only[List.mem_flatMap,Zh] at h;obtain⟨K,f,E,y,rfl⟩:=h;exact⟨K,f,E,y,rfl⟩
theorem Bi{K:J XK}(f:K∈iK)(h:E∈ends):H++K++cI++E∈jV H:=by
 unfold jV;simp only[List.mem_flatMap,Zh];exact⟨K,f,E,h,rfl⟩
theorem M6{K:J XK}(h:K∈iK):∃ K',K=K.headD ByteArray.empty :: K':=by
 simp only[iK,Yu,List.not_mem_nil,or_false] at h;rcases h with rfl|rfl|rfl
 .exact⟨[iN],rfl⟩
 .exact⟨[iN,mG],rfl⟩
 .exact⟨[iN],rfl⟩
theorem MO(h:E∈ends):∃ E',E=E.headD ByteArray.empty :: E':=by
 simp only[ends,Yu,List.not_mem_nil,or_false] at h;rcases h with rfl|rfl
 .exact⟨[iN],rfl⟩
 .exact⟨[iM],rfl⟩
theorem Bl{K:J XK}(y:K∈iK)(f:aW ws (H.map bE) (0,XW)=(n,XW))(h:eU ws n XW (bE (K.headD ByteArray.empty))=XW):pre (H++K++cI++E) ws=n/\n<(H++K++cI++E).length:=by
 let⟨K',e⟩:=M6 y;have C:=rR f
 have A:H++K++cI++E=H++K.headD ByteArray.empty :: (K'++cI++E):=by
  conv=>lhs;rw[e]
  simp
 rw[A];exact⟨FU _ f h,by simp;omega⟩
theorem FQ{Q:J XK}(y:E∈ends)(f:aW ws (Q.map bE) (0,XW)=(n,XW))(h:eU ws n XW (bE (E.headD ByteArray.empty))=XW):pre (Q++E) ws=n/\n<(Q++E).length:=by
 let⟨E',e⟩:=MO y;have A:=rR f;rw[e];exact⟨FU _ f h,by simp;omega⟩
theorem FL{Q:J XK}(f:aW ws (Q.map bE) (0,XW)=(n,XX)):pre (Q++E) ws=n/\n<(Q++E).length:=by
 have:=wg f;exact⟨Gc _ f,by simp;omega⟩
theorem Gb{K:J XK}{m:M}(hK:K∈iK)(hE:E∈ends)(hn:aW ws (H.map bE) (0,XW)=(n,XW))
  (hk:∀ X∈iK,X≠K->eU ws n XW (bE (X.headD ByteArray.empty))=XW) (hm:aW ws ((H++K++cI).map bE) (0,XW)=(m,XW))
  (he:∀ C∈ends,C≠E->eU ws m XW (bE (C.headD ByteArray.empty))=XW) (A:aW ws ((H++K++cI++E).map bE) (0,XW)=st):Sum (jV H) ws st (H++K++cI++E):=by
 let⟨l,b⟩:=st;have D:=oN A
 have ac:n<=l:=by
  have T:=wv H (K++cI++E) ws;rw[oN hn,<- YU,<- YU,D] at T;exact T
 have ad:m<=l:=by
  have T:=wv (H++K++cI) E ws;rw[oN hm,D] at T;exact T
 have y:∀ p∈jV H,p=H++K++cI++E\/(pre p ws<=l/\pre p ws<p.length):=by
  intro p f;obtain⟨X,I,C,S,rfl⟩:=Bo f
  by_cases e1:X=K
  .subst e1
   by_cases e2:C=E
   .subst e2;exact .inl rfl
   .let⟨q1,q2⟩:=FQ S hm (he C S e2);exact .inr ⟨O,O⟩
  .let⟨q1,q2⟩:=Bl (E:=C) I hn (hk X I e1);exact .inr ⟨O,O⟩
 refine⟨Bi hK hE,fun p f=>?_,D,fun hb p f e=>?_,fun hb=>⟨?_,fun p f aa e=>?_⟩⟩
 .rcases y p f with rfl|h
  .exact Nat.le_of_eq D
  .exact h.1
 .cases hb
  have ab:=wg A;rcases y p f with rfl|h
  .omega
  .omega
 .cases hb;exact D.trans (rR A)
 .rcases y p f with h|h
  .exact aa h
  .omega
theorem M0{K:J XK}{m:M}{b:XN}(hK:K∈iK)(T:aW ws (H.map bE) (0,XW)=(n,XW))
  (hk:∀ I∈iK,I≠K->eU ws n XW (bE (I.headD ByteArray.empty))=XW) (S:aW ws ((H++K++cI).map bE) (0,XW)=(m,b))
  (he:∀ y∈ends,eU ws m b (bE (y.headD ByteArray.empty))=XW):Sum (jV H) ws (m,XX) (H++K++cI++jw):=by
 have X:jw∈ends:=by simp[ends]
 have aa:n<=m:=by
  have h1:=wv H (K++cI) ws;rw[oN T,<- YU,oN S] at h1;exact h1
 have A:∀ y∈ends,pre (H++K++cI++y) ws=m/\m<(H++K++cI++y).length:=by
  intro y h
  cases b
  .exact FQ h S (he y h)
  .exact FL S
 have C:∀ p∈jV H,pre p ws<=m/\pre p ws<p.length:=by
  intro p f;obtain⟨I,D,y,h,rfl⟩:=Bo f
  by_cases e1:I=K
  .subst e1;let⟨q1,q2⟩:=A y h;exact⟨O,O⟩
  .let⟨q1,q2⟩:=Bl (E:=y) D T (hk I D e1);exact⟨O,O⟩
 exact⟨Bi hK X,fun p f=>(C p f).1,(A jw X).1,fun _ p f e=>by have:=C p f;omega,fun hb=>XT hb XA⟩
theorem Na{b:XN}(I:aW ws (H.map bE) (0,XW)=(n,b))
  (X:∀ y∈iK,eU ws n b (bE (y.headD ByteArray.empty))=XW):Sum (jV H) ws (n,XX) (H++ln++cI++jw):=by
 have S:ln∈iK:=by simp[iK]
 have hE:jw∈ends:=by simp[ends]
 have A:∀ y∈iK,∀ C:J XK,pre (H++y++cI++C) ws=n/\n<(H++y++cI++C).length:=by
  intro y h C
  cases b
  .exact Bl h I (X y h)
  .have T:=FL (E:=y++cI++C) I;rw[<- YU,<- YU] at T;exact T
 have D:∀ p∈jV H,pre p ws<=n/\pre p ws<p.length:=by
  intro p f;obtain⟨y,h,C,_,rfl⟩:=Bo f;let⟨q1,q2⟩:=A y h C;exact⟨O,O⟩
 exact⟨Bi S hE,fun p f=>(D p f).1,(A ln S jw).1,fun _ p f e=>by have:=D p f;omega,fun hb=>XT hb XA⟩
theorem qv{Q:J XK}{s:XK}(h:aW ws ((Q++s :: R).map bE) (0,XW)=(n,XW))(f:XK->N):cB ws (aW ws (Q.map bE) (0,XW)) (bE s) f=f (ws.getD Q.length ByteArray.empty):=by
 rw[Br h];unfold cB fU;rw[XS (wu h)]
theorem lq{Q:J XK}{s:XK}(h:aW ws ((Q++s :: R).map bE) (0,XW)=(n,XW)):bE s (ws.getD Q.length ByteArray.empty)=XX:=(nJ (wu h)).2.2
theorem M1:ln.map bE=[bU jG,eT]:=by
 simp only[ln,List.map,rK,iL jG XE]
theorem M5:mH.map bE=[bU jd,eT,aB.eJ]:=by
 simp only[mH,List.map,rK,FG,iL jd XE]
theorem M4:nE.map bE=[bU kI,eT]:=by
 simp only[nE,List.map,rK,iL kI XE]
theorem ML:jw.map bE=[bU jD,eT]:=by
 simp only[jw,List.map,rK,iL jD XE]
theorem MN:nW.map bE=[bU kg,aB.dC]:=by
 simp only[nW,List.map,yk,iL kg XE]
theorem MH:cI.map bE=[bU dQ,aB.dC,bU eP,aB.ef,bU gM,fc]:=by
 simp only[cI,List.map,yk,FE,pE,iL dQ XE,iL eP XE,iL gM XE]
inductive ym (ws:XL XK) (c:XP):XQ->XQ->XL XQ->XL XK->Prop where
 |daily (h0:ws.getD c ByteArray.empty=jG) (h:eT (ws.getD (c+1) ByteArray.empty)=XX):ym ws c 1 (cQ (ws.getD (c+1) ByteArray.empty)) [] ln
 |weekly (acc:XL XQ) (h0:ws.getD c ByteArray.empty=jd) (h:eT (ws.getD (c+1) ByteArray.empty)=XX) (ho:aB.iX (ws.getD (c+2) ByteArray.empty)=XV acc):ym ws c 2 (cQ (ws.getD (c+1) ByteArray.empty)) acc mH
 |monthly (h0:ws.getD c ByteArray.empty=kI) (h:eT (ws.getD (c+1) ByteArray.empty)=XX):ym ws c 3 (cQ (ws.getD (c+1) ByteArray.empty)) [] nE
inductive yi (ws:XL XK) (d:XP):XQ->XQ->XL XK->Prop where
 |times (h0:ws.getD d ByteArray.empty=jD) (h:eT (ws.getD (d+1) ByteArray.empty)=XX):yi ws d (cQ (ws.getD (d+1) ByteArray.empty)) 0 jw
 |til (h0:ws.getD d ByteArray.empty=kg) (h:aB.dC (ws.getD (d+1) ByteArray.empty)=XX):yi ws d 0 (gN (ws.getD (d+1) ByteArray.empty)) nW
structure FC(ws:J XK)(d:M)(fr mn mi:N):Prop where
 h0:ws.getD d ByteArray.empty=dQ
 h1:aB.dC (ws.getD (d+1) ByteArray.empty)=XX
 h2:ws.getD (d+2) ByteArray.empty=eP
 h3:aB.ef (ws.getD (d+3) ByteArray.empty)=XX
 h4:ws.getD (d+4) ByteArray.empty=gM
 h5:fc (ws.getD (d+5) ByteArray.empty)=XX
 Xy:fr=gN (ws.getD (d+1) ByteArray.empty)
 Xv:mn=aB.fZ (ws.getD (d+3) ByteArray.empty)
 Xw:mi=cQ (ws.getD (d+5) ByteArray.empty)
structure FK(H ws:J XK)(pc ev:N)(acc:J N)(fr mn mi ti un:N)(K E:J XK):Prop where
 Xx:ym ws H.length pc ev acc K
 aY:FC ws (H.length+K.length) fr mn mi
 end_:yi ws (H.length+K.length+6) ti un E
theorem wC{x y:XK}{wr:XN}(h:bS ws n wr x=XX)(f:bE y x=XW):eU ws n XW (bE y)=XW:=by
 let⟨_,_,h2⟩:=nJ (oK ws n wr x ▸ h);have e:=pF h2;exact Ge (by rw[e];exact f)
theorem MI:∀ f∈iK,f≠ln->bE (f.headD ByteArray.empty) jG=XW:=XE
theorem MU:∀ f∈iK,f≠mH->bE (f.headD ByteArray.empty) jd=XW:=XE
theorem MJ:∀ f∈iK,f≠nE->bE (f.headD ByteArray.empty) kI=XW:=XE
theorem MK:∀ f∈ends,f≠jw->bE (f.headD ByteArray.empty) jD=XW:=XE
theorem MT:∀ f∈ends,f≠nW->bE (f.headD ByteArray.empty) kg=XW:=XE
theorem Bx{K:J XK}{s:M × XN}(hs:s=aW ws ((H++K).map bE) (0,XW))(h:aW ws ((H++K++cI++E).map bE) (0,XW)=(n,XW)):
  FC ws (H.length+K.length) (cB ws (aW ws [bU dQ] s) aB.dC gN) (cB ws (aW ws [bU dQ,aB.dC,bU eP] s) aB.ef aB.fZ) (cB ws (aW ws [bU dQ,aB.dC,bU eP,aB.ef,bU gM] s) fc cQ):=by
 have f0:=iL dQ XE;have f1:=iL eP XE;have f2:=iL gM XE;have e0:H++K++cI++E=(H++K)++dQ :: ([iM,eP,kD,gM,fp]++E):=by simp[cI]
 have D:H++K++cI++E=(H++K++[dQ])++iM :: ([eP,kD,gM,fp]++E):=by simp[cI]
 have e2:H++K++cI++E=(H++K++[dQ,iM])++eP :: ([kD,gM,fp]++E):=by simp[cI]
 have C:H++K++cI++E=(H++K++[dQ,iM,eP])++kD :: ([gM,fp]++E):=by simp[cI]
 have e4:H++K++cI++E=(H++K++[dQ,iM,eP,kD])++gM :: ([fp]++E):=by simp[cI]
 have A:H++K++cI++E=(H++K++[dQ,iM,eP,kD,gM])++fp :: E:=by simp[cI]
 have l0:(H++K).length=H.length+K.length:=XA
 have l1:(H++K++[dQ]).length=H.length+K.length+1:=by simp;omega
 have X:(H++K++[dQ,iM]).length=H.length+K.length+2:=by simp;omega
 have T:(H++K++[dQ,iM,eP]).length=H.length+K.length+3:=by simp;omega
 have S:(H++K++[dQ,iM,eP,kD]).length=H.length+K.length+4:=by simp;omega
 have I:(H++K++[dQ,iM,eP,kD,gM]).length=H.length+K.length+5:=by simp;omega
 have a0:=lq (e0 ▸ h);have a1:=lq (D ▸ h);have a2:=lq (e2 ▸ h);have a3:=lq (C ▸ h);have a4:=lq (e4 ▸ h);have a5:=lq (A ▸ h);have v1:=qv (D ▸ h) gN;have y:=qv (C ▸ h) aB.fZ;have f:=qv (A ▸ h) cQ;rw[Zl,lW,<- hs] at v1 y f;simp only[List.map,f0,f1,f2,yk,FE,pE] at a0 a1 a2 a3 a4 a5 v1 y f;rw[l0] at a0;rw[l1] at a1 v1;rw[X] at a2;rw[T] at a3 y;rw[S] at a4;rw[I] at a5 f;exact⟨pF a0,a1,pF a2,a3,pF a4,a5,v1,y,f⟩
theorem BU{K:J XK}{s s':M × XN}(hK:K∈iK)(hn:aW ws (H.map bE) (0,XW)=(n,XW))
  (hk:∀ K2∈iK,K2≠K->eU ws n XW (bE (K2.headD ByteArray.empty))=XW) (hs:s=aW ws ((H++K).map bE) (0,XW)) (he:oU ws (nL ws s) ti un s'):
  ∃ E,Sum (jV H) ws s' (H++K++cI++E)/\(s'.2=XW->aW ws ((H++K++cI++E).map bE) (0,XW)=s'/\yi ws (H.length+K.length+6) ti un E):=by
 have I:nL ws s=aW ws ((H++K++cI).map bE) (0,XW):=by
  unfold nL;rw[<- MH,Zl (l₁:=H++K),lW,<- hs]
 obtain⟨m,b,C⟩:∃ m b,aW ws ((H++K++cI).map bE) (0,XW)=(m,b):=⟨_,_,rfl⟩;have hl:(H++K++cI).length=H.length+K.length+6:=by simp[cI];omega
 rw[I,C] at he
 cases he with
 |times h =>
  have hb:b=XW:=(nJ (oK ws m b jD ▸ h)).1;subst hb
  have f:aW ws ((H++K++cI++jw).map bE) (0,XW)=aW ws [eT] (eK (m,XW)):=by
   rw[Zl,lW,C,ML,oQ h];rfl
  refine⟨jw,Gb hK (by simp[ends]) hn hk C (fun X A D=>wC h (MK X A D)) f,fun S=>⟨f,?_⟩⟩;obtain⟨l,y⟩:∃ l,aW ws ((H++K++cI++jw).map bE) (0,XW)=(l,XW):=⟨_,by rw[f];exact Prod.ext rfl S⟩;have T:H++K++cI++jw=(H++K++cI++[jD])++iN :: []:=by simp[jw]
  have e0:H++K++cI++jw=(H++K++cI)++jD :: [iN]:=by simp[jw]
  have a0:=lq (e0 ▸ y);have a1:=lq (T ▸ y);have v1:=qv (T ▸ y) cQ;rw[Zl,lW,C] at v1;have lt:=iL jD XE;simp only[List.map,lt,rK] at a0 a1 v1;have e3:aW ws [bU jD] (m,XW)=eK (m,XW):=(oQ h).symm;rw[e3] at v1;have l1:(H++K++cI++[jD]).length=H.length+K.length+6+1:=by simp[cI];omega
  rw[l1] at a1 v1;rw[hl] at a0;rw[v1];exact .times (pF a0) a1
 |til h1 h =>
  have hb:b=XW:=(nJ (oK ws m b kg ▸ h)).1;subst hb
  have f:aW ws ((H++K++cI++nW).map bE) (0,XW)=aW ws [aB.dC] (eK (m,XW)):=by
   rw[Zl,lW,C,MN,oQ h];rfl
  refine⟨nW,Gb hK (by simp[ends]) hn hk C (fun X A D=>wC h (MT X A D)) f,fun S=>⟨f,?_⟩⟩;obtain⟨l,y⟩:∃ l,aW ws ((H++K++cI++nW).map bE) (0,XW)=(l,XW):=⟨_,by rw[f];exact Prod.ext rfl S⟩;have T:H++K++cI++nW=(H++K++cI++[kg])++iM :: []:=by simp[nW]
  have e0:H++K++cI++nW=(H++K++cI)++kg :: [iM]:=by simp[nW]
  have a0:=lq (e0 ▸ y);have a1:=lq (T ▸ y);have v1:=qv (T ▸ y) gN;rw[Zl,lW,C] at v1;have lt:=iL kg XE;simp only[List.map,lt,yk] at a0 a1 v1;have e3:aW ws [bU kg] (m,XW)=eK (m,XW):=(oQ h).symm;rw[e3] at v1;have l1:(H++K++cI++[kg]).length=H.length+K.length+6+1:=by simp[cI];omega
  rw[l1] at a1 v1;rw[hl] at a0;rw[v1];exact .til (pF a0) a1
 |none h1 h =>
  refine⟨jw,M0 hK hn hk C ?_,fun S=>XT S XA⟩;intro X A;simp only[ends,Yu,List.not_mem_nil,or_false] at A;rcases A with rfl|rfl
  .show eU ws m b (bE jD)=XW;rw[iL jD XE];exact h1
  .show eU ws m b (bE kg)=XW;rw[iL kg XE];exact h
theorem yJ{ev:N}{s':M × XN}(hr:lG ws (aW ws (H.map bE) (0,XW)) pc ev acc fr mn mi ti un s'):
  ∃ q,Sum (jV H) ws s' q/\(s'.2=XW->∃ K E,q=H++K++cI++E/\aW ws (q.map bE) (0,XW)=s'/\FK H ws pc ev acc fr mn mi ti un K E):=by
 obtain⟨n,b,I⟩:∃ n b,aW ws (H.map bE) (0,XW)=(n,b):=⟨_,_,rfl⟩;rw[I] at hr
 cases hr with
 |mk s _ _ _ hp he =>
  cases hp with
  |daily h =>
   have hb:b=XW:=(nJ (oK ws n b jG ▸ h)).1;subst hb
   have S:aW ws [eT] (eK (n,XW))=aW ws ((H++ln).map bE) (0,XW):=by
    rw[Zl,lW,I,M1,oQ h];rfl
   obtain⟨E,X,C⟩:=BU (K:=ln) (by simp[iK]) I (fun K2 A D=>wC h (MI K2 A D)) S he;refine⟨_,X,fun y=>⟨ln,E,rfl,(C y).1,?_,?_,(C y).2⟩⟩
   .have f:aW ws ((H++ln++cI++E).map bE) (0,XW)=(s'.1,XW):=by rw[(C y).1];exact Prod.ext rfl y
    have e0:H++ln++cI++E=H++jG :: ([iN]++cI++E):=by simp[ln]
    have T:H++ln++cI++E=(H++[jG])++iN :: (cI++E):=by simp[ln]
    have a0:=lq (e0 ▸ f);have a1:=lq (T ▸ f);have v1:=qv (T ▸ f) cQ;have lt:=iL jG XE;rw[Zl,lW,I] at v1;simp only[List.map,lt,rK] at a0 a1 v1;have e3:aW ws [bU jG] (n,XW)=eK (n,XW):=(oQ h).symm;rw[e3] at v1;have l1:(H++[jG]).length=H.length+1:=XA
    rw[l1] at a1 v1;rw[v1];exact .daily (pF a0) a1
   .exact Bx (E:=E) (n:=s'.1) S (by rw[(C y).1];exact Prod.ext rfl y)
  |weekly h1 h acc ha =>
   have hb:b=XW:=(nJ (oK ws n b jd ▸ h)).1;subst hb
   have S:aW ws [eT,aB.eJ] (eK (n,XW))=aW ws ((H++mH).map bE) (0,XW):=by
    rw[Zl,lW,I,M5,oQ h];rfl
   obtain⟨E,X,C⟩:=BU (K:=mH) (by simp[iK]) I (fun K2 A D=>wC h (MU K2 A D)) S he;refine⟨_,X,fun y=>⟨mH,E,rfl,(C y).1,?_,?_,(C y).2⟩⟩
   .have f:aW ws ((H++mH++cI++E).map bE) (0,XW)=(s'.1,XW):=by rw[(C y).1];exact Prod.ext rfl y
    have e0:H++mH++cI++E=H++jd :: ([iN,mG]++cI++E):=by simp[mH]
    have T:H++mH++cI++E=(H++[jd])++iN :: ([mG]++cI++E):=by simp[mH]
    have e2:H++mH++cI++E=(H++[jd,iN])++mG :: (cI++E):=by simp[mH]
    have a0:=lq (e0 ▸ f);have a1:=lq (T ▸ f);have a2:=wu (e2 ▸ f);have p2:=Br (e2 ▸ f);have v1:=qv (T ▸ f) cQ;have lt:=iL jd XE;rw[Zl,lW,I] at v1 p2;simp only[List.map,lt,rK,FG] at a0 a1 a2 p2 v1;have e3:aW ws [bU jd] (n,XW)=eK (n,XW):=(oQ h).symm;have e4:aW ws [bU jd,eT] (n,XW)=aW ws [eT] (eK (n,XW)):=by rw[oQ h];rfl
    rw[e3] at v1;rw[e4] at p2;have l1:(H++[jd]).length=H.length+1:=XA
    have l2:(H++[jd,iN]).length=H.length+2:=XA
    rw[l1] at a1 v1;rw[l2] at a2 p2;rw[p2] at ha;rw[v1];exact .weekly acc (pF a0) a1 (ha a2)
   .exact Bx (E:=E) (n:=s'.1) S (by rw[(C y).1];exact Prod.ext rfl y)
  |monthly h1 h1' h =>
   have hb:b=XW:=(nJ (oK ws n b kI ▸ h)).1;subst hb
   have S:aW ws [eT] (eK (n,XW))=aW ws ((H++nE).map bE) (0,XW):=by
    rw[Zl,lW,I,M4,oQ h];rfl
   obtain⟨E,X,C⟩:=BU (K:=nE) (by simp[iK]) I (fun K2 A D=>wC h (MJ K2 A D)) S he;refine⟨_,X,fun y=>⟨nE,E,rfl,(C y).1,?_,?_,(C y).2⟩⟩
   .have f:aW ws ((H++nE++cI++E).map bE) (0,XW)=(s'.1,XW):=by rw[(C y).1];exact Prod.ext rfl y
    have e0:H++nE++cI++E=H++kI :: ([iN]++cI++E):=by simp[nE]
    have T:H++nE++cI++E=(H++[kI])++iN :: (cI++E):=by simp[nE]
    have a0:=lq (e0 ▸ f);have a1:=lq (T ▸ f);have v1:=qv (T ▸ f) cQ;have lt:=iL kI XE;rw[Zl,lW,I] at v1;simp only[List.map,lt,rK] at a0 a1 v1;have e3:aW ws [bU kI] (n,XW)=eK (n,XW):=(oQ h).symm;rw[e3] at v1;have l1:(H++[kI]).length=H.length+1:=XA
    rw[l1] at a1 v1;rw[v1];exact .monthly (pF a0) a1
   .exact Bx (E:=E) (n:=s'.1) S (by rw[(C y).1];exact Prod.ext rfl y)
  |none h1 y h =>
   have aa:nL ws (n,XX)=(n,XX):=by unfold nL;exact si ws _ n
   have X:Sum (jV H) ws (n,XX) (H++ln++cI++jw):=by
    refine Na I ?_;intro K2 A;simp only[iK,Yu,List.not_mem_nil,or_false] at A;rcases A with rfl|rfl|rfl
    .show eU ws n b (bE jG)=XW;rw[iL jG XE];exact h1
    .show eU ws n b (bE jd)=XW;rw[iL jd XE];exact y
    .show eU ws n b (bE kI)=XW;rw[iL kI XE];exact h
   rw[aa] at he
   cases he with
   |times h=>exact XT (nJ (oK ws n XX jD ▸ h)).1 XC
   |til _ h=>exact XT (nJ (oK ws n XX kg ▸ h)).1 XC
   |none _ _=>exact⟨_,X,fun y=>XT y XA⟩
theorem jy{Q:J XK}{s:XK}(h:bS ws 0 XW k=XX)(A:jm k=XX)(f:aW ws ((k :: (Q++s :: R)).map bE) (0,XW)=(n,XW))(y:XK->N):cB ws (aW ws (Q.map bE) (1,XW)) (bE s) y=y (ws.getD (Q.length+1) ByteArray.empty):=by
 rw[jP h A];exact qv (Q:=k :: Q) f y
theorem jh(Q:J XK){s:XK}(f:aW ws ((k :: (Q++s :: R)).map bE) (0,XW)=(n,XW)):bE s (ws.getD (Q.length+1) ByteArray.empty)=XX:=lq (Q:=k :: Q) f
theorem rT(f:aW ws ((k :: cM :: R).map bE) (0,XW)=(n,XW)):iC ws (1,XW)=ws.getD 1 ByteArray.empty:=by
 have h:=wu (Q:=[k]) (s:=cM) (R:=R) f;rw[gU] at h;have y:=(nJ h).2.2;unfold iC nC;rw[XS (show eU ws 1 XW (fun s=>aB.fQ s.data.toList)=XX from h)];exact Nu y
structure Full(s:XK)(p:J XK):Prop where
 sc:jW s=(U p,0)
 all:aW (aB.aU s) (p.map bE) (0,XW)=(p.length,XW)
 len:(aB.aU s).length=p.length
theorem wA{s:XK}(h:bS (aB.aU s) 0 XW k=XX)(T:nI.filter (oM k)=ps)(D:Sum ps (aB.aU s) st q)(f:aW (aB.aU s) (q.map bE) (0,XW)=st)(I:st.2=XW)(C:cU (aB.aU s).length st.1 st.2=XW):Full s q:=by
 let⟨t,ht⟩:=BC h;let⟨n,b⟩:=st;have S:=D.at_;have X:=(tH q (aB.aU s)).2;have hn:¬ n<(aB.aU s).length:=by simpa[cU,show b=XW from I] using C
 have A:b=XW:=I;subst A;have y:=rR f;refine⟨(He ht).trans (by rw[T];exact D.yes rfl C),by rw[f,y],?_⟩;have:pre q (aB.aU s)=n:=S;omega
theorem wB{s:XK}(h:bS (aB.aU s) 0 XW k=XX)(f:nI.filter (oM k)=ps)(A:Sum ps (aB.aU s) st q)(y:st.2=XX\/cU (aB.aU s).length st.1 st.2=XX):jW s=(XU,st.1):=by
 let⟨t,ht⟩:=BC h;rw[He ht,f];exact A.no y
theorem Np(h:bS ws 0 XW k=XX):ws.getD 0 ByteArray.empty=k:=by
 let⟨t,ht⟩:=BC h;rw[ht];rfl
def rS(s:XK)(st:M × XN):Prop:=st.2=XX\/cU (aB.aU s).length st.1 st.2=XX->jW s=(XU,st.1)
theorem Oc{s:XK}(h:bS (aB.aU s) 0 XW iS=XX){ev:N}(y:lG (aB.aU s) (aW (aB.aU s) [bV,dM] (1,XW)) pc ev acc fr mn mi ti un st):rS s st:=by
 have A:jm iS=XX:=XE
 have C:nI.filter (oM iS)=jV nG:=XE
 have f:aW (aB.aU s) (nG.map bE) (0,XW)=(aW (aB.aU s) [bV,dM] (1,XW)):=by
  unfold nG;rw[<- jP h A];simp only[List.map,gU,jX]
 rw[<- f] at y;let⟨q,hS,hg⟩:=yJ y;exact wB h C hS
theorem NZ{s:XK}(h:bS (aB.aU s) 0 XW jI=XX){ev:N}(y:lG (aB.aU s) (1,XW) pc ev acc fr mn mi ti un st):rS s st:=by
 have A:jm jI=XX:=XE
 have C:nI.filter (oM jI)=jV oI:=XE
 have f:aW (aB.aU s) (oI.map bE) (0,XW)=(1,XW):=by
  unfold oI;rw[<- jP h A];rfl
 rw[<- f] at y;let⟨q,hS,hg⟩:=yJ y;exact wB h C hS
structure vY(w:XY)(b:M)(x:aA.aO × M × M):Prop where
 c0:w.cell? (b,0)=U ↑x.1.id
 c1:w.cell? (b,1)=U ↑x.1.kind
 c2:w.cell? (b,2)=U ↑x.1.bA
 c3:w.cell? (b,3)=U ↑x.1.aM
 c4:w.cell? (b,4)=U (X9 x.2.1 x.1.aQ.length x.2.2)
 c5:w.cell? (b,5)=U ↑x.1.bP
theorem vY.off{b:M}{x:aA.aO × M × M}(h:vY w b x)(k:aH G w w')(f:b ∉ G):vY w' b x :=
 ⟨k.cell f h.c0,k.cell f h.c1,k.cell f h.c2,k.cell f h.c3,k.cell f h.c4,k.cell f h.c5⟩
theorem Gj(d:M)(ts:J (XK × XQ))(xs:J (aA.aO × M × M))(given now:XQ)(F:J M)(x:aA.aO × M × M)(w:XY)(h:RD w d ts xs given now F)(hx:gS w x.2.1 x.1.aQ)(ak:x.2.1 ∉ F)(S:x.2.1<w.heap.size)(hF:∀ k∈F,k<w.heap.size)(hl:xs.length<=1000)(bi:0<=given)(bh:given<=1000):
  X4 prog 232 #[X8 (U ⟨d,0,XU⟩),.agg (eH x).toArray] w fun e w'=>e=Yg (tA 0 (given+1))/\uC w d ts (xs++[({ x.1 with id:=given+1 },x.2)]) (given+1) now F w':=by
 obtain⟨i0,a9,a7,az,ay⟩:=info_parts yK;have hd:d<w.heap.size:=hF d h.dF;have H:=aC h;have HX:=aC (Yz hx (Yz ak S));simp only[eH];clear h hx ak S
 go_in
 go_upto_region 1 with fail
 have oX:aH [] w ((w.alloc (Yh #[V Yf x.1.id,V Yf x.1.kind,Ya x.1.bA,V Yf x.1.aM,X9 (U ⟨x.2.1,0,XU⟩) x.1.aQ.length x.2.2,V Yf x.1.bP] 58)).alloc (Yh #[V Yf 0,V Yf 0,V Yf 0,X9 XU 0 0,X9 XU 0 0,X9 XU 0 0,X9 XU 0 0] 40)):=((aH.refl _ _).alloc _).alloc _;have bX:vY ((w.alloc (Yh #[V Yf x.1.id,V Yf x.1.kind,Ya x.1.bA,V Yf x.1.aM,X9 (U ⟨x.2.1,0,XU⟩) x.1.aQ.length x.2.2,V Yf x.1.bP] 58)).alloc (Yh #[V Yf 0,V Yf 0,V Yf 0,X9 XU 0 0,X9 XU 0 0,X9 XU 0 0,X9 XU 0 0] 40)) w.heap.size x:=⟨by simp,by simp,by simp,by simp,by simp,by simp⟩
 have rX:((w.alloc (Yh #[V Yf x.1.id,V Yf x.1.kind,Ya x.1.bA,V Yf x.1.aM,X9 (U ⟨x.2.1,0,XU⟩) x.1.aQ.length x.2.2,V Yf x.1.bP] 58)).alloc (Yh #[V Yf 0,V Yf 0,V Yf 0,X9 XU 0 0,X9 XU 0 0,X9 XU 0 0,X9 XU 0 0] 40)).heap[w.heap.size+1]?=U (Yh #[V Yf 0,V Yf 0,V Yf 0,X9 XU 0 0,X9 XU 0 0,X9 XU 0 0,X9 XU 0 0] 40):=by
  have:=cP (w.alloc (Yh #[V Yf x.1.id,V Yf x.1.kind,Ya x.1.bA,V Yf x.1.aM,X9 (U ⟨x.2.1,0,XU⟩) x.1.aQ.length x.2.2,V Yf x.1.bP] 58)) (Yh #[V Yf 0,V Yf 0,V Yf 0,X9 XU 0 0,X9 XU 0 0,X9 XU 0 0,X9 XU 0 0] 40)
  rwa [ZM] at this
 have fX:((w.alloc (Yh #[V Yf x.1.id,V Yf x.1.kind,Ya x.1.bA,V Yf x.1.aM,X9 (U ⟨x.2.1,0,XU⟩) x.1.aQ.length x.2.2,V Yf x.1.bP] 58)).alloc (Yh #[V Yf 0,V Yf 0,V Yf 0,X9 XU 0 0,X9 XU 0 0,X9 XU 0 0,X9 XU 0 0] 40)).frozen? ⟨w.heap.size,0,XU⟩=XW:=by
  have a:=World.frozen?_alloc_new w #[V Yf x.1.id,V Yf x.1.kind,Ya x.1.bA,V Yf x.1.aM,X9 (U ⟨x.2.1,0,XU⟩) x.1.aQ.length x.2.2,V Yf x.1.bP] 58 0;exact (((aH.refl [] (w.alloc (Yh #[V Yf x.1.id,V Yf x.1.kind,Ya x.1.bA,V Yf x.1.aM,X9 (U ⟨x.2.1,0,XU⟩) x.1.aQ.length x.2.2,V Yf x.1.bP] 58))).alloc (Yh #[V Yf 0,V Yf 0,V Yf 0,X9 XU 0 0,X9 XU 0 0,X9 XU 0 0,X9 XU 0 0] 40)).frozen XA XA).trans a
 have OX:=aC (Yz oX (Yz bX (Yz rX fX)));clear oX bX rX fX;generalize (World.alloc _ (Yh #[V Yf 0,V Yf 0,V Yf 0,X9 XU 0 0,X9 XU 0 0,X9 XU 0 0,X9 XU 0 0] 40))=X at OX ⊢;obtain⟨N,hN⟩:∃ N,N=w.heap.size:=⟨_,rfl⟩;rw[<- hN] at OX ⊢;have au:d≠N:=O
 have HN:=aC hN;clear hN hd;have rd:=H.out.off OX.out.1 XA XA;have c2:=rd.c2;have f2:=rd.fz 2;have fN:=OX.out.2.2.2;have n0:=OX.out.2.1.c0;have ad:=aC rd;clear rd
 go_upto_region 3 with fail
 have av:N ∉ F:=fun e=>by have:=hF N e;have:=HN.out;omega
 have oY:aH F X ((X.setCell ⟨d,2,XU⟩ (V Yf (given+1))).setCell ⟨N,0,XU⟩ (V Yf (given+1)))\/True:=.inr trivial;have kN:aH [N] (X.setCell ⟨d,2,XU⟩ (V Yf (given+1))) ((X.setCell ⟨d,2,XU⟩ (V Yf (given+1))).setCell ⟨N,0,XU⟩ (V Yf (given+1))):=aH.bD ..;have kd:aH [d] X (X.setCell ⟨d,2,XU⟩ (V Yf (given+1))):=aH.bD ..
 have ai:RD ((X.setCell ⟨d,2,XU⟩ (V Yf (given+1))).setCell ⟨N,0,XU⟩ (V Yf (given+1))) d ts xs (given+1) now F :=
  (ad.out.oB (given+1)).off kN (fun y I=>by simp;rintro rfl;exact av I) (fun y I=>by
   have h1:=(H.out.sp y I).2.2;have h2:=HN.out
   simp;omega)
 have wY:aH F w ((X.setCell ⟨d,2,XU⟩ (V Yf (given+1))).setCell ⟨N,0,XU⟩ (V Yf (given+1))) :=
  ((OX.out.1.mono XA).setCell (.inl H.out.dF) _ _).setCell (.inr (by have:=HN.out;omega)) _ _
 have C:=OX.out.2.1.off kd (by simp;exact fun e=>au e.symm)
 have ax:vY ((X.setCell ⟨d,2,XU⟩ (V Yf (given+1))).setCell ⟨N,0,XU⟩ (V Yf (given+1))) N ({ x.1 with id:=given+1 },x.2) :=
  ⟨zm _ _ _ C.c0,(zS _ _ _ _ XA).trans C.c1,(zS _ _ _ _ XA).trans C.c2,(zS _ _ _ _ XA).trans C.c3,(zS _ _ _ _ XA).trans C.c4,(zS _ _ _ _ XA).trans C.c5⟩
 have ac:N+1<X.heap.size:=by
  by_cases hx:N+1<X.heap.size
  .exact hx
  .have:=OX.out.2.2.1;rw[Zw O] at this;cases this
 have rY:((X.setCell ⟨d,2,XU⟩ (V Yf (given+1))).setCell ⟨N,0,XU⟩ (V Yf (given+1))).heap[N+1]?=U (Yh #[V Yf 0,V Yf 0,V Yf 0,X9 XU 0 0,X9 XU 0 0,X9 XU 0 0,X9 XU 0 0] 40):=by
  rw[kN.block (N+1) (zL ac kd.size) XA,kd.block (N+1) ac (by simp;have:=hF d H.out.dF;have:=HN.out;omega)];exact OX.out.2.2.1
 have A:=aC (Yz ai (Yz wY (Yz ax rY)));clear oY kN kd ai wY C ax rY ac c2 f2 fN n0 OX ad;generalize (YA _ ⟨N,0,XU⟩ (V Yf (given+1)))=Y at A ⊢;obtain⟨v,cv,ho,ae⟩:=A.out.1.ev;have b0:=A.out.2.2.1.c0;have b1:=A.out.2.2.1.c1;have b2:=A.out.2.2.1.c2;have b3:=A.out.2.2.1.c3;have b4:=A.out.2.2.1.c4;have b5:=A.out.2.2.1.c5;have f1:=A.out.1.fz 1;have ba:d<Y.heap.size:=Yl _ _ cv;have bf:N<Y.heap.size:=Yl _ _ b0;have f:=aC (Yz ho ae)
 have ar:d ∉ v.ownBlock.toList:=by
  intro e;have:v.ownBlock=U d:=by simpa using e
  exact (ae d this).2 rfl
 have ag:=aC ar;clear ho ae ar;simp only at b0 b1 b2 b3 b4 b5
 go_cut [24] from 17 to 26 (fun _ wx=>∃ g cap w5,aH (v.ownBlock.toList) Y w5/\w5.ownsRow 0 58 6 (X9 (U ⟨g,0,XU⟩) (xs.length+1) cap) (xs.length+1) (xs.flatMap eH++eH ({ x.1 with id:=given+1 },x.2))/\(v.ownBlock=U g\/Y.heap.size<=g)/\wx=w5.setCell ⟨d,1,XU⟩ (X9 (U ⟨g,0,XU⟩) (xs.length+1) cap))
 case first =>
  go_region_law (first
   |(refine step_append_lies _ rfl _ _ 34 rfl 0 58 i0 _ 6 72 underlying34 a9 a7 az ay rfl XC v xs.length (xs.flatMap eH) rfl (eQ f.out.1 (((zr _ _).alloc (zq _) _).drew)) ⟨Y.heap.size,0,XU⟩ 1 1 (eH ({ x.1 with id:=given+1 },x.2)) rfl rfl (ZF (cs:=(eH ({ x.1 with id:=given+1 },x.2)).toArray) (cP Y _)) (by simp[eH,ZG]) O XH O (zN _) (Y.heap.size+1) XA ?_;intro g cap w1 a8 af ab bg;have kk:aH (v.ownBlock.toList) Y w1:=aH.grown (((aH.refl _ Y).alloc _).drew) af (fun k T=>.inl (by simp[T]));have z1:=kk.cell ag.out cv;have z2:=(kk.frozen (o:=1) ag.out (Yl _ _ cv)).trans f1))
  all_goals
   go_wp2
   go_meet
   exact⟨g,cap,w1,kk,a8,ab.imp id (fun e=>by omega),rfl⟩
 case rest =>
  obtain⟨g,cap,w5,kk,an,ab,rfl⟩:=hcut;have aj:gS Y x.2.1 x.1.aQ:=HX.out.1.off A.out.2.1 HX.out.2.1;have S:x.2.1<Y.heap.size:=zL HX.out.2.2 A.out.2.1.size;obtain⟨rz,oz⟩:=RD.mu (x:=({ x.1 with id:=given+1 },x.2)) A.out.1 cv f.out.1 f.out.2 kk an ab aj HX.out.2.1 S
  have bc:N ∉ d :: v.ownBlock.toList:=by
   intro e;rcases Yu.1 e with e|e
   .exact au e.symm
   .exact av (f.out.2 N (by simpa using e)).1
  have ac:N+1 ∉ d :: v.ownBlock.toList:=by
   intro e;have h2:=HN.out;rcases Yu.1 e with e|e
   .have:=hF d H.out.dF;omega
   .have:=hF (N+1) (f.out.2 (N+1) (by simpa using e)).1;omega
  have n0:=oz.cell bc b0
  have ao:N+1<Y.heap.size:=by
   by_cases hx:N+1<Y.heap.size
   .exact hx
   .have:=A.out.2.2.2;rw[Zw O] at this;cases this
  have al:=(oz.block (N+1) ao ac).trans A.out.2.2.2;have D:=aC (Yz rz (Yz oz al));clear rz oz al kk an aj S b0 b1 b2 b3 b4 b5 f1 cv ba bf ag;have HG:Hid (g∈g :: F):=List.mem_cons_self ..;generalize (YA w5 ⟨d,1,XU⟩ (X9 (U ⟨g,0,XU⟩) (xs.length+1) cap))=Z at D n0 ⊢;have q0:Z.cell? ⟨N+1,0,XU⟩=U (V Yf 0):=by simp[YF,D.out.2.2]
  have q1:Z.cell? ⟨N+1,1,XU⟩=U (V Yf 0):=by simp[YF,D.out.2.2]
  have q2:Z.cell? ⟨N+1,2,XU⟩=U (V Yf 0):=by simp[YF,D.out.2.2]
  have q3:Z.cell? ⟨N+1,3,XU⟩=U (X9 XU 0 0):=by simp[YF,D.out.2.2]
  have q4:Z.cell? ⟨N+1,4,XU⟩=U (X9 XU 0 0):=by simp[YF,D.out.2.2]
  have q5:Z.cell? ⟨N+1,5,XU⟩=U (X9 XU 0 0):=by simp[YF,D.out.2.2]
  have q6:Z.cell? ⟨N+1,6,XU⟩=U (X9 XU 0 0):=by simp[YF,D.out.2.2]
  have fq:∀ o,Z.frozen? ⟨N+1,o,XU⟩=XW:=fun o=>by simp[Ym,D.out.2.2]
  have aa:aH [N+1] Z (((((((Z.setCell ⟨N+1,0,XU⟩ (V Yf 0)).setCell ⟨N+1,1,XU⟩ (V Yf 0)).setCell ⟨N+1,2,XU⟩ (V Yf (given+1))).setCell ⟨N+1,3,XU⟩ (X9 XU 0 0)).setCell ⟨N+1,4,XU⟩ (X9 XU 0 0)).setCell ⟨N+1,5,XU⟩ (X9 XU 0 0)).setCell ⟨N+1,6,XU⟩ (X9 XU 0 0)) :=
   (((((((aH.refl [N+1] Z).setCell (.inl XA) _ _).setCell (.inl XA) _ _).setCell (.inl XA) _ _).setCell (.inl XA) _ _).setCell (.inl XA) _ _).setCell (.inl XA) _ _).setCell (.inl XA) _ _
  have aq:∀ k∈g :: F,k∈F\/w.heap.size<=k:=by
   intro k T;rcases Yu.1 T with rfl|T
   .rcases ab with e|e
    .exact .inl (f.out.2 k e).1
    .have:=A.out.2.1.size;exact .inr O
   .exact .inl T
  have aw:Hid (uC w d ts (xs++[({ x.1 with id:=given+1 },x.2)]) (given+1) now F (((((((Z.setCell ⟨N+1,0,XU⟩ (V Yf 0)).setCell ⟨N+1,1,XU⟩ (V Yf 0)).setCell ⟨N+1,2,XU⟩ (V Yf (given+1))).setCell ⟨N+1,3,XU⟩ (X9 XU 0 0)).setCell ⟨N+1,4,XU⟩ (X9 XU 0 0)).setCell ⟨N+1,5,XU⟩ (X9 XU 0 0)).setCell ⟨N+1,6,XU⟩ (X9 XU 0 0))):=by
   have bj:=HN.out;refine⟨g :: F,D.out.1.off aa (fun y I=>?_) (fun y I=>?_),aq,?_⟩
   .simp;rintro rfl;rcases Yu.1 I with e|e
    .rcases ab with e2|e2
     .have:=hF g (f.out.2 g e2).1;omega
     .omega
    .have:=hF _ e;omega
   .simp;intro e;rcases Yv.1 I with I|I
    .have:=(H.out.sp y I).2.2;omega
    .have:y=({ x.1 with id:=given+1 },x.2):=by simpa using I
     subst this;have:=HX.out.2.2;have e':x.2.1=N+1:=e;omega
   .refine (A.out.2.1.trans' D.out.2.1 (fun k T=>?_)).trans' aa (fun k T=>by simp at T;exact .inr O);rcases Yu.1 T with rfl|T
    .exact .inl H.out.dF
    .exact .inl (f.out.2 k (by simpa using T)).1
  clear aa aq HG D f A H HX
  go_wp2_with fail
  exact bodyPost_ret (v:=tA 0 (given+1)) (by simp[results,results232,go_sem,tA,q0,q1,q2,q3,q4,q5,q6]) rfl ⟨rfl,aw.out⟩
open aA (aO St dZ bW eo eB)
structure EB(e:aO):Prop where
 u0:1<=e.aM
 u1:e.aM<=9
 sl:e.aQ.length<=40
 s0:e.aQ≠[]
 so:∀ s∈e.aQ,0<=s.2/\s.2<=2000000
theorem EB.small{e:aO}(h:EB e):aA.Small e:=⟨by have:=h.u0;omega,h.u1,by have:=h.sl;omega⟩
theorem EB.book{e:aO}(h:EB e):EB (aA.dI e):=⟨h.u0,h.u1,h.sl,h.s0,h.so⟩
structure DD(w:XY)(d:M)(s:St)(xs:J (aO × M × M))(F:J M):Prop where
 rd:RD w d s.ts xs s.given s.now F
 es:xs.map (·.1)=s.es
 lt:∀ k∈F,k<w
 tl:s.ts.length<=4
 el:s.es.length<=60
 en:∀ e∈s.es,EB e
variable {w w':XY}{d:XP}{s:St}{xs:XL (aO × XP × XP)}{F:XL XP}
theorem DD.len(h:DD w d s xs F):xs.length=s.es.length:=by rw[<- h.es,ZE]
theorem DD.off(h:DD w d s xs F)(k:aH G w w')(A:∀ x∈F,x ∉ G)(y:∀ x∈xs,x.2.1 ∉ G):DD w' d s xs F :=
 ⟨h.rd.off k A y,h.es,fun x f=>zL (h.lt x f) k.size,h.tl,h.el,h.en⟩
theorem DD.later(h:DD w d s xs F)(k:X0 w w w'):DD w' d s xs F:=h.off (G:=[]) (aH.aD k) XA XA
theorem DD.de(h:DD w d s xs F):∃ a cap E,nz w d a cap E s.es:=by
 let⟨a,cap,E,k⟩:=h.rd.dx;exact⟨a,cap,E,h.es ▸ k.de⟩
theorem DD.small(h:DD w d s xs F):∀ e∈s.es,aA.Small e:=fun e f=>(h.en e f).small
theorem DD.aM(h:DD w d s xs F)(name:XK):
  X4 prog 229 #[d,name] w fun e w'=>e=Yg (V Y (bW name s.ts))/\w'=w:=by
 let⟨a,c,G,ht⟩:=h.rd.dt;exact Ce d a c G s.ts name w ht (by have:=h.tl;omega)
theorem DD.asked(h:DD w d s xs F)(name:XK)(u:N):
  X4 prog 230 #[d,name,u] w fun e w'=>e=Yg (V Y (eB s.ts name u))/\w'=w:=by
 let⟨a,c,G,ht⟩:=h.rd.dt;exact Pv d a c G s.ts name u w ht (by have:=h.tl;omega)
theorem DD.fits(h:DD w d s xs F)(name:XK){u:N}{cb:M}{L:J (N × N)}(y:gS w B L)(f:L.length<=100)(C:0<=u)(A:u<=9):
  X4 prog 182 #[d,name,u,X9 B L.length cb] w fun e w'=>e=Yg (eo s.ts s.es name u L)/\X0 w w w':=by
 let⟨a,c,G,ht⟩:=h.rd.dt;let⟨b,q,E,he⟩:=h.de;exact Gx d b q E s.es a c G s.ts name u B cb L w he ht y (by have:=h.el;omega) (by have:=h.tl;omega) h.small f C A
theorem DD.dN(h:DD w d s xs F)(name:XK)(fr til:N):
  X4 prog 236 #[d,name,fr,til] w fun e w'=>e=Yg (V Y (aA.mQ name s.es fr til))/\X0 w w w':=by
 let⟨b,q,E,he⟩:=h.de;exact Oe d b q E s.es name fr til w he (by have:=h.el;omega) h.small
theorem DD.find(h:DD w d s xs F)(name:XK)(u long fr til:N)(y:0<=u)(f:u<=9)(C:0<=long)(A:long<=2000000)(I:0<=fr)(D:fr<=2000000):
  X4 prog 237 #[d,name,u,long,fr,til] w fun e w'=>e=Yg (V Y (aA.jH s.ts s.es name u long fr til))/\X0 w w w':=by
 let⟨a,c,G,ht⟩:=h.rd.dt;let⟨b,q,E,he⟩:=h.de;exact Od d b q E s.es a c G s.ts name u long fr til w he ht (by have:=h.el;omega) (by have:=h.tl;omega) h.small (fun e S=>(h.en e S).so) y f C A I D
theorem DD.place(h:DD w d s xs F)(id:N):
  X4 prog 233 #[d,id] w fun e w'=>e=Yg (V Y (aA.kc id s.es 0))/\w'=w:=by
 let⟨b,q,E,he⟩:=h.de;exact OZ d b q E s.es id w he (by have:=h.el;omega)
theorem DD.waiting(h:DD w d s xs F):
  X4 prog 231 #[d] w fun e w'=>e=Yg (V Y (aA.eM s.es))/\w'=w:=by
 let⟨b,q,E,he⟩:=h.de;exact P4 d b q E s.es w he (by have:=h.el;omega)
theorem DD.mR(h:DD w d s xs F)(id:N):
  X4 prog 234 #[d,id] w fun e w'=>∃ v,e=Yg v/\w'.ownsRow w 58 6 v (gD id xs).length ((gD id xs).flatMap eH)/\X0 w w w':=by
 let⟨a,c,E,k⟩:=h.rd.dx;exact P7 d a c E xs id w k (by have:=h.el;have:=h.len;omega)
structure ER(w:XY)(d E cap:M)(a:Option Addr)(xs:J (aO × M × M)):Prop where
 c:w.cell? (d,1)=U (X9 a xs.length cap)
 a:∀ i,i<xs.length->a=U ⟨E,0,XU⟩
 r:∀ (i:M) (h:i<xs.length),RE w E i xs[i].1 xs[i].2.1 xs[i].2.2
 f:∀ o,0<xs.length->w.frozen? ⟨E,o,XU⟩=XW
theorem DD.er(h:DD w d s xs F):∃ a cap E,ER w d E cap a xs:=by
 let⟨v,c,ho,_⟩:=h.rd.ev;obtain⟨a,cap,g,rfl,X,y,C⟩:=yN ho (fun x A=>(h.rd.sp x A).1);refine⟨a,cap,g,c,fun i I=>y (by intro e;simp[e] at I),C,fun o D=>?_⟩;obtain rfl:=y (by intro e;simp[e] at D);rcases ho.2 with ⟨f,_⟩|⟨g',cp,T,f,_,S,_⟩
 .cases f
 .simp only[Value.slice.injEq,Option.some.injEq,Addr.mk.injEq] at f;obtain⟨⟨rfl,_⟩,_⟩:=f;simp[Ym,S]
theorem ER.later{E:M}{a:Option Addr}(h:ER w d E cap a xs)(k:X0 w w w'):ER w' d E cap a xs :=
 ⟨aR k h.c,h.a,fun i A=>(h.r i A).later k,fun o y=>((aH.aD (F:=[]) k).frozen XA (Yl _ _ (h.r 0 y).c0)).trans (h.f o y)⟩
theorem gj{e size:M}{l:J XZ}(h:w.ownsRow B e size v n l):∃ a cap,v=X9 a n cap:=by
 rcases h.2 with ⟨rfl,rfl⟩|⟨g,cap,_,rfl,_⟩
 .exact⟨XU,0,rfl⟩
 .exact⟨_,cap,rfl⟩
theorem yt{f:Array Oper}{rest:J Oper}{o:Oper}{a:Act}{Q:Exit->Act->XY->Prop}(C:o.guard=XU)(x y:Operand)(T:o.op=.call { callee:=.builtin .append,args:=#[x,y],argTypes:=#[38,38] }){l:J N}(A:W.ownsRow B 3 1 v l.length (l.map (V Y)))(z:N){D:X6}{mk:M × M}(S:a.eval x=v)(I:a.eval y=X9 W 1 1)(hl:l.length<=1000000)(hB:B<=W)
  (h:∀ v' w',w'.ownsRow B 3 1 v' (l++[z]).length ((l++[z]).map (V Y))->aH v.ownBlock.toList W w'->wpList prog f Q rest (a.put o.dst v') w'):
  wpList prog f Q (o :: rest) a (W.alloc (Yh #[z] D mk)):=by
 let⟨i0,hi0,hz0,hz1,hz2⟩:=info_parts pg;refine wpList_append_own _ C x y 38 T B 3 i0 (V Y 0) 1 8 underlying38 hi0 hz0 hz1 hz2 rfl XC v l.length (l.map (V Y)) S (A.alloc _) (W,0) 1 1 [z] I rfl (ZF (cs:=#[z]) (cP W _)) XI XH O XG ?_;intro v' w' h1 h2 _;refine h v' w' (by simpa using h1) (((aH.refl _ W).alloc _).grown h2 (fun k X=>.inl (by simp[X])))
theorem mc{b:M}{cs:Array XZ}{t:X6}{q:M × M}(h:W.heap[b]?=U (Yh cs t q))(v:XZ):(W.setCell (b,i) v).heap[b]?=U (Yh (cs.setIfInBounds i v) t q):=by
 let⟨hlt,hk⟩:=Array.getElem?_eq_some_iff.1 h;show (W.heap.modify b _)[b]?=_;rw[Array.getElem?_eq_getElem (by rw[Array.size_modify];exact hlt),Array.getElem_modify_self,hk];rfl
theorem oR{e:M}{xs:J XZ}(h:W.ownsRow B e z v n xs){b:M}(I:v.ownBlock=U b)(o:M)(x:XZ):(W.setCell (b,o) x).ownsRow B e z v n (xs.set o x):=by
 let⟨hlen,h2⟩:=h;rcases h2 with ⟨rfl,rfl⟩|⟨g,cap,D,rfl,T,S,y,C,A,f⟩
 .cases I
 .have X:g=b:=by simpa[ZB] using I
  subst X;refine⟨by rw[Zx];exact hlen,.inr ⟨g,cap,D.setIfInBounds o x,rfl,T,mc S x,y,C,by rw[Array.size_setIfInBounds];exact A,?_⟩⟩;rw[Array.toList_setIfInBounds,List.take_set,f]
theorem GJ:∀ (xs:J (aA.aO × M × M))(k:M)(f:k<xs.length),((xs.flatMap eH).set (k*6+1) (V Y 1)).set (k*6+5) (V Y 0)=(xs.set k (aA.dI xs[k].1,xs[k].2)).flatMap eH
 |[],k,f=>XT f XA
 |x :: r,0,_=>by simp[eH,aA.dI]
 |x :: r,k+1,f=>by
  have ih:=GJ r k (by simpa using f);have y:(k+1)*6+1=(eH x).length+(k*6+1):=by rw[yQ];omega
  have h:(k+1)*6+5=(eH x).length+(k*6+5):=by rw[yQ];omega
  rw[List.flatMap_cons,y,h,List.set_append,XR O,Zu,List.set_append,XR O,Zu,ih];rfl
theorem RD.eA{xs:J (aA.aO × M × M)}{now:N}(h:RD w d ts xs given now F){E:M}(hc:w.cell? (d,1)=U (X9 E xs.length cap))(k:M)(hk:k<xs.length):
  RD ((w.setCell (E,k*6+1) (V Y 1)).setCell (E,k*6+5) (V Y 0)) d ts (xs.set k (aA.dI xs[k].1,xs[k].2)) given now F/\E∈F/\E≠d:=by
 let⟨v1,a1,a2,a3⟩:=h.tv;let⟨v2,b1,b2,b3⟩:=h.ev;obtain rfl:v2=X9 E xs.length cap:=ZN (b1.symm.trans hc);let⟨hE,hEd⟩:=b3 E rfl;have k1:aH [E] w (w.setCell (E,k*6+1) (V Y 1)):=aH.bD ..;have k2:aH [E] (w.setCell (E,k*6+1) (V Y 1)) ((w.setCell (E,k*6+1) (V Y 1)).setCell (E,k*6+5) (V Y 0)):=aH.bD ..;have f:=k1.trans k2;have C:d ∉ [E]:=by simp;exact fun e=>hEd e.symm
 have p1:=oR b2 (b:=E) rfl (k*6+1) (V Y 1);have X:=oR p1 (b:=E) rfl (k*6+5) (V Y 0);rw[GJ xs k hk] at X
 have S:v1.ownBlock≠U E:=by
  intro e;rcases b2.2 with ⟨I,_⟩|⟨g,cp,aa,I,_,hh,_⟩
  .cases I
  .simp only[Value.slice.injEq,Option.some.injEq,Addr.mk.injEq] at I;obtain⟨⟨rfl,_⟩,_⟩:=I;exact ja a2 hh XC e
 refine⟨⟨⟨v1,f.cell C a1,cV a2 f (fun b T=>by simp;intro e;subst e;exact S T),a3⟩,⟨_,f.cell C hc,by rw[Zx];exact X,fun b T=>b3 b T⟩,f.cell C h.c2,f.cell C h.c3,fun o=>(f.frozen C (Yl _ _ h.c2)).trans (h.fz o),h.dF,fun x hx=>?_⟩,hE,hEd⟩;obtain⟨j,hj,rfl⟩:=List.getElem_of_mem hx;rw[Zx] at hj;have A:∀ y∈xs,gS ((w.setCell (E,k*6+1) (V Y 1)).setCell (E,k*6+5) (V Y 0)) y.2.1 y.1.aQ/\y.2.1 ∉ F/\y.2.1<((w.setCell (E,k*6+1) (V Y 1)).setCell (E,k*6+5) (V Y 0)).heap.size:=fun y D=>⟨(h.sp y D).1.off f (by simp;intro e;exact (h.sp y D).2.1 (e ▸ hE)),(h.sp y D).2.1,Zg (h.sp y D).2.2 f.size⟩
 rw[List.getElem_set]
 split
 .exact A xs[k] (zg hk)
 .exact A xs[j] (zg hj)
theorem DD.eA{s:aA.St}{xs:J (aA.aO × M × M)}(h:DD w d s xs F){E:M}{a:Option Addr}(C:ER w d E cap a xs){k:M}(y:k<xs.length){es':J aA.aO}(A:s.es.set k (aA.dI xs[k].1)=es'):
  DD ((w.setCell (E,k*6+1) (V Y 1)).setCell (E,k*6+5) (V Y 0)) d { s with es:=es' } (xs.set k (aA.dI xs[k].1,xs[k].2)) F/\E∈F/\E≠d:=by
 obtain rfl:=C.a k y;let⟨h1,h2⟩:=h.rd.eA C.c k y;refine⟨⟨h1,?_,fun x f=>zL (h.lt x f) (Yk (aH.bD E w _ _).size (aH.bD E _ _ _).size),h.tl,?_,?_⟩,h2⟩
 .show _=es';rw[List.map_set,h.es,A]
 .show es'.length<=60;rw[<- A,Zx];exact h.el
 .intro e f;rw[<- A] at f;rcases List.mem_or_eq_of_mem_set f with f|rfl
  .exact h.en e f
  .exact (h.en _ (h.es ▸ Zh.2 ⟨_,List.getElem_mem y,rfl⟩)).book
def iY(x:aA.aO × M × M):Obj:=Yh #[x.1.id,x.1.kind,x.1.bA,x.1.aM,X9 x.2.1 x.1.aQ.length x.2.2,x.1.bP] 58
def Bj(ys xs:J (aA.aO × M × M)):Prop:=∀ x∈ys,∃ z∈xs,x.2.1=z.2.1
theorem ue(ts:J (XK × N)):∀ (r d:J aA.aO),(aA.ey ts d r).1.length=d.length+r.length/\(aA.ey ts d r).2.length<=r.length
 |[],d=>by simp[aA.ey]
 |e :: r,d=>by
  have a:=ue ts r (d++[aA.dI e]);have b:=ue ts r (d++[e]);rw[aA.ey];simp only[YZ,Y0,List.length_nil] at a b ⊢
  split
  .simp only[Y0];omega
  .omega
theorem Gt{s:aA.St}{xs:J (aA.aO × M × M)}(h:DD w d s xs F):
  X4 prog 118 #[d] w fun e w'=>∃ v,e=Yg v/\w'.ownsRow w 3 1 v (aA.dB s.ts s.es).2.length ((aA.dB s.ts s.es).2.map (V Y))/\(∃ xs',DD w' d { s with es:=(aA.dB s.ts s.es).1 } xs' F/\Bj xs' xs)/\aH F w w':=by
 obtain⟨i0,ay,aw,av,au⟩:=info_parts pg;have H:=aC h;have a7:=h.el;clear h
 go_in
 go_wp21
 go_loopw [3,4,5,6] (fun v i _ _ wx=>∃ k:M,k<=s.es.length/\i=V Y k/\∃ (A:J aA.aO) (C:J N) (ys:J (aA.aO × M × M)),A.length=k/\(∀ y∈ys,∃ z∈xs,y.2.1=z.2.1)/\DD wx d { s with es:=A++s.es.drop k } ys F/\wx.ownsRow w 3 1 v C.length (C.map (V Y))/\C.length<=k/\aA.dB s.ts s.es=((aA.ey s.ts A (s.es.drop k)).1,C++(aA.ey s.ts A (s.es.drop k)).2)/\aH F w wx) (fun _ i _ _ _=>s.es.length-(intOf i).toNat)
 .exact⟨0,Zd _,rfl,[],[],xs,rfl,fun y hy=>⟨y,hy,rfl⟩,H,ZD _ _ _ _,Zd _,by simp[aA.dB],aH.refl _ _⟩
 .obtain⟨k,hk,rfl,A,C,ys,ai,aa,hd,ad,az,aj,af⟩:=hrel;obtain⟨a,cap,E,hr⟩:=hd.er;have cc:=hr.c;have ao:ys.length=s.es.length:=by have:=hd.len;simp only[YZ,List.length_drop] at this;omega
  rw[ao] at cc;have S:=aC (Yz hd (Yz hr (Yz ad (Yz aj af))));have ax:=af.size
  by_cases ar:k<s.es.length
  .have D:k<ys.length:=O
   obtain rfl:=hr.a k D;have r0:=hr.r k D;have c0:=r0.c0;have c1:=r0.c1;have c2:=r0.c2;have c3:=r0.c3;have c4:=r0.c4;have c5:=r0.c5;have hi:(k:N)<(s.es.length:N):=O
   have ag:=ZH ar
   have ak:ys[k].1=s.es[k]:=by
    have e1:(ys.map (·.1))[k]'(by simpa using D)=ys[k].1:=List.getElem_map ..
    have e2:(ys.map (·.1))[k]?=U s.es[k]:=by rw[hd.es];show (A++s.es.drop k)[k]?=_;rw[Zt O,ai,Nat.sub_self,ag];rfl
    rw[ZV (by simpa using D),Option.some.injEq] at e2;exact e1.symm.trans e2
   have an:=hd.en s.es[k] (by show _∈A++s.es.drop k;rw[ag];exact List.mem_append_right _ (List.mem_cons_self ..));have HY:=aC (Yz ak (Yz ag an));have fE:=fun o=>hr.f o O
   clear hd hr ad aj af r0 ak ag an
   have ae:∀ (e:aA.aO) (g2:J N),aA.ey s.ts A (s.es[k] :: s.es.drop (k+1))=((aA.ey s.ts (A++[e]) (s.es.drop (k+1))).1,g2++(aA.ey s.ts (A++[e]) (s.es.drop (k+1))).2)->aA.dB s.ts s.es=((aA.ey s.ts (A++[e]) (s.es.drop (k+1))).1,(C++g2)++(aA.ey s.ts (A++[e]) (s.es.drop (k+1))).2):=by
    intro e g2 h1;have h2:=S.2.2.2.1;rw[HY.2.1,h1] at h2;rw[h2];simp
   have NX:=aC ae;clear ae
   have ac:aA.ey s.ts A (s.es[k] :: s.es.drop (k+1))=aA.ey s.ts (A++[s.es[k]]) (s.es.drop (k+1))->∀ wx,X0 wr wr wx->∃ T:M,T<=s.es.length/\(V Y ((k:N)+1))=V Y T/\∃ (A:J aA.aO) (C:J N) (ys:J (aA.aO × M × M)),A.length=T/\(∀ y∈ys,∃ z∈xs,y.2.1=z.2.1)/\DD wx d { s with es:=A++s.es.drop T } ys F/\wx.ownsRow w 3 1 u3 C.length (C.map (V Y))/\C.length<=T/\aA.dB s.ts s.es=((aA.ey s.ts A (s.es.drop T)).1,C++(aA.ey s.ts A (s.es.drop T)).2)/\aH F w wx:=by
    intro h1 wx hb;refine⟨k+1,O,rfl,A++[s.es[k]],C,ys,by simp[ai],aa,?_,eQ S.2.2.1 hb,O,by have:=NX s.es[k] [] (by rw[h1];simp);simpa using this,S.2.2.2.2.trans (aH.aD hb)⟩;have:=S.1.later hb;rw[HY.2.1] at this
    simpa using this
   have ST:=aC ac;clear ac
   by_cases ab:s.es[k].kind=3
   .have hq:(ys[k].1.kind != 3)=XW:=by rw[HY.1];simp[ab]
    have hX:X0 wr.heap.size wr (wr.alloc (iY ys[k])):=bC;have hE:(wr.alloc (iY ys[k])).heap[wr.heap.size]?=U (iY ys[k]):=cP _ _;have RS:=aC (S.out.2.1.r k D).sl;have K3:=aC ab;clear ab
    go_upto_region 7 with fail
    change Code.wp _ _ _ _ (wr.alloc (iY ys[k]));have HX:=aC (Yz hX hE);have f0:=sg hE;have f2:=tC hE;have f3:=tD hE;have f4:=tF hE;have cX:=aR hX cc;have x1:=aR hX c1;have x5:=aR hX c5;clear hX hE c0 c2 c3 c4 c5 cc;generalize wr.alloc (iY ys[k])=X at *;have DX:=aC (S.1.later HX.1);have FT:=aC (DX.fits (u:=ys[k].1.aM) (cb:=ys[k].2.2) ys[k].1.bA (RS.later HX.1) (by rw[HY.1];have:=HY.2.2.sl;omega) (by rw[HY.1];have:=HY.2.2.u0;omega) (by rw[HY.1];exact HY.2.2.u1))
    go_wp21
    refine FT.mono ?_;rintro e w4 ⟨rfl,I⟩;have HB:=aC I;have B4:=aC (bM HX.1 I aI);have e4:Hid (s.ts=s.ts/\A++s.es.drop k=A++s.es[k] :: s.es.drop (k+1)):=⟨rfl,by rw[HY.2.1]⟩
    cases hf:aA.eo s.ts (A++s.es.drop k) ys[k].1.bA ys[k].1.aM ys[k].1.aQ
    .have hg:Hid (aA.ey s.ts A (s.es[k] :: s.es.drop (k+1))=aA.ey s.ts (A++[s.es[k]]) (s.es.drop (k+1))):=by
      show _=_;rw[aA.ey,XR];rintro ⟨_,h2⟩;rw[HY.1,e4.out.2,h2] at hf
      cases hf
     clear hf I
     go_wp21
     go_roundw
     .exact ST hg.out _ B4
     .simp[intOf];omega
    .have hg:Hid (aA.ey s.ts A (s.es[k] :: s.es.drop (k+1))=((aA.ey s.ts (A++[aA.dI s.es[k]]) (s.es.drop (k+1))).1,[s.es[k].id]++(aA.ey s.ts (A++[aA.dI s.es[k]]) (s.es.drop (k+1))).2)):=by
      show _=_;rw[aA.ey,XS ⟨K3,by rw[HY.1,e4.out.2] at hf;exact hf⟩];rfl
     have f0:=aR I f0;have cX:=aR I cX;have x1:=aR I x1;have x5:=aR I x5;have hN:wr<w4.heap.size:=Yl _ _ f0;have R4:=aC (S.2.1.later B4);have gE:=fun o=>R4.f o O
     have a8:E<wr:=Yl _ _ c1;have ba:E≠wr:=O
     clear hf I fE
     have bk:=(S.1.later B4).eA R4 D (es':=(A++[aA.dI s.es[k]])++s.es.drop (k+1)) (by
      show (A++s.es.drop k).set k _=_
      rw[e4.out.2,HY.1,List.set_append,XR O,ai,Nat.sub_self,YU];rfl)
     have BK:=aC bk;clear bk;have a9:=BK.2.2;have kE:aH F w4 ((w4.setCell (E,k*6+1) (V Y 1)).setCell (E,k*6+5) (V Y 0)):=((aH.refl F w4).setCell (.inl BK.2.1) _ _).setCell (.inl BK.2.1) _ _;have g0:=(zS _ (E,k*6+5) (wr,0) (V Y 0) XA).trans ((zS w4 (E,k*6+1) (wr,0) (V Y 1) XA).trans f0);have oz:=cV (eQ S.2.2.1 B4) kE (fun b hb hF=>by have:=H.lt b hF;have:=gi S.2.2.1 hb;omega);have fz:=(S.2.2.2.2.trans (aH.aD B4)).trans kE;have HZ:=aC (Yz BK.1 (Yz oz fz));have hZ:=fz.size;clear kE oz fz BK
     go_upto_region 11 with fail
     generalize (YA (YA w4 _ _) _ _)=Z at *
     go_wp2_with (first|(at_builtin;refine yt rfl _ _ rfl HZ.2.1 ys[k].1.id rfl rfl O hZ ?_;intro v' w' aq al))
     go_roundw
     .have h1:∀ b,u3.ownBlock=U b->w<=b:=fun b hb=>gi S.2.2.1 hb
      refine⟨k+1,O,by go_num,A++[aA.dI s.es[k]],C++[ys[k].1.id],_,by simp[ai],fun y hy=>?_,HZ.1.off al (fun x hx e=>?_) (fun y hy e=>?_),aq,by simp;omega,by rw[HY.1];exact NX _ _ hg.out,HZ.2.2.trans' al (fun x hx=>.inr (h1 x (by simpa using hx)))⟩
      .rcases List.mem_or_eq_of_mem_set hy with hy|rfl
       .exact aa y hy
       .exact aa ys[k] (zg D)
      .have:=h1 x (by simpa using e);have:=H.lt x hx;omega
      .have:=h1 y.2.1 (by simpa using e)
       have:∃ z∈xs,y.2.1=z.2.1:=by
        rcases List.mem_or_eq_of_mem_set hy with hy|rfl
        .exact aa y hy
        .exact aa ys[k] (zg D)
       obtain⟨z,hz,e⟩:=this;have:=(H.rd.sp z hz).2.2;omega
     .simp[intOf];omega
   .have hq:(ys[k].1.kind != 3)=XX:=by rw[HY.1];simp[ab]
    have hg:Hid (aA.ey s.ts A (s.es[k] :: s.es.drop (k+1))=aA.ey s.ts (A++[s.es[k]]) (s.es.drop (k+1))):=by
     show _=_;rw[aA.ey,XR (fun h=>ab h.1)]
    clear ab
    go_wp21
    go_roundw
    .exact ST hg.out _ bC
    .simp[intOf];omega
  .have hi:¬ (k:N)<(s.es.length:N):=O
   have e:s.es.drop k=[]:=ZI O
   have HG:Hid (aA.dB s.ts s.es=(A,C)):=by
    have:=S.2.2.2.1;rw[e] at this;exact this.trans (by simp[aA.ey])
   have HF:Hid (DD wr d { s with es:=A } ys F):=by
    have:=S.1;rw[e,List.append_nil] at this;exact this
   clear hd hr ad aj af
   go_wp21
   go_ret;rw[HG];exact⟨u3,rfl,S.2.2.1,⟨ys,HF,aa⟩,S.2.2.2.2⟩
open aA (aO St bI aV)
structure qB(w:XY)(v1 v2 v4:XZ)(p:bI):Prop where
 en:∃ l,EV w v1 l/\l.map (·.1)=p.entries
 da:NV w v2 p.days
 ed:NV w v4 p.ended
def ec(w:XY)(d:M)(F:J M)(xs:J (aO × M × M))(q:St × bI)(e:Ending)(w':XY):Prop :=
 ∃ (v1 v2 f A:XZ) (xs':J (aO × M × M)) (F' G:J M),e=Yg (bJ q.2.err 0 q.2.n v1 v2 f A)/\(∀ h,(∀ b∈G,h.heap[b]?=w'.heap[b]?)->qB h v1 v2 A q.2) /\
  w'.ownsRow w 3 1 f q.2.granted.length (q.2.granted.map (V Y))/\DD w' d q.1 xs' F'/\(∀ k∈F',k∈F\/w<=k)/\aH F w w' /\
  (∀ b∈G,w<=b/\b<w'/\b ∉ F'/\f.ownBlock≠U b)/\(∀ b,f.ownBlock=U b->b ∉ F'/\∀ x∈xs',x.2.1≠b)/\∀ x∈xs',(∃ y∈xs,x.2.1=y.2.1)\/w<=x.2.1
abbrev aT:XZ:=X9 XU 0 0
theorem NV.nil(w:XY):NV w aT []:=⟨⟨_,_,rfl⟩,fun k f=>by simp at f⟩
theorem EV.nil(w:XY):EV w aT []:=⟨⟨_,_,rfl⟩,fun k f=>by simp at f,by simp⟩
theorem qB.nil(w:XY){e a n:N}{g:J N}:qB w aT aT aT ⟨e,a,n,[],[],g,[]⟩:=⟨⟨[],EV.nil w,rfl⟩,NV.nil w,NV.nil w⟩
variable {w Z:XY}{d:XP}{s s':St}{xs:XL (aO × XP × XP)}{F F':XL XP}
theorem DD.plain(h:DD Z d s' xs' F')(I:∀ k∈F',k∈F\/w<=k)(k:aH F w Z)(C:∀ x∈xs',(∃ y∈xs,x.2.1=y.2.1)\/w<=x.2.1)(f n:N):ec w d F xs (s',⟨f,0,n,[],[],[],[]⟩) (Yg (bJ f 0 n aT aT aT aT)) Z :=
 ⟨aT,aT,aT,aT,xs',F',[],rfl,fun A _=>qB.nil A,ZD _ _ _ _,h,I,k,by simp,fun b D=>by simp[ZB] at D,C⟩
theorem DD.nD(h:DD Z d s' xs' F')(X:∀ k∈F',k∈F\/w<=k)(k:aH F w Z)(T:w<=Q)(D:Q ∉ F')(C:∀ x∈xs',x.2.1≠Q)(S:∀ x∈xs',(∃ y∈xs,x.2.1=y.2.1)\/w<=x.2.1)(I n:N)(a b c e f g i:XZ):ec w d F xs (s',⟨I,0,n,[],[],[],[]⟩) (Yg (bJ I 0 n aT aT aT aT)) (cR Z Q a b c e f g i) :=
 (h.off (lQ Z Q a b c e f g i) (fun x A e=>D (by simp at e;exact e ▸ A)) (fun x A e=>C x A (by simpa using e))).plain X (k.trans' (lQ ..) (fun x A=>by simp at A;exact .inr (A ▸ T))) S I n
theorem DD.said(h:DD w d s xs F)(k:X0 w w Z)(C:w<=Q)(A n:N)(a b c e f g i:XZ):ec w d F xs (s,⟨A,0,n,[],[],[],[]⟩) (Yg (bJ A 0 n aT aT aT aT)) (cR Z Q a b c e f g i) :=
 (h.later k).nD (fun _ y=>.inl y) (aH.aD k) C (fun y=>by have:=h.lt Q y;omega) (fun x y e=>by have:=(h.rd.sp x y).2.2;omega) (fun x y=>.inl ⟨x,y,rfl⟩) A n a b c e f g i
theorem DD.fresh(h:DD w d s xs F){ys:J (aO × M × M)}{es':J aO}(S:Z.ownsRow B 58 6 v ys.length (ys.flatMap eH))(hB:w<=B)(k:X0 w w Z)(X:∀ y∈ys,y∈xs)(hl:ys.length<=xs.length)(T:ys.map (·.1)=es'):
  DD (Z.setCell (d,1) v) d { s with es:=es' } ys (v.ownBlock.toList++F):=by
 have C:=h.later k;have f:∀ b,v.ownBlock=U b->w<=b/\b<Z:=fun b f=>⟨Yk hB (gi S f),fe S f⟩
 have hd:d<w:=h.lt d h.rd.dF;have D:aH [d] Z (Z.setCell (d,1) v):=aH.bD ..;let⟨v1,a1,a2,a3⟩:=C.rd.tv;let⟨v2,b1,b2,b3⟩:=C.rd.ev
 refine⟨⟨⟨v1,(aZ XA).trans a1,cV a2 D (fun b f e=>(a3 b f).2 (by simpa using e)),fun b f=>⟨List.mem_append_right _ (a3 b f).1,(a3 b f).2⟩⟩,⟨v,World.cell?_setCell_same _ _ _ b1,tJ (cV S D (fun b I e=>by have:=(f b I).1;simp at e;omega)) (zN _),fun b I=>⟨by simp[I],fun e=>by have:=(f b I).1;omega⟩⟩,
  (aZ XA).trans C.rd.c2,(aZ XA).trans C.rd.c3,fun o=>(zF ..).trans (C.rd.fz o),List.mem_append_right _ h.rd.dF,fun x A=>?_⟩,T,fun x A=>?_,h.tl,?_,fun e A=>?_⟩
 .let⟨x1,x2,x3⟩:=h.rd.sp x (X x A);refine⟨((x1.later k).off D (by simp;rintro rfl;exact x2 h.rd.dF)),fun e=>?_,Zg (zL x3 k.size) D.size⟩;rcases Yv.1 e with e|e
  .have:=(f _ (by simpa using e)).1;omega
  .exact x2 e
 .refine Zg ?_ D.size;rcases Yv.1 A with e|e
  .exact (f x (by simpa using e)).2
  .exact C.lt x e
 .show es'.length<=60;have:=h.len;have:=h.el;rw[<- T,ZE];omega
 .rw[<- T] at A;obtain⟨y,hy,rfl⟩:=Zh.1 A;exact h.en _ (h.es ▸ Zh.2 ⟨y,X y hy,rfl⟩)
theorem aH.Um(h:aH [] w w'):X0 w w w':=⟨h.os,h.tape,h.output,h.size,fun k f=>h.block k f XA⟩
theorem Ga{f:Array Oper}{rest:J Oper}{o:Oper}{a:Act}{Q:Exit->Act->XY->Prop}(I:o.guard=XU)(x y:Operand)(ho:o.op=.call { callee:=.builtin .append,args:=#[x,y],argTypes:=#[56,56] }){l:J (N × N)}(A:W.ownsRow B 60 2 v l.length (l.flatMap jn))(D C:N){T:X6}{mk:M × M}(hs:a.eval x=v)(X:a.eval y=X9 W 1 1)(hl:l.length<=1000000)(hB:B<=W)
  (h:∀ g cap w',w'.ownsRow B 60 2 (X9 g (l.length+1) cap) (l.length+1) ((l++[(D,C)]).flatMap jn)->aH v.ownBlock.toList W w'->wpList prog f Q rest (a.put o.dst (X9 (U ⟨g,0,XU⟩) (l.length+1) cap)) w'):
  wpList prog f Q (o :: rest) a (W.alloc (Yh #[D,C] T mk)):=by
 let⟨i0,hi0,hz0,hz1,hz2⟩:=info_parts wS;refine wpList_append_own _ I x y 56 ho B 60 i0 _ 2 16 underlying56 hi0 hz0 hz1 hz2 rfl XC v l.length (l.flatMap jn) hs (A.alloc _) (W,0) 1 1 [D,C] X rfl (ZF (cs:=#[D,C]) (cP W _)) XI XH O XG ?_;intro v' w' S h2 _;rcases S.2 with ⟨_,h0⟩|⟨g,cap,_,rfl,_⟩
 .omega
 .refine h g cap w' (by rw[List.flatMap_append];exact S) (((aH.refl _ W).alloc _).grown h2 (fun k hk=>.inl (by simp[hk])))
theorem RD.trim{now:N}(h:RD w d ts xs given now F):RD w d ts xs given now (F.filter fun k=>decide (k<w)):=by
 let⟨v1,a1,a2,a3⟩:=h.tv;let⟨v2,b1,b2,b3⟩:=h.ev;refine⟨⟨v1,a1,a2,fun k f=>⟨List.mem_filter.2 ⟨(a3 k f).1,by simpa using fe a2 f⟩,(a3 k f).2⟩⟩,⟨v2,b1,b2,fun k f=>⟨List.mem_filter.2 ⟨(b3 k f).1,by simpa using fe b2 f⟩,(b3 k f).2⟩⟩,h.c2,h.c3,h.fz,List.mem_filter.2 ⟨h.dF,?_⟩,fun x y=>⟨(h.sp x y).1,fun e=>(h.sp x y).2.1 (List.mem_filter.1 e).1,(h.sp x y).2.2⟩⟩;have:=Yl _ _ h.c2
 simpa using this
theorem DD.mu{A:XY}(h:DD A d s xs F){x:aO × M × M}(f:EB x.1)(D:s.es.length<60)(k:uC A d s.ts (xs++[({ x.1 with id:=s.given+1 },x.2)]) (s.given+1) s.now F Z):
  ∃ F',DD Z d (aA.kB s x.1).1 (xs++[({ x.1 with id:=s.given+1 },x.2)]) F'/\(∀ k∈F',k∈F\/A<=k)/\aH F A Z:=by
 let⟨F',h1,h2,h3⟩:=k;refine⟨_,⟨h1.trim,?_,fun k C=>by simpa using (List.mem_filter.1 C).2,h.tl,?_,fun e y=>?_⟩,fun k C=>h2 k (List.mem_filter.1 C).1,h3⟩
 .simp[aA.kB,h.es]
 .simp[aA.kB];omega
 .simp only[aA.kB,Yv,List.mem_singleton] at y;rcases y with y|rfl
  .exact h.en e y
  .exact⟨f.u0,f.u1,f.sl,f.s0,f.so⟩
structure KP(w wx:XY)(L:J (M × Obj)):Prop where
 bl:X0 w w wx
 kb:∀ q∈L,wx.heap[q.1]?=U q.2
 lo:∀ q∈L,w<=q.1
 nd:(L.map (·.1)).Nodup
variable {w wx wy:XY}{L L':XL (XP × Obj)}{b:XP}{o:Obj}{cs:Array XZ}{t:X6}{m:XP × XP}
theorem KP.nil(w:XY):KP w w []:=⟨zr _ _,by simp,by simp,by simp⟩
theorem KP.lt(h:KP w wx L){q:M × Obj}(f:q∈L):q.1<wx:=(Array.getElem?_eq_some_iff.1 (h.kb q f)).1
theorem KP.later(h:KP w wx L)(k:X0 wx wx wy):KP w wy L:=⟨bM h.bl k aI,fun q f=>(k.block _ (h.lt f)).trans (h.kb q f),h.lo,h.nd⟩
theorem KP.alloc(h:KP w wx L)(o:Obj):KP w (wx.alloc o) ((wx,o) :: L):=by
 have k:=h.later (fo.alloc aI o);refine⟨k.bl,fun q f=>?_,fun q f=>?_,?_⟩
 .rcases Yu.1 f with rfl|f
  .exact cP _ _
  .exact k.kb q f
 .rcases Yu.1 f with rfl|f
  .exact h.bl.size
  .exact h.lo q f
 .rw[List.map_cons,Yx];refine⟨fun e=>?_,h.nd⟩;let⟨q,f,e⟩:=Zh.1 e;have:=h.lt f;omega
theorem KP.put(h:KP w wx ((b,Yh cs t m) :: L))(i:M)(v:XZ):KP w (wx.setCell (b,i) v) ((b,Yh (cs.setIfInBounds i v) t m) :: L):=by
 have k:aH [b] wx (wx.setCell (b,i) v):=aH.bD ..;have A:=h.lo _ (List.mem_cons_self ..);have y:=h.nd;rw[List.map_cons,Yx] at y;refine⟨h.bl.setCell A v,fun q f=>?_,fun q f=>?_,h.nd⟩
 .rcases Yu.1 f with rfl|f
  .exact mc (h.kb _ (List.mem_cons_self ..)) v
  .refine (k.block _ (h.lt (ZK _ f)) (fun e=>y.1 (Zh.2 ⟨q,f,?_⟩))).trans (h.kb q (ZK _ f))
   simpa using e
 .rcases Yu.1 f with rfl|f
  .exact A
  .exact h.lo q (ZK _ f)
theorem KP.perm(h:KP w wx L)(p:L.Perm L'):KP w wx L':=⟨h.bl,fun q f=>h.kb q (p.mem_iff.2 f),fun q f=>h.lo q (p.mem_iff.2 f),(p.map _).nodup_iff.1 h.nd⟩
theorem KP.less(h:KP w wx L)(p:L'.Sublist L):KP w wx L':=⟨h.bl,fun q f=>h.kb q (p.subset f),fun q f=>h.lo q (p.subset f),h.nd.sublist (p.map _)⟩
theorem KP.swap{q r:M × Obj}(h:KP w wx (q :: r :: L)):KP w wx (r :: q :: L):=h.perm (List.Perm.swap ..)
theorem KP.cell(h:KP w wx L)(y:(b,Obj.cells cs t m)∈L)(i:M)(f:cs[i]?=U v):wx.cell? (b,i)=U v:=by
 have:=h.kb _ y;simp only at this;simp[YF,this,f]
theorem KP.frozen(h:KP w wx L)(f:(b,Obj.cells cs t)∈L)(i:M):wx.frozen? (b,i)=XW:=by
 have:=h.kb _ f;simp only at this;simp[Ym,this]
theorem KP.qw(h:KP w wx ((b,Yh #[a0,a1,a2,a3,a4,a5] t m) :: L))(v0 v1 v2 A y f:XZ):KP w ((((((wx.setCell (b,0) v0).setCell (b,1) v1).setCell (b,2) v2).setCell (b,3) A).setCell (b,4) y).setCell (b,5) f) ((b,Yh #[v0,v1,v2,A,y,f] t m) :: L):=by
 have:=(((((h.put 0 v0).put 1 v1).put 2 v2).put 3 A).put 4 y).put 5 f
 simpa using this
theorem KP.hc(h:KP w wx ((b,Yh cs t m) :: L))(i:M)(f:cs[i]?=U v):wx.cell? (b,i)=U v:=h.cell (List.mem_cons_self ..) i f
theorem KP.hf(h:KP w wx ((b,Yh cs t) :: L))(i:M):wx.frozen? (b,i)=XW:=h.frozen (List.mem_cons_self ..) i
theorem KP.pC(h:KP w wx ((b,Yh #[a0,a1,a2,a3,a4,a5] t m) :: L)):wx.cell? (b,0)=U a0/\wx.cell? (b,1)=U a1/\wx.cell? (b,2)=U a2/\wx.cell? (b,3)=U a3/\wx.cell? (b,4)=U a4/\wx.cell? (b,5)=U a5 :=
 ⟨h.hc 0 rfl,h.hc 1 rfl,h.hc 2 rfl,h.hc 3 rfl,h.hc 4 rfl,h.hc 5 rfl⟩
theorem Bm{w4:XY}(h:X0 (W.alloc o).drew.heap.size (W.alloc o).drew w4):w4.heap[W.heap.size]?=U o:=(h.block _ XA).trans (cP _ _)
open aA (aO)
theorem NV.at_{m:N}(h:NV w u (List.replicate n m)){k:M}(f:k<n):∃ g cap,u=X9 (U ⟨g,0,XU⟩) n cap/\w.cell? (g,k)=U ↑m:=by
 let⟨g,cap,e,a⟩:=h.cell k (by simpa using f);rw[List.getElem_replicate] at a;rw[List.length_replicate] at e;exact⟨g,cap,e,a⟩
theorem SV.at_{m:N}(h:SV w u (List.replicate n (m,m))){k:M}(f:k<n):∃ g cap,u=X9 (U ⟨g,0,XU⟩) n cap/\w.cell? (g,k*2)=U ↑m/\w.cell? (g,k*2+1)=U ↑m:=by
 let⟨g,cap,e,a,b⟩:=h.cell k (by simpa using f);rw[List.getElem_replicate] at a b;rw[List.length_replicate] at e;exact⟨g,cap,e,a,b⟩
def yh(m:N):aO:={ id:=m,kind:=0,bA:=⟨#[]⟩,aM:=m,aQ:=[],bP:=0 }
theorem EV.at_{m:N}(h:EV w u (List.replicate n (yh m,()))){k:M}(f:k<n):∃ g cap,u=X9 (U ⟨g,0,XU⟩) n cap/\w.cell? (g,k*6)=U ↑m/\w.cell? (g,k*6+1)=U (V Y 0)/\w.cell? (g,k*6+2)=U (Ya ⟨#[]⟩)/\w.cell? (g,k*6+3)=U ↑m/\w.cell? (g,k*6+4)=U ↑()/\w.cell? (g,k*6+5)=U (V Y 0):=by
 let⟨g,cap,e,a⟩:=h.cell k (by simpa using f);rw[List.getElem_replicate] at a;rw[List.length_replicate] at e;exact⟨g,cap,e,a⟩
theorem yW(n:M)(m:N)(u:XZ)(w:XY)(y:NV w u (List.replicate n m))(S:n<=1000000):
  X4 prog 56 #[u,m] w fun e w'=>e=Yg XX/\X0 w w w':=by
 obtain⟨a,X,rfl⟩:=y.form;have D:=aC y;clear y;rw[List.length_replicate];rw[List.length_replicate] at D
 go_in
 go_wp21
 go_loopw [5] (fun v wr=>∃ k:M,k<=n/\v=V Y k/\X0 w w wr) (fun v _=>n-(intOf v).toNat)
 .exact⟨0,Zd _,rfl,Below.refl _ _⟩
 .obtain⟨k,T,rfl,h⟩:=hrel;have C:=aC h;clear h
  by_cases A:k<n
  .have f:(k:N)<(n:N):=O
   let⟨g,cap,e,a0⟩:=(D.later C).at_ A;simp only[Value.slice.injEq,true_and] at e;obtain⟨rfl,rfl⟩:=e;have I:(m != m)=XW:=XA
   go_wp21
   go_roundw
   .exact⟨k+1,O,by go_num,C⟩
   .simp[intOf];omega
  .have f:¬ (k:N)<(n:N):=O
   go_wp21
   go_ret;exact⟨rfl,C⟩
theorem yY(n:M)(m:N)(u:XZ)(w:XY)(y:SV w u (List.replicate n (m,m)))(S:n<=1000000):
  X4 prog 57 #[u,m] w fun e w'=>e=Yg XX/\X0 w w w':=by
 obtain⟨a,X,rfl⟩:=y.form;have D:=aC y;clear y;rw[List.length_replicate];rw[List.length_replicate] at D
 go_in
 go_wp21
 go_loopw [5] (fun v wr=>∃ k:M,k<=n/\v=V Y k/\X0 w w wr) (fun v _=>n-(intOf v).toNat)
 .exact⟨0,Zd _,rfl,Below.refl _ _⟩
 .obtain⟨k,T,rfl,h⟩:=hrel;have C:=aC h;clear h
  by_cases A:k<n
  .have f:(k:N)<(n:N):=O
   let⟨g,cap,e,a0,a1⟩:=(D.later C).at_ A;simp only[Value.slice.injEq,true_and] at e;obtain⟨rfl,rfl⟩:=e;have I:(m != m)=XW:=XA
   go_wp21
   go_roundw
   .exact⟨k+1,O,by go_num,C⟩
   .simp[intOf];omega
  .have f:¬ (k:N)<(n:N):=O
   go_wp21
   go_ret;exact⟨rfl,C⟩
theorem za(n:M)(m:N)(u:XZ)(w:XY)(y:EV w u (List.replicate n (yh m,())))(S:n<=1000000):
  X4 prog 58 #[u,m] w fun e w'=>e=Yg XX/\X0 w w w':=by
 obtain⟨a,X,rfl⟩:=y.form;have D:=aC y;clear y;rw[List.length_replicate];rw[List.length_replicate] at D
 go_in
 go_wp21
 go_loopw [5] (fun v wr=>∃ k:M,k<=n/\v=V Y k/\X0 w w wr) (fun v _=>n-(intOf v).toNat)
 .exact⟨0,Zd _,rfl,Below.refl _ _⟩
 .obtain⟨k,T,rfl,h⟩:=hrel;have C:=aC h;clear h
  by_cases A:k<n
  .have f:(k:N)<(n:N):=O
   let⟨g,cap,e,a0,a1,a2,a3,a4,a5⟩:=(D.later C).at_ A;simp only[Value.slice.injEq,true_and] at e;obtain⟨rfl,rfl⟩:=e;have I:(m != m)=XW:=XA
   go_wp21
   go_roundw
   .exact⟨k+1,O,by go_num,C⟩
   .simp[intOf];omega
  .have f:¬ (k:N)<(n:N):=O
   go_wp21
   go_ret;exact⟨rfl,C⟩
theorem Qn{P:Program}(w:XY)(t ty:X6)(D:M)(e:X6)(i:TypeInfo)(z:XZ)(size I:M)(ht:P.underlying t=U (.slice e))(hi:P.info? e=U i)(hz:i.zero=U z)
  (S:i.size=size) (an:i.bytes=I) (av:z.cells.size=size) (ax:0<size)
  (v:XZ) (n:M) (xs:J XZ) (h:w.ownsRow D e size v n xs)
  (ad:Addr) (m c:M) (f:J XZ) (hl:f.length=m*size) (y:∀ j u,f[j]?=U u->w.cell? (ad.add j)=U u) (h1:∀ u∈f,u.oneCell'=XX)
  (hm:0<m) (aq:n+m<=maxLen) (A:(n+m)*I<=140737488355328) (ae:D<=w):
  ∃ g cap w',(Builtin.append_ #[t,t] ty #[v,X9 (U ad) m c]).run P w=.ok (X9 (U ⟨g,0,XU⟩) (n+m) cap) w' /\
   w'.ownsRow D e size (X9 g (n+m) cap) (n+m) (xs++f)/\w.grownBy w' v.ownBlock/\(v.ownBlock=U g\/(g=w/\w.grownBy w' XU))/\g<w'/\w'.ownsRow D e size v n xs:=by
 obtain⟨g,cap,w',hr,h2,h3,_,ac⟩:=run_append_lies (P:=P) w t ty D e i z size I ht hi hz S an av ax v n xs h ad m c f hl y h1 hm aq A ae _ rfl;refine⟨g,cap,w',hr,h2,h3,?_⟩;subst S;subst an;have au:n+m<=9223372036854775807:=by simp only[maxLen] at aq;omega
 rcases h.2 with ⟨rfl,rfl⟩|⟨g0,C,af,rfl,ao,hg,ai,al,ak,aa⟩
 .have X:=run_append_nil (P:=P) w t ty e i z ht hi hz ad m c f hl y O O (by have hb:=A;simp only[Nat.zero_add] at hb;omega);rw[X] at hr
  injection hr with e1 e2
  subst e2
  injection e1 with e3 e4 e5
  injection e3 with e6
  injection e6 with e7
  exact⟨.inr ⟨e7.symm,⟨rfl,rfl,rfl,by simp,fun k hk _=>((zr w.drew.heap.size w.drew).alloc aI _).block k hk⟩⟩,ac,⟨h.1,.inl ⟨rfl,rfl⟩⟩⟩
 .by_cases T:n+m<=C
  .have aj:n*i.size+f.length<=af.size:=by rw[hl,ak,<- Nat.add_mul];exact Nat.mul_le_mul_right _ T
   have X:=run_append_room (P:=P) w t ty e i ht hi g0 n C af hg ad m c f hl y h1 T aj;rw[X] at hr
   injection hr with e1 e2
   injection e1 with e3 e4 e5
   injection e3 with e6
   injection e6 with e7
   subst e7 e5;refine⟨.inl rfl,ac,⟨h.1,?_⟩⟩;rcases h2.2 with ⟨h0,_⟩|⟨g1,a7,ar,ag,ba,az,a8,a9,ay,aw⟩
   .cases h0
   .simp only[Value.slice.injEq,Option.some.injEq,Addr.mk.injEq,and_true,true_and] at ag;obtain⟨rfl,rfl⟩:=ag;refine .inr ⟨g0,C,ar,rfl,ao,az,ai,al,ay,?_⟩;have:=congrArg (List.take (n*i.size)) aw;rw[List.take_take,Nat.min_eq_left (Nat.mul_le_mul_right _ O),<- h.1,List.take_left] at this;rw[<- h.1];exact this
  .have ab:∀ j u,xs[j]?=U u->w.cell? (((g0,0):Addr).add j)=U u:=h.cells (g:=g0) rfl;have X:=run_append_grow (P:=P) w t ty e i z ht hi hz (g0,0) n C xs h.1 ab ad m c f hl y O O (growslice_fits O A);rw[X] at hr
   injection hr with e1 e2
   subst e2
   injection e1 with e3 e4 e5
   injection e3 with e6
   injection e6 with e7
   refine⟨.inr ⟨e7.symm,⟨rfl,rfl,rfl,by simp,fun k hk _=>((zr w.drew.heap.size w.drew).alloc aI _).block k hk⟩⟩,ac,⟨h.1,.inr ⟨g0,C,af,rfl,ao,?_,ai,al,ak,aa⟩⟩⟩;exact (((zr w.drew.heap.size w.drew).alloc aI _).block g0 (Array.getElem?_eq_some_iff.1 hg).1).trans hg
theorem wb(g j:M):((g,0):Addr).add j=(g,j):=by unfold Addr.add;split <;> simp_all
def rp(pat:J XZ)(j:M):J XZ:=(List.replicate j pat).flatten
theorem BG(pat:J XZ):rp pat 0=[]:=rfl
theorem pH(pat:J XZ)(j:M):(rp pat j).length=j*pat.length:=by simp[rp]
theorem wD(pat:J XZ)(j k:M):rp pat (j+k)=rp pat j++rp pat k:=by
 unfold rp;rw[<- List.replicate_append_replicate,List.flatten_append]
theorem Gd(pat:J XZ):rp pat 1=pat:=by simp[rp]
theorem BE(pat:J XZ)(j:M):rp pat (j+1)=rp pat j++pat:=by rw[wD,Gd]
theorem yw(pat:J XZ){k o:M}(h:k<j)(f:o<pat.length):(rp pat j)[k*pat.length+o]?=pat[o]?:=by
 have e:j=k+(1+(j-k-1)):=O
 rw[e,wD,wD,Gd,Zt (by rw[pH];omega),pH,Zu,Zn f]
theorem NF(h:(rp pat j)[i]?=U v)(f:j<=n):(rp pat n)[i]?=U v:=by
 have e:n=j+(n-j):=O
 rw[e,wD,Zn (List.getElem?_eq_some_iff.1 h).1];exact h
structure Fu(pat:J XZ)(w:XY)(u:XZ)(j:M):Prop where
 form:∃ a cap,u=X9 a j cap
 cell:∀ i v,(rp pat j)[i]?=U v->∃ g cap,u=X9 (U ⟨g,0,XU⟩) j cap/\w.cell? ⟨g,i,XU⟩=U v
variable {w w':XY}{pat:XL XZ}{u:XZ}{j:XP}
theorem Fu.jT{e:M}(h:w.ownsRow B e pat.length u j (rp pat j)):Fu pat w u j:=by
 rcases h.2 with ⟨rfl,rfl⟩|⟨g,cap,y,rfl,_⟩
 .exact⟨⟨_,_,rfl⟩,fun i v f=>by simp[rp] at f⟩
 .exact⟨⟨_,_,rfl⟩,fun i v f=>⟨g,cap,rfl,(wb g i) ▸ h.cells (g:=g) rfl i v f⟩⟩
theorem Fu.hI(h:Fu pat w u j)(k:∀ b,u.ownBlock=U b->b<w->w'.heap[b]?=w.heap[b]?):Fu pat w' u j :=
 ⟨h.form,fun i v f=>by
  obtain⟨g,cap,rfl,c⟩:=h.cell i v f
  exact⟨g,cap,rfl,(zo (k g XJ (Yl _ _ c))).trans c⟩⟩
theorem Fu.off(h:Fu pat w u j)(k:aH G w w')(A:∀ b,u.ownBlock=U b->b ∉ G):Fu pat w' u j:=h.hI fun b y f=>k.block b f (A b y)
theorem Fu.later(h:Fu pat w u j)(k:X0 w w w'):Fu pat w' u j:=h.hI fun b _ f=>k.block b f
abbrev lV(m:N):J XZ:=[m]
abbrev ly(m:N):J XZ:=[m,m]
abbrev jA(m:N):J XZ:=[m,V Y 0,Ya ⟨#[]⟩,m,(),V Y 0]
theorem Fu.nv{m:N}(h:Fu (lV m) w u j):NV w u (List.replicate j m):=by
 refine⟨by simpa using h.form,fun k f=>?_⟩;rw[List.length_replicate] at f;obtain⟨g,cap,rfl,c⟩:=h.cell _ _ (yw (lV m) f (o:=0) XA);exact⟨g,cap,by simp,by simpa using c⟩
theorem Fu.sv{m:N}(h:Fu (ly m) w u j):SV w u (List.replicate j (m,m)):=by
 refine⟨by simpa using h.form,fun k f=>?_⟩;rw[List.length_replicate] at f;obtain⟨g,cap,rfl,c⟩:=h.cell _ _ (yw (ly m) f (o:=0) XA);let⟨g',cap',e,c'⟩:=h.cell _ _ (yw (ly m) f (o:=1) XA);simp only[Value.slice.injEq,Option.some.injEq,Addr.mk.injEq,and_true,true_and] at e;obtain⟨rfl,rfl⟩:=e;exact⟨g,cap,by simp,by simpa using c,by simpa using c'⟩
theorem Fu.ev{m:N}(h:Fu (jA m) w u j):EV w u (List.replicate j (yh m,X9 XU 0 0)):=by
 refine⟨by simpa using h.form,fun k y=>?_,fun p C=>?_⟩
 .rw[List.length_replicate] at y;have at_:∀ (o:M) (v:XZ),(jA m)[o]?=U v->∃ g cap,u=X9 (U ⟨g,0,XU⟩) j cap/\w.cell? ⟨g,k*6+o,XU⟩=U v:=fun o v f=>h.cell _ _ ((yw (jA m) y (o:=o) (List.getElem?_eq_some_iff.1 f).1).trans f)
  obtain⟨g,cap,rfl,D⟩:=at_ 0 _ rfl
  have at':∀ (o:M) (v:XZ),(jA m)[o]?=U v->w.cell? ⟨g,k*6+o,XU⟩=U v:=fun o v f=>by
   obtain⟨S,A,e,I⟩:=at_ o v f;simp only[Value.slice.injEq,Option.some.injEq,Addr.mk.injEq,and_true,true_and] at e;obtain⟨rfl,rfl⟩:=e;exact I
  refine⟨g,cap,by simp,?_⟩;rw[List.getElem_replicate];exact⟨D,at' 1 _ rfl,at' 2 _ rfl,at' 3 _ rfl,at' 4 _ rfl,at' 5 _ rfl⟩
 .rw[List.eq_of_mem_replicate C];exact⟨⟨_,_,rfl⟩,fun k y=>by simp[yh] at y⟩
theorem qE{S:Array Oper}{rest:J Oper}{o:Oper}{a:Act}{Q:Exit->Act->XY->Prop}(ag:o.guard=XU)(x y:Operand)(t:X6)(ho:o.op=.call { callee:=.builtin .append,args:=#[x,y],argTypes:=#[t,t] })
  (pat:J XZ) {B e:M}{i:TypeInfo}{z:XZ}(f:M) (ht:prog.underlying t=U (.slice e)) (hi:prog.info? e=U i) (hz:i.zero=U z) (D:i.size=pat.length) (aj:i.bytes=f) (aa:f<=72) (ac:z.cells.size=pat.length) (ae:0<pat.length) (ad:∀ u∈pat,u.oneCell'=XX)
  {v:XZ}{n:M}(X:W.ownsRow B e pat.length v n (rp pat n)) {m c:M}{cs:Array XZ}{ty:X6}{mk:M × M}(ai:cs.toList=rp pat m) (hm:0<m) (ak:m<=3) (hs:a.eval x=v) (hx:a.eval y=X9 W m c) (hl:n<=1000000) (hB:B<=W)
  (h:∀ g cap w',w'.ownsRow B e pat.length (X9 g (n+m) cap) (n+m) (rp pat (n+m))->w'.ownsRow B e pat.length v n (rp pat n)->(∀ u j,j<=n+m->Fu pat W u j->Fu pat w' u j)->aH v.ownBlock.toList W w'->(v.ownBlock=U g\/W<=g)->wpList prog S Q rest (a.put o.dst (X9 g (n+m) cap)) w'):
  wpList prog S Q (o :: rest) a (W.alloc (Yh cs ty mk)):=by
 refine wpList_plain ag fun K hK=>?_
 have A:=ZF (cs:=cs) (cP W (Yh cs ty mk));rw[ai] at A
 obtain⟨g,cap,w',hr,h2,h3,C,_,h6⟩:=Qn (P:=prog) (W.alloc (Yh cs ty mk)) t o.type B e i z pat.length f ht hi hz D aj ac ae v n (rp pat n) (X.alloc _) (W,0) m c (rp pat m) (pH ..) A (fun q hq=>by
  unfold rp at hq;obtain⟨q',h7,h8⟩:=List.mem_flatten.1 hq;rw[List.eq_of_mem_replicate h7] at h8
  exact ad q h8) hm XH (Yk (Nat.mul_le_mul (show n+m<=1000003 by omega) aa) XC) XG
 rw[<- wD] at h2;unfold Oper.wp execOp;simp only[ho,resolve,invoke,builtin,Sem.run_bind,Sem.run_pure,Result.andThen_ok,List.map_toArray,List.map_cons,List.map_nil,hs,hx,hr];refine hK _ _ (h g cap w' h2 h6 (fun u j hj hu=>?_) (((aH.refl _ W).alloc _).grown h3 (fun k hk=>.inl (by simp[hk]))) ?_)
 .rcases C with C|⟨_,C⟩
  .refine⟨hu.form,fun i' v' T=>?_⟩;obtain⟨I,ab,rfl,cc⟩:=hu.cell i' v' T;refine⟨I,ab,rfl,?_⟩
   by_cases e1:I=g
   .subst e1;exact (wb I i') ▸ h2.cells (g:=I) rfl i' v' (NF T hj)
   .have af:I<W:=Yl _ _ cc;refine (zo (w:=W) ?_).trans cc;exact (h3.block I (by rw[ZM];omega) (by rw[C];simpa using e1)).trans (((zr W W).alloc aI _).block I af)
  .exact hu.hI fun b _ hl=>(C.block b (by rw[ZM];omega) XA).trans (((zr W W).alloc aI _).block b hl)
 .rcases C with C|⟨C,_⟩
  .exact .inl C
  .exact .inr (by rw[C];simp)
abbrev KL:=XZ × XZ × XZ × XZ × N
def gh(x:KL):J XZ:=[x.1,x.2.1,x.2.2.1,x.2.2.2.1,V Y x.2.2.2.2]
def gJ(x:KL):J M:=x.1.ownBlock.toList++(x.2.1.ownBlock.toList++(x.2.2.1.ownBlock.toList++x.2.2.2.1.ownBlock.toList))
def K4(P:N->J XZ)(w:XY)(x:KL):Prop :=
 ∃ j,j<=900000/\Fu (P x.2.2.2.2) w x.1 j/\Fu (P x.2.2.2.2) w x.2.1 (j+1)/\Fu (P x.2.2.2.2) w x.2.2.1 (j+2)/\Fu (P x.2.2.2.2) w x.2.2.2.1 (j+3)
theorem K4.off{x:KL}(h:K4 P w x)(k:aH G w w')(y:∀ b∈gJ x,b ∉ G):K4 P w' x:=by
 let⟨j,hj,h1,h2,h3,h4⟩:=h;exact⟨j,hj,h1.off k fun b f=>y b (by simp[gJ,f]),h2.off k fun b f=>y b (by simp[gJ,f]),h3.off k fun b f=>y b (by simp[gJ,f]),h4.off k fun b f=>y b (by simp[gJ,f])⟩
structure mI(P:N->J XZ)(t:X6)(K:J M)(w:XY)(r:XZ)(X:J KL):Prop where
 own:w.ownsRow 0 t 5 r X.length (X.flatMap gh)
 four:∀ x∈X,K4 P w x
 bl:∀ x∈X,∀ b∈gJ x,b∈K
theorem mI.off{t:X6}{K:J M}{X:J KL}(h:mI P t K w r X)(k:aH G w w')(y:∀ b,r.ownBlock=U b->b ∉ G)(C:∀ b∈K,b ∉ G):mI P t K w' r X :=
 ⟨cV h.own k y,fun x f=>(h.four x f).off k fun b A=>C b (h.bl x f b A),h.bl⟩
theorem mI.wide{t:X6}{K K':J M}{X:J KL}(h:mI P t K w r X)(A:∀ b∈K,b∈K'):mI P t K' w r X :=
 ⟨h.own,h.four,fun x f b y=>A b (h.bl x f b y)⟩
theorem mI.snoc{t:X6}{K:J M}{X:J KL}{x:KL}(h:mI P t K w r X)(D:K4 P w x)(k:aH r.ownBlock.toList w w')(S:∀ b∈K,r.ownBlock≠U b)(C:∀ b∈gJ x,r.ownBlock≠U b)
  (I:w'.ownsRow 0 t 5 r' (X.length+1) (X.flatMap gh++gh x)):mI P t (gJ x++K) w' r' (X++[x]):=by
 refine⟨by simpa using I,fun y f=>?_,fun y f b A=>?_⟩
 .rcases Yv.1 f with f|f
  .exact (h.four y f).off k fun b A e=>S b (h.bl y f b A) (by simpa using e)
  .rw[List.mem_singleton.1 f];exact D.off k fun b A e=>C b A (by simpa using e)
 .rcases Yv.1 f with f|f
  .exact List.mem_append_right _ (h.bl y f b A)
  .rw[List.mem_singleton.1 f] at A;exact List.mem_append_left _ A
abbrev tI:X6:=111
abbrev tS:X6:=114
abbrev tE:X6:=117
structure BR(w:XY)(K:J M)(r1 r2 r3:XZ)(X1 X2 X3:J KL):Prop where
 b1:mI lV tI K w r1 X1
 b2:mI ly tS K w r2 X2
 b3:mI jA tE K w r3 X3
 kb:∀ b∈K,b<w/\r1.ownBlock≠U b/\r2.ownBlock≠U b/\r3.ownBlock≠U b
structure BK(w:XY)(B:M)(v0 v1:XZ)(K:J M)(r1 r2 r3:XZ)(X1 X2 X3:J KL):Prop where
 hb:w.heap[B]?=U (Yh #[v0,v1,r1,r2,r3] 86)
 br:BR w K r1 r2 r3 X1 X2 X3
 bK:B ∉ K
variable {w w':XY}{B:XP}{v0 v1 r1 r2 r3 r':XZ}{K G:XL XP}{X1 X2 X3:XL KL}{x:KL}
theorem qD{A y s1 C I D b1 b2:M}{u1 u2:XZ}{l1 S:J XZ}(h1:w.ownsRow b1 A s1 u1 I l1)(h2:w.ownsRow b2 y C u2 D S)(f:y≠A){b:M}(X:u1.ownBlock=U b):u2.ownBlock≠U b:=by
 intro h;rcases h2.2 with ⟨rfl,_⟩|⟨g,cap,aa,rfl,_,T,_⟩
 .simp[ZB] at h
 .simp[ZB] at h;subst h;exact ja h1 T f X
theorem BR.off(h:BR w K r1 r2 r3 X1 X2 X3)(k:aH G w w')(D:∀ b,r1.ownBlock=U b->b ∉ G)(C:∀ b,r2.ownBlock=U b->b ∉ G)(A:∀ b,r3.ownBlock=U b->b ∉ G)(f:∀ b∈K,b ∉ G):BR w' K r1 r2 r3 X1 X2 X3 :=
 ⟨h.b1.off k D f,h.b2.off k C f,h.b3.off k A f,fun b y=>⟨zL (h.kb b y).1 k.size,(h.kb b y).2⟩⟩
def cC(B:M)(r1 r2 r3:XZ):J M:=B :: (r1.ownBlock.toList++(r2.ownBlock.toList++r3.ownBlock.toList))
theorem BK.off(h:BK w B v0 v1 K r1 r2 r3 X1 X2 X3)(k:aH G w w')(y:∀ b∈cC B r1 r2 r3,b ∉ G)(A:∀ b∈K,b ∉ G):BK w' B v0 v1 K r1 r2 r3 X1 X2 X3 :=
 ⟨(k.block B (Array.getElem?_eq_some_iff.1 h.hb).1 (y B (by simp[cC]))).trans h.hb,h.br.off k (fun b f=>y b (by simp[cC,f])) (fun b f=>y b (by simp[cC,f])) (fun b f=>y b (by simp[cC,f])) A,h.bK⟩
theorem BK.later(h:BK w B v0 v1 K r1 r2 r3 X1 X2 X3)(k:X0 w w w'):BK w' B v0 v1 K r1 r2 r3 X1 X2 X3:=h.off (G:=[]) (aH.aD k) XA XA
theorem BK.cells(h:BK w B v0 v1 K r1 r2 r3 X1 X2 X3):w.cell? (B,0)=U v0/\w.cell? (B,1)=U v1/\w.cell? (B,2)=U r1/\w.cell? (B,3)=U r2/\w.cell? (B,4)=U r3/\∀ o,w.frozen? ⟨B,o,XU⟩=XW:=by
 have:=h.hb;refine⟨?_,?_,?_,?_,?_,fun o=>?_⟩ <;> simp[YF,Ym,this]
theorem BK.lu(h:BK w B v0 v1 K r1 r2 r3 X1 X2 X3):(∃ a c,r1=X9 a X1.length c)/\(∃ a c,r2=X9 a X2.length c)/\∃ a c,r3=X9 a X3.length c:=⟨gj h.br.b1.own,gj h.br.b2.own,gj h.br.b3.own⟩
def uD(w:XY)(r r':XZ):Prop:=∀ b,r'.ownBlock=U b->r.ownBlock=U b\/w<=b
theorem BK.DP(h:BK w B v0 v1 K r1 r2 r3 X1 X2 X3)(hx:K4 lV w x)(A:∀ b∈gJ x,b<w/\b ∉ cC B r1 r2 r3)(k:aH r1.ownBlock.toList w w')(ho:w'.ownsRow 0 tI 5 r' (X1.length+1) (X1.flatMap gh++gh x))(D:uD w r1 r'):
  BK (w'.setCell (B,2) r') B v0 v1 (gJ x++K) r' r2 r3 (X1++[x]) X2 X3/\aH (cC B r1 r2 r3) w (w'.setCell (B,2) r'):=by
 have I:=(Array.getElem?_eq_some_iff.1 h.hb).1;have X:r1.ownBlock≠U B:=ja h.br.b1.own h.hb XC;have T:r2.ownBlock≠U B:=ja h.br.b2.own h.hb XC;have S:r3.ownBlock≠U B:=ja h.br.b3.own h.hb XC;have C:w'.heap[B]?=U (Yh #[v0,v1,r1,r2,r3] 86):=(k.block B I (by simpa using X)).trans h.hb;have aa:r'.ownBlock≠U B:=ja ho C XC;have n2:∀ b,r2.ownBlock=U b->b ∉ r1.ownBlock.toList:=fun b f e=>qD h.br.b2.own h.br.b1.own XC f (by simpa using e)
 have n3:∀ b,r3.ownBlock=U b->b ∉ r1.ownBlock.toList:=fun b f e=>qD h.br.b3.own h.br.b1.own XC f (by simpa using e)
 have nK:∀ b∈K,b ∉ r1.ownBlock.toList:=fun b f e=>(h.br.kb b f).2.1 (by simpa using e)
 have s1:=h.br.b1.snoc hx k (fun b f=>(h.br.kb b f).2.1) (fun b f e=>(A b f).2 (by simp[cC,e])) ho;have s2:=(h.br.b2.off k n2 nK).wide (K':=gJ x++K) (fun b f=>List.mem_append_right _ f);have s3:=(h.br.b3.off k n3 nK).wide (K':=gJ x++K) (fun b f=>List.mem_append_right _ f);have kd:aH [B] w' (w'.setCell (B,2) r'):=aH.bD ..
 have xB:∀ b∈gJ x++K,b≠B:=fun b f e=>by
  rcases Yv.1 f with f|f
  .exact (A b f).2 (by simp[cC,e])
  .exact h.bK (e ▸ f)
 have br:BR w' (gJ x++K) r' r2 r3 (X1++[x]) X2 X3:=by
  refine⟨s1,s2,s3,fun b f=>?_⟩;rcases Yv.1 f with f|f
  .refine⟨zL (A b f).1 k.size,fun e=>?_,fun e=>(A b f).2 (by simp[cC,e]),fun e=>(A b f).2 (by simp[cC,e])⟩;rcases D b e with e|e
   .exact (A b f).2 (by simp[cC,e])
   .have:=(A b f).1;omega
  .let⟨q1,q2,q3,q4⟩:=h.br.kb b f;refine⟨zL q1 k.size,fun e=>?_,q3,q4⟩;rcases D b e with e|e
   .exact q2 e
   .omega
 refine⟨⟨by rw[mc C];rfl,br.off kd (fun b f e=>aa (by simp at e;exact e ▸ f)) (fun b f e=>T (by simp at e;exact e ▸ f)) (fun b f e=>S (by simp at e;exact e ▸ f)) (fun b f e=>xB b f (by simpa using e)),fun e=>xB B e rfl⟩,?_⟩;exact (k.mono fun y hy=>by simp at hy;simp[cC,hy]).setCell (.inl (by simp[cC])) _ _
theorem BK.DM(h:BK w B v0 v1 K r1 r2 r3 X1 X2 X3)(hx:K4 ly w x)(A:∀ b∈gJ x,b<w/\b ∉ cC B r1 r2 r3)(k:aH r2.ownBlock.toList w w')(ho:w'.ownsRow 0 tS 5 r' (X2.length+1) (X2.flatMap gh++gh x))(D:uD w r2 r'):
  BK (w'.setCell (B,3) r') B v0 v1 (gJ x++K) r1 r' r3 X1 (X2++[x]) X3/\aH (cC B r1 r2 r3) w (w'.setCell (B,3) r'):=by
 have I:=(Array.getElem?_eq_some_iff.1 h.hb).1;have X:r1.ownBlock≠U B:=ja h.br.b1.own h.hb XC;have T:r2.ownBlock≠U B:=ja h.br.b2.own h.hb XC;have S:r3.ownBlock≠U B:=ja h.br.b3.own h.hb XC;have C:w'.heap[B]?=U (Yh #[v0,v1,r1,r2,r3] 86):=(k.block B I (by simpa using T)).trans h.hb;have aa:r'.ownBlock≠U B:=ja ho C XC;have n1:∀ b,r1.ownBlock=U b->b ∉ r2.ownBlock.toList:=fun b f e=>qD h.br.b1.own h.br.b2.own XC f (by simpa using e)
 have n3:∀ b,r3.ownBlock=U b->b ∉ r2.ownBlock.toList:=fun b f e=>qD h.br.b3.own h.br.b2.own XC f (by simpa using e)
 have nK:∀ b∈K,b ∉ r2.ownBlock.toList:=fun b f e=>(h.br.kb b f).2.2.1 (by simpa using e)
 have s2:=h.br.b2.snoc hx k (fun b f=>(h.br.kb b f).2.2.1) (fun b f e=>(A b f).2 (by simp[cC,e])) ho;have s1:=(h.br.b1.off k n1 nK).wide (K':=gJ x++K) (fun b f=>List.mem_append_right _ f);have s3:=(h.br.b3.off k n3 nK).wide (K':=gJ x++K) (fun b f=>List.mem_append_right _ f);have kd:aH [B] w' (w'.setCell (B,3) r'):=aH.bD ..
 have xB:∀ b∈gJ x++K,b≠B:=fun b f e=>by
  rcases Yv.1 f with f|f
  .exact (A b f).2 (by simp[cC,e])
  .exact h.bK (e ▸ f)
 have br:BR w' (gJ x++K) r1 r' r3 X1 (X2++[x]) X3:=by
  refine⟨s1,s2,s3,fun b f=>?_⟩;rcases Yv.1 f with f|f
  .refine⟨zL (A b f).1 k.size,fun e=>(A b f).2 (by simp[cC,e]),fun e=>?_,fun e=>(A b f).2 (by simp[cC,e])⟩;rcases D b e with e|e
   .exact (A b f).2 (by simp[cC,e])
   .have:=(A b f).1;omega
  .let⟨q1,q2,q3,q4⟩:=h.br.kb b f;refine⟨zL q1 k.size,q2,fun e=>?_,q4⟩;rcases D b e with e|e
   .exact q3 e
   .omega
 refine⟨⟨by rw[mc C];rfl,br.off kd (fun b f e=>X (by simp at e;exact e ▸ f)) (fun b f e=>aa (by simp at e;exact e ▸ f)) (fun b f e=>S (by simp at e;exact e ▸ f)) (fun b f e=>xB b f (by simpa using e)),fun e=>xB B e rfl⟩,?_⟩;exact (k.mono fun y hy=>by simp at hy;simp[cC,hy]).setCell (.inl (by simp[cC])) _ _
theorem BK.DJ(h:BK w B v0 v1 K r1 r2 r3 X1 X2 X3)(hx:K4 jA w x)(A:∀ b∈gJ x,b<w/\b ∉ cC B r1 r2 r3)(k:aH r3.ownBlock.toList w w')(ho:w'.ownsRow 0 tE 5 r' (X3.length+1) (X3.flatMap gh++gh x))(D:uD w r3 r'):
  BK (w'.setCell (B,4) r') B v0 v1 (gJ x++K) r1 r2 r' X1 X2 (X3++[x])/\aH (cC B r1 r2 r3) w (w'.setCell (B,4) r'):=by
 have I:=(Array.getElem?_eq_some_iff.1 h.hb).1;have X:r1.ownBlock≠U B:=ja h.br.b1.own h.hb XC;have T:r2.ownBlock≠U B:=ja h.br.b2.own h.hb XC;have S:r3.ownBlock≠U B:=ja h.br.b3.own h.hb XC;have C:w'.heap[B]?=U (Yh #[v0,v1,r1,r2,r3] 86):=(k.block B I (by simpa using S)).trans h.hb;have aa:r'.ownBlock≠U B:=ja ho C XC;have n1:∀ b,r1.ownBlock=U b->b ∉ r3.ownBlock.toList:=fun b f e=>qD h.br.b1.own h.br.b3.own XC f (by simpa using e)
 have n2:∀ b,r2.ownBlock=U b->b ∉ r3.ownBlock.toList:=fun b f e=>qD h.br.b2.own h.br.b3.own XC f (by simpa using e)
 have nK:∀ b∈K,b ∉ r3.ownBlock.toList:=fun b f e=>(h.br.kb b f).2.2.2 (by simpa using e)
 have s3:=h.br.b3.snoc hx k (fun b f=>(h.br.kb b f).2.2.2) (fun b f e=>(A b f).2 (by simp[cC,e])) ho;have s1:=(h.br.b1.off k n1 nK).wide (K':=gJ x++K) (fun b f=>List.mem_append_right _ f);have s2:=(h.br.b2.off k n2 nK).wide (K':=gJ x++K) (fun b f=>List.mem_append_right _ f);have kd:aH [B] w' (w'.setCell (B,4) r'):=aH.bD ..
 have xB:∀ b∈gJ x++K,b≠B:=fun b f e=>by
  rcases Yv.1 f with f|f
  .exact (A b f).2 (by simp[cC,e])
  .exact h.bK (e ▸ f)
 have br:BR w' (gJ x++K) r1 r2 r' X1 X2 (X3++[x]):=by
  refine⟨s1,s2,s3,fun b f=>?_⟩;rcases Yv.1 f with f|f
  .refine⟨zL (A b f).1 k.size,fun e=>(A b f).2 (by simp[cC,e]),fun e=>(A b f).2 (by simp[cC,e]),fun e=>?_⟩;rcases D b e with e|e
   .exact (A b f).2 (by simp[cC,e])
   .have:=(A b f).1;omega
  .let⟨q1,q2,q3,q4⟩:=h.br.kb b f;refine⟨zL q1 k.size,q2,q3,fun e=>?_⟩;rcases D b e with e|e
   .exact q4 e
   .omega
 refine⟨⟨by rw[mc C];rfl,br.off kd (fun b f e=>X (by simp at e;exact e ▸ f)) (fun b f e=>T (by simp at e;exact e ▸ f)) (fun b f e=>aa (by simp at e;exact e ▸ f)) (fun b f e=>xB b f (by simpa using e)),fun e=>xB B e rfl⟩,?_⟩;exact (k.mono fun y hy=>by simp at hy;simp[cC,hy]).setCell (.inl (by simp[cC])) _ _
theorem Ch(l:J N)(u v:XZ)(w:XY)(D:NV w u l)(C:NV w v l)(X:l.length<=1000000):
  X4 prog 120 #[u,v] w fun e w'=>e=Yg XX/\X0 w w w':=by
 obtain⟨a,ca,rfl⟩:=D.form;obtain⟨b,cb,rfl⟩:=C.form;have T:=aC D;have S:=aC C;clear D C;have hb:((l.length:N) != (l.length:N))=XW:=XA
 go_in
 go_wp21
 go_loopw [5] (fun v wr=>∃ k:M,k<=l.length/\v=V Y k/\X0 w w wr) (fun v _=>l.length-(intOf v).toNat)
 .exact⟨0,Zd _,rfl,Below.refl _ _⟩
 .obtain⟨k,hk,rfl,y⟩:=hrel;have A:=aC y;clear y
  by_cases h:k<l.length
  .have f:(k:N)<(l.length:N):=O
   let⟨g,cap,e,a0⟩:=(T.later A).cell k h;simp only[Value.slice.injEq,true_and] at e;obtain⟨rfl,rfl⟩:=e;let⟨g2,cap2,e,b0⟩:=(S.later A).cell k h;simp only[Value.slice.injEq,true_and] at e;obtain⟨rfl,rfl⟩:=e;generalize l[k]=x at *
   go_upto_region 6 with fail
   go_big_region
   have I:=aC (A.drew);clear A
   go_wp21
   go_roundw
   .exact⟨k+1,O,by go_num,I⟩
   .simp[intOf];omega
  .have f:¬ (k:N)<(l.length:N):=O
   go_wp21
   go_ret;exact⟨rfl,A⟩
theorem P8(L:J (N × N))(u v:XZ)(w:XY)(I:SV w u L)(D:SV w v L)(hl:L.length<=1000000):
  X4 prog 183 #[u,v] w fun e w'=>e=Yg XX/\X0 w w w':=by
 obtain⟨a,ca,rfl⟩:=I.form;obtain⟨b,cb,rfl⟩:=D.form;have X:=aC I;have T:=aC D;clear I D;have hb:((L.length:N) != (L.length:N))=XW:=XA
 go_in
 go_wp21
 go_loopw [5] (fun v wr=>∃ k:M,k<=L.length/\v=V Y k/\X0 w w wr) (fun v _=>L.length-(intOf v).toNat)
 .exact⟨0,Zd _,rfl,Below.refl _ _⟩
 .obtain⟨k,hk,rfl,A⟩:=hrel;have C:=aC A;clear A
  by_cases h:k<L.length
  .have f:(k:N)<(L.length:N):=O
   let⟨g,cap,e,a0,a1⟩:=(X.later C).cell k h;simp only[Value.slice.injEq,true_and] at e;obtain⟨rfl,rfl⟩:=e;let⟨g2,cap2,e,b0,b1⟩:=(T.later C).cell k h;simp only[Value.slice.injEq,true_and] at e;obtain⟨rfl,rfl⟩:=e;generalize L[k].1=x at *;generalize L[k].2=y at *
   go_upto_region 6 with fail
   go_big_region
   have S:=aC (C.drew);clear C
   go_wp21
   go_roundw
   .exact⟨k+1,O,by go_num,S⟩
   .simp[intOf];omega
  .have f:¬ (k:N)<(L.length:N):=O
   go_wp21
   go_ret;exact⟨rfl,C⟩
theorem lY(h:X0 B w w')(n:M):X0 B w (w'.drewN n):=⟨h.os,h.tape,h.output,h.size,h.block⟩
theorem Qk(l m:J (aO × XZ))(u v:XZ)(w:XY)(hu:EV w u l)(hv:EV w v m)(he:l.map (·.1)=m.map (·.1))(hl:l.length<=1000)(hs:∀ p∈l,p.1.aQ.length<=1000):
  X4 prog 119 #[u,v] w fun e w'=>e=Yg (.bool XX)/\X0 w.heap.size w w':=by
 obtain⟨a,ca,rfl⟩:=hu.form;obtain⟨b,cb,rfl⟩:=hv.form;have T:m.length=l.length:=by have:=congrArg Y4 he;simpa using this.symm
 have AT:Hid (∀ (k:M) (h:k<l.length) (h':k<m.length),m[k].1=l[k].1):=fun k h h'=>by
  have:=congrArg (fun x=>x[k]?) he;simp only[List.getElem?_map,ZV h,ZV h',Option.map_some] at this;exact (ZN this).symm
 have HU:=aC hu;have HV:=aC hv;have HS:=aC hs;rw[T];clear hu hv he hs;have hb:((l.length:N) != (l.length:N))=XW:=XA
 go_in
 go_wp2_with fail
 go_loopw [5,6] (fun v _ wr=>∃ k:M,k<=l.length/\v=V Y k/\X0 w.heap.size w wr) (fun v _ _=>l.length-(intOf v).toNat)
 case atStart=>exact⟨0,Zd _,rfl,Below.refl _ _⟩
 case round =>
  obtain⟨k,hk,rfl,X⟩:=hrel;have I:=aC X;clear X
  by_cases A:k<l.length
  .have S:(k:N)<(l.length:N):=O
   have D:k<m.length:=O
   obtain⟨g,cap,e,a0,a1,a2,a3,a4,a5⟩:=(HU.out.later I.out).cell k A;simp only[Value.slice.injEq,true_and] at e;obtain⟨rfl,rfl⟩:=e;obtain⟨y,ac,e,b0,b1,b2,b3,b4,b5⟩:=(HV.out.later I.out).cell k D;simp only[Value.slice.injEq,true_and] at e;obtain⟨rfl,rfl⟩:=e;have s1:=(HU.out.later I.out).sp l[k] (zg A);have s2:=(HV.out.later I.out).sp m[k] (zg D);rw[AT.out k A D] at b0 b1 b2 b3 b5 s2;have SP:=aC (fun f (q:X0 wr.heap.size wr f)=>P8 l[k].1.aQ l[k].2 m[k].2 f (s1.later q) (s2.later q) (by have:=HS.out l[k] (zg A);omega));obtain⟨f1,f2,e1⟩:=s1.form;obtain⟨f3,f4,e2⟩:=s2.form;rw[e1] at a4 SP;rw[e2] at b4 SP;clear s1 s2 e1 e2;generalize l[k].1=x at *;have n0:(x.id != x.id)=XW:=XA
   have n1:(x.kind != x.kind)=XW:=XA
   have n3:(x.aM != x.aM)=XW:=XA
   have n5:(x.bP != x.bP)=XW:=XA
   have ab:=aC (I.out.drew);have SS:Hid (∀ f,X0 wr.drew.heap.size wr.drew f->f.cell? ⟨g,k*6,XU⟩=U (V Y x.id)/\f.cell? ⟨g,k*6+1,XU⟩=U (V Y x.kind)/\f.cell? ⟨g,k*6+2,XU⟩=U (Ya x.bA)/\f.cell? ⟨g,k*6+3,XU⟩=U (V Y x.aM)/\f.cell? ⟨g,k*6+4,XU⟩=U (X9 f1 x.aQ.length f2)/\f.cell? ⟨g,k*6+5,XU⟩=U (V Y x.bP)/\f.cell? ⟨y,k*6,XU⟩=U (V Y x.id)/\f.cell? ⟨y,k*6+1,XU⟩=U (V Y x.kind)/\f.cell? ⟨y,k*6+2,XU⟩=U (Ya x.bA)/\f.cell? ⟨y,k*6+3,XU⟩=U (V Y x.aM)/\f.cell? ⟨y,k*6+4,XU⟩=U (X9 f3 x.aQ.length f4)/\f.cell? ⟨y,k*6+5,XU⟩=U (V Y x.bP)):=fun f q=>⟨aR q a0,aR q a1,aR q a2,aR q a3,aR q a4,aR q a5,aR q b0,aR q b1,aR q b2,aR q b3,aR q b4,aR q b5⟩
   clear I
   go_upto_region 6 with fail
   go_region_held3 (fun f=>f.cell? ⟨g,k*6,XU⟩=U (V Y x.id)/\f.cell? ⟨g,k*6+1,XU⟩=U (V Y x.kind)/\f.cell? ⟨g,k*6+2,XU⟩=U (Ya x.bA)/\f.cell? ⟨g,k*6+3,XU⟩=U (V Y x.aM)/\f.cell? ⟨g,k*6+4,XU⟩=U (X9 f1 x.aQ.length f2)/\f.cell? ⟨g,k*6+5,XU⟩=U (V Y x.bP)/\f.cell? ⟨y,k*6,XU⟩=U (V Y x.id)/\f.cell? ⟨y,k*6+1,XU⟩=U (V Y x.kind)/\f.cell? ⟨y,k*6+2,XU⟩=U (Ya x.bA)/\f.cell? ⟨y,k*6+3,XU⟩=U (V Y x.aM)/\f.cell? ⟨y,k*6+4,XU⟩=U (X9 f3 x.aQ.length f4)/\f.cell? ⟨y,k*6+5,XU⟩=U (V Y x.bP))
    (first
     |with_reducible exact SS.out _ C.out
     |exact⟨a0,a1,a2,a3,a4,a5,b0,b1,b2,b3,b4,b5⟩)
    (first
     |(go_at_call 183;refine (SP.out _ (dV _)).mono ?_;rintro e w6 ⟨rfl,aa⟩;have C:=aC aa;clear aa))
   have HF:Hid (X0 w.heap.size w w6):=bM ab.out C.out (zq _);obtain⟨c0,c1,c2,c3,c4,c5,d0,d1,d2,d3,d4,d5⟩:=SS.out _ C.out;clear C ab SS SP a0 a1 a2 a3 a4 a5 b0 b1 b2 b3 b4 b5;have n2:(x.bA.toList != x.bA.toList)=XW:=XA
   have ad:(x.bA.toList==x.bA.toList)=XX:=XA
   go_upto_region 7 with fail
   go_quiet (fail)
   go_wp2
   go_roundw
   case rel=>exact⟨k+1,by omega,by go_num,lY HF.out _⟩
   case measure=>simp[intOf];omega
  .have S:¬ (k:N)<(l.length:N):=O
   go_wp2
   go_ret;exact⟨rfl,I.out⟩
variable {w:XY}{B:XP}{v0 v1 r1 r2 r3:XZ}{K:XL XP}{X1 X2 X3:XL KL}
abbrev yy(X1 X2 X3:J KL):N:=-1000-(X1.length:N)-X2.length-X3.length
theorem BV(h:BK w B v0 v1 K r1 r2 r3 X1 X2 X3)(X:X1.length<=1000000000)(T:X2.length<=1000000000)(S:X3.length<=1000000000):
  X4 prog 184 #[X8 (U ⟨B,2,XU⟩)] w fun e w'=>e=Yg (V Y (yy X1 X2 X3))/\X0 w w w':=by
 let⟨_,_,c2,c3,c4,_⟩:=h.cells;obtain⟨⟨a1,A,rfl⟩,⟨a2,y,rfl⟩,a3,f,rfl⟩:=h.lu;have HB:=aC h;clear h;have I:Y.wrap (-1000-(X1.length:N))=-1000-(X1.length:N):=yg O O;have D:Y.wrap (-1000-(X1.length:N)-X2.length)=-1000-(X1.length:N)-X2.length:=yg O O;have C:Y.wrap (-1000-(X1.length:N)-X2.length-X3.length)=-1000-(X1.length:N)-X2.length-X3.length:=yg O O
 go_in
 go_upto_region 1 with fail
 go_quiet (fail)
 go_wp21
 go_ret;exact⟨rfl,lY fo _⟩
variable {w:XY}{B:XP}{v0 v1 r1 r2 r3:XZ}{K:XL XP}{X1 X2 X3:XL KL}
theorem Ou:(prog.info? tI).map (fun i=>(i.zero,i.size,i.bytes))=U (U (.agg #[(),(),(),(),V Y 0]),5,104):=XF
theorem qI{C e:M}{xs:J XZ}(h:W.ownsRow C e z v n xs){k:M}(f:k<xs.length):∃ g cap u,v=X9 (U ⟨g,0,XU⟩) n cap/\W.cell? (g,k)=U u/\∀ o,W.frozen? ⟨g,o,XU⟩=XW:=by
 rcases h.2 with ⟨rfl,rfl⟩|⟨g,cap,A,rfl,_,y,_⟩
 .have:=h.1;rw[Nat.zero_mul] at this;omega
 .exact⟨g,cap,xs[k],rfl,(wb g k) ▸ h.cells (g:=g) rfl k xs[k] (ZV f),fun o=>by simp[Ym,y]⟩
theorem Nc{m:N}{xs:J XZ}{k:M}(h:k<xs.length):(rp (lV m) k++xs.drop k).set k m=rp (lV m) (k+1)++xs.drop (k+1):=by
 have f:(rp (lV m) k).length=k:=by rw[pH];simp
 rw[List.set_append,XR O,f,Nat.sub_self,ZH h,BE,YU];rfl
def sd(w:XY)(B:M)(v0 v1:XZ)(K:J M)(r1 r2 r3:XZ)(l:XZ)(n:M)(w':XY):Prop :=
 ∃ K' y h f D C A,BK w' B v0 v1 K' y h f D C A/\D.length+C.length+A.length=n+1/\aH (l.ownBlock.toList++cC B r1 r2 r3) w w'/\(∀ b∈K',b∈K\/l.ownBlock=U b\/w<=b)/\(∀ b∈cC B y h f,b∈cC B r1 r2 r3\/w<=b)
structure KS(pat:J XZ)(e:X6)(w0 Z:XY)(l:XZ)(n Q:M)(o:Obj):Prop where
 own:Z.ownsRow 0 e pat.length l n (rp pat n)
 hq:Z.heap[Q]?=U o
 lo:w0<=Q
 off:aH l.ownBlock.toList w0 Z
 lt:∀ b,l.ownBlock=U b->b<w0
theorem KS.put{e:X6}{cs:Array XZ}{t:X6}(h:KS pat e w0 Z l n Q (Yh cs t))(k:aH l.ownBlock.toList Z Z')(A:Z'.ownsRow 0 e pat.length l n (rp pat n))(i:M)(v:XZ):KS pat e w0 (Z'.setCell (Q,i) v) l n Q (Yh (cs.setIfInBounds i v) t):=by
 have f:Q ∉ l.ownBlock.toList:=fun e=>by have:=h.lt Q (by simpa using e);have:=h.lo;omega
 have y:aH [Q] Z' (Z'.setCell (Q,i) v):=aH.bD ..;refine⟨cV A y (fun b C e=>f (by simp at e;subst e;simpa using C)),mc ((k.block Q (Array.getElem?_eq_some_iff.1 h.hq).1 f).trans h.hq) v,h.lo,(h.off.trans k).setCell (.inr h.lo) _ _,h.lt⟩
theorem KS.at_{e:X6}{cs:Array XZ}{t:X6}(h:KS pat e w0 Z l n Q (Yh cs t))(k:aH l.ownBlock.toList Z Z'):Z'.heap[Q]?=U (Yh cs t)/\∀ o,Z'.frozen? ⟨Q,o,XU⟩=XW:=by
 have f:Q ∉ l.ownBlock.toList:=fun e=>by have:=h.lt Q (by simpa using e);have:=h.lo;omega
 have e:=(k.block Q (Array.getElem?_eq_some_iff.1 h.hq).1 f).trans h.hq;exact⟨e,fun o=>by simp[Ym,e]⟩
structure KF(pat:J XZ)(e:X6)(w0 Z:XY)(l:XZ)(n Q:M)(o:Obj)(us:J (XZ × M)):Prop where
 ks:KS pat e w0 Z l n Q o
 fs:∀ p∈us,Fu pat Z p.1 p.2/\∀ b,p.1.ownBlock=U b->b≠Q/\b<Z/\(l.ownBlock=U b\/w0<=b)
theorem KF.put{e:X6}{m:M}{cs:Array XZ}{t:X6}{I:J (XZ × M)}(h:KF pat e w0 Z l n Q (Yh cs t) I)(T:Z'.ownsRow 0 e pat.length (X9 g (n+m) cap) (n+m) (rp pat (n+m)))(S:Z'.ownsRow 0 e pat.length l n (rp pat n))(f6:∀ u j,j<=n+m->Fu pat Z u j->Fu pat Z' u j)(X:aH l.ownBlock.toList Z Z')(y:l.ownBlock=U g\/Z<=g)(hj:∀ p∈I,p.2<=n+m)(i:M):
  KF pat e w0 (Z'.setCell (Q,i) (X9 g (n+m) cap)) l n Q (Yh (cs.setIfInBounds i (X9 g (n+m) cap)) t) ((X9 g (n+m) cap,n+m) :: I):=by
 have A:aH [Q] Z' (Z'.setCell (Q,i) (X9 g (n+m) cap)):=aH.bD ..;have hQ:Q<Z:=(Array.getElem?_eq_some_iff.1 h.ks.hq).1;have hz:=h.ks.off.size
 have D:g≠Q/\g<Z'/\(l.ownBlock=U g\/w0<=g):=by
  refine⟨?_,fe T XJ,y.imp id fun e=>by omega⟩;rcases y with e|e
  .have:=h.ks.lt g e;have:=h.ks.lo;omega
  .omega
 refine⟨h.ks.put X S i _,fun p C=>?_⟩;rcases Yu.1 C with rfl|C
 .refine⟨(Fu.jT T).off A (fun b f e=>?_),fun b f=>?_⟩
  .simp[ZB] at f e;exact D.1 (f.trans e)
  .simp[ZB] at f;subst f;exact⟨D.1,Zg D.2.1 A.size,D.2.2⟩
 .let⟨p1,p2⟩:=h.fs p C;exact⟨(f6 _ _ (hj p C) p1).off A (fun b f e=>(p2 b f).1 (by simpa using e)),fun b f=>⟨(p2 b f).1,Zg (zL (p2 b f).2.1 X.size) A.size,(p2 b f).2.2⟩⟩
theorem BK.lt(h:BK w B v0 v1 K r1 r2 r3 X1 X2 X3):∀ b∈cC B r1 r2 r3,b<w:=fun b f=>by
 simp only[cC,Yu,Yv,ZL] at f;rcases f with rfl|f|f|f
 .exact (Array.getElem?_eq_some_iff.1 h.hb).1
 .exact fe h.br.b1.own f
 .exact fe h.br.b2.own f
 .exact fe h.br.b3.own f
theorem KF.blocks{e:X6}{b:XZ}{m:N}(h:KF pat e wr Z3 l n Q o [(c,n+3),(b,n+2),(a,n+1),(l,n)]):∀ q∈gJ (l,a,b,c,m),q<Z3/\(l.ownBlock=U q\/wr<=q):=fun q f=>by
 simp only[gJ,Yv,ZL] at f;rcases f with f|f|f|f
 .exact ((h.fs (l,n) XA).2 q f).2
 .exact ((h.fs (a,n+1) XA).2 q f).2
 .exact ((h.fs (b,n+2) XA).2 q f).2
 .exact ((h.fs (c,n+3) XA).2 q f).2
theorem KF.k4{e:X6}{b:XZ}{m:N}(f:KF (P m) e wr Z3 l n Q o [(c,n+3),(b,n+2),(a,n+1),(l,n)])(h:n<=900000):K4 P Z3 (l,a,b,c,m) :=
 ⟨n,h,(f.fs (l,n) XA).1,(f.fs (a,n+1) XA).1,(f.fs (b,n+2) XA).1,(f.fs (c,n+3) XA).1⟩
theorem BK.kept{b A h f:XZ}{m:N}{e:X6}{T S I:J KL}(hT:KF pat e wr Z3 l n Q o [(c,n+3),(b,n+2),(a,n+1),(l,n)])(R3:aH l.ownBlock.toList w Z3)(hw:w<=wr.heap.size)(hl:T.length+S.length+I.length=X1.length+X2.length+X3.length+1)
  (hr:∀ q∈cC B A h f,q∈cC B r1 r2 r3\/Z3<=q) (X:BK w9 B v0 v1 (gJ (l,a,b,c,m)++K) A h f T S I/\aH (cC B r1 r2 r3) Z3 w9):sd w B v0 v1 K r1 r2 r3 l (X1.length+X2.length+X3.length) w9:=by
 refine⟨_,A,h,f,T,S,I,X.1,hl,(R3.mono fun y D=>List.mem_append_left _ D).trans (X.2.mono fun y D=>List.mem_append_right _ D),fun q C=>?_,fun q C=>(hr q C).imp id fun e=>by have:=R3.size;omega⟩;rcases Yv.1 C with C|C
 .rcases (hT.blocks q C).2 with e|e
  .exact .inr (.inl e)
  .exact .inr (.inr O)
 .exact .inl C
theorem BK.apart{b:XZ}{m:N}{e:X6}(h:BK w B v0 v1 K r1 r2 r3 X1 X2 X3)(A:KF pat e wr Z3 l n Q o [(c,n+3),(b,n+2),(a,n+1),(l,n)])(D:w<=wr.heap.size)(f:∀ b,l.ownBlock=U b->b ∉ K/\b ∉ cC B r1 r2 r3):∀ q∈gJ (l,a,b,c,m),q<Z3/\q ∉ cC B r1 r2 r3:=fun q y=>by
 refine⟨(A.blocks q y).1,fun e=>?_⟩;rcases (A.blocks q y).2 with C|C
 .exact (f q C).2 e
 .have:=h.lt q e;omega
theorem BK.vP{b:XZ}{m:N}{e:X6}(h:BK w B v0 v1 K r1 r2 r3 X1 X2 X3)(X:BK Z3 B v0 v1 K r1 r2 r3 X1 X2 X3)(C:KF (lV m) e wr Z3 l n Q o [(c,n+3),(b,n+2),(a,n+1),(l,n)])(T:n<=900000)(R3:aH l.ownBlock.toList w Z3)(D:w<=wr.heap.size)(A:∀ b,l.ownBlock=U b->b ∉ K/\b ∉ cC B r1 r2 r3)
  (S:aH r1.ownBlock.toList Z3 w9) (I:w9.ownsRow 0 tI 5 r' (X1.length+1) (X1.flatMap gh++gh (l,a,b,c,m))) (y:uD Z3 r1 r'):sd w B v0 v1 K r1 r2 r3 l (X1.length+X2.length+X3.length) (w9.setCell (B,2) r') :=
 BK.kept C R3 D XG (fun q f=>by
  simp only[cC,Yu,Yv,ZL] at f ⊢;rcases f with rfl|f|f|f
  .exact .inl (.inl rfl)
  .exact (y q f).imp (fun e=>.inr (.inl e)) id
  .exact .inl (.inr (.inr (.inl f)))
  .exact .inl (.inr (.inr (.inr f)))) (X.DP (C.k4 (P:=lV) T) (h.apart C D A) S I y)
theorem Qd(h:BK w B v0 v1 K r1 r2 r3 X1 X2 X3)(h1:X1.length<=1000000000)(h2:X2.length<=1000000000)(h3:X3.length<=1000000000){xs:J XZ}(hl:w.ownsRow 0 3 1 l n xs)(hn:n<=900000)(af:∀ b,l.ownBlock=U b->b ∉ K/\b ∉ cC B r1 r2 r3):
  X4 prog 123 #[X8 (U ⟨B,2,XU⟩),l] w fun e w'=>e=Yg (.tuple #[])/\sd w B v0 v1 K r1 r2 r3 l (X1.length+X2.length+X3.length) w':=by
 obtain⟨i0,X,S,I,D⟩:=info_parts pg;obtain⟨j0,av,ar,aq,ao⟩:=info_parts Ou;obtain⟨a,y,rfl⟩:=gj hl;have HB:=aC h;have HL:=aC hl;have HK:=aC af;have bc:=aC (fun b (f:(X9 a n y).ownBlock=U b)=>fe hl f);have a7:xs.length=n:=by have:=hl.1;omega
 clear h hl af
 go_in
 go_upto_region 2 with (first|(go_at_call 184;refine aK (BV HB h1 h2 h3) fun w1 f=>?_;have H1:=aC f;clear f))
 generalize a8:yy X1 X2 X3=m;have ay:=aC (eQ HL H1)
 go_loopw [5] (fun v wr=>∃ k:M,k<=n/\v=V Y k/\wr.ownsRow 0 3 1 (X9 a n y) n (rp (lV m) k++xs.drop k)/\aH (X9 a n y).ownBlock.toList w1 wr) (fun v _=>n-(intOf v).toNat)
 .exact⟨0,Zd _,rfl,by simpa[BG] using ay.out,aH.refl _ _⟩
 .obtain⟨k,hk,rfl,A,T⟩:=hrel;have HO:=aC (Yz A T)
  by_cases a9:k<n
  .have ae:(k:N)<(n:N):=O
   obtain⟨g,cap,u,e,c0,fz⟩:=qI A (k:=k) (by rw[YZ,pH,List.length_drop];simp;omega);simp only[Value.slice.injEq,true_and] at e;obtain⟨rfl,rfl⟩:=e;have f0:=fz k;clear A T
   go_wp21
   go_roundw
   .refine⟨k+1,O,by go_num,?_,HO.2.setCell (.inl XJ) _ _⟩;have:=oR HO.1 (b:=g) rfl k (V Y m);rw[Nc O] at this;exact this
   .simp[intOf];omega
  .have ae:¬ (k:N)<(n:N):=O
   have au:k=n:=O
   subst au
   have HR:Hid (wr.ownsRow 0 3 1 (X9 a k y) k (rp (lV m) k)):=by
    have:=HO.1;rw[ZI O,List.append_nil] at this;exact this
   clear A T
   go_upto_region 6 with fail
   change Code.wp _ _ _ _ (wr.alloc (Yh #[X9 a k y,(),(),(),V Y m] tI))
   have S0:Hid (KS (lV m) 3 wr (wr.alloc (Yh #[X9 a k y,(),(),(),V Y m] tI)) (X9 a k y) k wr (Yh #[X9 a k y,(),(),(),V Y m] tI)) :=
    ⟨HR.alloc _,cP _ _,Yi _,(aH.refl _ _).alloc _,fun b f=>fe HR f⟩
   have T0:Hid (KF (lV m) 3 wr (wr.alloc (Yh #[X9 a k y,(),(),(),V Y m] tI)) (X9 a k y) k wr (Yh #[X9 a k y,(),(),(),V Y m] tI) [(X9 a k y,k)]) :=
    ⟨S0,fun p hp=>by
     rw[List.mem_singleton.1 hp]
     exact⟨Fu.jT S0.own,fun b f=>⟨by have:=S0.lt b f;omega,fe S0.own f,.inl f⟩⟩⟩
   clear S0;generalize wr.alloc (Yh #[X9 a k y,(),(),(),V Y m] tI)=Z0 at T0 ⊢
   go_upto_region 7 with (first|(at_builtin;go_loud (refine qE rfl _ _ 38 rfl (lV m) 8 underlying38 X S I D XC rfl XA XI T0.ks.own (m:=1) (cs:=#[V Y m]) (by simp[rp]) XC XC rfl rfl O (zN _) ?_);intro g6 c6 w6 o6 ad f6 k6 al;have q6:=bG (T0.ks.at_ k6).1 1 rfl;have z6:=(T0.ks.at_ k6).2 1))
   have T1:=aC (T0.put o6 ad f6 k6 al XA 1);generalize w6.setCell (wr,1) (X9 g6 (k+1) c6)=Z1 at T1 ⊢;clear o6 ad f6 k6 al q6 z6 T0
   go_upto_region 8 with (first|(at_builtin;go_loud (refine qE rfl _ _ 38 rfl (lV m) 8 underlying38 X S I D XC rfl XA XI T1.ks.own (m:=2) (cs:=#[V Y m,V Y m]) (by simp[rp]) XC XC rfl rfl O (zN _) ?_);intro g7 c7 w7 o7 ac f7 k7 ak;have q7:=bG (T1.ks.at_ k7).1 2 rfl;have z7:=(T1.ks.at_ k7).2 2))
   have T2:=aC (T1.put o7 ac f7 k7 ak XA 2);generalize w7.setCell (wr,2) (X9 g7 (k+2) c7)=Z2 at T2 ⊢;clear o7 ac f7 k7 ak q7 z7 T1
   go_upto_region 9 with (first|(at_builtin;go_loud (refine qE rfl _ _ 38 rfl (lV m) 8 underlying38 X S I D XC rfl XA XI T2.ks.own (m:=3) (cs:=#[V Y m,V Y m,V Y m]) (by simp[rp]) XC XC rfl rfl O (zN _) ?_);intro g8 c8 w8 o8 ab f8 k8 aj;have q8:=bG (T2.ks.at_ k8).1 3 rfl;have z8:=(T2.ks.at_ k8).2 3))
   have C:=aC (T2.put o8 ab f8 k8 aj XA 3);generalize w8.setCell (wr,3) (X9 g8 (k+3) c8)=Z3 at C ⊢;clear o8 ab f8 k8 aj q8 z8 T2;have R3:aH (X9 a k y).ownBlock.toList w Z3:=(aH.aD H1).trans (HO.2.trans C.ks.off);have an:=aC (fun b (f:b∈(X9 a k y).ownBlock.toList)=>HK b (by simpa using f));have B3:=aC (HB.off R3 (fun b f e=>(an b e).2 f) (fun b f e=>(an b e).1 f));have ax:=aC R3;obtain⟨_,_,d2,_,_,ai⟩:=B3.cells;obtain⟨⟨ra,rc,er⟩,_,_⟩:=B3.lu;subst er;have fB:=ai 2;have s0:=bG C.ks.hq 0 rfl;have s1:=bG C.ks.hq 1 rfl;have s2:=bG C.ks.hq 2 rfl;have s3:=bG C.ks.hq 3 rfl;have s4:=bG C.ks.hq 4 rfl;have ba:∀ o,(Z3.alloc o).cell? (B,2)=U (X9 ra X1.length rc):=fun o=>aR ((zr _ Z3).alloc aI o) d2
   have DD:=aC (fun o=>eQ B3.br.b1.own (((zr _ Z3).alloc aI o).drew));have ag:(X9 ra X1.length rc).ownBlock≠U B:=ja B3.br.b1.own B3.hb XC;clear R3 ai
   go_region_law (first
    |(refine step_append_lies _ rfl _ _ 80 rfl 0 tI j0 _ 5 104 underlying80 av ar aq ao rfl XC (X9 ra X1.length rc) X1.length (X1.flatMap gh) rfl (DD.out _) ⟨Z3.heap.size,0,XU⟩ 1 1 (gh (X9 a k y,X9 (U ⟨g6,0,XU⟩) (k+1) c6,X9 (U ⟨g7,0,XU⟩) (k+2) c7,X9 (U ⟨g8,0,XU⟩) (k+3) c8,m)) rfl rfl (ZF (cs:=(gh (X9 a k y,X9 (U ⟨g6,0,XU⟩) (k+1) c6,X9 (U ⟨g7,0,XU⟩) (k+2) c7,X9 (U ⟨g8,0,XU⟩) (k+3) c8,m)).toArray) (cP Z3 _)) (by simp[gh,ZG]) O XH O (zN _) (Z3.heap.size+1) XA ?_;intro g9 c9 w9 o9 aa aw az;have k9:aH ((X9 ra X1.length rc).ownBlock.toList) Z3 w9:=aH.grown (((aH.refl _ Z3).alloc _).drew) aa (fun k hk=>.inl (by simp[hk]));have d9:=k9.cell (fun e=>ag (by simpa using e)) d2;have f9:=(k9.frozen (fun e=>ag (by simpa using e)) (Yl _ _ d2)).trans fB))
   all_goals
    go_wp21
    (try simp only[Zz,Exit.then]);refine bodyPost_end (results_none rfl _ _ _) rfl ?_
    refine⟨rfl,HB.vP B3 C hn ax (Yk H1.size HO.2.size) HK k9 o9 (fun b f=>by
     simp[ZB] at f;subst f
     exact aw.imp id (fun e=>by omega))⟩
end Go.Proofs.YtfigmlfdnickmaaGreatDoor
