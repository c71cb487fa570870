import Derived.Test.YtfigmlfdnickmaaGreatDoorL09
import Derived.BigQuiet
import Derived.Deep.CutBlock
set_option maxRecDepth 100000
set_option maxHeartbeats 8000000
open Go.Proofs.Tryz
open _root_ renaming ByteArray->U4,List->U5,Option->U6,Nat->U8,Int->U9,if_neg->Va,if_pos->Vb,absurd->Vc
open Option renaming none->Vd,some->Ve,mem_toList->WW
open Bool renaming false->Vf,true->Vg
open Go renaming World->Vh,Value->Vi,Calls->Vk,TypeId->Vm
open Go.RowKit renaming Below->Vj
open List renaming set_append->Z8,drop_eq_getElem_cons->WQ,append_assoc->VZ,mem_cons->VA,mem_append->VB,length_append->V5,drop_eq_nil_of_le->WS,append_nil->X5,mem_singleton->YD,mem_append_left->YB,mem_append_right->YC,mem_flatMap->ZZ,flatMap_cons->Wv,getElem?_append_right->Wz,length_cons->V6,length_nil->Wa,length_eq_zero_iff->V9,take_succ_eq_append_getElem->Wg,getElem?_eq_some_iff->ZS,length_set->WE,mem_cons_of_mem->WV,mem_cons_self->Ye,getElem?_append_left->Wt,map_append->Wr,getElem?_map->Ys,getElem?_eq_getElem->Xb,range->XT,any_eq_true->XI
open Nat renaming sub_self->Zs,add_sub_cancel_left->WB,zero_le->Wh,le_refl->Vn,le_trans->Vq
open Go.Value renaming slice->Ze,oneCell'->WN,ownBlock->WI,int->V4,pointer->VG,string->Y0
open Go.Code renaming wp->Za
open Go.Value.slice renaming injEq->Yr
open Option.some renaming injEq->Z6
open Go.Addr.mk renaming injEq->Z7
open Go.World renaming news_of_block->WM,block_lt_of_cell?->Vr,ownsRow_nil->WK,frozen?->Vs,cell?->VL
open Go.Exit renaming inBlock->WG
open Array renaming getElem?_eq_some_iff->Y9
open ByteArray renaming empty->YN
open Go.Addr renaming add->ZR
open Go.IntKind renaming i64->Vp
open Int renaming add_zero->YK
variable{held:Bool}{ft kw name tt ut:U4}{F:U5 U8}{xs:U5 Go.Value}{N Q b c i n p t z:U8}{spare:U8->Bool}{aM:U8->U6 Go.Proofs.YtfigmlfdnickmaaGreatDoor.aW}{o:Go.Obj}{s:Go.Proofs.YtfigmlfdnickmaaGreatDoor.aA.St}{a r' u v:Go.Value}{W Z3 w w' w9 wr:Go.World}
namespace Go.Proofs.YtfigmlfdnickmaaGreatDoor
open Go.RowKit
variable {w:Vh}{B:U8}{v0 v1 r1 r2 r3:Vi}{K:U5 U8}{X1 X2 X3:U5 KL}
theorem MW:(prog.info? tS).map (fun i=>(i.zero,i.size,i.bytes))=Ve (Ve (.agg #[.slice Vd 0 0,.slice Vd 0 0,.slice Vd 0 0,.slice Vd 0 0,.int .i64 0]),5,104):=UZ
theorem KC{m:U9}{k:U8}(h:k*2+1<xs.length):((rp (kf m) k++xs.drop (k*2)).set (k*2) (.int .i64 m)).set (k*2+1) (.int .i64 m)=rp (kf m) (k+1)++xs.drop ((k+1)*2):=by
 have f:(rp (kf m) k).length=k*2:=by rw[oq];simp
 have j:(k+1)*2=k*2+1+1:=UU
 rw[Z8,Va UU,Z8,Va UU,f,Zs,WB,WQ UU,WQ h,zT,VZ,j];rfl
theorem BK.fZ{l b c:Vi}{m:U9}{e:Vm}(h:BK w B v0 v1 K r1 r2 r3 X1 X2 X3)(H:BK Z3 B v0 v1 K r1 r2 r3 X1 X2 X3)(x:KF (kf m) e wr Z3 l n Q o [(c,n+3),(b,n+2),(a,n+1),(l,n)])(E:n<=900000)(I:aF l.ownBlock.toList w Z3)(y:w.heap.size<=wr.heap.size)(r:∀ b,l.ownBlock=Ve b->b ∉ K/\b ∉ bM B r1 r2 r3)
  (C:aF r2.ownBlock.toList Z3 w9) (A:w9.ownsRow 0 tS 5 r' (X2.length+1) (X2.flatMap fu++fu (l,a,b,c,m))) (j:s7 Z3 r2 r'):qo w B v0 v1 K r1 r2 r3 l (X1.length+X2.length+X3.length) (w9.setCell ⟨B,3,Vd⟩ r') :=
 BK.kept x I y U0 (fun q f=>by
  simp only[bM,VA,VB,WW] at f ⊢;rcases f with rfl|f|f|f
  ·exact .inl (.inl rfl)
  ·exact .inl (.inr (.inl f))
  ·exact (j q f).imp (fun e=>.inr (.inr (.inl e))) id
  ·exact .inl (.inr (.inr (.inr f)))) (H.BM (x.k4 (P:=kf) E) (h.apart x y r) C A j)
theorem Ns(h:BK w B v0 v1 K r1 r2 r3 X1 X2 X3)(h1:X1.length<=1000000000)(h2:X2.length<=1000000000)(h3:X3.length<=1000000000){l:Vi}(hl:w.ownsRow 0 60 2 l n xs)(hn:n<=900000)(ab:∀ b,l.ownBlock=Ve b->b ∉ K/\b ∉ bM B r1 r2 r3):
  Vk prog 121 #[.pointer (Ve ⟨B,2,Vd⟩),l] w fun e w'=>e=.returned (.tuple #[])/\qo w B v0 v1 K r1 r2 r3 l (X1.length+X2.length+X3.length) w':=by
 obtain⟨i0,J,I,H,E⟩:=info_parts vj;obtain⟨j0,ao,al,ak,aj⟩:=info_parts MW;obtain⟨a,j,rfl⟩:=gC hl;have HB:=aC h;have HL:=aC hl;have HK:=aC ab;have au:=aC (fun b (f:(Ze a n j).ownBlock=Ve b)=>eV hl f);have ay:xs.length=n*2:=hl.1;clear h hl ab
 go_in
 go_upto_region 3 with (first|(go_at_call 184;refine (Ai HB.out h1 h2 h3).mono ?_;rintro e w1 ⟨rfl,f⟩;have H1:=aC f;clear f))
 generalize az:wH X1 X2 X3=m;change Za _ _ _ _ (w1.alloc (.cells #[.int .i64 m,.int .i64 m] 60));have HW:=aC (bA H1.out ((zr _ w1).alloc (zq _) (.cells #[.int .i64 m,.int .i64 m] 60)) (zq _));have hS:w1.heap.size ∉ (Ze a n j).ownBlock.toList:=fun e=>by have:=au.out _ (by simpa using e);have:=H1.out.size;omega
 have T:Hid (∀ Z,aF (Ze a n j).ownBlock.toList (w1.alloc (.cells #[.int .i64 m,.int .i64 m] 60)) Z->Z.cell? ⟨w1.heap.size,0,Vd⟩=Ve (.int .i64 m)/\Z.cell? ⟨w1.heap.size,1,Vd⟩=Ve (.int .i64 m)):=fun Z k=>⟨k.cell hS (aZ (cC w1 _) 0 rfl),k.cell hS (aZ (cC w1 _) 1 rfl)⟩
 clear hS;generalize w1.alloc (.cells #[.int .i64 m,.int .i64 m] 60)=W1 at HW T ⊢;generalize w1.heap.size=S at T ⊢;have av:=aC (eu HL.out HW.out)
 go_loopw [6] (fun v wr=>∃ k:U8,k<=n/\v=.int .i64 k/\wr.ownsRow 0 60 2 (.slice a n j) n (rp (kf m) k++xs.drop (k*2))/\aF (Ze a n j).ownBlock.toList W1 wr) (fun v _=>n-(intOf v).toNat)
 case atStart=>exact⟨0,Wh _,rfl,by simpa[zU] using av.out,aF.refl _ _⟩
 case round =>
  obtain⟨k,hk,rfl,q,r⟩:=hrel;have x:=aC (zA q r)
  by_cases a3:k<n
  ·have aa:(k:U9)<(n:U9):=UU
   obtain⟨C,A⟩:=T.out _ r;obtain⟨g,cap,u,e,c0,fz⟩:=pv q (k:=k*2) (by rw[V5,oq,List.length_drop];simp;omega);obtain⟨g',ax,u',e',c1,_⟩:=pv q (k:=k*2+1) (by rw[V5,oq,List.length_drop];simp;omega);rw[e] at e';simp only[Yr,Z6,Z7,and_true,true_and] at e';obtain⟨rfl,rfl⟩:=e';simp only[Yr,true_and] at e;obtain⟨rfl,rfl⟩:=e;have f0:=fz (k*2);have f1:=fz (k*2+1);clear q r
   go_wp2
   go_roundw
   case rel =>
    refine⟨k+1,by omega,by go_num,?_,(x.out.2.setCell (.inl U3) _ _).setCell (.inl U3) _ _⟩;have:=nN (nN x.out.1 (b:=g) rfl (k*2) (.int .i64 m)) (b:=g) rfl (k*2+1) (.int .i64 m);rw[KC UU] at this;exact this
   case measure=>simp[intOf];omega
  ·have aa:¬ (k:U9)<(n:U9):=UU
   have an:k=n:=UU
   subst an
   have HR:Hid (wr.ownsRow 0 60 2 (.slice a k j) k (rp (kf m) k)):=by
    have:=x.out.1;rw[WS UU,X5] at this;exact this
   clear q r;obtain⟨C,A⟩:=T.out _ x.out.2
   go_upto_region 7 with fail
   change Za _ _ _ _ (wr.alloc (.cells #[.slice a k j,.slice Vd 0 0,.slice Vd 0 0,.slice Vd 0 0,.int .i64 m] tS))
   have S0:Hid (KS (kf m) 60 wr (wr.alloc (.cells #[.slice a k j,.slice Vd 0 0,.slice Vd 0 0,.slice Vd 0 0,.int .i64 m] tS)) (.slice a k j) k wr.heap.size (.cells #[.slice a k j,.slice Vd 0 0,.slice Vd 0 0,.slice Vd 0 0,.int .i64 m] tS)) :=
    ⟨HR.out.alloc _,cC _ _,Vn _,(aF.refl _ _).alloc _,fun b f=>eV HR.out f⟩
   have R:Hid (KF (kf m) 60 wr (wr.alloc (.cells #[.slice a k j,.slice Vd 0 0,.slice Vd 0 0,.slice Vd 0 0,.int .i64 m] tS)) (.slice a k j) k wr.heap.size (.cells #[.slice a k j,.slice Vd 0 0,.slice Vd 0 0,.slice Vd 0 0,.int .i64 m] tS) [(.slice a k j,k)]) :=
    ⟨S0.out,fun p hp=>by
     rw[YD.1 hp]
     exact⟨Fu.jh S0.out.own,fun b f=>⟨by have:=S0.out.lt b f;omega,eV S0.out.own f,.inl f⟩⟩⟩
   clear S0;generalize wr.alloc (.cells #[.slice a k j,.slice Vd 0 0,.slice Vd 0 0,.slice Vd 0 0,.int .i64 m] tS)=Z0 at R ⊢;obtain⟨C,A⟩:=T.out _ (x.out.2.trans R.out.ks.off)
   go_upto_region 8 with (first|(at_builtin;go_loud (refine pt rfl _ _ 56 rfl (kf m) 16 underlying56 J I H E UW rfl UV U2 R.out.ks.own (m:=1) (cs:=#[.int .i64 m,.int .i64 m]) (by simp[rp]) UW UW rfl rfl UU (zN _) ?_);intro g6 c6 w6 o6 Y f6 k6 ag;have q6:=aZ (R.out.ks.at_ k6).1 1 rfl;have z6:=(R.out.ks.at_ k6).2 1))
   have P:=aC (R.out.put o6 Y f6 k6 ag UV 1);generalize w6.setCell ⟨wr.heap.size,1,Vd⟩ (.slice (Ve ⟨g6,0,Vd⟩) (k+1) c6)=Z1 at P ⊢;clear C A o6 Y f6 k6 ag q6 z6 R;obtain⟨C,A⟩:=T.out _ (x.out.2.trans P.out.ks.off)
   go_upto_region 9 with (first|(at_builtin;go_loud (refine pt rfl _ _ 56 rfl (kf m) 16 underlying56 J I H E UW rfl UV U2 P.out.ks.own (m:=2) (cs:=#[.int .i64 m,.int .i64 m,.int .i64 m,.int .i64 m]) (by simp[rp]) UW UW rfl rfl UU (zN _) ?_);intro g7 c7 w7 o7 X f7 k7 af;have q7:=aZ (P.out.ks.at_ k7).1 2 rfl;have z7:=(P.out.ks.at_ k7).2 2))
   have O:=aC (P.out.put o7 X f7 k7 af UV 2);generalize w7.setCell ⟨wr.heap.size,2,Vd⟩ (.slice (Ve ⟨g7,0,Vd⟩) (k+2) c7)=Z2 at O ⊢;clear C A o7 X f7 k7 af q7 z7 P;obtain⟨C,A⟩:=T.out _ (x.out.2.trans O.out.ks.off)
   go_upto_region 10 with (first|(at_builtin;go_loud (refine pt rfl _ _ 56 rfl (kf m) 16 underlying56 J I H E UW rfl UV U2 O.out.ks.own (m:=3) (cs:=#[.int .i64 m,.int .i64 m,.int .i64 m,.int .i64 m,.int .i64 m,.int .i64 m]) (by simp[rp]) UW UW rfl rfl UU (zN _) ?_);intro g8 c8 w8 o8 V f8 k8 ae;have q8:=aZ (O.out.ks.at_ k8).1 3 rfl;have z8:=(O.out.ks.at_ k8).2 3))
   have y:=aC (O.out.put o8 V f8 k8 ae UV 3);generalize w8.setCell ⟨wr.heap.size,3,Vd⟩ (.slice (Ve ⟨g8,0,Vd⟩) (k+3) c8)=Z3 at y ⊢;clear C A o8 V f8 k8 ae q8 z8 O;have R3:aF (Ze a k j).ownBlock.toList w Z3:=(aF.aD HW.out).trans (x.out.2.trans y.out.ks.off);have ai:=aC (fun b (f:b∈(Ze a k j).ownBlock.toList)=>HK.out b (by simpa using f));have U:=aC (HB.out.off R3 (fun b f e=>(ai.out b e).2 f) (fun b f e=>(ai.out b e).1 f));have ar:=aC R3;obtain⟨_,_,_,d2,_,ad⟩:=U.out.cells;obtain⟨_,⟨ra,rc,er⟩,_⟩:=U.out.ke;subst er;have fB:=ad 3;have s0:=aZ y.out.ks.hq 0 rfl;have s1:=aZ y.out.ks.hq 1 rfl;have s2:=aZ y.out.ks.hq 2 rfl;have s3:=aZ y.out.ks.hq 3 rfl;have s4:=aZ y.out.ks.hq 4 rfl;have a4:∀ o,(Z3.alloc o).cell? ⟨B,3,Vd⟩=Ve (.slice ra X2.length rc):=fun o=>aN ((zr _ Z3).alloc (zq _) o) d2
   have DD:=aC (fun o=>eu U.out.br.b2.own (((zr _ Z3).alloc (zq _) o).drew));have ac:(Ze ra X2.length rc).ownBlock≠Ve B:=iu U.out.br.b2.own U.out.hb UW;clear R3 ad
   go_region_law (first
    |(refine step_append_lies _ rfl _ _ 81 rfl 0 tS j0 _ 5 104 underlying81 ao al ak aj rfl UW (.slice ra X2.length rc) X2.length (X2.flatMap fu) rfl (DD.out _) ⟨Z3.heap.size,0,Vd⟩ 1 1 (fu (.slice a k j,.slice (Ve ⟨g6,0,Vd⟩) (k+1) c6,.slice (Ve ⟨g7,0,Vd⟩) (k+2) c7,.slice (Ve ⟨g8,0,Vd⟩) (k+3) c8,m)) rfl rfl (WM (cs:=(fu (.slice a k j,.slice (Ve ⟨g6,0,Vd⟩) (k+1) c6,.slice (Ve ⟨g7,0,Vd⟩) (k+2) c7,.slice (Ve ⟨g8,0,Vd⟩) (k+3) c8,m)).toArray) (cC Z3 _)) (by simp[fu,WN]) UU U1 UU (zN _) (Z3.heap.size+1) UV ?_;intro g9 c9 w9 o9 M aq aw;have k9:aF ((Ze ra X2.length rc).ownBlock.toList) Z3 w9:=aF.grown (((aF.refl _ Z3).alloc _).drew) M (fun k hk=>.inl (by simp[hk]));have d9:=k9.cell (fun e=>ac (by simpa using e)) d2;have f9:=(k9.frozen (fun e=>ac (by simpa using e)) (Vr _ _ d2)).trans fB))
   all_goals
    go_wp2_with fail
    (try simp only[WG,Exit.then]);refine bodyPost_end (results_none rfl _ _ _) rfl ?_
    refine⟨rfl,HB.out.fZ U.out y.out hn ar.out (Vq HW.out.size x.out.2.size) HK.out k9 o9 (fun b f=>by
     simp[WI] at f;subst f
     exact aq.imp id (fun e=>by omega))⟩
variable {w:Vh}{B:U8}{v0 v1 r1 r2 r3:Vi}{K:U5 U8}{X1 X2 X3:U5 KL}
theorem Nn:(prog.info? tE).map (fun i=>(i.zero,i.size,i.bytes))=Ve (Ve (.agg #[.slice Vd 0 0,.slice Vd 0 0,.slice Vd 0 0,.slice Vd 0 0,.int .i64 0]),5,104):=UZ
theorem MV:(prog.info? 58).map (fun i=>(i.zero,i.size,i.bytes))=Ve (Ve (.agg #[.int .i64 0,.int .i64 0,.string ⟨#[]⟩,.int .i64 0,.slice Vd 0 0,.int .i64 0]),6,72):=UZ
theorem KD{m:U9}{k:U8}(j:k*6+5<xs.length):((((((rp (iP m) k++xs.drop (k*6)).set (k*6) (.int .i64 m)).set (k*6+1) (.int .i64 0)).set (k*6+2) (.string ⟨#[]⟩)).set (k*6+3) (.int .i64 m)).set (k*6+4) (.slice Vd 0 0)).set (k*6+5) (.int .i64 0)=rp (iP m) (k+1)++xs.drop ((k+1)*6):=by
 have f:(rp (iP m) k).length=k*6:=by rw[oq];simp
 have h:(k+1)*6=k*6+1+1+1+1+1+1:=UU
 rw[WQ (show k*6<xs.length by omega),WQ (show k*6+1<xs.length by omega),WQ (show k*6+1+1<xs.length by omega),WQ (show k*6+1+1+1<xs.length by omega),WQ (show k*6+1+1+1+1<xs.length by omega),WQ (show k*6+1+1+1+1+1<xs.length by omega),zT,VZ,h];generalize rp (iP m) k=A at *
 subst_vars
 simp only[<- f,Z8,Nat.lt_irrefl,if_false,Zs,Nat.not_lt_of_le (Nat.le_add_right _ _),WB];rfl
theorem BK.uv{l b c:Vi}{m:U9}{e:Vm}(h:BK w B v0 v1 K r1 r2 r3 X1 X2 X3)(H:BK Z3 B v0 v1 K r1 r2 r3 X1 X2 X3)(x:KF (iP m) e wr Z3 l n Q o [(c,n+3),(b,n+2),(a,n+1),(l,n)])(E:n<=900000)(I:aF l.ownBlock.toList w Z3)(y:w.heap.size<=wr.heap.size)(r:∀ b,l.ownBlock=Ve b->b ∉ K/\b ∉ bM B r1 r2 r3)
  (C:aF r3.ownBlock.toList Z3 w9) (A:w9.ownsRow 0 tE 5 r' (X3.length+1) (X3.flatMap fu++fu (l,a,b,c,m))) (j:s7 Z3 r3 r'):qo w B v0 v1 K r1 r2 r3 l (X1.length+X2.length+X3.length) (w9.setCell ⟨B,4,Vd⟩ r') :=
 BK.kept x I y U0 (fun q f=>by
  simp only[bM,VA,VB,WW] at f ⊢;rcases f with rfl|f|f|f
  ·exact .inl (.inl rfl)
  ·exact .inl (.inr (.inl f))
  ·exact .inl (.inr (.inr (.inl f)))
  ·exact (j q f).imp (fun e=>.inr (.inr (.inr e))) id) (H.BL (x.k4 (P:=iP) E) (h.apart x y r) C A j)
theorem Nz(h:BK w B v0 v1 K r1 r2 r3 X1 X2 X3)(h1:X1.length<=1000000000)(h2:X2.length<=1000000000)(h3:X3.length<=1000000000){l:Vi}(hl:w.ownsRow 0 58 6 l n xs)(hn:n<=900000)(ae:∀ b,l.ownBlock=Ve b->b ∉ K/\b ∉ bM B r1 r2 r3):
  Vk prog 122 #[.pointer (Ve ⟨B,2,Vd⟩),l] w fun e w'=>e=.returned (.tuple #[])/\qo w B v0 v1 K r1 r2 r3 l (X1.length+X2.length+X3.length) w':=by
 obtain⟨i0,U,T,R,P⟩:=info_parts MV;obtain⟨j0,au,aq,ao,an⟩:=info_parts Nn;obtain⟨a,r,rfl⟩:=gC hl;have HB:=aC h;have HL:=aC hl;have HK:=aC ae;have ax:=aC (fun b (j:(Ze a n r).ownBlock=Ve b)=>eV hl j);have a4:xs.length=n*6:=hl.1;clear h hl ae
 go_in
 go_upto_region 3 with (first|(go_at_call 184;refine (Ai HB.out h1 h2 h3).mono ?_;rintro e w1 ⟨rfl,j⟩;have H1:=aC j;clear j))
 generalize a5:wH X1 X2 X3=m;change Za _ _ _ _ (w1.alloc (.cells #[.int .i64 m,.int .i64 0,.string ⟨#[]⟩,.int .i64 m,.slice Vd 0 0,.int .i64 0] 58));have HW:=aC (bA H1.out ((zr _ w1).alloc (zq _) (.cells #[.int .i64 m,.int .i64 0,.string ⟨#[]⟩,.int .i64 m,.slice Vd 0 0,.int .i64 0] 58)) (zq _));have X:w1.heap.size ∉ (Ze a n r).ownBlock.toList:=fun e=>by have:=ax.out _ (by simpa using e);have:=H1.out.size;omega
 have BX:Hid (∀ Z,aF (Ze a n r).ownBlock.toList (w1.alloc (.cells #[.int .i64 m,.int .i64 0,.string ⟨#[]⟩,.int .i64 m,.slice Vd 0 0,.int .i64 0] 58)) Z->Z.cell? ⟨w1.heap.size,0,Vd⟩=Ve (.int .i64 m)/\Z.cell? ⟨w1.heap.size,1,Vd⟩=Ve (.int .i64 0)/\Z.cell? ⟨w1.heap.size,2,Vd⟩=Ve (.string ⟨#[]⟩)/\Z.cell? ⟨w1.heap.size,3,Vd⟩=Ve (.int .i64 m)/\Z.cell? ⟨w1.heap.size,4,Vd⟩=Ve (.slice Vd 0 0)/\Z.cell? ⟨w1.heap.size,5,Vd⟩=Ve (.int .i64 0)):=fun Z k=>⟨k.cell X (aZ (cC w1 _) 0 rfl),k.cell X (aZ (cC w1 _) 1 rfl),k.cell X (aZ (cC w1 _) 2 rfl),k.cell X (aZ (cC w1 _) 3 rfl),k.cell X (aZ (cC w1 _) 4 rfl),k.cell X (aZ (cC w1 _) 5 rfl)⟩
 clear X;generalize w1.alloc (.cells #[.int .i64 m,.int .i64 0,.string ⟨#[]⟩,.int .i64 m,.slice Vd 0 0,.int .i64 0] 58)=W1 at HW BX ⊢;generalize w1.heap.size=S at BX ⊢;have ay:=aC (eu HL.out HW.out)
 go_loopw [6] (fun v wr=>∃ k:U8,k<=n/\v=.int .i64 k/\wr.ownsRow 0 58 6 (.slice a n r) n (rp (iP m) k++xs.drop (k*6))/\aF (Ze a n r).ownBlock.toList W1 wr) (fun v _=>n-(intOf v).toNat)
 case atStart=>exact⟨0,Wh _,rfl,by simpa[zU] using ay.out,aF.refl _ _⟩
 case round =>
  obtain⟨k,hk,rfl,f,y⟩:=hrel;have A:=aC (zA f y)
  by_cases a6:k<n
  ·have ad:(k:U9)<(n:U9):=UU
   obtain⟨O,M,J,I,H,E⟩:=BX.out _ y;have a3:(rp (iP m) k++xs.drop (k*6)).length=n*6:=by rw[V5,oq,List.length_drop];simp;omega
   obtain⟨g,cap,u,e,c0,fz⟩:=pv f (k:=k*6) UU;obtain⟨g',x,u1,q,c1,_⟩:=pv f (k:=k*6+1) UU;rw[e] at q;simp only[Yr,Z6,Z7,and_true,true_and] at q;obtain⟨rfl,rfl⟩:=q;obtain⟨g',x,u2,q,c2,_⟩:=pv f (k:=k*6+2) UU;rw[e] at q;simp only[Yr,Z6,Z7,and_true,true_and] at q;obtain⟨rfl,rfl⟩:=q;obtain⟨g',x,u3,q,c3,_⟩:=pv f (k:=k*6+3) UU;rw[e] at q;simp only[Yr,Z6,Z7,and_true,true_and] at q;obtain⟨rfl,rfl⟩:=q;obtain⟨g',x,u4,q,c4,_⟩:=pv f (k:=k*6+4) UU;rw[e] at q;simp only[Yr,Z6,Z7,and_true,true_and] at q;obtain⟨rfl,rfl⟩:=q;obtain⟨g',x,u5,q,c5,_⟩:=pv f (k:=k*6+5) UU;rw[e] at q;simp only[Yr,Z6,Z7,and_true,true_and] at q;obtain⟨rfl,rfl⟩:=q;simp only[Yr,true_and] at e;obtain⟨rfl,rfl⟩:=e;have f0:=fz (k*6);have f1:=fz (k*6+1);have f2:=fz (k*6+2);have f3:=fz (k*6+3);have f4:=fz (k*6+4);have f5:=fz (k*6+5);clear f y
   go_wp2
   go_roundw
   case rel =>
    refine⟨k+1,by omega,by go_num,?_,(((((A.out.2.setCell (.inl U3) _ _).setCell (.inl U3) _ _).setCell (.inl U3) _ _).setCell (.inl U3) _ _).setCell (.inl U3) _ _).setCell (.inl U3) _ _⟩;have:=(nN (nN (nN (nN (nN (nN A.out.1 (b:=g) rfl (k*6) (.int .i64 m)) (b:=g) rfl (k*6+1) (.int .i64 0)) (b:=g) rfl (k*6+2) (.string ⟨#[]⟩)) (b:=g) rfl (k*6+3) (.int .i64 m)) (b:=g) rfl (k*6+4) (.slice Vd 0 0)) (b:=g) rfl (k*6+5) (.int .i64 0));rw[KD UU] at this;exact this
   case measure=>simp[intOf];omega
  ·have ad:¬ (k:U9)<(n:U9):=UU
   have ar:k=n:=UU
   subst ar
   have HR:Hid (wr.ownsRow 0 58 6 (.slice a k r) k (rp (iP m) k)):=by
    have:=A.out.1;rw[WS UU,X5] at this;exact this
   clear f y;obtain⟨O,M,J,I,H,E⟩:=BX.out _ A.out.2
   go_upto_region 7 with fail
   change Za _ _ _ _ (wr.alloc (.cells #[.slice a k r,.slice Vd 0 0,.slice Vd 0 0,.slice Vd 0 0,.int .i64 m] tE))
   have S0:Hid (KS (iP m) 58 wr (wr.alloc (.cells #[.slice a k r,.slice Vd 0 0,.slice Vd 0 0,.slice Vd 0 0,.int .i64 m] tE)) (.slice a k r) k wr.heap.size (.cells #[.slice a k r,.slice Vd 0 0,.slice Vd 0 0,.slice Vd 0 0,.int .i64 m] tE)) :=
    ⟨HR.out.alloc _,cC _ _,Vn _,(aF.refl _ _).alloc _,fun b j=>eV HR.out j⟩
   have T0:Hid (KF (iP m) 58 wr (wr.alloc (.cells #[.slice a k r,.slice Vd 0 0,.slice Vd 0 0,.slice Vd 0 0,.int .i64 m] tE)) (.slice a k r) k wr.heap.size (.cells #[.slice a k r,.slice Vd 0 0,.slice Vd 0 0,.slice Vd 0 0,.int .i64 m] tE) [(.slice a k r,k)]) :=
    ⟨S0.out,fun p hp=>by
     rw[YD.1 hp]
     exact⟨Fu.jh S0.out.own,fun b j=>⟨by have:=S0.out.lt b j;omega,eV S0.out.own j,.inl j⟩⟩⟩
   clear S0;generalize wr.alloc (.cells #[.slice a k r,.slice Vd 0 0,.slice Vd 0 0,.slice Vd 0 0,.int .i64 m] tE)=Z0 at T0 ⊢;obtain⟨O,M,J,I,H,E⟩:=BX.out _ (A.out.2.trans T0.out.ks.off)
   go_upto_region 8 with (first|(at_builtin;go_loud (refine pt rfl _ _ 34 rfl (iP m) 72 underlying34 U T R P UW rfl UV U2 T0.out.ks.own (m:=1) (cs:=#[.int .i64 m,.int .i64 0,.string ⟨#[]⟩,.int .i64 m,.slice Vd 0 0,.int .i64 0]) (by simp[rp]) UW UW rfl rfl UU (zN _) ?_);intro g6 c6 w6 o6 ac f6 k6 ak;have q6:=aZ (T0.out.ks.at_ k6).1 1 rfl;have z6:=(T0.out.ks.at_ k6).2 1))
   have T1:=aC (T0.out.put o6 ac f6 k6 ak UV 1);generalize w6.setCell ⟨wr.heap.size,1,Vd⟩ (.slice (Ve ⟨g6,0,Vd⟩) (k+1) c6)=Z1 at T1 ⊢;clear O M J I H E o6 ac f6 k6 ak q6 z6 T0;obtain⟨O,M,J,I,H,E⟩:=BX.out _ (A.out.2.trans T1.out.ks.off)
   go_upto_region 9 with (first|(at_builtin;go_loud (refine pt rfl _ _ 34 rfl (iP m) 72 underlying34 U T R P UW rfl UV U2 T1.out.ks.own (m:=2) (cs:=#[.int .i64 m,.int .i64 0,.string ⟨#[]⟩,.int .i64 m,.slice Vd 0 0,.int .i64 0,.int .i64 m,.int .i64 0,.string ⟨#[]⟩,.int .i64 m,.slice Vd 0 0,.int .i64 0]) (by simp[rp]) UW UW rfl rfl UU (zN _) ?_);intro g7 c7 w7 o7 ab f7 k7 aj;have q7:=aZ (T1.out.ks.at_ k7).1 2 rfl;have z7:=(T1.out.ks.at_ k7).2 2))
   have Y:=aC (T1.out.put o7 ab f7 k7 aj UV 2);generalize w7.setCell ⟨wr.heap.size,2,Vd⟩ (.slice (Ve ⟨g7,0,Vd⟩) (k+2) c7)=Z2 at Y ⊢;clear O M J I H E o7 ab f7 k7 aj q7 z7 T1;obtain⟨O,M,J,I,H,E⟩:=BX.out _ (A.out.2.trans Y.out.ks.off)
   go_upto_region 10 with (first|(at_builtin;go_loud (refine pt rfl _ _ 34 rfl (iP m) 72 underlying34 U T R P UW rfl UV U2 Y.out.ks.own (m:=3) (cs:=#[.int .i64 m,.int .i64 0,.string ⟨#[]⟩,.int .i64 m,.slice Vd 0 0,.int .i64 0,.int .i64 m,.int .i64 0,.string ⟨#[]⟩,.int .i64 m,.slice Vd 0 0,.int .i64 0,.int .i64 m,.int .i64 0,.string ⟨#[]⟩,.int .i64 m,.slice Vd 0 0,.int .i64 0]) (by simp[rp]) UW UW rfl rfl UU (zN _) ?_);intro g8 c8 w8 o8 aa f8 k8 ai;have q8:=aZ (Y.out.ks.at_ k8).1 3 rfl;have z8:=(Y.out.ks.at_ k8).2 3))
   have C:=aC (Y.out.put o8 aa f8 k8 ai UV 3);generalize w8.setCell ⟨wr.heap.size,3,Vd⟩ (.slice (Ve ⟨g8,0,Vd⟩) (k+3) c8)=Z3 at C ⊢;clear O M J I H E o8 aa f8 k8 ai q8 z8 Y;have R3:aF (Ze a k r).ownBlock.toList w Z3:=(aF.aD HW.out).trans (A.out.2.trans C.out.ks.off);have al:=aC (fun b (j:b∈(Ze a k r).ownBlock.toList)=>HK.out b (by simpa using j));have B3:=aC (HB.out.off R3 (fun b j e=>(al.out b e).2 j) (fun b j e=>(al.out b e).1 j));have aw:=aC R3;obtain⟨_,_,_,_,d2,ag⟩:=B3.out.cells;obtain⟨_,_,ra,rc,er⟩:=B3.out.ke;subst er;have fB:=ag 4;have s0:=aZ C.out.ks.hq 0 rfl;have s1:=aZ C.out.ks.hq 1 rfl;have s2:=aZ C.out.ks.hq 2 rfl;have s3:=aZ C.out.ks.hq 3 rfl;have s4:=aZ C.out.ks.hq 4 rfl;have a7:∀ o,(Z3.alloc o).cell? ⟨B,4,Vd⟩=Ve (.slice ra X3.length rc):=fun o=>aN ((zr _ Z3).alloc (zq _) o) d2
   have DD:=aC (fun o=>eu B3.out.br.b3.own (((zr _ Z3).alloc (zq _) o).drew));have af:(Ze ra X3.length rc).ownBlock≠Ve B:=iu B3.out.br.b3.own B3.out.hb UW;clear R3 ag
   go_region_law (first
    |(refine step_append_lies _ rfl _ _ 82 rfl 0 tE j0 _ 5 104 underlying82 au aq ao an rfl UW (.slice ra X3.length rc) X3.length (X3.flatMap fu) rfl (DD.out _) ⟨Z3.heap.size,0,Vd⟩ 1 1 (fu (.slice a k r,.slice (Ve ⟨g6,0,Vd⟩) (k+1) c6,.slice (Ve ⟨g7,0,Vd⟩) (k+2) c7,.slice (Ve ⟨g8,0,Vd⟩) (k+3) c8,m)) rfl rfl (WM (cs:=(fu (.slice a k r,.slice (Ve ⟨g6,0,Vd⟩) (k+1) c6,.slice (Ve ⟨g7,0,Vd⟩) (k+2) c7,.slice (Ve ⟨g8,0,Vd⟩) (k+3) c8,m)).toArray) (cC Z3 _)) (by simp[fu,WN]) UU U1 UU (zN _) (Z3.heap.size+1) UV ?_;intro g9 c9 w9 o9 V av az;have k9:aF ((Ze ra X3.length rc).ownBlock.toList) Z3 w9:=aF.grown (((aF.refl _ Z3).alloc _).drew) V (fun k hk=>.inl (by simp[hk]));have d9:=k9.cell (fun e=>af (by simpa using e)) d2;have f9:=(k9.frozen (fun e=>af (by simpa using e)) (Vr _ _ d2)).trans fB))
   all_goals
    go_wp2_with fail
    (try simp only[WG,Exit.then]);refine bodyPost_end (results_none rfl _ _ _) rfl ?_
    refine⟨rfl,HB.out.uv B3.out C.out hn aw.out (Vq HW.out.size A.out.2.size) HK.out k9 o9 (fun b j=>by
     simp[WI] at j;subst j
     exact av.imp id (fun e=>by omega))⟩
open aA (aL)
variable {w w1 w2:Vh}{B:U8}{v0 v1 r1 r2 r3 q1 q2 q3:Vi}{K K1 L:U5 U8}{X1 X2 X3 Y1 Y2 Y3:U5 KL}{m:U8}
structure jR(w:Vh)(B:U8)(v0 v1:Vi)(K:U5 U8)(r1 r2 r3:Vi)(L:U5 U8)(m:U8)(w1:Vh)(K1:U5 U8)(q1 q2 q3:Vi)(Y1 Y2 Y3:U5 KL):Prop where
 bk:BK w1 B v0 v1 K1 q1 q2 q3 Y1 Y2 Y3
 len:Y1.length+Y2.length+Y3.length=m
 off:aF (L++bM B r1 r2 r3) w w1
 kk:∀ b∈K1,b∈K\/b∈L\/w.heap.size<=b
 rr:∀ b∈bM B q1 q2 q3,b∈bM B r1 r2 r3\/w.heap.size<=b
theorem jR.refl(h:BK w B v0 v1 K r1 r2 r3 X1 X2 X3):jR w B v0 v1 K r1 r2 r3 [] (X1.length+X2.length+X3.length) w K r1 r2 r3 X1 X2 X3:=⟨h,rfl,aF.refl _ _,fun _ f=>.inl f,fun _ f=>.inl f⟩
theorem jR.step(h:jR w B v0 v1 K r1 r2 r3 L m w1 K1 q1 q2 q3 Y1 Y2 Y3){l:Vi}(k:qo w1 B v0 v1 K1 q1 q2 q3 l (Y1.length+Y2.length+Y3.length) w2):∃ E r q j C A Z3,jR w B v0 v1 K r1 r2 r3 (L++l.ownBlock.toList) (m+1) w2 E r q j C A Z3:=by
 obtain⟨E,r,q,j,C,A,Z3,O,M,J,I,H⟩:=k;have P:=h.off.size;refine⟨E,r,q,j,C,A,Z3,O,by rw[M,h.len],?_,fun b y=>?_,fun b y=>?_⟩
 ·refine (h.off.mono fun x f=>?_).trans' J fun x f=>?_
  ·rcases VB.1 f with f|f
   ·exact YB _ (YB _ f)
   ·exact YC _ f
  ·rcases VB.1 f with f|f
   ·exact .inl (YB _ (YC _ f))
   ·exact (h.rr x f).imp (fun e=>YC _ e) id
 ·rcases I b y with e|e|e
  ·rcases h.kk b e with e|e|e
   ·exact .inl e
   ·exact .inr (.inl (YB _ e))
   ·exact .inr (.inr e)
  ·exact .inr (.inl (YC _ (by simpa using e)))
  ·exact .inr (.inr UU)
 ·rcases H b y with e|e
  ·exact h.rr b e
  ·exact .inr UU
theorem jR.free(h:jR w B v0 v1 K r1 r2 r3 L m w1 K1 q1 q2 q3 Y1 Y2 Y3){l:Vi}(f:∀ b,l.ownBlock=Ve b->b<w.heap.size/\b ∉ K/\b ∉ bM B r1 r2 r3/\b ∉ L):∀ b,l.ownBlock=Ve b->b ∉ K1/\b ∉ bM B q1 q2 q3:=fun b j=>by
 obtain⟨y,x,r,q⟩:=f b j;refine⟨fun e=>?_,fun e=>?_⟩
 ·rcases h.kk b e with e|e|e
  ·exact x e
  ·exact q e
  ·omega
 ·rcases h.rr b e with e|e
  ·exact r e
  ·omega
theorem jR.own(h:jR w B v0 v1 K r1 r2 r3 L m w1 K1 q1 q2 q3 Y1 Y2 Y3){l:Vi}(q:w.ownsRow 0 t z l n xs)(f:∀ b,l.ownBlock=Ve b->b<w.heap.size/\b ∉ K/\b ∉ bM B r1 r2 r3/\b ∉ L):w1.ownsRow 0 t z l n xs :=
 dO q h.off fun b j e=>by
  rcases VB.1 e with e|e
  ·exact (f b j).2.2.2 e
  ·exact (f b j).2.2.1 e
theorem jR.rF(h:jR w B v0 v1 K r1 r2 r3 L m w1 K1 q1 q2 q3 Y1 Y2 Y3)(f:m<=1000000000):Y1.length<=1000000000/\Y2.length<=1000000000/\Y3.length<=1000000000:=by
 have:=h.len;omega
structure hU(w:Vh)(K:U5 U8)(N:U5 U8)(u1 u2 u3 u4:Vi)(l:U5 (aL × Vi))(d g e:U5 U9):Prop where
 en:w.ownsRow 0 58 6 u1 l.length (l.flatMap ef)
 sp:∀ p∈l,w.ownsRow 0 60 2 p.2 p.1.aK.length (p.1.aK.flatMap fC)
 da:w.ownsRow 0 3 1 u2 d.length (d.map (V4 .i64))
 gr:w.ownsRow 0 3 1 u3 g.length (g.map (V4 .i64))
 ed:w.ownsRow 0 3 1 u4 e.length (e.map (V4 .i64))
 pw:l.Pairwise fun p q=>∀ b,p.2.ownBlock=Ve b->q.2.ownBlock≠Ve b
 dg:∀ b,u2.ownBlock=Ve b->u3.ownBlock≠Ve b/\u4.ownBlock≠Ve b
 ge:∀ b,u3.ownBlock=Ve b->u4.ownBlock≠Ve b
 no:∀ b,(u1.ownBlock=Ve b\/u2.ownBlock=Ve b\/u3.ownBlock=Ve b\/u4.ownBlock=Ve b\/∃ p∈l,p.2.ownBlock=Ve b)->b ∉ K/\b ∉ N
def je(l:U5 (aL × Vi)):U5 U8:=l.flatMap fun p=>p.2.ownBlock.toList
def jB(u1 u2 u3 u4:Vi)(l:U5 (aL × Vi)):U5 U8:=je l++u1.ownBlock.toList++u2.ownBlock.toList++u3.ownBlock.toList++u4.ownBlock.toList
theorem uU{l:U5 (aL × Vi)}(h:b∈je l):∃ p∈l,p.2.ownBlock=Ve b:=by
 obtain⟨p,f,j⟩:=ZZ.1 h;exact⟨p,f,by simpa using j⟩
theorem Lc{l:U5 (aL × Vi)}{k:U8}(f:k<l.length):(l.flatMap ef)[k*6+4]?=Ve (l[k]).2:=by
 induction l generalizing k with
 |nil=>simp at f
 |cons a r ih =>
  cases k with
  |zero=>simp[ef]
  |succ k =>
   have:=ih (k:=k) (by simpa using f);rw[Wv,Wz (by simp[ef];omega)];simp only[ef,V6,Wa,List.getElem_cons_succ];rw[<- this]
   congr 1
   omega
section
variable {u1 u2 u3 u4:Vi}{l:U5 (aL × Vi)}{d g e:U5 U9}
theorem hU.JJ(h:hU w K (bM B r1 r2 r3) u1 u2 u3 u4 l d g e){k:U8}(r:k<l.length):∀ b,(l[k]).2.ownBlock=Ve b->b<w.heap.size/\b ∉ K/\b ∉ bM B r1 r2 r3/\b ∉ je (l.take k):=fun b j=>by
 have q:=zg r;obtain⟨y,x⟩:=h.no b (.inr (.inr (.inr (.inr ⟨_,q,j⟩))));refine⟨eV (h.sp _ q) j,y,x,fun A=>?_⟩;obtain⟨p,C,f⟩:=uU A;obtain⟨i,E,rfl⟩:=List.mem_iff_getElem.1 C;rw[List.length_take] at E;rw[List.getElem_take] at f;exact List.pairwise_iff_getElem.1 h.pw i k UU r UU b f j
theorem hU.D7(h:hU w K (bM B r1 r2 r3) u1 u2 u3 u4 l d g e):∀ b,u1.ownBlock=Ve b->b<w.heap.size/\b ∉ K/\b ∉ bM B r1 r2 r3/\b ∉ je l:=fun b j=>by
 obtain⟨r,q⟩:=h.no b (.inl j);refine⟨eV h.en j,r,q,fun x=>?_⟩;obtain⟨p,y,f⟩:=uU x;exact pq h.en (h.sp p y) UW j f
theorem hU.yP(h:hU w K (bM B r1 r2 r3) u1 u2 u3 u4 l d g e)(q:w.ownsRow 0 3 1 u n xs)(r:u.ownBlock=Ve b):b ∉ je l++u1.ownBlock.toList:=fun f=>by
 rcases VB.1 f with f|f
 ·obtain⟨p,x,j⟩:=uU f;exact pq q (h.sp p x) UW r j
 ·exact pq q h.en UW r (by simpa using f)
theorem hU.Nw(h:hU w K (bM B r1 r2 r3) u1 u2 u3 u4 l d g e):∀ b,u2.ownBlock=Ve b->b<w.heap.size/\b ∉ K/\b ∉ bM B r1 r2 r3/\b ∉ je l++u1.ownBlock.toList:=fun b f=>by
 obtain⟨q,j⟩:=h.no b (.inr (.inl f));exact⟨eV h.da f,q,j,h.yP h.da f⟩
theorem hU.Kn(h:hU w K (bM B r1 r2 r3) u1 u2 u3 u4 l d g e):∀ b,u3.ownBlock=Ve b->b<w.heap.size/\b ∉ K/\b ∉ bM B r1 r2 r3/\b ∉ je l++u1.ownBlock.toList++u2.ownBlock.toList:=fun b j=>by
 obtain⟨r,q⟩:=h.no b (.inr (.inr (.inl j)));refine⟨eV h.gr j,r,q,fun f=>?_⟩;rcases VB.1 f with f|f
 ·exact h.yP h.gr j f
 ·exact (h.dg b (by simpa using f)).1 j
theorem hU.M7(h:hU w K (bM B r1 r2 r3) u1 u2 u3 u4 l d g e):∀ b,u4.ownBlock=Ve b->b<w.heap.size/\b ∉ K/\b ∉ bM B r1 r2 r3/\b ∉ je l++u1.ownBlock.toList++u2.ownBlock.toList++u3.ownBlock.toList:=fun b j=>by
 obtain⟨r,q⟩:=h.no b (.inr (.inr (.inr (.inl j))));refine⟨eV h.ed j,r,q,fun f=>?_⟩;rcases VB.1 f with f|f
 ·rcases VB.1 f with f|f
  ·exact h.yP h.ed j f
  ·exact (h.dg b (by simpa using f)).2 j
 ·exact h.ge b (by simpa using f) j
theorem hU.later(h:hU w K L u1 u2 u3 u4 l d g e)(k:Vj w.heap.size w w1):hU w1 K L u1 u2 u3 u4 l d g e :=
 ⟨eu h.en k,fun p f=>eu (h.sp p f) k,eu h.da k,eu h.gr k,eu h.ed k,h.pw,h.dg,h.ge,h.no⟩
theorem hU.lt(h:hU w K L u1 u2 u3 u4 l d g e):∀ b∈jB u1 u2 u3 u4 l,b<w.heap.size:=fun b f=>by
 simp only[jB,VB,WW] at f;rcases f with (((f|f)|f)|f)|f
 ·obtain⟨p,q,j⟩:=uU f;exact eV (h.sp p q) j
 ·exact eV h.en f
 ·exact eV h.da f
 ·exact eV h.gr f
 ·exact eV h.ed f
theorem rO{q:U8}(h:W.ownsRow q t z v n xs){k:U8}(f:xs[k]?=Ve u):∃ g cap,v=.slice (Ve ⟨g,0,Vd⟩) n cap/\W.cell? ⟨g,k,Vd⟩=Ve u:=by
 rcases h.2 with ⟨rfl,rfl⟩|⟨g,cap,j,rfl,_,r,_⟩
 ·have:=h.1;rw[Nat.zero_mul,V9] at this;simp[this] at f
 ·exact⟨g,cap,rfl,(uE g k) ▸ h.cells (g:=g) rfl k u f⟩
theorem LL{l:U5 (aL × Vi)}{k:U8}(f:k<l.length):je (l.take (k+1))=je (l.take k)++(l[k]).2.ownBlock.toList:=by
 unfold je;rw[Wg f,List.flatMap_append];simp
theorem DM{l:U5 (aL × Vi)}{k:U8}(h:b∈je (l.take k)):b∈je l:=by
 obtain⟨p,f,j⟩:=ZZ.1 h;exact ZZ.2 ⟨p,List.mem_of_mem_take f,j⟩
def ir(f at_ n:U9)(u1 u2 u3 u4:Vi):Obj:=.cells #[.int .i64 f,.int .i64 at_,.int .i64 n,u1,u2,u3,u4] 40 (0,0)
theorem jR.box(h:jR w B v0 v1 K r1 r2 r3 L m w1 K1 q1 q2 q3 Y1 Y2 Y3)(f:w.heap[Q]?=Ve o)(j:Q ∉ L)(q:Q ∉ bM B r1 r2 r3):w1.heap[Q]?=Ve o :=
 (h.off.block Q (Y9.1 f).1 (fun e=>by
  rcases VB.1 e with e|e
  ·exact j e
  ·exact q e)).trans f
theorem jR.down{X:Vh}(k:Vj w.heap.size w X)(h:jR X B v0 v1 K r1 r2 r3 L m w1 K1 q1 q2 q3 Y1 Y2 Y3):jR w B v0 v1 K r1 r2 r3 L m w1 K1 q1 q2 q3 Y1 Y2 Y3 :=
 ⟨h.bk,h.len,(aF.aD k).trans h.off,fun b f=>(h.kk b f).imp id (Or.imp id fun e=>Vq k.size e),fun b f=>(h.rr b f).imp id fun e=>Vq k.size e⟩
def iE(X:Vh)(B:U8)(v0 v1:Vi)(K:U5 U8)(r1 r2 r3:Vi)(L:U5 U8)(m:U8)(wr:Vh):Prop:=∃ x j h f r q Z3,jR X B v0 v1 K r1 r2 r3 L m wr x j h f r q Z3
theorem iE.ints(h:iE w B v0 v1 K r1 r2 r3 L m w1)(A:m<=1000000000)(x:w.ownsRow 0 3 1 u n xs)(y:n<=900000)(f:∀ b,u.ownBlock=Ve b->b<w.heap.size/\b ∉ K/\b ∉ bM B r1 r2 r3/\b ∉ L):
  Vk prog 123 #[.pointer (Ve ⟨B,2,Vd⟩),u] w1 fun e w'=>e=.returned (.tuple #[])/\iE w B v0 v1 K r1 r2 r3 (L++u.ownBlock.toList) (m+1) w':=by
 obtain⟨K1,q1,q2,q3,Y1,Y2,Y3,k⟩:=h;obtain⟨r,q,j⟩:=k.rF A;refine (Np k.bk r q j (k.own x f) y (k.free f)).mono ?_;rintro e w2 ⟨rfl,C⟩;exact⟨rfl,k.step C⟩
theorem iE.aK(h:iE w B v0 v1 K r1 r2 r3 L m w1)(A:m<=1000000000)(x:w.ownsRow 0 60 2 u n xs)(y:n<=900000)(f:∀ b,u.ownBlock=Ve b->b<w.heap.size/\b ∉ K/\b ∉ bM B r1 r2 r3/\b ∉ L):
  Vk prog 121 #[.pointer (Ve ⟨B,2,Vd⟩),u] w1 fun e w'=>e=.returned (.tuple #[])/\iE w B v0 v1 K r1 r2 r3 (L++u.ownBlock.toList) (m+1) w':=by
 obtain⟨K1,q1,q2,q3,Y1,Y2,Y3,k⟩:=h;obtain⟨r,q,j⟩:=k.rF A;refine (Ns k.bk r q j (k.own x f) y (k.free f)).mono ?_;rintro e w2 ⟨rfl,C⟩;exact⟨rfl,k.step C⟩
theorem iE.entries(h:iE w B v0 v1 K r1 r2 r3 L m w1)(A:m<=1000000000)(x:w.ownsRow 0 58 6 u n xs)(y:n<=900000)(f:∀ b,u.ownBlock=Ve b->b<w.heap.size/\b ∉ K/\b ∉ bM B r1 r2 r3/\b ∉ L):
  Vk prog 122 #[.pointer (Ve ⟨B,2,Vd⟩),u] w1 fun e w'=>e=.returned (.tuple #[])/\iE w B v0 v1 K r1 r2 r3 (L++u.ownBlock.toList) (m+1) w':=by
 obtain⟨K1,q1,q2,q3,Y1,Y2,Y3,k⟩:=h;obtain⟨r,q,j⟩:=k.rF A;refine (Nz k.bk r q j (k.own x f) y (k.free f)).mono ?_;rintro e w2 ⟨rfl,C⟩;exact⟨rfl,k.step C⟩
theorem LN(h:BK w B v0 v1 K r1 r2 r3 X1 X2 X3)(hm:X1.length+X2.length+X3.length+l.length+4<=1000000000)(P:hU w K (bM B r1 r2 r3) u1 u2 u3 u4 l d g e)(hl:l.length<=1000)(hs:∀ p∈l,p.1.aK.length<=900000)(hd:d.length<=900000)(hg:g.length<=900000)(he:e.length<=900000)(O at_ n:U9):
  Vk prog 77 #[.pointer (Ve ⟨B,2,Vd⟩),bC O at_ n u1 u2 u3 u4] w fun x w'=>x=.returned (.tuple #[])/\iE w B v0 v1 K r1 r2 r3 (jB u1 u2 u3 u4 l) (X1.length+X2.length+X3.length+l.length+4) w':=by
 have kW:Vj w.heap.size w (w.alloc (ir O at_ n u1 u2 u3 u4)):=(zr _ _).alloc (zq _) _;have hQ:=cC w (ir O at_ n u1 u2 u3 u4);obtain⟨j,f,rfl⟩:=gC P.en;obtain⟨y,r,rfl⟩:=gC P.da;obtain⟨C,A,rfl⟩:=gC P.gr;obtain⟨I,H,rfl⟩:=gC P.ed;have E:=aC (P.later kW);have HS:=aC (zA hs (zA hd (zA hg he)))
 have BX:Hid (∀ S,(∀ b∈S,b∈jB (.slice j l.length f) (.slice y d.length r) (.slice C g.length A) (.slice I e.length H) l)->∀ T W,iE (w.alloc (ir O at_ n (.slice j l.length f) (.slice y d.length r) (.slice C g.length A) (.slice I e.length H))) B v0 v1 K r1 r2 r3 S T W->W.cell? ⟨w.heap.size,3,Vd⟩=Ve (.slice j l.length f)/\W.cell? ⟨w.heap.size,4,Vd⟩=Ve (.slice y d.length r)/\W.cell? ⟨w.heap.size,5,Vd⟩=Ve (.slice C g.length A)/\W.cell? ⟨w.heap.size,6,Vd⟩=Ve (.slice I e.length H)):=fun S hL T W k=>by
  obtain⟨K1,q1,q2,q3,Y1,Y2,Y3,k⟩:=k;have q:=k.box hQ (fun Z=>by have:=P.lt _ (hL _ Z);omega) (fun Z=>by have:=h.lt _ Z;omega);exact⟨aZ q 3 rfl,aZ q 4 rfl,aZ q 5 rfl,aZ q 6 rfl⟩
 have G0:Hid (iE (w.alloc (ir O at_ n (.slice j l.length f) (.slice y d.length r) (.slice C g.length A) (.slice I e.length H))) B v0 v1 K r1 r2 r3 [] (X1.length+X2.length+X3.length) (w.alloc (ir O at_ n (.slice j l.length f) (.slice y d.length r) (.slice C g.length A) (.slice I e.length H)))):=⟨_,_,_,_,_,_,_,jR.refl (h.later kW)⟩;have DN:Hid (∀ S T W,iE (w.alloc (ir O at_ n (.slice j l.length f) (.slice y d.length r) (.slice C g.length A) (.slice I e.length H))) B v0 v1 K r1 r2 r3 S T W->iE w B v0 v1 K r1 r2 r3 S T W):=fun S T W ⟨K1,q1,q2,q3,Y1,Y2,Y3,k⟩=>⟨K1,q1,q2,q3,Y1,Y2,Y3,k.down kW⟩
 clear kW hQ h P hs hd hg he;simp only[bC]
 go_in
 go_upto_region 1 with fail
 change Za _ _ _ _ (w.alloc (ir O at_ n (.slice j l.length f) (.slice y d.length r) (.slice C g.length A) (.slice I e.length H)));generalize w.alloc (ir O at_ n (.slice j l.length f) (.slice y d.length r) (.slice C g.length A) (.slice I e.length H))=X at E BX G0 DN ⊢;generalize hM:X1.length+X2.length+X3.length=M at *
 have ac:Hid (∀ k,∀ b∈je (l.take k),b∈jB (.slice j l.length f) (.slice y d.length r) (.slice C g.length A) (.slice I e.length H) l):=fun k b q=>by
  simp only[jB,VB];exact .inl (.inl (.inl (.inl (DM q))))
 go_wp2_with fail
 go_loopw [4] (fun v wr=>∃ k:U8,k<=l.length/\v=.int .i64 k/\iE X B v0 v1 K r1 r2 r3 (je (l.take k)) (M+k) wr) (fun v _=>l.length-(intOf v).toNat)
 case atStart=>exact⟨0,Wh _,rfl,by simpa[je] using G0.out⟩
 case round =>
  obtain⟨k,hk,rfl,R⟩:=hrel;have HK:=aC R;obtain⟨x3,_,_,_⟩:=BX.out _ (ac.out k) _ _ R;clear R
  by_cases J:k<l.length
  ·have aa:(k:U9)<(l.length:U9):=UU
   have SP:=aC (iE.aK HK.out UU (E.out.sp _ (zg J)) (HS.out.1 _ (zg J)) (E.out.JJ J))
   have EC:∃ g cap,(Ze j l.length f)=.slice (Ve ⟨g,0,Vd⟩) l.length cap/\wr.cell? ⟨g,k*6+4,Vd⟩=Ve (l[k]).2:=by
    obtain⟨K1,q1,q2,q3,Y1,Y2,Y3,kk⟩:=HK.out
    exact rO (kk.own E.out.en fun b q=>by
     obtain⟨y1,y2,y3,y4⟩:=E.out.D7 b q
     exact⟨y1,y2,y3,fun Z=>y4 (DM Z)⟩) (Lc J)
   obtain⟨g0,ad,e0,y4⟩:=EC;simp only[Yr,true_and] at e0;obtain⟨rfl,rfl⟩:=e0
   go_wp2_with (first
    |(go_at_call 121;refine SP.out.mono ?_;rintro e w1 ⟨rfl,h1⟩;have H1:=aC h1;clear h1))
   go_roundw
   case rel=>exact⟨k+1,by omega,by go_num,by rw[LL J,<- Nat.add_assoc];exact H1.out⟩
   case measure=>simp[intOf];omega
  ·have aa:¬ (k:U9)<(l.length:U9):=UU
   have ab:k=l.length:=UU
   subst ab;rw[List.take_length] at HK;have Y:Hid (∀ b∈je l++(Ze j l.length f).ownBlock.toList,b∈jB (.slice j l.length f) (.slice y d.length r) (.slice C g.length A) (.slice I e.length H) l):=fun b q=>by unfold jB;exact YB _ (YB _ (YB _ q))
   have V:Hid (∀ b∈je l++(Ze j l.length f).ownBlock.toList++(Ze y d.length r).ownBlock.toList,b∈jB (.slice j l.length f) (.slice y d.length r) (.slice C g.length A) (.slice I e.length H) l):=fun b q=>by unfold jB;exact YB _ (YB _ q)
   have U:Hid (∀ b∈je l++(Ze j l.length f).ownBlock.toList++(Ze y d.length r).ownBlock.toList++(Ze C g.length A).ownBlock.toList,b∈jB (.slice j l.length f) (.slice y d.length r) (.slice C g.length A) (.slice I e.length H) l):=fun b q=>by unfold jB;exact YB _ q
   have C1:=aC (iE.entries HK.out UU E.out.en UU E.out.D7)
   go_upto_region 6 with (first|(go_at_call 122;refine C1.out.mono ?_;rintro e1 w1 ⟨rfl,h1⟩;have H1:=aC h1;clear h1))
   obtain⟨_,x4,_,_⟩:=BX.out _ Y.out _ _ H1.out;have C2:=aC (iE.ints H1.out UU E.out.da HS.out.2.1 E.out.Nw);clear x3 C1
   go_upto_region 7 with (first|(go_at_call 123;refine C2.out.mono ?_;rintro e1 w2 ⟨rfl,h2⟩;have H2:=aC h2;clear h2))
   obtain⟨_,_,x5,_⟩:=BX.out _ V.out _ _ H2.out;have C3:=aC (iE.ints H2.out UU E.out.gr HS.out.2.2.1 E.out.Kn);clear x4 C2
   go_upto_region 8 with (first|(go_at_call 123;refine C3.out.mono ?_;rintro e1 w3 ⟨rfl,h3⟩;have H3:=aC h3;clear h3))
   obtain⟨_,_,_,x6⟩:=BX.out _ U.out _ _ H3.out;have C4:=aC (iE.ints H3.out UU E.out.ed HS.out.2.2.2 E.out.M7);clear x5 C3
   go_wp2_with (first|(go_at_call 123;refine C4.out.mono ?_;rintro e1 w4 ⟨rfl,h4⟩;have H4:=aC h4;clear h4))
   (try simp only[WG,Exit.then]);refine bodyPost_end (results_none rfl _ _ _) rfl ?_
   exact⟨rfl,by rw[hM];exact DN.out _ _ _ H4.out⟩
end
open aA (aL St bO Inv)
inductive Tg
 |no|pr (i:U8)|dc (i:U8)|xs|ys|bk|kp
structure Dk where
 p:U8
 d:U8
 s:St
 r:Raw
 aM:U8->U6 aW
 dd:U8
 xs:U5 (aL × U8 × U8)
 F:U5 U8
structure wC(w:Vh)(tg:U8->Tg)(i:U8)(k:Dk):Prop where
 bd:BD w k.p k.d k.s k.r k.aM
 dd:DD w k.dd k.s k.xs k.F
 pp:tg k.p=.pr i
 pc:∀ b c,k.aM b=Ve c->tg b=.pr i
 df:∀ b∈k.F,tg b=.dc i
 ds:∀ x∈k.xs,tg x.2.1=.dc i
structure mA(w:Vh)(tg:U8->Tg)(D:U5 Dk):Prop where
 at_:∀ (i:U8) (k:Dk),D[i]?=Ve k->wC w tg i k
 env:Env w
 lt:∀ b,tg b≠.no->b<w.heap.size
 gl:∀ b,b<10->tg b=.no
variable {w w1 w2 w':Vh}{tg tg':U8->Tg}{i:U8}{k:Dk}{D:U5 Dk}{G:U5 U8}
theorem aF.oe(h:aF G w w')(q:10<=w.heap.size)(j:∀ b∈G,10<=b):Vj 10 w w':=⟨h.os,h.tape,h.output,h.size,fun b r=>h.block b UU fun f=>by have:=j b f;omega⟩
theorem BD.off{d:U8}{r:Raw}(h:BD w p d s r aM)(k:aF G w w')(j:∀ b∈G,aM b=Vd/\b≠p)(q:Env w'):BD w' p d s r aM :=
 ⟨(k.block p (Y9.1 h.pc).1 fun f=>(j p f).2 rfl).trans h.pc,h.pn,⟨h.ds.dk.off k fun x f=>(j x f).1,h.ds.of,h.ds.wl,h.ds.hl,h.ds.inv⟩,q,h.gl⟩
theorem wC.off(h:wC w tg i k)(y:aF G w w')(q:∀ b∈G,tg b≠.pr i/\tg b≠.dc i)(C:Env w')(ht:∀ b,tg b≠.no->tg' b=tg b):wC w' tg' i k:=by
 have e:∀ {b t},tg b=t->t≠.no->tg' b=t:=fun A H=>(ht _ (by rw[A];exact H)).trans A
 refine⟨h.bd.off y (fun b f=>⟨?_,fun eb=>(q b f).1 (eb ▸ h.pp)⟩) C,h.dd.off y (fun x j r=>(q x r).2 (h.df x j)) (fun x j r=>(q _ r).2 (h.ds x j)),e h.pp UV,fun b c f=>e (h.pc b c f) UV,fun b f=>e (h.df b f) UV,fun x j=>e (h.ds x j) UV⟩
 cases E:k.aM b with
 |none=>rfl
 |some c=>exact ((q b f).1 (h.pc b c E)).elim
theorem mA.off(h:mA w tg D)(j:aF G w w')(r:∀ b∈G,(∀ i,tg b≠.pr i/\tg b≠.dc i)/\10<=b)(ht:∀ b,tg b≠.no->tg' b=tg b)(x:∀ b,tg' b≠.no->b<w'.heap.size)(A:∀ b,b<10->tg' b=.no):mA w' tg' D:=by
 have q:Env w':=h.env.oe (j.oe h.env.size fun b f=>(r b f).2);exact⟨fun i k y=>(h.at_ i k y).off j (fun b f=>(r b f).1 i) q ht,q,x,A⟩
theorem mA.later(h:mA w tg D)(k:Vj w.heap.size w w'):mA w' tg D :=
 h.off (G:=[]) (aF.aD k) UV (fun _ _=>rfl) (fun b f=>zL (h.lt b f) k.size) h.gl
theorem mA.doc(h:mA w tg D)(E:D[i]?=Ve k){q:St × bO}(P:lT w k.p k.d k.aM q v w1):DD w1 k.dd k.s k.xs k.F:=by
 obtain⟨r',A,I,st,_⟩:=P;obtain⟨G,C,H⟩:=st.off;have K:=h.at_ i k E
 have f:∀ b,tg b=.dc i->b ∉ G:=fun b y j=>by
  rcases H b j with ⟨c,r,_⟩|⟨_,r⟩
  ·have:=K.pc b c r;rw[y] at this;cases this
  ·have:=h.lt b (by rw[y];simp);omega
 exact K.dd.off C (fun x j=>f x (K.df x j)) (fun x j=>f _ (K.ds x j))
open Classical in
theorem mA.both(h:mA w tg D)(hi:D[i]?=Ve k){q:St × bO}{e:Ending}(P:lT w k.p k.d k.aM q v w1)(Q:oO w1 k.dd k.F k.xs q e w2):
  ∃ (k':Dk) (tg':U8->Tg),mA w2 tg' (D.set i k')/\k'.p=k.p/\k'.dd=k.dd/\k'.s=q.1/\(∀ b,tg b≠.no->tg' b=tg b)/\(∀ b,tg' b≠.no->tg b≠.no\/w.heap.size<=b)/\(∃ G,aF G w w2/\∀ b∈G,tg b=.pr i\/tg b=.dc i\/w.heap.size<=b)/\∃ (u1 u2 u3 u4:Vi) (l:U5 (aL × Vi)),v=bC q.2.err q.2.at_ q.2.n u1 u2 u3 u4/\l.map (·.1)=q.2.entries/\hU w2 [] [] u1 u2 u3 u4 l q.2.days q.2.granted q.2.ended/\∀ b∈jB u1 u2 u3 u4 l,tg' b=.no/\w.heap.size<=b:=by
 have al:=h.doc hi P;obtain⟨r',col',bd,st,u1,u2,u3,u4,l,rfl,hl,J,I,e3,e4,e5,e6⟩:=P;obtain⟨v1,v2,v3,v4,C,U,_,_,_,dd,hF,X,A⟩:=Q;have K:=h.at_ i k hi;have ai:i<D.length:=(ZS.1 hi).1;obtain⟨G,ko,hG⟩:=st.off;have s1:=ko.size;have s2:=X.size;have ao:=h.env.size
 -- what lies in the document's desk
 have ab:∀ b∈U,tg b=.dc i\/w1.heap.size<=b:=fun b f=>(hF b f).imp (K.df b) id
 have Y:∀ x∈C,tg x.2.1=.dc i\/w1.heap.size<=x.2.1:=fun x af=>by
  rcases A x af with ⟨y,hy,e⟩|e
  ·exact .inl (by rw[e];exact K.ds y hy)
  ·exact .inr e
 have aa:∀ b c,col' b=Ve c->tg b=.pr i\/(w.heap.size<=b/\b<w1.heap.size):=fun b c r=>by
  rcases st.new b c r with e|e
  ·exact .inl (K.pc b c e)
  ·refine .inr ⟨e,?_⟩;rcases Nat.lt_or_ge b w1.heap.size with T |T
   ·exact T
   ·rw[bd.ds.dk.none T] at r;cases r
 let R:U8->Tg:=fun b=>if b<w.heap.size then tg b else if col' b≠Vd then .pr i else if b∈U\/∃ x∈C,x.2.1=b then .dc i else .no
 have O:∀ b,b<w.heap.size->R b=tg b:=fun b f=>Vb f
 have E:∀ b,tg b≠.no->R b=tg b:=fun b f=>O b (h.lt b f)
 have ae:∀ b c,col' b=Ve c->R b=.pr i:=fun b c r=>by
  rcases aa b c r with e|⟨e,_⟩
  ·rw[E b (by rw[e];simp),e]
  ·show (if _ then _ else _)=_;rw[Va UU,Vb (by rw[r];simp)]
 have V:∀ b,(b∈U\/∃ x∈C,x.2.1=b)->R b=.dc i:=fun b f=>by
  have aj:tg b=.dc i\/w1.heap.size<=b:=by
   rcases f with f|⟨x,A,rfl⟩
   ·exact ab b f
   ·exact Y x A
  rcases aj with e|e
  ·rw[E b (by rw[e];simp),e]
  ·show (if _ then _ else _)=_;rw[Va UU,Va (by simpa using bd.ds.dk.none e),Vb f]
 have ad:∀ b,w.heap.size<=b->b<w1.heap.size->col' b=Vd->R b=.no:=fun b h1 h2 h3=>by
  show (if _ then _ else _)=_;rw[Va UU,Va (by simpa using h3),Va ?_];rintro (f|⟨x,A,rfl⟩)
  ·rcases ab b f with e|e
   ·have:=h.lt b (by rw[e];simp);omega
   ·omega
  ·rcases Y x A with e|e
   ·have:=h.lt _ (by rw[e];simp);omega
   ·omega
 have an:∀ b∈k.F,tg b=.dc i:=K.df
 have ac:∀ b∈k.F,10<=b:=fun b f=>by
  rcases Nat.lt_or_ge b 10 with e|e
  ·have:=h.gl b e;rw[K.df b f] at this;cases this
  ·exact e
 have aq:∀ b∈G,10<=b:=fun b f=>by
  rcases hG b f with ⟨c,r,_⟩|⟨_,r⟩
  ·rcases Nat.lt_or_ge b 10 with e|e
   ·rw[K.bd.gl b e] at r;cases r
   ·exact e
  ·omega
 have H:Env w2:=bd.env.oe (X.oe UU ac);have kW:aF (G++k.F) w w2:=(ko.mono fun x A=>YB _ A).trans' X fun x A=>.inl (YC _ A)
 have GT:∀ b∈G++k.F,tg b=.pr i\/tg b=.dc i\/w.heap.size<=b:=fun b f=>by
  rcases VB.1 f with f|f
  ·rcases hG b f with ⟨c,r,_⟩|⟨_,r⟩
   ·exact .inl (K.pc b c r)
   ·exact .inr (.inr r)
  ·exact .inr (.inl (K.df b f))
 have ak:BD w2 k.p k.d q.1 r' col':=bd.off X (fun b f=>by
  have ht:=K.df b f;refine⟨?_,fun e=>by have:=K.pp;rw[<- e,ht] at this;cases this⟩
  cases r:col' b with
  |none=>rfl
  |some c =>
   rcases aa b c r with e|e
   ·rw[ht] at e;cases e
   ·have:=h.lt b (by rw[ht];simp);omega) H
 -- the answer's rows
 have row:∀ {u:Vi}{t z n:U8}{xs:U5 Vi},w1.ownsRow w.heap.size t z u n xs->(∀ b,u.ownBlock=Ve b->col' b=Vd)->w2.ownsRow 0 t z u n xs/\∀ b,u.ownBlock=Ve b->R b=.no/\w.heap.size<=b:=fun ho hn=>by
  have lt:∀ b,_=Ve b->w.heap.size<=b/\b<w1.heap.size:=fun b f=>ho.lt b f
  refine⟨uV (dO ho X fun b f A=>?_) (zN _),fun b f=>⟨ad b (lt b f).1 (lt b f).2 (hn b f),(lt b f).1⟩⟩;have:=h.lt b (by rw[K.df b A];simp);have:=(lt b f).1;omega
 have R1:=row J.own J.no;have RS:=fun p (S:p∈l)=>row (J.sp p S).1.own (J.sp p S).1.no
 have R2:=row I.own I.no;have R3:=row e3.own e3.no;have R4:=row e4.own e4.no;refine⟨⟨k.p,k.d,q.1,r',col',k.dd,C,U⟩,R,⟨fun j kj Z=>?_,H,fun b f=>?_,fun b f=>?_⟩,rfl,rfl,rfl,E,fun b f=>?_,⟨_,kW,GT⟩,u1,u2,u3,u4,l,rfl,hl,⟨R1.1,fun p S=>(RS p S).1,R2.1,R3.1,R4.1,J.pw,fun b f=>⟨fun e=>(e5 b e).2.1 f,e6 b f⟩,fun b f=>(e5 b f).2.2.1,fun _ _=>by simp⟩,fun b f=>?_⟩
 ·rw[List.getElem?_set] at Z
  by_cases e:i=j
  ·subst e;rw[Vb rfl,Vb ai] at Z
   cases Z
   exact⟨ak,dd,(E _ (by rw[K.pp];simp)).trans K.pp,ae,fun b f=>V b (.inl f),fun x A=>V _ (.inr ⟨x,A,rfl⟩)⟩
  ·rw[Va e] at Z;refine (h.at_ j kj Z).off kW (fun b f=>?_) H E;rcases GT b f with J|J|J
   ·rw[J];exact⟨fun I=>e (by injection I),by simp⟩
   ·rw[J];exact⟨by simp,fun I=>e (by injection I)⟩
   ·have:tg b=.no:=by
     rcases Classical.em (tg b=.no) with I|I
     ·exact I
     ·have:=h.lt b I;omega
    rw[this];simp
 ·rcases Nat.lt_or_ge b w.heap.size with e|e
  ·omega
  ·have M:(if b<w.heap.size then tg b else if col' b≠Vd then Tg.pr i else if b∈U\/∃ x∈C,x.2.1=b then Tg.dc i else Tg.no)≠.no:=f;rw[Va UU] at M
   by_cases r:col' b≠Vd
   ·rcases Nat.lt_or_ge b w1.heap.size with T |T
    ·omega
    ·exact (r (bd.ds.dk.none T)).elim
   ·rw[Va r] at M
    by_cases hf:b∈U\/∃ x∈C,x.2.1=b
    ·rcases hf with hf|⟨x,A,rfl⟩
     ·exact dd.lt b hf
     ·exact (dd.rd.sp x A).2.2
    ·rw[Va hf] at M;exact (M rfl).elim
 ·rw[O b UU];exact h.gl b f
 ·rcases Nat.lt_or_ge b w.heap.size with e|e
  ·exact .inl (by rw[<- O b e];exact f)
  ·exact .inr e
 ·simp only[jB,VB,WW] at f;rcases f with (((f|f)|f)|f)|f
  ·obtain⟨p,S,ag⟩:=uU f;exact (RS p S).2 b ag
  ·exact R1.2 b f
  ·exact R2.2 b f
  ·exact R3.2 b f
  ·exact R4.2 b f
structure LX(w0 w:Vh)(B n:U8)(tg:U8->Tg)(D:U5 Dk)(K:U5 U8)(v0 v1 r1 r2 r3:Vi)(X1 X2 X3:U5 KL):Prop where
 ds:mA w tg D
 bk:BK w B v0 v1 K r1 r2 r3 X1 X2 X3
 len:X1.length+X2.length+X3.length<=n
 xo:w.ownsRow 0 30 1 v0 D.length (D.map fun k=>VG (Ve ⟨k.p,0,Vd⟩))
 yo:w.ownsRow 0 102 1 v1 D.length (D.map fun k=>VG (Ve ⟨k.dd,0,Vd⟩))
 tb:∀ b∈bM B r1 r2 r3,tg b=.bk
 tk:∀ b∈K,tg b=.kp
 tx:∀ b,v0.ownBlock=Ve b->tg b=.xs
 ty:∀ b,v1.ownBlock=Ve b->tg b=.ys
 d3:D.length<=3
 bl:Vj w0.heap.size w0 w
 lo:∀ b,tg b≠.no->w0.heap.size<=b
 oQ:10<=w0.heap.size
def LW(w0 w:Vh)(B n:U8):Prop:=∃ tg D K v0 v1 r1 r2 r3 X1 X2 X3,LX w0 w B n tg D K v0 v1 r1 r2 r3 X1 X2 X3
section
variable {w0 w3 w4:Vh}{B n:U8}{K:U5 U8}{v0 v1 r1 r2 r3:Vi}{X1 X2 X3:U5 KL}
theorem LX.later(h:LX w0 w B n tg D K v0 v1 r1 r2 r3 X1 X2 X3)(k:Vj w.heap.size w w'):LX w0 w' B n tg D K v0 v1 r1 r2 r3 X1 X2 X3 :=
 ⟨h.ds.later k,h.bk.later k,h.len,eu h.xo k,eu h.yo k,h.tb,h.tk,h.tx,h.ty,h.d3,h.bl.trans (k.mono h.bl.size),h.lo,h.oQ⟩
theorem LW.later(h:LW w0 w B n)(k:Vj w.heap.size w w'):LW w0 w' B n:=by
 obtain⟨tg,D,K,v0,v1,r1,r2,r3,X1,X2,X3,h⟩:=h;exact⟨tg,D,K,v0,v1,r1,r2,r3,X1,X2,X3,h.later k⟩
theorem LW.more{m:U8}(h:LW w0 w B n)(k:n<=m):LW w0 w B m:=by
 obtain⟨tg,D,K,v0,v1,r1,r2,r3,X1,X2,X3,h⟩:=h;exact⟨tg,D,K,v0,v1,r1,r2,r3,X1,X2,X3,⟨h.ds,h.bk,Vq h.len k,h.xo,h.yo,h.tb,h.tk,h.tx,h.ty,h.d3,h.bl,h.lo,h.oQ⟩⟩
theorem DJ{α β:Type}(f:α->β){l:U5 α}{a b:α}(h:l[i]?=Ve a)(e:f b=f a):(l.set i b).map f=l.map f:=by
 rw[List.map_set,e];obtain⟨r,rfl⟩:=ZS.1 h;apply List.ext_getElem?;intro j;rw[List.getElem?_set]
 by_cases q:i=j
 ·subst q;simp[r]
 ·rw[Va q]
theorem Below.ji(h:aF G w w')(r:N<=w.heap.size)(j:∀ b∈G,N<=b):Vj N w w':=⟨h.os,h.tape,h.output,h.size,fun b q=>h.block b UU fun f=>by have:=j b f;omega⟩
theorem LX.both(h:LX w0 w B n tg D K v0 v1 r1 r2 r3 X1 X2 X3)(I:D[i]?=Ve k){q:St × bO}{e:Ending}(P:lT w k.p k.d k.aM q v w1)(Q:oO w1 k.dd k.F k.xs q e w2):
  ∃ (E:Dk) (tg':U8->Tg),LX w0 w2 B n tg' (D.set i E) K v0 v1 r1 r2 r3 X1 X2 X3/\∃ (u1 u2 u3 u4:Vi) (l:U5 (aL × Vi)),v=bC q.2.err q.2.at_ q.2.n u1 u2 u3 u4/\l.map (·.1)=q.2.entries/\hU w2 K (bM B r1 r2 r3) u1 u2 u3 u4 l q.2.days q.2.granted q.2.ended/\∀ b∈jB u1 u2 u3 u4 l,tg' b=.no/\w0.heap.size<=b:=by
 obtain⟨E,tg',d',e1,e2,_,X,V,⟨G,y,S⟩,u1,u2,u3,u4,l,Z,hl,r,H⟩:=h.ds.both I P Q
 have j:∀ {b t},tg b=t->t≠.no->(∀ i,t≠.pr i)->(∀ i,t≠.dc i)->b ∉ G/\tg' b=t:=fun {b t} x T h3 h4=>by
  refine⟨fun Y=>?_,(X b (by rw[x];exact T)).trans x⟩;rcases S b Y with e|e|e
  ·exact h3 _ (x.symm.trans e)
  ·exact h4 _ (x.symm.trans e)
  ·have:=h.ds.lt b (by rw[x];exact T);omega
 have C:∀ b∈bM B r1 r2 r3,b ∉ G/\tg' b=.bk:=fun b f=>j (h.tb b f) UV UV UV
 have A:∀ b∈K,b ∉ G/\tg' b=.kp:=fun b f=>j (h.tk b f) UV UV UV
 have R:∀ b,v0.ownBlock=Ve b->b ∉ G/\tg' b=.xs:=fun b f=>j (h.tx b f) UV UV UV
 have O:∀ b,v1.ownBlock=Ve b->b ∉ G/\tg' b=.ys:=fun b f=>j (h.ty b f) UV UV UV
 have J:=h.bl.size
 have G0:∀ b∈G,w0.heap.size<=b:=fun b f=>by
  rcases S b f with e|e|e
  ·exact h.lo b (by rw[e];simp)
  ·exact h.lo b (by rw[e];simp)
  ·omega
 refine⟨E,tg',⟨d',h.bk.off y (fun b f=>(C b f).1) (fun b f=>(A b f).1),h.len,?_,?_,fun b f=>(C b f).2,fun b f=>(A b f).2,fun b f=>(R b f).2,fun b f=>(O b f).2,by simpa using h.d3,h.bl.trans (Below.ji y J G0),fun b f=>?_,h.oQ⟩,u1,u2,u3,u4,l,Z,hl,?_,fun b f=>⟨(H b f).1,by have:=(H b f).2;omega⟩⟩
 ·rw[WE,DJ (fun k:Dk=>VG (Ve ⟨k.p,0,Vd⟩)) I (by rw[e1])];exact dO h.xo y fun b f=>(R b f).1
 ·rw[WE,DJ (fun k:Dk=>VG (Ve ⟨k.dd,0,Vd⟩)) I (by rw[e2])];exact dO h.yo y fun b f=>(O b f).1
 ·rcases V b f with e|e
  ·exact h.lo b e
  ·omega
 ·refine⟨r.en,r.sp,r.da,r.gr,r.ed,r.pw,r.dg,r.ge,fun b f=>?_⟩
  have M:b∈jB u1 u2 u3 u4 l:=by
   simp only[jB,VB,WW];rcases f with f|f|f|f|⟨p,hp,f⟩
   ·exact .inl (.inl (.inl (.inr f)))
   ·exact .inl (.inl (.inr f))
   ·exact .inl (.inr f)
   ·exact .inr f
   ·exact .inl (.inl (.inl (.inl (ZZ.2 ⟨p,hp,by simpa using f⟩))))
  have U:=(H b M).1;refine⟨fun e=>?_,fun e=>?_⟩
  ·have:=(A b e).2;rw[U] at this;cases this
  ·have:=(C b e).2;rw[U] at this;cases this
open Classical in
theorem LX.kept(h:LX w0 w B n tg D K v0 v1 r1 r2 r3 X1 X2 X3){L:U5 U8}{m:U8}(hm:m<=n)(M:∀ b∈L,tg b=.no/\w0.heap.size<=b)(k:iE w B v0 v1 K r1 r2 r3 L m w4):LW w0 w4 B n:=by
 obtain⟨K',E,C,p3,Z1,Z2,Z3,r⟩:=k
 let A:U8->Tg:=fun b=>if tg b≠.no then tg b else if b∈K' then .kp else if b∈bM B E C p3 then .bk else .no
 have x:∀ b,tg b≠.no->A b=tg b:=fun b f=>Vb f
 have O:∀ b∈K',A b=.kp:=fun b f=>by
  by_cases e:tg b≠.no
  ·rw[x b e];rcases r.kk b f with j|j|j
   ·exact h.tk b j
   ·exact (e (M b j).1).elim
   ·have:=h.ds.lt b e;omega
  ·show (if _ then _ else _)=_;rw[Va e,Vb f]
 have P:∀ b∈bM B E C p3,A b=.bk:=fun b f=>by
  by_cases e:tg b≠.no
  ·rw[x b e];rcases r.rr b f with j|j
   ·exact h.tb b j
   ·have:=h.ds.lt b e;omega
  ·show (if _ then _ else _)=_;rw[Va e,Va ?_,Vb f];intro V;have J:=f;simp only[bM,VA,VB,WW] at J;have q:=r.bk.br.kb b V;rcases J with rfl|j|j|j
   ·exact r.bk.bK V
   ·exact q.2.1 j
   ·exact q.2.2.1 j
   ·exact q.2.2.2 j
 have Y:∀ b∈L++bM B r1 r2 r3,w0.heap.size<=b:=fun b f=>by
  rcases VB.1 f with f|f
  ·exact (M b f).2
  ·exact h.lo b (by rw[h.tb b f];simp)
 have aa:=h.ds.env.size;have S:=h.bl.size
 have T:∀ b∈L++bM B r1 r2 r3,tg b=.no\/tg b=.bk:=fun b f=>by
  rcases VB.1 f with f|f
  ·exact .inl (M b f).1
  ·exact .inr (h.tb b f)
 have U:∀ b∈L++bM B r1 r2 r3,10<=b:=fun b f=>by
  have h1:=Y b f;have h2:=h.oQ;omega
 have kx:∀ b,v0.ownBlock=Ve b->b ∉ L++bM B r1 r2 r3:=fun b f R=>by
  have:=h.tx b f;rcases T b R with e|e <;> rw[this] at e <;> cases e
 have Z:∀ b,v1.ownBlock=Ve b->b ∉ L++bM B r1 r2 r3:=fun b f R=>by
  have:=h.ty b f;rcases T b R with e|e <;> rw[this] at e <;> cases e
 have H:∀ b,A b≠.no->tg b≠.no\/b∈K'\/b∈bM B E C p3:=fun b f=>by
  have y:(if tg b≠.no then tg b else if b∈K' then Tg.kp else if b∈bM B E C p3 then Tg.bk else Tg.no)≠.no:=f
  by_cases e:tg b≠.no
  ·exact .inl e
  ·rw[Va e] at y
   by_cases j:b∈K'
   ·exact .inr (.inl j)
   ·rw[Va j] at y
    by_cases X:b∈bM B E C p3
    ·exact .inr (.inr X)
    ·rw[Va X] at y;exact (y rfl).elim
 have I:∀ b,A b≠.no->w0.heap.size<=b:=fun b f=>by
  rcases H b f with e|e|e
  ·exact h.lo b e
  ·rcases r.kk b e with e|e|e
   ·exact h.lo b (by rw[h.tk b e];simp)
   ·exact (M b e).2
   ·omega
  ·rcases r.rr b e with e|e
   ·exact h.lo b (by rw[h.tb b e];simp)
   ·omega
 refine⟨A,D,K',v0,v1,E,C,p3,Z1,Z2,Z3,⟨h.ds.off r.off (fun b f=>⟨fun i=>?_,U b f⟩) x (fun b f=>?_) (fun b f=>?_),r.bk,by rw[r.len];exact hm,dO h.xo r.off kx,dO h.yo r.off Z,P,O,fun b f=>(x b (by rw[h.tx b f];simp)).trans (h.tx b f),fun b f=>(x b (by rw[h.ty b f];simp)).trans (h.ty b f),h.d3,h.bl.trans (Below.ji r.off S Y),I,h.oQ⟩⟩
 ·rcases T b f with e|e <;> rw[e] <;> simp
 ·rcases H b f with e|e|e
  ·exact zL (h.ds.lt b e) r.off.size
  ·exact (r.bk.br.kb b e).1
  ·exact r.bk.lt b e
 ·rcases Classical.em (A b=.no) with e|e
  ·exact e
  ·have h1:=I b e;have h2:=h.oQ;omega
end
theorem wL{q:Array Oper}{rest:U5 Oper}{o:Oper}{a:Act}{Q:Exit->Act->Vh->Prop}(I:o.guard=Vd)(x y:Operand)(t:Vm)(S:o.op=.call { callee:=.builtin .append,args:=#[x,y],argTypes:=#[t,t] })
  {B e:U8}{i:TypeInfo}{z:Vi}(size f:U8) (ht:prog.underlying t=Ve (.slice e)) (U:prog.info? e=Ve i) (O:i.zero=Ve z) (j:i.size=size) (J:i.bytes=f) (A:f<=104) (C:z.cells.size=size) (H:0<size)
  {v:Vi}{n:U8}{xs:U5 Vi}(r:W.ownsRow B e size v n xs) {cs:Array Vi}{M:Vm}{mk:U8 × U8}(V:cs.toList.length=size) (E:∀ u∈cs.toList,u.oneCell'=Vg) (R:a.eval x=v) (P:a.eval y=.slice (Ve ⟨W.heap.size,0,Vd⟩) 1 1) (hl:n<=2000000) (hB:B<=W.heap.size)
  (h:∀ g cap w',w'.ownsRow B e size (.slice (Ve ⟨g,0,Vd⟩) (n+1) cap) (n+1) (xs++cs.toList)->aF v.ownBlock.toList W w'->(v.ownBlock=Ve g\/W.heap.size<=g)->wpList prog q Q rest (a.put o.dst (.slice (Ve ⟨g,0,Vd⟩) (n+1) cap)) w'):
  wpList prog q Q (o :: rest) a (W.alloc (.cells cs M mk)):=by
 refine wpList_append_lies _ I x y t S B e i z size f ht U O j J C H v n xs R (r.alloc _) ⟨W.heap.size,0,Vd⟩ 1 1 cs.toList P UU (WM (cs:=cs) (cC W _)) E UU U1 (Vq (Nat.mul_le_mul (show n+1<=2000001 by omega) A) UW) U0 (W.heap.size+1) UV ?_;intro g cap w' Z Y X _;exact h g cap w' Z (((aF.refl _ W).alloc _).grown Y (fun k T=>.inl (by simp[T]))) (X.imp id (fun e=>by omega))
def zD:Obj:=.cells #[.slice Vd 0 0,.slice Vd 0 0,.int .i64 0,.int .i64 0] 105
theorem DD.zero(h:w.heap[Q]?=Ve zD):DD w Q gM [] [Q]:=by
 have q:=(Y9.1 h).1;have c:∀ (i:U8) {v:Vi},#[Ze Vd 0 0,.slice Vd 0 0,.int .i64 0,.int .i64 0][i]?=Ve v->w.cell? ⟨Q,i,Vd⟩=Ve v:=fun i _ j=>aZ h i j
 refine⟨⟨⟨_,c 0 rfl,WK _ _ _ _,fun k f=>by cases f⟩,⟨_,c 1 rfl,WK _ _ _ _,fun k f=>by cases f⟩,c 2 rfl,c 3 rfl,fun o=>by simp[Vs,h,zD],by simp,by simp⟩,rfl,fun k f=>by simp at f;omega,by simp[gM],by simp[gM],by simp[gM]⟩
section
variable {w0 w w1 w2 w3 w5:Vh}{B n:U8}{tg:U8->Tg}{D:U5 Dk}{K:U5 U8}{v0 v1 r1 r2 r3 v0' v1':Vi}{X1 X2 X3:U5 KL}
theorem BK.aY(h:BK w B v0 v1 K r1 r2 r3 X1 X2 X3)(v:Vi):BK (w.setCell ⟨B,0,Vd⟩ v) B v v1 K r1 r2 r3 X1 X2 X3:=by
 have q:aF [B] w (w.setCell ⟨B,0,Vd⟩ v):=aF.aY ..
 have j:∀ {t:U8}{r:Vi}{n:U8}{xs:U5 Vi},w.ownsRow 0 t 5 r n xs->86≠t->∀ b,r.ownBlock=Ve b->b ∉ [B]:=fun x ht b f e=>by
  rw[YD.1 e] at f;exact iu x h.hb ht f
 exact⟨by rw[lR h.hb];rfl,h.br.off q (j h.br.b1.own UW) (j h.br.b2.own UW) (j h.br.b3.own UW) (fun b f e=>h.bK (YD.1 e ▸ f)),h.bK⟩
theorem BK.nu(h:BK w B v0 v1 K r1 r2 r3 X1 X2 X3)(v:Vi):BK (w.setCell ⟨B,1,Vd⟩ v) B v0 v K r1 r2 r3 X1 X2 X3:=by
 have q:aF [B] w (w.setCell ⟨B,1,Vd⟩ v):=aF.aY ..
 have j:∀ {t:U8}{r:Vi}{n:U8}{xs:U5 Vi},w.ownsRow 0 t 5 r n xs->86≠t->∀ b,r.ownBlock=Ve b->b ∉ [B]:=fun x ht b f e=>by
  rw[YD.1 e] at f;exact iu x h.hb ht f
 exact⟨by rw[lR h.hb];rfl,h.br.off q (j h.br.b1.own UW) (j h.br.b2.own UW) (j h.br.b3.own UW) (fun b f e=>h.bK (YD.1 e ▸ f)),h.bK⟩
theorem LX.xB(h:LX w0 w B n tg D K v0 v1 r1 r2 r3 X1 X2 X3):∀ b,v0.ownBlock=Ve b->b ∉ bM B r1 r2 r3/\b ∉ K/\v1.ownBlock≠Ve b/\b≠B:=fun b f=>by
 have ht:=h.tx b f;refine⟨fun e=>?_,fun e=>?_,fun e=>?_,fun e=>?_⟩
 ·have:=h.tb b e;rw[ht] at this;cases this
 ·have:=h.tk b e;rw[ht] at this;cases this
 ·have:=h.ty b e;rw[ht] at this;cases this
 ·have:=h.tb b (by rw[e];simp[bM]);rw[ht] at this;cases this
theorem LX.yB(h:LX w0 w B n tg D K v0 v1 r1 r2 r3 X1 X2 X3):∀ b,v1.ownBlock=Ve b->b ∉ bM B r1 r2 r3/\b ∉ K/\v0.ownBlock≠Ve b/\b≠B:=fun b f=>by
 have ht:=h.ty b f;refine⟨fun e=>?_,fun e=>?_,fun e=>?_,fun e=>?_⟩
 ·have:=h.tb b e;rw[ht] at this;cases this
 ·have:=h.tk b e;rw[ht] at this;cases this
 ·have:=h.tx b e;rw[ht] at this;cases this
 ·have:=h.tb b (by rw[e];simp[bM]);rw[ht] at this;cases this
theorem LX.bt(h:LX w0 w B n tg D K v0 v1 r1 r2 r3 X1 X2 X3):tg B=.bk/\B<w.heap.size:=⟨h.tb B (by simp[bM]),h.bk.lt B (by simp[bM])⟩
open Classical in
theorem LX.begin(h:LX w0 w B n tg D K v0 v1 r1 r2 r3 X1 X2 X3)(hD:D.length<3){d:U8}(bd:BD w1 p d gM mW aM)(k1:Vj w.heap.size w w1)(hc:∀ b,b<w.heap.size->aM b=Vd)(hp:w.heap.size<=p)
  (k2:aF v0.ownBlock.toList w1 w2) (o2:w2.ownsRow 0 30 1 v0' (D.length+1) ((D.map fun k=>VG (Ve ⟨k.p,0,Vd⟩))++[.pointer (Ve ⟨p,0,Vd⟩)])) (a2:∀ b,v0'.ownBlock=Ve b->v0.ownBlock=Ve b\/w1.heap.size<=b)
  (R:w3=w2.setCell ⟨B,0,Vd⟩ v0') (Z:aF v1.ownBlock.toList (w3.alloc zD) w5) (o5:w5.ownsRow 0 102 1 v1' (D.length+1) ((D.map fun k=>VG (Ve ⟨k.dd,0,Vd⟩))++[.pointer (Ve ⟨w3.heap.size,0,Vd⟩)])) (a5:∀ b,v1'.ownBlock=Ve b->v1.ownBlock=Ve b\/(w3.alloc zD).heap.size<=b):
  LW w0 (w5.setCell ⟨B,1,Vd⟩ v1') B n:=by
 obtain⟨tB,lB⟩:=h.bt;have s1:=k1.size;have s2:=k2.size;have Y:aF [B] w2 w3:=by rw[R];exact aF.aY ..
 have s3:w3.heap.size=w2.heap.size:=by rw[R];simp[World.setCell]
 have k4:Vj w3.heap.size w3 (w3.alloc zD):=(zr _ _).alloc (zq _) _;have s4:(w3.alloc zD).heap.size=w3.heap.size+1:=UV
 have s5:=Z.size;have E:aF [B] w5 (w5.setCell ⟨B,1,Vd⟩ v1'):=aF.aY ..;have s6:=E.size;have T:∀ b,v0.ownBlock=Ve b->b<w.heap.size:=fun b f=>h.ds.lt b (by rw[h.tx b f];simp)
 have I:∀ b,v1.ownBlock=Ve b->b<w.heap.size:=fun b f=>h.ds.lt b (by rw[h.ty b f];simp)
 have af:p<w1.heap.size:=(Y9.1 bd.pc).1
 have M:∀ b c,aM b=Ve c->w.heap.size<=b/\b<w1.heap.size:=fun b c f=>by
  refine⟨?_,?_⟩
  ·rcases Nat.lt_or_ge b w.heap.size with e|e
   ·rw[hc b e] at f;cases f
   ·exact e
  ·rcases Nat.lt_or_ge b w1.heap.size with e|e
   ·exact e
   ·rw[bd.ds.dk.none e] at f;cases f
 have y:∀ b,v0'.ownBlock=Ve b->b<w2.heap.size:=fun b f=>eV o2 f
 have S:∀ b,v1'.ownBlock=Ve b->b<w5.heap.size:=fun b f=>eV o5 f
 -- all that changes
 have kA:aF (B :: (v0.ownBlock.toList++v1.ownBlock.toList)) w1 (w5.setCell ⟨B,1,Vd⟩ v1'):=by
  refine ((((k2.mono fun x j=>?_).trans (Y.mono fun x j=>?_)).trans (aF.aD k4)).trans (Z.mono fun x j=>?_)).trans (E.mono fun x j=>?_)
  ·exact WV _ (YB _ j)
  ·rw[YD.1 j];exact Ye ..
  ·exact WV _ (YC _ j)
  ·rw[YD.1 j];exact Ye ..
 have kW:=(aF.aD (F:=B :: (v0.ownBlock.toList++v1.ownBlock.toList)) k1).trans kA
 have GT:∀ b∈B :: (v0.ownBlock.toList++v1.ownBlock.toList),(tg b=.bk\/tg b=.xs\/tg b=.ys)/\b<w.heap.size:=fun b f=>by
  simp only[VA,VB,WW] at f;rcases f with rfl|f|f
  ·exact⟨.inl tB,lB⟩
  ·exact⟨.inr (.inl (h.tx b f)),T b f⟩
  ·exact⟨.inr (.inr (h.ty b f)),I b f⟩
 have GN:∀ b∈B :: (v0.ownBlock.toList++v1.ownBlock.toList),tg b≠.no:=fun b f=>by
  rcases (GT b f).1 with e|e|e <;> rw[e] <;> simp
 have al:∀ b∈B :: (v0.ownBlock.toList++v1.ownBlock.toList),10<=b:=fun b f=>by
  rcases Nat.lt_or_ge b 10 with e|e
  ·exact (GN b f (h.ds.gl b e)).elim
  ·exact e
 let C:U8->Tg:=fun b=>if tg b≠.no then tg b else if b=w3.heap.size then .dc D.length else if v0'.ownBlock=Ve b then .xs else if v1'.ownBlock=Ve b then .ys else if aM b≠Vd\/b=p then .pr D.length else .no
 have A:∀ b,tg b≠.no->C b=tg b:=fun b f=>Vb f
 have J:∀ b,w.heap.size<=b->¬ tg b≠.no:=fun b f e=>by have:=h.ds.lt b e;omega
 have ae:C w3.heap.size=.dc D.length:=by
  show (if _ then _ else _)=_;rw[Va (J _ UU),Vb rfl]
 have ad:∀ b,v0'.ownBlock=Ve b->C b=.xs:=fun b f=>by
  rcases a2 b f with e|e
  ·rw[A b (by rw[h.tx b e];simp),h.tx b e]
  ·show (if _ then _ else _)=_;rw[Va (J _ UU),Va (by have:=y b f;omega),Vb f]
 have ac:∀ b,v1'.ownBlock=Ve b->C b=.ys:=fun b f=>by
  rcases a5 b f with e|e
  ·rw[A b (by rw[h.ty b e];simp),h.ty b e]
  ·show (if _ then _ else _)=_;rw[Va (J _ UU),Va UU,Va (fun j=>by have:=y b j;omega),Vb f]
 have U:∀ b,w.heap.size<=b->b<w1.heap.size->(aM b≠Vd\/b=p)->C b=.pr D.length:=fun b h1 h2 f=>by
  show (if _ then _ else _)=_;rw[Va (J _ h1),Va UU,Va (fun j=>?_),Va (fun j=>?_),Vb f]
  ·rcases a5 b j with e|e
   ·have:=I b e;omega
   ·omega
  ·rcases a2 b j with e|e
   ·have:=T b e;omega
   ·omega
 have V:∀ b,C b≠.no->(tg b≠.no\/w.heap.size<=b)/\b<(w5.setCell ⟨B,1,Vd⟩ v1').heap.size:=fun b f=>by
  have r:(if tg b≠.no then tg b else if b=w3.heap.size then Tg.dc D.length else if v0'.ownBlock=Ve b then Tg.xs else if v1'.ownBlock=Ve b then Tg.ys else if aM b≠Vd\/b=p then Tg.pr D.length else Tg.no)≠.no:=f
  by_cases e:tg b≠.no
  ·exact⟨.inl e,by have:=h.ds.lt b e;omega⟩
  rw[Va e] at r
  by_cases e1:b=w3.heap.size
  ·exact⟨.inr UU,by omega⟩
  rw[Va e1] at r
  by_cases e2:v0'.ownBlock=Ve b
  ·refine⟨?_,by have:=y b e2;omega⟩;rcases a2 b e2 with q|q
   ·exact .inl (by rw[h.tx b q];simp)
   ·exact .inr UU
  rw[Va e2] at r
  by_cases R:v1'.ownBlock=Ve b
  ·refine⟨?_,by have:=S b R;omega⟩;rcases a5 b R with q|q
   ·exact .inl (by rw[h.ty b q];simp)
   ·exact .inr UU
  rw[Va R] at r
  by_cases e4:aM b≠Vd\/b=p
  ·rcases e4 with q|q
   ·cases P:aM b with
    |none=>exact (q P).elim
    |some c=>exact⟨.inr (M b c P).1,by have:=(M b c P).2;omega⟩
   ·exact⟨.inr UU,by omega⟩
  ·rw[Va e4] at r;exact (r rfl).elim
 have ag:=h.bl.size
 have X:∀ b,C b≠.no->w0.heap.size<=b:=fun b f=>by
  rcases (V b f).1 with e|e
  ·exact h.lo b e
  ·omega
 have aj:∀ b,b<10->C b=.no:=fun b f=>by
  rcases Classical.em (C b=.no) with e|e
  ·exact e
  ·have h1:=X b e;have h2:=h.oQ;omega
 have H:mA (w5.setCell ⟨B,1,Vd⟩ v1') C D:=h.ds.off kW (fun b f=>⟨fun i=>by rcases (GT b f).1 with e|e|e <;> rw[e] <;> simp,al b f⟩) A (fun b f=>(V b f).2) aj;have ak:BD (w5.setCell ⟨B,1,Vd⟩ v1') p d gM mW aM:=bd.off kA (fun b f=>⟨hc b (GT b f).2,by have:=(GT b f).2;omega⟩) H.env;have ai:w5.heap[w3.heap.size]?=Ve zD:=(Z.block _ UU (fun e=>by have:=I _ (WW.1 e);omega)).trans (cC w3 _);have hQ:(w5.setCell ⟨B,1,Vd⟩ v1').heap[w3.heap.size]?=Ve zD:=(E.block _ UU (fun e=>by have:=YD.1 e;omega)).trans ai;have b2:BK w2 B v0 v1 K r1 r2 r3 X1 X2 X3:=(h.bk.later k1).off k2 (fun b f e=>(h.xB b (WW.1 e)).1 f) (fun b f e=>(h.xB b (WW.1 e)).2.1 f);have b3:BK w3 B v0' v1 K r1 r2 r3 X1 X2 X3:=by rw[R];exact b2.aY v0'
 have b5:BK w5 B v0' v1 K r1 r2 r3 X1 X2 X3:=(b3.later k4).off Z (fun b f e=>(h.yB b (WW.1 e)).1 f) (fun b f e=>(h.yB b (WW.1 e)).2.1 f)
 have nx:∀ b,v0'.ownBlock=Ve b->b≠B/\v1.ownBlock≠Ve b:=fun b f=>by
  rcases a2 b f with e|e
  ·exact⟨(h.xB b e).2.2.2,(h.xB b e).2.2.1⟩
  ·exact⟨by omega,fun e1=>by have:=I b e1;omega⟩
 have ny:∀ b,v1'.ownBlock=Ve b->b≠B:=fun b f=>by
  rcases a5 b f with e|e
  ·exact (h.yB b e).2.2.2
  ·omega
 have ab:(w5.setCell ⟨B,1,Vd⟩ v1').ownsRow 0 30 1 v0' (D.length+1) ((D.map fun k=>VG (Ve ⟨k.p,0,Vd⟩))++[.pointer (Ve ⟨p,0,Vd⟩)]) :=
  dO (dO (eu (dO o2 Y fun b f e=>(nx b f).1 (YD.1 e)) k4) Z fun b f e=>(nx b f).2 (WW.1 e)) E fun b f e=>(nx b f).1 (YD.1 e)
 have aa:(w5.setCell ⟨B,1,Vd⟩ v1').ownsRow 0 102 1 v1' (D.length+1) ((D.map fun k=>VG (Ve ⟨k.dd,0,Vd⟩))++[.pointer (Ve ⟨w3.heap.size,0,Vd⟩)]) :=
  dO o5 E fun b f e=>ny b f (YD.1 e)
 refine⟨C,D++[⟨p,d,gM,mW,aM,w3.heap.size,[],[w3.heap.size]⟩],K,v0',v1',r1,r2,r3,X1,X2,X3,⟨⟨fun i k O=>?_,H.env,H.lt,H.gl⟩,b5.nu v1',h.len,by simpa using ab,by simpa using aa,fun b f=>(A b (by rw[h.tb b f];simp)).trans (h.tb b f),fun b f=>(A b (by rw[h.tk b f];simp)).trans (h.tk b f),ad,ac,by simp;omega,h.bl.trans (Below.ji kW ag fun b f=>h.lo b (GN b f)),X,h.oQ⟩⟩;rcases Nat.lt_or_ge i D.length with e|e
 ·rw[Wt e] at O;exact H.at_ i k O
 ·rw[Wz e] at O
  have hi:i-D.length=0:=by
   rcases Nat.eq_zero_or_pos (i-D.length) with q|q
   ·exact q
   ·rw[List.getElem?_eq_none U0] at O;cases O
  rw[hi] at O;have:i=D.length:=UU
  subst this;simp only[List.getElem?_cons_zero,Z6] at O;subst O;exact⟨ak,DD.zero hQ,U p hp af (.inr rfl),fun b c f=>U b (M b c f).1 (M b c f).2 (.inl (fun e=>by rw[show aM b=Ve c from f] at e;cases e)),fun b f=>by rw[YD.1 f];exact ae,fun x j=>by cases j⟩
theorem KQ:(prog.info? 30).map (fun i=>(i.zero,i.size,i.bytes))=Ve (Ve (.pointer Vd),1,8):=UZ
theorem KT:(prog.info? 102).map (fun i=>(i.zero,i.size,i.bytes))=Ve (Ve (.pointer Vd),1,8):=UZ
theorem EU(h:LW w0 w B n):Vk prog 40 #[.pointer (Ve ⟨B,0,Vd⟩)] w fun e w'=>e=.returned (.bool Vg)/\LW w0 w' B n:=by
 obtain⟨i0,ag,ad,ac,ab⟩:=info_parts KQ;obtain⟨j0,af,aa,Z,Y⟩:=info_parts KT;obtain⟨tg,D,K,v0,v1,r1,r2,r3,X1,X2,X3,J⟩:=h;have NE:=aC (MH w J.ds.env);obtain⟨a0,c0,rfl⟩:=gC J.xo;obtain⟨H,E,rfl⟩:=gC J.yo;have x:=aC J;clear J
 go_in
 go_upto_region 4 with (first|(go_at_call 44;refine NE.out.mono ?_;rintro e w1 ⟨p,d,aM,rfl,bd,k1,hc,hp⟩;have y:=aC (zA bd (zA k1 (zA hc hp)));clear bd k1 hc hp))
 obtain⟨X,x1,_,_,_,fz⟩:=(x.out.bk.later y.out.2.1).cells
 by_cases hD:D.length<3
 ·have ai:(D.length:U9)<3:=UU
  have XO:=aC (eu x.out.xo y.out.2.1);have f0:=fz 0;have f:Hid (B ∉ (Ze a0 D.length c0).ownBlock.toList):=fun e=>(x.out.xB B (WW.1 e)).2.2.2 rfl
  have M:Hid (B ∉ (Ze H D.length E).ownBlock.toList):=fun e=>(x.out.yB B (WW.1 e)).2.2.2 rfl
  have LB:Hid (B<w1.heap.size):=Vr _ _ X
  go_upto_region 6 with (first|(at_builtin;go_loud (refine wL rfl _ _ 78 rfl 1 8 underlying78 ag ad ac ab UW rfl UW XO.out (cs:=#[.pointer (Ve ⟨p,0,Vd⟩)]) rfl U2 rfl rfl UU (zN _) ?_);intro j q w2 o2 C a2;have y0:=C.cell f.out X;have z0:=(C.frozen f.out LB.out).trans f0;have S:=C.cell f.out x1;have R:=(C.frozen (o:=1) f.out LB.out).trans (fz 1)))
  have O:=aC (zA C (zA o2 a2))
  have q1:(w2.setCell ⟨B,0,Vd⟩ (.slice (Ve ⟨j,0,Vd⟩) (D.length+1) q)).cell? ⟨B,1,Vd⟩=Ve (.slice H D.length E):=by
   rw[World.cell?_setCell_other _ _ _ _ UV];exact S
  have z3:(w2.setCell ⟨B,0,Vd⟩ (.slice (Ve ⟨j,0,Vd⟩) (D.length+1) q)).frozen? ⟨B,1,Vd⟩=Vf:=by
   rw[World.frozen?_setCell];exact R
  clear C o2 a2 X x1 y0 S z0 R f0;have ae:Hid (∃ w3,w3=w2.setCell ⟨B,0,Vd⟩ (.slice (Ve ⟨j,0,Vd⟩) (D.length+1) q)):=⟨_,rfl⟩
  have YO:Hid (((w2.setCell ⟨B,0,Vd⟩ (.slice (Ve ⟨j,0,Vd⟩) (D.length+1) q)).alloc zD).ownsRow 0 102 1 (.slice H D.length E) D.length (D.map fun k=>VG (Ve ⟨k.dd,0,Vd⟩))) :=
   (dO (dO (eu x.out.yo y.out.2.1) O.out.1 fun b r e=>(x.out.yB b r).2.2.1 (WW.1 e)) (aF.aY B w2 0 _) fun b r e=>(x.out.yB b r).2.2.2 (YD.1 e)).alloc _
  have P:Hid (∀ v1' w5,aF (Ze H D.length E).ownBlock.toList ((w2.setCell ⟨B,0,Vd⟩ (.slice (Ve ⟨j,0,Vd⟩) (D.length+1) q)).alloc zD) w5->w5.ownsRow 0 102 1 v1' (D.length+1) ((D.map fun k=>VG (Ve ⟨k.dd,0,Vd⟩))++[.pointer (Ve ⟨(w2.setCell ⟨B,0,Vd⟩ (.slice (Ve ⟨j,0,Vd⟩) (D.length+1) q)).heap.size,0,Vd⟩)])->(∀ b,v1'.ownBlock=Ve b->(Ze H D.length E).ownBlock=Ve b\/((w2.setCell ⟨B,0,Vd⟩ (.slice (Ve ⟨j,0,Vd⟩) (D.length+1) q)).alloc zD).heap.size<=b)->LW w0 (w5.setCell ⟨B,1,Vd⟩ v1') B n):=fun v1' w5 A T U =>
   x.out.begin hD y.out.1 y.out.2.1 y.out.2.2.1 y.out.2.2.2 O.out.1 O.out.2.1 (fun b r=>by simp[WI] at r;subst r;exact O.out.2.2) rfl A T U
  clear ae;have I:((w2.setCell ⟨B,0,Vd⟩ (.slice (Ve ⟨j,0,Vd⟩) (D.length+1) q)).alloc zD).cell? ⟨B,1,Vd⟩=Ve (.slice H D.length E):=aN ((zr _ _).alloc (zq _) _) q1
  have V:((w2.setCell ⟨B,0,Vd⟩ (.slice (Ve ⟨j,0,Vd⟩) (D.length+1) q)).alloc zD).frozen? ⟨B,1,Vd⟩=Vf:=by
   have e:=((zr (w2.setCell ⟨B,0,Vd⟩ (.slice (Ve ⟨j,0,Vd⟩) (D.length+1) q)).heap.size _).alloc (zq _) zD).block B (Vr _ _ q1);simp only[Vs,e] at z3 ⊢;exact z3
  generalize w2.setCell ⟨B,0,Vd⟩ (.slice (Ve ⟨j,0,Vd⟩) (D.length+1) q)=w3 at *;clear O XO y NE LB f fz;have aj:Hid (B<(w3.alloc zD).heap.size):=Vr _ _ I
  go_upto_region 7 with (first|(at_builtin;go_loud (refine wL (W:=w3.alloc zD) rfl _ _ 79 rfl 1 8 underlying79 af aa Z Y UW rfl UW YO.out (cs:=#[.pointer (Ve ⟨w3.heap.size,0,Vd⟩)]) rfl U2 rfl (by simp[Act.eval]) UU (zN _) ?_);intro g5 c5 w5 T A U;have S:=A.cell M.out I;have R:=(A.frozen M.out aj.out).trans V))
  have HF:=aC (P.out _ _ A T (fun b r=>by simp[WI] at r;subst r;exact U));clear A T U S R P YO
  go_wp2
  go_ret;exact⟨rfl,HF.out⟩
 ·have ai:¬ (D.length:U9)<3:=UU
  go_wp2
  go_ret;exact⟨rfl,_,_,_,_,_,_,_,_,_,_,_,x.out.later y.out.2.1⟩
end
variable {w w1 w2:Vh}{B:U8}{v0 v1 r1 r2 r3:Vi}{K:U5 U8}{X1 X2 X3:U5 KL}
theorem KG{X:U5 KL}{k:U8}(f:k<X.length)(o:U8)(h:o<5):(X.flatMap fu)[k*5+o]?=(fu X[k])[o]?:=by
 induction X generalizing k with
 |nil=>simp at f
 |cons a r ih =>
  cases k with
  |zero=>rw[Wv,Nat.zero_mul,Nat.zero_add,Wt (by simpa[fu] using h)];rfl
  |succ k =>
   have:=ih (k:=k) (by simpa using f);rw[Wv,Wz (by simp[fu];omega)];simp only[fu,V6,Wa,List.getElem_cons_succ] at this ⊢;rw[<- this]
   congr 1
   omega
theorem lr.look{P:U9->U5 Vi}{t:Vm}{r:Vi}{X:U5 KL}(h:lr P t K w r X){k:U8}(hk:k<X.length):∃ (g cap:U8)(J I H E:U6 Addr)(j A x q f:U8)(m:U9),r=.slice (Ve ⟨g,0,Vd⟩) X.length cap/\w.cell? ⟨g,k*5,Vd⟩=Ve (.slice J j A)/\w.cell? ⟨g,k*5+1,Vd⟩=Ve (.slice I (j+1) x)/\w.cell? ⟨g,k*5+2,Vd⟩=Ve (.slice H (j+2) q)/\w.cell? ⟨g,k*5+3,Vd⟩=Ve (.slice E (j+3) f)/\w.cell? ⟨g,k*5+4,Vd⟩=Ve (.int .i64 m) /\
  j<=900000/\Fu (P m) w (.slice J j A) j/\Fu (P m) w (.slice I (j+1) x) (j+1)/\Fu (P m) w (.slice H (j+2) q) (j+2)/\Fu (P m) w (.slice E (j+3) f) (j+3):=by
 obtain⟨j,hj,V,U,T,S⟩:=h.four _ (zg hk);obtain⟨J,A,e1⟩:=V.form;obtain⟨I,x,e2⟩:=U.form;obtain⟨H,q,e3⟩:=T.form;obtain⟨E,f,e4⟩:=S.form
 have c:∀ o v,o<5->(fu X[k])[o]?=Ve v->∃ g cap,r=.slice (Ve ⟨g,0,Vd⟩) X.length cap/\w.cell? ⟨g,k*5+o,Vd⟩=Ve v:=fun o v R O=>by
  have hc:=(KG hk o R).trans O;rcases h.own.2 with ⟨rfl,hn⟩|⟨g,cap,ab,rfl,_,hh,_⟩
  ·omega
  ·exact⟨g,cap,rfl,(uE g (k*5+o)) ▸ h.own.cells (g:=g) rfl _ v hc⟩
 obtain⟨g,cap,rfl,M⟩:=c 0 _ UW rfl
 have C:∀ o v,o<5->(fu X[k])[o]?=Ve v->w.cell? ⟨g,k*5+o,Vd⟩=Ve v:=fun o v R O=>by
  obtain⟨g',aa,e,y⟩:=c o v R O;simp only[Yr,Z6,Z7,and_true,true_and] at e;obtain⟨rfl,rfl⟩:=e;exact y
 have y1:=C 1 _ UW rfl;have Z:=C 2 _ UW rfl;have Y:=C 3 _ UW rfl;have y4:=C 4 _ UW rfl;rw[Nat.add_zero] at M;rw[e1] at M V;rw[e2] at y1 U;rw[e3] at Z T;rw[e4] at Y S;exact⟨g,cap,J,I,H,E,j,A,x,q,f,_,rfl,M,y1,Z,Y,y4,hj,V,U,T,S⟩
def mX(t:Vm)(a b c d e:Vi):Obj:=.cells #[a,b,c,d,e] t
theorem Mb(h:BK w B v0 v1 K r1 r2 r3 X1 X2 X3)(hm:X1.length+X2.length+X3.length<=1000000000):
  Vk prog 42 #[.pointer (Ve ⟨B,2,Vd⟩)] w fun e w'=>e=.returned (.bool Vg)/\Vj w.heap.size w w':=by
 have HB:=aC h;obtain⟨⟨p1,s1,e1⟩,⟨p2,s2,e2⟩,p3,s3,e3⟩:=h.ke;subst e1 e2 e3;clear h
 go_in
 go_wp2_with fail
 have ac:Hid (Vj w.heap.size w w):=zr _ _
 go_loopw [3] (fun v wr=>∃ k:U8,k<=X1.length/\v=.int .i64 k/\Vj w.heap.size w wr) (fun v _=>X1.length-(intOf v).toNat)
 case atStart=>exact⟨0,Wh _,rfl,ac.out⟩
 case round =>
  obtain⟨k,hk,rfl,x⟩:=hrel;have Z:=aC x;have f:=HB.out.later x;obtain⟨_,_,d2,d3,d4,_⟩:=f.cells;clear x
  by_cases S:k<X1.length
  ·have r:(k:U9)<(X1.length:U9):=UU
   obtain⟨g,cap,R,P,O,M,j,J,I,H,E,m,e,y0,y1,y2,y3,y4,hj,f1,f2,f3,f4⟩:=f.br.b1.look S;simp only[Yr,true_and] at e;obtain⟨rfl,rfl⟩:=e;have T:=aC (fun W (A:Vj wr.heap.size wr W)=>zA (xc j m _ W (f1.later A).nv UU) (zA (xc (j+1) m _ W (f2.later A).nv UU) (zA (xc (j+2) m _ W (f3.later A).nv UU) (xc (j+3) m _ W (f4.later A).nv UU))));clear f1 f2 f3 f4 f
   go_upto_region 5 with fail
   change Za _ _ _ _ (wr.alloc (mX tI (.slice R j J) (.slice P (j+1) I) (.slice O (j+2) H) (.slice M (j+3) E) (.int .i64 m)));have q:=aC (zA ((zr _ wr).alloc (zq _) (mX tI (.slice R j J) (.slice P (j+1) I) (.slice O (j+2) H) (.slice M (j+3) E) (.int .i64 m))) (cC wr (mX tI (.slice R j J) (.slice P (j+1) I) (.slice O (j+2) H) (.slice M (j+3) E) (.int .i64 m))));generalize wr.alloc (mX tI (.slice R j J) (.slice P (j+1) I) (.slice O (j+2) H) (.slice M (j+3) E) (.int .i64 m))=Z0 at q ⊢
   have U:Hid (∀ W,Vj Z0.heap.size Z0 W->W.cell? ⟨wr.heap.size,0,Vd⟩=Ve (.slice R j J)/\W.cell? ⟨wr.heap.size,1,Vd⟩=Ve (.slice P (j+1) I)/\W.cell? ⟨wr.heap.size,2,Vd⟩=Ve (.slice O (j+2) H)/\W.cell? ⟨wr.heap.size,3,Vd⟩=Ve (.slice M (j+3) E)/\W.cell? ⟨wr.heap.size,4,Vd⟩=Ve (.int .i64 m)):=fun W A=>by
    have C:=(A.block _ (Y9.1 q.out.2).1).trans q.out.2;exact⟨aZ C 0 rfl,aZ C 1 rfl,aZ C 2 rfl,aZ C 3 rfl,aZ C 4 rfl⟩
   clear y0 y1 y2 y3 y4 d2 d3 d4;obtain⟨x0,_,_,_,y⟩:=U.out _ (zr _ _)
   go_upto_region 6 with (first|(go_at_call 56;refine (T.out _ q.out.1).1.mono ?_;rintro e w1 ⟨rfl,h1⟩;have Y:=aC h1;clear h1))
   clear x0 y;obtain⟨_,x1,_,_,y⟩:=U.out _ Y.out
   go_upto_region 7 with (first|(go_at_call 56;refine (T.out _ (bA q.out.1 Y.out (zq _))).2.1.mono ?_;rintro e w2 ⟨rfl,h2⟩;have X:=aC (bA Y.out h2 (zq _));clear h2))
   clear x1 y;obtain⟨_,_,x2,_,y⟩:=U.out _ X.out
   go_upto_region 8 with (first|(go_at_call 56;refine (T.out _ (bA q.out.1 X.out (zq _))).2.2.1.mono ?_;rintro e w3 ⟨rfl,h3⟩;have V:=aC (bA X.out h3 (zq _));clear h3))
   clear x2 y;obtain⟨_,_,_,x3,y⟩:=U.out _ V.out
   go_upto_region 9 with (first|(go_at_call 56;refine (T.out _ (bA q.out.1 V.out (zq _))).2.2.2.mono ?_;rintro e w4 ⟨rfl,h4⟩;have B4:=aC (bA V.out h4 (zq _));clear h4))
   go_wp2
   go_roundw
   case rel=>exact⟨k+1,by omega,by go_num,bA Z.out (bA q.out.1 B4.out (zq _)) (zq _)⟩
   case measure=>simp[intOf];omega
  ·have r:¬ (k:U9)<(X1.length:U9):=UU
   clear f
   go_wp2_with fail
   have ab:=aC Z.out;clear d2 d3 d4 S r hk Z
   go_loopw [9] (fun v wr=>∃ k:U8,k<=X2.length/\v=.int .i64 k/\Vj w.heap.size w wr) (fun v _=>X2.length-(intOf v).toNat)
   case atStart=>exact⟨0,Wh _,rfl,ab.out⟩
   case round =>
    obtain⟨k,hk,rfl,x⟩:=hrel;have Z:=aC x;have f:=HB.out.later x;obtain⟨_,_,d2,d3,d4,_⟩:=f.cells;clear x
    by_cases S:k<X2.length
    ·have r:(k:U9)<(X2.length:U9):=UU
     obtain⟨g,cap,R,P,O,M,j,J,I,H,E,m,e,y0,y1,y2,y3,y4,hj,f1,f2,f3,f4⟩:=f.br.b2.look S;simp only[Yr,true_and] at e;obtain⟨rfl,rfl⟩:=e;have T:=aC (fun W (A:Vj wr.heap.size wr W)=>zA (xg j m _ W (f1.later A).sv UU) (zA (xg (j+1) m _ W (f2.later A).sv UU) (zA (xg (j+2) m _ W (f3.later A).sv UU) (xg (j+3) m _ W (f4.later A).sv UU))));clear f1 f2 f3 f4 f
     go_upto_region 15 with fail
     change Za _ _ _ _ (wr.alloc (mX tS (.slice R j J) (.slice P (j+1) I) (.slice O (j+2) H) (.slice M (j+3) E) (.int .i64 m)));have q:=aC (zA ((zr _ wr).alloc (zq _) (mX tS (.slice R j J) (.slice P (j+1) I) (.slice O (j+2) H) (.slice M (j+3) E) (.int .i64 m))) (cC wr (mX tS (.slice R j J) (.slice P (j+1) I) (.slice O (j+2) H) (.slice M (j+3) E) (.int .i64 m))));generalize wr.alloc (mX tS (.slice R j J) (.slice P (j+1) I) (.slice O (j+2) H) (.slice M (j+3) E) (.int .i64 m))=Z0 at q ⊢
     have U:Hid (∀ W,Vj Z0.heap.size Z0 W->W.cell? ⟨wr.heap.size,0,Vd⟩=Ve (.slice R j J)/\W.cell? ⟨wr.heap.size,1,Vd⟩=Ve (.slice P (j+1) I)/\W.cell? ⟨wr.heap.size,2,Vd⟩=Ve (.slice O (j+2) H)/\W.cell? ⟨wr.heap.size,3,Vd⟩=Ve (.slice M (j+3) E)/\W.cell? ⟨wr.heap.size,4,Vd⟩=Ve (.int .i64 m)):=fun W A=>by
      have C:=(A.block _ (Y9.1 q.out.2).1).trans q.out.2;exact⟨aZ C 0 rfl,aZ C 1 rfl,aZ C 2 rfl,aZ C 3 rfl,aZ C 4 rfl⟩
     clear y0 y1 y2 y3 y4 d2 d3 d4;obtain⟨x0,_,_,_,y⟩:=U.out _ (zr _ _)
     go_upto_region 16 with (first|(go_at_call 57;refine (T.out _ q.out.1).1.mono ?_;rintro e w1 ⟨rfl,h1⟩;have Y:=aC h1;clear h1))
     clear x0 y;obtain⟨_,x1,_,_,y⟩:=U.out _ Y.out
     go_upto_region 17 with (first|(go_at_call 57;refine (T.out _ (bA q.out.1 Y.out (zq _))).2.1.mono ?_;rintro e w2 ⟨rfl,h2⟩;have X:=aC (bA Y.out h2 (zq _));clear h2))
     clear x1 y;obtain⟨_,_,x2,_,y⟩:=U.out _ X.out
     go_upto_region 18 with (first|(go_at_call 57;refine (T.out _ (bA q.out.1 X.out (zq _))).2.2.1.mono ?_;rintro e w3 ⟨rfl,h3⟩;have V:=aC (bA X.out h3 (zq _));clear h3))
     clear x2 y;obtain⟨_,_,_,x3,y⟩:=U.out _ V.out
     go_upto_region 19 with (first|(go_at_call 57;refine (T.out _ (bA q.out.1 V.out (zq _))).2.2.2.mono ?_;rintro e w4 ⟨rfl,h4⟩;have B4:=aC (bA V.out h4 (zq _));clear h4))
     go_wp2
     go_roundw
     case rel=>exact⟨k+1,by omega,by go_num,bA Z.out (bA q.out.1 B4.out (zq _)) (zq _)⟩
     case measure=>simp[intOf];omega
    ·have r:¬ (k:U9)<(X2.length:U9):=UU
     clear f
     go_wp2_with fail
     have aa:=aC Z.out;clear d2 d3 d4 S r hk Z
     go_loopw [15] (fun v wr=>∃ k:U8,k<=X3.length/\v=.int .i64 k/\Vj w.heap.size w wr) (fun v _=>X3.length-(intOf v).toNat)
     case atStart=>exact⟨0,Wh _,rfl,aa.out⟩
     case round =>
      obtain⟨k,hk,rfl,x⟩:=hrel;have Z:=aC x;have f:=HB.out.later x;obtain⟨_,_,d2,d3,d4,_⟩:=f.cells;clear x
      by_cases S:k<X3.length
      ·have r:(k:U9)<(X3.length:U9):=UU
       obtain⟨g,cap,R,P,O,M,j,J,I,H,E,m,e,y0,y1,y2,y3,y4,hj,f1,f2,f3,f4⟩:=f.br.b3.look S;simp only[Yr,true_and] at e;obtain⟨rfl,rfl⟩:=e;have T:=aC (fun W (A:Vj wr.heap.size wr W)=>zA (xj j m _ W (f1.later A).ev UU) (zA (xj (j+1) m _ W (f2.later A).ev UU) (zA (xj (j+2) m _ W (f3.later A).ev UU) (xj (j+3) m _ W (f4.later A).ev UU))));clear f1 f2 f3 f4 f
       go_upto_region 25 with fail
       change Za _ _ _ _ (wr.alloc (mX tE (.slice R j J) (.slice P (j+1) I) (.slice O (j+2) H) (.slice M (j+3) E) (.int .i64 m)));have q:=aC (zA ((zr _ wr).alloc (zq _) (mX tE (.slice R j J) (.slice P (j+1) I) (.slice O (j+2) H) (.slice M (j+3) E) (.int .i64 m))) (cC wr (mX tE (.slice R j J) (.slice P (j+1) I) (.slice O (j+2) H) (.slice M (j+3) E) (.int .i64 m))));generalize wr.alloc (mX tE (.slice R j J) (.slice P (j+1) I) (.slice O (j+2) H) (.slice M (j+3) E) (.int .i64 m))=Z0 at q ⊢
       have U:Hid (∀ W,Vj Z0.heap.size Z0 W->W.cell? ⟨wr.heap.size,0,Vd⟩=Ve (.slice R j J)/\W.cell? ⟨wr.heap.size,1,Vd⟩=Ve (.slice P (j+1) I)/\W.cell? ⟨wr.heap.size,2,Vd⟩=Ve (.slice O (j+2) H)/\W.cell? ⟨wr.heap.size,3,Vd⟩=Ve (.slice M (j+3) E)/\W.cell? ⟨wr.heap.size,4,Vd⟩=Ve (.int .i64 m)):=fun W A=>by
        have C:=(A.block _ (Y9.1 q.out.2).1).trans q.out.2;exact⟨aZ C 0 rfl,aZ C 1 rfl,aZ C 2 rfl,aZ C 3 rfl,aZ C 4 rfl⟩
       clear y0 y1 y2 y3 y4 d2 d3 d4;obtain⟨x0,_,_,_,y⟩:=U.out _ (zr _ _)
       go_upto_region 26 with (first|(go_at_call 58;refine (T.out _ q.out.1).1.mono ?_;rintro e w1 ⟨rfl,h1⟩;have Y:=aC h1;clear h1))
       clear x0 y;obtain⟨_,x1,_,_,y⟩:=U.out _ Y.out
       go_upto_region 27 with (first|(go_at_call 58;refine (T.out _ (bA q.out.1 Y.out (zq _))).2.1.mono ?_;rintro e w2 ⟨rfl,h2⟩;have X:=aC (bA Y.out h2 (zq _));clear h2))
       clear x1 y;obtain⟨_,_,x2,_,y⟩:=U.out _ X.out
       go_upto_region 28 with (first|(go_at_call 58;refine (T.out _ (bA q.out.1 X.out (zq _))).2.2.1.mono ?_;rintro e w3 ⟨rfl,h3⟩;have V:=aC (bA X.out h3 (zq _));clear h3))
       clear x2 y;obtain⟨_,_,_,x3,y⟩:=U.out _ V.out
       go_upto_region 29 with (first|(go_at_call 58;refine (T.out _ (bA q.out.1 V.out (zq _))).2.2.2.mono ?_;rintro e w4 ⟨rfl,h4⟩;have B4:=aC (bA V.out h4 (zq _));clear h4))
       go_wp2
       go_roundw
       case rel=>exact⟨k+1,by omega,by go_num,bA Z.out (bA q.out.1 B4.out (zq _)) (zq _)⟩
       case measure=>simp[intOf];omega
      ·have r:¬ (k:U9)<(X3.length:U9):=UU
       clear f
       go_wp2
       go_ret;exact⟨rfl,Z.out⟩
theorem M1(s:U4)(w:Vh)(U:s.size<=2000000):
  Vk prog 59 #[.string s] w fun e w'=>∃ v,e=.returned v/\w'.ownsRow w.heap.size 9 1 v (aB.aP s).length ((aB.aP s).map Y0)/\Vj w.heap.size w w':=by
 obtain⟨P,R,E,C,A⟩:=info_parts wM
 go_in
 go_wp2
 go_loopw [3,4,5] (fun v c i wr=>∃ k:U8,k<=s.size/\i=.int .i64 k/\c=.string (aB.eG s k)/\wr.ownsRow w.heap.size 9 1 v (aB.jF s k).length ((aB.jF s k).map Y0)/\Vj w.heap.size w wr) (fun _ _ i _=>s.size-(intOf i).toNat)
 case atStart=>exact⟨0,Wh _,rfl,rfl,WK _ _ _ _,Below.refl _ _⟩
 case round =>
  obtain⟨k,I,rfl,rfl,f,h⟩:=hrel;have V:=aB.xz s k
  by_cases T:k<s.size
  ·by_cases y:aB.dP s k=32
   ·have M:((s[k].toNat:U9)==32)=Vg:=beq_iff_eq.2 (by rw[<- aB.jc];exact y);have x:=hide (aB.xK s k I y);clear y
    cases J:(aB.eG s k).toList.isEmpty
    ·have r:Hid ((aB.eG s k).size≠0):=(xh J);have O:=aB.qE s k
     go_wp2_with (first
      |(at_builtin;refine wpList_append_own _ rfl _ _ 26 rfl w.heap.size 9 P (.string ⟨#[]⟩) 1 16 underlying26 R E C A rfl UW _ _ _ rfl (f.alloc _) ⟨wr.heap.size,0,Vd⟩ 1 1 [.string (aB.eG s k)] rfl rfl ?c1 ?c2 ?c3 ?c4 ?c5 ?_)
      |go_in)
     case c1=>exact cell_one_new _ _ _
     case c2=>intro u H;simp at H;subst H;rfl
     case c3=>unfold maxLen;omega
     case c4=>omega
     case c5=>have:=h.size;simp;omega
     intro v' w1 j q _;go_wp2;refine⟨⟨k+1,by omega,by go_num,by rw[(aJ x).1],?_,?_⟩,by simp[intOf];omega⟩
     ·rw[(aJ x).2,Va r.out,Wr,V5];exact j
     ·refine (h.alloc h.size _).grown q (by have:=h.size;simp;omega) (fun k I=>?_);exact ou f I
    ·have r:Hid ((aB.eG s k).size=0):=(wX J);go_wp2;exact⟨⟨k+1,by omega,by go_num,by rw[(aJ x).1],by rw[(aJ x).2,Vb r.out,X5];exact f,h⟩,by simp[intOf];omega⟩
   ·have M:((s[k].toNat:U9)==32)=Vf:=beq_eq_false_iff_ne.2 (by rw[<- aB.jc];exact y);have x:=hide (aB.xy s k y);clear y;go_wp2;exact⟨⟨k+1,by omega,by go_num,by rw[(aJ x).1],by rw[(aJ x).2];exact f,h⟩,by simp[intOf];omega⟩
  ·obtain rfl:k=s.size:=UU
   have S:=hide (aB.vq s)
   cases J:(aB.eG s s.size).toList.isEmpty
   ·have r:Hid ((aB.eG s s.size).size≠0):=(xh J);have O:=aB.qE s s.size
    go_wp2_with (first
     |(at_builtin;refine wpList_append_own _ rfl _ _ 26 rfl w.heap.size 9 P (.string ⟨#[]⟩) 1 16 underlying26 R E C A rfl UW _ _ _ rfl (f.alloc _) ⟨wr.heap.size,0,Vd⟩ 1 1 [.string (aB.eG s s.size)] rfl rfl ?c1 ?c2 ?c3 ?c4 ?c5 ?_)
     |go_in)
    case c1=>exact cell_one_new _ _ _
    case c2=>intro u H;simp at H;subst H;rfl
    case c3=>unfold maxLen;omega
    case c4=>omega
    case c5=>have:=h.size;simp;omega
    intro v' w1 j q _;go_wp2;go_ret;refine⟨v',rfl,?_,?_⟩
    ·rw[aJ S,Va r.out,Wr,V5];exact j
    ·refine (h.alloc h.size _).grown q (by have:=h.size;simp;omega) (fun k I=>?_);exact ou f I
   ·have r:Hid ((aB.eG s s.size).size=0):=(wX J);go_wp2;go_ret;exact⟨_,rfl,by rw[aJ S,Vb r.out,X5];exact f,h⟩
def uS(w:Vh)(g:U8)(L:U5 U4):Prop:=∀ (j:U8)(f:j<L.length),w.cell? ⟨g,j,Vd⟩=Ve (.string L[j])
theorem uS.later{g:U8}{L:U5 U4}(h:uS w g L)(k:Vj w.heap.size w w'):uS w' g L:=fun j f=>aN k (h j f)
def KJ(s:U4)(L:U5 U4)(w:Vh)(e:Ending)(w':Vh):Prop:=∃ b,e=.returned (.bool b)/\(b=Vg->∃ k∈L,bD (aB.aP s) 0 Vf k=Vg)/\Vj w.heap.size w w'
theorem Nj(s:U4)(w:Vh)(X:s.size<=2000000){g:U8}{L:U5 U4}(R:uS w g L)(hl:L.length<=100):
  Vk prog 43 #[.string s,.slice (Ve ⟨g,0,Vd⟩) L.length c] w (KJ s L w):=by
 have Z:=aC (M1 s w X);have HL:=aC R;clear R
 go_in
 go_wp2_with (first|(go_at_call 59;refine Z.out.mono ?_;rintro e w1 ⟨v,rfl,E,P⟩;have J:=aC (zA E P);obtain⟨va,vc,rfl⟩:=gC E;clear E P))
 have M:=aC (HL.out.later J.out.2)
 go_loopw [6] (fun v wr=>∃ k:U8,k<=L.length/\v=.int .i64 k/\wr.heap=w1.heap/\Vj w.heap.size w wr) (fun v _=>L.length-(intOf v).toNat)
 case atStart=>exact⟨0,Wh _,rfl,rfl,J.out.2⟩
 case round =>
  obtain⟨k,hk,rfl,H,j⟩:=hrel;have q:=aC j;clear j
  by_cases h:k<L.length
  ·have f:(k:U9)<(L.length:U9):=UU
   by_cases S:0<(aB.aP s).length
   ·have I:(0:U9)<((aB.aP s).length:U9):=UU
    obtain⟨Y,c1,T,O⟩:=rO J.out.1 (k:=0) (u:=.string ((aB.aP s).getD 0 YN)) (by
     rw[Ys,List.getD_eq_getElem?_getD,Xb S];rfl)
    simp only[Yr,true_and] at T;obtain⟨rfl,rfl⟩:=T;have r:wr.cell? ⟨Y,0,Vd⟩=Ve (.string ((aB.aP s).getD 0 YN)):=by rw[<- O];simp only[VL,H]
    have V:wr.cell? ⟨g,k,Vd⟩=Ve (.string L[k]):=by rw[<- M.out k h];simp only[VL,H]
    clear O;obtain⟨x,A⟩:∃ x,(aB.aP s).getD 0 YN=x:=⟨_,rfl⟩;obtain⟨z,y⟩:∃ z,L[k]=z:=⟨_,rfl⟩;rw[A] at r;rw[y] at V;have U:Hid (z∈L/\((x.toList==z.toList)=Vg->bD (aB.aP s) 0 Vf z=Vg)):=⟨y ▸ zg h,fun C=>by simp only[bD,cB,A,C];simp[S]⟩;clear A y
    cases C:x.toList==z.toList
    ·go_upto_region 5 with fail
     go_quiet (fail)
     go_wp2_with fail
     exact⟨⟨k+1,by omega,by go_num,H,rW q.out _⟩,by simp[intOf];omega⟩
    ·have HI:=aC (U.out.2 C)
     go_upto_region 5 with fail
     go_quiet (fail)
     go_wp2
     go_ret;exact⟨Vg,rfl,fun _=>⟨z,U.out.1,HI.out⟩,rW q.out _⟩
   ·have I:¬ (0:U9)<((aB.aP s).length:U9):=UU
    go_wp2
    go_ret;exact⟨Vf,rfl,by simp,q.out⟩
  ·have f:¬ (k:U9)<(L.length:U9):=UU
   go_wp2
   go_ret;exact⟨Vf,rfl,by simp,q.out⟩
structure mh where
 k:U9
 a:U9
 y:U9
 m:U9
 d:U9
 s:U4
def lj(x:mh):U5 Vi:=[.int .i64 x.k,.int .i64 x.a,.int .i64 x.y,.int .i64 x.m,.int .i64 x.d,.string x.s]
structure Dh(x:mh):Prop where
 a1:-9223372036854775808<=x.a
 a2:x.a<=9223372036854775807
 sz:x.s.size<=2000000
def rI(w:Vh)(b o:U8)(x:mh):Prop:=w.cell? ⟨b,o,Vd⟩=Ve (.int .i64 x.k)/\w.cell? ⟨b,o+1,Vd⟩=Ve (.int .i64 x.a)/\w.cell? ⟨b,o+2,Vd⟩=Ve (.int .i64 x.y)/\w.cell? ⟨b,o+3,Vd⟩=Ve (.int .i64 x.m)/\w.cell? ⟨b,o+4,Vd⟩=Ve (.int .i64 x.d)/\w.cell? ⟨b,o+5,Vd⟩=Ve (.string x.s)
theorem rI.later{o:U8}{x:mh}(h:rI w b o x)(k:Vj w.heap.size w w'):rI w' b o x:=by
 obtain⟨A,y,r,q,j,f⟩:=h;exact⟨aN k A,aN k y,aN k r,aN k q,aN k j,aN k f⟩
theorem KI{X:U5 mh}{k:U8}(f:k<X.length)(o:U8)(h:o<6):(X.flatMap lj)[k*6+o]?=(lj X[k])[o]?:=by
 induction X generalizing k with
 |nil=>simp at f
 |cons a r ih =>
  cases k with
  |zero=>rw[Wv,Nat.zero_mul,Nat.zero_add,Wt (by simpa[lj] using h)];rfl
  |succ k =>
   have:=ih (k:=k) (by simpa using f);rw[Wv,Wz (by simp[lj];omega)];simp only[lj,V6,Wa,List.getElem_cons_succ] at this ⊢;rw[<- this]
   congr 1
   omega
section
variable {w0 w w':Vh}{B n:U8}
theorem LW.env(h:LW w0 w B n):Env w:=by
 obtain⟨tg,D,K,v0,v1,r1,r2,r3,X1,X2,X3,h⟩:=h;exact h.ds.env
theorem LW.bl(h:LW w0 w B n):Vj w0.heap.size w0 w:=by
 obtain⟨tg,D,K,v0,v1,r1,r2,r3,X1,X2,X3,h⟩:=h;exact h.bl
theorem LW.looks(h:LW w0 w B n)(q:n<=900000000):Vk prog 42 #[.pointer (Ve ⟨B,2,Vd⟩)] w fun e w'=>e=.returned (.bool Vg)/\LW w0 w' B n:=by
 have j:=h;obtain⟨tg,D,K,v0,v1,r1,r2,r3,X1,X2,X3,h⟩:=h;refine (Mb h.bk (by have:=h.len;omega)).mono ?_;rintro e w1 ⟨rfl,f⟩;exact⟨rfl,j.later f⟩
def zW:Obj:=.cells #[.slice Vd 0 0,.slice Vd 0 0,.slice Vd 0 0,.slice Vd 0 0,.slice Vd 0 0] 86
theorem LW.start(j:Env w):LW w (w.alloc zW) w.heap.size 0:=by
 have f:Vj w.heap.size w (w.alloc zW):=(zr _ _).alloc (zq _) _;have x:(w.alloc zW).heap.size=w.heap.size+1:=UV
 have h:=j.size;have row:∀ {P:U9->U5 Vi}{t:Vm},lr P t [] (w.alloc zW) (.slice Vd 0 0) []:=⟨WK _ _ _ _,by simp,by simp⟩;have r:∀ b∈bM w.heap.size (.slice Vd 0 0) (.slice Vd 0 0) (.slice Vd 0 0),b=w.heap.size:=fun b f=>by simpa[bM,WI] using f
 refine⟨fun b=>if b=w.heap.size then .bk else .no,[],[],.slice Vd 0 0,.slice Vd 0 0,.slice Vd 0 0,.slice Vd 0 0,.slice Vd 0 0,[],[],[],⟨⟨fun i k q=>by simp at q,j.later f,fun b f=>?_,fun b f=>Va UU⟩,⟨cC w _,⟨row,row,row,by simp⟩,by simp⟩,by simp,WK _ _ _ _,WK _ _ _ _,fun b f=>Vb (r b f),by simp,fun b f=>(by cases f),fun b f=>(by cases f),by simp,f,fun b f=>?_,h⟩⟩
 ·by_cases e:b=w.heap.size
  ·omega
  ·exact (f (Va e)).elim
 ·by_cases e:b=w.heap.size
  ·omega
  ·exact (f (Va e)).elim
def oh(x:mh):Obj:=.cells #[.int .i64 x.k,.int .i64 x.a,.int .i64 x.y,.int .i64 x.m,.int .i64 x.d,.string x.s] 89
def Af(w:Vh)(j:U6 Addr)(h:U8):Prop:=∀ i,i<h->∃ b f x,j=Ve ⟨b,f,Vd⟩/\rI w b (f+i*6) x/\Dh x
theorem KO:(prog.info? 89).map (fun i=>(i.zero,i.size,i.bytes))=Ve (Ve (.agg #[.int .i64 0,.int .i64 0,.int .i64 0,.int .i64 0,.int .i64 0,.string ⟨#[]⟩]),6,56):=UZ
end
end Go.Proofs.YtfigmlfdnickmaaGreatDoor
namespace Go.Proofs.YtfigmlfdnickmaaGreatDoor.uptoLaw
open Go.ChangeShapes Go.WideShapes Go.ChangeAt Go.RowKit
theorem Lz{H:Type}(d:DataW H):1<=Rows.uptoBulk d:=by
 cases d with
 |lit l=>cases l <;> simp[Rows.uptoBulk]
 |_=>simp[Rows.uptoBulk]
theorem D5{H:Type}:∀ l:U5 (DataW H),l.length<=Rows.uptoBulkAll l
 |[]=>zN _
 |d :: r=>by
  have:=D5 r;have:=Lz d;simp only[Rows.uptoBulkAll,V6];omega
theorem D6{H:Type}{d:DataW H}:∀ {l:U5 (DataW H)},d∈l->Rows.uptoBulk d<=Rows.uptoBulkAll l
 |a :: r,h=>by
  simp only[Rows.uptoBulkAll];rcases VA.1 h with rfl|h
  ·omega
  ·have:=D6 h;omega
theorem K6{H:Type}{E:Vm × Vi->H}{y:U8}{q:U8}{cs:U5 Vi}{x:DataW H × U5 MemPlace}(k:U8)
  (hc:W.cells? y (ZR ⟨b,q,Vd⟩ (k*6)) 6=Ve cs) (h:DataW.trod E prog W y spare held n 89 cs=Ve x):∃ o:mh,rI W b (q+k*6) o/\-9223372036854775808<=o.a/\o.a<=9223372036854775807/\o.s.size<=Rows.uptoBulk x.1:=by
 obtain⟨xs,n',_,hx,r,C,A⟩:=DataW.trod_struct underlying89 h;rw[datesLaw.zQ] at r;obtain⟨c0,c1,c2,c3,c4,c5,rfl⟩:=datesLaw.og r;obtain⟨x0,x1,x2,x3,x4,x5,rfl⟩:=datesLaw.og (show xs.length=6 from C);have Z:=A 0 _ rfl;have Y:=A 1 _ rfl;have X:=A 2 _ rfl;have V:=A 3 _ rfl;have U:=A 4 _ rfl;have T:=A 5 _ rfl;simp only[List.getElem_toArray,List.getElem_cons_zero,List.getElem_cons_succ,datesLaw.PG,datesLaw.A7,List.drop,List.take,List.getElem?_cons_zero,List.getElem?_cons_succ] at Z Y X V U T;obtain⟨i0,e0,_,_⟩:=DataW.trod_int underlying3 Z;obtain⟨i1,e1,_,w1⟩:=DataW.trod_int underlying3 Y;obtain⟨i2,e2,_,_⟩:=DataW.trod_int underlying3 X;obtain⟨i3,e3,_,_⟩:=DataW.trod_int underlying3 V;obtain⟨i4,e4,_,_⟩:=DataW.trod_int underlying3 U;obtain⟨I,e5,d5,_⟩:=DataW.trod_string underlying9 T;simp only[List.cons.injEq,and_true] at e0 e1 e2 e3 e4 e5;subst e0 e1 e2 e3 e4 e5;obtain⟨_,_,f⟩:=World.cells?_some hc;have S:=f 0 UW;have R:=f 1 UW;have P:=f 2 UW;have O:=f 3 UW;have M:=f 4 UW;have J:=f 5 UW;have bd:=bounds_i64 w1;have ad:∀ j,ZR (ZR ⟨b,q,Vd⟩ (k*6)) j=⟨b,q+k*6+j,Vd⟩:=fun j=>by rw[Deep.add_add,ZR];simp[Nat.add_assoc]
 simp only[ad,List.getElem?_cons_zero,List.getElem?_cons_succ] at S R P O M J;refine⟨⟨i0,i1,i2,i3,i4,I⟩,⟨S,R,P,O,M,J⟩,bd.1,bd.2,?_⟩;have hz:=aB.rh I;rw[hx,d5];simp only[List.map,Rows.uptoBulk,Rows.uptoBulkAll];omega
theorem script{H:Type}{O:Vm × Vi->H}{E:U8}{T:U6 Addr}{f C:U8}{d:DataW H}{U:U5 MemPlace}(h:DataW.Trod O prog W E spare held 22 (.slice T f C) d U)(S:Rows.uptoBulk d<=1048576):Af W T f/\f<=1900000:=by
 obtain⟨fuel,hf⟩:=h;rcases Deep.open_slice underlying22 hf with ⟨q,_⟩|⟨a,l,c,m,n,D,Pl,q,_,hl,hm,M,hx,y⟩
 ·simp[Value.cells] at q;obtain⟨rfl,rfl,rfl⟩:=q;exact⟨fun i R=>by omega,by omega⟩
 ·simp[Value.cells] at q;obtain⟨rfl,rfl,rfl⟩:=q;have hd:d=.slice ((XT f).map D) ((XT (m-f)).map fun j=>D (f+j)):=congrArg Prod.fst hx;rw[hd] at S;simp only[Rows.uptoBulk] at S;have h1:=D5 ((XT f).map D);rw[List.length_map,List.length_range] at h1;refine⟨fun i R=>?_,by omega⟩;have aa:f<=m:=by rw[M];split <;> omega
  obtain⟨b,J,x⟩:=a;obtain⟨cs,I,ht⟩:=y i UU
  have r:x=Vd:=by
   obtain⟨cs,I,_⟩:=y 0 UU;obtain⟨_,P,A⟩:=World.cells?_some I;rw[datesLaw.zQ] at P A;obtain⟨c0,c1,c2,c3,c4,c5,rfl⟩:=datesLaw.og P;have g:=A 0 UW
   simpa[ZR] using World.cell?_spot g
  subst r;rw[datesLaw.zQ] at I;obtain⟨o,Z,Y,X,V⟩:=K6 i I ht;have h2:=D6 (d:=D i) (l:=(XT f).map D) (List.mem_map.2 ⟨i,List.mem_range.2 R,rfl⟩);exact⟨b,J,o,rfl,Z,Y,X,by simp only at V;omega⟩
end Go.Proofs.YtfigmlfdnickmaaGreatDoor.uptoLaw
namespace Go.Proofs.YtfigmlfdnickmaaGreatDoor
def lM:aA.fJ->Bool
 |.aT ..=>Vg
 |.enter k ..=>k==1
 |.cancel ..=>Vg
 |.list ..=>Vg
 |.cY ..=>Vg
 |.find ..=>Vg
 |.clock=>Vg
 |.series ..=>Vg
 |.expand ..=>Vg
 |_=>Vf
namespace aA
theorem zH(h:Inv s){l:fJ}(q:jA l)(x:lM l=Vg):ec (aU s l).1:=by
 cases l with
 |aT name u =>
  simp only[aU]
  split
  ·exact h.aS
  ·split
   ·exact h.aS
   ·rename_i c1 c2
    exact (h.aT q (by simpa using c1) c2).aS
 |enter k name u fr til long =>
  obtain rfl:k=1:=by simpa[lM] using x
  simp only[aU]
  split
  ·exact h.aS
  ·rename_i c
   simp only[ne_eq,Decidable.not_not] at c;unfold rm at c
   split at c
   ·omega
   ·rename_i c1
    simp only[ne_eq,Decidable.not_not] at c1
    split at c
    ·omega
    ·rename_i c2
     split at c
     ·omega
     ·rename_i c3
      obtain⟨_,l1,j,y,T,S,R⟩:=q;have P:=h.n0;refine h.join c3 ⟨l1,j,by simp[nX],by simp[nX],fun s O=>?_,by simp[nX,gJ],.inl ⟨rfl,by simp[nX]⟩⟩ (Hv c1).2 (fun f=>Vc f (by show ¬ (1:U9)=3;omega)) (fun _=>?_)
      ·have:s=(fr,til):=by simpa[nX] using O
       subst this;show 0<=fr/\fr<til/\til<=1048320;omega
      ·rw[Va UU] at c;show dG s.ts s.es name u [(fr,til)]=Vg
       split at c
       ·assumption
       ·omega
 |cancel id =>
  simp only[aU]
  cases x:nf id s.es with
  |none=>exact h.aS
  |some e =>
   exact h.aS.filter (now':=s.now) (fun e=>e.id != id) (Int.le_refl _) h.n1 (fun z M _ f=>by
    rcases (h.en z M).kd with I|⟨_,J,_⟩
    ·exact Vc I.1 f
    ·exact J)
 |series name u r =>
  simp only[aU]
  split
  ·exact h.aS
  ·rename_i c
   simp only[ne_eq,Decidable.not_not] at c;unfold mK at c
   split at c
   ·omega
   ·rename_i c1
    simp only[ne_eq,Decidable.not_not] at c1
    split at c
    ·omega
    ·rename_i c2
     simp only[ne_eq,Decidable.not_not] at c2
     split at c
     ·omega
     ·rename_i c3
      obtain⟨l1,j,y⟩:=q;obtain⟨H,E,C,A⟩:=Rd.jU y c2;refine h.join c3 ⟨l1,j,A,C,H,E,.inl ⟨rfl,rfl⟩⟩ (Hv c1).2 (fun f=>Vc f (by show ¬ (1:U9)=3;omega)) (fun _=>?_);show dG s.ts s.es name u (Rd.gg r (Rd.bH r))=Vg
      split at c
      ·assumption
      ·omega
 |clock=>exact h.aS
 |list|cY|find|expand=>simp only[aU];split <;> (try split) <;> exact h.aS
 |_=>cases x
theorem Kq(h:Inv s){l:fJ}(f:jA l)(j:lM l=Vg):Inv (ig s l).1:=by
 unfold ig
 split
 ·rename_i c
  rw[Ss c];exact h
 ·exact Uw (zH h f j)
theorem Aa(s:St){l:fJ}(f:lM l=Vg):(aU s l).2.granted=[]:=by
 cases l with
 |aT|list|cY|find|cancel|expand=>simp only[aU];split <;> (try split) <;> rfl
 |enter|series=>simp only[aU,jz];split <;> rfl
 |clock=>rfl
 |_=>cases f
theorem KA(s:St){l:fJ}(h:jA l)(j:lM l=Vg):(aU s l).2.days.length<=60/\(aU s l).2.ended=[]/\((aU s l).2.err≠0->(aU s l).2.entries=[]/\(aU s l).2.days=[])/\((aU s l).2.entries=[]\/∃ name fr til,(aU s l).2.entries=kT name fr til s.es):=by
 have f:∀ r:bO,r.entries=[]->r.days=[]->r.ended=[]->r.days.length<=60/\r.ended=[]/\(r.err≠0->r.entries=[]/\r.days=[])/\(r.entries=[]\/∃ name fr til,r.entries=kT name fr til s.es):=fun r a b c=>⟨by rw[b];simp,c,fun _=>⟨a,b⟩,.inl a⟩
 cases l with
 |list name fr til =>
  simp only[aU]
  split
  ·exact f _ rfl rfl rfl
  ·split
   ·exact f _ rfl rfl rfl
   ·exact⟨by simp[bO.num],rfl,fun e=>Vc rfl e,.inr ⟨name,fr,til,rfl⟩⟩
 |expand r =>
  simp only[aU]
  split
  ·exact f _ rfl rfl rfl
  ·rename_i c
   have:=((Rd.pM h).2 UU).2.2.1;exact⟨by show (Rd.bH r).length<=60;omega,rfl,fun e=>Vc rfl e,.inl rfl⟩
 |aT|cY|find|cancel=>simp only[aU];split <;> (try split) <;> exact f _ rfl rfl rfl
 |enter|series=>simp only[aU,jz];split <;> exact f _ rfl rfl rfl
 |clock=>exact f _ rfl rfl rfl
 |_=>cases j
structure Kk(s:St)(r:bO):Prop where
 en:r.entries.length<=60
 es:∀ e∈r.entries,e∈s.es
 da:r.days.length<=60
 gr:r.granted.length<=60
 ed:r.ended=[]
 er:r.err≠0->(r.entries=[]/\r.days=[])/\r.granted=[]
theorem La(h:Inv s){l:fJ}(y:jA l)(q:lM l=Vg):Kk s (ig s l).2:=by
 obtain⟨x,r,C,A⟩:=KA s y q;have j:=Aa s q
 have f:(aU s l).2.entries.length<=60/\∀ e∈(aU s l).2.entries,e∈s.es:=by
  rcases A with e|⟨name,fr,til,e⟩
  ·rw[e];simp
  ·rw[e];refine⟨?_,fun e E=>(List.mem_filter.1 (yw.1 E)).1⟩;have M:=mb h.aS;have J:=(JC (a:=fr) (b:=til) (s.es.filter (ki name fr til))).length_eq;have H:=List.length_filter_le (ki name fr til) s.es;unfold kT;omega
 unfold ig
 split
 ·rename_i c
  exact⟨f.1,f.2,x,by rw[j];simp,r,fun _=>⟨C c,j⟩⟩
 ·rename_i c
  refine⟨f.1,f.2,x,?_,r,fun e=>Vc e c⟩;have H:=Rx (aU s l).1.ts (aU s l).1.es;have I:=mb (zH h y q);show ((aU s l).2.granted++_).length<=60;rw[j,List.nil_append];omega
end aA
open Go.RowKit
def iC(r:Rd.bL):U8->U5 U9
 |0=>[]
 |k+1=>Rd.vm r (iC r k) (r.fr+k)
theorem Df(r:Rd.bL):∀ n k:U8,Rd.oH r n (r.fr+k) (iC r k)=iC r (k+n)
 |0,k=>rfl
 |n+1,k=>by
  have:=Df r n (k+1);rw[Rd.oH,show k+(n+1)=k+1+n by omega,<- this];simp only[iC];rw[show r.fr+(k:U9)+1=r.fr+((k+1:U8):U9) by omega]
theorem zK{r:Rd.bL}:iC r (728-r.fr).toNat=Rd.bH r:=by
 have:=Df r (728-r.fr).toNat 0;rw[Nat.zero_add] at this;rw[<- this];simp[Rd.bH,iC]
theorem zM(r:Rd.bL):∀ k,(iC r k).length<=k
 |0=>zq _
 |k+1=>by
  have:=zM r k;simp only[iC,Rd.vm]
  split
  ·simp;omega
  ·omega
theorem zh{G:U5 U8}(h:aF G w w')(r:N<=w.heap.size)(j:∀ b∈G,N<=b):Vj N w w':=⟨h.os,h.tape,h.output,h.size,fun b q=>h.block b UU fun f=>by have:=j b f;omega⟩
def qj(r:Rd.bL)(w:Vh)(e:Ending)(w':Vh):Prop:=Vj w.heap.size w w'/\((Rd.gd r=0/\∃ v,e=.returned (.tuple #[v,.int .i64 0])/\w'.ownsRow w.heap.size 3 1 v (Rd.bH r).length ((Rd.bH r).map (V4 .i64)))\/(Rd.gd r≠0/\e=.returned (.tuple #[.slice Vd 0 0,.int .i64 (Rd.gd r)])))
theorem qj.err{r:Rd.bL}{n:U9}(j:Vj w.heap.size w w')(h:Rd.gd r=n)(f:n≠0):qj r w (.returned (.tuple #[.slice Vd 0 0,.int .i64 n])) w':=⟨j,.inr ⟨by rw[h];exact f,by rw[h]⟩⟩
theorem Dx(r:Rd.bL)(Y:Rd.fw r)(w:Vh):Vk prog 181 #[mO r] w (qj r w):=by
 have f0:=Y.f0;have f1:=Y.f1;have t0:=Y.t0;have HF:=aC Y;have BX:=aC (zA ((zr _ w).alloc (zq _) (gW r)) (cC w (gW r)));have HS:=aC (fun d (h0:r.fr<=d) (h1:d<728) W=>Kj r Y d h0 h1 W);simp only[mO,pY] at HS ⊢;clear Y
 go_in
 go_upto_region 1 with fail
 change Za _ _ _ _ (w.alloc (gW r));generalize w.alloc (gW r)=W0 at *;have CL:Hid (∀ W,Vj W0.heap.size W0 W->W.heap[w.heap.size]?=Ve (gW r)):=fun W k=>(k.block _ (Y9.1 BX.out.2).1).trans BX.out.2
 obtain⟨⟨c0,c1,c9,C,A,j,M⟩,_⟩:=nw BX.out.2
 go_wp2_with fail
 clear c0 c1 c9 C A j M
 go_loopw [4,5,6] (fun v d _ wr=>∃ k:U8,k<=(728-r.fr).toNat/\d=.int .i64 (r.fr+k)/\wr.ownsRow W0.heap.size 3 1 v (iC r k).length ((iC r k).map (V4 .i64))/\Vj W0.heap.size W0 wr) (fun _ d _ _=>(728-intOf d).toNat)
 case atStart=>exact⟨0,Wh _,by simp,WK _ _ _ _,Below.refl _ _⟩
 case round =>
  obtain⟨k,hk,rfl,ho,h⟩:=hrel;have I:=aC (zA ho h);obtain⟨va,vc,rfl⟩:=gC ho;clear ho h
  by_cases f:r.fr+k<728
  ·obtain⟨⟨c0,c1,c9,C,A,j,M⟩,P⟩:=nw (CL.out _ I.out.2);have j0:=P 0 UU;have j1:=P 1 UU;have j2:=P 2 UU;have j3:=P 3 UU;have j4:=P 4 UU;have j5:=P 5 UU;have j6:=P 6 UU;clear P;have wd:Vp.wrap (r.fr+k+1)=r.fr+k+1:=cG UU UU
   go_upto_region 6 with (first|(go_at_call 239;refine (HS.out (r.fr+k) UU f _).mono ?_;rintro e w1 ⟨rfl,ad⟩;have B1:=aC ad;clear ad))
   have T:=aC (eu I.out.1 B1.out);have BK:=aC (bA I.out.2 B1.out (zq _));have H:=zM r k;clear c0 c1 c9 C A j M j0 j1 j2 j3 j4 j5 j6;obtain⟨⟨_,_,_,_,_,j,M⟩,_⟩:=nw (CL.out _ BK.out)
   cases E:Rd.has r (r.fr+k)
   ·have HN:Hid (iC r (k+1)=iC r k):=Va (fun e=>by rw[E] at e;exact Vc e.1 UV);clear E
    go_wp2_with fail
    exact⟨⟨k+1,by omega,by go_num,by rw[HN.out];exact T.out,BK.out⟩,by simp[intOf];omega⟩
   ·by_cases ht:r.ti=0
    ·have af:(r.ti==0)=Vg:=by simp[ht]
     have aa:¬ (0:U9)<r.ti:=UU
     by_cases hu:r.fr+k<=r.un
     ·have HY:Hid (iC r (k+1)=iC r k++[r.fr+k]):=Vb ⟨E,.inl ⟨ht,hu⟩⟩;clear E
      go_wp2_with (first|(at_builtin;refine zk rfl _ _ rfl T.out (r.fr+k) rfl rfl UU (by have:=I.out.2.size;have:=B1.out.size;omega) ?_;intro v' w2 o2 k2))
      exact⟨⟨k+1,by omega,by go_num,by rw[HY.out];exact o2,BK.out.trans (zh k2 BK.out.size fun b E=>(T.out.lt b (WW.1 E)).1)⟩,by simp[intOf];omega⟩
     ·have HN:Hid (iC r (k+1)=iC r k):=Va (fun e=>by rcases e.2 with q|q <;> omega);clear E
      go_wp2_with fail
      exact⟨⟨k+1,by omega,by go_num,by rw[HN.out];exact T.out,BK.out⟩,by simp[intOf];omega⟩
    ·have af:(r.ti==0)=Vf:=by simp[ht]
     have aa:(0:U9)<r.ti:=UU
     by_cases hu:((iC r k).length:U9)<r.ti
     ·have HY:Hid (iC r (k+1)=iC r k++[r.fr+k]):=Vb ⟨E,.inr ⟨aa,hu⟩⟩;clear E
      go_wp2_with (first|(at_builtin;refine zk rfl _ _ rfl T.out (r.fr+k) rfl rfl UU (by have:=I.out.2.size;have:=B1.out.size;omega) ?_;intro v' w2 o2 k2))
      exact⟨⟨k+1,by omega,by go_num,by rw[HY.out];exact o2,BK.out.trans (zh k2 BK.out.size fun b E=>(T.out.lt b (WW.1 E)).1)⟩,by simp[intOf];omega⟩
     ·have HN:Hid (iC r (k+1)=iC r k):=Va (fun e=>by rcases e.2 with q|q <;> omega);clear E
      go_wp2_with fail
      exact⟨⟨k+1,by omega,by go_num,by rw[HN.out];exact T.out,BK.out⟩,by simp[intOf];omega⟩
  ·have S:k=(728-r.fr).toNat:=UU
   rw[S,zK] at I;have H:=zM r (728-r.fr).toNat;rw[S,zK];rw[zK] at H;have B0:=aC (bA BX.out.1 I.out.2 (zq _));obtain⟨⟨_,_,_,C,A,j,_⟩,_⟩:=nw (CL.out _ I.out.2);clear hk S f;have ag:(Rd.bH r).length<=728:=UU
   clear H
   by_cases ae:40<(Rd.bH r).length
   ·have O:(40:U9)<((Rd.bH r).length:U9):=UU
    have J:Hid (Rd.gd r=11):=Vb (.inl ae)
    go_wp2
    go_ret2;exact qj.err B0.out J.out UW
   have O:¬ (40:U9)<((Rd.bH r).length:U9):=UU
   by_cases ht:40<r.ti
   ·have J:Hid (Rd.gd r=11):=Vb (.inr ht)
    go_wp2
    go_ret2;exact qj.err B0.out J.out UW
   have U:Hid (¬ (40<(Rd.bH r).length\/40<r.ti)):=by rw[Hid];omega
   by_cases hz:(Rd.bH r).length=0
   ·have Z:(((Rd.bH r).length:U9)==0)=Vg:=by simp[hz]
    have J:Hid (Rd.gd r=6):=(Va U.out).trans (Vb (.inl (V9.1 hz)))
    go_wp2
    go_ret2;exact qj.err B0.out J.out UW
   have Z:(((Rd.bH r).length:U9)==0)=Vf:=by rw[beq_eq_false_iff_ne];omega
   by_cases X:((Rd.bH r).length:U9)<r.ti
   ·have J:Hid (Rd.gd r=6):=(Va U.out).trans (Vb (.inr X))
    go_wp2
    go_ret2;exact qj.err B0.out J.out UW
   have J:Hid (Rd.gd r=if (Rd.bH r).any (Rd.lV r) then 6 else 0):=(Va U.out).trans (Va (by
    rintro (e|e)
    ·exact hz (by rw[e];rfl)
    ·exact X e))
   have ai:0<(Rd.bH r).length:=UU
   go_wp2_with fail
   have MM:=aC (fun i (hi:i<(Rd.bH r).length)=>zA (Rd.sI HF.out (zg hi)) (zA HF.out.m0 (zA HF.out.m1 (zA HF.out.i1 HF.out.i2))));clear HS C A j ae ht hz X Z O;obtain⟨V,hV⟩:∃ V,V=wr:=⟨_,rfl⟩;subst hV
   go_loopw [7] (fun v wx=>∃ i:U8,i<=(Rd.bH r).length/\v=.int .i64 i/\(∀ x∈(Rd.bH r).take i,Rd.lV r x=Vf)/\Vj V.heap.size V wx) (fun v _=>(Rd.bH r).length-(intOf v).toNat)
   case atStart=>exact⟨0,Wh _,rfl,by simp,Below.refl _ _⟩
   case round =>
    obtain⟨i,hi,rfl,ab,h⟩:=hrel;have R:=aC (zA ab (zA h (bA B0.out h (zq _))));clear ab h
    by_cases f:i<(Rd.bH r).length
    ·have ac:(i:U9)<((Rd.bH r).length:U9):=UU
     obtain⟨g,cap,e,y⟩:=rO I.out.1 (k:=i) (u:=.int .i64 (Rd.bH r)[i]) (by rw[Ys,Xb f];rfl);simp only[Yr,true_and] at e;obtain⟨rfl,rfl⟩:=e;have y':=aN R.out.2.1 y;clear y;obtain⟨⟨_,_,_,C,A,_⟩,_⟩:=nw (CL.out _ (bA I.out.2 R.out.2.1 (zq _)));obtain⟨⟨m1,m2⟩,m3,m4,m5,m6⟩:=MM.out i f
     have HT:Hid (∀ x∈(Rd.bH r).take (i+1),x∈(Rd.bH r).take i\/x=(Rd.bH r)[i]):=fun x hx=>by
      rw[Wg f] at hx;exact (VB.1 hx).imp id YD.1
     have HM:Hid ((Rd.bH r)[i]∈Rd.bH r):=zg f;generalize (Rd.bH r)[i]=x at *;have w1:Vp.wrap (1440*x)=1440*x:=cG UU UU;have w2:Vp.wrap (1440*x+r.mn)=1440*x+r.mn:=cG UU UU;have w3:Vp.wrap (1440*x+r.mn+r.mi)=1440*x+r.mn+r.mi:=cG UU UU
     by_cases aj:(1048320:U9)<1440*x+r.mn+r.mi
     ·have HX:Hid (Rd.gd r=6):=J.out.trans (Vb (XI.2 ⟨x,HM.out,decide_eq_true UU⟩))
      go_upto_region 15 with fail
      go_quiet (fail)
      go_wp2
      go_ret2;exact qj.err (rW R.out.2.2 _) HX.out UW
     ·go_upto_region 15 with fail
      go_quiet (fail)
      go_wp2_with fail
      exact⟨⟨i+1,by omega,by go_num,fun y hy=>by
       rcases HT.out y hy with e|e
       ·exact R.out.1 y e
       ·rw[e];exact decide_eq_false UU,rW R.out.2.1 _⟩,by simp[intOf];omega⟩
    ·have ac:¬ (i:U9)<((Rd.bH r).length:U9):=UU
     have HX:Hid (Rd.gd r=0):=J.out.trans (Va (by
      rw[XI];rintro ⟨x,hx,X⟩;rw[R.out.1 x (by rw[List.take_of_length_le UU];exact hx)] at X
      cases X))
     go_wp2
     go_ret2;exact⟨R.out.2.2,.inl ⟨HX.out,_,rfl,uV (eu I.out.1 R.out.2.1) BX.out.1.size⟩⟩
open aA (aL St bO aU)
theorem Mg:(prog.info? 315).map (fun i=>(i.zero,i.size,i.bytes))=Ve (Ve (.agg #[.string ⟨#[]⟩,.int .i64 0]),2,24):=UZ
theorem Eu(f:Array Vi)(w:Vh):(callFunc 126 f).run prog w=.ok (.enter 126 f) w:=UZ
theorem DD.oR{Y w5:Vh}{d:U8}{xs:U5 (aL × U8 × U8)}{g cap:U8}{t:U4 × U9}(h:DD Y d s xs F)(cv:Y.cell? ⟨d,0,Vd⟩=Ve v)(ho:Y.ownsRow 0 315 2 v s.ts.length (s.ts.flatMap jq))(r:∀ k,v.ownBlock=Ve k->k∈F/\k≠d)(k:aF (v.ownBlock.toList) Y w5)(E:w5.ownsRow 0 315 2 (.slice (Ve ⟨g,0,Vd⟩) (s.ts.length+1) cap) (s.ts.length+1) (s.ts.flatMap jq++jq t))(U:v.ownBlock=Ve g\/Y.heap.size<=g)(hl:s.ts.length<4):
  DD (w5.setCell ⟨d,0,Vd⟩ (.slice (Ve ⟨g,0,Vd⟩) (s.ts.length+1) cap)) d { s with ts:=s.ts++[t] } xs (g :: F)/\aF F Y (w5.setCell ⟨d,0,Vd⟩ (.slice (Ve ⟨g,0,Vd⟩) (s.ts.length+1) cap)):=by
 obtain⟨v2,b1,Z,S⟩:=h.rd.ev;have O:d<Y.heap.size:=h.lt d h.rd.dF
 have H:g≠d:=by
  rcases U with e|e
  ·exact (r g e).2
  ·omega
 have j:∀ y∈v.ownBlock.toList,y∈F/\y≠d:=fun y f=>r y (by simpa using f)
 have A:d ∉ v.ownBlock.toList:=fun e=>(j d e).2 rfl
 have T:aF [d] w5 (w5.setCell ⟨d,0,Vd⟩ (.slice (Ve ⟨g,0,Vd⟩) (s.ts.length+1) cap)):=aF.aY ..;have C:aF (d :: v.ownBlock.toList) Y (w5.setCell ⟨d,0,Vd⟩ (.slice (Ve ⟨g,0,Vd⟩) (s.ts.length+1) cap)):=(k.mono (by intro y f;exact WV _ f)).setCell (.inl UV) _ _
 have P:∀ y,y ∉ F->y ∉ d :: v.ownBlock.toList:=by
  intro y f e;rcases VA.1 e with rfl|e
  ·exact f h.rd.dF
  ·exact f (j y e).1
 have M:∀ b,v2.ownBlock=Ve b->b ∉ d :: v.ownBlock.toList:=by
  intro b q e;rcases VA.1 e with e|e
  ·exact (S b q).2 e
  ·have e:v.ownBlock=Ve b:=by simpa using e
   rcases ho.2 with ⟨rfl,_⟩|⟨g',X,aa,rfl,_,hh,_⟩
   ·simp[WI] at e
   ·simp[WI] at e;subst e;exact iu Z hh UW q
 have R:∀ o u,Y.cell? ⟨d,o,Vd⟩=Ve u->o≠0->(w5.setCell ⟨d,0,Vd⟩ (.slice (Ve ⟨g,0,Vd⟩) (s.ts.length+1) cap)).cell? ⟨d,o,Vd⟩=Ve u:=fun o u hu _=>(zS _ _ _ _ UV).trans (k.cell A hu)
 refine⟨⟨⟨⟨_,World.cell?_setCell_same _ _ _ (k.cell A cv),?_,fun b q=>?_⟩,⟨v2,R 1 _ b1 UU,dO Z C M,fun b q=>⟨WV _ (S b q).1,(S b q).2⟩⟩,R 2 _ h.rd.c2 UU,R 3 _ h.rd.c3 UU,fun o=>(zF ..).trans ((k.frozen A O).trans (h.rd.fz o)),WV _ h.rd.dF,fun y f=>?_⟩,h.es,fun x J=>?_,?_,h.el,h.en⟩,C.mono (fun y f=>?_)⟩
 ·have e1:(s.ts++[t]).flatMap jq=s.ts.flatMap jq++jq t:=UV
  rw[e1,V5];exact dO E T (fun b q=>by simp[WI] at q;subst q;simpa using H)
 ·simp[WI] at q;subst q;exact⟨by simp,H⟩
 ·obtain⟨y1,I,y3⟩:=h.rd.sp y f;refine⟨y1.off C (P _ I),fun e=>?_,Nat.lt_of_lt_of_le y3 C.size⟩;rcases VA.1 e with e|e
  ·rcases U with V|V
   ·exact I (e ▸ (r g V).1)
   ·omega
  ·exact I e
 ·rcases VA.1 J with rfl|J
  ·exact zL (eV E rfl) T.size
  ·exact zL (h.lt x J) C.size
 ·simp;omega
 ·rcases VA.1 f with rfl|f
  ·exact h.rd.dF
  ·exact (j y f).1
theorem M5{d:U8}{xs:U5 (aL × U8 × U8)}(h:DD w d s xs F){g:U8}(hl:2<n)(z2:ut.size<=160)(aq:0<=aA.bJ name s.ts)(h1:w.cell? ⟨g,1,Vd⟩=Ve (.string name))(h2:w.cell? ⟨g,2,Vd⟩=Ve (.string ut)):
  Vk prog 172 #[.pointer (Ve ⟨d,0,Vd⟩),.slice (Ve ⟨g,0,Vd⟩) n c] w (dK w d F xs (aU s (.aT name (bF ut 1 7)))):=by
 obtain⟨ti,ak,ai,ag,af⟩:=info_parts Mg;have C:=aC ((KP.nil w).alloc aX);have H:=aC h;have D0:=aC (h.later C.out.bl);have i1:(1:U9)<(n:U9):=UU
 have i2:(2:U9)<(n:U9):=UU
 have y1:=aN C.out.bl h1;have y2:=aN C.out.bl h2;have UN:=aC (D0.out.aH name);have NM:=aC (fun wx=>eP ut 1 7 wx z2 UU UU);have HD:Hid (aU s (.aT name (bF ut 1 7))=if aA.bJ name s.ts≠0 then (s,.error 4) else if s.ts.length=4 then (s,.error 5) else ({ s with ts:=s.ts++[(name,bF ut 1 7)] },.num 0)):=rfl;clear h
 go_in
 go_upto_region 1 with fail
 change Za _ _ _ _ (w.alloc aX);generalize w.alloc aX=X at *;generalize bF ut 1 7=u at *;generalize aA.bJ name s.ts=un at *
 go_wp2_with fail
 refine UN.out.mono ?_;rintro e w1 ⟨rfl,rfl⟩;clear UN;have Q1:=aC (Q7.of (C.out.kb (w.heap.size,aX) UV));obtain⟨v,cv,ho,V⟩:=D0.out.rd.tv;obtain⟨O,f,rfl⟩:=gC ho
 by_cases a1:0<un
 ·have HF:Hid (dK w d F xs (aU s (.aT name u)) (.returned (bC 4 0 0 aR aR aR aR)) (cK w1 w.heap.size (.int .i64 4) (.int .i64 0) (.int .i64 0) aR aR aR aR)):=by
   show dK w d F xs _ _ _;rw[HD.out,Vb UU];exact H.out.said C.out.bl (zq _) 4 0 _ _ _ _ _ _ _
  obtain⟨U,q1,q2,q3,T,S,R,fq⟩:=Q1.out
  go_wp2_with fail
  exact cO results172 ⟨U,q1,q2,q3,T,S,R,fq⟩ HF.out
 ·by_cases a2:s.ts.length=4
  ·have HF:Hid (dK w d F xs (aU s (.aT name u)) (.returned (bC 5 0 0 aR aR aR aR)) (cK w1 w.heap.size (.int .i64 5) (.int .i64 0) (.int .i64 0) aR aR aR aR)):=by
    show dK w d F xs _ _ _;rw[HD.out,Va UU,Vb a2];exact H.out.said C.out.bl (zq _) 5 0 _ _ _ _ _ _ _
   have ae:((s.ts.length:U9)==4)=Vg:=by simp;omega
   obtain⟨U,q1,q2,q3,T,S,R,fq⟩:=Q1.out
   go_wp2_with fail
   exact cO results172 ⟨U,q1,q2,q3,T,S,R,fq⟩ HF.out
  ·have ae:((s.ts.length:U9)==4)=Vf:=by simp;omega
   have aj:s.ts.length<4:=by have:=H.out.tl;omega
   have E9:Hid (aU s (.aT name u)=({ s with ts:=s.ts++[(name,u)] },⟨0,0,0,[],[],[],[]⟩)):=by
    show _=_;rw[HD.out,Va UU,Va a2];rfl
   have fd:=D0.out.rd.fz 0;have P:=aC (zA ho V);clear ho V a2 HD
   go_upto_region 6 with fail
   go_cut [34] from 21 to 37 (fun _ wx=>∃ A M Y w5,Vj w1.heap.size w1 Y/\aF ((Ze O s.ts.length f).ownBlock.toList) Y w5/\w5.ownsRow 0 315 2 (.slice (Ve ⟨A,0,Vd⟩) (s.ts.length+1) M) (s.ts.length+1) (s.ts.flatMap jq++jq (name,u))/\((Ze O s.ts.length f).ownBlock=Ve A\/Y.heap.size<=A)/\wx=w5.setCell ⟨d,0,Vd⟩ (.slice (Ve ⟨A,0,Vd⟩) (s.ts.length+1) M))
   case first =>
    go_region_law (first
     |(refine qZ (by rfl) 126 _ _ (by rfl) _ (by simp[Act.eval]) (Eu _ _) (NM.out _) ?_;rintro e w4 ⟨rfl,ac⟩;refine⟨_,rfl,?_⟩;have j:Vj w1.heap.size w1 w4:=bA (dM w1) ac (zq _);have I:=aN j cv;have aw:∀ o,(w4.alloc o).cell? ⟨d,0,Vd⟩=Ve (.slice O s.ts.length f):=(fun o=>aN ((zr _ _).alloc (zq _) _) I);have ao:=aN j y1;have an:=(j.frozen (Vr _ _ cv)).trans fd;clear ac)
     |(refine step_append_lies _ rfl _ _ 103 rfl 0 315 ti _ 2 24 underlying103 ak ai ag af rfl UW (.slice O s.ts.length f) s.ts.length (s.ts.flatMap jq) rfl (eu P.out.1 (bA j ((zr _ _).alloc (zq _) _) (zq _))) ⟨w4.heap.size,0,Vd⟩ 1 1 (jq (name,u)) rfl rfl (WM (cs:=(jq (name,u)).toArray) (cC w4 _)) (by simp[jq,WN]) UU U1 UU (zN _) (w4.heap.size+1) UV ?_;intro A M w5 r E y ar;have kk:aF ((Ze O s.ts.length f).ownBlock.toList) w4 w5:=aF.grown ((aF.refl _ w4).alloc _) E (fun k hk=>.inl (by simp[hk]));have ab:d ∉ (Ze O s.ts.length f).ownBlock.toList:=(fun e=>(P.out.2 d (by simpa using e)).2 rfl);have z1:=kk.cell ab I;have z2:=(kk.frozen (o:=0) ab (Vr _ _ I)).trans an))
    all_goals
     go_wp2
     go_meet
     exact⟨A,M,w4,w5,j,kk,r,y.imp id (fun e=>by omega),rfl⟩
   case rest =>
    obtain⟨A,M,Y,w5,J,k5,r,y,rfl⟩:=hcut;obtain⟨hJ,hO⟩:=(D0.out.later J).oR (aN J cv) (eu P.out.1 J) P.out.2 k5 r y aj;have ad:w.heap.size ∉ F:=fun e=>by have:=H.out.lt _ e;omega
    have hQ:w.heap.size<w1.heap.size:=Vr _ _ Q1.out.q0;have au:=J.size;have al:=hO.block w.heap.size UU ad;have Q2:=aC ((Q1.out.later (J.block _ hQ)).later al)
    have aa:∀ x∈A :: F,x∈F\/Y.heap.size<=x:=fun x q=>by
     rcases VA.1 q with rfl|q
     ·exact y.imp (fun e=>(P.out.2 x e).1) id
     ·exact .inl q
    have hz:=C.out.bl.size;have hw:aF F w (w5.setCell ⟨d,0,Vd⟩ (.slice (Ve ⟨A,0,Vd⟩) (s.ts.length+1) M)):=((aF.aD C.out.bl).trans (aF.aD J)).trans hO;generalize w5.setCell ⟨d,0,Vd⟩ _=Z at *
    have HF:Hid (dK w d F xs ({ s with ts:=s.ts++[(name,u)] },⟨0,0,0,[],[],[],[]⟩) (.returned (bC 0 0 0 aR aR aR aR)) (cK Z w.heap.size (.int .i64 0) (.int .i64 0) (.int .i64 0) aR aR aR aR)):=by
     refine hJ.mu (fun x q=>(aa x q).imp id (fun e=>by omega)) hw (zq _) (fun e=>?_) (fun x q e=>?_) (fun x q=>.inl ⟨x,q,rfl⟩) 0 0 _ _ _ _ _ _ _
     ·rcases aa _ e with e|e
      ·exact ad e
      ·omega
     ·have:=(H.out.rd.sp x q).2.2;omega
    obtain⟨U,q1,q2,q3,T,S,R,fq⟩:=Q2.out;clear hJ hO hw P k5 r cv
    go_wp2_with fail
    exact cO results172 ⟨U,q1,q2,q3,T,S,R,fq⟩ (by rw[E9.out];exact HF.out)
theorem K0(f:Array Vi)(w:Vh):(callFunc 237 f).run prog w=.ok (.enter 237 f) w:=UZ
theorem MJ{d:U8}{xs:U5 (aL × U8 × U8)}(h:DD w d s xs F){lt:U4}{g:U8}(hn:5<n)(z2:ut.size<=160)(z3:lt.size<=160)(z4:ft.size<=160)(z5:tt.size<=160)(Y:0<=bF ut 1 7/\bF ut 1 7<=9)(S:0<=bF lt 1 7/\bF lt 1 7<=1048320)(T:0<=cZ ft/\cZ ft<=1048320)(h1:w.cell? ⟨g,1,Vd⟩=Ve (.string name))(h2:w.cell? ⟨g,2,Vd⟩=Ve (.string ut))(h3:w.cell? ⟨g,3,Vd⟩=Ve (.string lt))(h4:w.cell? ⟨g,4,Vd⟩=Ve (.string ft))(h5:w.cell? ⟨g,5,Vd⟩=Ve (.string tt)):
  Vk prog 178 #[.pointer (Ve ⟨d,0,Vd⟩),.slice (Ve ⟨g,0,Vd⟩) n c] w (dK w d F xs (aU s (.find name (bF ut 1 7) (bF lt 1 7) (cZ ft) (cZ tt)))):=by
 have f:=aC ((KP.nil w).alloc aX);have H:=aC h;have i1:(1:U9)<(n:U9):=UU
 have i2:(2:U9)<(n:U9):=UU
 have i3:(3:U9)<(n:U9):=UU
 have i4:(4:U9)<(n:U9):=UU
 have i5:(5:U9)<(n:U9):=UU
 have y2:=aN f.out.bl h2;have N1:=aC (fun wx=>eP ut 1 7 wx z2 UU UU);have N2:=aC (fun wx=>eP lt 1 7 wx z3 UU UU);have T1:=aC (fun wx=>qv ft wx z4);have T2:=aC (fun wx=>qv tt wx z5);have R:Hid (aU s (.find name (bF ut 1 7) (bF lt 1 7) (cZ ft) (cZ tt))=if aA.dH s.ts name (bF ut 1 7)≠0 then (s,.error (aA.dH s.ts name (bF ut 1 7))) else if cZ tt<=cZ ft then (s,.error 6) else (s,.num (aA.iY s.ts s.es name (bF ut 1 7) (bF lt 1 7) (cZ ft) (cZ tt)))):=rfl;clear h
 go_in
 go_upto_region 1 with fail
 change Za _ _ _ _ (w.alloc aX);generalize w.alloc aX=X at *;generalize aU s _=D at *;generalize bF ut 1 7=u at *;generalize bF lt 1 7=lo at *;generalize cZ ft=fr at *;generalize cZ tt=til at *
 go_wp2_with fail
 refine (N1.out _).mono ?_;rintro e w1 ⟨rfl,j⟩;replace f:=aC (f.out.later j);have y4:=aN f.out.bl h4;clear j y2
 go_wp2_with fail
 refine (T1.out _).mono ?_;rintro e w2 ⟨rfl,j⟩;replace f:=aC (f.out.later j);have y5:=aN f.out.bl h5;clear j y4
 go_wp2_with fail
 refine (T2.out _).mono ?_;rintro e w3 ⟨rfl,j⟩;replace f:=aC (f.out.later j);have y1:=aN f.out.bl h1;have y3:=aN f.out.bl h3;clear j y5 N1 T1 T2 X;have D0:=aC (H.out.later f.out.bl);have AK:=aC (D0.out.asked name u);have hQ:w.heap.size<w3.heap.size:=f.out.lt (q:=(w.heap.size,aX)) UV;have U:=aC (Q7.of (f.out.kb (w.heap.size,aX) UV));generalize aA.dH s.ts name u=an at *
 go_wp2_with fail
 refine AK.out.mono ?_;rintro e w4 ⟨rfl,rfl⟩;clear AK
 have x:Hid (∀ O,D=(s,.error O)->dK w d F xs D (.returned (bC O 0 0 aR aR aR aR)) (cK w4 w.heap.size (.int .i64 O) (.int .i64 0) (.int .i64 0) aR aR aR aR)):=fun O e=>by
  rw[e];exact H.out.said f.out.bl (zq _) O 0 _ _ _ _ _ _ _
 by_cases P:an=0
 ·subst P
  by_cases Z:til<=fr
  ·have V:=aC (x.out 6 (by rw[R.out];simp[Z]));obtain⟨E,q1,q2,q3,C,A,y,M⟩:=U.out
   go_wp2_with fail
   exact cO results178 ⟨E,q1,q2,q3,C,A,y,M⟩ V.out
  ·have E9:Hid (D=(s,.num (aA.iY s.ts s.es name u lo fr til))):=by show _=_;rw[R.out,Va UV,Va Z]
   have FN:Hid (∀ wx,Vj w4.heap.size w4 wx->Vk prog 237 #[.pointer (Ve ⟨d,0,Vd⟩),.string name,.int .i64 u,.int .i64 lo,.int .i64 fr,.int .i64 til] wx fun e w'=>e=.returned (.int .i64 (aA.iY s.ts s.es name u lo fr til))/\Vj wx.heap.size wx w'):=fun wx k=>(D0.out.later k).find name u lo fr til Y.1 Y.2 S.1 UU T.1 UU
   have AF:Hid (∀ wx,Vj w4.heap.size w4 wx->Q7 wx w.heap.size/\dK w d F xs D (.returned (bC 0 0 (aA.iY s.ts s.es name u lo fr til) aR aR aR aR)) (cK wx w.heap.size (.int .i64 0) (.int .i64 0) (.int .i64 (aA.iY s.ts s.es name u lo fr til)) aR aR aR aR)):=fun wx k=>⟨U.out.later (k.block _ hQ),by rw[E9.out];exact H.out.said (bA f.out.bl k (zq _)) (zq _) 0 _ _ _ _ _ _ _ _⟩
   generalize aA.iY s.ts s.es name u lo fr til=fv at *;clear x E9 R
   go_upto_region 9 with fail
   go_region_law (first
    |(refine qZ (by rfl) 126 _ _ (by rfl) _ (by simp[Act.eval]) (Eu _ _) (N2.out _) ?_;rintro e w5 ⟨rfl,J⟩;refine⟨_,rfl,?_⟩;have r:Vj w4.heap.size w4 w5:=bA (dM w4) J (zq _);have ab:=aN r y1;clear J)
    |(refine qZ (by rfl) 237 _ _ (by rfl) _ (by simp[Act.eval]) (K0 _ _) (FN.out _ r) ?_;rintro e w6 ⟨rfl,I⟩;refine⟨_,rfl,?_⟩;have FF:=aC (AF.out w6 (bA r I (zq _)));obtain⟨⟨E,q1,q2,q3,C,A,y,M⟩,_⟩:=FF.out;clear I))
   all_goals
    go_wp2_with fail
    exact cO results178 ⟨E,q1,q2,q3,C,A,y,M⟩ FF.out.2
 ·have V:=aC (x.out an (by rw[R.out,Vb P]));have ac:(an==0)=Vf:=by simpa using P
  have aa:(an != 0)=Vg:=by simpa using P
  obtain⟨E,q1,q2,q3,C,A,y,M⟩:=U.out;clear P
  go_wp2_with fail
  exact cO results178 ⟨E,q1,q2,q3,C,A,y,M⟩ V.out
def jW(kw:U4)(ev:U9)(m:U9->Bool)(fr mn mi ti un:U9):Obj:=.cells #[.string kw,.int .i64 ev,.bool (m 0),.bool (m 1),.bool (m 2),.bool (m 3),.bool (m 4),.bool (m 5),.bool (m 6),.int .i64 fr,.int .i64 mn,.int .i64 mi,.int .i64 ti,.int .i64 un] 273
abbrev rB(kw:U4)(ev:U9):Obj:=jW kw ev (fun _=>Vf) 0 0 0 0 0
theorem nB{ev fr mn mi ti un:U9}{m:U9->Bool}(h:W.heap[b]?=Ve (jW kw ev m fr mn mi ti un)):(W.cell? ⟨b,0,Vd⟩=Ve (.string kw)/\W.cell? ⟨b,1,Vd⟩=Ve (.int .i64 ev)/\W.cell? ⟨b,2,Vd⟩=Ve (.bool (m 0))/\W.cell? ⟨b,3,Vd⟩=Ve (.bool (m 1))/\W.cell? ⟨b,4,Vd⟩=Ve (.bool (m 2))/\W.cell? ⟨b,5,Vd⟩=Ve (.bool (m 3))/\W.cell? ⟨b,6,Vd⟩=Ve (.bool (m 4))/\W.cell? ⟨b,7,Vd⟩=Ve (.bool (m 5))/\W.cell? ⟨b,8,Vd⟩=Ve (.bool (m 6))/\W.cell? ⟨b,9,Vd⟩=Ve (.int .i64 fr)/\W.cell? ⟨b,10,Vd⟩=Ve (.int .i64 mn)/\W.cell? ⟨b,11,Vd⟩=Ve (.int .i64 mi)/\W.cell? ⟨b,12,Vd⟩=Ve (.int .i64 ti)/\W.cell? ⟨b,13,Vd⟩=Ve (.int .i64 un))/\∀ o,W.frozen? ⟨b,o,Vd⟩=Vf :=
 ⟨⟨aZ h 0 rfl,aZ h 1 rfl,aZ h 2 rfl,aZ h 3 rfl,aZ h 4 rfl,aZ h 5 rfl,aZ h 6 rfl,aZ h 7 rfl,aZ h 8 rfl,aZ h 9 rfl,aZ h 10 rfl,aZ h 11 rfl,aZ h 12 rfl,aZ h 13 rfl⟩,fun o=>by simp[Vs,h,jW]⟩
theorem KP.mI{L:U5 (U8 × Obj)}(h:KP w W ((b,o) :: L)):W.heap[b]?=Ve o:=h.kb _ (Ye ..)
theorem KP.pZ{wx:Vh}{L:U5 (U8 × Obj)}{t:Vm}{m:U8 × U8}{a0 a1 Z Y X V U T S R P O M J:Vi}(h:KP w wx ((b,.cells #[a0,a1,Z,Y,X,V,U,T,S,R,P,O,M,J] t m) :: L))(v0 v1 v2 I H E C A y x r q j f:Vi):KP w ((((((((((((((wx.setCell ⟨b,0,Vd⟩ v0).setCell ⟨b,1,Vd⟩ v1).setCell ⟨b,2,Vd⟩ v2).setCell ⟨b,3,Vd⟩ I).setCell ⟨b,4,Vd⟩ H).setCell ⟨b,5,Vd⟩ E).setCell ⟨b,6,Vd⟩ C).setCell ⟨b,7,Vd⟩ A).setCell ⟨b,8,Vd⟩ y).setCell ⟨b,9,Vd⟩ x).setCell ⟨b,10,Vd⟩ r).setCell ⟨b,11,Vd⟩ q).setCell ⟨b,12,Vd⟩ j).setCell ⟨b,13,Vd⟩ f) ((b,.cells #[v0,v1,v2,I,H,E,C,A,y,x,r,q,j,f] t m) :: L):=by
 have:=(((((((((((((h.put 0 v0).put 1 v1).put 2 v2).put 3 I).put 4 H).put 5 E).put 6 C).put 7 A).put 8 y).put 9 x).put 10 r).put 11 q).put 12 j).put 13 f;simp only[List.setIfInBounds_toArray,List.set_cons_zero,List.set_cons_succ] at this;exact this
section
variable {w W:Vh}{L:U5 (U8 × Obj)}{b:U8}{kw:U4}{ev fr mn mi ti un:U9}{m:U9->Bool}
theorem KP.JL(h:KP w W ((b,jW kw ev m fr mn mi ti un) :: L))(x:U9):KP w (W.setCell ⟨b,9,Vd⟩ (.int .i64 x)) ((b,jW kw ev m x mn mi ti un) :: L):=KP.put h 9 _
theorem KP.yV(h:KP w W ((b,jW kw ev m fr mn mi ti un) :: L))(x:U9):KP w (W.setCell ⟨b,10,Vd⟩ (.int .i64 x)) ((b,jW kw ev m fr x mi ti un) :: L):=KP.put h 10 _
theorem KP.yU(h:KP w W ((b,jW kw ev m fr mn mi ti un) :: L))(x:U9):KP w (W.setCell ⟨b,11,Vd⟩ (.int .i64 x)) ((b,jW kw ev m fr mn x ti un) :: L):=KP.put h 11 _
theorem KP.yS(h:KP w W ((b,jW kw ev m fr mn mi ti un) :: L))(x:U9):KP w (W.setCell ⟨b,12,Vd⟩ (.int .i64 x)) ((b,jW kw ev m fr mn mi x un) :: L):=KP.put h 12 _
theorem KP.yQ(h:KP w W ((b,jW kw ev m fr mn mi ti un) :: L))(x:U9):KP w (W.setCell ⟨b,13,Vd⟩ (.int .i64 x)) ((b,jW kw ev m fr mn mi ti x) :: L):=KP.put h 13 _
theorem KP.JK(h:KP w W ((b,jW kw ev m fr mn mi ti un) :: L))(q:U9->Bool):KP w (((((((W.setCell ⟨b,2,Vd⟩ (.bool (q 0))).setCell ⟨b,3,Vd⟩ (.bool (q 1))).setCell ⟨b,4,Vd⟩ (.bool (q 2))).setCell ⟨b,5,Vd⟩ (.bool (q 3))).setCell ⟨b,6,Vd⟩ (.bool (q 4))).setCell ⟨b,7,Vd⟩ (.bool (q 5))).setCell ⟨b,8,Vd⟩ (.bool (q 6))) ((b,jW kw ev q fr mn mi ti un) :: L):=by
 have:=((((((KP.put h 2 (.bool (q 0))).put 3 (.bool (q 1))).put 4 (.bool (q 2))).put 5 (.bool (q 3))).put 6 (.bool (q 4))).put 7 (.bool (q 5))).put 8 (.bool (q 6));simp only[List.setIfInBounds_toArray,List.set_cons_zero,List.set_cons_succ] at this;exact this
end
theorem Ej{g k:U8}{ws:U8->U4}{pc:U9}{acc:U5 U9}{tm:Bool}(hc:∀ j,j<n->w.cell? ⟨g,j,Vd⟩=Ve (.string (ws j)))(hz:∀ j,(ws j).size<=160)(hi:i<=10)(hr:rH ws i k pc acc tm)(hn:k+7<n):
  Vk prog 180 #[.slice (Ve ⟨g,0,Vd⟩) n c,.int .i64 i] w fun e w'=>e=.returned (mO (jX ws i k pc acc tm))/\Vj w.heap.size w w':=by
 have NM:=aC (fun j wx=>eP (ws j) 1 7 wx (hz j) UU UU);have DT:=aC (fun j wx=>uX (ws j) wx (hz j));have CK:=aC (fun j wx=>AD (ws j) wx (hz j));have ON:=aC (fun j wx=>zw (ws j) wx (hz j));have Z:=aC ((KP.nil w).alloc (rB ⟨#[]⟩ 0));obtain⟨hp,h3,hk,ht⟩:=hr;have x:Hid (∀ W,Vj w.heap.size w W->∀ j,j<n->W.cell? ⟨g,j,Vd⟩=Ve (.string (ws j))):=fun W kW j hj=>aN kW (hc j hj)
 have WR:Hid (∀ j:U8,j<30->Vp.wrap ((j:U9))=(j:U9)):=fun j hj=>cG UU UU
 have n0:(i:U9)<(n:U9):=UU
 have n1:(i:U9)+1<(n:U9):=UU
 have q1:(0:U9)<=(i:U9)+1:=UU
 have v1:Vp.wrap ((i:U9)+1)=(i:U9)+1:=cG UU UU;have v2:Vp.wrap ((i:U9)+2)=(i:U9)+2:=cG UU UU;have P:=aC (zA hp (zA h3 (zA hk ht)));have ae:i+2<=k/\k<=i+3:=UU
 clear hc hp h3 hk ht
 go_in
 go_upto_region 1 with fail
 change Za _ _ _ _ (w.alloc (rB ⟨#[]⟩ 0));generalize w.alloc (rB ⟨#[]⟩ 0)=X at *;have y0:=x.out _ Z.out.bl i UU;have y1:=x.out _ Z.out.bl (i+1) UU;have N1:=aC (fun wx=>NM.out (i+1) wx)
 have HE:Hid (mO (jX ws i k pc acc tm)=.agg #[.string (ws i),.int .i64 (bF (ws (i+1)) 1 7),.bool (aI acc 0),.bool (aI acc 1),.bool (aI acc 2),.bool (aI acc 3),.bool (aI acc 4),.bool (aI acc 5),.bool (aI acc 6),.int .i64 (eU (ws (k+1))),.int .i64 (gT (ws (k+3))),.int .i64 (bF (ws (k+5)) 1 7),.int .i64 (if tm then bF (ws (k+7)) 1 7 else 0),.int .i64 (if tm then 0 else eU (ws (k+7)))]):=by
  rw[P.out.1];rfl
 generalize ws i=kw at *;generalize bF (ws (i+1)) 1 7=ev at *;generalize ws (i+1)=ew at *
 go_cut [5] from 8 to 18 (fun v5 wx=>∃ b,v5=.pointer (Ve ⟨b,0,Vd⟩)/\KP w wx [(b,rB kw ev),(w.heap.size,rB ⟨#[]⟩ 0)])
 case first =>
  have yA:∀ o,(X.alloc o).cell? ⟨g,i,Vd⟩=Ve (.string kw):=fun o=>aN ((zr _ _).alloc (zq _) _) y0
  have yB:∀ o,(X.alloc o).cell? ⟨g,i+1,Vd⟩=Ve (.string ew):=fun o=>aN ((zr _ _).alloc (zq _) _) y1
  go_region_with (first
   |(go_at_call 126;refine (N1.out _).mono ?_;rintro e w4 ⟨rfl,r⟩;have PB:=aC (((Z.out.alloc _).later (dM _)).later r);obtain⟨⟨b0,b1,b2,b3,b4,b5,b6,b7,b8,b9,aj,ai,ag,af⟩,q⟩:=nB (kw:=⟨#[]⟩) (ev:=0) (m:=fun _=>Vf) (fr:=0) (mn:=0) (mi:=0) (ti:=0) (un:=0) (zB r);have kX:Vj X.heap.size X w4:=bA ((zr _ _).alloc (zq _) _).drew r UV;have R:=aN kX y0)
   |(go_at_call 126;refine (N1.out _).mono ?_;rintro e w4 ⟨rfl,r⟩;have kX:Vj X.heap.size X w4:=bA (dM X) r (zq _);have R:=aN kX y0;have yC:∀ o,(w4.alloc o).cell? ⟨g,i,Vd⟩=Ve (.string kw):=fun o=>aN ((zr _ _).alloc (zq _) _) R))
  all_goals
   go_wp2
   go_meet
   first
    |(
     have PB:=PB.out.pZ (.string kw) (.int .i64 ev) (.bool Vf) (.bool Vf) (.bool Vf) (.bool Vf) (.bool Vf) (.bool Vf) (.bool Vf) (.int .i64 0) (.int .i64 0) (.int .i64 0) (.int .i64 0) (.int .i64 0)
     exact⟨_,rfl,PB⟩)
    |exact⟨_,rfl,(Z.out.later kX).alloc _⟩
 case rest =>
  obtain⟨b,rfl,V⟩:=hcut;have HP:=aC V;clear V y0 y1 Z n0 n1 q1 v1;obtain⟨⟨c0,_⟩,_⟩:=nB HP.out.mI
  go_upto_if 23 with fail
  go_cut [1] (fun v wx=>v=.int .i64 k/\KP w wx [(b,jW kw ev (aI acc) 0 0 0 0 0),(w.heap.size,rB ⟨#[]⟩ 0)])
  case first =>
   rcases P.out.2.2.1 with ⟨A,C,T,S⟩|⟨A,C,U⟩
   ·have HO:=aC (zA T S);have hw:(kw.toList==[119,101,101,107,108,121])=Vg:=by rw[P.out.1,A];decide +kernel
    clear T S;subst C;rw[hw];have y2:=x.out _ HP.out.bl (i+2) UU;have n2:(i:U9)+2<(n:U9):=UU
    have p2:(0:U9)<=(i:U9)+2:=UU
    have v3:Vp.wrap ((i:U9)+3)=(i:U9)+3:=cG UU UU
    go_upto_region 5 with (first|(go_at_call 129;refine (ON.out (i+2) _).mono ?_;rintro e w2 ⟨⟨f,rfl,ha⟩,h⟩;obtain rfl:f=acc:=Option.some.inj ((ha HO.out.1).symm.trans HO.out.2);replace HP:=aC (HP.out.later h);clear h ha y2;simp only[e9]))
    have y:=cC w2 (.cells #[.bool (aI f 0),.bool (aI f 1),.bool (aI f 2),.bool (aI f 3),.bool (aI f 4),.bool (aI f 5),.bool (aI f 6)] 159);have a0:=aZ y 0 rfl;have a1:=aZ y 1 rfl;have a2:=aZ y 2 rfl;have a3:=aZ y 3 rfl;have a4:=aZ y 4 rfl;have a5:=aZ y 5 rfl;have a6:=aZ y 6 rfl;replace HP:=aC (HP.out.later ((zr _ w2).alloc (zq _) (.cells #[.bool (aI f 0),.bool (aI f 1),.bool (aI f 2),.bool (aI f 3),.bool (aI f 4),.bool (aI f 5),.bool (aI f 6)] 159)));obtain⟨⟨_,_,c2,c3,c4,c5,c6,c7,c8,_⟩,q⟩:=nB HP.out.mI;clear y c0
    go_wp2
    go_meet
    exact⟨by simp,HP.out.JK (aI f)⟩
   ·have hw:(kw.toList==[119,101,101,107,108,121])=Vf:=by
     rw[P.out.1];rcases P.out.2.1 with e|e|e
     ·rw[e];decide +kernel
     ·exact (A e).elim
     ·rw[e];decide +kernel
    subst C U;rw[hw]
    go_wp2
    go_meet
    exact⟨by simp,HP.out⟩
  case rest =>
   obtain⟨rfl,V⟩:=hcut;replace HP:=aC V;clear V c0;have w1:Vp.wrap ((k:U9)+1)=(k:U9)+1:=cG UU UU;have m1:(k:U9)+1<(n:U9):=UU
   have p1:(0:U9)<=(k:U9)+1:=UU
   have w3:Vp.wrap ((k:U9)+3)=(k:U9)+3:=cG UU UU;have m3:(k:U9)+3<(n:U9):=UU
   have p3:(0:U9)<=(k:U9)+3:=UU
   have w5:Vp.wrap ((k:U9)+5)=(k:U9)+5:=cG UU UU;have m5:(k:U9)+5<(n:U9):=UU
   have p5:(0:U9)<=(k:U9)+5:=UU
   have w6:Vp.wrap ((k:U9)+6)=(k:U9)+6:=cG UU UU;have m6:(k:U9)+6<(n:U9):=UU
   have p6:(0:U9)<=(k:U9)+6:=UU
   have w7:Vp.wrap ((k:U9)+7)=(k:U9)+7:=cG UU UU;have m7:(k:U9)+7<(n:U9):=UU
   have p7:(0:U9)<=(k:U9)+7:=UU
   have y1:=x.out _ HP.out.bl (k+1) UU
   go_upto_region 8 with (first|(go_at_call 187;refine (DT.out (k+1) _).mono ?_;rintro e w2 ⟨rfl,h⟩;replace HP:=aC (HP.out.later h);obtain⟨⟨_,_,_,_,_,_,_,_,_,O,_⟩,q⟩:=nB HP.out.mI;have E:=q 9;clear h q y1))
   replace HP:=aC (HP.out.JL (eU (ws (k+1))));generalize w2.setCell ⟨b,9,Vd⟩ (.int .i64 (eU (ws (k+1))))=Z9 at HP ⊢;clear O E;have y3:=x.out _ HP.out.bl (k+3) UU
   go_upto_region 9 with (first|(go_at_call 188;refine (CK.out (k+3) _).mono ?_;rintro e w2 ⟨rfl,h⟩;replace HP:=aC (HP.out.later h);obtain⟨⟨_,_,_,_,_,_,_,_,_,_,O,_⟩,q⟩:=nB HP.out.mI;have E:=q 10;clear h q y3))
   replace HP:=aC (HP.out.yV (gT (ws (k+3))));generalize w2.setCell ⟨b,10,Vd⟩ (.int .i64 (gT (ws (k+3))))=Z10 at HP ⊢;clear O E;have y5:=x.out _ HP.out.bl (k+5) UU
   go_upto_region 10 with (first|(go_at_call 126;refine (NM.out (k+5) _).mono ?_;rintro e w2 ⟨rfl,h⟩;replace HP:=aC (HP.out.later h);obtain⟨⟨_,_,_,_,_,_,_,_,_,_,_,O,_⟩,q⟩:=nB HP.out.mI;have E:=q 11;clear h q y5))
   replace HP:=aC (HP.out.yU (bF (ws (k+5)) 1 7));generalize w2.setCell ⟨b,11,Vd⟩ (.int .i64 (bF (ws (k+5)) 1 7))=Z11 at HP ⊢;clear O E;have y6:=x.out _ HP.out.bl (k+6) UU;have y7:=x.out _ HP.out.bl (k+7) UU;have ht:=P.out.2.2.2
   go_upto_if 62 with fail
   go_cut [] (fun wx=>KP w wx [(b,jW kw ev (aI acc) (eU (ws (k+1))) (gT (ws (k+3))) (bF (ws (k+5)) 1 7) (if tm then bF (ws (k+7)) 1 7 else 0) (if tm then 0 else eU (ws (k+7)))),(w.heap.size,rB ⟨#[]⟩ 0)])
   case first =>
    cases tm
    ·go_wp2_with (first|(go_at_call 187;refine (DT.out (k+7) _).mono ?_;rintro e w2 ⟨rfl,h⟩;replace HP:=aC (HP.out.later h);obtain⟨⟨_,_,_,_,_,_,_,_,_,_,_,_,_,O⟩,q⟩:=nB HP.out.mI;have E:=q 13;clear h q y6 y7))
     go_meet
     exact HP.out.yQ (eU (ws (k+7)))
    ·go_wp2_with (first|(go_at_call 126;refine (NM.out (k+7) _).mono ?_;rintro e w2 ⟨rfl,h⟩;replace HP:=aC (HP.out.later h);obtain⟨⟨_,_,_,_,_,_,_,_,_,_,_,_,O,_⟩,q⟩:=nB HP.out.mI;have E:=q 12;clear h q y6 y7))
     go_meet
     exact HP.out.yS (bF (ws (k+7)) 1 7)
   case rest =>
    have HP:=aC hcut;clear hcut y6 y7 ht;generalize eU (ws (k+1))=fr at *;generalize gT (ws (k+3))=mn at *;generalize bF (ws (k+5)) 1 7=mi at *;generalize (if tm then bF (ws (k+7)) 1 7 else 0)=ti at *;generalize (if tm then 0 else eU (ws (k+7)))=un at *;obtain⟨⟨c0,c1,c2,c3,c4,c5,c6,c7,c8,c9,ad,ac,ab,aa⟩,_⟩:=nB HP.out.mI;obtain⟨⟨d0,d1,d2,d3,d4,d5,d6,d7,d8,d9,M,J,I,H⟩,df⟩:=nB HP.out.swap.mI
    go_wp2_with fail
    have HF:=aC (HP.out.swap.pZ (.string kw) (.int .i64 ev) (.bool (aI acc 0)) (.bool (aI acc 1)) (.bool (aI acc 2)) (.bool (aI acc 3)) (.bool (aI acc 4)) (.bool (aI acc 5)) (.bool (aI acc 6)) (.int .i64 fr) (.int .i64 mn) (.int .i64 mi) (.int .i64 ti) (.int .i64 un));clear d0 d1 d2 d3 d4 d5 d6 d7 d8 d9 M J I H c0 c1 c2 c3 c4 c5 c6 c7 c8 c9 ad ac ab aa df;generalize ((((((((((((((wc.setCell ⟨w.heap.size,0,Vd⟩ (.string kw)).setCell ⟨w.heap.size,1,Vd⟩ (.int .i64 ev)).setCell ⟨w.heap.size,2,Vd⟩ (.bool (aI acc 0))).setCell ⟨w.heap.size,3,Vd⟩ (.bool (aI acc 1))).setCell ⟨w.heap.size,4,Vd⟩ (.bool (aI acc 2))).setCell ⟨w.heap.size,5,Vd⟩ (.bool (aI acc 3))).setCell ⟨w.heap.size,6,Vd⟩ (.bool (aI acc 4))).setCell ⟨w.heap.size,7,Vd⟩ (.bool (aI acc 5))).setCell ⟨w.heap.size,8,Vd⟩ (.bool (aI acc 6))).setCell ⟨w.heap.size,9,Vd⟩ (.int .i64 fr)).setCell ⟨w.heap.size,10,Vd⟩ (.int .i64 mn)).setCell ⟨w.heap.size,11,Vd⟩ (.int .i64 mi)).setCell ⟨w.heap.size,12,Vd⟩ (.int .i64 ti)).setCell ⟨w.heap.size,13,Vd⟩ (.int .i64 un))=Y at HF ⊢;obtain⟨⟨d0,d1,d2,d3,d4,d5,d6,d7,d8,d9,M,J,I,H⟩,_⟩:=nB (kw:=kw) (ev:=ev) (m:=aI acc) (fr:=fr) (mn:=mn) (mi:=mi) (ti:=ti) (un:=un) HF.out.mI;exact bodyPost_ret (v:=.agg #[.string kw,.int .i64 ev,.bool (aI acc 0),.bool (aI acc 1),.bool (aI acc 2),.bool (aI acc 3),.bool (aI acc 4),.bool (aI acc 5),.bool (aI acc 6),.int .i64 fr,.int .i64 mn,.int .i64 mi,.int .i64 ti,.int .i64 un]) (by simp[results,results180,go_sem,d0,d1,d2,d3,d4,d5,d6,d7,d8,d9,M,J,I,H]) rfl ⟨by rw[HE.out],HF.out.bl⟩
def nD(k:U9)(name:U4)(u:U9)(v:Vi)(t:U9):Obj:=.cells #[.int .i64 0,.int .i64 k,.string name,.int .i64 u,v,.int .i64 t] 58 (0,0)
structure Dm(w:Vh)(g n:U8)(kw:U4)(k long:U9):Prop where
 ho:(kw.toList==[104,111,108,100])=decide (k=2)
 wa:(kw.toList==[119,97,105,116])=decide (k=3)
 lo:(k=1/\long=0)\/((k=2\/k=3)/\5<n/\∃ t:U4,t.size<=160/\w.cell? ⟨g,5,Vd⟩=Ve (.string t)/\bF t 1 7=long)
 l0:0<=long/\long<=1048320
theorem MI{d:U8}{xs:U5 (aL × U8 × U8)}(h:DD w d s xs F)(hg:0<=s.given/\s.given<=60)(ba:(s.es.length:U9)<=s.given)(hn:0<=s.now/\s.now<=1048320){k long:U9}{g:U8}(hk:Dm w g n kw k long)(hl:4<n)(z2:ut.size<=160)(z3:ft.size<=160)(z4:tt.size<=160)(hu:1<=bF ut 1 7/\bF ut 1 7<=9)(ay:0<=cZ tt/\cZ tt<=1048320)(h0:w.cell? ⟨g,0,Vd⟩=Ve (.string kw))(h1:w.cell? ⟨g,1,Vd⟩=Ve (.string name))(h2:w.cell? ⟨g,2,Vd⟩=Ve (.string ut))(h3:w.cell? ⟨g,3,Vd⟩=Ve (.string ft))(h4:w.cell? ⟨g,4,Vd⟩=Ve (.string tt)):
  Vk prog 173 #[.pointer (Ve ⟨d,0,Vd⟩),.slice (Ve ⟨g,0,Vd⟩) n c] w (dK w d F xs (aU s (.enter k name (bF ut 1 7) (cZ ft) (cZ tt) long))):=by
 have V:=aC ((KP.nil w).alloc aX);have H:=aC h;have HK:=aC hk;have i0:(0:U9)<(n:U9):=UU
 have i1:(1:U9)<(n:U9):=UU
 have i2:(2:U9)<(n:U9):=UU
 have i3:(3:U9)<(n:U9):=UU
 have i4:(4:U9)<(n:U9):=UU
 have y0:=aN V.out.bl h0;have y1:=aN V.out.bl h1;have y2:=aN V.out.bl h2;have y3:=aN V.out.bl h3;have y4:=aN V.out.bl h4;clear h hk
 go_in
 go_upto_region 1 with fail
 change Za _ _ _ _ (w.alloc aX);generalize w.alloc aX=X at *;have NM:=aC (fun wx=>eP ut 1 7 wx z2 UU UU);generalize bF ut 1 7=u at *
 go_cut [5] from 12 to 19 (fun v5 wx=>∃ b,v5=.pointer (Ve ⟨b,0,Vd⟩)/\KP w wx [(b,nD 1 name u aR 0),(w.heap.size,aX)])
 case first =>
  have a7:∀ o,(X.alloc o).cell? ⟨g,1,Vd⟩=Ve (.string name):=fun o=>aN ((zr _ _).alloc (zq _) _) y1
  have a6:∀ o,(X.alloc o).cell? ⟨g,2,Vd⟩=Ve (.string ut):=fun o=>aN ((zr _ _).alloc (zq _) _) y2
  go_region_with (first
   |(go_at_call 126;refine (NM.out _).mono ?_;rintro e w4 ⟨rfl,I⟩;have PB:=aC (((V.out.alloc _).later (dM _)).later I);have bz:=zB I;have b0:=rQ bz;have b1:=tc bz;have b2:=rR bz;have b3:=rS bz;have b4:=rT bz;have b5:=td bz;have bf:=uI bz;have kX:Vj X.heap.size X w4:=bA ((zr _ _).alloc (zq _) _).drew I (zq _);have af:=aN kX y1;clear I)
   |(go_at_call 126;refine (NM.out _).mono ?_;rintro e w4 ⟨rfl,I⟩;have kX:Vj X.heap.size X w4:=bA (dM X) I (zq _);have af:=aN kX y1;have yB:∀ o,(w4.alloc o).cell? ⟨g,1,Vd⟩=Ve (.string name):=fun o=>aN ((zr _ _).alloc (zq _) _) af))
  all_goals
   go_wp2
   go_meet
   first
    |(
     have PB:=PB.out.pe (.int .i64 0) (.int .i64 1) (.string name) (.int .i64 u) aR (.int .i64 0)
     exact⟨_,rfl,PB⟩)
    |exact⟨_,rfl,(V.out.later kX).alloc _⟩
 case rest =>
  obtain⟨b,rfl,O⟩:=hcut;have HP:=aC O;have y3:=aN O.bl h3;clear O y0 y1 y2 y4 V NM
  go_wp2_with fail
  refine (qv ft _ z3).mono ?_;rintro e w2 ⟨rfl,U⟩;replace HP:=aC (HP.out.later U);have y4:=aN HP.out.bl h4;clear U y3
  go_wp2_with fail
  refine (qv tt _ z4).mono ?_;rintro e w3 ⟨rfl,U⟩;replace HP:=aC (HP.out.later U);clear U y4;generalize cZ ft=fr at *;generalize cZ tt=til at *;obtain⟨T,hT⟩:∃ T,T=if k=1 then 0 else s.now+long:=⟨_,rfl⟩
  have HT:=aC hT;clear hT;have hD:=H.out.later HP.out.bl;have n3:=hD.rd.c3;have HD:=aC hD;clear hD;have y0:=aN HP.out.bl h0;have b1:=HP.out.hc 1 rfl;have b5:=HP.out.hc 5 rfl;have bf:=HP.out.hf;have bc:=HK.out.l0;have k2:=HK.out.ho;have k3:=HK.out.wa;have c0:Hid (0<=til/\til<=1048320):=ay;have HE:Hid (∃ r,r=aA.rm s k name u fr til long):=⟨_,rfl⟩;obtain⟨r,al⟩:=HE.out;have ae:=aC al;clear al HE;obtain⟨NL,ac⟩:∃ NL,NL=s.now+long:=⟨_,rfl⟩;have aq:=aC ac;have gQ:Hid (r=if aA.dH s.ts name u≠0 then aA.dH s.ts name u else if til<=fr\/1048320<NL then 6 else if s.given=60 then 5 else if k=3 then (if aA.eh s.es=6 then 5 else 0) else if aA.dG s.ts s.es name u [(fr,til)] then 0 else 8):=by rw[ac];exact ae.out
  have ar:Hid ((r≠0->aU s (.enter k name u fr til long)=(s,⟨r,0,0,[],[],[],[]⟩))/\(r=0->aU s (.enter k name u fr til long)=aA.jz s ⟨0,k,name,u,[(fr,til)],T⟩)):=by
   have e2:=ae.out;have e3:=HT.out;refine⟨fun h=>?_,fun h=>?_⟩
   ·simp only[aU,<- e2,h,ne_eq,not_false_eq_true,if_true];rfl
   ·simp only[aU,<- e2,h,ne_eq,not_true_eq_false,if_false];rw[e3];rfl
  have au:Hid (r=0->s.given≠60):=by
   intro A e2;have:=gQ.out;rw[A,e2] at this
   split at this
   ·omega
   ·split at this <;> simp at this
  clear ac ae;rcases HK.out.lo with ⟨y,rfl⟩|⟨y,h5,t,ht,c5,ai⟩
  case' inl =>
   have f:Hid (KP w w3 [(b,nD k name u aR T),(w.heap.size,aX)]):=by rw[HT.out,Vb y,y];exact HP.out
   rw[y] at k2 k3;simp only[show ((1:U9)=2)=False from by simp,show ((1:U9)=3)=False from by simp,decide_false] at k2 k3;clear HP b5 n3 HD
   go_upto_region 13 with fail
   generalize w3=Z at *;clear b1 bf
  case' inr =>
   have az:k≠1:=UU
   have i5:(5:U9)<(n:U9):=UU
   have a3:Hid (T=s.now+long):=by show _=_;rw[HT.out,Va az]
   have NM:=aC (fun wx=>eP t 1 7 wx ht UU UU);rw[ai] at NM;have f:=aC (HP.out.put 1 (.int .i64 k));have a5:=aN f.out.bl c5;clear c5 HP HD n3 b5 ai;rcases y with y|y
   all_goals
    rw[y] at k2 k3 f a5;simp only[show ((3:U9)=2)=False from by simp,show ((2:U9)=3)=False from by simp,decide_false,decide_true] at k2 k3
    go_upto_region 11 with fail
    generalize w3.setCell _ _=Z0 at *
    go_wp2_with fail
    refine (NM.out _).mono ?_;rintro e w5 ⟨rfl,U⟩;replace f:=aC (f.out.later U);have n3:=(H.out.later f.out.bl).rd.c3;have b5:=f.out.hc 5 rfl;have bf:=f.out.hf;clear U
    go_upto_region 13 with fail
    replace f:Hid (KP w (w5.setCell ⟨b,5,Vd⟩ (.int .i64 (s.now+long))) [(b,nD k name u aR T),(w.heap.size,aX)]):=by rw[y,a3.out];exact f.out.put 5 _
    clear b5 bf n3 b1;generalize w5.setCell _ _=Z at *
  all_goals
   clear y;obtain⟨vN,ab⟩:∃ v,v=aR:=⟨_,rfl⟩;have ON:Hid (Z.ownsRow Z.heap.size 60 2 vN ([]:U5 (U9 × U9)).length (([]:U5 (U9 × U9)).flatMap iF)/\vN.ownBlock=Vd):=by rw[ab];exact⟨WK Z Z.heap.size _ _,rfl⟩
   rw[<- ab] at f;clear ab;have b4:=f.out.hc 4 rfl;have bf:=f.out.hf 4;have hZ:=f.out.bl.size;have bi:b<Z.heap.size:=f.out.lt (Ye ..);have bm:w.heap.size<Z.heap.size:=f.out.lt (q:=(w.heap.size,aX)) UV
   go_wp2_with (first|(at_builtin;refine Dq rfl _ _ rfl ON.out.1 fr til rfl rfl UV (zq _) ?_;intro gs cs w6 J aa;have E:Vj Z.heap.size Z w6:=(by rw[ON.out.2] at aa;exact aF.Q9 aa);have b4:=aN E b4;have bf:=(aC ((f.out.later E).hf 4)).out;have b2:=(f.out.later E).hc 2 rfl;have b3:=(f.out.later E).hc 3 rfl))
   replace f:Hid (KP w (w6.setCell ⟨b,4,Vd⟩ (.slice (Ve ⟨gs,0,Vd⟩) 1 cs)) [(b,nD k name u (.slice (Ve ⟨gs,0,Vd⟩) 1 cs) T),(w.heap.size,aX)]):=(f.out.later E).put 4 _;have bg:Z.heap.size<=gs:=jE J rfl;have j:gs<w6.heap.size:=eV J rfl;have RS:Hid (fY (w6.setCell ⟨b,4,Vd⟩ (.slice (Ve ⟨gs,0,Vd⟩) 1 cs)) gs [(fr,til)]):=(zP J).2.off (aF.aY ..) U0;have ag:(w6.setCell ⟨b,4,Vd⟩ (.slice (Ve ⟨gs,0,Vd⟩) 1 cs)).heap.size=w6.heap.size:=UV
   clear b4 bf J aa E b2 b3;rw[<- ag] at j;clear ag;generalize w6.setCell ⟨b,4,Vd⟩ _=Y at *;have DY:=aC (H.out.later f.out.bl);obtain⟨_,b1,b2,b3,b4,_⟩:=f.out.og;have n2:=DY.out.rd.c2;have n3:=DY.out.rd.c3;have AK:=aC (DY.out.asked name u);have WA:=aC DY.out.waiting;have FT:=aC (DY.out.fits (u:=u) (cb:=cs) name RS.out UV UU hu.2);refine AK.out.mono ?_;rintro e w7 ⟨rfl,rfl⟩;clear AK;generalize aA.dH s.ts name u=an at *;generalize aA.eh s.es=wn at *;generalize aA.dG s.ts s.es name u [(fr,til)]=fb at *
   go_upto_block 1 with fail
   go_cut [9,10,11] from 65 to 104 (fun v9 _ _ wx=>v9=.int .i64 r/\KP w wx [(b,nD k name u (.slice (Ve ⟨gs,0,Vd⟩) 1 cs) T),(w.heap.size,aX)]/\fY wx gs [(fr,til)]/\gs<wx.heap.size)
   case first =>
    by_cases q1:an=0
    ·subst q1
     by_cases q2:til<=fr
     ·have A:r=6:=by rw[gQ.out];simp[q2]
      go_wp2
      go_meet
      exact⟨by rw[A],f.out,RS.out,j⟩
     ·by_cases q3:1048320<NL
      ·have A:r=6:=by rw[gQ.out];simp[q3]
       rw[aq.out] at q3
       try simp only[YK] at q3
       try (exfalso;omega)
       all_goals
        go_wp2
        go_meet
        exact⟨by rw[A],f.out,RS.out,j⟩
      ·rw[Va UV,Va (by simp only[not_or];exact⟨q2,q3⟩)] at gQ;rw[aq.out] at q3
       try simp only[YK] at q3
       by_cases S:s.given=60
       ·have A:r=5:=by rw[gQ.out,Vb S]
        have ax:(s.given==60)=Vg:=by simpa using S
        go_wp2
        go_meet
        exact⟨by rw[A],f.out,RS.out,j⟩
       ·rw[Va S] at gQ;have ax:(s.given==60)=Vf:=by simpa using S
        by_cases R:k=3
        ·skip
         all_goals
          rw[Vb R] at gQ;have aw:(k==3)=Vg:=by simpa using R
          by_cases P:wn=6
          ·have A:r=5:=by rw[gQ.out,Vb P]
           have av:(wn==6)=Vg:=by simpa using P
           go_wp2_with fail
           refine WA.out.mono ?_;rintro e w8 ⟨rfl,rfl⟩
           go_wp2
           go_meet
           exact⟨by rw[A],f.out,RS.out,j⟩
          ·have A:r=0:=by rw[gQ.out,Va P]
           have av:(wn==6)=Vf:=by simpa using P
           go_wp2_with fail
           refine WA.out.mono ?_;rintro e w8 ⟨rfl,rfl⟩
           go_wp2
           go_meet
           exact⟨by rw[A],f.out,RS.out,j⟩
        ·skip
         all_goals
          rw[Va R] at gQ;have aw:(k==3)=Vf:=by simpa using R
          go_wp2_with fail
          refine FT.out.mono ?_;rintro e w8 ⟨rfl,M⟩;have L8:=aC (zA (f.out.later M) (zA (RS.out.later M) (zL j M.size)));clear M
          cases fb
          ·have A:r=8:=by rw[gQ.out];rfl
           go_wp2
           go_meet
           exact⟨by rw[A],L8.out⟩
          ·have A:r=0:=by rw[gQ.out];rfl
           go_wp2
           go_meet
           exact⟨by rw[A],L8.out⟩
    ·have A:r=an:=by rw[gQ.out,Vb q1]
     have a8:(an != 0)=Vg:=by simpa using q1
     go_wp2
     go_meet
     exact⟨by rw[A],f.out,RS.out,j⟩
   case rest =>
    obtain⟨rfl,O,hR,ak⟩:=hcut;have DC:=aC (H.out.later O.bl);have Q1:=aC (Q7.of (O.kb (w.heap.size,aX) UV));have HP:=aC (zA O (zA hR ak));obtain⟨x0,x1,x2,x3,x4,x5⟩:=O.og;clear O hR ak b1 b2 b3 b4 n2 n3 WA FT gQ
    by_cases he:r=0
    ·subst he;have E9:=aC (ar.out.2 rfl)
     have aj:Hid (s.es.length<60):=by
      show _<_;have:=au.out rfl;omega
     have JN:Hid (Vk prog 232 #[.pointer (Ve ⟨d,0,Vd⟩),.agg #[.int .i64 0,.int .i64 k,.string name,.int .i64 u,.slice (Ve ⟨gs,0,Vd⟩) 1 cs,.int .i64 T]] wc fun e w'=>e=.returned (rP 0 (s.given+1))/\sZ wc d s.ts (xs++[(⟨s.given+1,k,name,u,[(fr,til)],T⟩,gs,cs)]) (s.given+1) s.now F w'):=(Dy d s.ts xs s.given s.now F (⟨0,k,name,u,[(fr,til)],T⟩,gs,cs) wc DC.out.rd HP.out.2.1 (fun e=>by have:=H.out.lt gs e;omega) HP.out.2.2 DC.out.lt (by have:=H.out.len;have:=H.out.el;omega) hg.1 UU)
     go_wp2_with fail
     refine JN.out.mono ?_;rintro e w8 ⟨rfl,hj⟩;obtain⟨F',hJ,ad,hO⟩:=DC.out.kQ (x:=(⟨0,k,name,u,[(fr,til)],T⟩,gs,cs)) ⟨hu.1,hu.2,by simp,by simp,by simp;omega⟩ aj.out hj;have ao:w.heap.size ∉ F:=fun e=>by have:=H.out.lt _ e;omega
     have a4:=hO.block w.heap.size (Vr _ _ Q1.out.q0) ao;have a9:=HP.out.1.bl.size;have bj:w.heap.size<wc.heap.size:=Vr _ _ Q1.out.q0
     have HF:Hid (dK w d F xs (aA.jz s ⟨0,k,name,u,[(fr,til)],T⟩) (.returned (bC 0 0 (s.given+1) aR aR aR aR)) (cK w8 w.heap.size (.int .i64 0) (.int .i64 0) (.int .i64 (s.given+1)) aR aR aR aR)):=by
      refine hJ.mu (fun x C=>(ad x C).imp id (fun e=>by omega)) ((aF.aD HP.out.1.bl).trans hO) (zq _) (fun e=>?_) (fun x C e=>?_) (fun x C=>?_) 0 (s.given+1) _ _ _ _ _ _ _
      ·rcases ad _ e with e|e
       ·exact ao e
       ·omega
      ·rcases VB.1 C with C|C
       ·have:=(H.out.rd.sp x C).2.2;omega
       ·simp only[YD] at C;subst C;simp only at e;omega
      ·rcases VB.1 C with C|C
       ·exact .inl ⟨x,C,rfl⟩
       ·simp only[YD] at C;subst C;exact .inr (by simp only;omega)
     obtain⟨q0,q1,q2,q3,S,R,P,fq⟩:=Q1.out.later a4;simp only[rP];clear hJ ad hO hj JN
     go_wp2_with fail
     exact cO results173 ⟨q0,q1,q2,q3,S,R,P,fq⟩ (by rw[E9.out];exact HF.out)
    ·have bh:(r != 0)=Vg:=by simpa using he
     have HF:Hid (dK w d F xs (s,⟨r,0,0,[],[],[],[]⟩) (.returned (bC r 0 0 aR aR aR aR)) (cK wc w.heap.size (.int .i64 r) (.int .i64 0) (.int .i64 0) aR aR aR aR)):=H.out.said HP.out.1.bl (zq _) r 0 (.int .i64 r) (.int .i64 0) (.int .i64 0) aR aR aR aR;have E9:=aC (ar.out.1 he);obtain⟨q0,q1,q2,q3,S,R,P,fq⟩:=Q1.out;clear he
     go_wp2_with fail
     exact cO results173 ⟨q0,q1,q2,q3,S,R,P,fq⟩ (by rw[E9.out];exact HF.out)
end Go.Proofs.YtfigmlfdnickmaaGreatDoor
