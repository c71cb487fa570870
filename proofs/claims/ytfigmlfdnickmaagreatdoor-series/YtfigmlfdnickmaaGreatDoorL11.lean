import Derived.Test.YtfigmlfdnickmaaGreatDoorL10
import Derived.BigQuiet
set_option maxRecDepth 100000
set_option maxHeartbeats 8000000
open Go.Proofs.Tryz
open _root_ renaming ByteArray->UU,List->UV,Option->UW,Nat->UY,Int->UZ,if_neg->U0,if_pos->U1,absurd->U2
open Option renaming none->U3,some->U4,mem_toList->WI
open Bool renaming false->U5,true->U6
open Go renaming World->U7,Value->U8,Calls->Va,TypeId->Vc
open Go.RowKit renaming Below->U9
open List renaming set_append->ZT,drop_eq_getElem_cons->Ws,append_assoc->VP,mem_cons->Vq,mem_append->Vr,length_append->VU,length_drop->ZV,drop_eq_nil_of_le->Wt,append_nil->XT,mem_singleton->Yo,mem_append_left->Ym,mem_append_right->Yn,mem_flatMap->ZP,flatMap_cons->Wi,getElem?_append_right->Wz,length_cons->VV,length_nil->VZ,getElem_cons_succ->Z7,length_eq_zero_iff->VY,take_succ_eq_append_getElem->V5,getElem?_eq_some_iff->ZI,length_set->Wp,mem_cons_of_mem->WH,mem_cons_self->Yp,getElem?_append_left->Wg,map_append->We,getElem?_map->Yd,getElem?_eq_getElem->WS,range->XH,any_eq_true->XQ
open Nat renaming sub_self->Ze,add_sub_cancel_left->WB,zero_le->V6,le_refl->Vd,le_trans->Vg,zero_mul->Z8
open Go.Value renaming slice->YZ,oneCell'->WD,ownBlock->Wr,int->VT,pointer->Vv,string->YK
open Go.Code renaming wp->YS
open Go.Value.slice renaming injEq->Zp
open Option.some renaming injEq->ZR
open Go.Addr.mk renaming injEq->ZS
open Go.World renaming news_of_block->Wv,block_lt_of_cell?->Vh,ownsRow_nil->Yl,frozen?->Vi,cell?->VA
open Go.Exit renaming inBlock->Wq
open Array renaming getElem?_eq_some_iff->YR
open ByteArray renaming empty->Yy
open Go.Addr renaming add->ZH
open Go.IntKind renaming i64->Vf
namespace Go.Proofs.YtfigmlfdnickmaaGreatDoor
variable{held:Bool}{name ut:UU}{m:UZ}{L:UV UU}{F:UV UY}{xs:UV U8}{N Q b c d g i k n p t z:UY}{spare:UY->Bool}{aJ:UY->UW bB}{o:Obj}{s:aA.St}{a l r' u v:U8}{W Z3 w w' w9 wr:U7}
open Go.RowKit
variable {w:U7}{B:UY}{v0 v1 r1 r2 r3:U8}{K:UV UY}{X1 X2 X3:UV KL}
theorem MN:(prog.info? tS).map (fun i=>(i.zero,i.size,i.bytes))=U4 (U4 (.agg #[.slice U3 0 0,.slice U3 0 0,.slice U3 0 0,.slice U3 0 0,.int .i64 0]),5,104):=UO
theorem Kw(h:k*2+1<xs.length):((rp (ke m) k++xs.drop (k*2)).set (k*2) (.int .i64 m)).set (k*2+1) (.int .i64 m)=rp (ke m) (k+1)++xs.drop ((k+1)*2):=by
 have f:(rp (ke m) k).length=k*2:=by rw[oi];simp
 have j:(k+1)*2=k*2+1+1:=UI
 rw[ZT,U0 UI,ZT,U0 UI,f,Ze,WB,Ws UI,Ws h,zK,VP,j];rfl
theorem BK.fZ{b c:U8}{e:Vc}(h:BK w B v0 v1 K r1 r2 r3 X1 X2 X3)(H:BK Z3 B v0 v1 K r1 r2 r3 X1 X2 X3)(x:KF (ke m) e wr Z3 l n Q o [(c,n+3),(b,n+2),(a,n+1),(l,n)])(E:n<=900000)(I:aF l.ownBlock.toList w Z3)(y:w.heap.size<=wr.heap.size)(r:∀ b,l.ownBlock=U4 b->b ∉ K/\b ∉ bM B r1 r2 r3)
  (C:aF r2.ownBlock.toList Z3 w9) (A:w9.ownsRow 0 tS 5 r' (X2.length+1) (X2.flatMap fu++fu (l,a,b,c,m))) (j:sX Z3 r2 r'):qk w B v0 v1 K r1 r2 r3 l (X1.length+X2.length+X3.length) (w9.setCell ⟨B,3,U3⟩ r') :=
 BK.kept x I y UQ (fun q f=>by
  simp only[bM,Vq,Vr,WI] at f ⊢;rcases f with rfl|f|f|f
  ·exact .inl (.inl rfl)
  ·exact .inl (.inr (.inl f))
  ·exact (j q f).imp (fun e=>.inr (.inr (.inl e))) id
  ·exact .inl (.inr (.inr (.inr f)))) (H.BG (x.k4 (P:=ke) E) (h.apart x y r) C A j)
theorem Ni(h:BK w B v0 v1 K r1 r2 r3 X1 X2 X3)(h1:X1.length<=1000000000)(h2:X2.length<=1000000000)(h3:X3.length<=1000000000)(hl:w.ownsRow 0 60 2 l n xs)(hn:n<=900000)(ab:∀ b,l.ownBlock=U4 b->b ∉ K/\b ∉ bM B r1 r2 r3):
  Va prog 121 #[.pointer (U4 ⟨B,2,U3⟩),l] w fun e w'=>e=.returned (.tuple #[])/\qk w B v0 v1 K r1 r2 r3 l (X1.length+X2.length+X3.length) w':=by
 obtain⟨i0,J,I,H,E⟩:=info_parts uZ;obtain⟨j0,ao,al,ak,aj⟩:=info_parts MN;obtain⟨a,j,rfl⟩:=gB hl;have HB:=aC h;have HL:=aC hl;have HK:=aC ab;have au:=aC (fun b (f:(YZ a n j).ownBlock=U4 b)=>eW hl f);have ay:xs.length=n*2:=hl.1;clear h hl ab
 go_in
 go_upto_region 3 with (first|(go_at_call 184;refine (Ac HB.y h1 h2 h3).mono ?_;rintro e w1 ⟨rfl,f⟩;have H1:=aC f;clear f))
 generalize az:wC X1 X2 X3=m;change YS _ _ _ _ (w1.alloc (.cells #[.int .i64 m,.int .i64 m] 60));have HW:=aC (aZ H1.y ((zr _ w1).alloc (zq _) (.cells #[.int .i64 m,.int .i64 m] 60)) (zq _));have hS:w1.heap.size ∉ (YZ a n j).ownBlock.toList:=fun e=>by have:=au.y _ (by simpa using e);have:=H1.y.size;omega
 have T:Hid (∀ Z,aF (YZ a n j).ownBlock.toList (w1.alloc (.cells #[.int .i64 m,.int .i64 m] 60)) Z->Z.cell? ⟨w1.heap.size,0,U3⟩=U4 (.int .i64 m)/\Z.cell? ⟨w1.heap.size,1,U3⟩=U4 (.int .i64 m)):=fun Z k=>⟨k.cell hS (aY (cC w1 _) 0 rfl),k.cell hS (aY (cC w1 _) 1 rfl)⟩
 clear hS;generalize w1.alloc (.cells #[.int .i64 m,.int .i64 m] 60)=W1 at HW T ⊢;generalize w1.heap.size=S at T ⊢;have av:=aC (ey HL.y HW.y)
 go_loopw [6] (fun v wr=>∃ k:UY,k<=n/\v=.int .i64 k/\wr.ownsRow 0 60 2 (.slice a n j) n (rp (ke m) k++xs.drop (k*2))/\aF (YZ a n j).ownBlock.toList W1 wr) (fun v _=>n-(intOf v).toNat)
 case atStart=>exact⟨0,V6 _,rfl,by simpa[zM] using av.y,aF.refl _ _⟩
 case round =>
  obtain⟨k,hk,rfl,q,r⟩:=hrel;have x:=aC (zA q r)
  by_cases a3:k<n
  ·have aa:(k:UZ)<(n:UZ):=UI
   obtain⟨C,A⟩:=T.y _ r;obtain⟨g,cap,u,e,c0,fz⟩:=po q (k:=k*2) (by rw[VU,oi,ZV];simp;omega);obtain⟨g',ax,u',e',c1,_⟩:=po q (k:=k*2+1) (by rw[VU,oi,ZV];simp;omega);rw[e] at e';simp only[Zp,ZR,ZS,and_true,true_and] at e';obtain⟨rfl,rfl⟩:=e';simp only[Zp,true_and] at e;obtain⟨rfl,rfl⟩:=e;have f0:=fz (k*2);have f1:=fz (k*2+1);clear q r
   go_wp2
   go_roundw
   case rel =>
    refine⟨k+1,by omega,by go_num,?_,(x.y.2.setCell (.inl UT) _ _).setCell (.inl UT) _ _⟩;have:=nJ (nJ x.y.1 (b:=g) rfl (k*2) (.int .i64 m)) (b:=g) rfl (k*2+1) (.int .i64 m);rw[Kw UI] at this;exact this
   case measure=>simp[intOf];omega
  ·have aa:¬ (k:UZ)<(n:UZ):=UI
   have an:k=n:=UI
   subst an
   have HR:Hid (wr.ownsRow 0 60 2 (.slice a k j) k (rp (ke m) k)):=by
    have:=x.y.1;rw[Wt UI,XT] at this;exact this
   clear q r;obtain⟨C,A⟩:=T.y _ x.y.2
   go_upto_region 7 with fail
   change YS _ _ _ _ (wr.alloc (.cells #[.slice a k j,.slice U3 0 0,.slice U3 0 0,.slice U3 0 0,.int .i64 m] tS))
   have S0:Hid (KS (ke m) 60 wr (wr.alloc (.cells #[.slice a k j,.slice U3 0 0,.slice U3 0 0,.slice U3 0 0,.int .i64 m] tS)) (.slice a k j) k wr.heap.size (.cells #[.slice a k j,.slice U3 0 0,.slice U3 0 0,.slice U3 0 0,.int .i64 m] tS)) :=
    ⟨HR.y.alloc _,cC _ _,Vd _,(aF.refl _ _).alloc _,fun b f=>eW HR.y f⟩
   have R:Hid (KF (ke m) 60 wr (wr.alloc (.cells #[.slice a k j,.slice U3 0 0,.slice U3 0 0,.slice U3 0 0,.int .i64 m] tS)) (.slice a k j) k wr.heap.size (.cells #[.slice a k j,.slice U3 0 0,.slice U3 0 0,.slice U3 0 0,.int .i64 m] tS) [(.slice a k j,k)]) :=
    ⟨S0.y,fun p hp=>by
     rw[Yo.1 hp]
     exact⟨Fu.jh S0.y.own,fun b f=>⟨by have:=S0.y.lt b f;omega,eW S0.y.own f,.inl f⟩⟩⟩
   clear S0;generalize wr.alloc (.cells #[.slice a k j,.slice U3 0 0,.slice U3 0 0,.slice U3 0 0,.int .i64 m] tS)=Z0 at R ⊢;obtain⟨C,A⟩:=T.y _ (x.y.2.trans R.y.ks.off)
   go_upto_region 8 with (first|(at_builtin;go_loud (refine pj rfl _ _ 56 rfl (ke m) 16 underlying56 J I H E UK rfl UJ US R.y.ks.own (m:=1) (cs:=#[.int .i64 m,.int .i64 m]) (by simp[rp]) UK UK rfl rfl UI (zN _) ?_);intro g6 c6 w6 o6 Y f6 k6 ag;have q6:=aY (R.y.ks.at_ k6).1 1 rfl;have z6:=(R.y.ks.at_ k6).2 1))
   have P:=aC (R.y.put o6 Y f6 k6 ag UJ 1);generalize w6.setCell ⟨wr.heap.size,1,U3⟩ (.slice (U4 ⟨g6,0,U3⟩) (k+1) c6)=Z1 at P ⊢;clear C A o6 Y f6 k6 ag q6 z6 R;obtain⟨C,A⟩:=T.y _ (x.y.2.trans P.y.ks.off)
   go_upto_region 9 with (first|(at_builtin;go_loud (refine pj rfl _ _ 56 rfl (ke m) 16 underlying56 J I H E UK rfl UJ US P.y.ks.own (m:=2) (cs:=#[.int .i64 m,.int .i64 m,.int .i64 m,.int .i64 m]) (by simp[rp]) UK UK rfl rfl UI (zN _) ?_);intro g7 c7 w7 o7 X f7 k7 af;have q7:=aY (P.y.ks.at_ k7).1 2 rfl;have z7:=(P.y.ks.at_ k7).2 2))
   have O:=aC (P.y.put o7 X f7 k7 af UJ 2);generalize w7.setCell ⟨wr.heap.size,2,U3⟩ (.slice (U4 ⟨g7,0,U3⟩) (k+2) c7)=Z2 at O ⊢;clear C A o7 X f7 k7 af q7 z7 P;obtain⟨C,A⟩:=T.y _ (x.y.2.trans O.y.ks.off)
   go_upto_region 10 with (first|(at_builtin;go_loud (refine pj rfl _ _ 56 rfl (ke m) 16 underlying56 J I H E UK rfl UJ US O.y.ks.own (m:=3) (cs:=#[.int .i64 m,.int .i64 m,.int .i64 m,.int .i64 m,.int .i64 m,.int .i64 m]) (by simp[rp]) UK UK rfl rfl UI (zN _) ?_);intro g8 c8 w8 o8 V f8 k8 ae;have q8:=aY (O.y.ks.at_ k8).1 3 rfl;have z8:=(O.y.ks.at_ k8).2 3))
   have y:=aC (O.y.put o8 V f8 k8 ae UJ 3);generalize w8.setCell ⟨wr.heap.size,3,U3⟩ (.slice (U4 ⟨g8,0,U3⟩) (k+3) c8)=Z3 at y ⊢;clear C A o8 V f8 k8 ae q8 z8 O;have R3:aF (YZ a k j).ownBlock.toList w Z3:=(aF.aD HW.y).trans (x.y.2.trans y.y.ks.off);have ai:=aC (fun b (f:b∈(YZ a k j).ownBlock.toList)=>HK.y b (by simpa using f));have U:=aC (HB.y.off R3 (fun b f e=>(ai.y b e).2 f) (fun b f e=>(ai.y b e).1 f));have ar:=aC R3;obtain⟨_,_,_,d2,_,ad⟩:=U.y.cells;obtain⟨_,⟨ra,rc,er⟩,_⟩:=U.y.kc;subst er;have fB:=ad 3;have s0:=aY y.y.ks.hq 0 rfl;have s1:=aY y.y.ks.hq 1 rfl;have s2:=aY y.y.ks.hq 2 rfl;have s3:=aY y.y.ks.hq 3 rfl;have s4:=aY y.y.ks.hq 4 rfl;have a4:∀ o,(Z3.alloc o).cell? ⟨B,3,U3⟩=U4 (.slice ra X2.length rc):=fun o=>aN ((zr _ Z3).alloc (zq _) o) d2
   have DD:=aC (fun o=>ey U.y.br.b2.own (((zr _ Z3).alloc (zq _) o).drew));have ac:(YZ ra X2.length rc).ownBlock≠U4 B:=iu U.y.br.b2.own U.y.hb UK;clear R3 ad
   go_region_law (first
    |(refine step_append_lies _ rfl _ _ 81 rfl 0 tS j0 _ 5 104 underlying81 ao al ak aj rfl UK (.slice ra X2.length rc) X2.length (X2.flatMap fu) rfl (DD.y _) ⟨Z3.heap.size,0,U3⟩ 1 1 (fu (.slice a k j,.slice (U4 ⟨g6,0,U3⟩) (k+1) c6,.slice (U4 ⟨g7,0,U3⟩) (k+2) c7,.slice (U4 ⟨g8,0,U3⟩) (k+3) c8,m)) rfl rfl (Wv (cs:=(fu (.slice a k j,.slice (U4 ⟨g6,0,U3⟩) (k+1) c6,.slice (U4 ⟨g7,0,U3⟩) (k+2) c7,.slice (U4 ⟨g8,0,U3⟩) (k+3) c8,m)).toArray) (cC Z3 _)) (by simp[fu,WD]) UI UR UI (zN _) (Z3.heap.size+1) UJ ?_;intro g9 c9 w9 o9 M aq aw;have k9:aF ((YZ ra X2.length rc).ownBlock.toList) Z3 w9:=aF.grown (((aF.refl _ Z3).alloc _).drew) M (fun k hk=>.inl (by simp[hk]));have d9:=k9.cell (fun e=>ac (by simpa using e)) d2;have f9:=(k9.frozen (fun e=>ac (by simpa using e)) (Vh _ _ d2)).trans fB))
   all_goals
    go_wp2_with fail
    (try simp only[Wq,Exit.then]);refine bodyPost_end (results_none rfl _ _ _) rfl ?_
    refine⟨rfl,HB.y.fZ U.y y.y hn ar.y (Vg HW.y.size x.y.2.size) HK.y k9 o9 (fun b f=>by
     simp[Wr] at f;subst f
     exact aq.imp id (fun e=>by omega))⟩
variable {w:U7}{B:UY}{v0 v1 r1 r2 r3:U8}{K:UV UY}{X1 X2 X3:UV KL}
theorem Nd:(prog.info? tE).map (fun i=>(i.zero,i.size,i.bytes))=U4 (U4 (.agg #[.slice U3 0 0,.slice U3 0 0,.slice U3 0 0,.slice U3 0 0,.int .i64 0]),5,104):=UO
theorem ML:(prog.info? 58).map (fun i=>(i.zero,i.size,i.bytes))=U4 (U4 (.agg #[.int .i64 0,.int .i64 0,.string ⟨#[]⟩,.int .i64 0,.slice U3 0 0,.int .i64 0]),6,72):=UO
theorem Kx(j:k*6+5<xs.length):((((((rp (iP m) k++xs.drop (k*6)).set (k*6) (.int .i64 m)).set (k*6+1) (.int .i64 0)).set (k*6+2) (.string ⟨#[]⟩)).set (k*6+3) (.int .i64 m)).set (k*6+4) (.slice U3 0 0)).set (k*6+5) (.int .i64 0)=rp (iP m) (k+1)++xs.drop ((k+1)*6):=by
 have f:(rp (iP m) k).length=k*6:=by rw[oi];simp
 have h:(k+1)*6=k*6+1+1+1+1+1+1:=UI
 rw[Ws (show k*6<xs.length by omega),Ws (show k*6+1<xs.length by omega),Ws (show k*6+1+1<xs.length by omega),Ws (show k*6+1+1+1<xs.length by omega),Ws (show k*6+1+1+1+1<xs.length by omega),Ws (show k*6+1+1+1+1+1<xs.length by omega),zK,VP,h];generalize rp (iP m) k=A at *
 subst_vars
 simp only[<- f,ZT,Nat.lt_irrefl,if_false,Ze,Nat.not_lt_of_le (Nat.le_add_right _ _),WB];rfl
theorem BK.uk{b c:U8}{e:Vc}(h:BK w B v0 v1 K r1 r2 r3 X1 X2 X3)(H:BK Z3 B v0 v1 K r1 r2 r3 X1 X2 X3)(x:KF (iP m) e wr Z3 l n Q o [(c,n+3),(b,n+2),(a,n+1),(l,n)])(E:n<=900000)(I:aF l.ownBlock.toList w Z3)(y:w.heap.size<=wr.heap.size)(r:∀ b,l.ownBlock=U4 b->b ∉ K/\b ∉ bM B r1 r2 r3)
  (C:aF r3.ownBlock.toList Z3 w9) (A:w9.ownsRow 0 tE 5 r' (X3.length+1) (X3.flatMap fu++fu (l,a,b,c,m))) (j:sX Z3 r3 r'):qk w B v0 v1 K r1 r2 r3 l (X1.length+X2.length+X3.length) (w9.setCell ⟨B,4,U3⟩ r') :=
 BK.kept x I y UQ (fun q f=>by
  simp only[bM,Vq,Vr,WI] at f ⊢;rcases f with rfl|f|f|f
  ·exact .inl (.inl rfl)
  ·exact .inl (.inr (.inl f))
  ·exact .inl (.inr (.inr (.inl f)))
  ·exact (j q f).imp (fun e=>.inr (.inr (.inr e))) id) (H.BE (x.k4 (P:=iP) E) (h.apart x y r) C A j)
theorem Nr(h:BK w B v0 v1 K r1 r2 r3 X1 X2 X3)(h1:X1.length<=1000000000)(h2:X2.length<=1000000000)(h3:X3.length<=1000000000)(hl:w.ownsRow 0 58 6 l n xs)(hn:n<=900000)(ae:∀ b,l.ownBlock=U4 b->b ∉ K/\b ∉ bM B r1 r2 r3):
  Va prog 122 #[.pointer (U4 ⟨B,2,U3⟩),l] w fun e w'=>e=.returned (.tuple #[])/\qk w B v0 v1 K r1 r2 r3 l (X1.length+X2.length+X3.length) w':=by
 obtain⟨i0,U,T,R,P⟩:=info_parts ML;obtain⟨j0,au,aq,ao,an⟩:=info_parts Nd;obtain⟨a,r,rfl⟩:=gB hl;have HB:=aC h;have HL:=aC hl;have HK:=aC ae;have ax:=aC (fun b (j:(YZ a n r).ownBlock=U4 b)=>eW hl j);have a4:xs.length=n*6:=hl.1;clear h hl ae
 go_in
 go_upto_region 3 with (first|(go_at_call 184;refine (Ac HB.y h1 h2 h3).mono ?_;rintro e w1 ⟨rfl,j⟩;have H1:=aC j;clear j))
 generalize a5:wC X1 X2 X3=m;change YS _ _ _ _ (w1.alloc (.cells #[.int .i64 m,.int .i64 0,.string ⟨#[]⟩,.int .i64 m,.slice U3 0 0,.int .i64 0] 58));have HW:=aC (aZ H1.y ((zr _ w1).alloc (zq _) (.cells #[.int .i64 m,.int .i64 0,.string ⟨#[]⟩,.int .i64 m,.slice U3 0 0,.int .i64 0] 58)) (zq _));have X:w1.heap.size ∉ (YZ a n r).ownBlock.toList:=fun e=>by have:=ax.y _ (by simpa using e);have:=H1.y.size;omega
 have BX:Hid (∀ Z,aF (YZ a n r).ownBlock.toList (w1.alloc (.cells #[.int .i64 m,.int .i64 0,.string ⟨#[]⟩,.int .i64 m,.slice U3 0 0,.int .i64 0] 58)) Z->Z.cell? ⟨w1.heap.size,0,U3⟩=U4 (.int .i64 m)/\Z.cell? ⟨w1.heap.size,1,U3⟩=U4 (.int .i64 0)/\Z.cell? ⟨w1.heap.size,2,U3⟩=U4 (.string ⟨#[]⟩)/\Z.cell? ⟨w1.heap.size,3,U3⟩=U4 (.int .i64 m)/\Z.cell? ⟨w1.heap.size,4,U3⟩=U4 (.slice U3 0 0)/\Z.cell? ⟨w1.heap.size,5,U3⟩=U4 (.int .i64 0)):=fun Z k=>⟨k.cell X (aY (cC w1 _) 0 rfl),k.cell X (aY (cC w1 _) 1 rfl),k.cell X (aY (cC w1 _) 2 rfl),k.cell X (aY (cC w1 _) 3 rfl),k.cell X (aY (cC w1 _) 4 rfl),k.cell X (aY (cC w1 _) 5 rfl)⟩
 clear X;generalize w1.alloc (.cells #[.int .i64 m,.int .i64 0,.string ⟨#[]⟩,.int .i64 m,.slice U3 0 0,.int .i64 0] 58)=W1 at HW BX ⊢;generalize w1.heap.size=S at BX ⊢;have ay:=aC (ey HL.y HW.y)
 go_loopw [6] (fun v wr=>∃ k:UY,k<=n/\v=.int .i64 k/\wr.ownsRow 0 58 6 (.slice a n r) n (rp (iP m) k++xs.drop (k*6))/\aF (YZ a n r).ownBlock.toList W1 wr) (fun v _=>n-(intOf v).toNat)
 case atStart=>exact⟨0,V6 _,rfl,by simpa[zM] using ay.y,aF.refl _ _⟩
 case round =>
  obtain⟨k,hk,rfl,f,y⟩:=hrel;have A:=aC (zA f y)
  by_cases a6:k<n
  ·have ad:(k:UZ)<(n:UZ):=UI
   obtain⟨O,M,J,I,H,E⟩:=BX.y _ y;have a3:(rp (iP m) k++xs.drop (k*6)).length=n*6:=by rw[VU,oi,ZV];simp;omega
   obtain⟨g,cap,u,e,c0,fz⟩:=po f (k:=k*6) UI;obtain⟨g',x,u1,q,c1,_⟩:=po f (k:=k*6+1) UI;rw[e] at q;simp only[Zp,ZR,ZS,and_true,true_and] at q;obtain⟨rfl,rfl⟩:=q;obtain⟨g',x,u2,q,c2,_⟩:=po f (k:=k*6+2) UI;rw[e] at q;simp only[Zp,ZR,ZS,and_true,true_and] at q;obtain⟨rfl,rfl⟩:=q;obtain⟨g',x,u3,q,c3,_⟩:=po f (k:=k*6+3) UI;rw[e] at q;simp only[Zp,ZR,ZS,and_true,true_and] at q;obtain⟨rfl,rfl⟩:=q;obtain⟨g',x,u4,q,c4,_⟩:=po f (k:=k*6+4) UI;rw[e] at q;simp only[Zp,ZR,ZS,and_true,true_and] at q;obtain⟨rfl,rfl⟩:=q;obtain⟨g',x,u5,q,c5,_⟩:=po f (k:=k*6+5) UI;rw[e] at q;simp only[Zp,ZR,ZS,and_true,true_and] at q;obtain⟨rfl,rfl⟩:=q;simp only[Zp,true_and] at e;obtain⟨rfl,rfl⟩:=e;have f0:=fz (k*6);have f1:=fz (k*6+1);have f2:=fz (k*6+2);have f3:=fz (k*6+3);have f4:=fz (k*6+4);have f5:=fz (k*6+5);clear f y
   go_wp2
   go_roundw
   case rel =>
    refine⟨k+1,by omega,by go_num,?_,(((((A.y.2.setCell (.inl UT) _ _).setCell (.inl UT) _ _).setCell (.inl UT) _ _).setCell (.inl UT) _ _).setCell (.inl UT) _ _).setCell (.inl UT) _ _⟩;have:=(nJ (nJ (nJ (nJ (nJ (nJ A.y.1 (b:=g) rfl (k*6) (.int .i64 m)) (b:=g) rfl (k*6+1) (.int .i64 0)) (b:=g) rfl (k*6+2) (.string ⟨#[]⟩)) (b:=g) rfl (k*6+3) (.int .i64 m)) (b:=g) rfl (k*6+4) (.slice U3 0 0)) (b:=g) rfl (k*6+5) (.int .i64 0));rw[Kx UI] at this;exact this
   case measure=>simp[intOf];omega
  ·have ad:¬ (k:UZ)<(n:UZ):=UI
   have ar:k=n:=UI
   subst ar
   have HR:Hid (wr.ownsRow 0 58 6 (.slice a k r) k (rp (iP m) k)):=by
    have:=A.y.1;rw[Wt UI,XT] at this;exact this
   clear f y;obtain⟨O,M,J,I,H,E⟩:=BX.y _ A.y.2
   go_upto_region 7 with fail
   change YS _ _ _ _ (wr.alloc (.cells #[.slice a k r,.slice U3 0 0,.slice U3 0 0,.slice U3 0 0,.int .i64 m] tE))
   have S0:Hid (KS (iP m) 58 wr (wr.alloc (.cells #[.slice a k r,.slice U3 0 0,.slice U3 0 0,.slice U3 0 0,.int .i64 m] tE)) (.slice a k r) k wr.heap.size (.cells #[.slice a k r,.slice U3 0 0,.slice U3 0 0,.slice U3 0 0,.int .i64 m] tE)) :=
    ⟨HR.y.alloc _,cC _ _,Vd _,(aF.refl _ _).alloc _,fun b j=>eW HR.y j⟩
   have T0:Hid (KF (iP m) 58 wr (wr.alloc (.cells #[.slice a k r,.slice U3 0 0,.slice U3 0 0,.slice U3 0 0,.int .i64 m] tE)) (.slice a k r) k wr.heap.size (.cells #[.slice a k r,.slice U3 0 0,.slice U3 0 0,.slice U3 0 0,.int .i64 m] tE) [(.slice a k r,k)]) :=
    ⟨S0.y,fun p hp=>by
     rw[Yo.1 hp]
     exact⟨Fu.jh S0.y.own,fun b j=>⟨by have:=S0.y.lt b j;omega,eW S0.y.own j,.inl j⟩⟩⟩
   clear S0;generalize wr.alloc (.cells #[.slice a k r,.slice U3 0 0,.slice U3 0 0,.slice U3 0 0,.int .i64 m] tE)=Z0 at T0 ⊢;obtain⟨O,M,J,I,H,E⟩:=BX.y _ (A.y.2.trans T0.y.ks.off)
   go_upto_region 8 with (first|(at_builtin;go_loud (refine pj rfl _ _ 34 rfl (iP m) 72 underlying34 U T R P UK rfl UJ US T0.y.ks.own (m:=1) (cs:=#[.int .i64 m,.int .i64 0,.string ⟨#[]⟩,.int .i64 m,.slice U3 0 0,.int .i64 0]) (by simp[rp]) UK UK rfl rfl UI (zN _) ?_);intro g6 c6 w6 o6 ac f6 k6 ak;have q6:=aY (T0.y.ks.at_ k6).1 1 rfl;have z6:=(T0.y.ks.at_ k6).2 1))
   have T1:=aC (T0.y.put o6 ac f6 k6 ak UJ 1);generalize w6.setCell ⟨wr.heap.size,1,U3⟩ (.slice (U4 ⟨g6,0,U3⟩) (k+1) c6)=Z1 at T1 ⊢;clear O M J I H E o6 ac f6 k6 ak q6 z6 T0;obtain⟨O,M,J,I,H,E⟩:=BX.y _ (A.y.2.trans T1.y.ks.off)
   go_upto_region 9 with (first|(at_builtin;go_loud (refine pj rfl _ _ 34 rfl (iP m) 72 underlying34 U T R P UK rfl UJ US T1.y.ks.own (m:=2) (cs:=#[.int .i64 m,.int .i64 0,.string ⟨#[]⟩,.int .i64 m,.slice U3 0 0,.int .i64 0,.int .i64 m,.int .i64 0,.string ⟨#[]⟩,.int .i64 m,.slice U3 0 0,.int .i64 0]) (by simp[rp]) UK UK rfl rfl UI (zN _) ?_);intro g7 c7 w7 o7 ab f7 k7 aj;have q7:=aY (T1.y.ks.at_ k7).1 2 rfl;have z7:=(T1.y.ks.at_ k7).2 2))
   have Y:=aC (T1.y.put o7 ab f7 k7 aj UJ 2);generalize w7.setCell ⟨wr.heap.size,2,U3⟩ (.slice (U4 ⟨g7,0,U3⟩) (k+2) c7)=Z2 at Y ⊢;clear O M J I H E o7 ab f7 k7 aj q7 z7 T1;obtain⟨O,M,J,I,H,E⟩:=BX.y _ (A.y.2.trans Y.y.ks.off)
   go_upto_region 10 with (first|(at_builtin;go_loud (refine pj rfl _ _ 34 rfl (iP m) 72 underlying34 U T R P UK rfl UJ US Y.y.ks.own (m:=3) (cs:=#[.int .i64 m,.int .i64 0,.string ⟨#[]⟩,.int .i64 m,.slice U3 0 0,.int .i64 0,.int .i64 m,.int .i64 0,.string ⟨#[]⟩,.int .i64 m,.slice U3 0 0,.int .i64 0,.int .i64 m,.int .i64 0,.string ⟨#[]⟩,.int .i64 m,.slice U3 0 0,.int .i64 0]) (by simp[rp]) UK UK rfl rfl UI (zN _) ?_);intro g8 c8 w8 o8 aa f8 k8 ai;have q8:=aY (Y.y.ks.at_ k8).1 3 rfl;have z8:=(Y.y.ks.at_ k8).2 3))
   have C:=aC (Y.y.put o8 aa f8 k8 ai UJ 3);generalize w8.setCell ⟨wr.heap.size,3,U3⟩ (.slice (U4 ⟨g8,0,U3⟩) (k+3) c8)=Z3 at C ⊢;clear O M J I H E o8 aa f8 k8 ai q8 z8 Y;have R3:aF (YZ a k r).ownBlock.toList w Z3:=(aF.aD HW.y).trans (A.y.2.trans C.y.ks.off);have al:=aC (fun b (j:b∈(YZ a k r).ownBlock.toList)=>HK.y b (by simpa using j));have B3:=aC (HB.y.off R3 (fun b j e=>(al.y b e).2 j) (fun b j e=>(al.y b e).1 j));have aw:=aC R3;obtain⟨_,_,_,_,d2,ag⟩:=B3.y.cells;obtain⟨_,_,ra,rc,er⟩:=B3.y.kc;subst er;have fB:=ag 4;have s0:=aY C.y.ks.hq 0 rfl;have s1:=aY C.y.ks.hq 1 rfl;have s2:=aY C.y.ks.hq 2 rfl;have s3:=aY C.y.ks.hq 3 rfl;have s4:=aY C.y.ks.hq 4 rfl;have a7:∀ o,(Z3.alloc o).cell? ⟨B,4,U3⟩=U4 (.slice ra X3.length rc):=fun o=>aN ((zr _ Z3).alloc (zq _) o) d2
   have DD:=aC (fun o=>ey B3.y.br.b3.own (((zr _ Z3).alloc (zq _) o).drew));have af:(YZ ra X3.length rc).ownBlock≠U4 B:=iu B3.y.br.b3.own B3.y.hb UK;clear R3 ag
   go_region_law (first
    |(refine step_append_lies _ rfl _ _ 82 rfl 0 tE j0 _ 5 104 underlying82 au aq ao an rfl UK (.slice ra X3.length rc) X3.length (X3.flatMap fu) rfl (DD.y _) ⟨Z3.heap.size,0,U3⟩ 1 1 (fu (.slice a k r,.slice (U4 ⟨g6,0,U3⟩) (k+1) c6,.slice (U4 ⟨g7,0,U3⟩) (k+2) c7,.slice (U4 ⟨g8,0,U3⟩) (k+3) c8,m)) rfl rfl (Wv (cs:=(fu (.slice a k r,.slice (U4 ⟨g6,0,U3⟩) (k+1) c6,.slice (U4 ⟨g7,0,U3⟩) (k+2) c7,.slice (U4 ⟨g8,0,U3⟩) (k+3) c8,m)).toArray) (cC Z3 _)) (by simp[fu,WD]) UI UR UI (zN _) (Z3.heap.size+1) UJ ?_;intro g9 c9 w9 o9 V av az;have k9:aF ((YZ ra X3.length rc).ownBlock.toList) Z3 w9:=aF.grown (((aF.refl _ Z3).alloc _).drew) V (fun k hk=>.inl (by simp[hk]));have d9:=k9.cell (fun e=>af (by simpa using e)) d2;have f9:=(k9.frozen (fun e=>af (by simpa using e)) (Vh _ _ d2)).trans fB))
   all_goals
    go_wp2_with fail
    (try simp only[Wq,Exit.then]);refine bodyPost_end (results_none rfl _ _ _) rfl ?_
    refine⟨rfl,HB.y.uk B3.y C.y hn aw.y (Vg HW.y.size A.y.2.size) HK.y k9 o9 (fun b j=>by
     simp[Wr] at j;subst j
     exact av.imp id (fun e=>by omega))⟩
open aA (aM)
variable {w w1 w2:U7}{B:UY}{v0 v1 r1 r2 r3 q1 q2 q3:U8}{K K1 L:UV UY}{X1 X2 X3 Y1 Y2 Y3:UV KL}{m:UY}
structure jR(w:U7)(B:UY)(v0 v1:U8)(K:UV UY)(r1 r2 r3:U8)(L:UV UY)(m:UY)(w1:U7)(K1:UV UY)(q1 q2 q3:U8)(Y1 Y2 Y3:UV KL):Prop where
 bk:BK w1 B v0 v1 K1 q1 q2 q3 Y1 Y2 Y3
 len:Y1.length+Y2.length+Y3.length=m
 off:aF (L++bM B r1 r2 r3) w w1
 kk:∀ b∈K1,b∈K\/b∈L\/w.heap.size<=b
 rr:∀ b∈bM B q1 q2 q3,b∈bM B r1 r2 r3\/w.heap.size<=b
theorem jR.refl(h:BK w B v0 v1 K r1 r2 r3 X1 X2 X3):jR w B v0 v1 K r1 r2 r3 [] (X1.length+X2.length+X3.length) w K r1 r2 r3 X1 X2 X3:=⟨h,rfl,aF.refl _ _,fun _ f=>.inl f,fun _ f=>.inl f⟩
theorem jR.step(h:jR w B v0 v1 K r1 r2 r3 L m w1 K1 q1 q2 q3 Y1 Y2 Y3)(k:qk w1 B v0 v1 K1 q1 q2 q3 l (Y1.length+Y2.length+Y3.length) w2):∃ E r q j C A Z3,jR w B v0 v1 K r1 r2 r3 (L++l.ownBlock.toList) (m+1) w2 E r q j C A Z3:=by
 obtain⟨E,r,q,j,C,A,Z3,O,M,J,I,H⟩:=k;have P:=h.off.size;refine⟨E,r,q,j,C,A,Z3,O,by rw[M,h.len],?_,fun b y=>?_,fun b y=>?_⟩
 ·refine (h.off.mono fun x f=>?_).trans' J fun x f=>?_
  ·rcases Vr.1 f with f|f
   ·exact Ym _ (Ym _ f)
   ·exact Yn _ f
  ·rcases Vr.1 f with f|f
   ·exact .inl (Ym _ (Yn _ f))
   ·exact (h.rr x f).imp (fun e=>Yn _ e) id
 ·rcases I b y with e|e|e
  ·rcases h.kk b e with e|e|e
   ·exact .inl e
   ·exact .inr (.inl (Ym _ e))
   ·exact .inr (.inr e)
  ·exact .inr (.inl (Yn _ (by simpa using e)))
  ·exact .inr (.inr UI)
 ·rcases H b y with e|e
  ·exact h.rr b e
  ·exact .inr UI
theorem jR.free(h:jR w B v0 v1 K r1 r2 r3 L m w1 K1 q1 q2 q3 Y1 Y2 Y3)(f:∀ b,l.ownBlock=U4 b->b<w.heap.size/\b ∉ K/\b ∉ bM B r1 r2 r3/\b ∉ L):∀ b,l.ownBlock=U4 b->b ∉ K1/\b ∉ bM B q1 q2 q3:=fun b j=>by
 obtain⟨y,x,r,q⟩:=f b j;refine⟨fun e=>?_,fun e=>?_⟩
 ·rcases h.kk b e with e|e|e
  ·exact x e
  ·exact q e
  ·omega
 ·rcases h.rr b e with e|e
  ·exact r e
  ·omega
theorem jR.own(h:jR w B v0 v1 K r1 r2 r3 L m w1 K1 q1 q2 q3 Y1 Y2 Y3)(q:w.ownsRow 0 t z l n xs)(f:∀ b,l.ownBlock=U4 b->b<w.heap.size/\b ∉ K/\b ∉ bM B r1 r2 r3/\b ∉ L):w1.ownsRow 0 t z l n xs :=
 dO q h.off fun b j e=>by
  rcases Vr.1 e with e|e
  ·exact (f b j).2.2.2 e
  ·exact (f b j).2.2.1 e
theorem jR.rC(h:jR w B v0 v1 K r1 r2 r3 L m w1 K1 q1 q2 q3 Y1 Y2 Y3)(f:m<=1000000000):Y1.length<=1000000000/\Y2.length<=1000000000/\Y3.length<=1000000000:=by
 have:=h.len;omega
structure hU(w:U7)(K:UV UY)(N:UV UY)(u1 u2 u3 u4:U8)(l:UV (aM × U8))(d g e:UV UZ):Prop where
 en:w.ownsRow 0 58 6 u1 l.length (l.flatMap ef)
 sp:∀ p∈l,w.ownsRow 0 60 2 p.2 p.1.aL.length (p.1.aL.flatMap fC)
 da:w.ownsRow 0 3 1 u2 d.length (d.map (VT .i64))
 gr:w.ownsRow 0 3 1 u3 g.length (g.map (VT .i64))
 ed:w.ownsRow 0 3 1 u4 e.length (e.map (VT .i64))
 pw:l.Pairwise fun p q=>∀ b,p.2.ownBlock=U4 b->q.2.ownBlock≠U4 b
 dg:∀ b,u2.ownBlock=U4 b->u3.ownBlock≠U4 b/\u4.ownBlock≠U4 b
 ge:∀ b,u3.ownBlock=U4 b->u4.ownBlock≠U4 b
 no:∀ b,(u1.ownBlock=U4 b\/u2.ownBlock=U4 b\/u3.ownBlock=U4 b\/u4.ownBlock=U4 b\/∃ p∈l,p.2.ownBlock=U4 b)->b ∉ K/\b ∉ N
def je(l:UV (aM × U8)):UV UY:=l.flatMap fun p=>p.2.ownBlock.toList
def jB(u1 u2 u3 u4:U8)(l:UV (aM × U8)):UV UY:=je l++u1.ownBlock.toList++u2.ownBlock.toList++u3.ownBlock.toList++u4.ownBlock.toList
theorem uP{l:UV (aM × U8)}(h:b∈je l):∃ p∈l,p.2.ownBlock=U4 b:=by
 obtain⟨p,f,j⟩:=ZP.1 h;exact⟨p,f,by simpa using j⟩
theorem K2{l:UV (aM × U8)}(f:k<l.length):(l.flatMap ef)[k*6+4]?=U4 (l[k]).2:=by
 induction l generalizing k with
 |nil=>simp at f
 |cons a r ih =>
  cases k with
  |zero=>simp[ef]
  |succ k =>
   have:=ih (k:=k) (by simpa using f);rw[Wi,Wz (by simp[ef];omega)];simp only[ef,VV,VZ,Z7];rw[<- this]
   congr 1
   omega
section
variable {u1 u2 u3 u4:U8}{l:UV (aM × U8)}{d g e:UV UZ}
theorem hU.JD(h:hU w K (bM B r1 r2 r3) u1 u2 u3 u4 l d g e)(r:k<l.length):∀ b,(l[k]).2.ownBlock=U4 b->b<w.heap.size/\b ∉ K/\b ∉ bM B r1 r2 r3/\b ∉ je (l.take k):=fun b j=>by
 have q:=zg r;obtain⟨y,x⟩:=h.no b (.inr (.inr (.inr (.inr ⟨_,q,j⟩))));refine⟨eW (h.sp _ q) j,y,x,fun A=>?_⟩;obtain⟨p,C,f⟩:=uP A;obtain⟨i,E,rfl⟩:=List.mem_iff_getElem.1 C;rw[List.length_take] at E;rw[List.getElem_take] at f;exact List.pairwise_iff_getElem.1 h.pw i k UI r UI b f j
theorem hU.DP(h:hU w K (bM B r1 r2 r3) u1 u2 u3 u4 l d g e):∀ b,u1.ownBlock=U4 b->b<w.heap.size/\b ∉ K/\b ∉ bM B r1 r2 r3/\b ∉ je l:=fun b j=>by
 obtain⟨r,q⟩:=h.no b (.inl j);refine⟨eW h.en j,r,q,fun x=>?_⟩;obtain⟨p,y,f⟩:=uP x;exact ph h.en (h.sp p y) UK j f
theorem hU.yJ(h:hU w K (bM B r1 r2 r3) u1 u2 u3 u4 l d g e)(q:w.ownsRow 0 3 1 u n xs)(r:u.ownBlock=U4 b):b ∉ je l++u1.ownBlock.toList:=fun f=>by
 rcases Vr.1 f with f|f
 ·obtain⟨p,x,j⟩:=uP f;exact ph q (h.sp p x) UK r j
 ·exact ph q h.en UK r (by simpa using f)
theorem hU.Nn(h:hU w K (bM B r1 r2 r3) u1 u2 u3 u4 l d g e):∀ b,u2.ownBlock=U4 b->b<w.heap.size/\b ∉ K/\b ∉ bM B r1 r2 r3/\b ∉ je l++u1.ownBlock.toList:=fun b f=>by
 obtain⟨q,j⟩:=h.no b (.inr (.inl f));exact⟨eW h.da f,q,j,h.yJ h.da f⟩
theorem hU.Kh(h:hU w K (bM B r1 r2 r3) u1 u2 u3 u4 l d g e):∀ b,u3.ownBlock=U4 b->b<w.heap.size/\b ∉ K/\b ∉ bM B r1 r2 r3/\b ∉ je l++u1.ownBlock.toList++u2.ownBlock.toList:=fun b j=>by
 obtain⟨r,q⟩:=h.no b (.inr (.inr (.inl j)));refine⟨eW h.gr j,r,q,fun f=>?_⟩;rcases Vr.1 f with f|f
 ·exact h.yJ h.gr j f
 ·exact (h.dg b (by simpa using f)).1 j
theorem hU.MX(h:hU w K (bM B r1 r2 r3) u1 u2 u3 u4 l d g e):∀ b,u4.ownBlock=U4 b->b<w.heap.size/\b ∉ K/\b ∉ bM B r1 r2 r3/\b ∉ je l++u1.ownBlock.toList++u2.ownBlock.toList++u3.ownBlock.toList:=fun b j=>by
 obtain⟨r,q⟩:=h.no b (.inr (.inr (.inr (.inl j))));refine⟨eW h.ed j,r,q,fun f=>?_⟩;rcases Vr.1 f with f|f
 ·rcases Vr.1 f with f|f
  ·exact h.yJ h.ed j f
  ·exact (h.dg b (by simpa using f)).2 j
 ·exact h.ge b (by simpa using f) j
theorem hU.later(h:hU w K L u1 u2 u3 u4 l d g e)(k:U9 w.heap.size w w1):hU w1 K L u1 u2 u3 u4 l d g e :=
 ⟨ey h.en k,fun p f=>ey (h.sp p f) k,ey h.da k,ey h.gr k,ey h.ed k,h.pw,h.dg,h.ge,h.no⟩
theorem hU.lt(h:hU w K L u1 u2 u3 u4 l d g e):∀ b∈jB u1 u2 u3 u4 l,b<w.heap.size:=fun b f=>by
 simp only[jB,Vr,WI] at f;rcases f with (((f|f)|f)|f)|f
 ·obtain⟨p,q,j⟩:=uP f;exact eW (h.sp p q) j
 ·exact eW h.en f
 ·exact eW h.da f
 ·exact eW h.gr f
 ·exact eW h.ed f
theorem rL{q:UY}(h:W.ownsRow q t z v n xs)(f:xs[k]?=U4 u):∃ g cap,v=.slice (U4 ⟨g,0,U3⟩) n cap/\W.cell? ⟨g,k,U3⟩=U4 u:=by
 rcases h.2 with ⟨rfl,rfl⟩|⟨g,cap,j,rfl,_,r,_⟩
 ·have:=h.1;rw[Z8,VY] at this;simp[this] at f
 ·exact⟨g,cap,rfl,(uz g k) ▸ h.cells (g:=g) rfl k u f⟩
theorem LA{l:UV (aM × U8)}(f:k<l.length):je (l.take (k+1))=je (l.take k)++(l[k]).2.ownBlock.toList:=by
 unfold je;rw[V5 f,List.flatMap_append];simp
theorem Dz{l:UV (aM × U8)}(h:b∈je (l.take k)):b∈je l:=by
 obtain⟨p,f,j⟩:=ZP.1 h;exact ZP.2 ⟨p,List.mem_of_mem_take f,j⟩
def ir(f at_ n:UZ)(u1 u2 u3 u4:U8):Obj:=.cells #[.int .i64 f,.int .i64 at_,.int .i64 n,u1,u2,u3,u4] 40 (0,0)
theorem jR.box(h:jR w B v0 v1 K r1 r2 r3 L m w1 K1 q1 q2 q3 Y1 Y2 Y3)(f:w.heap[Q]?=U4 o)(j:Q ∉ L)(q:Q ∉ bM B r1 r2 r3):w1.heap[Q]?=U4 o :=
 (h.off.block Q (YR.1 f).1 (fun e=>by
  rcases Vr.1 e with e|e
  ·exact j e
  ·exact q e)).trans f
theorem jR.down{X:U7}(k:U9 w.heap.size w X)(h:jR X B v0 v1 K r1 r2 r3 L m w1 K1 q1 q2 q3 Y1 Y2 Y3):jR w B v0 v1 K r1 r2 r3 L m w1 K1 q1 q2 q3 Y1 Y2 Y3 :=
 ⟨h.bk,h.len,(aF.aD k).trans h.off,fun b f=>(h.kk b f).imp id (Or.imp id fun e=>Vg k.size e),fun b f=>(h.rr b f).imp id fun e=>Vg k.size e⟩
def iE(X:U7)(B:UY)(v0 v1:U8)(K:UV UY)(r1 r2 r3:U8)(L:UV UY)(m:UY)(wr:U7):Prop:=∃ x j h f r q Z3,jR X B v0 v1 K r1 r2 r3 L m wr x j h f r q Z3
theorem iE.ints(h:iE w B v0 v1 K r1 r2 r3 L m w1)(A:m<=1000000000)(x:w.ownsRow 0 3 1 u n xs)(y:n<=900000)(f:∀ b,u.ownBlock=U4 b->b<w.heap.size/\b ∉ K/\b ∉ bM B r1 r2 r3/\b ∉ L):
  Va prog 123 #[.pointer (U4 ⟨B,2,U3⟩),u] w1 fun e w'=>e=.returned (.tuple #[])/\iE w B v0 v1 K r1 r2 r3 (L++u.ownBlock.toList) (m+1) w':=by
 obtain⟨K1,q1,q2,q3,Y1,Y2,Y3,k⟩:=h;obtain⟨r,q,j⟩:=k.rC A;refine (Nf k.bk r q j (k.own x f) y (k.free f)).mono ?_;rintro e w2 ⟨rfl,C⟩;exact⟨rfl,k.step C⟩
theorem iE.aL(h:iE w B v0 v1 K r1 r2 r3 L m w1)(A:m<=1000000000)(x:w.ownsRow 0 60 2 u n xs)(y:n<=900000)(f:∀ b,u.ownBlock=U4 b->b<w.heap.size/\b ∉ K/\b ∉ bM B r1 r2 r3/\b ∉ L):
  Va prog 121 #[.pointer (U4 ⟨B,2,U3⟩),u] w1 fun e w'=>e=.returned (.tuple #[])/\iE w B v0 v1 K r1 r2 r3 (L++u.ownBlock.toList) (m+1) w':=by
 obtain⟨K1,q1,q2,q3,Y1,Y2,Y3,k⟩:=h;obtain⟨r,q,j⟩:=k.rC A;refine (Ni k.bk r q j (k.own x f) y (k.free f)).mono ?_;rintro e w2 ⟨rfl,C⟩;exact⟨rfl,k.step C⟩
theorem iE.entries(h:iE w B v0 v1 K r1 r2 r3 L m w1)(A:m<=1000000000)(x:w.ownsRow 0 58 6 u n xs)(y:n<=900000)(f:∀ b,u.ownBlock=U4 b->b<w.heap.size/\b ∉ K/\b ∉ bM B r1 r2 r3/\b ∉ L):
  Va prog 122 #[.pointer (U4 ⟨B,2,U3⟩),u] w1 fun e w'=>e=.returned (.tuple #[])/\iE w B v0 v1 K r1 r2 r3 (L++u.ownBlock.toList) (m+1) w':=by
 obtain⟨K1,q1,q2,q3,Y1,Y2,Y3,k⟩:=h;obtain⟨r,q,j⟩:=k.rC A;refine (Nr k.bk r q j (k.own x f) y (k.free f)).mono ?_;rintro e w2 ⟨rfl,C⟩;exact⟨rfl,k.step C⟩
theorem LD(h:BK w B v0 v1 K r1 r2 r3 X1 X2 X3)(hm:X1.length+X2.length+X3.length+l.length+4<=1000000000)(P:hU w K (bM B r1 r2 r3) u1 u2 u3 u4 l d g e)(hl:l.length<=1000)(hs:∀ p∈l,p.1.aL.length<=900000)(hd:d.length<=900000)(hg:g.length<=900000)(he:e.length<=900000)(O at_ n:UZ):
  Va prog 77 #[.pointer (U4 ⟨B,2,U3⟩),bC O at_ n u1 u2 u3 u4] w fun x w'=>x=.returned (.tuple #[])/\iE w B v0 v1 K r1 r2 r3 (jB u1 u2 u3 u4 l) (X1.length+X2.length+X3.length+l.length+4) w':=by
 have kW:U9 w.heap.size w (w.alloc (ir O at_ n u1 u2 u3 u4)):=(zr _ _).alloc (zq _) _;have hQ:=cC w (ir O at_ n u1 u2 u3 u4);obtain⟨j,f,rfl⟩:=gB P.en;obtain⟨y,r,rfl⟩:=gB P.da;obtain⟨C,A,rfl⟩:=gB P.gr;obtain⟨I,H,rfl⟩:=gB P.ed;have E:=aC (P.later kW);have HS:=aC (zA hs (zA hd (zA hg he)))
 have BX:Hid (∀ S,(∀ b∈S,b∈jB (.slice j l.length f) (.slice y d.length r) (.slice C g.length A) (.slice I e.length H) l)->∀ T W,iE (w.alloc (ir O at_ n (.slice j l.length f) (.slice y d.length r) (.slice C g.length A) (.slice I e.length H))) B v0 v1 K r1 r2 r3 S T W->W.cell? ⟨w.heap.size,3,U3⟩=U4 (.slice j l.length f)/\W.cell? ⟨w.heap.size,4,U3⟩=U4 (.slice y d.length r)/\W.cell? ⟨w.heap.size,5,U3⟩=U4 (.slice C g.length A)/\W.cell? ⟨w.heap.size,6,U3⟩=U4 (.slice I e.length H)):=fun S hL T W k=>by
  obtain⟨K1,q1,q2,q3,Y1,Y2,Y3,k⟩:=k;have q:=k.box hQ (fun Z=>by have:=P.lt _ (hL _ Z);omega) (fun Z=>by have:=h.lt _ Z;omega);exact⟨aY q 3 rfl,aY q 4 rfl,aY q 5 rfl,aY q 6 rfl⟩
 have G0:Hid (iE (w.alloc (ir O at_ n (.slice j l.length f) (.slice y d.length r) (.slice C g.length A) (.slice I e.length H))) B v0 v1 K r1 r2 r3 [] (X1.length+X2.length+X3.length) (w.alloc (ir O at_ n (.slice j l.length f) (.slice y d.length r) (.slice C g.length A) (.slice I e.length H)))):=⟨_,_,_,_,_,_,_,jR.refl (h.later kW)⟩;have DN:Hid (∀ S T W,iE (w.alloc (ir O at_ n (.slice j l.length f) (.slice y d.length r) (.slice C g.length A) (.slice I e.length H))) B v0 v1 K r1 r2 r3 S T W->iE w B v0 v1 K r1 r2 r3 S T W):=fun S T W ⟨K1,q1,q2,q3,Y1,Y2,Y3,k⟩=>⟨K1,q1,q2,q3,Y1,Y2,Y3,k.down kW⟩
 clear kW hQ h P hs hd hg he;simp only[bC]
 go_in
 go_upto_region 1 with fail
 change YS _ _ _ _ (w.alloc (ir O at_ n (.slice j l.length f) (.slice y d.length r) (.slice C g.length A) (.slice I e.length H)));generalize w.alloc (ir O at_ n (.slice j l.length f) (.slice y d.length r) (.slice C g.length A) (.slice I e.length H))=X at E BX G0 DN ⊢;generalize hM:X1.length+X2.length+X3.length=M at *
 have ac:Hid (∀ k,∀ b∈je (l.take k),b∈jB (.slice j l.length f) (.slice y d.length r) (.slice C g.length A) (.slice I e.length H) l):=fun k b q=>by
  simp only[jB,Vr];exact .inl (.inl (.inl (.inl (Dz q))))
 go_wp2_with fail
 go_loopw [4] (fun v wr=>∃ k:UY,k<=l.length/\v=.int .i64 k/\iE X B v0 v1 K r1 r2 r3 (je (l.take k)) (M+k) wr) (fun v _=>l.length-(intOf v).toNat)
 case atStart=>exact⟨0,V6 _,rfl,by simpa[je] using G0.y⟩
 case round =>
  obtain⟨k,hk,rfl,R⟩:=hrel;have HK:=aC R;obtain⟨x3,_,_,_⟩:=BX.y _ (ac.y k) _ _ R;clear R
  by_cases J:k<l.length
  ·have aa:(k:UZ)<(l.length:UZ):=UI
   have SP:=aC (iE.aL HK.y UI (E.y.sp _ (zg J)) (HS.y.1 _ (zg J)) (E.y.JD J))
   have EC:∃ g cap,(YZ j l.length f)=.slice (U4 ⟨g,0,U3⟩) l.length cap/\wr.cell? ⟨g,k*6+4,U3⟩=U4 (l[k]).2:=by
    obtain⟨K1,q1,q2,q3,Y1,Y2,Y3,kk⟩:=HK.y
    exact rL (kk.own E.y.en fun b q=>by
     obtain⟨y1,y2,y3,y4⟩:=E.y.DP b q
     exact⟨y1,y2,y3,fun Z=>y4 (Dz Z)⟩) (K2 J)
   obtain⟨g0,ad,e0,y4⟩:=EC;simp only[Zp,true_and] at e0;obtain⟨rfl,rfl⟩:=e0
   go_wp2_with (first
    |(go_at_call 121;refine SP.y.mono ?_;rintro e w1 ⟨rfl,h1⟩;have H1:=aC h1;clear h1))
   go_roundw
   case rel=>exact⟨k+1,by omega,by go_num,by rw[LA J,<- Nat.add_assoc];exact H1.y⟩
   case measure=>simp[intOf];omega
  ·have aa:¬ (k:UZ)<(l.length:UZ):=UI
   have ab:k=l.length:=UI
   subst ab;rw[List.take_length] at HK;have Y:Hid (∀ b∈je l++(YZ j l.length f).ownBlock.toList,b∈jB (.slice j l.length f) (.slice y d.length r) (.slice C g.length A) (.slice I e.length H) l):=fun b q=>by unfold jB;exact Ym _ (Ym _ (Ym _ q))
   have V:Hid (∀ b∈je l++(YZ j l.length f).ownBlock.toList++(YZ y d.length r).ownBlock.toList,b∈jB (.slice j l.length f) (.slice y d.length r) (.slice C g.length A) (.slice I e.length H) l):=fun b q=>by unfold jB;exact Ym _ (Ym _ q)
   have U:Hid (∀ b∈je l++(YZ j l.length f).ownBlock.toList++(YZ y d.length r).ownBlock.toList++(YZ C g.length A).ownBlock.toList,b∈jB (.slice j l.length f) (.slice y d.length r) (.slice C g.length A) (.slice I e.length H) l):=fun b q=>by unfold jB;exact Ym _ q
   have C1:=aC (iE.entries HK.y UI E.y.en UI E.y.DP)
   go_upto_region 6 with (first|(go_at_call 122;refine C1.y.mono ?_;rintro e1 w1 ⟨rfl,h1⟩;have H1:=aC h1;clear h1))
   obtain⟨_,x4,_,_⟩:=BX.y _ Y.y _ _ H1.y;have C2:=aC (iE.ints H1.y UI E.y.da HS.y.2.1 E.y.Nn);clear x3 C1
   go_upto_region 7 with (first|(go_at_call 123;refine C2.y.mono ?_;rintro e1 w2 ⟨rfl,h2⟩;have H2:=aC h2;clear h2))
   obtain⟨_,_,x5,_⟩:=BX.y _ V.y _ _ H2.y;have C3:=aC (iE.ints H2.y UI E.y.gr HS.y.2.2.1 E.y.Kh);clear x4 C2
   go_upto_region 8 with (first|(go_at_call 123;refine C3.y.mono ?_;rintro e1 w3 ⟨rfl,h3⟩;have H3:=aC h3;clear h3))
   obtain⟨_,_,_,x6⟩:=BX.y _ U.y _ _ H3.y;have C4:=aC (iE.ints H3.y UI E.y.ed HS.y.2.2.2 E.y.MX);clear x5 C3
   go_wp2_with (first|(go_at_call 123;refine C4.y.mono ?_;rintro e1 w4 ⟨rfl,h4⟩;have H4:=aC h4;clear h4))
   (try simp only[Wq,Exit.then]);refine bodyPost_end (results_none rfl _ _ _) rfl ?_
   exact⟨rfl,by rw[hM];exact DN.y _ _ _ H4.y⟩
end
open aA (aM St bO Inv)
inductive Tg
 |no|pr (i:UY)|dc (i:UY)|xs|ys|bk|kp
structure Dk where
 p:UY
 d:UY
 s:St
 r:Raw
 aJ:UY->UW bB
 dd:UY
 xs:UV (aM × UY × UY)
 F:UV UY
structure wt(w:U7)(tg:UY->Tg)(i:UY)(k:Dk):Prop where
 bd:BD w k.p k.d k.s k.r k.aJ
 dd:DD w k.dd k.s k.xs k.F
 pp:tg k.p=.pr i
 pc:∀ b c,k.aJ b=U4 c->tg b=.pr i
 df:∀ b∈k.F,tg b=.dc i
 ds:∀ x∈k.xs,tg x.2.1=.dc i
structure mv(w:U7)(tg:UY->Tg)(D:UV Dk):Prop where
 at_:∀ (i:UY) (k:Dk),D[i]?=U4 k->wt w tg i k
 env:Env w
 lt:∀ b,tg b≠.no->b<w.heap.size
 gl:∀ b,b<10->tg b=.no
variable {w w1 w2 w':U7}{tg tg':UY->Tg}{i:UY}{k:Dk}{D:UV Dk}{G:UV UY}
theorem aF.n9(h:aF G w w')(q:10<=w.heap.size)(j:∀ b∈G,10<=b):U9 10 w w':=⟨h.os,h.tape,h.output,h.size,fun b r=>h.block b UI fun f=>by have:=j b f;omega⟩
theorem BD.off{r:Raw}(h:BD w p d s r aJ)(k:aF G w w')(j:∀ b∈G,aJ b=U3/\b≠p)(q:Env w'):BD w' p d s r aJ :=
 ⟨(k.block p (YR.1 h.pc).1 fun f=>(j p f).2 rfl).trans h.pc,h.pn,⟨h.ds.dk.off k fun x f=>(j x f).1,h.ds.of,h.ds.wl,h.ds.hl,h.ds.inv⟩,q,h.gl⟩
theorem wt.off(h:wt w tg i k)(y:aF G w w')(q:∀ b∈G,tg b≠.pr i/\tg b≠.dc i)(C:Env w')(ht:∀ b,tg b≠.no->tg' b=tg b):wt w' tg' i k:=by
 have e:∀ {b t},tg b=t->t≠.no->tg' b=t:=fun A H=>(ht _ (by rw[A];exact H)).trans A
 refine⟨h.bd.off y (fun b f=>⟨?_,fun eb=>(q b f).1 (eb ▸ h.pp)⟩) C,h.dd.off y (fun x j r=>(q x r).2 (h.df x j)) (fun x j r=>(q _ r).2 (h.ds x j)),e h.pp UJ,fun b c f=>e (h.pc b c f) UJ,fun b f=>e (h.df b f) UJ,fun x j=>e (h.ds x j) UJ⟩
 cases E:k.aJ b with
 |none=>rfl
 |some c=>exact ((q b f).1 (h.pc b c E)).elim
theorem mv.off(h:mv w tg D)(j:aF G w w')(r:∀ b∈G,(∀ i,tg b≠.pr i/\tg b≠.dc i)/\10<=b)(ht:∀ b,tg b≠.no->tg' b=tg b)(x:∀ b,tg' b≠.no->b<w'.heap.size)(A:∀ b,b<10->tg' b=.no):mv w' tg' D:=by
 have q:Env w':=h.env.n9 (j.n9 h.env.size fun b f=>(r b f).2);exact⟨fun i k y=>(h.at_ i k y).off j (fun b f=>(r b f).1 i) q ht,q,x,A⟩
theorem mv.later(h:mv w tg D)(k:U9 w.heap.size w w'):mv w' tg D :=
 h.off (G:=[]) (aF.aD k) UJ (fun _ _=>rfl) (fun b f=>zL (h.lt b f) k.size) h.gl
theorem mv.doc(h:mv w tg D)(E:D[i]?=U4 k){q:St × bO}(P:lQ w k.p k.d k.aJ q v w1):DD w1 k.dd k.s k.xs k.F:=by
 obtain⟨r',A,I,st,_⟩:=P;obtain⟨G,C,H⟩:=st.off;have K:=h.at_ i k E
 have f:∀ b,tg b=.dc i->b ∉ G:=fun b y j=>by
  rcases H b j with ⟨c,r,_⟩|⟨_,r⟩
  ·have:=K.pc b c r;rw[y] at this;cases this
  ·have:=h.lt b (by rw[y];simp);omega
 exact K.dd.off C (fun x j=>f x (K.df x j)) (fun x j=>f _ (K.ds x j))
open Classical in
theorem mv.both(h:mv w tg D)(hi:D[i]?=U4 k){q:St × bO}{e:Ending}(P:lQ w k.p k.d k.aJ q v w1)(Q:oL w1 k.dd k.F k.xs q e w2):
  ∃ (k':Dk) (tg':UY->Tg),mv w2 tg' (D.set i k')/\k'.p=k.p/\k'.dd=k.dd/\k'.s=q.1/\(∀ b,tg b≠.no->tg' b=tg b)/\(∀ b,tg' b≠.no->tg b≠.no\/w.heap.size<=b)/\(∃ G,aF G w w2/\∀ b∈G,tg b=.pr i\/tg b=.dc i\/w.heap.size<=b)/\∃ (u1 u2 u3 u4:U8) (l:UV (aM × U8)),v=bC q.2.err q.2.at_ q.2.n u1 u2 u3 u4/\l.map (·.1)=q.2.entries/\hU w2 [] [] u1 u2 u3 u4 l q.2.days q.2.granted q.2.ended/\∀ b∈jB u1 u2 u3 u4 l,tg' b=.no/\w.heap.size<=b:=by
 have al:=h.doc hi P;obtain⟨r',col',bd,st,u1,u2,u3,u4,l,rfl,hl,J,I,e3,e4,e5,e6⟩:=P;obtain⟨v1,v2,v3,v4,C,U,_,_,_,dd,hF,X,A⟩:=Q;have K:=h.at_ i k hi;have ai:i<D.length:=(ZI.1 hi).1;obtain⟨G,ko,hG⟩:=st.off;have s1:=ko.size;have s2:=X.size;have ao:=h.env.size
 -- what lies in the document's desk
 have ab:∀ b∈U,tg b=.dc i\/w1.heap.size<=b:=fun b f=>(hF b f).imp (K.df b) id
 have Y:∀ x∈C,tg x.2.1=.dc i\/w1.heap.size<=x.2.1:=fun x af=>by
  rcases A x af with ⟨y,hy,e⟩|e
  ·exact .inl (by rw[e];exact K.ds y hy)
  ·exact .inr e
 have aa:∀ b c,col' b=U4 c->tg b=.pr i\/(w.heap.size<=b/\b<w1.heap.size):=fun b c r=>by
  rcases st.new b c r with e|e
  ·exact .inl (K.pc b c e)
  ·refine .inr ⟨e,?_⟩;rcases Nat.lt_or_ge b w1.heap.size with T |T
   ·exact T
   ·rw[bd.ds.dk.none T] at r;cases r
 let R:UY->Tg:=fun b=>if b<w.heap.size then tg b else if col' b≠U3 then .pr i else if b∈U\/∃ x∈C,x.2.1=b then .dc i else .no
 have O:∀ b,b<w.heap.size->R b=tg b:=fun b f=>U1 f
 have E:∀ b,tg b≠.no->R b=tg b:=fun b f=>O b (h.lt b f)
 have ae:∀ b c,col' b=U4 c->R b=.pr i:=fun b c r=>by
  rcases aa b c r with e|⟨e,_⟩
  ·rw[E b (by rw[e];simp),e]
  ·show (if _ then _ else _)=_;rw[U0 UI,U1 (by rw[r];simp)]
 have V:∀ b,(b∈U\/∃ x∈C,x.2.1=b)->R b=.dc i:=fun b f=>by
  have aj:tg b=.dc i\/w1.heap.size<=b:=by
   rcases f with f|⟨x,A,rfl⟩
   ·exact ab b f
   ·exact Y x A
  rcases aj with e|e
  ·rw[E b (by rw[e];simp),e]
  ·show (if _ then _ else _)=_;rw[U0 UI,U0 (by simpa using bd.ds.dk.none e),U1 f]
 have ad:∀ b,w.heap.size<=b->b<w1.heap.size->col' b=U3->R b=.no:=fun b h1 h2 h3=>by
  show (if _ then _ else _)=_;rw[U0 UI,U0 (by simpa using h3),U0 ?_];rintro (f|⟨x,A,rfl⟩)
  ·rcases ab b f with e|e
   ·have:=h.lt b (by rw[e];simp);omega
   ·omega
  ·rcases Y x A with e|e
   ·have:=h.lt _ (by rw[e];simp);omega
   ·omega
 have an:∀ b∈k.F,tg b=.dc i:=K.df
 have ac:∀ b∈k.F,10<=b:=fun b f=>by
  rcases Nat.lt_or_ge b 10 with e|e
  ·have:=h.gl b e;rw[K.df b f] at this;cases this
  ·exact e
 have aq:∀ b∈G,10<=b:=fun b f=>by
  rcases hG b f with ⟨c,r,_⟩|⟨_,r⟩
  ·rcases Nat.lt_or_ge b 10 with e|e
   ·rw[K.bd.gl b e] at r;cases r
   ·exact e
  ·omega
 have H:Env w2:=bd.env.n9 (X.n9 UI ac);have kW:aF (G++k.F) w w2:=(ko.mono fun x A=>Ym _ A).trans' X fun x A=>.inl (Yn _ A)
 have GT:∀ b∈G++k.F,tg b=.pr i\/tg b=.dc i\/w.heap.size<=b:=fun b f=>by
  rcases Vr.1 f with f|f
  ·rcases hG b f with ⟨c,r,_⟩|⟨_,r⟩
   ·exact .inl (K.pc b c r)
   ·exact .inr (.inr r)
  ·exact .inr (.inl (K.df b f))
 have ak:BD w2 k.p k.d q.1 r' col':=bd.off X (fun b f=>by
  have ht:=K.df b f;refine⟨?_,fun e=>by have:=K.pp;rw[<- e,ht] at this;cases this⟩
  cases r:col' b with
  |none=>rfl
  |some c =>
   rcases aa b c r with e|e
   ·rw[ht] at e;cases e
   ·have:=h.lt b (by rw[ht];simp);omega) H
 -- the answer's rows
 have row:∀ {u:U8}{t z n:UY}{xs:UV U8},w1.ownsRow w.heap.size t z u n xs->(∀ b,u.ownBlock=U4 b->col' b=U3)->w2.ownsRow 0 t z u n xs/\∀ b,u.ownBlock=U4 b->R b=.no/\w.heap.size<=b:=fun ho hn=>by
  have lt:∀ b,_=U4 b->w.heap.size<=b/\b<w1.heap.size:=fun b f=>ho.lt b f
  refine⟨uQ (dO ho X fun b f A=>?_) (zN _),fun b f=>⟨ad b (lt b f).1 (lt b f).2 (hn b f),(lt b f).1⟩⟩;have:=h.lt b (by rw[K.df b A];simp);have:=(lt b f).1;omega
 have R1:=row J.own J.no;have RS:=fun p (S:p∈l)=>row (J.sp p S).1.own (J.sp p S).1.no
 have R2:=row I.own I.no;have R3:=row e3.own e3.no;have R4:=row e4.own e4.no;refine⟨⟨k.p,k.d,q.1,r',col',k.dd,C,U⟩,R,⟨fun j kj Z=>?_,H,fun b f=>?_,fun b f=>?_⟩,rfl,rfl,rfl,E,fun b f=>?_,⟨_,kW,GT⟩,u1,u2,u3,u4,l,rfl,hl,⟨R1.1,fun p S=>(RS p S).1,R2.1,R3.1,R4.1,J.pw,fun b f=>⟨fun e=>(e5 b e).2.1 f,e6 b f⟩,fun b f=>(e5 b f).2.2.1,fun _ _=>by simp⟩,fun b f=>?_⟩
 ·rw[List.getElem?_set] at Z
  by_cases e:i=j
  ·subst e;rw[U1 rfl,U1 ai] at Z
   cases Z
   exact⟨ak,dd,(E _ (by rw[K.pp];simp)).trans K.pp,ae,fun b f=>V b (.inl f),fun x A=>V _ (.inr ⟨x,A,rfl⟩)⟩
  ·rw[U0 e] at Z;refine (h.at_ j kj Z).off kW (fun b f=>?_) H E;rcases GT b f with J|J|J
   ·rw[J];exact⟨fun I=>e (by injection I),by simp⟩
   ·rw[J];exact⟨by simp,fun I=>e (by injection I)⟩
   ·have:tg b=.no:=by
     rcases Classical.em (tg b=.no) with I|I
     ·exact I
     ·have:=h.lt b I;omega
    rw[this];simp
 ·rcases Nat.lt_or_ge b w.heap.size with e|e
  ·omega
  ·have M:(if b<w.heap.size then tg b else if col' b≠U3 then Tg.pr i else if b∈U\/∃ x∈C,x.2.1=b then Tg.dc i else Tg.no)≠.no:=f;rw[U0 UI] at M
   by_cases r:col' b≠U3
   ·rcases Nat.lt_or_ge b w1.heap.size with T |T
    ·omega
    ·exact (r (bd.ds.dk.none T)).elim
   ·rw[U0 r] at M
    by_cases hf:b∈U\/∃ x∈C,x.2.1=b
    ·rcases hf with hf|⟨x,A,rfl⟩
     ·exact dd.lt b hf
     ·exact (dd.rd.sp x A).2.2
    ·rw[U0 hf] at M;exact (M rfl).elim
 ·rw[O b UI];exact h.gl b f
 ·rcases Nat.lt_or_ge b w.heap.size with e|e
  ·exact .inl (by rw[<- O b e];exact f)
  ·exact .inr e
 ·simp only[jB,Vr,WI] at f;rcases f with (((f|f)|f)|f)|f
  ·obtain⟨p,S,ag⟩:=uP f;exact (RS p S).2 b ag
  ·exact R1.2 b f
  ·exact R2.2 b f
  ·exact R3.2 b f
  ·exact R4.2 b f
structure LX(w0 w:U7)(B n:UY)(tg:UY->Tg)(D:UV Dk)(K:UV UY)(v0 v1 r1 r2 r3:U8)(X1 X2 X3:UV KL):Prop where
 ds:mv w tg D
 bk:BK w B v0 v1 K r1 r2 r3 X1 X2 X3
 len:X1.length+X2.length+X3.length<=n
 xo:w.ownsRow 0 30 1 v0 D.length (D.map fun k=>Vv (U4 ⟨k.p,0,U3⟩))
 yo:w.ownsRow 0 102 1 v1 D.length (D.map fun k=>Vv (U4 ⟨k.dd,0,U3⟩))
 tb:∀ b∈bM B r1 r2 r3,tg b=.bk
 tk:∀ b∈K,tg b=.kp
 tx:∀ b,v0.ownBlock=U4 b->tg b=.xs
 ty:∀ b,v1.ownBlock=U4 b->tg b=.ys
 d3:D.length<=3
 bl:U9 w0.heap.size w0 w
 lo:∀ b,tg b≠.no->w0.heap.size<=b
 oN:10<=w0.heap.size
def LW(w0 w:U7)(B n:UY):Prop:=∃ tg D K v0 v1 r1 r2 r3 X1 X2 X3,LX w0 w B n tg D K v0 v1 r1 r2 r3 X1 X2 X3
section
variable {w0 w3 w4:U7}{B n:UY}{K:UV UY}{v0 v1 r1 r2 r3:U8}{X1 X2 X3:UV KL}
theorem LX.later(h:LX w0 w B n tg D K v0 v1 r1 r2 r3 X1 X2 X3)(k:U9 w.heap.size w w'):LX w0 w' B n tg D K v0 v1 r1 r2 r3 X1 X2 X3 :=
 ⟨h.ds.later k,h.bk.later k,h.len,ey h.xo k,ey h.yo k,h.tb,h.tk,h.tx,h.ty,h.d3,h.bl.trans (k.mono h.bl.size),h.lo,h.oN⟩
theorem LW.later(h:LW w0 w B n)(k:U9 w.heap.size w w'):LW w0 w' B n:=by
 obtain⟨tg,D,K,v0,v1,r1,r2,r3,X1,X2,X3,h⟩:=h;exact⟨tg,D,K,v0,v1,r1,r2,r3,X1,X2,X3,h.later k⟩
theorem LW.more{m:UY}(h:LW w0 w B n)(k:n<=m):LW w0 w B m:=by
 obtain⟨tg,D,K,v0,v1,r1,r2,r3,X1,X2,X3,h⟩:=h;exact⟨tg,D,K,v0,v1,r1,r2,r3,X1,X2,X3,⟨h.ds,h.bk,Vg h.len k,h.xo,h.yo,h.tb,h.tk,h.tx,h.ty,h.d3,h.bl,h.lo,h.oN⟩⟩
theorem Dy{α β:Type}(f:α->β){l:UV α}{a b:α}(h:l[i]?=U4 a)(e:f b=f a):(l.set i b).map f=l.map f:=by
 rw[List.map_set,e];obtain⟨r,rfl⟩:=ZI.1 h;apply List.ext_getElem?;intro j;rw[List.getElem?_set]
 by_cases q:i=j
 ·subst q;simp[r]
 ·rw[U0 q]
theorem Below.ji(h:aF G w w')(r:N<=w.heap.size)(j:∀ b∈G,N<=b):U9 N w w':=⟨h.os,h.tape,h.output,h.size,fun b q=>h.block b UI fun f=>by have:=j b f;omega⟩
theorem LX.both(h:LX w0 w B n tg D K v0 v1 r1 r2 r3 X1 X2 X3)(I:D[i]?=U4 k){q:St × bO}{e:Ending}(P:lQ w k.p k.d k.aJ q v w1)(Q:oL w1 k.dd k.F k.xs q e w2):
  ∃ (E:Dk) (tg':UY->Tg),LX w0 w2 B n tg' (D.set i E) K v0 v1 r1 r2 r3 X1 X2 X3/\∃ (u1 u2 u3 u4:U8) (l:UV (aM × U8)),v=bC q.2.err q.2.at_ q.2.n u1 u2 u3 u4/\l.map (·.1)=q.2.entries/\hU w2 K (bM B r1 r2 r3) u1 u2 u3 u4 l q.2.days q.2.granted q.2.ended/\∀ b∈jB u1 u2 u3 u4 l,tg' b=.no/\w0.heap.size<=b:=by
 obtain⟨E,tg',d',e1,e2,_,X,V,⟨G,y,S⟩,u1,u2,u3,u4,l,Z,hl,r,H⟩:=h.ds.both I P Q
 have j:∀ {b t},tg b=t->t≠.no->(∀ i,t≠.pr i)->(∀ i,t≠.dc i)->b ∉ G/\tg' b=t:=fun {b t} x T h3 h4=>by
  refine⟨fun Y=>?_,(X b (by rw[x];exact T)).trans x⟩;rcases S b Y with e|e|e
  ·exact h3 _ (x.symm.trans e)
  ·exact h4 _ (x.symm.trans e)
  ·have:=h.ds.lt b (by rw[x];exact T);omega
 have C:∀ b∈bM B r1 r2 r3,b ∉ G/\tg' b=.bk:=fun b f=>j (h.tb b f) UJ UJ UJ
 have A:∀ b∈K,b ∉ G/\tg' b=.kp:=fun b f=>j (h.tk b f) UJ UJ UJ
 have R:∀ b,v0.ownBlock=U4 b->b ∉ G/\tg' b=.xs:=fun b f=>j (h.tx b f) UJ UJ UJ
 have O:∀ b,v1.ownBlock=U4 b->b ∉ G/\tg' b=.ys:=fun b f=>j (h.ty b f) UJ UJ UJ
 have J:=h.bl.size
 have G0:∀ b∈G,w0.heap.size<=b:=fun b f=>by
  rcases S b f with e|e|e
  ·exact h.lo b (by rw[e];simp)
  ·exact h.lo b (by rw[e];simp)
  ·omega
 refine⟨E,tg',⟨d',h.bk.off y (fun b f=>(C b f).1) (fun b f=>(A b f).1),h.len,?_,?_,fun b f=>(C b f).2,fun b f=>(A b f).2,fun b f=>(R b f).2,fun b f=>(O b f).2,by simpa using h.d3,h.bl.trans (Below.ji y J G0),fun b f=>?_,h.oN⟩,u1,u2,u3,u4,l,Z,hl,?_,fun b f=>⟨(H b f).1,by have:=(H b f).2;omega⟩⟩
 ·rw[Wp,Dy (fun k:Dk=>Vv (U4 ⟨k.p,0,U3⟩)) I (by rw[e1])];exact dO h.xo y fun b f=>(R b f).1
 ·rw[Wp,Dy (fun k:Dk=>Vv (U4 ⟨k.dd,0,U3⟩)) I (by rw[e2])];exact dO h.yo y fun b f=>(O b f).1
 ·rcases V b f with e|e
  ·exact h.lo b e
  ·omega
 ·refine⟨r.en,r.sp,r.da,r.gr,r.ed,r.pw,r.dg,r.ge,fun b f=>?_⟩
  have M:b∈jB u1 u2 u3 u4 l:=by
   simp only[jB,Vr,WI];rcases f with f|f|f|f|⟨p,hp,f⟩
   ·exact .inl (.inl (.inl (.inr f)))
   ·exact .inl (.inl (.inr f))
   ·exact .inl (.inr f)
   ·exact .inr f
   ·exact .inl (.inl (.inl (.inl (ZP.2 ⟨p,hp,by simpa using f⟩))))
  have U:=(H b M).1;refine⟨fun e=>?_,fun e=>?_⟩
  ·have:=(A b e).2;rw[U] at this;cases this
  ·have:=(C b e).2;rw[U] at this;cases this
open Classical in
theorem LX.kept(h:LX w0 w B n tg D K v0 v1 r1 r2 r3 X1 X2 X3){L:UV UY}{m:UY}(hm:m<=n)(M:∀ b∈L,tg b=.no/\w0.heap.size<=b)(k:iE w B v0 v1 K r1 r2 r3 L m w4):LW w0 w4 B n:=by
 obtain⟨K',E,C,p3,Z1,Z2,Z3,r⟩:=k
 let A:UY->Tg:=fun b=>if tg b≠.no then tg b else if b∈K' then .kp else if b∈bM B E C p3 then .bk else .no
 have x:∀ b,tg b≠.no->A b=tg b:=fun b f=>U1 f
 have O:∀ b∈K',A b=.kp:=fun b f=>by
  by_cases e:tg b≠.no
  ·rw[x b e];rcases r.kk b f with j|j|j
   ·exact h.tk b j
   ·exact (e (M b j).1).elim
   ·have:=h.ds.lt b e;omega
  ·show (if _ then _ else _)=_;rw[U0 e,U1 f]
 have P:∀ b∈bM B E C p3,A b=.bk:=fun b f=>by
  by_cases e:tg b≠.no
  ·rw[x b e];rcases r.rr b f with j|j
   ·exact h.tb b j
   ·have:=h.ds.lt b e;omega
  ·show (if _ then _ else _)=_;rw[U0 e,U0 ?_,U1 f];intro V;have J:=f;simp only[bM,Vq,Vr,WI] at J;have q:=r.bk.br.kb b V;rcases J with rfl|j|j|j
   ·exact r.bk.bK V
   ·exact q.2.1 j
   ·exact q.2.2.1 j
   ·exact q.2.2.2 j
 have Y:∀ b∈L++bM B r1 r2 r3,w0.heap.size<=b:=fun b f=>by
  rcases Vr.1 f with f|f
  ·exact (M b f).2
  ·exact h.lo b (by rw[h.tb b f];simp)
 have aa:=h.ds.env.size;have S:=h.bl.size
 have T:∀ b∈L++bM B r1 r2 r3,tg b=.no\/tg b=.bk:=fun b f=>by
  rcases Vr.1 f with f|f
  ·exact .inl (M b f).1
  ·exact .inr (h.tb b f)
 have U:∀ b∈L++bM B r1 r2 r3,10<=b:=fun b f=>by
  have h1:=Y b f;have h2:=h.oN;omega
 have kx:∀ b,v0.ownBlock=U4 b->b ∉ L++bM B r1 r2 r3:=fun b f R=>by
  have:=h.tx b f;rcases T b R with e|e <;> rw[this] at e <;> cases e
 have Z:∀ b,v1.ownBlock=U4 b->b ∉ L++bM B r1 r2 r3:=fun b f R=>by
  have:=h.ty b f;rcases T b R with e|e <;> rw[this] at e <;> cases e
 have H:∀ b,A b≠.no->tg b≠.no\/b∈K'\/b∈bM B E C p3:=fun b f=>by
  have y:(if tg b≠.no then tg b else if b∈K' then Tg.kp else if b∈bM B E C p3 then Tg.bk else Tg.no)≠.no:=f
  by_cases e:tg b≠.no
  ·exact .inl e
  ·rw[U0 e] at y
   by_cases j:b∈K'
   ·exact .inr (.inl j)
   ·rw[U0 j] at y
    by_cases X:b∈bM B E C p3
    ·exact .inr (.inr X)
    ·rw[U0 X] at y;exact (y rfl).elim
 have I:∀ b,A b≠.no->w0.heap.size<=b:=fun b f=>by
  rcases H b f with e|e|e
  ·exact h.lo b e
  ·rcases r.kk b e with e|e|e
   ·exact h.lo b (by rw[h.tk b e];simp)
   ·exact (M b e).2
   ·omega
  ·rcases r.rr b e with e|e
   ·exact h.lo b (by rw[h.tb b e];simp)
   ·omega
 refine⟨A,D,K',v0,v1,E,C,p3,Z1,Z2,Z3,⟨h.ds.off r.off (fun b f=>⟨fun i=>?_,U b f⟩) x (fun b f=>?_) (fun b f=>?_),r.bk,by rw[r.len];exact hm,dO h.xo r.off kx,dO h.yo r.off Z,P,O,fun b f=>(x b (by rw[h.tx b f];simp)).trans (h.tx b f),fun b f=>(x b (by rw[h.ty b f];simp)).trans (h.ty b f),h.d3,h.bl.trans (Below.ji r.off S Y),I,h.oN⟩⟩
 ·rcases T b f with e|e <;> rw[e] <;> simp
 ·rcases H b f with e|e|e
  ·exact zL (h.ds.lt b e) r.off.size
  ·exact (r.bk.br.kb b e).1
  ·exact r.bk.lt b e
 ·rcases Classical.em (A b=.no) with e|e
  ·exact e
  ·have h1:=I b e;have h2:=h.oN;omega
end
theorem wG{q:Array Oper}{rest:UV Oper}{o:Oper}{a:Act}{Q:Exit->Act->U7->Prop}(I:o.guard=U3)(x y:Operand)(t:Vc)(S:o.op=.call { callee:=.builtin .append,args:=#[x,y],argTypes:=#[t,t] })
  {B e:UY}{i:TypeInfo}{z:U8}(size f:UY) (ht:prog.underlying t=U4 (.slice e)) (U:prog.info? e=U4 i) (O:i.zero=U4 z) (j:i.size=size) (J:i.bytes=f) (A:f<=104) (C:z.cells.size=size) (H:0<size)
  {v:U8}{n:UY}{xs:UV U8}(r:W.ownsRow B e size v n xs) {cs:Array U8}{M:Vc}{mk:UY × UY}(V:cs.toList.length=size) (E:∀ u∈cs.toList,u.oneCell'=U6) (R:a.eval x=v) (P:a.eval y=.slice (U4 ⟨W.heap.size,0,U3⟩) 1 1) (hl:n<=2000000) (hB:B<=W.heap.size)
  (h:∀ g cap w',w'.ownsRow B e size (.slice (U4 ⟨g,0,U3⟩) (n+1) cap) (n+1) (xs++cs.toList)->aF v.ownBlock.toList W w'->(v.ownBlock=U4 g\/W.heap.size<=g)->wpList prog q Q rest (a.put o.dst (.slice (U4 ⟨g,0,U3⟩) (n+1) cap)) w'):
  wpList prog q Q (o :: rest) a (W.alloc (.cells cs M mk)):=by
 refine wpList_append_lies _ I x y t S B e i z size f ht U O j J C H v n xs R (r.alloc _) ⟨W.heap.size,0,U3⟩ 1 1 cs.toList P UI (Wv (cs:=cs) (cC W _)) E UI UR (Vg (Nat.mul_le_mul (show n+1<=2000001 by omega) A) UK) UQ (W.heap.size+1) UJ ?_;intro g cap w' Z Y X _;exact h g cap w' Z (((aF.refl _ W).alloc _).grown Y (fun k T=>.inl (by simp[T]))) (X.imp id (fun e=>by omega))
def zD:Obj:=.cells #[.slice U3 0 0,.slice U3 0 0,.int .i64 0,.int .i64 0] 105
theorem DD.zero(h:w.heap[Q]?=U4 zD):DD w Q gM [] [Q]:=by
 have q:=(YR.1 h).1;have c:∀ (i:UY) {v:U8},#[YZ U3 0 0,.slice U3 0 0,.int .i64 0,.int .i64 0][i]?=U4 v->w.cell? ⟨Q,i,U3⟩=U4 v:=fun i _ j=>aY h i j
 refine⟨⟨⟨_,c 0 rfl,Yl _ _ _ _,fun k f=>by cases f⟩,⟨_,c 1 rfl,Yl _ _ _ _,fun k f=>by cases f⟩,c 2 rfl,c 3 rfl,fun o=>by simp[Vi,h,zD],by simp,by simp⟩,rfl,fun k f=>by simp at f;omega,by simp[gM],by simp[gM],by simp[gM]⟩
section
variable {w0 w w1 w2 w3 w5:U7}{B n:UY}{tg:UY->Tg}{D:UV Dk}{K:UV UY}{v0 v1 r1 r2 r3 v0' v1':U8}{X1 X2 X3:UV KL}
theorem BK.aX(h:BK w B v0 v1 K r1 r2 r3 X1 X2 X3)(v:U8):BK (w.setCell ⟨B,0,U3⟩ v) B v v1 K r1 r2 r3 X1 X2 X3:=by
 have q:aF [B] w (w.setCell ⟨B,0,U3⟩ v):=aF.aX ..
 have j:∀ {t:UY}{r:U8}{n:UY}{xs:UV U8},w.ownsRow 0 t 5 r n xs->86≠t->∀ b,r.ownBlock=U4 b->b ∉ [B]:=fun x ht b f e=>by
  rw[Yo.1 e] at f;exact iu x h.hb ht f
 exact⟨by rw[lO h.hb];rfl,h.br.off q (j h.br.b1.own UK) (j h.br.b2.own UK) (j h.br.b3.own UK) (fun b f e=>h.bK (Yo.1 e ▸ f)),h.bK⟩
theorem BK.nk(h:BK w B v0 v1 K r1 r2 r3 X1 X2 X3)(v:U8):BK (w.setCell ⟨B,1,U3⟩ v) B v0 v K r1 r2 r3 X1 X2 X3:=by
 have q:aF [B] w (w.setCell ⟨B,1,U3⟩ v):=aF.aX ..
 have j:∀ {t:UY}{r:U8}{n:UY}{xs:UV U8},w.ownsRow 0 t 5 r n xs->86≠t->∀ b,r.ownBlock=U4 b->b ∉ [B]:=fun x ht b f e=>by
  rw[Yo.1 e] at f;exact iu x h.hb ht f
 exact⟨by rw[lO h.hb];rfl,h.br.off q (j h.br.b1.own UK) (j h.br.b2.own UK) (j h.br.b3.own UK) (fun b f e=>h.bK (Yo.1 e ▸ f)),h.bK⟩
theorem LX.xB(h:LX w0 w B n tg D K v0 v1 r1 r2 r3 X1 X2 X3):∀ b,v0.ownBlock=U4 b->b ∉ bM B r1 r2 r3/\b ∉ K/\v1.ownBlock≠U4 b/\b≠B:=fun b f=>by
 have ht:=h.tx b f;refine⟨fun e=>?_,fun e=>?_,fun e=>?_,fun e=>?_⟩
 ·have:=h.tb b e;rw[ht] at this;cases this
 ·have:=h.tk b e;rw[ht] at this;cases this
 ·have:=h.ty b e;rw[ht] at this;cases this
 ·have:=h.tb b (by rw[e];simp[bM]);rw[ht] at this;cases this
theorem LX.yB(h:LX w0 w B n tg D K v0 v1 r1 r2 r3 X1 X2 X3):∀ b,v1.ownBlock=U4 b->b ∉ bM B r1 r2 r3/\b ∉ K/\v0.ownBlock≠U4 b/\b≠B:=fun b f=>by
 have ht:=h.ty b f;refine⟨fun e=>?_,fun e=>?_,fun e=>?_,fun e=>?_⟩
 ·have:=h.tb b e;rw[ht] at this;cases this
 ·have:=h.tk b e;rw[ht] at this;cases this
 ·have:=h.tx b e;rw[ht] at this;cases this
 ·have:=h.tb b (by rw[e];simp[bM]);rw[ht] at this;cases this
theorem LX.bt(h:LX w0 w B n tg D K v0 v1 r1 r2 r3 X1 X2 X3):tg B=.bk/\B<w.heap.size:=⟨h.tb B (by simp[bM]),h.bk.lt B (by simp[bM])⟩
open Classical in
theorem LX.begin(h:LX w0 w B n tg D K v0 v1 r1 r2 r3 X1 X2 X3)(hD:D.length<3)(bd:BD w1 p d gM mS aJ)(k1:U9 w.heap.size w w1)(hc:∀ b,b<w.heap.size->aJ b=U3)(hp:w.heap.size<=p)
  (k2:aF v0.ownBlock.toList w1 w2) (o2:w2.ownsRow 0 30 1 v0' (D.length+1) ((D.map fun k=>Vv (U4 ⟨k.p,0,U3⟩))++[.pointer (U4 ⟨p,0,U3⟩)])) (a2:∀ b,v0'.ownBlock=U4 b->v0.ownBlock=U4 b\/w1.heap.size<=b)
  (R:w3=w2.setCell ⟨B,0,U3⟩ v0') (Z:aF v1.ownBlock.toList (w3.alloc zD) w5) (o5:w5.ownsRow 0 102 1 v1' (D.length+1) ((D.map fun k=>Vv (U4 ⟨k.dd,0,U3⟩))++[.pointer (U4 ⟨w3.heap.size,0,U3⟩)])) (a5:∀ b,v1'.ownBlock=U4 b->v1.ownBlock=U4 b\/(w3.alloc zD).heap.size<=b):
  LW w0 (w5.setCell ⟨B,1,U3⟩ v1') B n:=by
 obtain⟨tB,lB⟩:=h.bt;have s1:=k1.size;have s2:=k2.size;have Y:aF [B] w2 w3:=by rw[R];exact aF.aX ..
 have s3:w3.heap.size=w2.heap.size:=by rw[R];simp[World.setCell]
 have k4:U9 w3.heap.size w3 (w3.alloc zD):=(zr _ _).alloc (zq _) _;have s4:(w3.alloc zD).heap.size=w3.heap.size+1:=UJ
 have s5:=Z.size;have E:aF [B] w5 (w5.setCell ⟨B,1,U3⟩ v1'):=aF.aX ..;have s6:=E.size;have T:∀ b,v0.ownBlock=U4 b->b<w.heap.size:=fun b f=>h.ds.lt b (by rw[h.tx b f];simp)
 have I:∀ b,v1.ownBlock=U4 b->b<w.heap.size:=fun b f=>h.ds.lt b (by rw[h.ty b f];simp)
 have af:p<w1.heap.size:=(YR.1 bd.pc).1
 have M:∀ b c,aJ b=U4 c->w.heap.size<=b/\b<w1.heap.size:=fun b c f=>by
  refine⟨?_,?_⟩
  ·rcases Nat.lt_or_ge b w.heap.size with e|e
   ·rw[hc b e] at f;cases f
   ·exact e
  ·rcases Nat.lt_or_ge b w1.heap.size with e|e
   ·exact e
   ·rw[bd.ds.dk.none e] at f;cases f
 have y:∀ b,v0'.ownBlock=U4 b->b<w2.heap.size:=fun b f=>eW o2 f
 have S:∀ b,v1'.ownBlock=U4 b->b<w5.heap.size:=fun b f=>eW o5 f
 -- all that changes
 have kA:aF (B :: (v0.ownBlock.toList++v1.ownBlock.toList)) w1 (w5.setCell ⟨B,1,U3⟩ v1'):=by
  refine ((((k2.mono fun x j=>?_).trans (Y.mono fun x j=>?_)).trans (aF.aD k4)).trans (Z.mono fun x j=>?_)).trans (E.mono fun x j=>?_)
  ·exact WH _ (Ym _ j)
  ·rw[Yo.1 j];exact Yp ..
  ·exact WH _ (Yn _ j)
  ·rw[Yo.1 j];exact Yp ..
 have kW:=(aF.aD (F:=B :: (v0.ownBlock.toList++v1.ownBlock.toList)) k1).trans kA
 have GT:∀ b∈B :: (v0.ownBlock.toList++v1.ownBlock.toList),(tg b=.bk\/tg b=.xs\/tg b=.ys)/\b<w.heap.size:=fun b f=>by
  simp only[Vq,Vr,WI] at f;rcases f with rfl|f|f
  ·exact⟨.inl tB,lB⟩
  ·exact⟨.inr (.inl (h.tx b f)),T b f⟩
  ·exact⟨.inr (.inr (h.ty b f)),I b f⟩
 have GN:∀ b∈B :: (v0.ownBlock.toList++v1.ownBlock.toList),tg b≠.no:=fun b f=>by
  rcases (GT b f).1 with e|e|e <;> rw[e] <;> simp
 have al:∀ b∈B :: (v0.ownBlock.toList++v1.ownBlock.toList),10<=b:=fun b f=>by
  rcases Nat.lt_or_ge b 10 with e|e
  ·exact (GN b f (h.ds.gl b e)).elim
  ·exact e
 let C:UY->Tg:=fun b=>if tg b≠.no then tg b else if b=w3.heap.size then .dc D.length else if v0'.ownBlock=U4 b then .xs else if v1'.ownBlock=U4 b then .ys else if aJ b≠U3\/b=p then .pr D.length else .no
 have A:∀ b,tg b≠.no->C b=tg b:=fun b f=>U1 f
 have J:∀ b,w.heap.size<=b->¬ tg b≠.no:=fun b f e=>by have:=h.ds.lt b e;omega
 have ae:C w3.heap.size=.dc D.length:=by
  show (if _ then _ else _)=_;rw[U0 (J _ UI),U1 rfl]
 have ad:∀ b,v0'.ownBlock=U4 b->C b=.xs:=fun b f=>by
  rcases a2 b f with e|e
  ·rw[A b (by rw[h.tx b e];simp),h.tx b e]
  ·show (if _ then _ else _)=_;rw[U0 (J _ UI),U0 (by have:=y b f;omega),U1 f]
 have ac:∀ b,v1'.ownBlock=U4 b->C b=.ys:=fun b f=>by
  rcases a5 b f with e|e
  ·rw[A b (by rw[h.ty b e];simp),h.ty b e]
  ·show (if _ then _ else _)=_;rw[U0 (J _ UI),U0 UI,U0 (fun j=>by have:=y b j;omega),U1 f]
 have U:∀ b,w.heap.size<=b->b<w1.heap.size->(aJ b≠U3\/b=p)->C b=.pr D.length:=fun b h1 h2 f=>by
  show (if _ then _ else _)=_;rw[U0 (J _ h1),U0 UI,U0 (fun j=>?_),U0 (fun j=>?_),U1 f]
  ·rcases a5 b j with e|e
   ·have:=I b e;omega
   ·omega
  ·rcases a2 b j with e|e
   ·have:=T b e;omega
   ·omega
 have V:∀ b,C b≠.no->(tg b≠.no\/w.heap.size<=b)/\b<(w5.setCell ⟨B,1,U3⟩ v1').heap.size:=fun b f=>by
  have r:(if tg b≠.no then tg b else if b=w3.heap.size then Tg.dc D.length else if v0'.ownBlock=U4 b then Tg.xs else if v1'.ownBlock=U4 b then Tg.ys else if aJ b≠U3\/b=p then Tg.pr D.length else Tg.no)≠.no:=f
  by_cases e:tg b≠.no
  ·exact⟨.inl e,by have:=h.ds.lt b e;omega⟩
  rw[U0 e] at r
  by_cases e1:b=w3.heap.size
  ·exact⟨.inr UI,by omega⟩
  rw[U0 e1] at r
  by_cases e2:v0'.ownBlock=U4 b
  ·refine⟨?_,by have:=y b e2;omega⟩;rcases a2 b e2 with q|q
   ·exact .inl (by rw[h.tx b q];simp)
   ·exact .inr UI
  rw[U0 e2] at r
  by_cases R:v1'.ownBlock=U4 b
  ·refine⟨?_,by have:=S b R;omega⟩;rcases a5 b R with q|q
   ·exact .inl (by rw[h.ty b q];simp)
   ·exact .inr UI
  rw[U0 R] at r
  by_cases e4:aJ b≠U3\/b=p
  ·rcases e4 with q|q
   ·cases P:aJ b with
    |none=>exact (q P).elim
    |some c=>exact⟨.inr (M b c P).1,by have:=(M b c P).2;omega⟩
   ·exact⟨.inr UI,by omega⟩
  ·rw[U0 e4] at r;exact (r rfl).elim
 have ag:=h.bl.size
 have X:∀ b,C b≠.no->w0.heap.size<=b:=fun b f=>by
  rcases (V b f).1 with e|e
  ·exact h.lo b e
  ·omega
 have aj:∀ b,b<10->C b=.no:=fun b f=>by
  rcases Classical.em (C b=.no) with e|e
  ·exact e
  ·have h1:=X b e;have h2:=h.oN;omega
 have H:mv (w5.setCell ⟨B,1,U3⟩ v1') C D:=h.ds.off kW (fun b f=>⟨fun i=>by rcases (GT b f).1 with e|e|e <;> rw[e] <;> simp,al b f⟩) A (fun b f=>(V b f).2) aj;have ak:BD (w5.setCell ⟨B,1,U3⟩ v1') p d gM mS aJ:=bd.off kA (fun b f=>⟨hc b (GT b f).2,by have:=(GT b f).2;omega⟩) H.env;have ai:w5.heap[w3.heap.size]?=U4 zD:=(Z.block _ UI (fun e=>by have:=I _ (WI.1 e);omega)).trans (cC w3 _);have hQ:(w5.setCell ⟨B,1,U3⟩ v1').heap[w3.heap.size]?=U4 zD:=(E.block _ UI (fun e=>by have:=Yo.1 e;omega)).trans ai;have b2:BK w2 B v0 v1 K r1 r2 r3 X1 X2 X3:=(h.bk.later k1).off k2 (fun b f e=>(h.xB b (WI.1 e)).1 f) (fun b f e=>(h.xB b (WI.1 e)).2.1 f);have b3:BK w3 B v0' v1 K r1 r2 r3 X1 X2 X3:=by rw[R];exact b2.aX v0'
 have b5:BK w5 B v0' v1 K r1 r2 r3 X1 X2 X3:=(b3.later k4).off Z (fun b f e=>(h.yB b (WI.1 e)).1 f) (fun b f e=>(h.yB b (WI.1 e)).2.1 f)
 have nx:∀ b,v0'.ownBlock=U4 b->b≠B/\v1.ownBlock≠U4 b:=fun b f=>by
  rcases a2 b f with e|e
  ·exact⟨(h.xB b e).2.2.2,(h.xB b e).2.2.1⟩
  ·exact⟨by omega,fun e1=>by have:=I b e1;omega⟩
 have ny:∀ b,v1'.ownBlock=U4 b->b≠B:=fun b f=>by
  rcases a5 b f with e|e
  ·exact (h.yB b e).2.2.2
  ·omega
 have ab:(w5.setCell ⟨B,1,U3⟩ v1').ownsRow 0 30 1 v0' (D.length+1) ((D.map fun k=>Vv (U4 ⟨k.p,0,U3⟩))++[.pointer (U4 ⟨p,0,U3⟩)]) :=
  dO (dO (ey (dO o2 Y fun b f e=>(nx b f).1 (Yo.1 e)) k4) Z fun b f e=>(nx b f).2 (WI.1 e)) E fun b f e=>(nx b f).1 (Yo.1 e)
 have aa:(w5.setCell ⟨B,1,U3⟩ v1').ownsRow 0 102 1 v1' (D.length+1) ((D.map fun k=>Vv (U4 ⟨k.dd,0,U3⟩))++[.pointer (U4 ⟨w3.heap.size,0,U3⟩)]) :=
  dO o5 E fun b f e=>ny b f (Yo.1 e)
 refine⟨C,D++[⟨p,d,gM,mS,aJ,w3.heap.size,[],[w3.heap.size]⟩],K,v0',v1',r1,r2,r3,X1,X2,X3,⟨⟨fun i k O=>?_,H.env,H.lt,H.gl⟩,b5.nk v1',h.len,by simpa using ab,by simpa using aa,fun b f=>(A b (by rw[h.tb b f];simp)).trans (h.tb b f),fun b f=>(A b (by rw[h.tk b f];simp)).trans (h.tk b f),ad,ac,by simp;omega,h.bl.trans (Below.ji kW ag fun b f=>h.lo b (GN b f)),X,h.oN⟩⟩;rcases Nat.lt_or_ge i D.length with e|e
 ·rw[Wg e] at O;exact H.at_ i k O
 ·rw[Wz e] at O
  have hi:i-D.length=0:=by
   rcases Nat.eq_zero_or_pos (i-D.length) with q|q
   ·exact q
   ·rw[List.getElem?_eq_none UQ] at O;cases O
  rw[hi] at O;have:i=D.length:=UI
  subst this;simp only[List.getElem?_cons_zero,ZR] at O;subst O;exact⟨ak,DD.zero hQ,U p hp af (.inr rfl),fun b c f=>U b (M b c f).1 (M b c f).2 (.inl (fun e=>by rw[show aJ b=U4 c from f] at e;cases e)),fun b f=>by rw[Yo.1 f];exact ae,fun x j=>by cases j⟩
theorem KH:(prog.info? 30).map (fun i=>(i.zero,i.size,i.bytes))=U4 (U4 (.pointer U3),1,8):=UO
theorem KI:(prog.info? 102).map (fun i=>(i.zero,i.size,i.bytes))=U4 (U4 (.pointer U3),1,8):=UO
theorem EK(h:LW w0 w B n):Va prog 40 #[.pointer (U4 ⟨B,0,U3⟩)] w fun e w'=>e=.returned (.bool U6)/\LW w0 w' B n:=by
 obtain⟨i0,ag,ad,ac,ab⟩:=info_parts KH;obtain⟨j0,af,aa,Z,Y⟩:=info_parts KI;obtain⟨tg,D,K,v0,v1,r1,r2,r3,X1,X2,X3,J⟩:=h;have NE:=aC (Mx w J.ds.env);obtain⟨a0,c0,rfl⟩:=gB J.xo;obtain⟨H,E,rfl⟩:=gB J.yo;have x:=aC J;clear J
 go_in
 go_upto_region 4 with (first|(go_at_call 44;refine NE.y.mono ?_;rintro e w1 ⟨p,d,aJ,rfl,bd,k1,hc,hp⟩;have y:=aC (zA bd (zA k1 (zA hc hp)));clear bd k1 hc hp))
 obtain⟨X,x1,_,_,_,fz⟩:=(x.y.bk.later y.y.2.1).cells
 by_cases hD:D.length<3
 ·have ai:(D.length:UZ)<3:=UI
  have XO:=aC (ey x.y.xo y.y.2.1);have f0:=fz 0;have f:Hid (B ∉ (YZ a0 D.length c0).ownBlock.toList):=fun e=>(x.y.xB B (WI.1 e)).2.2.2 rfl
  have M:Hid (B ∉ (YZ H D.length E).ownBlock.toList):=fun e=>(x.y.yB B (WI.1 e)).2.2.2 rfl
  have LB:Hid (B<w1.heap.size):=Vh _ _ X
  go_upto_region 6 with (first|(at_builtin;go_loud (refine wG rfl _ _ 78 rfl 1 8 underlying78 ag ad ac ab UK rfl UK XO.y (cs:=#[.pointer (U4 ⟨p,0,U3⟩)]) rfl US rfl rfl UI (zN _) ?_);intro j q w2 o2 C a2;have y0:=C.cell f.y X;have z0:=(C.frozen f.y LB.y).trans f0;have S:=C.cell f.y x1;have R:=(C.frozen (o:=1) f.y LB.y).trans (fz 1)))
  have O:=aC (zA C (zA o2 a2))
  have q1:(w2.setCell ⟨B,0,U3⟩ (.slice (U4 ⟨j,0,U3⟩) (D.length+1) q)).cell? ⟨B,1,U3⟩=U4 (.slice H D.length E):=by
   rw[World.cell?_setCell_other _ _ _ _ UJ];exact S
  have z3:(w2.setCell ⟨B,0,U3⟩ (.slice (U4 ⟨j,0,U3⟩) (D.length+1) q)).frozen? ⟨B,1,U3⟩=U5:=by
   rw[World.frozen?_setCell];exact R
  clear C o2 a2 X x1 y0 S z0 R f0;have ae:Hid (∃ w3,w3=w2.setCell ⟨B,0,U3⟩ (.slice (U4 ⟨j,0,U3⟩) (D.length+1) q)):=⟨_,rfl⟩
  have YO:Hid (((w2.setCell ⟨B,0,U3⟩ (.slice (U4 ⟨j,0,U3⟩) (D.length+1) q)).alloc zD).ownsRow 0 102 1 (.slice H D.length E) D.length (D.map fun k=>Vv (U4 ⟨k.dd,0,U3⟩))) :=
   (dO (dO (ey x.y.yo y.y.2.1) O.y.1 fun b r e=>(x.y.yB b r).2.2.1 (WI.1 e)) (aF.aX B w2 0 _) fun b r e=>(x.y.yB b r).2.2.2 (Yo.1 e)).alloc _
  have P:Hid (∀ v1' w5,aF (YZ H D.length E).ownBlock.toList ((w2.setCell ⟨B,0,U3⟩ (.slice (U4 ⟨j,0,U3⟩) (D.length+1) q)).alloc zD) w5->w5.ownsRow 0 102 1 v1' (D.length+1) ((D.map fun k=>Vv (U4 ⟨k.dd,0,U3⟩))++[.pointer (U4 ⟨(w2.setCell ⟨B,0,U3⟩ (.slice (U4 ⟨j,0,U3⟩) (D.length+1) q)).heap.size,0,U3⟩)])->(∀ b,v1'.ownBlock=U4 b->(YZ H D.length E).ownBlock=U4 b\/((w2.setCell ⟨B,0,U3⟩ (.slice (U4 ⟨j,0,U3⟩) (D.length+1) q)).alloc zD).heap.size<=b)->LW w0 (w5.setCell ⟨B,1,U3⟩ v1') B n):=fun v1' w5 A T U =>
   x.y.begin hD y.y.1 y.y.2.1 y.y.2.2.1 y.y.2.2.2 O.y.1 O.y.2.1 (fun b r=>by simp[Wr] at r;subst r;exact O.y.2.2) rfl A T U
  clear ae;have I:((w2.setCell ⟨B,0,U3⟩ (.slice (U4 ⟨j,0,U3⟩) (D.length+1) q)).alloc zD).cell? ⟨B,1,U3⟩=U4 (.slice H D.length E):=aN ((zr _ _).alloc (zq _) _) q1
  have V:((w2.setCell ⟨B,0,U3⟩ (.slice (U4 ⟨j,0,U3⟩) (D.length+1) q)).alloc zD).frozen? ⟨B,1,U3⟩=U5:=by
   have e:=((zr (w2.setCell ⟨B,0,U3⟩ (.slice (U4 ⟨j,0,U3⟩) (D.length+1) q)).heap.size _).alloc (zq _) zD).block B (Vh _ _ q1);simp only[Vi,e] at z3 ⊢;exact z3
  generalize w2.setCell ⟨B,0,U3⟩ (.slice (U4 ⟨j,0,U3⟩) (D.length+1) q)=w3 at *;clear O XO y NE LB f fz;have aj:Hid (B<(w3.alloc zD).heap.size):=Vh _ _ I
  go_upto_region 7 with (first|(at_builtin;go_loud (refine wG (W:=w3.alloc zD) rfl _ _ 79 rfl 1 8 underlying79 af aa Z Y UK rfl UK YO.y (cs:=#[.pointer (U4 ⟨w3.heap.size,0,U3⟩)]) rfl US rfl (by simp[Act.eval]) UI (zN _) ?_);intro g5 c5 w5 T A U;have S:=A.cell M.y I;have R:=(A.frozen M.y aj.y).trans V))
  have HF:=aC (P.y _ _ A T (fun b r=>by simp[Wr] at r;subst r;exact U));clear A T U S R P YO
  go_wp2
  go_ret;exact⟨rfl,HF.y⟩
 ·have ai:¬ (D.length:UZ)<3:=UI
  go_wp2
  go_ret;exact⟨rfl,_,_,_,_,_,_,_,_,_,_,_,x.y.later y.y.2.1⟩
end
variable {w w1 w2:U7}{B:UY}{v0 v1 r1 r2 r3:U8}{K:UV UY}{X1 X2 X3:UV KL}
theorem Kz{X:UV KL}(f:k<X.length)(o:UY)(h:o<5):(X.flatMap fu)[k*5+o]?=(fu X[k])[o]?:=by
 induction X generalizing k with
 |nil=>simp at f
 |cons a r ih =>
  cases k with
  |zero=>rw[Wi,Z8,Nat.zero_add,Wg (by simpa[fu] using h)];rfl
  |succ k =>
   have:=ih (k:=k) (by simpa using f);rw[Wi,Wz (by simp[fu];omega)];simp only[fu,VV,VZ,Z7] at this ⊢;rw[<- this]
   congr 1
   omega
theorem lk.look{P:UZ->UV U8}{t:Vc}{r:U8}{X:UV KL}(h:lk P t K w r X)(hk:k<X.length):∃ (g cap:UY)(J I H E:UW Addr)(j A x q f:UY)(m:UZ),r=.slice (U4 ⟨g,0,U3⟩) X.length cap/\w.cell? ⟨g,k*5,U3⟩=U4 (.slice J j A)/\w.cell? ⟨g,k*5+1,U3⟩=U4 (.slice I (j+1) x)/\w.cell? ⟨g,k*5+2,U3⟩=U4 (.slice H (j+2) q)/\w.cell? ⟨g,k*5+3,U3⟩=U4 (.slice E (j+3) f)/\w.cell? ⟨g,k*5+4,U3⟩=U4 (.int .i64 m) /\
  j<=900000/\Fu (P m) w (.slice J j A) j/\Fu (P m) w (.slice I (j+1) x) (j+1)/\Fu (P m) w (.slice H (j+2) q) (j+2)/\Fu (P m) w (.slice E (j+3) f) (j+3):=by
 obtain⟨j,hj,V,U,T,S⟩:=h.four _ (zg hk);obtain⟨J,A,e1⟩:=V.form;obtain⟨I,x,e2⟩:=U.form;obtain⟨H,q,e3⟩:=T.form;obtain⟨E,f,e4⟩:=S.form
 have c:∀ o v,o<5->(fu X[k])[o]?=U4 v->∃ g cap,r=.slice (U4 ⟨g,0,U3⟩) X.length cap/\w.cell? ⟨g,k*5+o,U3⟩=U4 v:=fun o v R O=>by
  have hc:=(Kz hk o R).trans O;rcases h.own.2 with ⟨rfl,hn⟩|⟨g,cap,ab,rfl,_,hh,_⟩
  ·omega
  ·exact⟨g,cap,rfl,(uz g (k*5+o)) ▸ h.own.cells (g:=g) rfl _ v hc⟩
 obtain⟨g,cap,rfl,M⟩:=c 0 _ UK rfl
 have C:∀ o v,o<5->(fu X[k])[o]?=U4 v->w.cell? ⟨g,k*5+o,U3⟩=U4 v:=fun o v R O=>by
  obtain⟨g',aa,e,y⟩:=c o v R O;simp only[Zp,ZR,ZS,and_true,true_and] at e;obtain⟨rfl,rfl⟩:=e;exact y
 have y1:=C 1 _ UK rfl;have Z:=C 2 _ UK rfl;have Y:=C 3 _ UK rfl;have y4:=C 4 _ UK rfl;rw[Nat.add_zero] at M;rw[e1] at M V;rw[e2] at y1 U;rw[e3] at Z T;rw[e4] at Y S;exact⟨g,cap,J,I,H,E,j,A,x,q,f,_,rfl,M,y1,Z,Y,y4,hj,V,U,T,S⟩
def mU(t:Vc)(a b c d e:U8):Obj:=.cells #[a,b,c,d,e] t
theorem LZ(h:BK w B v0 v1 K r1 r2 r3 X1 X2 X3)(hm:X1.length+X2.length+X3.length<=1000000000):
  Va prog 42 #[.pointer (U4 ⟨B,2,U3⟩)] w fun e w'=>e=.returned (.bool U6)/\U9 w.heap.size w w':=by
 have HB:=aC h;obtain⟨⟨p1,s1,e1⟩,⟨p2,s2,e2⟩,p3,s3,e3⟩:=h.kc;subst e1 e2 e3;clear h
 go_in
 go_wp2_with fail
 have ac:Hid (U9 w.heap.size w w):=zr _ _
 go_loopw [3] (fun v wr=>∃ k:UY,k<=X1.length/\v=.int .i64 k/\U9 w.heap.size w wr) (fun v _=>X1.length-(intOf v).toNat)
 case atStart=>exact⟨0,V6 _,rfl,ac.y⟩
 case round =>
  obtain⟨k,hk,rfl,x⟩:=hrel;have Z:=aC x;have f:=HB.y.later x;obtain⟨_,_,d2,d3,d4,_⟩:=f.cells;clear x
  by_cases S:k<X1.length
  ·have r:(k:UZ)<(X1.length:UZ):=UI
   obtain⟨g,cap,R,P,O,M,j,J,I,H,E,m,e,y0,y1,y2,y3,y4,hj,f1,f2,f3,f4⟩:=f.br.b1.look S;simp only[Zp,true_and] at e;obtain⟨rfl,rfl⟩:=e;have T:=aC (fun W (A:U9 wr.heap.size wr W)=>zA (wU j m _ W (f1.later A).nv UI) (zA (wU (j+1) m _ W (f2.later A).nv UI) (zA (wU (j+2) m _ W (f3.later A).nv UI) (wU (j+3) m _ W (f4.later A).nv UI))));clear f1 f2 f3 f4 f
   go_upto_region 5 with fail
   change YS _ _ _ _ (wr.alloc (mU tI (.slice R j J) (.slice P (j+1) I) (.slice O (j+2) H) (.slice M (j+3) E) (.int .i64 m)));have q:=aC (zA ((zr _ wr).alloc (zq _) (mU tI (.slice R j J) (.slice P (j+1) I) (.slice O (j+2) H) (.slice M (j+3) E) (.int .i64 m))) (cC wr (mU tI (.slice R j J) (.slice P (j+1) I) (.slice O (j+2) H) (.slice M (j+3) E) (.int .i64 m))));generalize wr.alloc (mU tI (.slice R j J) (.slice P (j+1) I) (.slice O (j+2) H) (.slice M (j+3) E) (.int .i64 m))=Z0 at q ⊢
   have U:Hid (∀ W,U9 Z0.heap.size Z0 W->W.cell? ⟨wr.heap.size,0,U3⟩=U4 (.slice R j J)/\W.cell? ⟨wr.heap.size,1,U3⟩=U4 (.slice P (j+1) I)/\W.cell? ⟨wr.heap.size,2,U3⟩=U4 (.slice O (j+2) H)/\W.cell? ⟨wr.heap.size,3,U3⟩=U4 (.slice M (j+3) E)/\W.cell? ⟨wr.heap.size,4,U3⟩=U4 (.int .i64 m)):=fun W A=>by
    have C:=(A.block _ (YR.1 q.y.2).1).trans q.y.2;exact⟨aY C 0 rfl,aY C 1 rfl,aY C 2 rfl,aY C 3 rfl,aY C 4 rfl⟩
   clear y0 y1 y2 y3 y4 d2 d3 d4;obtain⟨x0,_,_,_,y⟩:=U.y _ (zr _ _)
   go_upto_region 6 with (first|(go_at_call 56;refine (T.y _ q.y.1).1.mono ?_;rintro e w1 ⟨rfl,h1⟩;have Y:=aC h1;clear h1))
   clear x0 y;obtain⟨_,x1,_,_,y⟩:=U.y _ Y.y
   go_upto_region 7 with (first|(go_at_call 56;refine (T.y _ (aZ q.y.1 Y.y (zq _))).2.1.mono ?_;rintro e w2 ⟨rfl,h2⟩;have X:=aC (aZ Y.y h2 (zq _));clear h2))
   clear x1 y;obtain⟨_,_,x2,_,y⟩:=U.y _ X.y
   go_upto_region 8 with (first|(go_at_call 56;refine (T.y _ (aZ q.y.1 X.y (zq _))).2.2.1.mono ?_;rintro e w3 ⟨rfl,h3⟩;have V:=aC (aZ X.y h3 (zq _));clear h3))
   clear x2 y;obtain⟨_,_,_,x3,y⟩:=U.y _ V.y
   go_upto_region 9 with (first|(go_at_call 56;refine (T.y _ (aZ q.y.1 V.y (zq _))).2.2.2.mono ?_;rintro e w4 ⟨rfl,h4⟩;have B4:=aC (aZ V.y h4 (zq _));clear h4))
   go_wp2
   go_roundw
   case rel=>exact⟨k+1,by omega,by go_num,aZ Z.y (aZ q.y.1 B4.y (zq _)) (zq _)⟩
   case measure=>simp[intOf];omega
  ·have r:¬ (k:UZ)<(X1.length:UZ):=UI
   clear f
   go_wp2_with fail
   have ab:=aC Z.y;clear d2 d3 d4 S r hk Z
   go_loopw [9] (fun v wr=>∃ k:UY,k<=X2.length/\v=.int .i64 k/\U9 w.heap.size w wr) (fun v _=>X2.length-(intOf v).toNat)
   case atStart=>exact⟨0,V6 _,rfl,ab.y⟩
   case round =>
    obtain⟨k,hk,rfl,x⟩:=hrel;have Z:=aC x;have f:=HB.y.later x;obtain⟨_,_,d2,d3,d4,_⟩:=f.cells;clear x
    by_cases S:k<X2.length
    ·have r:(k:UZ)<(X2.length:UZ):=UI
     obtain⟨g,cap,R,P,O,M,j,J,I,H,E,m,e,y0,y1,y2,y3,y4,hj,f1,f2,f3,f4⟩:=f.br.b2.look S;simp only[Zp,true_and] at e;obtain⟨rfl,rfl⟩:=e;have T:=aC (fun W (A:U9 wr.heap.size wr W)=>zA (wX j m _ W (f1.later A).sv UI) (zA (wX (j+1) m _ W (f2.later A).sv UI) (zA (wX (j+2) m _ W (f3.later A).sv UI) (wX (j+3) m _ W (f4.later A).sv UI))));clear f1 f2 f3 f4 f
     go_upto_region 15 with fail
     change YS _ _ _ _ (wr.alloc (mU tS (.slice R j J) (.slice P (j+1) I) (.slice O (j+2) H) (.slice M (j+3) E) (.int .i64 m)));have q:=aC (zA ((zr _ wr).alloc (zq _) (mU tS (.slice R j J) (.slice P (j+1) I) (.slice O (j+2) H) (.slice M (j+3) E) (.int .i64 m))) (cC wr (mU tS (.slice R j J) (.slice P (j+1) I) (.slice O (j+2) H) (.slice M (j+3) E) (.int .i64 m))));generalize wr.alloc (mU tS (.slice R j J) (.slice P (j+1) I) (.slice O (j+2) H) (.slice M (j+3) E) (.int .i64 m))=Z0 at q ⊢
     have U:Hid (∀ W,U9 Z0.heap.size Z0 W->W.cell? ⟨wr.heap.size,0,U3⟩=U4 (.slice R j J)/\W.cell? ⟨wr.heap.size,1,U3⟩=U4 (.slice P (j+1) I)/\W.cell? ⟨wr.heap.size,2,U3⟩=U4 (.slice O (j+2) H)/\W.cell? ⟨wr.heap.size,3,U3⟩=U4 (.slice M (j+3) E)/\W.cell? ⟨wr.heap.size,4,U3⟩=U4 (.int .i64 m)):=fun W A=>by
      have C:=(A.block _ (YR.1 q.y.2).1).trans q.y.2;exact⟨aY C 0 rfl,aY C 1 rfl,aY C 2 rfl,aY C 3 rfl,aY C 4 rfl⟩
     clear y0 y1 y2 y3 y4 d2 d3 d4;obtain⟨x0,_,_,_,y⟩:=U.y _ (zr _ _)
     go_upto_region 16 with (first|(go_at_call 57;refine (T.y _ q.y.1).1.mono ?_;rintro e w1 ⟨rfl,h1⟩;have Y:=aC h1;clear h1))
     clear x0 y;obtain⟨_,x1,_,_,y⟩:=U.y _ Y.y
     go_upto_region 17 with (first|(go_at_call 57;refine (T.y _ (aZ q.y.1 Y.y (zq _))).2.1.mono ?_;rintro e w2 ⟨rfl,h2⟩;have X:=aC (aZ Y.y h2 (zq _));clear h2))
     clear x1 y;obtain⟨_,_,x2,_,y⟩:=U.y _ X.y
     go_upto_region 18 with (first|(go_at_call 57;refine (T.y _ (aZ q.y.1 X.y (zq _))).2.2.1.mono ?_;rintro e w3 ⟨rfl,h3⟩;have V:=aC (aZ X.y h3 (zq _));clear h3))
     clear x2 y;obtain⟨_,_,_,x3,y⟩:=U.y _ V.y
     go_upto_region 19 with (first|(go_at_call 57;refine (T.y _ (aZ q.y.1 V.y (zq _))).2.2.2.mono ?_;rintro e w4 ⟨rfl,h4⟩;have B4:=aC (aZ V.y h4 (zq _));clear h4))
     go_wp2
     go_roundw
     case rel=>exact⟨k+1,by omega,by go_num,aZ Z.y (aZ q.y.1 B4.y (zq _)) (zq _)⟩
     case measure=>simp[intOf];omega
    ·have r:¬ (k:UZ)<(X2.length:UZ):=UI
     clear f
     go_wp2_with fail
     have aa:=aC Z.y;clear d2 d3 d4 S r hk Z
     go_loopw [15] (fun v wr=>∃ k:UY,k<=X3.length/\v=.int .i64 k/\U9 w.heap.size w wr) (fun v _=>X3.length-(intOf v).toNat)
     case atStart=>exact⟨0,V6 _,rfl,aa.y⟩
     case round =>
      obtain⟨k,hk,rfl,x⟩:=hrel;have Z:=aC x;have f:=HB.y.later x;obtain⟨_,_,d2,d3,d4,_⟩:=f.cells;clear x
      by_cases S:k<X3.length
      ·have r:(k:UZ)<(X3.length:UZ):=UI
       obtain⟨g,cap,R,P,O,M,j,J,I,H,E,m,e,y0,y1,y2,y3,y4,hj,f1,f2,f3,f4⟩:=f.br.b3.look S;simp only[Zp,true_and] at e;obtain⟨rfl,rfl⟩:=e;have T:=aC (fun W (A:U9 wr.heap.size wr W)=>zA (xc j m _ W (f1.later A).ev UI) (zA (xc (j+1) m _ W (f2.later A).ev UI) (zA (xc (j+2) m _ W (f3.later A).ev UI) (xc (j+3) m _ W (f4.later A).ev UI))));clear f1 f2 f3 f4 f
       go_upto_region 25 with fail
       change YS _ _ _ _ (wr.alloc (mU tE (.slice R j J) (.slice P (j+1) I) (.slice O (j+2) H) (.slice M (j+3) E) (.int .i64 m)));have q:=aC (zA ((zr _ wr).alloc (zq _) (mU tE (.slice R j J) (.slice P (j+1) I) (.slice O (j+2) H) (.slice M (j+3) E) (.int .i64 m))) (cC wr (mU tE (.slice R j J) (.slice P (j+1) I) (.slice O (j+2) H) (.slice M (j+3) E) (.int .i64 m))));generalize wr.alloc (mU tE (.slice R j J) (.slice P (j+1) I) (.slice O (j+2) H) (.slice M (j+3) E) (.int .i64 m))=Z0 at q ⊢
       have U:Hid (∀ W,U9 Z0.heap.size Z0 W->W.cell? ⟨wr.heap.size,0,U3⟩=U4 (.slice R j J)/\W.cell? ⟨wr.heap.size,1,U3⟩=U4 (.slice P (j+1) I)/\W.cell? ⟨wr.heap.size,2,U3⟩=U4 (.slice O (j+2) H)/\W.cell? ⟨wr.heap.size,3,U3⟩=U4 (.slice M (j+3) E)/\W.cell? ⟨wr.heap.size,4,U3⟩=U4 (.int .i64 m)):=fun W A=>by
        have C:=(A.block _ (YR.1 q.y.2).1).trans q.y.2;exact⟨aY C 0 rfl,aY C 1 rfl,aY C 2 rfl,aY C 3 rfl,aY C 4 rfl⟩
       clear y0 y1 y2 y3 y4 d2 d3 d4;obtain⟨x0,_,_,_,y⟩:=U.y _ (zr _ _)
       go_upto_region 26 with (first|(go_at_call 58;refine (T.y _ q.y.1).1.mono ?_;rintro e w1 ⟨rfl,h1⟩;have Y:=aC h1;clear h1))
       clear x0 y;obtain⟨_,x1,_,_,y⟩:=U.y _ Y.y
       go_upto_region 27 with (first|(go_at_call 58;refine (T.y _ (aZ q.y.1 Y.y (zq _))).2.1.mono ?_;rintro e w2 ⟨rfl,h2⟩;have X:=aC (aZ Y.y h2 (zq _));clear h2))
       clear x1 y;obtain⟨_,_,x2,_,y⟩:=U.y _ X.y
       go_upto_region 28 with (first|(go_at_call 58;refine (T.y _ (aZ q.y.1 X.y (zq _))).2.2.1.mono ?_;rintro e w3 ⟨rfl,h3⟩;have V:=aC (aZ X.y h3 (zq _));clear h3))
       clear x2 y;obtain⟨_,_,_,x3,y⟩:=U.y _ V.y
       go_upto_region 29 with (first|(go_at_call 58;refine (T.y _ (aZ q.y.1 V.y (zq _))).2.2.2.mono ?_;rintro e w4 ⟨rfl,h4⟩;have B4:=aC (aZ V.y h4 (zq _));clear h4))
       go_wp2
       go_roundw
       case rel=>exact⟨k+1,by omega,by go_num,aZ Z.y (aZ q.y.1 B4.y (zq _)) (zq _)⟩
       case measure=>simp[intOf];omega
      ·have r:¬ (k:UZ)<(X3.length:UZ):=UI
       clear f
       go_wp2
       go_ret;exact⟨rfl,Z.y⟩
theorem MT(s:UU)(w:U7)(U:s.size<=2000000):
  Va prog 59 #[.string s] w fun e w'=>∃ v,e=.returned v/\w'.ownsRow w.heap.size 9 1 v (aB.aP s).length ((aB.aP s).map YK)/\U9 w.heap.size w w':=by
 obtain⟨P,R,E,C,A⟩:=info_parts wH
 go_in
 go_wp2
 go_loopw [3,4,5] (fun v c i wr=>∃ k:UY,k<=s.size/\i=.int .i64 k/\c=.string (aB.eH s k)/\wr.ownsRow w.heap.size 9 1 v (aB.jF s k).length ((aB.jF s k).map YK)/\U9 w.heap.size w wr) (fun _ _ i _=>s.size-(intOf i).toNat)
 case atStart=>exact⟨0,V6 _,rfl,rfl,Yl _ _ _ _,Below.refl _ _⟩
 case round =>
  obtain⟨k,I,rfl,rfl,f,h⟩:=hrel;have V:=aB.xt s k
  by_cases T:k<s.size
  ·by_cases y:aB.dP s k=32
   ·have M:((s[k].toNat:UZ)==32)=U6:=beq_iff_eq.2 (by rw[<- aB.jc];exact y);have x:=hide (aB.xE s k I y);clear y
    cases J:(aB.eH s k).toList.isEmpty
    ·have r:Hid ((aB.eH s k).size≠0):=(wZ J);have O:=aB.qB s k
     go_wp2_with (first
      |(at_builtin;refine wpList_append_own _ rfl _ _ 26 rfl w.heap.size 9 P (.string ⟨#[]⟩) 1 16 underlying26 R E C A rfl UK _ _ _ rfl (f.alloc _) ⟨wr.heap.size,0,U3⟩ 1 1 [.string (aB.eH s k)] rfl rfl ?c1 ?c2 ?c3 ?c4 ?c5 ?_)
      |go_in)
     case c1=>exact cell_one_new _ _ _
     case c2=>intro u H;simp at H;subst H;rfl
     case c3=>unfold maxLen;omega
     case c4=>omega
     case c5=>have:=h.size;simp;omega
     intro v' w1 j q _;go_wp2;refine⟨⟨k+1,by omega,by go_num,by rw[(aK x).1],?_,?_⟩,by simp[intOf];omega⟩
     ·rw[(aK x).2,U0 r.y,We,VU];exact j
     ·refine (h.alloc h.size _).grown q (by have:=h.size;simp;omega) (fun k I=>?_);exact om f I
    ·have r:Hid ((aB.eH s k).size=0):=(wS J);go_wp2;exact⟨⟨k+1,by omega,by go_num,by rw[(aK x).1],by rw[(aK x).2,U1 r.y,XT];exact f,h⟩,by simp[intOf];omega⟩
   ·have M:((s[k].toNat:UZ)==32)=U5:=beq_eq_false_iff_ne.2 (by rw[<- aB.jc];exact y);have x:=hide (aB.xr s k y);clear y;go_wp2;exact⟨⟨k+1,by omega,by go_num,by rw[(aK x).1],by rw[(aK x).2];exact f,h⟩,by simp[intOf];omega⟩
  ·obtain rfl:k=s.size:=UI
   have S:=hide (aB.vk s)
   cases J:(aB.eH s s.size).toList.isEmpty
   ·have r:Hid ((aB.eH s s.size).size≠0):=(wZ J);have O:=aB.qB s s.size
    go_wp2_with (first
     |(at_builtin;refine wpList_append_own _ rfl _ _ 26 rfl w.heap.size 9 P (.string ⟨#[]⟩) 1 16 underlying26 R E C A rfl UK _ _ _ rfl (f.alloc _) ⟨wr.heap.size,0,U3⟩ 1 1 [.string (aB.eH s s.size)] rfl rfl ?c1 ?c2 ?c3 ?c4 ?c5 ?_)
     |go_in)
    case c1=>exact cell_one_new _ _ _
    case c2=>intro u H;simp at H;subst H;rfl
    case c3=>unfold maxLen;omega
    case c4=>omega
    case c5=>have:=h.size;simp;omega
    intro v' w1 j q _;go_wp2;go_ret;refine⟨v',rfl,?_,?_⟩
    ·rw[aK S,U0 r.y,We,VU];exact j
    ·refine (h.alloc h.size _).grown q (by have:=h.size;simp;omega) (fun k I=>?_);exact om f I
   ·have r:Hid ((aB.eH s s.size).size=0):=(wS J);go_wp2;go_ret;exact⟨_,rfl,by rw[aK S,U1 r.y,XT];exact f,h⟩
def uN(w:U7)(g:UY)(L:UV UU):Prop:=∀ (j:UY)(f:j<L.length),w.cell? ⟨g,j,U3⟩=U4 (.string L[j])
theorem uN.later(h:uN w g L)(k:U9 w.heap.size w w'):uN w' g L:=fun j f=>aN k (h j f)
def KC(s:UU)(L:UV UU)(w:U7)(e:Ending)(w':U7):Prop:=∃ b,e=.returned (.bool b)/\(b=U6->∃ k∈L,bD (aB.aP s) 0 U5 k=U6)/\U9 w.heap.size w w'
theorem Na(s:UU)(w:U7)(X:s.size<=2000000)(R:uN w g L)(hl:L.length<=100):
  Va prog 43 #[.string s,.slice (U4 ⟨g,0,U3⟩) L.length c] w (KC s L w):=by
 have Z:=aC (MT s w X);have HL:=aC R;clear R
 go_in
 go_wp2_with (first|(go_at_call 59;refine Z.y.mono ?_;rintro e w1 ⟨v,rfl,E,P⟩;have J:=aC (zA E P);obtain⟨va,vc,rfl⟩:=gB E;clear E P))
 have M:=aC (HL.y.later J.y.2)
 go_loopw [6] (fun v wr=>∃ k:UY,k<=L.length/\v=.int .i64 k/\wr.heap=w1.heap/\U9 w.heap.size w wr) (fun v _=>L.length-(intOf v).toNat)
 case atStart=>exact⟨0,V6 _,rfl,rfl,J.y.2⟩
 case round =>
  obtain⟨k,hk,rfl,H,j⟩:=hrel;have q:=aC j;clear j
  by_cases h:k<L.length
  ·have f:(k:UZ)<(L.length:UZ):=UI
   by_cases S:0<(aB.aP s).length
   ·have I:(0:UZ)<((aB.aP s).length:UZ):=UI
    obtain⟨Y,c1,T,O⟩:=rL J.y.1 (k:=0) (u:=.string ((aB.aP s).getD 0 Yy)) (by
     rw[Yd,List.getD_eq_getElem?_getD,WS S];rfl)
    simp only[Zp,true_and] at T;obtain⟨rfl,rfl⟩:=T;have r:wr.cell? ⟨Y,0,U3⟩=U4 (.string ((aB.aP s).getD 0 Yy)):=by rw[<- O];simp only[VA,H]
    have V:wr.cell? ⟨g,k,U3⟩=U4 (.string L[k]):=by rw[<- M.y k h];simp only[VA,H]
    clear O;obtain⟨x,A⟩:∃ x,(aB.aP s).getD 0 Yy=x:=⟨_,rfl⟩;obtain⟨z,y⟩:∃ z,L[k]=z:=⟨_,rfl⟩;rw[A] at r;rw[y] at V;have U:Hid (z∈L/\((x.toList==z.toList)=U6->bD (aB.aP s) 0 U5 z=U6)):=⟨y ▸ zg h,fun C=>by simp only[bD,cB,A,C];simp[S]⟩;clear A y
    cases C:x.toList==z.toList
    ·go_upto_region 5 with fail
     go_quiet (fail)
     go_wp2_with fail
     exact⟨⟨k+1,by omega,by go_num,H,rT q.y _⟩,by simp[intOf];omega⟩
    ·have HI:=aC (U.y.2 C)
     go_upto_region 5 with fail
     go_quiet (fail)
     go_wp2
     go_ret;exact⟨U6,rfl,fun _=>⟨z,U.y.1,HI.y⟩,rT q.y _⟩
   ·have I:¬ (0:UZ)<((aB.aP s).length:UZ):=UI
    go_wp2
    go_ret;exact⟨U5,rfl,by simp,q.y⟩
  ·have f:¬ (k:UZ)<(L.length:UZ):=UI
   go_wp2
   go_ret;exact⟨U5,rfl,by simp,q.y⟩
structure mb where
 k:UZ
 a:UZ
 y:UZ
 m:UZ
 d:UZ
 s:UU
def lf(x:mb):UV U8:=[.int .i64 x.k,.int .i64 x.a,.int .i64 x.y,.int .i64 x.m,.int .i64 x.d,.string x.s]
structure Db(x:mb):Prop where
 a1:-9223372036854775808<=x.a
 a2:x.a<=9223372036854775807
 sz:x.s.size<=2000000
def rF(w:U7)(b o:UY)(x:mb):Prop:=w.cell? ⟨b,o,U3⟩=U4 (.int .i64 x.k)/\w.cell? ⟨b,o+1,U3⟩=U4 (.int .i64 x.a)/\w.cell? ⟨b,o+2,U3⟩=U4 (.int .i64 x.y)/\w.cell? ⟨b,o+3,U3⟩=U4 (.int .i64 x.m)/\w.cell? ⟨b,o+4,U3⟩=U4 (.int .i64 x.d)/\w.cell? ⟨b,o+5,U3⟩=U4 (.string x.s)
theorem rF.later{o:UY}{x:mb}(h:rF w b o x)(k:U9 w.heap.size w w'):rF w' b o x:=by
 obtain⟨A,y,r,q,j,f⟩:=h;exact⟨aN k A,aN k y,aN k r,aN k q,aN k j,aN k f⟩
theorem KB{X:UV mb}(f:k<X.length)(o:UY)(h:o<6):(X.flatMap lf)[k*6+o]?=(lf X[k])[o]?:=by
 induction X generalizing k with
 |nil=>simp at f
 |cons a r ih =>
  cases k with
  |zero=>rw[Wi,Z8,Nat.zero_add,Wg (by simpa[lf] using h)];rfl
  |succ k =>
   have:=ih (k:=k) (by simpa using f);rw[Wi,Wz (by simp[lf];omega)];simp only[lf,VV,VZ,Z7] at this ⊢;rw[<- this]
   congr 1
   omega
section
variable {w0 w w':U7}{B n:UY}
theorem LW.env(h:LW w0 w B n):Env w:=by
 obtain⟨tg,D,K,v0,v1,r1,r2,r3,X1,X2,X3,h⟩:=h;exact h.ds.env
theorem LW.bl(h:LW w0 w B n):U9 w0.heap.size w0 w:=by
 obtain⟨tg,D,K,v0,v1,r1,r2,r3,X1,X2,X3,h⟩:=h;exact h.bl
theorem LW.looks(h:LW w0 w B n)(q:n<=900000000):Va prog 42 #[.pointer (U4 ⟨B,2,U3⟩)] w fun e w'=>e=.returned (.bool U6)/\LW w0 w' B n:=by
 have j:=h;obtain⟨tg,D,K,v0,v1,r1,r2,r3,X1,X2,X3,h⟩:=h;refine (LZ h.bk (by have:=h.len;omega)).mono ?_;rintro e w1 ⟨rfl,f⟩;exact⟨rfl,j.later f⟩
def zW:Obj:=.cells #[.slice U3 0 0,.slice U3 0 0,.slice U3 0 0,.slice U3 0 0,.slice U3 0 0] 86
theorem LW.start(j:Env w):LW w (w.alloc zW) w.heap.size 0:=by
 have f:U9 w.heap.size w (w.alloc zW):=(zr _ _).alloc (zq _) _;have x:(w.alloc zW).heap.size=w.heap.size+1:=UJ
 have h:=j.size;have row:∀ {P:UZ->UV U8}{t:Vc},lk P t [] (w.alloc zW) (.slice U3 0 0) []:=⟨Yl _ _ _ _,by simp,by simp⟩;have r:∀ b∈bM w.heap.size (.slice U3 0 0) (.slice U3 0 0) (.slice U3 0 0),b=w.heap.size:=fun b f=>by simpa[bM,Wr] using f
 refine⟨fun b=>if b=w.heap.size then .bk else .no,[],[],.slice U3 0 0,.slice U3 0 0,.slice U3 0 0,.slice U3 0 0,.slice U3 0 0,[],[],[],⟨⟨fun i k q=>by simp at q,j.later f,fun b f=>?_,fun b f=>U0 UI⟩,⟨cC w _,⟨row,row,row,by simp⟩,by simp⟩,by simp,Yl _ _ _ _,Yl _ _ _ _,fun b f=>U1 (r b f),by simp,fun b f=>(by cases f),fun b f=>(by cases f),by simp,f,fun b f=>?_,h⟩⟩
 ·by_cases e:b=w.heap.size
  ·omega
  ·exact (f (U0 e)).elim
 ·by_cases e:b=w.heap.size
  ·omega
  ·exact (f (U0 e)).elim
def ob(x:mb):Obj:=.cells #[.int .i64 x.k,.int .i64 x.a,.int .i64 x.y,.int .i64 x.m,.int .i64 x.d,.string x.s] 89
def zZ(w:U7)(j:UW Addr)(h:UY):Prop:=∀ i,i<h->∃ b f x,j=U4 ⟨b,f,U3⟩/\rF w b (f+i*6) x/\Db x
theorem KG:(prog.info? 89).map (fun i=>(i.zero,i.size,i.bytes))=U4 (U4 (.agg #[.int .i64 0,.int .i64 0,.int .i64 0,.int .i64 0,.int .i64 0,.string ⟨#[]⟩]),6,56):=UO
end
end Go.Proofs.YtfigmlfdnickmaaGreatDoor
namespace Go.Proofs.YtfigmlfdnickmaaGreatDoor.uptoLaw
open Go.ChangeShapes Go.WideShapes Go.ChangeAt Go.RowKit
theorem Ls{H:Type}(d:DataW H):1<=Rows.uptoBulk d:=by
 cases d with
 |lit l=>cases l <;> simp[Rows.uptoBulk]
 |_=>simp[Rows.uptoBulk]
theorem DJ{H:Type}:∀ l:UV (DataW H),l.length<=Rows.uptoBulkAll l
 |[]=>zN _
 |d :: r=>by
  have:=DJ r;have:=Ls d;simp only[Rows.uptoBulkAll,VV];omega
theorem DM{H:Type}{d:DataW H}:∀ {l:UV (DataW H)},d∈l->Rows.uptoBulk d<=Rows.uptoBulkAll l
 |a :: r,h=>by
  simp only[Rows.uptoBulkAll];rcases Vq.1 h with rfl|h
  ·omega
  ·have:=DM h;omega
theorem KW{H:Type}{E:Vc × U8->H}{y:UY}{q:UY}{cs:UV U8}{x:DataW H × UV MemPlace}(k:UY)
  (hc:W.cells? y (ZH ⟨b,q,U3⟩ (k*6)) 6=U4 cs) (h:DataW.trod E prog W y spare held n 89 cs=U4 x):∃ o:mb,rF W b (q+k*6) o/\-9223372036854775808<=o.a/\o.a<=9223372036854775807/\o.s.size<=Rows.uptoBulk x.1:=by
 obtain⟨xs,n',_,hx,r,C,A⟩:=DataW.trod_struct underlying89 h;rw[datesLaw.zI] at r;obtain⟨c0,c1,c2,c3,c4,c5,rfl⟩:=datesLaw.oa r;obtain⟨x0,x1,x2,x3,x4,x5,rfl⟩:=datesLaw.oa (show xs.length=6 from C);have Z:=A 0 _ rfl;have Y:=A 1 _ rfl;have X:=A 2 _ rfl;have V:=A 3 _ rfl;have U:=A 4 _ rfl;have T:=A 5 _ rfl;simp only[List.getElem_toArray,List.getElem_cons_zero,Z7,datesLaw.Pv,datesLaw.A2,List.drop,List.take,List.getElem?_cons_zero,List.getElem?_cons_succ] at Z Y X V U T;obtain⟨i0,e0,_,_⟩:=DataW.trod_int underlying3 Z;obtain⟨i1,e1,_,w1⟩:=DataW.trod_int underlying3 Y;obtain⟨i2,e2,_,_⟩:=DataW.trod_int underlying3 X;obtain⟨i3,e3,_,_⟩:=DataW.trod_int underlying3 V;obtain⟨i4,e4,_,_⟩:=DataW.trod_int underlying3 U;obtain⟨I,e5,d5,_⟩:=DataW.trod_string underlying9 T;simp only[List.cons.injEq,and_true] at e0 e1 e2 e3 e4 e5;subst e0 e1 e2 e3 e4 e5;obtain⟨_,_,f⟩:=World.cells?_some hc;have S:=f 0 UK;have R:=f 1 UK;have P:=f 2 UK;have O:=f 3 UK;have M:=f 4 UK;have J:=f 5 UK;have bd:=bounds_i64 w1;have ad:∀ j,ZH (ZH ⟨b,q,U3⟩ (k*6)) j=⟨b,q+k*6+j,U3⟩:=fun j=>by rw[Deep.add_add,ZH];simp[Nat.add_assoc]
 simp only[ad,List.getElem?_cons_zero,List.getElem?_cons_succ] at S R P O M J;refine⟨⟨i0,i1,i2,i3,i4,I⟩,⟨S,R,P,O,M,J⟩,bd.1,bd.2,?_⟩;have hz:=aB.qY I;rw[hx,d5];simp only[List.map,Rows.uptoBulk,Rows.uptoBulkAll];omega
theorem script{H:Type}{O:Vc × U8->H}{E:UY}{T:UW Addr}{f C:UY}{d:DataW H}{U:UV MemPlace}(h:DataW.Trod O prog W E spare held 22 (.slice T f C) d U)(S:Rows.uptoBulk d<=1048576):zZ W T f/\f<=1900000:=by
 obtain⟨fuel,hf⟩:=h;rcases Deep.open_slice underlying22 hf with ⟨q,_⟩|⟨a,l,c,m,n,D,Pl,q,_,hl,hm,M,hx,y⟩
 ·simp[Value.cells] at q;obtain⟨rfl,rfl,rfl⟩:=q;exact⟨fun i R=>by omega,by omega⟩
 ·simp[Value.cells] at q;obtain⟨rfl,rfl,rfl⟩:=q;have hd:d=.slice ((XH f).map D) ((XH (m-f)).map fun j=>D (f+j)):=congrArg Prod.fst hx;rw[hd] at S;simp only[Rows.uptoBulk] at S;have h1:=DJ ((XH f).map D);rw[List.length_map,List.length_range] at h1;refine⟨fun i R=>?_,by omega⟩;have aa:f<=m:=by rw[M];split <;> omega
  obtain⟨b,J,x⟩:=a;obtain⟨cs,I,ht⟩:=y i UI
  have r:x=U3:=by
   obtain⟨cs,I,_⟩:=y 0 UI;obtain⟨_,P,A⟩:=World.cells?_some I;rw[datesLaw.zI] at P A;obtain⟨c0,c1,c2,c3,c4,c5,rfl⟩:=datesLaw.oa P;have g:=A 0 UK
   simpa[ZH] using World.cell?_spot g
  subst r;rw[datesLaw.zI] at I;obtain⟨o,Z,Y,X,V⟩:=KW i I ht;have h2:=DM (d:=D i) (l:=(XH f).map D) (List.mem_map.2 ⟨i,List.mem_range.2 R,rfl⟩);exact⟨b,J,o,rfl,Z,Y,X,by simp only at V;omega⟩
end Go.Proofs.YtfigmlfdnickmaaGreatDoor.uptoLaw
namespace Go.Proofs.YtfigmlfdnickmaaGreatDoor
def lJ:aA.fJ->Bool
 |.aT ..=>U6
 |.enter k ..=>k==1
 |.cancel ..=>U6
 |.list ..=>U6
 |.cY ..=>U6
 |.find ..=>U6
 |.clock=>U6
 |.series ..=>U6
 |.expand ..=>U6
 |_=>U5
namespace aA
theorem zy(h:Inv s){l:fJ}(q:jA l)(x:lJ l=U6):ec (aU s l).1:=by
 cases l with
 |aT name u =>
  simp only[aU]
  split
  ·exact h.aS
  ·split
   ·exact h.aS
   ·rename_i c1 c2
    exact (h.aT q (by simpa using c1) c2).aS
 |enter k name u fr til long =>
  obtain rfl:k=1:=by simpa[lJ] using x
  simp only[aU]
  split
  ·exact h.aS
  ·rename_i c
   simp only[ne_eq,Decidable.not_not] at c;unfold re at c
   split at c
   ·omega
   ·rename_i c1
    simp only[ne_eq,Decidable.not_not] at c1
    split at c
    ·omega
    ·rename_i c2
     split at c
     ·omega
     ·rename_i c3
      obtain⟨_,l1,j,y,T,S,R⟩:=q;have P:=h.n0;refine h.join c3 ⟨l1,j,by simp[nT],by simp[nT],fun s O=>?_,by simp[nT,gJ],.inl ⟨rfl,by simp[nT]⟩⟩ (Ho c1).2 (fun f=>U2 f (by show ¬ (1:UZ)=3;omega)) (fun _=>?_)
      ·have:s=(fr,til):=by simpa[nT] using O
       subst this;show 0<=fr/\fr<til/\til<=1048320;omega
      ·rw[U0 UI] at c;show dG s.ts s.es name u [(fr,til)]=U6
       split at c
       ·assumption
       ·omega
 |cancel id =>
  simp only[aU]
  cases x:mZ id s.es with
  |none=>exact h.aS
  |some e =>
   exact h.aS.filter (now':=s.now) (fun e=>e.id != id) (Int.le_refl _) h.n1 (fun z M _ f=>by
    rcases (h.en z M).kd with I|⟨_,J,_⟩
    ·exact U2 I.1 f
    ·exact J)
 |series name u r =>
  simp only[aU]
  split
  ·exact h.aS
  ·rename_i c
   simp only[ne_eq,Decidable.not_not] at c;unfold mH at c
   split at c
   ·omega
   ·rename_i c1
    simp only[ne_eq,Decidable.not_not] at c1
    split at c
    ·omega
    ·rename_i c2
     simp only[ne_eq,Decidable.not_not] at c2
     split at c
     ·omega
     ·rename_i c3
      obtain⟨l1,j,y⟩:=q;obtain⟨H,E,C,A⟩:=Rd.jU y c2;refine h.join c3 ⟨l1,j,A,C,H,E,.inl ⟨rfl,rfl⟩⟩ (Ho c1).2 (fun f=>U2 f (by show ¬ (1:UZ)=3;omega)) (fun _=>?_);show dG s.ts s.es name u (Rd.gg r (Rd.bH r))=U6
      split at c
      ·assumption
      ·omega
 |clock=>exact h.aS
 |list|cY|find|expand=>simp only[aU];split <;> (try split) <;> exact h.aS
 |_=>cases x
theorem Kk(h:Inv s){l:fJ}(f:jA l)(j:lJ l=U6):Inv (ig s l).1:=by
 unfold ig
 split
 ·rename_i c
  rw[Sj c];exact h
 ·exact Um (zy h f j)
theorem zT(s:St){l:fJ}(f:lJ l=U6):(aU s l).2.granted=[]:=by
 cases l with
 |aT|list|cY|find|cancel|expand=>simp only[aU];split <;> (try split) <;> rfl
 |enter|series=>simp only[aU,jz];split <;> rfl
 |clock=>rfl
 |_=>cases f
theorem Ku(s:St){l:fJ}(h:jA l)(j:lJ l=U6):(aU s l).2.days.length<=60/\(aU s l).2.ended=[]/\((aU s l).2.err≠0->(aU s l).2.entries=[]/\(aU s l).2.days=[])/\((aU s l).2.entries=[]\/∃ name fr til,(aU s l).2.entries=kS name fr til s.es):=by
 have f:∀ r:bO,r.entries=[]->r.days=[]->r.ended=[]->r.days.length<=60/\r.ended=[]/\(r.err≠0->r.entries=[]/\r.days=[])/\(r.entries=[]\/∃ name fr til,r.entries=kS name fr til s.es):=fun r a b c=>⟨by rw[b];simp,c,fun _=>⟨a,b⟩,.inl a⟩
 cases l with
 |list name fr til =>
  simp only[aU]
  split
  ·exact f _ rfl rfl rfl
  ·split
   ·exact f _ rfl rfl rfl
   ·exact⟨by simp[bO.num],rfl,fun e=>U2 rfl e,.inr ⟨name,fr,til,rfl⟩⟩
 |expand r =>
  simp only[aU]
  split
  ·exact f _ rfl rfl rfl
  ·rename_i c
   have:=((Rd.pJ h).2 UI).2.2.1;exact⟨by show (Rd.bH r).length<=60;omega,rfl,fun e=>U2 rfl e,.inl rfl⟩
 |aT|cY|find|cancel=>simp only[aU];split <;> (try split) <;> exact f _ rfl rfl rfl
 |enter|series=>simp only[aU,jz];split <;> exact f _ rfl rfl rfl
 |clock=>exact f _ rfl rfl rfl
 |_=>cases j
structure Ke(s:St)(r:bO):Prop where
 en:r.entries.length<=60
 es:∀ e∈r.entries,e∈s.es
 da:r.days.length<=60
 gr:r.granted.length<=60
 ed:r.ended=[]
 er:r.err≠0->(r.entries=[]/\r.days=[])/\r.granted=[]
theorem KZ(h:Inv s){l:fJ}(y:jA l)(q:lJ l=U6):Ke s (ig s l).2:=by
 obtain⟨x,r,C,A⟩:=Ku s y q;have j:=zT s q
 have f:(aU s l).2.entries.length<=60/\∀ e∈(aU s l).2.entries,e∈s.es:=by
  rcases A with e|⟨name,fr,til,e⟩
  ·rw[e];simp
  ·rw[e];refine⟨?_,fun e E=>(List.mem_filter.1 (yp.1 E)).1⟩;have M:=lY h.aS;have J:=(Ju (a:=fr) (b:=til) (s.es.filter (kh name fr til))).length_eq;have H:=List.length_filter_le (kh name fr til) s.es;unfold kS;omega
 unfold ig
 split
 ·rename_i c
  exact⟨f.1,f.2,x,by rw[j];simp,r,fun _=>⟨C c,j⟩⟩
 ·rename_i c
  refine⟨f.1,f.2,x,?_,r,fun e=>U2 e c⟩;have H:=Rp (aU s l).1.ts (aU s l).1.es;have I:=lY (zy h y q);show ((aU s l).2.granted++_).length<=60;rw[j,List.nil_append];omega
end aA
open Go.RowKit
def iC(r:Rd.bL):UY->UV UZ
 |0=>[]
 |k+1=>Rd.ve r (iC r k) (r.fr+k)
theorem C9(r:Rd.bL):∀ n k:UY,Rd.oE r n (r.fr+k) (iC r k)=iC r (k+n)
 |0,k=>rfl
 |n+1,k=>by
  have:=C9 r n (k+1);rw[Rd.oE,show k+(n+1)=k+1+n by omega,<- this];simp only[iC];rw[show r.fr+(k:UZ)+1=r.fr+((k+1:UY):UZ) by omega]
theorem zC{r:Rd.bL}:iC r (728-r.fr).toNat=Rd.bH r:=by
 have:=C9 r (728-r.fr).toNat 0;rw[Nat.zero_add] at this;rw[<- this];simp[Rd.bH,iC]
theorem zE(r:Rd.bL):∀ k,(iC r k).length<=k
 |0=>zq _
 |k+1=>by
  have:=zE r k;simp only[iC,Rd.ve]
  split
  ·simp;omega
  ·omega
theorem yX{G:UV UY}(h:aF G w w')(r:N<=w.heap.size)(j:∀ b∈G,N<=b):U9 N w w':=⟨h.os,h.tape,h.output,h.size,fun b q=>h.block b UI fun f=>by have:=j b f;omega⟩
def qg(r:Rd.bL)(w:U7)(e:Ending)(w':U7):Prop:=U9 w.heap.size w w'/\((Rd.gd r=0/\∃ v,e=.returned (.tuple #[v,.int .i64 0])/\w'.ownsRow w.heap.size 3 1 v (Rd.bH r).length ((Rd.bH r).map (VT .i64)))\/(Rd.gd r≠0/\e=.returned (.tuple #[.slice U3 0 0,.int .i64 (Rd.gd r)])))
theorem qg.err{r:Rd.bL}{n:UZ}(j:U9 w.heap.size w w')(h:Rd.gd r=n)(f:n≠0):qg r w (.returned (.tuple #[.slice U3 0 0,.int .i64 n])) w':=⟨j,.inr ⟨by rw[h];exact f,by rw[h]⟩⟩
theorem Dr(r:Rd.bL)(Y:Rd.fw r)(w:U7):Va prog 181 #[mL r] w (qg r w):=by
 have f0:=Y.f0;have f1:=Y.f1;have t0:=Y.t0;have HF:=aC Y;have BX:=aC (zA ((zr _ w).alloc (zq _) (gW r)) (cC w (gW r)));have HS:=aC (fun d (h0:r.fr<=d) (h1:d<728) W=>Kd r Y d h0 h1 W);simp only[mL,pV] at HS ⊢;clear Y
 go_in
 go_upto_region 1 with fail
 change YS _ _ _ _ (w.alloc (gW r));generalize w.alloc (gW r)=W0 at *;have CL:Hid (∀ W,U9 W0.heap.size W0 W->W.heap[w.heap.size]?=U4 (gW r)):=fun W k=>(k.block _ (YR.1 BX.y.2).1).trans BX.y.2
 obtain⟨⟨c0,c1,c9,C,A,j,M⟩,_⟩:=nm BX.y.2
 go_wp2_with fail
 clear c0 c1 c9 C A j M
 go_loopw [4,5,6] (fun v d _ wr=>∃ k:UY,k<=(728-r.fr).toNat/\d=.int .i64 (r.fr+k)/\wr.ownsRow W0.heap.size 3 1 v (iC r k).length ((iC r k).map (VT .i64))/\U9 W0.heap.size W0 wr) (fun _ d _ _=>(728-intOf d).toNat)
 case atStart=>exact⟨0,V6 _,by simp,Yl _ _ _ _,Below.refl _ _⟩
 case round =>
  obtain⟨k,hk,rfl,ho,h⟩:=hrel;have I:=aC (zA ho h);obtain⟨va,vc,rfl⟩:=gB ho;clear ho h
  by_cases f:r.fr+k<728
  ·obtain⟨⟨c0,c1,c9,C,A,j,M⟩,P⟩:=nm (CL.y _ I.y.2);have j0:=P 0 UI;have j1:=P 1 UI;have j2:=P 2 UI;have j3:=P 3 UI;have j4:=P 4 UI;have j5:=P 5 UI;have j6:=P 6 UI;clear P;have wd:Vf.wrap (r.fr+k+1)=r.fr+k+1:=cG UI UI
   go_upto_region 6 with (first|(go_at_call 239;refine (HS.y (r.fr+k) UI f _).mono ?_;rintro e w1 ⟨rfl,ad⟩;have B1:=aC ad;clear ad))
   have T:=aC (ey I.y.1 B1.y);have BK:=aC (aZ I.y.2 B1.y (zq _));have H:=zE r k;clear c0 c1 c9 C A j M j0 j1 j2 j3 j4 j5 j6;obtain⟨⟨_,_,_,_,_,j,M⟩,_⟩:=nm (CL.y _ BK.y)
   cases E:Rd.has r (r.fr+k)
   ·have HN:Hid (iC r (k+1)=iC r k):=U0 (fun e=>by rw[E] at e;exact U2 e.1 UJ);clear E
    go_wp2_with fail
    exact⟨⟨k+1,by omega,by go_num,by rw[HN.y];exact T.y,BK.y⟩,by simp[intOf];omega⟩
   ·by_cases ht:r.ti=0
    ·have af:(r.ti==0)=U6:=by simp[ht]
     have aa:¬ (0:UZ)<r.ti:=UI
     by_cases hu:r.fr+k<=r.un
     ·have HY:Hid (iC r (k+1)=iC r k++[r.fr+k]):=U1 ⟨E,.inl ⟨ht,hu⟩⟩;clear E
      go_wp2_with (first|(at_builtin;refine za rfl _ _ rfl T.y (r.fr+k) rfl rfl UI (by have:=I.y.2.size;have:=B1.y.size;omega) ?_;intro v' w2 o2 k2))
      exact⟨⟨k+1,by omega,by go_num,by rw[HY.y];exact o2,BK.y.trans (yX k2 BK.y.size fun b E=>(T.y.lt b (WI.1 E)).1)⟩,by simp[intOf];omega⟩
     ·have HN:Hid (iC r (k+1)=iC r k):=U0 (fun e=>by rcases e.2 with q|q <;> omega);clear E
      go_wp2_with fail
      exact⟨⟨k+1,by omega,by go_num,by rw[HN.y];exact T.y,BK.y⟩,by simp[intOf];omega⟩
    ·have af:(r.ti==0)=U5:=by simp[ht]
     have aa:(0:UZ)<r.ti:=UI
     by_cases hu:((iC r k).length:UZ)<r.ti
     ·have HY:Hid (iC r (k+1)=iC r k++[r.fr+k]):=U1 ⟨E,.inr ⟨aa,hu⟩⟩;clear E
      go_wp2_with (first|(at_builtin;refine za rfl _ _ rfl T.y (r.fr+k) rfl rfl UI (by have:=I.y.2.size;have:=B1.y.size;omega) ?_;intro v' w2 o2 k2))
      exact⟨⟨k+1,by omega,by go_num,by rw[HY.y];exact o2,BK.y.trans (yX k2 BK.y.size fun b E=>(T.y.lt b (WI.1 E)).1)⟩,by simp[intOf];omega⟩
     ·have HN:Hid (iC r (k+1)=iC r k):=U0 (fun e=>by rcases e.2 with q|q <;> omega);clear E
      go_wp2_with fail
      exact⟨⟨k+1,by omega,by go_num,by rw[HN.y];exact T.y,BK.y⟩,by simp[intOf];omega⟩
  ·have S:k=(728-r.fr).toNat:=UI
   rw[S,zC] at I;have H:=zE r (728-r.fr).toNat;rw[S,zC];rw[zC] at H;have B0:=aC (aZ BX.y.1 I.y.2 (zq _));obtain⟨⟨_,_,_,C,A,j,_⟩,_⟩:=nm (CL.y _ I.y.2);clear hk S f;have ag:(Rd.bH r).length<=728:=UI
   clear H
   by_cases ae:40<(Rd.bH r).length
   ·have O:(40:UZ)<((Rd.bH r).length:UZ):=UI
    have J:Hid (Rd.gd r=11):=U1 (.inl ae)
    go_wp2
    go_ret2;exact qg.err B0.y J.y UK
   have O:¬ (40:UZ)<((Rd.bH r).length:UZ):=UI
   by_cases ht:40<r.ti
   ·have J:Hid (Rd.gd r=11):=U1 (.inr ht)
    go_wp2
    go_ret2;exact qg.err B0.y J.y UK
   have U:Hid (¬ (40<(Rd.bH r).length\/40<r.ti)):=by rw[Hid];omega
   by_cases hz:(Rd.bH r).length=0
   ·have Z:(((Rd.bH r).length:UZ)==0)=U6:=by simp[hz]
    have J:Hid (Rd.gd r=6):=(U0 U.y).trans (U1 (.inl (VY.1 hz)))
    go_wp2
    go_ret2;exact qg.err B0.y J.y UK
   have Z:(((Rd.bH r).length:UZ)==0)=U5:=by rw[beq_eq_false_iff_ne];omega
   by_cases X:((Rd.bH r).length:UZ)<r.ti
   ·have J:Hid (Rd.gd r=6):=(U0 U.y).trans (U1 (.inr X))
    go_wp2
    go_ret2;exact qg.err B0.y J.y UK
   have J:Hid (Rd.gd r=if (Rd.bH r).any (Rd.lS r) then 6 else 0):=(U0 U.y).trans (U0 (by
    rintro (e|e)
    ·exact hz (by rw[e];rfl)
    ·exact X e))
   have ai:0<(Rd.bH r).length:=UI
   go_wp2_with fail
   have MM:=aC (fun i (hi:i<(Rd.bH r).length)=>zA (Rd.sF HF.y (zg hi)) (zA HF.y.m0 (zA HF.y.m1 (zA HF.y.i1 HF.y.i2))));clear HS C A j ae ht hz X Z O;obtain⟨V,hV⟩:∃ V,V=wr:=⟨_,rfl⟩;subst hV
   go_loopw [7] (fun v wx=>∃ i:UY,i<=(Rd.bH r).length/\v=.int .i64 i/\(∀ x∈(Rd.bH r).take i,Rd.lS r x=U5)/\U9 V.heap.size V wx) (fun v _=>(Rd.bH r).length-(intOf v).toNat)
   case atStart=>exact⟨0,V6 _,rfl,by simp,Below.refl _ _⟩
   case round =>
    obtain⟨i,hi,rfl,ab,h⟩:=hrel;have R:=aC (zA ab (zA h (aZ B0.y h (zq _))));clear ab h
    by_cases f:i<(Rd.bH r).length
    ·have ac:(i:UZ)<((Rd.bH r).length:UZ):=UI
     obtain⟨g,cap,e,y⟩:=rL I.y.1 (k:=i) (u:=.int .i64 (Rd.bH r)[i]) (by rw[Yd,WS f];rfl);simp only[Zp,true_and] at e;obtain⟨rfl,rfl⟩:=e;have y':=aN R.y.2.1 y;clear y;obtain⟨⟨_,_,_,C,A,_⟩,_⟩:=nm (CL.y _ (aZ I.y.2 R.y.2.1 (zq _)));obtain⟨⟨m1,m2⟩,m3,m4,m5,m6⟩:=MM.y i f
     have HT:Hid (∀ x∈(Rd.bH r).take (i+1),x∈(Rd.bH r).take i\/x=(Rd.bH r)[i]):=fun x hx=>by
      rw[V5 f] at hx;exact (Vr.1 hx).imp id Yo.1
     have HM:Hid ((Rd.bH r)[i]∈Rd.bH r):=zg f;generalize (Rd.bH r)[i]=x at *;have w1:Vf.wrap (1440*x)=1440*x:=cG UI UI;have w2:Vf.wrap (1440*x+r.mn)=1440*x+r.mn:=cG UI UI;have w3:Vf.wrap (1440*x+r.mn+r.mi)=1440*x+r.mn+r.mi:=cG UI UI
     by_cases aj:(1048320:UZ)<1440*x+r.mn+r.mi
     ·have HX:Hid (Rd.gd r=6):=J.y.trans (U1 (XQ.2 ⟨x,HM.y,decide_eq_true UI⟩))
      go_upto_region 15 with fail
      go_quiet (fail)
      go_wp2
      go_ret2;exact qg.err (rT R.y.2.2 _) HX.y UK
     ·go_upto_region 15 with fail
      go_quiet (fail)
      go_wp2_with fail
      exact⟨⟨i+1,by omega,by go_num,fun y hy=>by
       rcases HT.y y hy with e|e
       ·exact R.y.1 y e
       ·rw[e];exact decide_eq_false UI,rT R.y.2.1 _⟩,by simp[intOf];omega⟩
    ·have ac:¬ (i:UZ)<((Rd.bH r).length:UZ):=UI
     have HX:Hid (Rd.gd r=0):=J.y.trans (U0 (by
      rw[XQ];rintro ⟨x,hx,X⟩;rw[R.y.1 x (by rw[List.take_of_length_le UI];exact hx)] at X
      cases X))
     go_wp2
     go_ret2;exact⟨R.y.2.2,.inl ⟨HX.y,_,rfl,uQ (ey I.y.1 R.y.2.1) BX.y.1.size⟩⟩
open aA (aM St bO aU)
theorem L7:(prog.info? 315).map (fun i=>(i.zero,i.size,i.bytes))=U4 (U4 (.agg #[.string ⟨#[]⟩,.int .i64 0]),2,24):=UO
theorem En(f:Array U8)(w:U7):(callFunc 126 f).run prog w=.ok (.enter 126 f) w:=UO
theorem DD.oO{Y w5:U7}{xs:UV (aM × UY × UY)}{cap:UY}{t:UU × UZ}(h:DD Y d s xs F)(cv:Y.cell? ⟨d,0,U3⟩=U4 v)(ho:Y.ownsRow 0 315 2 v s.ts.length (s.ts.flatMap jq))(r:∀ k,v.ownBlock=U4 k->k∈F/\k≠d)(k:aF (v.ownBlock.toList) Y w5)(E:w5.ownsRow 0 315 2 (.slice (U4 ⟨g,0,U3⟩) (s.ts.length+1) cap) (s.ts.length+1) (s.ts.flatMap jq++jq t))(U:v.ownBlock=U4 g\/Y.heap.size<=g)(hl:s.ts.length<4):
  DD (w5.setCell ⟨d,0,U3⟩ (.slice (U4 ⟨g,0,U3⟩) (s.ts.length+1) cap)) d { s with ts:=s.ts++[t] } xs (g :: F)/\aF F Y (w5.setCell ⟨d,0,U3⟩ (.slice (U4 ⟨g,0,U3⟩) (s.ts.length+1) cap)):=by
 obtain⟨v2,b1,Z,S⟩:=h.rd.ev;have O:d<Y.heap.size:=h.lt d h.rd.dF
 have H:g≠d:=by
  rcases U with e|e
  ·exact (r g e).2
  ·omega
 have j:∀ y∈v.ownBlock.toList,y∈F/\y≠d:=fun y f=>r y (by simpa using f)
 have A:d ∉ v.ownBlock.toList:=fun e=>(j d e).2 rfl
 have T:aF [d] w5 (w5.setCell ⟨d,0,U3⟩ (.slice (U4 ⟨g,0,U3⟩) (s.ts.length+1) cap)):=aF.aX ..;have C:aF (d :: v.ownBlock.toList) Y (w5.setCell ⟨d,0,U3⟩ (.slice (U4 ⟨g,0,U3⟩) (s.ts.length+1) cap)):=(k.mono (by intro y f;exact WH _ f)).setCell (.inl UJ) _ _
 have P:∀ y,y ∉ F->y ∉ d :: v.ownBlock.toList:=by
  intro y f e;rcases Vq.1 e with rfl|e
  ·exact f h.rd.dF
  ·exact f (j y e).1
 have M:∀ b,v2.ownBlock=U4 b->b ∉ d :: v.ownBlock.toList:=by
  intro b q e;rcases Vq.1 e with e|e
  ·exact (S b q).2 e
  ·have e:v.ownBlock=U4 b:=by simpa using e
   rcases ho.2 with ⟨rfl,_⟩|⟨g',X,aa,rfl,_,hh,_⟩
   ·simp[Wr] at e
   ·simp[Wr] at e;subst e;exact iu Z hh UK q
 have R:∀ o u,Y.cell? ⟨d,o,U3⟩=U4 u->o≠0->(w5.setCell ⟨d,0,U3⟩ (.slice (U4 ⟨g,0,U3⟩) (s.ts.length+1) cap)).cell? ⟨d,o,U3⟩=U4 u:=fun o u hu _=>(zS _ _ _ _ UJ).trans (k.cell A hu)
 refine⟨⟨⟨⟨_,World.cell?_setCell_same _ _ _ (k.cell A cv),?_,fun b q=>?_⟩,⟨v2,R 1 _ b1 UI,dO Z C M,fun b q=>⟨WH _ (S b q).1,(S b q).2⟩⟩,R 2 _ h.rd.c2 UI,R 3 _ h.rd.c3 UI,fun o=>(zF ..).trans ((k.frozen A O).trans (h.rd.fz o)),WH _ h.rd.dF,fun y f=>?_⟩,h.es,fun x J=>?_,?_,h.el,h.en⟩,C.mono (fun y f=>?_)⟩
 ·have e1:(s.ts++[t]).flatMap jq=s.ts.flatMap jq++jq t:=UJ
  rw[e1,VU];exact dO E T (fun b q=>by simp[Wr] at q;subst q;simpa using H)
 ·simp[Wr] at q;subst q;exact⟨by simp,H⟩
 ·obtain⟨y1,I,y3⟩:=h.rd.sp y f;refine⟨y1.off C (P _ I),fun e=>?_,Nat.lt_of_lt_of_le y3 C.size⟩;rcases Vq.1 e with e|e
  ·rcases U with V|V
   ·exact I (e ▸ (r g V).1)
   ·omega
  ·exact I e
 ·rcases Vq.1 J with rfl|J
  ·exact zL (eW E rfl) T.size
  ·exact zL (h.lt x J) C.size
 ·simp;omega
 ·rcases Vq.1 f with rfl|f
  ·exact h.rd.dF
  ·exact (j y f).1
theorem MV{xs:UV (aM × UY × UY)}(h:DD w d s xs F)(hl:2<n)(z2:ut.size<=160)(aq:0<=aA.bJ name s.ts)(h1:w.cell? ⟨g,1,U3⟩=U4 (.string name))(h2:w.cell? ⟨g,2,U3⟩=U4 (.string ut)):
  Va prog 172 #[.pointer (U4 ⟨d,0,U3⟩),.slice (U4 ⟨g,0,U3⟩) n c] w (dK w d F xs (aU s (.aT name (bF ut 1 7)))):=by
 obtain⟨ti,ak,ai,ag,af⟩:=info_parts L7;have C:=aC ((KP.nil w).alloc aW);have H:=aC h;have D0:=aC (h.later C.y.bl);have i1:(1:UZ)<(n:UZ):=UI
 have i2:(2:UZ)<(n:UZ):=UI
 have y1:=aN C.y.bl h1;have y2:=aN C.y.bl h2;have UN:=aC (D0.y.aH name);have NM:=aC (fun wx=>eQ ut 1 7 wx z2 UI UI);have HD:Hid (aU s (.aT name (bF ut 1 7))=if aA.bJ name s.ts≠0 then (s,.error 4) else if s.ts.length=4 then (s,.error 5) else ({ s with ts:=s.ts++[(name,bF ut 1 7)] },.num 0)):=rfl;clear h
 go_in
 go_upto_region 1 with fail
 change YS _ _ _ _ (w.alloc aW);generalize w.alloc aW=X at *;generalize bF ut 1 7=u at *;generalize aA.bJ name s.ts=un at *
 go_wp2_with fail
 refine UN.y.mono ?_;rintro e w1 ⟨rfl,rfl⟩;clear UN;have Q1:=aC (Q7.of (C.y.kb (w.heap.size,aW) UJ));obtain⟨v,cv,ho,V⟩:=D0.y.rd.tv;obtain⟨O,f,rfl⟩:=gB ho
 by_cases a1:0<un
 ·have HF:Hid (dK w d F xs (aU s (.aT name u)) (.returned (bC 4 0 0 aR aR aR aR)) (cK w1 w.heap.size (.int .i64 4) (.int .i64 0) (.int .i64 0) aR aR aR aR)):=by
   show dK w d F xs _ _ _;rw[HD.y,U1 UI];exact H.y.said C.y.bl (zq _) 4 0 _ _ _ _ _ _ _
  obtain⟨U,q1,q2,q3,T,S,R,fq⟩:=Q1.y
  go_wp2_with fail
  exact cO results172 ⟨U,q1,q2,q3,T,S,R,fq⟩ HF.y
 ·by_cases a2:s.ts.length=4
  ·have HF:Hid (dK w d F xs (aU s (.aT name u)) (.returned (bC 5 0 0 aR aR aR aR)) (cK w1 w.heap.size (.int .i64 5) (.int .i64 0) (.int .i64 0) aR aR aR aR)):=by
    show dK w d F xs _ _ _;rw[HD.y,U0 UI,U1 a2];exact H.y.said C.y.bl (zq _) 5 0 _ _ _ _ _ _ _
   have ae:((s.ts.length:UZ)==4)=U6:=by simp;omega
   obtain⟨U,q1,q2,q3,T,S,R,fq⟩:=Q1.y
   go_wp2_with fail
   exact cO results172 ⟨U,q1,q2,q3,T,S,R,fq⟩ HF.y
  ·have ae:((s.ts.length:UZ)==4)=U5:=by simp;omega
   have aj:s.ts.length<4:=by have:=H.y.tl;omega
   have E9:Hid (aU s (.aT name u)=({ s with ts:=s.ts++[(name,u)] },⟨0,0,0,[],[],[],[]⟩)):=by
    show _=_;rw[HD.y,U0 UI,U0 a2];rfl
   have fd:=D0.y.rd.fz 0;have P:=aC (zA ho V);clear ho V a2 HD
   go_upto_region 6 with fail
   go_cut [34] from 21 to 37 (fun _ wx=>∃ A M Y w5,U9 w1.heap.size w1 Y/\aF ((YZ O s.ts.length f).ownBlock.toList) Y w5/\w5.ownsRow 0 315 2 (.slice (U4 ⟨A,0,U3⟩) (s.ts.length+1) M) (s.ts.length+1) (s.ts.flatMap jq++jq (name,u))/\((YZ O s.ts.length f).ownBlock=U4 A\/Y.heap.size<=A)/\wx=w5.setCell ⟨d,0,U3⟩ (.slice (U4 ⟨A,0,U3⟩) (s.ts.length+1) M))
   case first =>
    go_region_law (first
     |(refine qW (by rfl) 126 _ _ (by rfl) _ (by simp[Act.eval]) (En _ _) (NM.y _) ?_;rintro e w4 ⟨rfl,ac⟩;refine⟨_,rfl,?_⟩;have j:U9 w1.heap.size w1 w4:=aZ (dM w1) ac (zq _);have I:=aN j cv;have aw:∀ o,(w4.alloc o).cell? ⟨d,0,U3⟩=U4 (.slice O s.ts.length f):=(fun o=>aN ((zr _ _).alloc (zq _) _) I);have ao:=aN j y1;have an:=(j.frozen (Vh _ _ cv)).trans fd;clear ac)
     |(refine step_append_lies _ rfl _ _ 103 rfl 0 315 ti _ 2 24 underlying103 ak ai ag af rfl UK (.slice O s.ts.length f) s.ts.length (s.ts.flatMap jq) rfl (ey P.y.1 (aZ j ((zr _ _).alloc (zq _) _) (zq _))) ⟨w4.heap.size,0,U3⟩ 1 1 (jq (name,u)) rfl rfl (Wv (cs:=(jq (name,u)).toArray) (cC w4 _)) (by simp[jq,WD]) UI UR UI (zN _) (w4.heap.size+1) UJ ?_;intro A M w5 r E y ar;have kk:aF ((YZ O s.ts.length f).ownBlock.toList) w4 w5:=aF.grown ((aF.refl _ w4).alloc _) E (fun k hk=>.inl (by simp[hk]));have ab:d ∉ (YZ O s.ts.length f).ownBlock.toList:=(fun e=>(P.y.2 d (by simpa using e)).2 rfl);have z1:=kk.cell ab I;have z2:=(kk.frozen (o:=0) ab (Vh _ _ I)).trans an))
    all_goals
     go_wp2
     go_meet
     exact⟨A,M,w4,w5,j,kk,r,y.imp id (fun e=>by omega),rfl⟩
   case rest =>
    obtain⟨A,M,Y,w5,J,k5,r,y,rfl⟩:=hcut;obtain⟨hJ,hO⟩:=(D0.y.later J).oO (aN J cv) (ey P.y.1 J) P.y.2 k5 r y aj;have ad:w.heap.size ∉ F:=fun e=>by have:=H.y.lt _ e;omega
    have hQ:w.heap.size<w1.heap.size:=Vh _ _ Q1.y.q0;have au:=J.size;have al:=hO.block w.heap.size UI ad;have Q2:=aC ((Q1.y.later (J.block _ hQ)).later al)
    have aa:∀ x∈A :: F,x∈F\/Y.heap.size<=x:=fun x q=>by
     rcases Vq.1 q with rfl|q
     ·exact y.imp (fun e=>(P.y.2 x e).1) id
     ·exact .inl q
    have hz:=C.y.bl.size;have hw:aF F w (w5.setCell ⟨d,0,U3⟩ (.slice (U4 ⟨A,0,U3⟩) (s.ts.length+1) M)):=((aF.aD C.y.bl).trans (aF.aD J)).trans hO;generalize w5.setCell ⟨d,0,U3⟩ _=Z at *
    have HF:Hid (dK w d F xs ({ s with ts:=s.ts++[(name,u)] },⟨0,0,0,[],[],[],[]⟩) (.returned (bC 0 0 0 aR aR aR aR)) (cK Z w.heap.size (.int .i64 0) (.int .i64 0) (.int .i64 0) aR aR aR aR)):=by
     refine hJ.mh (fun x q=>(aa x q).imp id (fun e=>by omega)) hw (zq _) (fun e=>?_) (fun x q e=>?_) (fun x q=>.inl ⟨x,q,rfl⟩) 0 0 _ _ _ _ _ _ _
     ·rcases aa _ e with e|e
      ·exact ad e
      ·omega
     ·have:=(H.y.rd.sp x q).2.2;omega
    obtain⟨U,q1,q2,q3,T,S,R,fq⟩:=Q2.y;clear hJ hO hw P k5 r cv
    go_wp2_with fail
    exact cO results172 ⟨U,q1,q2,q3,T,S,R,fq⟩ (by rw[E9.y];exact HF.y)
theorem KU(f:Array U8)(w:U7):(callFunc 237 f).run prog w=.ok (.enter 237 f) w:=UO
theorem Mz{xs:UV (aM × UY × UY)}(h:DD w d s xs F){lt j r:UU}(hn:5<n)(z2:ut.size<=160)(z3:lt.size<=160)(z4:j.size<=160)(z5:r.size<=160)(hu:0<=bF ut 1 7/\bF ut 1 7<=9)(U:0<=bF lt 1 7/\bF lt 1 7<=1048320)(V:0<=cZ j/\cZ j<=1048320)(h1:w.cell? ⟨g,1,U3⟩=U4 (.string name))(h2:w.cell? ⟨g,2,U3⟩=U4 (.string ut))(h3:w.cell? ⟨g,3,U3⟩=U4 (.string lt))(h4:w.cell? ⟨g,4,U3⟩=U4 (.string j))(h5:w.cell? ⟨g,5,U3⟩=U4 (.string r)):
  Va prog 178 #[.pointer (U4 ⟨d,0,U3⟩),.slice (U4 ⟨g,0,U3⟩) n c] w (dK w d F xs (aU s (.find name (bF ut 1 7) (bF lt 1 7) (cZ j) (cZ r)))):=by
 have f:=aC ((KP.nil w).alloc aW);have H:=aC h;have i1:(1:UZ)<(n:UZ):=UI
 have i2:(2:UZ)<(n:UZ):=UI
 have i3:(3:UZ)<(n:UZ):=UI
 have i4:(4:UZ)<(n:UZ):=UI
 have i5:(5:UZ)<(n:UZ):=UI
 have y2:=aN f.y.bl h2;have N1:=aC (fun wx=>eQ ut 1 7 wx z2 UI UI);have N2:=aC (fun wx=>eQ lt 1 7 wx z3 UI UI);have T1:=aC (fun wx=>qs j wx z4);have T2:=aC (fun wx=>qs r wx z5);have T:Hid (aU s (.find name (bF ut 1 7) (bF lt 1 7) (cZ j) (cZ r))=if aA.dH s.ts name (bF ut 1 7)≠0 then (s,.error (aA.dH s.ts name (bF ut 1 7))) else if cZ r<=cZ j then (s,.error 6) else (s,.num (aA.iY s.ts s.es name (bF ut 1 7) (bF lt 1 7) (cZ j) (cZ r)))):=rfl;clear h
 go_in
 go_upto_region 1 with fail
 change YS _ _ _ _ (w.alloc aW);generalize w.alloc aW=X at *;generalize aU s _=D at *;generalize bF ut 1 7=u at *;generalize bF lt 1 7=lo at *;generalize cZ j=fr at *;generalize cZ r=til at *
 go_wp2_with fail
 refine (N1.y _).mono ?_;rintro e w1 ⟨rfl,x⟩;replace f:=aC (f.y.later x);have y4:=aN f.y.bl h4;clear x y2
 go_wp2_with fail
 refine (T1.y _).mono ?_;rintro e w2 ⟨rfl,x⟩;replace f:=aC (f.y.later x);have y5:=aN f.y.bl h5;clear x y4
 go_wp2_with fail
 refine (T2.y _).mono ?_;rintro e w3 ⟨rfl,x⟩;replace f:=aC (f.y.later x);have y1:=aN f.y.bl h1;have y3:=aN f.y.bl h3;clear x y5 N1 T1 T2 X;have D0:=aC (H.y.later f.y.bl);have AK:=aC (D0.y.asked name u);have hQ:w.heap.size<w3.heap.size:=f.y.lt (q:=(w.heap.size,aW)) UJ;have Y:=aC (Q7.of (f.y.kb (w.heap.size,aW) UJ));generalize aA.dH s.ts name u=an at *
 go_wp2_with fail
 refine AK.y.mono ?_;rintro e w4 ⟨rfl,rfl⟩;clear AK
 have A:Hid (∀ R,D=(s,.error R)->dK w d F xs D (.returned (bC R 0 0 aR aR aR aR)) (cK w4 w.heap.size (.int .i64 R) (.int .i64 0) (.int .i64 0) aR aR aR aR)):=fun R e=>by
  rw[e];exact H.y.said f.y.bl (zq _) R 0 _ _ _ _ _ _ _
 by_cases S:an=0
 ·subst S
  by_cases a2:til<=fr
  ·have Z:=aC (A.y 6 (by rw[T.y];simp[a2]));obtain⟨J,q1,q2,q3,I,E,C,P⟩:=Y.y
   go_wp2_with fail
   exact cO results178 ⟨J,q1,q2,q3,I,E,C,P⟩ Z.y
  ·have E9:Hid (D=(s,.num (aA.iY s.ts s.es name u lo fr til))):=by show _=_;rw[T.y,U0 UJ,U0 a2]
   have FN:Hid (∀ wx,U9 w4.heap.size w4 wx->Va prog 237 #[.pointer (U4 ⟨d,0,U3⟩),.string name,.int .i64 u,.int .i64 lo,.int .i64 fr,.int .i64 til] wx fun e w'=>e=.returned (.int .i64 (aA.iY s.ts s.es name u lo fr til))/\U9 wx.heap.size wx w'):=fun wx k=>(D0.y.later k).find name u lo fr til hu.1 hu.2 U.1 UI V.1 UI
   have AF:Hid (∀ wx,U9 w4.heap.size w4 wx->Q7 wx w.heap.size/\dK w d F xs D (.returned (bC 0 0 (aA.iY s.ts s.es name u lo fr til) aR aR aR aR)) (cK wx w.heap.size (.int .i64 0) (.int .i64 0) (.int .i64 (aA.iY s.ts s.es name u lo fr til)) aR aR aR aR)):=fun wx k=>⟨Y.y.later (k.block _ hQ),by rw[E9.y];exact H.y.said (aZ f.y.bl k (zq _)) (zq _) 0 _ _ _ _ _ _ _ _⟩
   generalize aA.iY s.ts s.es name u lo fr til=fv at *;clear A E9 T
   go_upto_region 9 with fail
   go_region_law (first
    |(refine qW (by rfl) 126 _ _ (by rfl) _ (by simp[Act.eval]) (En _ _) (N2.y _) ?_;rintro e w5 ⟨rfl,O⟩;refine⟨_,rfl,?_⟩;have y:U9 w4.heap.size w4 w5:=aZ (dM w4) O (zq _);have ab:=aN y y1;clear O)
    |(refine qW (by rfl) 237 _ _ (by rfl) _ (by simp[Act.eval]) (KU _ _) (FN.y _ y) ?_;rintro e w6 ⟨rfl,M⟩;refine⟨_,rfl,?_⟩;have FF:=aC (AF.y w6 (aZ y M (zq _)));obtain⟨⟨J,q1,q2,q3,I,E,C,P⟩,_⟩:=FF.y;clear M))
   all_goals
    go_wp2_with fail
    exact cO results178 ⟨J,q1,q2,q3,I,E,C,P⟩ FF.y.2
 ·have Z:=aC (A.y an (by rw[T.y,U1 S]));have ac:(an==0)=U5:=by simpa using S
  have aa:(an != 0)=U6:=by simpa using S
  obtain⟨J,q1,q2,q3,I,E,C,P⟩:=Y.y;clear S
  go_wp2_with fail
  exact cO results178 ⟨J,q1,q2,q3,I,E,C,P⟩ Z.y
def jW(kw:UU)(ev:UZ)(m:UZ->Bool)(fr mn mi ti un:UZ):Obj:=.cells #[.string kw,.int .i64 ev,.bool (m 0),.bool (m 1),.bool (m 2),.bool (m 3),.bool (m 4),.bool (m 5),.bool (m 6),.int .i64 fr,.int .i64 mn,.int .i64 mi,.int .i64 ti,.int .i64 un] 273
abbrev rn(kw:UU)(ev:UZ):Obj:=jW kw ev (fun _=>U5) 0 0 0 0 0
theorem nu{kw:UU}{ev fr mn mi ti un:UZ}{m:UZ->Bool}(h:W.heap[b]?=U4 (jW kw ev m fr mn mi ti un)):(W.cell? ⟨b,0,U3⟩=U4 (.string kw)/\W.cell? ⟨b,1,U3⟩=U4 (.int .i64 ev)/\W.cell? ⟨b,2,U3⟩=U4 (.bool (m 0))/\W.cell? ⟨b,3,U3⟩=U4 (.bool (m 1))/\W.cell? ⟨b,4,U3⟩=U4 (.bool (m 2))/\W.cell? ⟨b,5,U3⟩=U4 (.bool (m 3))/\W.cell? ⟨b,6,U3⟩=U4 (.bool (m 4))/\W.cell? ⟨b,7,U3⟩=U4 (.bool (m 5))/\W.cell? ⟨b,8,U3⟩=U4 (.bool (m 6))/\W.cell? ⟨b,9,U3⟩=U4 (.int .i64 fr)/\W.cell? ⟨b,10,U3⟩=U4 (.int .i64 mn)/\W.cell? ⟨b,11,U3⟩=U4 (.int .i64 mi)/\W.cell? ⟨b,12,U3⟩=U4 (.int .i64 ti)/\W.cell? ⟨b,13,U3⟩=U4 (.int .i64 un))/\∀ o,W.frozen? ⟨b,o,U3⟩=U5 :=
 ⟨⟨aY h 0 rfl,aY h 1 rfl,aY h 2 rfl,aY h 3 rfl,aY h 4 rfl,aY h 5 rfl,aY h 6 rfl,aY h 7 rfl,aY h 8 rfl,aY h 9 rfl,aY h 10 rfl,aY h 11 rfl,aY h 12 rfl,aY h 13 rfl⟩,fun o=>by simp[Vi,h,jW]⟩
theorem KP.mE{L:UV (UY × Obj)}(h:KP w W ((b,o) :: L)):W.heap[b]?=U4 o:=h.kb _ (Yp ..)
theorem KP.pW{wx:U7}{L:UV (UY × Obj)}{t:Vc}{m:UY × UY}{a0 a1 Z Y X V U T S R P O M J:U8}(h:KP w wx ((b,.cells #[a0,a1,Z,Y,X,V,U,T,S,R,P,O,M,J] t m) :: L))(v0 v1 v2 I H E C A y x r q j f:U8):KP w ((((((((((((((wx.setCell ⟨b,0,U3⟩ v0).setCell ⟨b,1,U3⟩ v1).setCell ⟨b,2,U3⟩ v2).setCell ⟨b,3,U3⟩ I).setCell ⟨b,4,U3⟩ H).setCell ⟨b,5,U3⟩ E).setCell ⟨b,6,U3⟩ C).setCell ⟨b,7,U3⟩ A).setCell ⟨b,8,U3⟩ y).setCell ⟨b,9,U3⟩ x).setCell ⟨b,10,U3⟩ r).setCell ⟨b,11,U3⟩ q).setCell ⟨b,12,U3⟩ j).setCell ⟨b,13,U3⟩ f) ((b,.cells #[v0,v1,v2,I,H,E,C,A,y,x,r,q,j,f] t m) :: L):=by
 have:=(((((((((((((h.put 0 v0).put 1 v1).put 2 v2).put 3 I).put 4 H).put 5 E).put 6 C).put 7 A).put 8 y).put 9 x).put 10 r).put 11 q).put 12 j).put 13 f;simp only[List.setIfInBounds_toArray,List.set_cons_zero,List.set_cons_succ] at this;exact this
section
variable {w W:U7}{L:UV (UY × Obj)}{b:UY}{kw:UU}{ev fr mn mi ti un:UZ}{m:UZ->Bool}
theorem KP.JF(h:KP w W ((b,jW kw ev m fr mn mi ti un) :: L))(x:UZ):KP w (W.setCell ⟨b,9,U3⟩ (.int .i64 x)) ((b,jW kw ev m x mn mi ti un) :: L):=KP.put h 9 _
theorem KP.yN(h:KP w W ((b,jW kw ev m fr mn mi ti un) :: L))(x:UZ):KP w (W.setCell ⟨b,10,U3⟩ (.int .i64 x)) ((b,jW kw ev m fr x mi ti un) :: L):=KP.put h 10 _
theorem KP.yM(h:KP w W ((b,jW kw ev m fr mn mi ti un) :: L))(x:UZ):KP w (W.setCell ⟨b,11,U3⟩ (.int .i64 x)) ((b,jW kw ev m fr mn x ti un) :: L):=KP.put h 11 _
theorem KP.yL(h:KP w W ((b,jW kw ev m fr mn mi ti un) :: L))(x:UZ):KP w (W.setCell ⟨b,12,U3⟩ (.int .i64 x)) ((b,jW kw ev m fr mn mi x un) :: L):=KP.put h 12 _
theorem KP.yK(h:KP w W ((b,jW kw ev m fr mn mi ti un) :: L))(x:UZ):KP w (W.setCell ⟨b,13,U3⟩ (.int .i64 x)) ((b,jW kw ev m fr mn mi ti x) :: L):=KP.put h 13 _
theorem KP.JE(h:KP w W ((b,jW kw ev m fr mn mi ti un) :: L))(q:UZ->Bool):KP w (((((((W.setCell ⟨b,2,U3⟩ (.bool (q 0))).setCell ⟨b,3,U3⟩ (.bool (q 1))).setCell ⟨b,4,U3⟩ (.bool (q 2))).setCell ⟨b,5,U3⟩ (.bool (q 3))).setCell ⟨b,6,U3⟩ (.bool (q 4))).setCell ⟨b,7,U3⟩ (.bool (q 5))).setCell ⟨b,8,U3⟩ (.bool (q 6))) ((b,jW kw ev q fr mn mi ti un) :: L):=by
 have:=((((((KP.put h 2 (.bool (q 0))).put 3 (.bool (q 1))).put 4 (.bool (q 2))).put 5 (.bool (q 3))).put 6 (.bool (q 4))).put 7 (.bool (q 5))).put 8 (.bool (q 6));simp only[List.setIfInBounds_toArray,List.set_cons_zero,List.set_cons_succ] at this;exact this
end
theorem Ed{ws:UY->UU}{pc:UZ}{acc:UV UZ}{tm:Bool}(hc:∀ j,j<n->w.cell? ⟨g,j,U3⟩=U4 (.string (ws j)))(hz:∀ j,(ws j).size<=160)(hi:i<=10)(hr:rE ws i k pc acc tm)(hn:k+7<n):
  Va prog 180 #[.slice (U4 ⟨g,0,U3⟩) n c,.int .i64 i] w fun e w'=>e=.returned (mL (jX ws i k pc acc tm))/\U9 w.heap.size w w':=by
 have NM:=aC (fun j wx=>eQ (ws j) 1 7 wx (hz j) UI UI);have DT:=aC (fun j wx=>uS (ws j) wx (hz j));have CK:=aC (fun j wx=>Aw (ws j) wx (hz j));have ON:=aC (fun j wx=>zh (ws j) wx (hz j));have Z:=aC ((KP.nil w).alloc (rn ⟨#[]⟩ 0));obtain⟨hp,h3,hk,ht⟩:=hr;have x:Hid (∀ W,U9 w.heap.size w W->∀ j,j<n->W.cell? ⟨g,j,U3⟩=U4 (.string (ws j))):=fun W kW j hj=>aN kW (hc j hj)
 have WR:Hid (∀ j:UY,j<30->Vf.wrap ((j:UZ))=(j:UZ)):=fun j hj=>cG UI UI
 have n0:(i:UZ)<(n:UZ):=UI
 have n1:(i:UZ)+1<(n:UZ):=UI
 have q1:(0:UZ)<=(i:UZ)+1:=UI
 have v1:Vf.wrap ((i:UZ)+1)=(i:UZ)+1:=cG UI UI;have v2:Vf.wrap ((i:UZ)+2)=(i:UZ)+2:=cG UI UI;have P:=aC (zA hp (zA h3 (zA hk ht)));have ae:i+2<=k/\k<=i+3:=UI
 clear hc hp h3 hk ht
 go_in
 go_upto_region 1 with fail
 change YS _ _ _ _ (w.alloc (rn ⟨#[]⟩ 0));generalize w.alloc (rn ⟨#[]⟩ 0)=X at *;have y0:=x.y _ Z.y.bl i UI;have y1:=x.y _ Z.y.bl (i+1) UI;have N1:=aC (fun wx=>NM.y (i+1) wx)
 have HE:Hid (mL (jX ws i k pc acc tm)=.agg #[.string (ws i),.int .i64 (bF (ws (i+1)) 1 7),.bool (aI acc 0),.bool (aI acc 1),.bool (aI acc 2),.bool (aI acc 3),.bool (aI acc 4),.bool (aI acc 5),.bool (aI acc 6),.int .i64 (eV (ws (k+1))),.int .i64 (gT (ws (k+3))),.int .i64 (bF (ws (k+5)) 1 7),.int .i64 (if tm then bF (ws (k+7)) 1 7 else 0),.int .i64 (if tm then 0 else eV (ws (k+7)))]):=by
  rw[P.y.1];rfl
 generalize ws i=kw at *;generalize bF (ws (i+1)) 1 7=ev at *;generalize ws (i+1)=ew at *
 go_cut [5] from 8 to 18 (fun v5 wx=>∃ b,v5=.pointer (U4 ⟨b,0,U3⟩)/\KP w wx [(b,rn kw ev),(w.heap.size,rn ⟨#[]⟩ 0)])
 case first =>
  have yA:∀ o,(X.alloc o).cell? ⟨g,i,U3⟩=U4 (.string kw):=fun o=>aN ((zr _ _).alloc (zq _) _) y0
  have yB:∀ o,(X.alloc o).cell? ⟨g,i+1,U3⟩=U4 (.string ew):=fun o=>aN ((zr _ _).alloc (zq _) _) y1
  go_region_with (first
   |(go_at_call 126;refine (N1.y _).mono ?_;rintro e w4 ⟨rfl,r⟩;have PB:=aC (((Z.y.alloc _).later (dM _)).later r);obtain⟨⟨b0,b1,b2,b3,b4,b5,b6,b7,b8,b9,aj,ai,ag,af⟩,q⟩:=nu (kw:=⟨#[]⟩) (ev:=0) (m:=fun _=>U5) (fr:=0) (mn:=0) (mi:=0) (ti:=0) (un:=0) (zn r);have kX:U9 X.heap.size X w4:=aZ ((zr _ _).alloc (zq _) _).drew r UJ;have R:=aN kX y0)
   |(go_at_call 126;refine (N1.y _).mono ?_;rintro e w4 ⟨rfl,r⟩;have kX:U9 X.heap.size X w4:=aZ (dM X) r (zq _);have R:=aN kX y0;have yC:∀ o,(w4.alloc o).cell? ⟨g,i,U3⟩=U4 (.string kw):=fun o=>aN ((zr _ _).alloc (zq _) _) R))
  all_goals
   go_wp2
   go_meet
   first
    |(
     have PB:=PB.y.pW (.string kw) (.int .i64 ev) (.bool U5) (.bool U5) (.bool U5) (.bool U5) (.bool U5) (.bool U5) (.bool U5) (.int .i64 0) (.int .i64 0) (.int .i64 0) (.int .i64 0) (.int .i64 0)
     exact⟨_,rfl,PB⟩)
    |exact⟨_,rfl,(Z.y.later kX).alloc _⟩
 case rest =>
  obtain⟨b,rfl,V⟩:=hcut;have HP:=aC V;clear V y0 y1 Z n0 n1 q1 v1;obtain⟨⟨c0,_⟩,_⟩:=nu HP.y.mE
  go_upto_if 23 with fail
  go_cut [1] (fun v wx=>v=.int .i64 k/\KP w wx [(b,jW kw ev (aI acc) 0 0 0 0 0),(w.heap.size,rn ⟨#[]⟩ 0)])
  case first =>
   rcases P.y.2.2.1 with ⟨A,C,T,S⟩|⟨A,C,U⟩
   ·have HO:=aC (zA T S);have hw:(kw.toList==[119,101,101,107,108,121])=U6:=by rw[P.y.1,A];decide +kernel
    clear T S;subst C;rw[hw];have y2:=x.y _ HP.y.bl (i+2) UI;have n2:(i:UZ)+2<(n:UZ):=UI
    have p2:(0:UZ)<=(i:UZ)+2:=UI
    have v3:Vf.wrap ((i:UZ)+3)=(i:UZ)+3:=cG UI UI
    go_upto_region 5 with (first|(go_at_call 129;refine (ON.y (i+2) _).mono ?_;rintro e w2 ⟨⟨f,rfl,ha⟩,h⟩;obtain rfl:f=acc:=Option.some.inj ((ha HO.y.1).symm.trans HO.y.2);replace HP:=aC (HP.y.later h);clear h ha y2;simp only[fa]))
    have y:=cC w2 (.cells #[.bool (aI f 0),.bool (aI f 1),.bool (aI f 2),.bool (aI f 3),.bool (aI f 4),.bool (aI f 5),.bool (aI f 6)] 159);have a0:=aY y 0 rfl;have a1:=aY y 1 rfl;have a2:=aY y 2 rfl;have a3:=aY y 3 rfl;have a4:=aY y 4 rfl;have a5:=aY y 5 rfl;have a6:=aY y 6 rfl;replace HP:=aC (HP.y.later ((zr _ w2).alloc (zq _) (.cells #[.bool (aI f 0),.bool (aI f 1),.bool (aI f 2),.bool (aI f 3),.bool (aI f 4),.bool (aI f 5),.bool (aI f 6)] 159)));obtain⟨⟨_,_,c2,c3,c4,c5,c6,c7,c8,_⟩,q⟩:=nu HP.y.mE;clear y c0
    go_wp2
    go_meet
    exact⟨by simp,HP.y.JE (aI f)⟩
   ·have hw:(kw.toList==[119,101,101,107,108,121])=U5:=by
     rw[P.y.1];rcases P.y.2.1 with e|e|e
     ·rw[e];decide +kernel
     ·exact (A e).elim
     ·rw[e];decide +kernel
    subst C U;rw[hw]
    go_wp2
    go_meet
    exact⟨by simp,HP.y⟩
  case rest =>
   obtain⟨rfl,V⟩:=hcut;replace HP:=aC V;clear V c0;have w1:Vf.wrap ((k:UZ)+1)=(k:UZ)+1:=cG UI UI;have m1:(k:UZ)+1<(n:UZ):=UI
   have p1:(0:UZ)<=(k:UZ)+1:=UI
   have w3:Vf.wrap ((k:UZ)+3)=(k:UZ)+3:=cG UI UI;have m3:(k:UZ)+3<(n:UZ):=UI
   have p3:(0:UZ)<=(k:UZ)+3:=UI
   have w5:Vf.wrap ((k:UZ)+5)=(k:UZ)+5:=cG UI UI;have m5:(k:UZ)+5<(n:UZ):=UI
   have p5:(0:UZ)<=(k:UZ)+5:=UI
   have w6:Vf.wrap ((k:UZ)+6)=(k:UZ)+6:=cG UI UI;have m6:(k:UZ)+6<(n:UZ):=UI
   have p6:(0:UZ)<=(k:UZ)+6:=UI
   have w7:Vf.wrap ((k:UZ)+7)=(k:UZ)+7:=cG UI UI;have m7:(k:UZ)+7<(n:UZ):=UI
   have p7:(0:UZ)<=(k:UZ)+7:=UI
   have y1:=x.y _ HP.y.bl (k+1) UI
   go_upto_region 8 with (first|(go_at_call 187;refine (DT.y (k+1) _).mono ?_;rintro e w2 ⟨rfl,h⟩;replace HP:=aC (HP.y.later h);obtain⟨⟨_,_,_,_,_,_,_,_,_,O,_⟩,q⟩:=nu HP.y.mE;have E:=q 9;clear h q y1))
   replace HP:=aC (HP.y.JF (eV (ws (k+1))));generalize w2.setCell ⟨b,9,U3⟩ (.int .i64 (eV (ws (k+1))))=Z9 at HP ⊢;clear O E;have y3:=x.y _ HP.y.bl (k+3) UI
   go_upto_region 9 with (first|(go_at_call 188;refine (CK.y (k+3) _).mono ?_;rintro e w2 ⟨rfl,h⟩;replace HP:=aC (HP.y.later h);obtain⟨⟨_,_,_,_,_,_,_,_,_,_,O,_⟩,q⟩:=nu HP.y.mE;have E:=q 10;clear h q y3))
   replace HP:=aC (HP.y.yN (gT (ws (k+3))));generalize w2.setCell ⟨b,10,U3⟩ (.int .i64 (gT (ws (k+3))))=Z10 at HP ⊢;clear O E;have y5:=x.y _ HP.y.bl (k+5) UI
   go_upto_region 10 with (first|(go_at_call 126;refine (NM.y (k+5) _).mono ?_;rintro e w2 ⟨rfl,h⟩;replace HP:=aC (HP.y.later h);obtain⟨⟨_,_,_,_,_,_,_,_,_,_,_,O,_⟩,q⟩:=nu HP.y.mE;have E:=q 11;clear h q y5))
   replace HP:=aC (HP.y.yM (bF (ws (k+5)) 1 7));generalize w2.setCell ⟨b,11,U3⟩ (.int .i64 (bF (ws (k+5)) 1 7))=Z11 at HP ⊢;clear O E;have y6:=x.y _ HP.y.bl (k+6) UI;have y7:=x.y _ HP.y.bl (k+7) UI;have ht:=P.y.2.2.2
   go_upto_if 62 with fail
   go_cut [] (fun wx=>KP w wx [(b,jW kw ev (aI acc) (eV (ws (k+1))) (gT (ws (k+3))) (bF (ws (k+5)) 1 7) (if tm then bF (ws (k+7)) 1 7 else 0) (if tm then 0 else eV (ws (k+7)))),(w.heap.size,rn ⟨#[]⟩ 0)])
   case first =>
    cases tm
    ·go_wp2_with (first|(go_at_call 187;refine (DT.y (k+7) _).mono ?_;rintro e w2 ⟨rfl,h⟩;replace HP:=aC (HP.y.later h);obtain⟨⟨_,_,_,_,_,_,_,_,_,_,_,_,_,O⟩,q⟩:=nu HP.y.mE;have E:=q 13;clear h q y6 y7))
     go_meet
     exact HP.y.yK (eV (ws (k+7)))
    ·go_wp2_with (first|(go_at_call 126;refine (NM.y (k+7) _).mono ?_;rintro e w2 ⟨rfl,h⟩;replace HP:=aC (HP.y.later h);obtain⟨⟨_,_,_,_,_,_,_,_,_,_,_,_,O,_⟩,q⟩:=nu HP.y.mE;have E:=q 12;clear h q y6 y7))
     go_meet
     exact HP.y.yL (bF (ws (k+7)) 1 7)
   case rest =>
    have HP:=aC hcut;clear hcut y6 y7 ht;generalize eV (ws (k+1))=fr at *;generalize gT (ws (k+3))=mn at *;generalize bF (ws (k+5)) 1 7=mi at *;generalize (if tm then bF (ws (k+7)) 1 7 else 0)=ti at *;generalize (if tm then 0 else eV (ws (k+7)))=un at *;obtain⟨⟨c0,c1,c2,c3,c4,c5,c6,c7,c8,c9,ad,ac,ab,aa⟩,_⟩:=nu HP.y.mE;obtain⟨⟨d0,d1,d2,d3,d4,d5,d6,d7,d8,d9,M,J,I,H⟩,df⟩:=nu HP.y.swap.mE
    go_wp2_with fail
    have HF:=aC (HP.y.swap.pW (.string kw) (.int .i64 ev) (.bool (aI acc 0)) (.bool (aI acc 1)) (.bool (aI acc 2)) (.bool (aI acc 3)) (.bool (aI acc 4)) (.bool (aI acc 5)) (.bool (aI acc 6)) (.int .i64 fr) (.int .i64 mn) (.int .i64 mi) (.int .i64 ti) (.int .i64 un));clear d0 d1 d2 d3 d4 d5 d6 d7 d8 d9 M J I H c0 c1 c2 c3 c4 c5 c6 c7 c8 c9 ad ac ab aa df;generalize ((((((((((((((wc.setCell ⟨w.heap.size,0,U3⟩ (.string kw)).setCell ⟨w.heap.size,1,U3⟩ (.int .i64 ev)).setCell ⟨w.heap.size,2,U3⟩ (.bool (aI acc 0))).setCell ⟨w.heap.size,3,U3⟩ (.bool (aI acc 1))).setCell ⟨w.heap.size,4,U3⟩ (.bool (aI acc 2))).setCell ⟨w.heap.size,5,U3⟩ (.bool (aI acc 3))).setCell ⟨w.heap.size,6,U3⟩ (.bool (aI acc 4))).setCell ⟨w.heap.size,7,U3⟩ (.bool (aI acc 5))).setCell ⟨w.heap.size,8,U3⟩ (.bool (aI acc 6))).setCell ⟨w.heap.size,9,U3⟩ (.int .i64 fr)).setCell ⟨w.heap.size,10,U3⟩ (.int .i64 mn)).setCell ⟨w.heap.size,11,U3⟩ (.int .i64 mi)).setCell ⟨w.heap.size,12,U3⟩ (.int .i64 ti)).setCell ⟨w.heap.size,13,U3⟩ (.int .i64 un))=Y at HF ⊢;obtain⟨⟨d0,d1,d2,d3,d4,d5,d6,d7,d8,d9,M,J,I,H⟩,_⟩:=nu (kw:=kw) (ev:=ev) (m:=aI acc) (fr:=fr) (mn:=mn) (mi:=mi) (ti:=ti) (un:=un) HF.y.mE;exact bodyPost_ret (v:=.agg #[.string kw,.int .i64 ev,.bool (aI acc 0),.bool (aI acc 1),.bool (aI acc 2),.bool (aI acc 3),.bool (aI acc 4),.bool (aI acc 5),.bool (aI acc 6),.int .i64 fr,.int .i64 mn,.int .i64 mi,.int .i64 ti,.int .i64 un]) (by simp[results,results180,go_sem,d0,d1,d2,d3,d4,d5,d6,d7,d8,d9,M,J,I,H]) rfl ⟨by rw[HE.y],HF.y.bl⟩
end Go.Proofs.YtfigmlfdnickmaaGreatDoor
