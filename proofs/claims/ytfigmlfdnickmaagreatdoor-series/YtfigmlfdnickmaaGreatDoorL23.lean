import Derived.Test.YtfigmlfdnickmaaGreatDoorL22
set_option maxRecDepth 100000
set_option maxHeartbeats 8000000
variable{m:Int}{xs:List Go.Value}{Q b k n t z:Nat}{o:Go.Obj}{a c l r' u v:Go.Value}{Z3 w9 wr:Go.World}
namespace Go.Proofs.YtfigmlfdnickmaaGreatDoor
open Go.RowKit
variable {w:World}{B:Nat}{v0 v1 r1 r2 r3:Value}{K:List Nat}{X1 X2 X3:List KL}
theorem f1R:(Tryz.prog.info? tS).map (fun i=>(i.zero,i.size,i.bytes))=some (some (.agg #[.slice none 0 0,.slice none 0 0,.slice none 0 0,.slice none 0 0,.int .i64 0]),5,104):=by kernel_rfl
theorem g4r(hk:k*2+1<xs.length):((rp (e4i m) k++xs.drop (k*2)).set (k*2) (.int .i64 m)).set (k*2+1) (.int .i64 m)=rp (e4i m) (k+1)++xs.drop ((k+1)*2):=by
 have hl:(rp (e4i m) k).length=k*2:=by rw[d4O];simp
 have e2:(k+1)*2=k*2+1+1:=by omega
 rw[List.set_append,if_neg (by omega),List.set_append,if_neg (by omega),hl,Nat.sub_self,Nat.add_sub_cancel_left,List.drop_eq_getElem_cons (by omega),List.drop_eq_getElem_cons hk,e6y,List.append_assoc,e2];rfl
theorem BK.kept2{b:Value}{e:TypeId}(h:BK w B v0 v1 K r1 r2 r3 X1 X2 X3)(h3:BK Z3 B v0 v1 K r1 r2 r3 X1 X2 X3)(hT:KF (e4i m) e wr Z3 l n Q o [(c,n+3),(b,n+2),(a,n+1),(l,n)])(hn:n<=900000)(R3:Off l.ownBlock.toList w Z3)(hw:w.heap.size<=wr.heap.size)(hlK:∀ b,l.ownBlock=some b->b ∉ K/\b ∉ bkB B r1 r2 r3)
  (k9:Off r2.ownBlock.toList Z3 w9) (o9:w9.ownsRow 0 tS 5 r' (X2.length+1) (X2.flatMap klV++klV (l,a,b,c,m))) (hat:g2M Z3 r2 r'):e5M w B v0 v1 K r1 r2 r3 l (X1.length+X2.length+X3.length) (w9.setCell ⟨B,3,none⟩ r') :=
 BK.kept hT R3 hw (by simp;omega) (fun q hq=>by
  simp only[bkB,List.mem_cons,List.mem_append,Option.mem_toList] at hq ⊢;rcases hq with rfl|hq|hq|hq
  ·exact .inl (.inl rfl)
  ·exact .inl (.inr (.inl hq))
  ·exact (hat q hq).imp (fun e=>.inr (.inr (.inl e))) id
  ·exact .inl (.inr (.inr (.inr hq)))) (h3.add2 (hT.k4 (P:=e4i) hn) (h.apart hT hw hlK) k9 o9 hat)
theorem e2e(h:BK w B v0 v1 K r1 r2 r3 X1 X2 X3)(h1:X1.length<=1000000000)(h2:X2.length<=1000000000)(h3:X3.length<=1000000000)(hl:w.ownsRow 0 60 2 l n xs)(hn:n<=900000)(hlK:∀ b,l.ownBlock=some b->b ∉ K/\b ∉ bkB B r1 r2 r3):
  Calls Tryz.prog 121 #[.pointer (some ⟨B,2,none⟩),l] w fun e w'=>e=.returned (.tuple #[])/\e5M w B v0 v1 K r1 r2 r3 l (X1.length+X2.length+X3.length) w':=by
 obtain⟨i0,hi0,hz0,hz1,hz2⟩:=info_parts b6Q;obtain⟨j0,hj0,jz0,jz1,jz2⟩:=info_parts f1R;obtain⟨a,cp,rfl⟩:=c9y hl;have HB:=a0b h;have HL:=a0b hl;have HK:=a0b hlK;have HLT:=a0b (fun b (hb:(Value.slice a n cp).ownBlock=some b)=>c7O hl hb);have hxl:xs.length=n*2:=hl.1;clear h hl hlK
 go_enter Tryz.func121,Tryz.ntmps121
 go_upto_region 3 with (first|(go_at_call 184;refine (e1W HB.out h1 h2 h3).mono ?_;rintro e w1 ⟨rfl,hb⟩;have H1:=a0b hb;clear hb))
 generalize hmm:f8N X1 X2 X3=m;change Code.wp _ _ _ _ (w1.alloc (.cells #[.int .i64 m,.int .i64 m] 60));have HW:=a0b (a0j H1.out ((zr _ w1).alloc (zq _) (.cells #[.int .i64 m,.int .i64 m] 60)) (zq _));have hS:w1.heap.size ∉ (Value.slice a n cp).ownBlock.toList:=fun e=>by have:=HLT.out _ (by simpa using e);have:=H1.out.size;omega
 have BX:Hid (∀ Z,Off (Value.slice a n cp).ownBlock.toList (w1.alloc (.cells #[.int .i64 m,.int .i64 m] 60)) Z->Z.cell? ⟨w1.heap.size,0,none⟩=some (.int .i64 m)/\Z.cell? ⟨w1.heap.size,1,none⟩=some (.int .i64 m)):=fun Z k=>⟨k.cell hS (d0h (a0p w1 _) 0 rfl),k.cell hS (d0h (a0p w1 _) 1 rfl)⟩
 clear hS;generalize w1.alloc (.cells #[.int .i64 m,.int .i64 m] 60)=W1 at HW BX ⊢;generalize w1.heap.size=S at BX ⊢;have HL1:=a0b (a1g HL.out HW.out)
 go_loopw [6] (fun v wr=>∃ k:Nat,k<=n/\v=.int .i64 k/\wr.ownsRow 0 60 2 (.slice a n cp) n (rp (e4i m) k++xs.drop (k*2))/\Off (Value.slice a n cp).ownBlock.toList W1 wr) (fun v _=>n-(intOf v).toNat)
 case atStart=>exact⟨0,Nat.zero_le _,rfl,by simpa[e6x] using HL1.out,Off.refl _ _⟩
 case round =>
  obtain⟨k,hk,rfl,hown,hof⟩:=hrel;have HO:=a0b (zA hown hof)
  by_cases hlt:k<n
  ·have hlt':(k:Int)<(n:Int):=by omega
   obtain⟨y0,y1⟩:=BX.out _ hof;obtain⟨g,cap,u,e,c0,fz⟩:=d1o hown (k:=k*2) (by rw[List.length_append,d4O,List.length_drop];simp;omega);obtain⟨g',cap',u',e',c1,_⟩:=d1o hown (k:=k*2+1) (by rw[List.length_append,d4O,List.length_drop];simp;omega);rw[e] at e';simp only[Value.slice.injEq,Option.some.injEq,Addr.mk.injEq,and_true,true_and] at e';obtain⟨rfl,rfl⟩:=e';simp only[Value.slice.injEq,true_and] at e;obtain⟨rfl,rfl⟩:=e;have f0:=fz (k*2);have f1:=fz (k*2+1);clear hown hof
   go_wp2_with fail
   go_roundw
   case rel =>
    refine⟨k+1,by omega,by go_num,?_,(HO.out.2.setCell (.inl (by simp[Value.ownBlock])) _ _).setCell (.inl (by simp[Value.ownBlock])) _ _⟩;have:=d1L (d1L HO.out.1 (b:=g) rfl (k*2) (.int .i64 m)) (b:=g) rfl (k*2+1) (.int .i64 m);rw[g4r (by omega)] at this;exact this
   case measure=>simp[intOf];omega
  ·have hlt':¬ (k:Int)<(n:Int):=by omega
   have hkn:k=n:=by omega
   subst hkn
   have HR:Hid (wr.ownsRow 0 60 2 (.slice a k cp) k (rp (e4i m) k)):=by
    have:=HO.out.1;rw[List.drop_eq_nil_of_le (by omega),List.append_nil] at this;exact this
   clear hown hof;obtain⟨y0,y1⟩:=BX.out _ HO.out.2
   go_upto_region 7 with fail
   change Code.wp _ _ _ _ (wr.alloc (.cells #[.slice a k cp,.slice none 0 0,.slice none 0 0,.slice none 0 0,.int .i64 m] tS))
   have S0:Hid (KS (e4i m) 60 wr (wr.alloc (.cells #[.slice a k cp,.slice none 0 0,.slice none 0 0,.slice none 0 0,.int .i64 m] tS)) (.slice a k cp) k wr.heap.size (.cells #[.slice a k cp,.slice none 0 0,.slice none 0 0,.slice none 0 0,.int .i64 m] tS)) :=
    ⟨HR.out.alloc _,a0p _ _,Nat.le_refl _,(Off.refl _ _).alloc _,fun b hb=>c7O HR.out hb⟩
   have T0:Hid (KF (e4i m) 60 wr (wr.alloc (.cells #[.slice a k cp,.slice none 0 0,.slice none 0 0,.slice none 0 0,.int .i64 m] tS)) (.slice a k cp) k wr.heap.size (.cells #[.slice a k cp,.slice none 0 0,.slice none 0 0,.slice none 0 0,.int .i64 m] tS) [(.slice a k cp,k)]) :=
    ⟨S0.out,fun p hp=>by
     rw[List.mem_singleton.1 hp]
     exact⟨Fu.of_own S0.out.own,fun b hb=>⟨by have:=S0.out.lt b hb;omega,c7O S0.out.own hb,.inl hb⟩⟩⟩
   clear S0;generalize wr.alloc (.cells #[.slice a k cp,.slice none 0 0,.slice none 0 0,.slice none 0 0,.int .i64 m] tS)=Z0 at T0 ⊢;obtain⟨y0,y1⟩:=BX.out _ (HO.out.2.trans T0.out.ks.off)
   go_upto_region 8 with (first|(at_builtin;go_loud (refine d6c rfl _ _ 56 rfl (e4i m) 16 Tryz.underlying56 hi0 hz0 hz1 hz2 (by decide) rfl (by simp) (by simp[Value.oneCell']) T0.out.ks.own (m:=1) (cs:=#[.int .i64 m,.int .i64 m]) (by simp[rp]) (by decide) (by decide) rfl rfl (by omega) (zN _) ?_);intro g6 c6 w6 o6 ol6 f6 k6 at6;have q6:=d0h (T0.out.ks.at_ k6).1 1 rfl;have z6:=(T0.out.ks.at_ k6).2 1))
   have T1:=a0b (T0.out.put o6 ol6 f6 k6 at6 (by simp) 1);generalize w6.setCell ⟨wr.heap.size,1,none⟩ (.slice (some ⟨g6,0,none⟩) (k+1) c6)=Z1 at T1 ⊢;clear y0 y1 o6 ol6 f6 k6 at6 q6 z6 T0;obtain⟨y0,y1⟩:=BX.out _ (HO.out.2.trans T1.out.ks.off)
   go_upto_region 9 with (first|(at_builtin;go_loud (refine d6c rfl _ _ 56 rfl (e4i m) 16 Tryz.underlying56 hi0 hz0 hz1 hz2 (by decide) rfl (by simp) (by simp[Value.oneCell']) T1.out.ks.own (m:=2) (cs:=#[.int .i64 m,.int .i64 m,.int .i64 m,.int .i64 m]) (by simp[rp]) (by decide) (by decide) rfl rfl (by omega) (zN _) ?_);intro g7 c7 w7 o7 ol7 f7 k7 at7;have q7:=d0h (T1.out.ks.at_ k7).1 2 rfl;have z7:=(T1.out.ks.at_ k7).2 2))
   have T2:=a0b (T1.out.put o7 ol7 f7 k7 at7 (by simp) 2);generalize w7.setCell ⟨wr.heap.size,2,none⟩ (.slice (some ⟨g7,0,none⟩) (k+2) c7)=Z2 at T2 ⊢;clear y0 y1 o7 ol7 f7 k7 at7 q7 z7 T1;obtain⟨y0,y1⟩:=BX.out _ (HO.out.2.trans T2.out.ks.off)
   go_upto_region 10 with (first|(at_builtin;go_loud (refine d6c rfl _ _ 56 rfl (e4i m) 16 Tryz.underlying56 hi0 hz0 hz1 hz2 (by decide) rfl (by simp) (by simp[Value.oneCell']) T2.out.ks.own (m:=3) (cs:=#[.int .i64 m,.int .i64 m,.int .i64 m,.int .i64 m,.int .i64 m,.int .i64 m]) (by simp[rp]) (by decide) (by decide) rfl rfl (by omega) (zN _) ?_);intro g8 c8 w8 o8 ol8 f8 k8 at8;have q8:=d0h (T2.out.ks.at_ k8).1 3 rfl;have z8:=(T2.out.ks.at_ k8).2 3))
   have T3:=a0b (T2.out.put o8 ol8 f8 k8 at8 (by simp) 3);generalize w8.setCell ⟨wr.heap.size,3,none⟩ (.slice (some ⟨g8,0,none⟩) (k+3) c8)=Z3 at T3 ⊢;clear y0 y1 o8 ol8 f8 k8 at8 q8 z8 T2;have R3:Off (Value.slice a k cp).ownBlock.toList w Z3:=(Off.of_below HW.out).trans (HO.out.2.trans T3.out.ks.off);have HLK:=a0b (fun b (hb:b∈(Value.slice a k cp).ownBlock.toList)=>HK.out b (by simpa using hb));have B3:=a0b (HB.out.off R3 (fun b hb e=>(HLK.out b e).2 hb) (fun b hb e=>(HLK.out b e).1 hb));have HR3:=a0b R3;obtain⟨_,_,_,d2,_,fzB⟩:=B3.out.cells;obtain⟨_,⟨ra,rc,er⟩,_⟩:=B3.out.forms;subst er;have fB:=fzB 3;have s0:=d0h T3.out.ks.hq 0 rfl;have s1:=d0h T3.out.ks.hq 1 rfl;have s2:=d0h T3.out.ks.hq 2 rfl;have s3:=d0h T3.out.ks.hq 3 rfl;have s4:=d0h T3.out.ks.hq 4 rfl;have d2A:∀ o,(Z3.alloc o).cell? ⟨B,3,none⟩=some (.slice ra X2.length rc):=fun o=>a0a ((zr _ Z3).alloc (zq _) o) d2
   have DD:=a0b (fun o=>a1g B3.out.br.b2.own (((zr _ Z3).alloc (zq _) o).drew));have hBr:(Value.slice ra X2.length rc).ownBlock≠some B:=c8L B3.out.br.b2.own B3.out.hb (by decide);clear R3 fzB
   go_region_law (first
    |(refine step_append_lies _ rfl _ _ 81 rfl 0 tS j0 _ 5 104 Tryz.underlying81 hj0 jz0 jz1 jz2 rfl (by decide) (.slice ra X2.length rc) X2.length (X2.flatMap klV) rfl (DD.out _) ⟨Z3.heap.size,0,none⟩ 1 1 (klV (.slice a k cp,.slice (some ⟨g6,0,none⟩) (k+1) c6,.slice (some ⟨g7,0,none⟩) (k+2) c7,.slice (some ⟨g8,0,none⟩) (k+3) c8,m)) rfl rfl (World.news_of_block (cs:=(klV (.slice a k cp,.slice (some ⟨g6,0,none⟩) (k+1) c6,.slice (some ⟨g7,0,none⟩) (k+2) c7,.slice (some ⟨g8,0,none⟩) (k+3) c8,m)).toArray) (a0p Z3 _)) (by simp[klV,Value.oneCell']) (by omega) (by unfold maxLen;omega) (by omega) (zN _) (Z3.heap.size+1) (by simp) ?_;intro g9 c9 w9 o9 hgrow at9 hlt9;have k9:Off ((Value.slice ra X2.length rc).ownBlock.toList) Z3 w9:=Off.grown (((Off.refl _ Z3).alloc _).drew) hgrow (fun k hk=>.inl (by simp[hk]));have d9:=k9.cell (fun e=>hBr (by simpa using e)) d2;have f9:=(k9.frozen (fun e=>hBr (by simpa using e)) (World.block_lt_of_cell? _ _ d2)).trans fB))
   all_goals
    go_wp2_with fail
    (try simp only[Exit.inBlock,Exit.then]);refine bodyPost_end (results_none rfl _ _ _) rfl ?_
    refine⟨rfl,HB.out.kept2 B3.out T3.out hn HR3.out (Nat.le_trans HW.out.size HO.out.2.size) HK.out k9 o9 (fun b hb=>by
     simp[Value.ownBlock] at hb;subst hb
     exact at9.imp id (fun e=>by omega))⟩
variable {w:World}{B:Nat}{v0 v1 r1 r2 r3:Value}{K:List Nat}{X1 X2 X3:List KL}
theorem e4K:(Tryz.prog.info? tE).map (fun i=>(i.zero,i.size,i.bytes))=some (some (.agg #[.slice none 0 0,.slice none 0 0,.slice none 0 0,.slice none 0 0,.int .i64 0]),5,104):=by kernel_rfl
theorem f1S:(Tryz.prog.info? 58).map (fun i=>(i.zero,i.size,i.bytes))=some (some (.agg #[.int .i64 0,.int .i64 0,.string ⟨#[]⟩,.int .i64 0,.slice none 0 0,.int .i64 0]),6,72):=by kernel_rfl
theorem g4q(hk:k*6+5<xs.length):((((((rp (e0j m) k++xs.drop (k*6)).set (k*6) (.int .i64 m)).set (k*6+1) (.int .i64 0)).set (k*6+2) (.string ⟨#[]⟩)).set (k*6+3) (.int .i64 m)).set (k*6+4) (.slice none 0 0)).set (k*6+5) (.int .i64 0)=rp (e0j m) (k+1)++xs.drop ((k+1)*6):=by
 have hl:(rp (e0j m) k).length=k*6:=by rw[d4O];simp
 have e2:(k+1)*6=k*6+1+1+1+1+1+1:=by omega
 rw[List.drop_eq_getElem_cons (show k*6<xs.length by omega),List.drop_eq_getElem_cons (show k*6+1<xs.length by omega),List.drop_eq_getElem_cons (show k*6+1+1<xs.length by omega),List.drop_eq_getElem_cons (show k*6+1+1+1<xs.length by omega),List.drop_eq_getElem_cons (show k*6+1+1+1+1<xs.length by omega),List.drop_eq_getElem_cons (show k*6+1+1+1+1+1<xs.length by omega),e6y,List.append_assoc,e2];generalize rp (e0j m) k=A at *
 subst_vars
 simp only[<- hl,List.set_append,Nat.lt_irrefl,if_false,Nat.sub_self,Nat.not_lt_of_le (Nat.le_add_right _ _),Nat.add_sub_cancel_left];rfl
theorem BK.kept3{b:Value}{e:TypeId}(h:BK w B v0 v1 K r1 r2 r3 X1 X2 X3)(h3:BK Z3 B v0 v1 K r1 r2 r3 X1 X2 X3)(hT:KF (e0j m) e wr Z3 l n Q o [(c,n+3),(b,n+2),(a,n+1),(l,n)])(hn:n<=900000)(R3:Off l.ownBlock.toList w Z3)(hw:w.heap.size<=wr.heap.size)(hlK:∀ b,l.ownBlock=some b->b ∉ K/\b ∉ bkB B r1 r2 r3)
  (k9:Off r3.ownBlock.toList Z3 w9) (o9:w9.ownsRow 0 tE 5 r' (X3.length+1) (X3.flatMap klV++klV (l,a,b,c,m))) (hat:g2M Z3 r3 r'):e5M w B v0 v1 K r1 r2 r3 l (X1.length+X2.length+X3.length) (w9.setCell ⟨B,4,none⟩ r') :=
 BK.kept hT R3 hw (by simp;omega) (fun q hq=>by
  simp only[bkB,List.mem_cons,List.mem_append,Option.mem_toList] at hq ⊢;rcases hq with rfl|hq|hq|hq
  ·exact .inl (.inl rfl)
  ·exact .inl (.inr (.inl hq))
  ·exact .inl (.inr (.inr (.inl hq)))
  ·exact (hat q hq).imp (fun e=>.inr (.inr (.inr e))) id) (h3.add3 (hT.k4 (P:=e0j) hn) (h.apart hT hw hlK) k9 o9 hat)
theorem d8E(h:BK w B v0 v1 K r1 r2 r3 X1 X2 X3)(h1:X1.length<=1000000000)(h2:X2.length<=1000000000)(h3:X3.length<=1000000000)(hl:w.ownsRow 0 58 6 l n xs)(hn:n<=900000)(hlK:∀ b,l.ownBlock=some b->b ∉ K/\b ∉ bkB B r1 r2 r3):
  Calls Tryz.prog 122 #[.pointer (some ⟨B,2,none⟩),l] w fun e w'=>e=.returned (.tuple #[])/\e5M w B v0 v1 K r1 r2 r3 l (X1.length+X2.length+X3.length) w':=by
 obtain⟨i0,hi0,hz0,hz1,hz2⟩:=info_parts f1S;obtain⟨j0,hj0,jz0,jz1,jz2⟩:=info_parts e4K;obtain⟨a,cp,rfl⟩:=c9y hl;have HB:=a0b h;have HL:=a0b hl;have HK:=a0b hlK;have HLT:=a0b (fun b (hb:(Value.slice a n cp).ownBlock=some b)=>c7O hl hb);have hxl:xs.length=n*6:=hl.1;clear h hl hlK
 go_enter Tryz.func122,Tryz.ntmps122
 go_upto_region 3 with (first|(go_at_call 184;refine (e1W HB.out h1 h2 h3).mono ?_;rintro e w1 ⟨rfl,hb⟩;have H1:=a0b hb;clear hb))
 generalize hmm:f8N X1 X2 X3=m;change Code.wp _ _ _ _ (w1.alloc (.cells #[.int .i64 m,.int .i64 0,.string ⟨#[]⟩,.int .i64 m,.slice none 0 0,.int .i64 0] 58));have HW:=a0b (a0j H1.out ((zr _ w1).alloc (zq _) (.cells #[.int .i64 m,.int .i64 0,.string ⟨#[]⟩,.int .i64 m,.slice none 0 0,.int .i64 0] 58)) (zq _));have hS:w1.heap.size ∉ (Value.slice a n cp).ownBlock.toList:=fun e=>by have:=HLT.out _ (by simpa using e);have:=H1.out.size;omega
 have BX:Hid (∀ Z,Off (Value.slice a n cp).ownBlock.toList (w1.alloc (.cells #[.int .i64 m,.int .i64 0,.string ⟨#[]⟩,.int .i64 m,.slice none 0 0,.int .i64 0] 58)) Z->Z.cell? ⟨w1.heap.size,0,none⟩=some (.int .i64 m)/\Z.cell? ⟨w1.heap.size,1,none⟩=some (.int .i64 0)/\Z.cell? ⟨w1.heap.size,2,none⟩=some (.string ⟨#[]⟩)/\Z.cell? ⟨w1.heap.size,3,none⟩=some (.int .i64 m)/\Z.cell? ⟨w1.heap.size,4,none⟩=some (.slice none 0 0)/\Z.cell? ⟨w1.heap.size,5,none⟩=some (.int .i64 0)):=fun Z k=>⟨k.cell hS (d0h (a0p w1 _) 0 rfl),k.cell hS (d0h (a0p w1 _) 1 rfl),k.cell hS (d0h (a0p w1 _) 2 rfl),k.cell hS (d0h (a0p w1 _) 3 rfl),k.cell hS (d0h (a0p w1 _) 4 rfl),k.cell hS (d0h (a0p w1 _) 5 rfl)⟩
 clear hS;generalize w1.alloc (.cells #[.int .i64 m,.int .i64 0,.string ⟨#[]⟩,.int .i64 m,.slice none 0 0,.int .i64 0] 58)=W1 at HW BX ⊢;generalize w1.heap.size=S at BX ⊢;have HL1:=a0b (a1g HL.out HW.out)
 go_loopw [6] (fun v wr=>∃ k:Nat,k<=n/\v=.int .i64 k/\wr.ownsRow 0 58 6 (.slice a n cp) n (rp (e0j m) k++xs.drop (k*6))/\Off (Value.slice a n cp).ownBlock.toList W1 wr) (fun v _=>n-(intOf v).toNat)
 case atStart=>exact⟨0,Nat.zero_le _,rfl,by simpa[e6x] using HL1.out,Off.refl _ _⟩
 case round =>
  obtain⟨k,hk,rfl,hown,hof⟩:=hrel;have HO:=a0b (zA hown hof)
  by_cases hlt:k<n
  ·have hlt':(k:Int)<(n:Int):=by omega
   obtain⟨y0,y1,y2,y3,y4,y5⟩:=BX.out _ hof;have hlen:(rp (e0j m) k++xs.drop (k*6)).length=n*6:=by rw[List.length_append,d4O,List.length_drop];simp;omega
   obtain⟨g,cap,u,e,c0,fz⟩:=d1o hown (k:=k*6) (by omega);obtain⟨g',cap',u1,e',c1,_⟩:=d1o hown (k:=k*6+1) (by omega);rw[e] at e';simp only[Value.slice.injEq,Option.some.injEq,Addr.mk.injEq,and_true,true_and] at e';obtain⟨rfl,rfl⟩:=e';obtain⟨g',cap',u2,e',c2,_⟩:=d1o hown (k:=k*6+2) (by omega);rw[e] at e';simp only[Value.slice.injEq,Option.some.injEq,Addr.mk.injEq,and_true,true_and] at e';obtain⟨rfl,rfl⟩:=e';obtain⟨g',cap',u3,e',c3,_⟩:=d1o hown (k:=k*6+3) (by omega);rw[e] at e';simp only[Value.slice.injEq,Option.some.injEq,Addr.mk.injEq,and_true,true_and] at e';obtain⟨rfl,rfl⟩:=e';obtain⟨g',cap',u4,e',c4,_⟩:=d1o hown (k:=k*6+4) (by omega);rw[e] at e';simp only[Value.slice.injEq,Option.some.injEq,Addr.mk.injEq,and_true,true_and] at e';obtain⟨rfl,rfl⟩:=e';obtain⟨g',cap',u5,e',c5,_⟩:=d1o hown (k:=k*6+5) (by omega);rw[e] at e';simp only[Value.slice.injEq,Option.some.injEq,Addr.mk.injEq,and_true,true_and] at e';obtain⟨rfl,rfl⟩:=e';simp only[Value.slice.injEq,true_and] at e;obtain⟨rfl,rfl⟩:=e;have f0:=fz (k*6);have f1:=fz (k*6+1);have f2:=fz (k*6+2);have f3:=fz (k*6+3);have f4:=fz (k*6+4);have f5:=fz (k*6+5);clear hown hof
   go_wp2_with fail
   go_roundw
   case rel =>
    refine⟨k+1,by omega,by go_num,?_,(((((HO.out.2.setCell (.inl (by simp[Value.ownBlock])) _ _).setCell (.inl (by simp[Value.ownBlock])) _ _).setCell (.inl (by simp[Value.ownBlock])) _ _).setCell (.inl (by simp[Value.ownBlock])) _ _).setCell (.inl (by simp[Value.ownBlock])) _ _).setCell (.inl (by simp[Value.ownBlock])) _ _⟩;have:=(d1L (d1L (d1L (d1L (d1L (d1L HO.out.1 (b:=g) rfl (k*6) (.int .i64 m)) (b:=g) rfl (k*6+1) (.int .i64 0)) (b:=g) rfl (k*6+2) (.string ⟨#[]⟩)) (b:=g) rfl (k*6+3) (.int .i64 m)) (b:=g) rfl (k*6+4) (.slice none 0 0)) (b:=g) rfl (k*6+5) (.int .i64 0));rw[g4q (by omega)] at this;exact this
   case measure=>simp[intOf];omega
  ·have hlt':¬ (k:Int)<(n:Int):=by omega
   have hkn:k=n:=by omega
   subst hkn
   have HR:Hid (wr.ownsRow 0 58 6 (.slice a k cp) k (rp (e0j m) k)):=by
    have:=HO.out.1;rw[List.drop_eq_nil_of_le (by omega),List.append_nil] at this;exact this
   clear hown hof;obtain⟨y0,y1,y2,y3,y4,y5⟩:=BX.out _ HO.out.2
   go_upto_region 7 with fail
   change Code.wp _ _ _ _ (wr.alloc (.cells #[.slice a k cp,.slice none 0 0,.slice none 0 0,.slice none 0 0,.int .i64 m] tE))
   have S0:Hid (KS (e0j m) 58 wr (wr.alloc (.cells #[.slice a k cp,.slice none 0 0,.slice none 0 0,.slice none 0 0,.int .i64 m] tE)) (.slice a k cp) k wr.heap.size (.cells #[.slice a k cp,.slice none 0 0,.slice none 0 0,.slice none 0 0,.int .i64 m] tE)) :=
    ⟨HR.out.alloc _,a0p _ _,Nat.le_refl _,(Off.refl _ _).alloc _,fun b hb=>c7O HR.out hb⟩
   have T0:Hid (KF (e0j m) 58 wr (wr.alloc (.cells #[.slice a k cp,.slice none 0 0,.slice none 0 0,.slice none 0 0,.int .i64 m] tE)) (.slice a k cp) k wr.heap.size (.cells #[.slice a k cp,.slice none 0 0,.slice none 0 0,.slice none 0 0,.int .i64 m] tE) [(.slice a k cp,k)]) :=
    ⟨S0.out,fun p hp=>by
     rw[List.mem_singleton.1 hp]
     exact⟨Fu.of_own S0.out.own,fun b hb=>⟨by have:=S0.out.lt b hb;omega,c7O S0.out.own hb,.inl hb⟩⟩⟩
   clear S0;generalize wr.alloc (.cells #[.slice a k cp,.slice none 0 0,.slice none 0 0,.slice none 0 0,.int .i64 m] tE)=Z0 at T0 ⊢;obtain⟨y0,y1,y2,y3,y4,y5⟩:=BX.out _ (HO.out.2.trans T0.out.ks.off)
   go_upto_region 8 with (first|(at_builtin;go_loud (refine d6c rfl _ _ 34 rfl (e0j m) 72 Tryz.underlying34 hi0 hz0 hz1 hz2 (by decide) rfl (by simp) (by simp[Value.oneCell']) T0.out.ks.own (m:=1) (cs:=#[.int .i64 m,.int .i64 0,.string ⟨#[]⟩,.int .i64 m,.slice none 0 0,.int .i64 0]) (by simp[rp]) (by decide) (by decide) rfl rfl (by omega) (zN _) ?_);intro g6 c6 w6 o6 ol6 f6 k6 at6;have q6:=d0h (T0.out.ks.at_ k6).1 1 rfl;have z6:=(T0.out.ks.at_ k6).2 1))
   have T1:=a0b (T0.out.put o6 ol6 f6 k6 at6 (by simp) 1);generalize w6.setCell ⟨wr.heap.size,1,none⟩ (.slice (some ⟨g6,0,none⟩) (k+1) c6)=Z1 at T1 ⊢;clear y0 y1 y2 y3 y4 y5 o6 ol6 f6 k6 at6 q6 z6 T0;obtain⟨y0,y1,y2,y3,y4,y5⟩:=BX.out _ (HO.out.2.trans T1.out.ks.off)
   go_upto_region 9 with (first|(at_builtin;go_loud (refine d6c rfl _ _ 34 rfl (e0j m) 72 Tryz.underlying34 hi0 hz0 hz1 hz2 (by decide) rfl (by simp) (by simp[Value.oneCell']) T1.out.ks.own (m:=2) (cs:=#[.int .i64 m,.int .i64 0,.string ⟨#[]⟩,.int .i64 m,.slice none 0 0,.int .i64 0,.int .i64 m,.int .i64 0,.string ⟨#[]⟩,.int .i64 m,.slice none 0 0,.int .i64 0]) (by simp[rp]) (by decide) (by decide) rfl rfl (by omega) (zN _) ?_);intro g7 c7 w7 o7 ol7 f7 k7 at7;have q7:=d0h (T1.out.ks.at_ k7).1 2 rfl;have z7:=(T1.out.ks.at_ k7).2 2))
   have T2:=a0b (T1.out.put o7 ol7 f7 k7 at7 (by simp) 2);generalize w7.setCell ⟨wr.heap.size,2,none⟩ (.slice (some ⟨g7,0,none⟩) (k+2) c7)=Z2 at T2 ⊢;clear y0 y1 y2 y3 y4 y5 o7 ol7 f7 k7 at7 q7 z7 T1;obtain⟨y0,y1,y2,y3,y4,y5⟩:=BX.out _ (HO.out.2.trans T2.out.ks.off)
   go_upto_region 10 with (first|(at_builtin;go_loud (refine d6c rfl _ _ 34 rfl (e0j m) 72 Tryz.underlying34 hi0 hz0 hz1 hz2 (by decide) rfl (by simp) (by simp[Value.oneCell']) T2.out.ks.own (m:=3) (cs:=#[.int .i64 m,.int .i64 0,.string ⟨#[]⟩,.int .i64 m,.slice none 0 0,.int .i64 0,.int .i64 m,.int .i64 0,.string ⟨#[]⟩,.int .i64 m,.slice none 0 0,.int .i64 0,.int .i64 m,.int .i64 0,.string ⟨#[]⟩,.int .i64 m,.slice none 0 0,.int .i64 0]) (by simp[rp]) (by decide) (by decide) rfl rfl (by omega) (zN _) ?_);intro g8 c8 w8 o8 ol8 f8 k8 at8;have q8:=d0h (T2.out.ks.at_ k8).1 3 rfl;have z8:=(T2.out.ks.at_ k8).2 3))
   have T3:=a0b (T2.out.put o8 ol8 f8 k8 at8 (by simp) 3);generalize w8.setCell ⟨wr.heap.size,3,none⟩ (.slice (some ⟨g8,0,none⟩) (k+3) c8)=Z3 at T3 ⊢;clear y0 y1 y2 y3 y4 y5 o8 ol8 f8 k8 at8 q8 z8 T2;have R3:Off (Value.slice a k cp).ownBlock.toList w Z3:=(Off.of_below HW.out).trans (HO.out.2.trans T3.out.ks.off);have HLK:=a0b (fun b (hb:b∈(Value.slice a k cp).ownBlock.toList)=>HK.out b (by simpa using hb));have B3:=a0b (HB.out.off R3 (fun b hb e=>(HLK.out b e).2 hb) (fun b hb e=>(HLK.out b e).1 hb));have HR3:=a0b R3;obtain⟨_,_,_,_,d2,fzB⟩:=B3.out.cells;obtain⟨_,_,ra,rc,er⟩:=B3.out.forms;subst er;have fB:=fzB 4;have s0:=d0h T3.out.ks.hq 0 rfl;have s1:=d0h T3.out.ks.hq 1 rfl;have s2:=d0h T3.out.ks.hq 2 rfl;have s3:=d0h T3.out.ks.hq 3 rfl;have s4:=d0h T3.out.ks.hq 4 rfl;have d2A:∀ o,(Z3.alloc o).cell? ⟨B,4,none⟩=some (.slice ra X3.length rc):=fun o=>a0a ((zr _ Z3).alloc (zq _) o) d2
   have DD:=a0b (fun o=>a1g B3.out.br.b3.own (((zr _ Z3).alloc (zq _) o).drew));have hBr:(Value.slice ra X3.length rc).ownBlock≠some B:=c8L B3.out.br.b3.own B3.out.hb (by decide);clear R3 fzB
   go_region_law (first
    |(refine step_append_lies _ rfl _ _ 82 rfl 0 tE j0 _ 5 104 Tryz.underlying82 hj0 jz0 jz1 jz2 rfl (by decide) (.slice ra X3.length rc) X3.length (X3.flatMap klV) rfl (DD.out _) ⟨Z3.heap.size,0,none⟩ 1 1 (klV (.slice a k cp,.slice (some ⟨g6,0,none⟩) (k+1) c6,.slice (some ⟨g7,0,none⟩) (k+2) c7,.slice (some ⟨g8,0,none⟩) (k+3) c8,m)) rfl rfl (World.news_of_block (cs:=(klV (.slice a k cp,.slice (some ⟨g6,0,none⟩) (k+1) c6,.slice (some ⟨g7,0,none⟩) (k+2) c7,.slice (some ⟨g8,0,none⟩) (k+3) c8,m)).toArray) (a0p Z3 _)) (by simp[klV,Value.oneCell']) (by omega) (by unfold maxLen;omega) (by omega) (zN _) (Z3.heap.size+1) (by simp) ?_;intro g9 c9 w9 o9 hgrow at9 hlt9;have k9:Off ((Value.slice ra X3.length rc).ownBlock.toList) Z3 w9:=Off.grown (((Off.refl _ Z3).alloc _).drew) hgrow (fun k hk=>.inl (by simp[hk]));have d9:=k9.cell (fun e=>hBr (by simpa using e)) d2;have f9:=(k9.frozen (fun e=>hBr (by simpa using e)) (World.block_lt_of_cell? _ _ d2)).trans fB))
   all_goals
    go_wp2_with fail
    (try simp only[Exit.inBlock,Exit.then]);refine bodyPost_end (results_none rfl _ _ _) rfl ?_
    refine⟨rfl,HB.out.kept3 B3.out T3.out hn HR3.out (Nat.le_trans HW.out.size HO.out.2.size) HK.out k9 o9 (fun b hb=>by
     simp[Value.ownBlock] at hb;subst hb
     exact at9.imp id (fun e=>by omega))⟩
open Desk (Ent)
variable {w w1 w2:World}{B:Nat}{v0 v1 r1 r2 r3 q1 q2 q3:Value}{K K1 L:List Nat}{X1 X2 X3 Y1 Y2 Y3:List KL}{m:Nat}
structure KBk(w:World)(B:Nat)(v0 v1:Value)(K:List Nat)(r1 r2 r3:Value)(L:List Nat)(m:Nat)(w1:World)(K1:List Nat)(q1 q2 q3:Value)(Y1 Y2 Y3:List KL):Prop where
 bk:BK w1 B v0 v1 K1 q1 q2 q3 Y1 Y2 Y3
 len:Y1.length+Y2.length+Y3.length=m
 off:Off (L++bkB B r1 r2 r3) w w1
 kk:∀ b∈K1,b∈K\/b∈L\/w.heap.size<=b
 rr:∀ b∈bkB B q1 q2 q3,b∈bkB B r1 r2 r3\/w.heap.size<=b
theorem KBk.refl(h:BK w B v0 v1 K r1 r2 r3 X1 X2 X3):KBk w B v0 v1 K r1 r2 r3 [] (X1.length+X2.length+X3.length) w K r1 r2 r3 X1 X2 X3:=⟨h,rfl,Off.refl _ _,fun _ hb=>.inl hb,fun _ hb=>.inl hb⟩
theorem KBk.step(h:KBk w B v0 v1 K r1 r2 r3 L m w1 K1 q1 q2 q3 Y1 Y2 Y3)(k:e5M w1 B v0 v1 K1 q1 q2 q3 l (Y1.length+Y2.length+Y3.length) w2):∃ K2 p1 p2 p3 Z1 Z2 Z3,KBk w B v0 v1 K r1 r2 r3 (L++l.ownBlock.toList) (m+1) w2 K2 p1 p2 p3 Z1 Z2 Z3:=by
 obtain⟨K2,p1,p2,p3,Z1,Z2,Z3,k1,k2,k3,k4,k5⟩:=k;have hs:=h.off.size;refine⟨K2,p1,p2,p3,Z1,Z2,Z3,k1,by rw[k2,h.len],?_,fun b hb=>?_,fun b hb=>?_⟩
 ·refine (h.off.mono fun x hx=>?_).trans' k3 fun x hx=>?_
  ·rcases List.mem_append.1 hx with hx|hx
   ·exact List.mem_append_left _ (List.mem_append_left _ hx)
   ·exact List.mem_append_right _ hx
  ·rcases List.mem_append.1 hx with hx|hx
   ·exact .inl (List.mem_append_left _ (List.mem_append_right _ hx))
   ·exact (h.rr x hx).imp (fun e=>List.mem_append_right _ e) id
 ·rcases k4 b hb with e|e|e
  ·rcases h.kk b e with e|e|e
   ·exact .inl e
   ·exact .inr (.inl (List.mem_append_left _ e))
   ·exact .inr (.inr e)
  ·exact .inr (.inl (List.mem_append_right _ (by simpa using e)))
  ·exact .inr (.inr (by omega))
 ·rcases k5 b hb with e|e
  ·exact h.rr b e
  ·exact .inr (by omega)
theorem KBk.free(h:KBk w B v0 v1 K r1 r2 r3 L m w1 K1 q1 q2 q3 Y1 Y2 Y3)(hl:∀ b,l.ownBlock=some b->b<w.heap.size/\b ∉ K/\b ∉ bkB B r1 r2 r3/\b ∉ L):∀ b,l.ownBlock=some b->b ∉ K1/\b ∉ bkB B q1 q2 q3:=fun b hb=>by
 obtain⟨h1,h2,h3,h4⟩:=hl b hb;refine⟨fun e=>?_,fun e=>?_⟩
 ·rcases h.kk b e with e|e|e
  ·exact h2 e
  ·exact h4 e
  ·omega
 ·rcases h.rr b e with e|e
  ·exact h3 e
  ·omega
theorem KBk.own(h:KBk w B v0 v1 K r1 r2 r3 L m w1 K1 q1 q2 q3 Y1 Y2 Y3)(ho:w.ownsRow 0 t z l n xs)(hl:∀ b,l.ownBlock=some b->b<w.heap.size/\b ∉ K/\b ∉ bkB B r1 r2 r3/\b ∉ L):w1.ownsRow 0 t z l n xs :=
 a1i ho h.off fun b hb e=>by
  rcases List.mem_append.1 e with e|e
  ·exact (hl b hb).2.2.2 e
  ·exact (hl b hb).2.2.1 e
theorem KBk.len3(h:KBk w B v0 v1 K r1 r2 r3 L m w1 K1 q1 q2 q3 Y1 Y2 Y3)(hm:m<=1000000000):Y1.length<=1000000000/\Y2.length<=1000000000/\Y3.length<=1000000000:=by
 have:=h.len;omega
structure d9C(w:World)(K:List Nat)(N:List Nat)(u1 u2 u3 u4:Value)(l:List (Ent × Value))(d g e:List Int):Prop where
 en:w.ownsRow 0 58 6 u1 l.length (l.flatMap a1f)
 sp:∀ p∈l,w.ownsRow 0 60 2 p.2 p.1.a0e.length (p.1.a0e.flatMap spV)
 da:w.ownsRow 0 3 1 u2 d.length (d.map (Value.int .i64))
 gr:w.ownsRow 0 3 1 u3 g.length (g.map (Value.int .i64))
 ed:w.ownsRow 0 3 1 u4 e.length (e.map (Value.int .i64))
 pw:l.Pairwise fun p q=>∀ b,p.2.ownBlock=some b->q.2.ownBlock≠some b
 dg:∀ b,u2.ownBlock=some b->u3.ownBlock≠some b/\u4.ownBlock≠some b
 ge:∀ b,u3.ownBlock=some b->u4.ownBlock≠some b
 no:∀ b,(u1.ownBlock=some b\/u2.ownBlock=some b\/u3.ownBlock=some b\/u4.ownBlock=some b\/∃ p∈l,p.2.ownBlock=some b)->b ∉ K/\b ∉ N
def spB(l:List (Ent × Value)):List Nat:=l.flatMap fun p=>p.2.ownBlock.toList
def rlB(u1 u2 u3 u4:Value)(l:List (Ent × Value)):List Nat:=spB l++u1.ownBlock.toList++u2.ownBlock.toList++u3.ownBlock.toList++u4.ownBlock.toList
theorem d8h{l:List (Ent × Value)}(h:b∈spB l):∃ p∈l,p.2.ownBlock=some b:=by
 obtain⟨p,hp,hb⟩:=List.mem_flatMap.1 h;exact⟨p,hp,by simpa using hb⟩
theorem g1i{l:List (Ent × Value)}(hk:k<l.length):(l.flatMap a1f)[k*6+4]?=some (l[k]).2:=by
 induction l generalizing k with
 |nil=>simp at hk
 |cons a r ih =>
  cases k with
  |zero=>simp[a1f]
  |succ k =>
   have:=ih (k:=k) (by simpa using hk);rw[List.flatMap_cons,List.getElem?_append_right (by simp[a1f];omega)];simp only[a1f,List.length_cons,List.length_nil,List.getElem_cons_succ];rw[<- this]
   congr 1
   omega
section
variable {u1 u2 u3 u4:Value}{l:List (Ent × Value)}{d g e:List Int}
theorem d9C.spf(h:d9C w K (bkB B r1 r2 r3) u1 u2 u3 u4 l d g e)(hk:k<l.length):∀ b,(l[k]).2.ownBlock=some b->b<w.heap.size/\b ∉ K/\b ∉ bkB B r1 r2 r3/\b ∉ spB (l.take k):=fun b hb=>by
 have hm:=zg hk;obtain⟨n1,n2⟩:=h.no b (.inr (.inr (.inr (.inr ⟨_,hm,hb⟩))));refine⟨c7O (h.sp _ hm) hb,n1,n2,fun hx=>?_⟩;obtain⟨p,hp,hpb⟩:=d8h hx;obtain⟨i,hi,rfl⟩:=List.mem_iff_getElem.1 hp;rw[List.length_take] at hi;rw[List.getElem_take] at hpb;exact List.pairwise_iff_getElem.1 h.pw i k (by omega) hk (by omega) b hpb hb
theorem d9C.enf(h:d9C w K (bkB B r1 r2 r3) u1 u2 u3 u4 l d g e):∀ b,u1.ownBlock=some b->b<w.heap.size/\b ∉ K/\b ∉ bkB B r1 r2 r3/\b ∉ spB l:=fun b hb=>by
 obtain⟨n1,n2⟩:=h.no b (.inl hb);refine⟨c7O h.en hb,n1,n2,fun hx=>?_⟩;obtain⟨p,hp,hpb⟩:=d8h hx;exact e1D h.en (h.sp p hp) (by decide) hb hpb
theorem d9C.spI(h:d9C w K (bkB B r1 r2 r3) u1 u2 u3 u4 l d g e)(ho:w.ownsRow 0 3 1 u n xs)(hb:u.ownBlock=some b):b ∉ spB l++u1.ownBlock.toList:=fun hx=>by
 rcases List.mem_append.1 hx with hx|hx
 ·obtain⟨p,hp,hpb⟩:=d8h hx;exact e1D ho (h.sp p hp) (by decide) hb hpb
 ·exact e1D ho h.en (by decide) hb (by simpa using hx)
theorem d9C.daf(h:d9C w K (bkB B r1 r2 r3) u1 u2 u3 u4 l d g e):∀ b,u2.ownBlock=some b->b<w.heap.size/\b ∉ K/\b ∉ bkB B r1 r2 r3/\b ∉ spB l++u1.ownBlock.toList:=fun b hb=>by
 obtain⟨n1,n2⟩:=h.no b (.inr (.inl hb));exact⟨c7O h.da hb,n1,n2,h.spI h.da hb⟩
theorem d9C.grf(h:d9C w K (bkB B r1 r2 r3) u1 u2 u3 u4 l d g e):∀ b,u3.ownBlock=some b->b<w.heap.size/\b ∉ K/\b ∉ bkB B r1 r2 r3/\b ∉ spB l++u1.ownBlock.toList++u2.ownBlock.toList:=fun b hb=>by
 obtain⟨n1,n2⟩:=h.no b (.inr (.inr (.inl hb)));refine⟨c7O h.gr hb,n1,n2,fun hx=>?_⟩;rcases List.mem_append.1 hx with hx|hx
 ·exact h.spI h.gr hb hx
 ·exact (h.dg b (by simpa using hx)).1 hb
theorem d9C.edf(h:d9C w K (bkB B r1 r2 r3) u1 u2 u3 u4 l d g e):∀ b,u4.ownBlock=some b->b<w.heap.size/\b ∉ K/\b ∉ bkB B r1 r2 r3/\b ∉ spB l++u1.ownBlock.toList++u2.ownBlock.toList++u3.ownBlock.toList:=fun b hb=>by
 obtain⟨n1,n2⟩:=h.no b (.inr (.inr (.inr (.inl hb))));refine⟨c7O h.ed hb,n1,n2,fun hx=>?_⟩;rcases List.mem_append.1 hx with hx|hx
 ·rcases List.mem_append.1 hx with hx|hx
  ·exact h.spI h.ed hb hx
  ·exact (h.dg b (by simpa using hx)).2 hb
 ·exact h.ge b (by simpa using hx) hb
theorem d9C.later(h:d9C w K L u1 u2 u3 u4 l d g e)(k:Below w.heap.size w w1):d9C w1 K L u1 u2 u3 u4 l d g e :=
 ⟨a1g h.en k,fun p hp=>a1g (h.sp p hp) k,a1g h.da k,a1g h.gr k,a1g h.ed k,h.pw,h.dg,h.ge,h.no⟩
theorem d9C.lt(h:d9C w K L u1 u2 u3 u4 l d g e):∀ b∈rlB u1 u2 u3 u4 l,b<w.heap.size:=fun b hb=>by
 simp only[rlB,List.mem_append,Option.mem_toList] at hb;rcases hb with (((hb|hb)|hb)|hb)|hb
 ·obtain⟨p,hp,hpb⟩:=d8h hb;exact c7O (h.sp p hp) hpb
 ·exact c7O h.en hb
 ·exact c7O h.da hb
 ·exact c7O h.gr hb
 ·exact c7O h.ed hb
theorem e4k{W:World}{b0:Nat}(h:W.ownsRow b0 t z v n xs)(hk:xs[k]?=some u):∃ g cap,v=.slice (some ⟨g,0,none⟩) n cap/\W.cell? ⟨g,k,none⟩=some u:=by
 rcases h.2 with ⟨rfl,rfl⟩|⟨g,cap,cur,rfl,_,hh,_⟩
 ·have:=h.1;rw[Nat.zero_mul,List.length_eq_zero_iff] at this;simp[this] at hk
 ·exact⟨g,cap,rfl,(f6U g k) ▸ h.cells (g:=g) rfl k u hk⟩
theorem f8d{l:List (Ent × Value)}(hk:k<l.length):spB (l.take (k+1))=spB (l.take k)++(l[k]).2.ownBlock.toList:=by
 unfold spB;rw[List.take_succ_eq_append_getElem hk,List.flatMap_append];simp
theorem f3I{l:List (Ent × Value)}(h:b∈spB (l.take k)):b∈spB l:=by
 obtain⟨p,hp,hb⟩:=List.mem_flatMap.1 h;exact List.mem_flatMap.2 ⟨p,List.mem_of_mem_take hp,hb⟩
def d9E(er at_ n:Int)(u1 u2 u3 u4:Value):Obj:=.cells #[.int .i64 er,.int .i64 at_,.int .i64 n,u1,u2,u3,u4] 40 (0,0)
theorem KBk.box(h:KBk w B v0 v1 K r1 r2 r3 L m w1 K1 q1 q2 q3 Y1 Y2 Y3)(hQ:w.heap[Q]?=some o)(hL:Q ∉ L)(hB:Q ∉ bkB B r1 r2 r3):w1.heap[Q]?=some o :=
 (h.off.block Q (Array.getElem?_eq_some_iff.1 hQ).1 (fun e=>by
  rcases List.mem_append.1 e with e|e
  ·exact hL e
  ·exact hB e)).trans hQ
theorem KBk.down{X:World}(k:Below w.heap.size w X)(h:KBk X B v0 v1 K r1 r2 r3 L m w1 K1 q1 q2 q3 Y1 Y2 Y3):KBk w B v0 v1 K r1 r2 r3 L m w1 K1 q1 q2 q3 Y1 Y2 Y3 :=
 ⟨h.bk,h.len,(Off.of_below k).trans h.off,fun b hb=>(h.kk b hb).imp id (Or.imp id fun e=>Nat.le_trans k.size e),fun b hb=>(h.rr b hb).imp id fun e=>Nat.le_trans k.size e⟩
def d9T(X:World)(B:Nat)(v0 v1:Value)(K:List Nat)(r1 r2 r3:Value)(L:List Nat)(m:Nat)(wr:World):Prop:=∃ K2 p1 p2 p3 Z1 Z2 Z3,KBk X B v0 v1 K r1 r2 r3 L m wr K2 p1 p2 p3 Z1 Z2 Z3
theorem d9T.ints(h:d9T w B v0 v1 K r1 r2 r3 L m w1)(hm:m<=1000000000)(ho:w.ownsRow 0 3 1 u n xs)(hn:n<=900000)(hl:∀ b,u.ownBlock=some b->b<w.heap.size/\b ∉ K/\b ∉ bkB B r1 r2 r3/\b ∉ L):
  Calls Tryz.prog 123 #[.pointer (some ⟨B,2,none⟩),u] w1 fun e w'=>e=.returned (.tuple #[])/\d9T w B v0 v1 K r1 r2 r3 (L++u.ownBlock.toList) (m+1) w':=by
 obtain⟨K1,q1,q2,q3,Y1,Y2,Y3,k⟩:=h;obtain⟨y1,y2,y3⟩:=k.len3 hm;refine (e4A k.bk y1 y2 y3 (k.own ho hl) hn (k.free hl)).mono ?_;rintro e w2 ⟨rfl,h2⟩;exact⟨rfl,k.step h2⟩
theorem d9T.a0e(h:d9T w B v0 v1 K r1 r2 r3 L m w1)(hm:m<=1000000000)(ho:w.ownsRow 0 60 2 u n xs)(hn:n<=900000)(hl:∀ b,u.ownBlock=some b->b<w.heap.size/\b ∉ K/\b ∉ bkB B r1 r2 r3/\b ∉ L):
  Calls Tryz.prog 121 #[.pointer (some ⟨B,2,none⟩),u] w1 fun e w'=>e=.returned (.tuple #[])/\d9T w B v0 v1 K r1 r2 r3 (L++u.ownBlock.toList) (m+1) w':=by
 obtain⟨K1,q1,q2,q3,Y1,Y2,Y3,k⟩:=h;obtain⟨y1,y2,y3⟩:=k.len3 hm;refine (e2e k.bk y1 y2 y3 (k.own ho hl) hn (k.free hl)).mono ?_;rintro e w2 ⟨rfl,h2⟩;exact⟨rfl,k.step h2⟩
theorem d9T.entries(h:d9T w B v0 v1 K r1 r2 r3 L m w1)(hm:m<=1000000000)(ho:w.ownsRow 0 58 6 u n xs)(hn:n<=900000)(hl:∀ b,u.ownBlock=some b->b<w.heap.size/\b ∉ K/\b ∉ bkB B r1 r2 r3/\b ∉ L):
  Calls Tryz.prog 122 #[.pointer (some ⟨B,2,none⟩),u] w1 fun e w'=>e=.returned (.tuple #[])/\d9T w B v0 v1 K r1 r2 r3 (L++u.ownBlock.toList) (m+1) w':=by
 obtain⟨K1,q1,q2,q3,Y1,Y2,Y3,k⟩:=h;obtain⟨y1,y2,y3⟩:=k.len3 hm;refine (d8E k.bk y1 y2 y3 (k.own ho hl) hn (k.free hl)).mono ?_;rintro e w2 ⟨rfl,h2⟩;exact⟨rfl,k.step h2⟩
theorem f8V(h:BK w B v0 v1 K r1 r2 r3 X1 X2 X3)(hm:X1.length+X2.length+X3.length+l.length+4<=1000000000)(hr:d9C w K (bkB B r1 r2 r3) u1 u2 u3 u4 l d g e)(hl:l.length<=1000)(hs:∀ p∈l,p.1.a0e.length<=900000)(hd:d.length<=900000)(hg:g.length<=900000)(he:e.length<=900000)(er at_ n:Int):
  Calls Tryz.prog 77 #[.pointer (some ⟨B,2,none⟩),a0s er at_ n u1 u2 u3 u4] w fun x w'=>x=.returned (.tuple #[])/\d9T w B v0 v1 K r1 r2 r3 (rlB u1 u2 u3 u4 l) (X1.length+X2.length+X3.length+l.length+4) w':=by
 have kW:Below w.heap.size w (w.alloc (d9E er at_ n u1 u2 u3 u4)):=(zr _ _).alloc (zq _) _;have hQ:=a0p w (d9E er at_ n u1 u2 u3 u4);obtain⟨a1,c1,rfl⟩:=c9y hr.en;obtain⟨a2,c2,rfl⟩:=c9y hr.da;obtain⟨a3,c3,rfl⟩:=c9y hr.gr;obtain⟨a4,c4,rfl⟩:=c9y hr.ed;have RW:=a0b (hr.later kW);have HS:=a0b (zA hs (zA hd (zA hg he)))
 have BX:Hid (∀ L',(∀ b∈L',b∈rlB (.slice a1 l.length c1) (.slice a2 d.length c2) (.slice a3 g.length c3) (.slice a4 e.length c4) l)->∀ m' W,d9T (w.alloc (d9E er at_ n (.slice a1 l.length c1) (.slice a2 d.length c2) (.slice a3 g.length c3) (.slice a4 e.length c4))) B v0 v1 K r1 r2 r3 L' m' W->W.cell? ⟨w.heap.size,3,none⟩=some (.slice a1 l.length c1)/\W.cell? ⟨w.heap.size,4,none⟩=some (.slice a2 d.length c2)/\W.cell? ⟨w.heap.size,5,none⟩=some (.slice a3 g.length c3)/\W.cell? ⟨w.heap.size,6,none⟩=some (.slice a4 e.length c4)):=fun L' hL m' W k=>by
  obtain⟨K1,q1,q2,q3,Y1,Y2,Y3,k⟩:=k;have hb:=k.box hQ (fun hx=>by have:=hr.lt _ (hL _ hx);omega) (fun hx=>by have:=h.lt _ hx;omega);exact⟨d0h hb 3 rfl,d0h hb 4 rfl,d0h hb 5 rfl,d0h hb 6 rfl⟩
 have G0:Hid (d9T (w.alloc (d9E er at_ n (.slice a1 l.length c1) (.slice a2 d.length c2) (.slice a3 g.length c3) (.slice a4 e.length c4))) B v0 v1 K r1 r2 r3 [] (X1.length+X2.length+X3.length) (w.alloc (d9E er at_ n (.slice a1 l.length c1) (.slice a2 d.length c2) (.slice a3 g.length c3) (.slice a4 e.length c4)))):=⟨_,_,_,_,_,_,_,KBk.refl (h.later kW)⟩;have DN:Hid (∀ L' m' W,d9T (w.alloc (d9E er at_ n (.slice a1 l.length c1) (.slice a2 d.length c2) (.slice a3 g.length c3) (.slice a4 e.length c4))) B v0 v1 K r1 r2 r3 L' m' W->d9T w B v0 v1 K r1 r2 r3 L' m' W):=fun L' m' W ⟨K1,q1,q2,q3,Y1,Y2,Y3,k⟩=>⟨K1,q1,q2,q3,Y1,Y2,Y3,k.down kW⟩
 clear kW hQ h hr hs hd hg he;simp only[a0s]
 go_enter Tryz.func77,Tryz.ntmps77
 go_upto_region 1 with fail
 change Code.wp _ _ _ _ (w.alloc (d9E er at_ n (.slice a1 l.length c1) (.slice a2 d.length c2) (.slice a3 g.length c3) (.slice a4 e.length c4)));generalize w.alloc (d9E er at_ n (.slice a1 l.length c1) (.slice a2 d.length c2) (.slice a3 g.length c3) (.slice a4 e.length c4))=X at RW BX G0 DN ⊢;generalize hM:X1.length+X2.length+X3.length=M at *
 have hL0:Hid (∀ k,∀ b∈spB (l.take k),b∈rlB (.slice a1 l.length c1) (.slice a2 d.length c2) (.slice a3 g.length c3) (.slice a4 e.length c4) l):=fun k b hb=>by
  simp only[rlB,List.mem_append];exact .inl (.inl (.inl (.inl (f3I hb))))
 go_wp2_with fail
 go_loopw [4] (fun v wr=>∃ k:Nat,k<=l.length/\v=.int .i64 k/\d9T X B v0 v1 K r1 r2 r3 (spB (l.take k)) (M+k) wr) (fun v _=>l.length-(intOf v).toNat)
 case atStart=>exact⟨0,Nat.zero_le _,rfl,by simpa[spB] using G0.out⟩
 case round =>
  obtain⟨k,hk,rfl,hkb⟩:=hrel;have HK:=a0b hkb;obtain⟨x3,_,_,_⟩:=BX.out _ (hL0.out k) _ _ hkb;clear hkb
  by_cases hlt:k<l.length
  ·have hlt':(k:Int)<(l.length:Int):=by omega
   have SP:=a0b (d9T.a0e HK.out (by omega) (RW.out.sp _ (zg hlt)) (HS.out.1 _ (zg hlt)) (RW.out.spf hlt))
   have EC:∃ g cap,(Value.slice a1 l.length c1)=.slice (some ⟨g,0,none⟩) l.length cap/\wr.cell? ⟨g,k*6+4,none⟩=some (l[k]).2:=by
    obtain⟨K1,q1,q2,q3,Y1,Y2,Y3,kk⟩:=HK.out
    exact e4k (kk.own RW.out.en fun b hb=>by
     obtain⟨y1,y2,y3,y4⟩:=RW.out.enf b hb
     exact⟨y1,y2,y3,fun hx=>y4 (f3I hx)⟩) (g1i hlt)
   obtain⟨g0,cap0,e0,y4⟩:=EC;simp only[Value.slice.injEq,true_and] at e0;obtain⟨rfl,rfl⟩:=e0
   go_wp2_with (first
    |(go_at_call 121;refine SP.out.mono ?_;rintro e w1 ⟨rfl,h1⟩;have H1:=a0b h1;clear h1))
   go_roundw
   case rel=>exact⟨k+1,by omega,by go_num,by rw[f8d hlt,<- Nat.add_assoc];exact H1.out⟩
   case measure=>simp[intOf];omega
  ·have hlt':¬ (k:Int)<(l.length:Int):=by omega
   have hkn:k=l.length:=by omega
   subst hkn;rw[List.take_length] at HK;have sub1:Hid (∀ b∈spB l++(Value.slice a1 l.length c1).ownBlock.toList,b∈rlB (.slice a1 l.length c1) (.slice a2 d.length c2) (.slice a3 g.length c3) (.slice a4 e.length c4) l):=fun b hb=>by unfold rlB;exact List.mem_append_left _ (List.mem_append_left _ (List.mem_append_left _ hb))
   have sub2:Hid (∀ b∈spB l++(Value.slice a1 l.length c1).ownBlock.toList++(Value.slice a2 d.length c2).ownBlock.toList,b∈rlB (.slice a1 l.length c1) (.slice a2 d.length c2) (.slice a3 g.length c3) (.slice a4 e.length c4) l):=fun b hb=>by unfold rlB;exact List.mem_append_left _ (List.mem_append_left _ hb)
   have sub3:Hid (∀ b∈spB l++(Value.slice a1 l.length c1).ownBlock.toList++(Value.slice a2 d.length c2).ownBlock.toList++(Value.slice a3 g.length c3).ownBlock.toList,b∈rlB (.slice a1 l.length c1) (.slice a2 d.length c2) (.slice a3 g.length c3) (.slice a4 e.length c4) l):=fun b hb=>by unfold rlB;exact List.mem_append_left _ hb
   have C1:=a0b (d9T.entries HK.out (by omega) RW.out.en (by omega) RW.out.enf)
   go_upto_region 6 with (first|(go_at_call 122;refine C1.out.mono ?_;rintro e1 w1 ⟨rfl,h1⟩;have H1:=a0b h1;clear h1))
   obtain⟨_,x4,_,_⟩:=BX.out _ sub1.out _ _ H1.out;have C2:=a0b (d9T.ints H1.out (by omega) RW.out.da HS.out.2.1 RW.out.daf);clear x3 C1
   go_upto_region 7 with (first|(go_at_call 123;refine C2.out.mono ?_;rintro e1 w2 ⟨rfl,h2⟩;have H2:=a0b h2;clear h2))
   obtain⟨_,_,x5,_⟩:=BX.out _ sub2.out _ _ H2.out;have C3:=a0b (d9T.ints H2.out (by omega) RW.out.gr HS.out.2.2.1 RW.out.grf);clear x4 C2
   go_upto_region 8 with (first|(go_at_call 123;refine C3.out.mono ?_;rintro e1 w3 ⟨rfl,h3⟩;have H3:=a0b h3;clear h3))
   obtain⟨_,_,_,x6⟩:=BX.out _ sub3.out _ _ H3.out;have C4:=a0b (d9T.ints H3.out (by omega) RW.out.ed HS.out.2.2.2 RW.out.edf);clear x5 C3
   go_wp2_with (first|(go_at_call 123;refine C4.out.mono ?_;rintro e1 w4 ⟨rfl,h4⟩;have H4:=a0b h4;clear h4))
   (try simp only[Exit.inBlock,Exit.then]);refine bodyPost_end (results_none rfl _ _ _) rfl ?_
   exact⟨rfl,by rw[hM];exact DN.out _ _ _ H4.out⟩
end
open Desk (Ent St Rep Inv)
inductive Tg
 |no|pr (i:Nat)|dc (i:Nat)|xs|ys|bk|kp
structure Dk where
 p:Nat
 d:Nat
 s:St
 r:Raw
 col:Nat->Option Col
 dd:Nat
 xs:List (Ent × Nat × Nat)
 F:List Nat
structure g3Y(w:World)(tg:Nat->Tg)(i:Nat)(k:Dk):Prop where
 bd:BD w k.p k.d k.s k.r k.col
 dd:DD w k.dd k.s k.xs k.F
 pp:tg k.p=.pr i
 pc:∀ b c,k.col b=some c->tg b=.pr i
 df:∀ b∈k.F,tg b=.dc i
 ds:∀ x∈k.xs,tg x.2.1=.dc i
structure f2L(w:World)(tg:Nat->Tg)(D:List Dk):Prop where
 at_:∀ (i:Nat) (k:Dk),D[i]?=some k->g3Y w tg i k
 env:Env w
 lt:∀ b,tg b≠.no->b<w.heap.size
 gl:∀ b,b<10->tg b=.no
variable {w w1 w2 w':World}{tg tg':Nat->Tg}{i:Nat}{k:Dk}{D:List Dk}{G:List Nat}
theorem Off.ten(h:Off G w w')(h10:10<=w.heap.size)(hG:∀ b∈G,10<=b):Below 10 w w':=⟨h.os,h.tape,h.output,h.size,fun b hb=>h.block b (by omega) fun hx=>by have:=hG b hx;omega⟩
theorem BD.off{p d:Nat}{s:St}{r:Raw}{col:Nat->Option Col}(h:BD w p d s r col)(k:Off G w w')(hG:∀ b∈G,col b=none/\b≠p)(he:Env w'):BD w' p d s r col :=
 ⟨(k.block p (Array.getElem?_eq_some_iff.1 h.pc).1 fun hx=>(hG p hx).2 rfl).trans h.pc,h.pn,⟨h.ds.dk.off k fun x hx=>(hG x hx).1,h.ds.of,h.ds.wl,h.ds.hl,h.ds.inv⟩,he,h.gl⟩
theorem g3Y.off(h:g3Y w tg i k)(ko:Off G w w')(hG:∀ b∈G,tg b≠.pr i/\tg b≠.dc i)(he:Env w')(ht:∀ b,tg b≠.no->tg' b=tg b):g3Y w' tg' i k:=by
 have e:∀ {b t},tg b=t->t≠.no->tg' b=t:=fun h1 h2=>(ht _ (by rw[h1];exact h2)).trans h1
 refine⟨h.bd.off ko (fun b hb=>⟨?_,fun eb=>(hG b hb).1 (eb ▸ h.pp)⟩) he,h.dd.off ko (fun x hx hg=>(hG x hg).2 (h.df x hx)) (fun x hx hg=>(hG _ hg).2 (h.ds x hx)),e h.pp (by simp),fun b c hb=>e (h.pc b c hb) (by simp),fun b hb=>e (h.df b hb) (by simp),fun x hx=>e (h.ds x hx) (by simp)⟩
 cases hc:k.col b with
 |none=>rfl
 |some c=>exact ((hG b hb).1 (h.pc b c hc)).elim
theorem f2L.off(h:f2L w tg D)(ko:Off G w w')(hG:∀ b∈G,(∀ i,tg b≠.pr i/\tg b≠.dc i)/\10<=b)(ht:∀ b,tg b≠.no->tg' b=tg b)(hl:∀ b,tg' b≠.no->b<w'.heap.size)(hg:∀ b,b<10->tg' b=.no):f2L w' tg' D:=by
 have he:Env w':=h.env.ten (ko.ten h.env.size fun b hb=>(hG b hb).2);exact⟨fun i k hk=>(h.at_ i k hk).off ko (fun b hb=>(hG b hb).1 i) he ht,he,hl,hg⟩
theorem f2L.later(h:f2L w tg D)(k:Below w.heap.size w w'):f2L w' tg D :=
 h.off (G:=[]) (Off.of_below k) (by simp) (fun _ _=>rfl) (fun b hb=>zL (h.lt b hb) k.size) h.gl
theorem f2L.doc(h:f2L w tg D)(hi:D[i]?=some k){q:St × Rep}(P:b5M w k.p k.d k.col q v w1):DD w1 k.dd k.s k.xs k.F:=by
 obtain⟨r',col',bd,st,_⟩:=P;obtain⟨G,ko,hG⟩:=st.off;have K:=h.at_ i k hi
 have key:∀ b,tg b=.dc i->b ∉ G:=fun b hb hx=>by
  rcases hG b hx with ⟨c,hc,_⟩|⟨_,hc⟩
  ·have:=K.pc b c hc;rw[hb] at this;cases this
  ·have:=h.lt b (by rw[hb];simp);omega
 exact K.dd.off ko (fun x hx=>key x (K.df x hx)) (fun x hx=>key _ (K.ds x hx))
open Classical in
theorem f2L.both(h:f2L w tg D)(hi:D[i]?=some k){q:St × Rep}{e:Ending}(P:b5M w k.p k.d k.col q v w1)(Q:DDo w1 k.dd k.F k.xs q e w2):
  ∃ (k':Dk) (tg':Nat->Tg),f2L w2 tg' (D.set i k')/\k'.p=k.p/\k'.dd=k.dd/\k'.s=q.1/\(∀ b,tg b≠.no->tg' b=tg b)/\(∀ b,tg' b≠.no->tg b≠.no\/w.heap.size<=b)/\(∃ G,Off G w w2/\∀ b∈G,tg b=.pr i\/tg b=.dc i\/w.heap.size<=b)/\∃ (u1 u2 u3 u4:Value) (l:List (Ent × Value)),v=a0s q.2.err q.2.at_ q.2.n u1 u2 u3 u4/\l.map (·.1)=q.2.entries/\d9C w2 [] [] u1 u2 u3 u4 l q.2.days q.2.granted q.2.ended/\∀ b∈rlB u1 u2 u3 u4 l,tg' b=.no/\w.heap.size<=b:=by
 have hdoc:=h.doc hi P;obtain⟨r',col',bd,st,u1,u2,u3,u4,l,rfl,hl,e1,e2,e3,e4,e5,e6⟩:=P;obtain⟨v1,v2,v3,v4,xs',F',_,_,_,dd,hF,kd,hx⟩:=Q;have K:=h.at_ i k hi;have hil:i<D.length:=(List.getElem?_eq_some_iff.1 hi).1;obtain⟨G,ko,hG⟩:=st.off;have s1:=ko.size;have s2:=kd.size;have h10:=h.env.size
 -- what lies in the document's desk
 have hF2:∀ b∈F',tg b=.dc i\/w1.heap.size<=b:=fun b hb=>(hF b hb).imp (K.df b) id
 have hx2:∀ x∈xs',tg x.2.1=.dc i\/w1.heap.size<=x.2.1:=fun x hxx=>by
  rcases hx x hxx with ⟨y,hy,e⟩|e
  ·exact .inl (by rw[e];exact K.ds y hy)
  ·exact .inr e
 have hc2:∀ b c,col' b=some c->tg b=.pr i\/(w.heap.size<=b/\b<w1.heap.size):=fun b c hc=>by
  rcases st.new b c hc with e|e
  ·exact .inl (K.pc b c e)
  ·refine .inr ⟨e,?_⟩;rcases Nat.lt_or_ge b w1.heap.size with e' |e'
   ·exact e'
   ·rw[bd.ds.dk.none e'] at hc;cases hc
 let tn:Nat->Tg:=fun b=>if b<w.heap.size then tg b else if col' b≠none then .pr i else if b∈F'\/∃ x∈xs',x.2.1=b then .dc i else .no
 have tn0:∀ b,b<w.heap.size->tn b=tg b:=fun b hb=>if_pos hb
 have tn1:∀ b,tg b≠.no->tn b=tg b:=fun b hb=>tn0 b (h.lt b hb)
 have tnc:∀ b c,col' b=some c->tn b=.pr i:=fun b c hc=>by
  rcases hc2 b c hc with e|⟨e,_⟩
  ·rw[tn1 b (by rw[e];simp),e]
  ·show (if _ then _ else _)=_;rw[if_neg (by omega),if_pos (by rw[hc];simp)]
 have tnd:∀ b,(b∈F'\/∃ x∈xs',x.2.1=b)->tn b=.dc i:=fun b hb=>by
  have hb2:tg b=.dc i\/w1.heap.size<=b:=by
   rcases hb with hb|⟨x,hx,rfl⟩
   ·exact hF2 b hb
   ·exact hx2 x hx
  rcases hb2 with e|e
  ·rw[tn1 b (by rw[e];simp),e]
  ·show (if _ then _ else _)=_;rw[if_neg (by omega),if_neg (by simpa using bd.ds.dk.none e),if_pos hb]
 have tnr:∀ b,w.heap.size<=b->b<w1.heap.size->col' b=none->tn b=.no:=fun b h1 h2 h3=>by
  show (if _ then _ else _)=_;rw[if_neg (by omega),if_neg (by simpa using h3),if_neg ?_];rintro (hb|⟨x,hx,rfl⟩)
  ·rcases hF2 b hb with e|e
   ·have:=h.lt b (by rw[e];simp);omega
   ·omega
  ·rcases hx2 x hx with e|e
   ·have:=h.lt _ (by rw[e];simp);omega
   ·omega
 have hFb:∀ b∈k.F,tg b=.dc i:=K.df
 have hF10:∀ b∈k.F,10<=b:=fun b hb=>by
  rcases Nat.lt_or_ge b 10 with e|e
  ·have:=h.gl b e;rw[K.df b hb] at this;cases this
  ·exact e
 have G10:∀ b∈G,10<=b:=fun b hb=>by
  rcases hG b hb with ⟨c,hc,_⟩|⟨_,hc⟩
  ·rcases Nat.lt_or_ge b 10 with e|e
   ·rw[K.bd.gl b e] at hc;cases hc
   ·exact e
  ·omega
 have env2:Env w2:=bd.env.ten (kd.ten (by omega) hF10);have kW:Off (G++k.F) w w2:=(ko.mono fun x hx=>List.mem_append_left _ hx).trans' kd fun x hx=>.inl (List.mem_append_right _ hx)
 have GT:∀ b∈G++k.F,tg b=.pr i\/tg b=.dc i\/w.heap.size<=b:=fun b hb=>by
  rcases List.mem_append.1 hb with hb|hb
  ·rcases hG b hb with ⟨c,hc,_⟩|⟨_,hc⟩
   ·exact .inl (K.pc b c hc)
   ·exact .inr (.inr hc)
  ·exact .inr (.inl (K.df b hb))
 have bd2:BD w2 k.p k.d q.1 r' col':=bd.off kd (fun b hb=>by
  have ht:=K.df b hb;refine⟨?_,fun e=>by have:=K.pp;rw[<- e,ht] at this;cases this⟩
  cases hc:col' b with
  |none=>rfl
  |some c =>
   rcases hc2 b c hc with e|e
   ·rw[ht] at e;cases e
   ·have:=h.lt b (by rw[ht];simp);omega) env2
 -- the answer's rows
 have row:∀ {u:Value}{t z n:Nat}{xs:List Value},w1.ownsRow w.heap.size t z u n xs->(∀ b,u.ownBlock=some b->col' b=none)->w2.ownsRow 0 t z u n xs/\∀ b,u.ownBlock=some b->tn b=.no/\w.heap.size<=b:=fun ho hn=>by
  have lt:∀ b,_=some b->w.heap.size<=b/\b<w1.heap.size:=fun b hb=>ho.lt b hb
  refine⟨d7F (a1i ho kd fun b hb hx=>?_) (zN _),fun b hb=>⟨tnr b (lt b hb).1 (lt b hb).2 (hn b hb),(lt b hb).1⟩⟩;have:=h.lt b (by rw[K.df b hx];simp);have:=(lt b hb).1;omega
 have R1:=row e1.own e1.no;have RS:=fun p (hp:p∈l)=>row (e1.sp p hp).1.own (e1.sp p hp).1.no
 have R2:=row e2.own e2.no;have R3:=row e3.own e3.no;have R4:=row e4.own e4.no;refine⟨⟨k.p,k.d,q.1,r',col',k.dd,xs',F'⟩,tn,⟨fun j kj hj=>?_,env2,fun b hb=>?_,fun b hb=>?_⟩,rfl,rfl,rfl,tn1,fun b hb=>?_,⟨_,kW,GT⟩,u1,u2,u3,u4,l,rfl,hl,⟨R1.1,fun p hp=>(RS p hp).1,R2.1,R3.1,R4.1,e1.pw,fun b hb=>⟨fun e=>(e5 b e).2.1 hb,e6 b hb⟩,fun b hb=>(e5 b hb).2.2.1,fun _ _=>by simp⟩,fun b hb=>?_⟩
 ·rw[List.getElem?_set] at hj
  by_cases e:i=j
  ·subst e;rw[if_pos rfl,if_pos hil] at hj
   cases hj
   exact⟨bd2,dd,(tn1 _ (by rw[K.pp];simp)).trans K.pp,tnc,fun b hb=>tnd b (.inl hb),fun x hx=>tnd _ (.inr ⟨x,hx,rfl⟩)⟩
  ·rw[if_neg e] at hj;refine (h.at_ j kj hj).off kW (fun b hb=>?_) env2 tn1;rcases GT b hb with e1|e1|e1
   ·rw[e1];exact⟨fun e2=>e (by injection e2),by simp⟩
   ·rw[e1];exact⟨by simp,fun e2=>e (by injection e2)⟩
   ·have:tg b=.no:=by
     rcases Classical.em (tg b=.no) with e2|e2
     ·exact e2
     ·have:=h.lt b e2;omega
    rw[this];simp
 ·rcases Nat.lt_or_ge b w.heap.size with e|e
  ·omega
  ·have hb':(if b<w.heap.size then tg b else if col' b≠none then Tg.pr i else if b∈F'\/∃ x∈xs',x.2.1=b then Tg.dc i else Tg.no)≠.no:=hb;rw[if_neg (by omega)] at hb'
   by_cases hc:col' b≠none
   ·rcases Nat.lt_or_ge b w1.heap.size with e' |e'
    ·omega
    ·exact (hc (bd.ds.dk.none e')).elim
   ·rw[if_neg hc] at hb'
    by_cases hf:b∈F'\/∃ x∈xs',x.2.1=b
    ·rcases hf with hf|⟨x,hx,rfl⟩
     ·exact dd.lt b hf
     ·exact (dd.rd.sp x hx).2.2
    ·rw[if_neg hf] at hb';exact (hb' rfl).elim
 ·rw[tn0 b (by omega)];exact h.gl b hb
 ·rcases Nat.lt_or_ge b w.heap.size with e|e
  ·exact .inl (by rw[<- tn0 b e];exact hb)
  ·exact .inr e
 ·simp only[rlB,List.mem_append,Option.mem_toList] at hb;rcases hb with (((hb|hb)|hb)|hb)|hb
  ·obtain⟨p,hp,hpb⟩:=d8h hb;exact (RS p hp).2 b hpb
  ·exact R1.2 b hb
  ·exact R2.2 b hb
  ·exact R3.2 b hb
  ·exact R4.2 b hb
structure LX(w0 w:World)(B n:Nat)(tg:Nat->Tg)(D:List Dk)(K:List Nat)(v0 v1 r1 r2 r3:Value)(X1 X2 X3:List KL):Prop where
 ds:f2L w tg D
 bk:BK w B v0 v1 K r1 r2 r3 X1 X2 X3
 len:X1.length+X2.length+X3.length<=n
 xo:w.ownsRow 0 30 1 v0 D.length (D.map fun k=>Value.pointer (some ⟨k.p,0,none⟩))
 yo:w.ownsRow 0 102 1 v1 D.length (D.map fun k=>Value.pointer (some ⟨k.dd,0,none⟩))
 tb:∀ b∈bkB B r1 r2 r3,tg b=.bk
 tk:∀ b∈K,tg b=.kp
 tx:∀ b,v0.ownBlock=some b->tg b=.xs
 ty:∀ b,v1.ownBlock=some b->tg b=.ys
 d3:D.length<=3
 bl:Below w0.heap.size w0 w
 lo:∀ b,tg b≠.no->w0.heap.size<=b
 w10:10<=w0.heap.size
def LW(w0 w:World)(B n:Nat):Prop:=∃ tg D K v0 v1 r1 r2 r3 X1 X2 X3,LX w0 w B n tg D K v0 v1 r1 r2 r3 X1 X2 X3
section
variable {w0 w3 w4:World}{B n:Nat}{K:List Nat}{v0 v1 r1 r2 r3:Value}{X1 X2 X3:List KL}
theorem LX.later(h:LX w0 w B n tg D K v0 v1 r1 r2 r3 X1 X2 X3)(k:Below w.heap.size w w'):LX w0 w' B n tg D K v0 v1 r1 r2 r3 X1 X2 X3 :=
 ⟨h.ds.later k,h.bk.later k,h.len,a1g h.xo k,a1g h.yo k,h.tb,h.tk,h.tx,h.ty,h.d3,h.bl.trans (k.mono h.bl.size),h.lo,h.w10⟩
theorem LW.later(h:LW w0 w B n)(k:Below w.heap.size w w'):LW w0 w' B n:=by
 obtain⟨tg,D,K,v0,v1,r1,r2,r3,X1,X2,X3,h⟩:=h;exact⟨tg,D,K,v0,v1,r1,r2,r3,X1,X2,X3,h.later k⟩
theorem LW.more{m:Nat}(h:LW w0 w B n)(k:n<=m):LW w0 w B m:=by
 obtain⟨tg,D,K,v0,v1,r1,r2,r3,X1,X2,X3,h⟩:=h;exact⟨tg,D,K,v0,v1,r1,r2,r3,X1,X2,X3,⟨h.ds,h.bk,Nat.le_trans h.len k,h.xo,h.yo,h.tb,h.tk,h.tx,h.ty,h.d3,h.bl,h.lo,h.w10⟩⟩
theorem f3M{α β:Type}(f:α->β){l:List α}{i:Nat}{a b:α}(h:l[i]?=some a)(e:f b=f a):(l.set i b).map f=l.map f:=by
 rw[List.map_set,e];obtain⟨hi,rfl⟩:=List.getElem?_eq_some_iff.1 h;apply List.ext_getElem?;intro j;rw[List.getElem?_set]
 by_cases e1:i=j
 ·subst e1;simp[hi]
 ·rw[if_neg e1]
theorem Below.of_off{N:Nat}(h:Off G w w')(hN:N<=w.heap.size)(hG:∀ b∈G,N<=b):Below N w w':=⟨h.os,h.tape,h.output,h.size,fun b hb=>h.block b (by omega) fun hx=>by have:=hG b hx;omega⟩
theorem LX.both(h:LX w0 w B n tg D K v0 v1 r1 r2 r3 X1 X2 X3)(hi:D[i]?=some k){q:St × Rep}{e:Ending}(P:b5M w k.p k.d k.col q v w1)(Q:DDo w1 k.dd k.F k.xs q e w2):
  ∃ (k':Dk) (tg':Nat->Tg),LX w0 w2 B n tg' (D.set i k') K v0 v1 r1 r2 r3 X1 X2 X3/\∃ (u1 u2 u3 u4:Value) (l:List (Ent × Value)),v=a0s q.2.err q.2.at_ q.2.n u1 u2 u3 u4/\l.map (·.1)=q.2.entries/\d9C w2 K (bkB B r1 r2 r3) u1 u2 u3 u4 l q.2.days q.2.granted q.2.ended/\∀ b∈rlB u1 u2 u3 u4 l,tg' b=.no/\w0.heap.size<=b:=by
 obtain⟨k',tg',d',e1,e2,_,t1,t2,⟨G,ko,hG⟩,u1,u2,u3,u4,l,hv,hl,hr,hn⟩:=h.ds.both hi P Q
 have key:∀ {b t},tg b=t->t≠.no->(∀ i,t≠.pr i)->(∀ i,t≠.dc i)->b ∉ G/\tg' b=t:=fun {b t} h1 h2 h3 h4=>by
  refine⟨fun hx=>?_,(t1 b (by rw[h1];exact h2)).trans h1⟩;rcases hG b hx with e|e|e
  ·exact h3 _ (h1.symm.trans e)
  ·exact h4 _ (h1.symm.trans e)
  ·have:=h.ds.lt b (by rw[h1];exact h2);omega
 have kb:∀ b∈bkB B r1 r2 r3,b ∉ G/\tg' b=.bk:=fun b hb=>key (h.tb b hb) (by simp) (by simp) (by simp)
 have kk:∀ b∈K,b ∉ G/\tg' b=.kp:=fun b hb=>key (h.tk b hb) (by simp) (by simp) (by simp)
 have kx:∀ b,v0.ownBlock=some b->b ∉ G/\tg' b=.xs:=fun b hb=>key (h.tx b hb) (by simp) (by simp) (by simp)
 have ky:∀ b,v1.ownBlock=some b->b ∉ G/\tg' b=.ys:=fun b hb=>key (h.ty b hb) (by simp) (by simp) (by simp)
 have hb0:=h.bl.size
 have G0:∀ b∈G,w0.heap.size<=b:=fun b hb=>by
  rcases hG b hb with e|e|e
  ·exact h.lo b (by rw[e];simp)
  ·exact h.lo b (by rw[e];simp)
  ·omega
 refine⟨k',tg',⟨d',h.bk.off ko (fun b hb=>(kb b hb).1) (fun b hb=>(kk b hb).1),h.len,?_,?_,fun b hb=>(kb b hb).2,fun b hb=>(kk b hb).2,fun b hb=>(kx b hb).2,fun b hb=>(ky b hb).2,by simpa using h.d3,h.bl.trans (Below.of_off ko hb0 G0),fun b hb=>?_,h.w10⟩,u1,u2,u3,u4,l,hv,hl,?_,fun b hb=>⟨(hn b hb).1,by have:=(hn b hb).2;omega⟩⟩
 ·rw[List.length_set,f3M (fun k:Dk=>Value.pointer (some ⟨k.p,0,none⟩)) hi (by rw[e1])];exact a1i h.xo ko fun b hb=>(kx b hb).1
 ·rw[List.length_set,f3M (fun k:Dk=>Value.pointer (some ⟨k.dd,0,none⟩)) hi (by rw[e2])];exact a1i h.yo ko fun b hb=>(ky b hb).1
 ·rcases t2 b hb with e|e
  ·exact h.lo b e
  ·omega
 ·refine⟨hr.en,hr.sp,hr.da,hr.gr,hr.ed,hr.pw,hr.dg,hr.ge,fun b hb=>?_⟩
  have hb':b∈rlB u1 u2 u3 u4 l:=by
   simp only[rlB,List.mem_append,Option.mem_toList];rcases hb with hb|hb|hb|hb|⟨p,hp,hb⟩
   ·exact .inl (.inl (.inl (.inr hb)))
   ·exact .inl (.inl (.inr hb))
   ·exact .inl (.inr hb)
   ·exact .inr hb
   ·exact .inl (.inl (.inl (.inl (List.mem_flatMap.2 ⟨p,hp,by simpa using hb⟩))))
  have h0:=(hn b hb').1;refine⟨fun e=>?_,fun e=>?_⟩
  ·have:=(kk b e).2;rw[h0] at this;cases this
  ·have:=(kb b e).2;rw[h0] at this;cases this
open Classical in
theorem LX.kept(h:LX w0 w B n tg D K v0 v1 r1 r2 r3 X1 X2 X3){L:List Nat}{m:Nat}(hm:m<=n)(hL:∀ b∈L,tg b=.no/\w0.heap.size<=b)(k:d9T w B v0 v1 K r1 r2 r3 L m w4):LW w0 w4 B n:=by
 obtain⟨K',p1,p2,p3,Z1,Z2,Z3,kb⟩:=k
 let tn:Nat->Tg:=fun b=>if tg b≠.no then tg b else if b∈K' then .kp else if b∈bkB B p1 p2 p3 then .bk else .no
 have tn1:∀ b,tg b≠.no->tn b=tg b:=fun b hb=>if_pos hb
 have tnk:∀ b∈K',tn b=.kp:=fun b hb=>by
  by_cases e:tg b≠.no
  ·rw[tn1 b e];rcases kb.kk b hb with e1|e1|e1
   ·exact h.tk b e1
   ·exact (e (hL b e1).1).elim
   ·have:=h.ds.lt b e;omega
  ·show (if _ then _ else _)=_;rw[if_neg e,if_pos hb]
 have tnb:∀ b∈bkB B p1 p2 p3,tn b=.bk:=fun b hb=>by
  by_cases e:tg b≠.no
  ·rw[tn1 b e];rcases kb.rr b hb with e1|e1
   ·exact h.tb b e1
   ·have:=h.ds.lt b e;omega
  ·show (if _ then _ else _)=_;rw[if_neg e,if_neg ?_,if_pos hb];intro hk;have hb2:=hb;simp only[bkB,List.mem_cons,List.mem_append,Option.mem_toList] at hb2;have q:=kb.bk.br.kb b hk;rcases hb2 with rfl|e1|e1|e1
   ·exact kb.bk.bK hk
   ·exact q.2.1 e1
   ·exact q.2.2.1 e1
   ·exact q.2.2.2 e1
 have G0:∀ b∈L++bkB B r1 r2 r3,w0.heap.size<=b:=fun b hb=>by
  rcases List.mem_append.1 hb with hb|hb
  ·exact (hL b hb).2
  ·exact h.lo b (by rw[h.tb b hb];simp)
 have h10:=h.ds.env.size;have hb0:=h.bl.size
 have GT:∀ b∈L++bkB B r1 r2 r3,tg b=.no\/tg b=.bk:=fun b hb=>by
  rcases List.mem_append.1 hb with hb|hb
  ·exact .inl (hL b hb).1
  ·exact .inr (h.tb b hb)
 have G10:∀ b∈L++bkB B r1 r2 r3,10<=b:=fun b hb=>by
  have h1:=G0 b hb;have h2:=h.w10;omega
 have kx:∀ b,v0.ownBlock=some b->b ∉ L++bkB B r1 r2 r3:=fun b hb hx=>by
  have:=h.tx b hb;rcases GT b hx with e|e <;> rw[this] at e <;> cases e
 have ky:∀ b,v1.ownBlock=some b->b ∉ L++bkB B r1 r2 r3:=fun b hb hx=>by
  have:=h.ty b hb;rcases GT b hx with e|e <;> rw[this] at e <;> cases e
 have tno:∀ b,tn b≠.no->tg b≠.no\/b∈K'\/b∈bkB B p1 p2 p3:=fun b hb=>by
  have hb':(if tg b≠.no then tg b else if b∈K' then Tg.kp else if b∈bkB B p1 p2 p3 then Tg.bk else Tg.no)≠.no:=hb
  by_cases e:tg b≠.no
  ·exact .inl e
  ·rw[if_neg e] at hb'
   by_cases e1:b∈K'
   ·exact .inr (.inl e1)
   ·rw[if_neg e1] at hb'
    by_cases e2:b∈bkB B p1 p2 p3
    ·exact .inr (.inr e2)
    ·rw[if_neg e2] at hb';exact (hb' rfl).elim
 have lo':∀ b,tn b≠.no->w0.heap.size<=b:=fun b hb=>by
  rcases tno b hb with e|e|e
  ·exact h.lo b e
  ·rcases kb.kk b e with e|e|e
   ·exact h.lo b (by rw[h.tk b e];simp)
   ·exact (hL b e).2
   ·omega
  ·rcases kb.rr b e with e|e
   ·exact h.lo b (by rw[h.tb b e];simp)
   ·omega
 refine⟨tn,D,K',v0,v1,p1,p2,p3,Z1,Z2,Z3,⟨h.ds.off kb.off (fun b hb=>⟨fun i=>?_,G10 b hb⟩) tn1 (fun b hb=>?_) (fun b hb=>?_),kb.bk,by rw[kb.len];exact hm,a1i h.xo kb.off kx,a1i h.yo kb.off ky,tnb,tnk,fun b hb=>(tn1 b (by rw[h.tx b hb];simp)).trans (h.tx b hb),fun b hb=>(tn1 b (by rw[h.ty b hb];simp)).trans (h.ty b hb),h.d3,h.bl.trans (Below.of_off kb.off hb0 G0),lo',h.w10⟩⟩
 ·rcases GT b hb with e|e <;> rw[e] <;> simp
 ·rcases tno b hb with e|e|e
  ·exact zL (h.ds.lt b e) kb.off.size
  ·exact (kb.bk.br.kb b e).1
  ·exact kb.bk.lt b e
 ·rcases Classical.em (tn b=.no) with e|e
  ·exact e
  ·have h1:=lo' b e;have h2:=h.w10;omega
end
end Go.Proofs.YtfigmlfdnickmaaGreatDoor
