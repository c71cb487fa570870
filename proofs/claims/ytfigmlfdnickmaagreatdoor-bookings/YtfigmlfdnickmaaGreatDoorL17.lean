import Derived.Test.YtfigmlfdnickmaaGreatDoorL16
set_option maxRecDepth 100000
set_option maxHeartbeats 8000000
variable{e:Go.Proofs.YtfigmlfdnickmaaGreatDoor.Desk.Ent}{given now:Int}{ts:List (ByteArray × Int)}{xs xs' ys:List (Go.Proofs.YtfigmlfdnickmaaGreatDoor.Desk.Ent × Nat × Nat)}{L:List (Int × Int)}{l:List Int}{F G:List Nat}{B E b c cap d g n:Nat}{a:Option Go.Addr}{s:Go.Proofs.YtfigmlfdnickmaaGreatDoor.Desk.St}{a0 a1 a2 a3 a4 a5 v:Go.Value}{W X w w':Go.World}
namespace Go.Proofs.YtfigmlfdnickmaaGreatDoor
open Go.RowKit
structure g3P(w:World)(b:Nat)(x:Desk.Ent × Nat × Nat):Prop where
 c0:w.cell? ⟨b,0,none⟩=some (.int .i64 x.1.id)
 c1:w.cell? ⟨b,1,none⟩=some (.int .i64 x.1.kind)
 c2:w.cell? ⟨b,2,none⟩=some (.string x.1.a0k)
 c3:w.cell? ⟨b,3,none⟩=some (.int .i64 x.1.a0c)
 c4:w.cell? ⟨b,4,none⟩=some (.slice (some ⟨x.2.1,0,none⟩) x.1.a0e.length x.2.2)
 c5:w.cell? ⟨b,5,none⟩=some (.int .i64 x.1.a0Z)
theorem g3P.off{x:Desk.Ent × Nat × Nat}(h:g3P w b x)(k:Off G w w')(hb:b ∉ G):g3P w' b x :=
 ⟨k.cell hb h.c0,k.cell hb h.c1,k.cell hb h.c2,k.cell hb h.c3,k.cell hb h.c4,k.cell hb h.c5⟩
theorem f5s(d:Nat)(ts:List (ByteArray × Int))(xs:List (Desk.Ent × Nat × Nat))(given now:Int)(F:List Nat)(x:Desk.Ent × Nat × Nat)(w:World)(h:RD w d ts xs given now F)(hx:RSL w x.2.1 x.1.a0e)(hxF:x.2.1 ∉ F)(hxl:x.2.1<w.heap.size)(hF:∀ k∈F,k<w.heap.size)(hl:xs.length<=1000)(hg0:0<=given)(hg1:given<=1000):
  Calls Tryz.prog 232 #[.pointer (some ⟨d,0,none⟩),.agg (c7a x).toArray] w fun e w'=>e=.returned (e3T 0 (given+1))/\g3V w d ts (xs++[({ x.1 with id:=given+1 },x.2)]) (given+1) now F w':=by
 obtain⟨i0,hi0,hz0,hz1,hz2⟩:=info_parts e2i;have hd:d<w.heap.size:=hF d h.dF;have H:=a0b h;have HX:=a0b (zA hx (zA hxF hxl));simp only[c7a];clear h hx hxF hxl
 go_enter Tryz.func232,Tryz.ntmps232
 go_upto_region 1 with fail
 have oX:Off [] w ((w.alloc (.cells #[.int .i64 x.1.id,.int .i64 x.1.kind,.string x.1.a0k,.int .i64 x.1.a0c,.slice (some ⟨x.2.1,0,none⟩) x.1.a0e.length x.2.2,.int .i64 x.1.a0Z] 58)).alloc (.cells #[.int .i64 0,.int .i64 0,.int .i64 0,.slice none 0 0,.slice none 0 0,.slice none 0 0,.slice none 0 0] 40)):=((Off.refl _ _).alloc _).alloc _;have bX:g3P ((w.alloc (.cells #[.int .i64 x.1.id,.int .i64 x.1.kind,.string x.1.a0k,.int .i64 x.1.a0c,.slice (some ⟨x.2.1,0,none⟩) x.1.a0e.length x.2.2,.int .i64 x.1.a0Z] 58)).alloc (.cells #[.int .i64 0,.int .i64 0,.int .i64 0,.slice none 0 0,.slice none 0 0,.slice none 0 0,.slice none 0 0] 40)) w.heap.size x:=⟨by simp,by simp,by simp,by simp,by simp,by simp⟩
 have rX:((w.alloc (.cells #[.int .i64 x.1.id,.int .i64 x.1.kind,.string x.1.a0k,.int .i64 x.1.a0c,.slice (some ⟨x.2.1,0,none⟩) x.1.a0e.length x.2.2,.int .i64 x.1.a0Z] 58)).alloc (.cells #[.int .i64 0,.int .i64 0,.int .i64 0,.slice none 0 0,.slice none 0 0,.slice none 0 0,.slice none 0 0] 40)).heap[w.heap.size+1]?=some (.cells #[.int .i64 0,.int .i64 0,.int .i64 0,.slice none 0 0,.slice none 0 0,.slice none 0 0,.slice none 0 0] 40):=by
  have:=a0p (w.alloc (.cells #[.int .i64 x.1.id,.int .i64 x.1.kind,.string x.1.a0k,.int .i64 x.1.a0c,.slice (some ⟨x.2.1,0,none⟩) x.1.a0e.length x.2.2,.int .i64 x.1.a0Z] 58)) (.cells #[.int .i64 0,.int .i64 0,.int .i64 0,.slice none 0 0,.slice none 0 0,.slice none 0 0,.slice none 0 0] 40)
  rwa [World.size_alloc] at this
 have fX:((w.alloc (.cells #[.int .i64 x.1.id,.int .i64 x.1.kind,.string x.1.a0k,.int .i64 x.1.a0c,.slice (some ⟨x.2.1,0,none⟩) x.1.a0e.length x.2.2,.int .i64 x.1.a0Z] 58)).alloc (.cells #[.int .i64 0,.int .i64 0,.int .i64 0,.slice none 0 0,.slice none 0 0,.slice none 0 0,.slice none 0 0] 40)).frozen? ⟨w.heap.size,0,none⟩=false:=by
  have a:=World.frozen?_alloc_new w #[.int .i64 x.1.id,.int .i64 x.1.kind,.string x.1.a0k,.int .i64 x.1.a0c,.slice (some ⟨x.2.1,0,none⟩) x.1.a0e.length x.2.2,.int .i64 x.1.a0Z] 58 0;exact (((Off.refl [] (w.alloc (.cells #[.int .i64 x.1.id,.int .i64 x.1.kind,.string x.1.a0k,.int .i64 x.1.a0c,.slice (some ⟨x.2.1,0,none⟩) x.1.a0e.length x.2.2,.int .i64 x.1.a0Z] 58))).alloc (.cells #[.int .i64 0,.int .i64 0,.int .i64 0,.slice none 0 0,.slice none 0 0,.slice none 0 0,.slice none 0 0] 40)).frozen (by simp) (by simp)).trans a
 have OX:=a0b (zA oX (zA bX (zA rX fX)));clear oX bX rX fX;generalize (World.alloc _ (.cells #[.int .i64 0,.int .i64 0,.int .i64 0,.slice none 0 0,.slice none 0 0,.slice none 0 0,.slice none 0 0] 40))=X at OX ⊢;obtain⟨N,hN⟩:∃ N,N=w.heap.size:=⟨_,rfl⟩;rw[<- hN] at OX ⊢;have hdN:d≠N:=by omega
 have HN:=a0b hN;clear hN hd;have rd:=H.out.off OX.out.1 (by simp) (by simp);have c2:=rd.c2;have f2:=rd.fz 2;have fN:=OX.out.2.2.2;have n0:=OX.out.2.1.c0;have RDX1:=a0b rd;clear rd
 go_upto_region 3 with fail
 have hNF:N ∉ F:=fun e=>by have:=hF N e;have:=HN.out;omega
 have oY:Off F X ((X.setCell ⟨d,2,none⟩ (.int .i64 (given+1))).setCell ⟨N,0,none⟩ (.int .i64 (given+1)))\/True:=.inr trivial;have kN:Off [N] (X.setCell ⟨d,2,none⟩ (.int .i64 (given+1))) ((X.setCell ⟨d,2,none⟩ (.int .i64 (given+1))).setCell ⟨N,0,none⟩ (.int .i64 (given+1))):=Off.set0 ..;have kd:Off [d] X (X.setCell ⟨d,2,none⟩ (.int .i64 (given+1))):=Off.set0 ..
 have rdY:RD ((X.setCell ⟨d,2,none⟩ (.int .i64 (given+1))).setCell ⟨N,0,none⟩ (.int .i64 (given+1))) d ts xs (given+1) now F :=
  (RDX1.out.set2 (given+1)).off kN (fun y hy=>by simp;rintro rfl;exact hNF hy) (fun y hy=>by
   have h1:=(H.out.sp y hy).2.2;have h2:=HN.out
   simp;omega)
 have wY:Off F w ((X.setCell ⟨d,2,none⟩ (.int .i64 (given+1))).setCell ⟨N,0,none⟩ (.int .i64 (given+1))) :=
  ((OX.out.1.mono (by simp)).setCell (.inl H.out.dF) _ _).setCell (.inr (by have:=HN.out;omega)) _ _
 have bxX:=OX.out.2.1.off kd (by simp;exact fun e=>hdN e.symm)
 have bxY:g3P ((X.setCell ⟨d,2,none⟩ (.int .i64 (given+1))).setCell ⟨N,0,none⟩ (.int .i64 (given+1))) N ({ x.1 with id:=given+1 },x.2) :=
  ⟨zm _ _ _ bxX.c0,(zS _ _ _ _ (by simp)).trans bxX.c1,(zS _ _ _ _ (by simp)).trans bxX.c2,(zS _ _ _ _ (by simp)).trans bxX.c3,(zS _ _ _ _ (by simp)).trans bxX.c4,(zS _ _ _ _ (by simp)).trans bxX.c5⟩
 have hN1:N+1<X.heap.size:=by
  by_cases hx:N+1<X.heap.size
  ·exact hx
  ·have:=OX.out.2.2.1;rw[Array.getElem?_eq_none (by omega)] at this;cases this
 have rY:((X.setCell ⟨d,2,none⟩ (.int .i64 (given+1))).setCell ⟨N,0,none⟩ (.int .i64 (given+1))).heap[N+1]?=some (.cells #[.int .i64 0,.int .i64 0,.int .i64 0,.slice none 0 0,.slice none 0 0,.slice none 0 0,.slice none 0 0] 40):=by
  rw[kN.block (N+1) (zL hN1 kd.size) (by simp),kd.block (N+1) hN1 (by simp;have:=hF d H.out.dF;have:=HN.out;omega)];exact OX.out.2.2.1
 have YY:=a0b (zA rdY (zA wY (zA bxY rY)));clear oY kN kd rdY wY bxX bxY rY hN1 c2 f2 fN n0 OX RDX1;generalize (World.setCell _ ⟨N,0,none⟩ (.int .i64 (given+1)))=Y at YY ⊢;obtain⟨v,cv,ho,hvF⟩:=YY.out.1.ev;have b0:=YY.out.2.2.1.c0;have b1:=YY.out.2.2.1.c1;have b2:=YY.out.2.2.1.c2;have b3:=YY.out.2.2.1.c3;have b4:=YY.out.2.2.1.c4;have b5:=YY.out.2.2.1.c5;have f1:=YY.out.1.fz 1;have hdY:d<Y.heap.size:=World.block_lt_of_cell? _ _ cv;have hNY:N<Y.heap.size:=World.block_lt_of_cell? _ _ b0;have HOW:=a0b (zA ho hvF)
 have hdv:d ∉ v.ownBlock.toList:=by
  intro e;have:v.ownBlock=some d:=by simpa using e
  exact (hvF d this).2 rfl
 have HDV:=a0b hdv;clear ho hvF hdv;simp only at b0 b1 b2 b3 b4 b5
 go_cut [24] from 17 to 26 (fun _ wx=>∃ g cap w5,Off (v.ownBlock.toList) Y w5/\w5.ownsRow 0 58 6 (.slice (some ⟨g,0,none⟩) (xs.length+1) cap) (xs.length+1) (xs.flatMap c7a++c7a ({ x.1 with id:=given+1 },x.2))/\(v.ownBlock=some g\/Y.heap.size<=g)/\wx=w5.setCell ⟨d,1,none⟩ (.slice (some ⟨g,0,none⟩) (xs.length+1) cap))
 case first =>
  go_region_law (first
   |(refine step_append_lies _ rfl _ _ 34 rfl 0 58 i0 _ 6 72 Tryz.underlying34 hi0 hz0 hz1 hz2 rfl (by decide) v xs.length (xs.flatMap c7a) rfl (a1g HOW.out.1 (((zr _ _).alloc (zq _) _).drew)) ⟨Y.heap.size,0,none⟩ 1 1 (c7a ({ x.1 with id:=given+1 },x.2)) rfl rfl (World.news_of_block (cs:=(c7a ({ x.1 with id:=given+1 },x.2)).toArray) (a0p Y _)) (by simp[c7a,Value.oneCell']) (by omega) (by unfold maxLen;omega) (by omega) (zN _) (Y.heap.size+1) (by simp) ?_;intro g cap w1 ho1 hgrow hat hlt;have kk:Off (v.ownBlock.toList) Y w1:=Off.grown (((Off.refl _ Y).alloc _).drew) hgrow (fun k hk=>.inl (by simp[hk]));have z1:=kk.cell HDV.out cv;have z2:=(kk.frozen (o:=1) HDV.out (World.block_lt_of_cell? _ _ cv)).trans f1))
  all_goals
   go_wp2_with fail
   go_meet
   exact⟨g,cap,w1,kk,ho1,hat.imp id (fun e=>by omega),rfl⟩
 case rest =>
  obtain⟨g,cap,w5,kk,ho5,hat,rfl⟩:=hcut;have hxY:RSL Y x.2.1 x.1.a0e:=HX.out.1.off YY.out.2.1 HX.out.2.1;have hxl:x.2.1<Y.heap.size:=zL HX.out.2.2 YY.out.2.1.size;obtain⟨rz,oz⟩:=RD.a5d (x:=({ x.1 with id:=given+1 },x.2)) YY.out.1 cv HOW.out.1 HOW.out.2 kk ho5 hat hxY HX.out.2.1 hxl
  have hNd:N ∉ d :: v.ownBlock.toList:=by
   intro e;rcases List.mem_cons.1 e with e|e
   ·exact hdN e.symm
   ·exact hNF (HOW.out.2 N (by simpa using e)).1
  have hN1:N+1 ∉ d :: v.ownBlock.toList:=by
   intro e;have h2:=HN.out;rcases List.mem_cons.1 e with e|e
   ·have:=hF d H.out.dF;omega
   ·have:=hF (N+1) (HOW.out.2 (N+1) (by simpa using e)).1;omega
  have n0:=oz.cell hNd b0
  have hlt1:N+1<Y.heap.size:=by
   by_cases hx:N+1<Y.heap.size
   ·exact hx
   ·have:=YY.out.2.2.2;rw[Array.getElem?_eq_none (by omega)] at this;cases this
  have hr1:=(oz.block (N+1) hlt1 hN1).trans YY.out.2.2.2;have ZZ:=a0b (zA rz (zA oz hr1));clear rz oz hr1 kk ho5 hxY hxl b0 b1 b2 b3 b4 b5 f1 cv hdY hNY HDV;have HG:Hid (g∈g :: F):=List.mem_cons_self ..;generalize (World.setCell w5 ⟨d,1,none⟩ (.slice (some ⟨g,0,none⟩) (xs.length+1) cap))=Z at ZZ n0 ⊢;have q0:Z.cell? ⟨N+1,0,none⟩=some (.int .i64 0):=by simp[World.cell?,ZZ.out.2.2]
  have q1:Z.cell? ⟨N+1,1,none⟩=some (.int .i64 0):=by simp[World.cell?,ZZ.out.2.2]
  have q2:Z.cell? ⟨N+1,2,none⟩=some (.int .i64 0):=by simp[World.cell?,ZZ.out.2.2]
  have q3:Z.cell? ⟨N+1,3,none⟩=some (.slice none 0 0):=by simp[World.cell?,ZZ.out.2.2]
  have q4:Z.cell? ⟨N+1,4,none⟩=some (.slice none 0 0):=by simp[World.cell?,ZZ.out.2.2]
  have q5:Z.cell? ⟨N+1,5,none⟩=some (.slice none 0 0):=by simp[World.cell?,ZZ.out.2.2]
  have q6:Z.cell? ⟨N+1,6,none⟩=some (.slice none 0 0):=by simp[World.cell?,ZZ.out.2.2]
  have fq:∀ o,Z.frozen? ⟨N+1,o,none⟩=false:=fun o=>by simp[World.frozen?,ZZ.out.2.2]
  have hfin:Off [N+1] Z (((((((Z.setCell ⟨N+1,0,none⟩ (.int .i64 0)).setCell ⟨N+1,1,none⟩ (.int .i64 0)).setCell ⟨N+1,2,none⟩ (.int .i64 (given+1))).setCell ⟨N+1,3,none⟩ (.slice none 0 0)).setCell ⟨N+1,4,none⟩ (.slice none 0 0)).setCell ⟨N+1,5,none⟩ (.slice none 0 0)).setCell ⟨N+1,6,none⟩ (.slice none 0 0)) :=
   (((((((Off.refl [N+1] Z).setCell (.inl (by simp)) _ _).setCell (.inl (by simp)) _ _).setCell (.inl (by simp)) _ _).setCell (.inl (by simp)) _ _).setCell (.inl (by simp)) _ _).setCell (.inl (by simp)) _ _).setCell (.inl (by simp)) _ _
  have hgF:∀ k∈g :: F,k∈F\/w.heap.size<=k:=by
   intro k hk;rcases List.mem_cons.1 hk with rfl|hk
   ·rcases hat with e|e
    ·exact .inl (HOW.out.2 k e).1
    ·have:=YY.out.2.1.size;exact .inr (by omega)
   ·exact .inl hk
  have hFIN:Hid (g3V w d ts (xs++[({ x.1 with id:=given+1 },x.2)]) (given+1) now F (((((((Z.setCell ⟨N+1,0,none⟩ (.int .i64 0)).setCell ⟨N+1,1,none⟩ (.int .i64 0)).setCell ⟨N+1,2,none⟩ (.int .i64 (given+1))).setCell ⟨N+1,3,none⟩ (.slice none 0 0)).setCell ⟨N+1,4,none⟩ (.slice none 0 0)).setCell ⟨N+1,5,none⟩ (.slice none 0 0)).setCell ⟨N+1,6,none⟩ (.slice none 0 0))):=by
   have hNw:=HN.out;refine⟨g :: F,ZZ.out.1.off hfin (fun y hy=>?_) (fun y hy=>?_),hgF,?_⟩
   ·simp;rintro rfl;rcases List.mem_cons.1 hy with e|e
    ·rcases hat with e2|e2
     ·have:=hF g (HOW.out.2 g e2).1;omega
     ·omega
    ·have:=hF _ e;omega
   ·simp;intro e;rcases List.mem_append.1 hy with hy|hy
    ·have:=(H.out.sp y hy).2.2;omega
    ·have:y=({ x.1 with id:=given+1 },x.2):=by simpa using hy
     subst this;have:=HX.out.2.2;have e':x.2.1=N+1:=e;omega
   ·refine (YY.out.2.1.trans' ZZ.out.2.1 (fun k hk=>?_)).trans' hfin (fun k hk=>by simp at hk;exact .inr (by omega));rcases List.mem_cons.1 hk with rfl|hk
    ·exact .inl H.out.dF
    ·exact .inl (HOW.out.2 k (by simpa using hk)).1
  clear hfin hgF HG ZZ HOW YY H HX
  go_wp2_with fail
  exact bodyPost_ret (v:=e3T 0 (given+1)) (by simp[results,Tryz.results232,go_sem,e3T,q0,q1,q2,q3,q4,q5,q6]) rfl ⟨rfl,hFIN.out⟩
open Desk (Ent St Mid a0h a1e a0S)
structure EB(e:Ent):Prop where
 u0:1<=e.a0c
 u1:e.a0c<=9
 sl:e.a0e.length<=40
 s0:e.a0e≠[]
 so:∀ s∈e.a0e,0<=s.2/\s.2<=2000000
theorem EB.small(h:EB e):Desk.Small e:=⟨by have:=h.u0;omega,h.u1,by have:=h.sl;omega⟩
theorem EB.book(h:EB e):EB (Desk.a0Q e):=⟨h.u0,h.u1,h.sl,h.s0,h.so⟩
structure DD(w:World)(d:Nat)(s:St)(xs:List (Ent × Nat × Nat))(F:List Nat):Prop where
 rd:RD w d s.ts xs s.given s.now F
 es:xs.map (·.1)=s.es
 lt:∀ k∈F,k<w.heap.size
 tl:s.ts.length<=4
 el:s.es.length<=60
 en:∀ e∈s.es,EB e
variable {w w':World}{d:Nat}{s:St}{xs:List (Ent × Nat × Nat)}{F:List Nat}
theorem DD.len(h:DD w d s xs F):xs.length=s.es.length:=by rw[<- h.es,List.length_map]
theorem DD.off(h:DD w d s xs F)(k:Off G w w')(hF:∀ x∈F,x ∉ G)(hS:∀ x∈xs,x.2.1 ∉ G):DD w' d s xs F :=
 ⟨h.rd.off k hF hS,h.es,fun x hx=>zL (h.lt x hx) k.size,h.tl,h.el,h.en⟩
theorem DD.later(h:DD w d s xs F)(k:Below w.heap.size w w'):DD w' d s xs F:=h.off (G:=[]) (Off.of_below k) (by simp) (by simp)
theorem DD.de(h:DD w d s xs F):∃ a cap E,RDE w d a cap E s.es:=by
 obtain⟨a,cap,E,k⟩:=h.rd.dx;exact⟨a,cap,E,h.es ▸ k.de⟩
theorem DD.small(h:DD w d s xs F):∀ e∈s.es,Desk.Small e:=fun e he=>(h.en e he).small
theorem DD.a0c(h:DD w d s xs F)(name:ByteArray):
  Calls Tryz.prog 229 #[.pointer (some ⟨d,0,none⟩),.string name] w fun e w'=>e=.returned (.int .i64 (a0h name s.ts))/\w'=w:=by
 obtain⟨a,c,G,ht⟩:=h.rd.dt;exact d7R d a c G s.ts name w ht (by have:=h.tl;omega)
theorem DD.asked(h:DD w d s xs F)(name:ByteArray)(u:Int):
  Calls Tryz.prog 230 #[.pointer (some ⟨d,0,none⟩),.string name,.int .i64 u] w fun e w'=>e=.returned (.int .i64 (a0S s.ts name u))/\w'=w:=by
 obtain⟨a,c,G,ht⟩:=h.rd.dt;exact f1o d a c G s.ts name u w ht (by have:=h.tl;omega)
theorem DD.fits(h:DD w d s xs F)(name:ByteArray){u:Int}{cb:Nat}(hL:RSL w B L)(hl:L.length<=100)(h0:0<=u)(h1:u<=9):
  Calls Tryz.prog 182 #[.pointer (some ⟨d,0,none⟩),.string name,.int .i64 u,.slice (some ⟨B,0,none⟩) L.length cb] w fun e w'=>e=.returned (.bool (a1e s.ts s.es name u L))/\Below w.heap.size w w':=by
 obtain⟨a,c,G,ht⟩:=h.rd.dt;obtain⟨b,q,E,he⟩:=h.de;exact f0u d b q E s.es a c G s.ts name u B cb L w he ht hL (by have:=h.el;omega) (by have:=h.tl;omega) h.small hl h0 h1
theorem DD.peak(h:DD w d s xs F)(name:ByteArray)(fr til:Int):
  Calls Tryz.prog 236 #[.pointer (some ⟨d,0,none⟩),.string name,.int .i64 fr,.int .i64 til] w fun e w'=>e=.returned (.int .i64 (Desk.a1Q name s.es fr til))/\Below w.heap.size w w':=by
 obtain⟨b,q,E,he⟩:=h.de;exact f9U d b q E s.es name fr til w he (by have:=h.el;omega) h.small
theorem DD.find(h:DD w d s xs F)(name:ByteArray)(u long fr til:Int)(hu0:0<=u)(hu1:u<=9)(hl0:0<=long)(hl1:long<=2000000)(hf0:0<=fr)(hf1:fr<=2000000):
  Calls Tryz.prog 237 #[.pointer (some ⟨d,0,none⟩),.string name,.int .i64 u,.int .i64 long,.int .i64 fr,.int .i64 til] w fun e w'=>e=.returned (.int .i64 (Desk.a9A s.ts s.es name u long fr til))/\Below w.heap.size w w':=by
 obtain⟨a,c,G,ht⟩:=h.rd.dt;obtain⟨b,q,E,he⟩:=h.de;exact f9W d b q E s.es a c G s.ts name u long fr til w he ht (by have:=h.el;omega) (by have:=h.tl;omega) h.small (fun e h1=>(h.en e h1).so) hu0 hu1 hl0 hl1 hf0 hf1
theorem DD.place(h:DD w d s xs F)(id:Int):
  Calls Tryz.prog 233 #[.pointer (some ⟨d,0,none⟩),.int .i64 id] w fun e w'=>e=.returned (.int .i64 (Desk.d0u id s.es 0))/\w'=w:=by
 obtain⟨b,q,E,he⟩:=h.de;exact f4h d b q E s.es id w he (by have:=h.el;omega)
theorem DD.waiting(h:DD w d s xs F):
  Calls Tryz.prog 231 #[.pointer (some ⟨d,0,none⟩)] w fun e w'=>e=.returned (.int .i64 (Desk.a1Y s.es))/\w'=w:=by
 obtain⟨b,q,E,he⟩:=h.de;exact e5Y d b q E s.es w he (by have:=h.el;omega)
theorem DD.without(h:DD w d s xs F)(id:Int):
  Calls Tryz.prog 234 #[.pointer (some ⟨d,0,none⟩),.int .i64 id] w fun e w'=>∃ v,e=.returned v/\w'.ownsRow w.heap.size 58 6 v (d2z id xs).length ((d2z id xs).flatMap c7a)/\Below w.heap.size w w':=by
 obtain⟨a,c,E,k⟩:=h.rd.dx;exact e5V d a c E xs id w k (by have:=h.el;have:=h.len;omega)
structure ER(w:World)(d E cap:Nat)(a:Option Addr)(xs:List (Ent × Nat × Nat)):Prop where
 c:w.cell? ⟨d,1,none⟩=some (.slice a xs.length cap)
 a:∀ i,i<xs.length->a=some ⟨E,0,none⟩
 r:∀ (i:Nat) (h:i<xs.length),RE w E i xs[i].1 xs[i].2.1 xs[i].2.2
 f:∀ o,0<xs.length->w.frozen? ⟨E,o,none⟩=false
theorem DD.er(h:DD w d s xs F):∃ a cap E,ER w d E cap a xs:=by
 obtain⟨v,c,ho,_⟩:=h.rd.ev;obtain⟨a,cap,g,rfl,hn,ha,hr⟩:=e1F ho (fun x hx=>(h.rd.sp x hx).1);refine⟨a,cap,g,c,fun i hi=>ha (by intro e;simp[e] at hi),hr,fun o hl=>?_⟩;obtain rfl:=ha (by intro e;simp[e] at hl);rcases ho.2 with ⟨hv,_⟩|⟨g',cp,cur,hv,_,hh,_⟩
 ·cases hv
 ·simp only[Value.slice.injEq,Option.some.injEq,Addr.mk.injEq] at hv;obtain⟨⟨rfl,_⟩,_⟩:=hv;simp[World.frozen?,hh]
theorem ER.later(h:ER w d E cap a xs)(k:Below w.heap.size w w'):ER w' d E cap a xs :=
 ⟨a0a k h.c,h.a,fun i hi=>(h.r i hi).later k,fun o hl=>((Off.of_below (F:=[]) k).frozen (by simp) (World.block_lt_of_cell? _ _ (h.r 0 hl).c0)).trans (h.f o hl)⟩
theorem c9y{e size:Nat}{l:List Value}(h:w.ownsRow B e size v n l):∃ a cap,v=.slice a n cap:=by
 rcases h.2 with ⟨rfl,rfl⟩|⟨g,cap,_,rfl,_⟩
 ·exact⟨none,0,rfl⟩
 ·exact⟨_,cap,rfl⟩
theorem g3H{ops:Array Oper}{rest:List Oper}{o:Oper}{a:Act}{Q:Exit->Act->World->Prop}(hgd:o.guard=none)(x y:Operand)(ho:o.op=.call { callee:=.builtin .append,args:=#[x,y],argTypes:=#[38,38] })(hown:W.ownsRow B 3 1 v l.length (l.map (Value.int .i64)))(z:Int){ty:TypeId}{mk:Nat × Nat}(hs:a.eval x=v)(hx:a.eval y=.slice (some ⟨W.heap.size,0,none⟩) 1 1)(hl:l.length<=1000000)(hB:B<=W.heap.size)
  (h:∀ v' w',w'.ownsRow B 3 1 v' (l++[z]).length ((l++[z]).map (Value.int .i64))->Off v.ownBlock.toList W w'->wpList Tryz.prog ops Q rest (a.put o.dst v') w'):
  wpList Tryz.prog ops Q (o :: rest) a (W.alloc (.cells #[.int .i64 z] ty mk)):=by
 obtain⟨i0,hi0,hz0,hz1,hz2⟩:=info_parts b1S;refine wpList_append_own _ hgd x y 38 ho B 3 i0 (.int .i64 0) 1 8 Tryz.underlying38 hi0 hz0 hz1 hz2 rfl (by decide) v l.length (l.map (Value.int .i64)) hs (hown.alloc _) ⟨W.heap.size,0,none⟩ 1 1 [.int .i64 z] hx rfl (World.news_of_block (cs:=#[.int .i64 z]) (a0p W _)) (by simp[Value.oneCell']) (by unfold maxLen;omega) (by omega) (by simp;omega) ?_;intro v' w' h1 h2 _;refine h v' w' (by simpa using h1) (((Off.refl _ W).alloc _).grown h2 (fun k hk=>.inl (by simp[hk])))
theorem d1X{i:Nat}{cs:Array Value}{t:TypeId}{q:Nat × Nat}(h:W.heap[b]?=some (.cells cs t q))(v:Value):(W.setCell ⟨b,i,none⟩ v).heap[b]?=some (.cells (cs.setIfInBounds i v) t q):=by
 obtain⟨hlt,hk⟩:=Array.getElem?_eq_some_iff.1 h;show (W.heap.modify b _)[b]?=_;rw[Array.getElem?_eq_getElem (by rw[Array.size_modify];exact hlt),Array.getElem_modify_self,hk];rfl
theorem d1L{e z:Nat}{xs:List Value}(h:W.ownsRow B e z v n xs)(hb:v.ownBlock=some b)(o:Nat)(x:Value):(W.setCell ⟨b,o,none⟩ x).ownsRow B e z v n (xs.set o x):=by
 obtain⟨hlen,h2⟩:=h;rcases h2 with ⟨rfl,rfl⟩|⟨g,cap,cur,rfl,hB,hg,hnc,hcm,hcs,htk⟩
 ·cases hb
 ·have e1:g=b:=by simpa[Value.ownBlock] using hb
  subst e1;refine⟨by rw[List.length_set];exact hlen,.inr ⟨g,cap,cur.setIfInBounds o x,rfl,hB,d1X hg x,hnc,hcm,by rw[Array.size_setIfInBounds];exact hcs,?_⟩⟩;rw[Array.toList_setIfInBounds,List.take_set,htk]
theorem e9D:∀ (xs:List (Desk.Ent × Nat × Nat))(k:Nat)(hk:k<xs.length),((xs.flatMap c7a).set (k*6+1) (.int .i64 1)).set (k*6+5) (.int .i64 0)=(xs.set k (Desk.a0Q xs[k].1,xs[k].2)).flatMap c7a
 |[],k,hk=>absurd hk (by simp)
 |x :: r,0,_=>by simp[c7a,Desk.a0Q]
 |x :: r,k+1,hk=>by
  have ih:=e9D r k (by simpa using hk);have e1:(k+1)*6+1=(c7a x).length+(k*6+1):=by rw[d5V];omega
  have e2:(k+1)*6+5=(c7a x).length+(k*6+5):=by rw[d5V];omega
  rw[List.flatMap_cons,e1,e2,List.set_append,if_neg (by omega),Nat.add_sub_cancel_left,List.set_append,if_neg (by omega),Nat.add_sub_cancel_left,ih];rfl
theorem RD.a0C{xs:List (Desk.Ent × Nat × Nat)}(h:RD w d ts xs given now F)(hc:w.cell? ⟨d,1,none⟩=some (.slice (some ⟨E,0,none⟩) xs.length cap))(k:Nat)(hk:k<xs.length):
  RD ((w.setCell ⟨E,k*6+1,none⟩ (.int .i64 1)).setCell ⟨E,k*6+5,none⟩ (.int .i64 0)) d ts (xs.set k (Desk.a0Q xs[k].1,xs[k].2)) given now F/\E∈F/\E≠d:=by
 obtain⟨v1,a1,a2,a3⟩:=h.tv;obtain⟨v2,b1,b2,b3⟩:=h.ev;obtain rfl:v2=.slice (some ⟨E,0,none⟩) xs.length cap:=Option.some.inj (b1.symm.trans hc);obtain⟨hE,hEd⟩:=b3 E rfl;have k1:Off [E] w (w.setCell ⟨E,k*6+1,none⟩ (.int .i64 1)):=Off.set0 ..;have k2:Off [E] (w.setCell ⟨E,k*6+1,none⟩ (.int .i64 1)) ((w.setCell ⟨E,k*6+1,none⟩ (.int .i64 1)).setCell ⟨E,k*6+5,none⟩ (.int .i64 0)):=Off.set0 ..;have kk:=k1.trans k2;have hd:d ∉ [E]:=by simp;exact fun e=>hEd e.symm
 have p1:=d1L b2 (b:=E) rfl (k*6+1) (.int .i64 1);have p2:=d1L p1 (b:=E) rfl (k*6+5) (.int .i64 0);rw[e9D xs k hk] at p2
 have hne:v1.ownBlock≠some E:=by
  intro e;rcases b2.2 with ⟨hv,_⟩|⟨g,cp,cur,hv,_,hh,_⟩
  ·cases hv
  ·simp only[Value.slice.injEq,Option.some.injEq,Addr.mk.injEq] at hv;obtain⟨⟨rfl,_⟩,_⟩:=hv;exact c8L a2 hh (by decide) e
 refine⟨⟨⟨v1,kk.cell hd a1,a1i a2 kk (fun b hb=>by simp;intro e;subst e;exact hne hb),a3⟩,⟨_,kk.cell hd hc,by rw[List.length_set];exact p2,fun b hb=>b3 b hb⟩,kk.cell hd h.c2,kk.cell hd h.c3,fun o=>(kk.frozen hd (World.block_lt_of_cell? _ _ h.c2)).trans (h.fz o),h.dF,fun x hx=>?_⟩,hE,hEd⟩;obtain⟨j,hj,rfl⟩:=List.getElem_of_mem hx;rw[List.length_set] at hj;have key:∀ y∈xs,RSL ((w.setCell ⟨E,k*6+1,none⟩ (.int .i64 1)).setCell ⟨E,k*6+5,none⟩ (.int .i64 0)) y.2.1 y.1.a0e/\y.2.1 ∉ F/\y.2.1<((w.setCell ⟨E,k*6+1,none⟩ (.int .i64 1)).setCell ⟨E,k*6+5,none⟩ (.int .i64 0)).heap.size:=fun y hy=>⟨(h.sp y hy).1.off kk (by simp;intro e;exact (h.sp y hy).2.1 (e ▸ hE)),(h.sp y hy).2.1,Nat.lt_of_lt_of_le (h.sp y hy).2.2 kk.size⟩
 rw[List.getElem_set]
 split
 ·exact key xs[k] (zg hk)
 ·exact key xs[j] (zg hj)
theorem DD.a0C{s:Desk.St}{xs:List (Desk.Ent × Nat × Nat)}(h:DD w d s xs F)(hr:ER w d E cap a xs){k:Nat}(hk:k<xs.length){es':List Desk.Ent}(he:s.es.set k (Desk.a0Q xs[k].1)=es'):
  DD ((w.setCell ⟨E,k*6+1,none⟩ (.int .i64 1)).setCell ⟨E,k*6+5,none⟩ (.int .i64 0)) d { s with es:=es' } (xs.set k (Desk.a0Q xs[k].1,xs[k].2)) F/\E∈F/\E≠d:=by
 obtain rfl:=hr.a k hk;obtain⟨h1,h2⟩:=h.rd.a0C hr.c k hk;refine⟨⟨h1,?_,fun x hx=>zL (h.lt x hx) (Nat.le_trans (Off.set0 E w _ _).size (Off.set0 E _ _ _).size),h.tl,?_,?_⟩,h2⟩
 ·show _=es';rw[List.map_set,h.es,he]
 ·show es'.length<=60;rw[<- he,List.length_set];exact h.el
 ·intro e hx;rw[<- he] at hx;rcases List.mem_or_eq_of_mem_set hx with hx|rfl
  ·exact h.en e hx
  ·exact (h.en _ (h.es ▸ List.mem_map.2 ⟨_,List.getElem_mem hk,rfl⟩)).book
def f5U(x:Desk.Ent × Nat × Nat):Obj:=.cells #[.int .i64 x.1.id,.int .i64 x.1.kind,.string x.1.a0k,.int .i64 x.1.a0c,.slice (some ⟨x.2.1,0,none⟩) x.1.a0e.length x.2.2,.int .i64 x.1.a0Z] 58
def g0c(ys xs:List (Desk.Ent × Nat × Nat)):Prop:=∀ x∈ys,∃ z∈xs,x.2.1=z.2.1
theorem a6g(ts:List (ByteArray × Int)):∀ (r d:List Desk.Ent),(Desk.a0O ts d r).1.length=d.length+r.length/\(Desk.a0O ts d r).2.length<=r.length
 |[],d=>by simp[Desk.a0O]
 |e :: r,d=>by
  have a:=a6g ts r (d++[Desk.a0Q e]);have b:=a6g ts r (d++[e]);rw[Desk.a0O];simp only[List.length_append,List.length_cons,List.length_nil] at a b ⊢
  split
  ·simp only[List.length_cons];omega
  ·omega
theorem f2a{s:Desk.St}{xs:List (Desk.Ent × Nat × Nat)}(h:DD w d s xs F):
  Calls Tryz.prog 118 #[.pointer (some ⟨d,0,none⟩)] w fun e w'=>∃ v,e=.returned v/\w'.ownsRow w.heap.size 3 1 v (Desk.a0R s.ts s.es).2.length ((Desk.a0R s.ts s.es).2.map (Value.int .i64))/\(∃ xs',DD w' d { s with es:=(Desk.a0R s.ts s.es).1 } xs' F/\g0c xs' xs)/\Off F w w':=by
 obtain⟨i0,hi0,hz0,hz1,hz2⟩:=info_parts b1S;have H:=a0b h;have hel:=h.el;clear h
 go_enter Tryz.func118,Tryz.ntmps118
 go_wp2_with fail
 go_loopw [3,4,5,6] (fun v i _ _ wx=>∃ k:Nat,k<=s.es.length/\i=.int .i64 k/\∃ (done:List Desk.Ent) (got:List Int) (ys:List (Desk.Ent × Nat × Nat)),done.length=k/\(∀ y∈ys,∃ z∈xs,y.2.1=z.2.1)/\DD wx d { s with es:=done++s.es.drop k } ys F/\wx.ownsRow w.heap.size 3 1 v got.length (got.map (Value.int .i64))/\got.length<=k/\Desk.a0R s.ts s.es=((Desk.a0O s.ts done (s.es.drop k)).1,got++(Desk.a0O s.ts done (s.es.drop k)).2)/\Off F w wx) (fun _ i _ _ _=>s.es.length-(intOf i).toNat)
 case atStart=>exact⟨0,Nat.zero_le _,rfl,[],[],xs,rfl,fun y hy=>⟨y,hy,rfl⟩,H.out,World.ownsRow_nil _ _ _ _,Nat.zero_le _,by simp[Desk.a0R],Off.refl _ _⟩
 case round =>
  obtain⟨k,hk,rfl,done,got,ys,hdl,hsp,hd,hown,hgl,hgs,hof⟩:=hrel;obtain⟨a,cap,E,hr⟩:=hd.er;have cc:=hr.c;have hyl:ys.length=s.es.length:=by have:=hd.len;simp only[List.length_append,List.length_drop] at this;omega
  rw[hyl] at cc;have HD:=a0b (zA hd (zA hr (zA hown (zA hgs hof))));have hsz:=hof.size
  by_cases hlt:k<s.es.length
  ·have hky:k<ys.length:=by omega
   obtain rfl:=hr.a k hky;have r0:=hr.r k hky;have c0:=r0.c0;have c1:=r0.c1;have c2:=r0.c2;have c3:=r0.c3;have c4:=r0.c4;have c5:=r0.c5;have hi:(k:Int)<(s.es.length:Int):=by omega
   have hdr:=List.drop_eq_getElem_cons hlt
   have hye:ys[k].1=s.es[k]:=by
    have e1:(ys.map (·.1))[k]'(by simpa using hky)=ys[k].1:=List.getElem_map ..
    have e2:(ys.map (·.1))[k]?=some s.es[k]:=by rw[hd.es];show (done++s.es.drop k)[k]?=_;rw[List.getElem?_append_right (by omega),hdl,Nat.sub_self,hdr];rfl
    rw[List.getElem?_eq_getElem (by simpa using hky),Option.some.injEq] at e2;exact e1.symm.trans e2
   have heb:=hd.en s.es[k] (by show _∈done++s.es.drop k;rw[hdr];exact List.mem_append_right _ (List.mem_cons_self ..));have HY:=a0b (zA hye (zA hdr heb));have fE:=fun o=>hr.f o (by omega)
   clear hd hr hown hgs hof r0 hye hdr heb
   have hnext:∀ (e:Desk.Ent) (g2:List Int),Desk.a0O s.ts done (s.es[k] :: s.es.drop (k+1))=((Desk.a0O s.ts (done++[e]) (s.es.drop (k+1))).1,g2++(Desk.a0O s.ts (done++[e]) (s.es.drop (k+1))).2)->Desk.a0R s.ts s.es=((Desk.a0O s.ts (done++[e]) (s.es.drop (k+1))).1,(got++g2)++(Desk.a0O s.ts (done++[e]) (s.es.drop (k+1))).2):=by
    intro e g2 h1;have h2:=HD.out.2.2.2.1;rw[HY.out.2.1,h1] at h2;rw[h2];simp
   have NX:=a0b hnext;clear hnext
   have hstay:Desk.a0O s.ts done (s.es[k] :: s.es.drop (k+1))=Desk.a0O s.ts (done++[s.es[k]]) (s.es.drop (k+1))->∀ wx,Below wr.heap.size wr wx->∃ k_1:Nat,k_1<=s.es.length/\(Value.int .i64 ((k:Int)+1))=.int .i64 k_1/\∃ (done:List Desk.Ent) (got:List Int) (ys:List (Desk.Ent × Nat × Nat)),done.length=k_1/\(∀ y∈ys,∃ z∈xs,y.2.1=z.2.1)/\DD wx d { s with es:=done++s.es.drop k_1 } ys F/\wx.ownsRow w.heap.size 3 1 u3 got.length (got.map (Value.int .i64))/\got.length<=k_1/\Desk.a0R s.ts s.es=((Desk.a0O s.ts done (s.es.drop k_1)).1,got++(Desk.a0O s.ts done (s.es.drop k_1)).2)/\Off F w wx:=by
    intro h1 wx hb;refine⟨k+1,by omega,rfl,done++[s.es[k]],got,ys,by simp[hdl],hsp,?_,a1g HD.out.2.2.1 hb,by omega,by have:=NX.out s.es[k] [] (by rw[h1];simp);simpa using this,HD.out.2.2.2.2.trans (Off.of_below hb)⟩;have:=HD.out.1.later hb;rw[HY.out.2.1] at this
    simpa using this
   have ST:=a0b hstay;clear hstay
   by_cases hk3:s.es[k].kind=3
   ·have hq:(ys[k].1.kind != 3)=false:=by rw[HY.out.1];simp[hk3]
    have hX:Below wr.heap.size wr (wr.alloc (f5U ys[k])):=(zr _ _).alloc (zq _) _;have hE:(wr.alloc (f5U ys[k])).heap[wr.heap.size]?=some (f5U ys[k]):=a0p _ _;have RS:=a0b (HD.out.2.1.r k hky).sl;have K3:=a0b hk3;clear hk3
    go_upto_region 7 with fail
    change Code.wp _ _ _ _ (wr.alloc (f5U ys[k]));have HX:=a0b (zA hX hE);have f0:=e0T hE;have f2:=e0S hE;have f3:=e0R hE;have f4:=e0P hE;have cX:=a0a hX cc;have x1:=a0a hX c1;have x5:=a0a hX c5;clear hX hE c0 c2 c3 c4 c5 cc;generalize wr.alloc (f5U ys[k])=X at *;have DX:=a0b (HD.out.1.later HX.out.1);have FT:=a0b (DX.out.fits (u:=ys[k].1.a0c) (cb:=ys[k].2.2) ys[k].1.a0k (RS.out.later HX.out.1) (by rw[HY.out.1];have:=HY.out.2.2.sl;omega) (by rw[HY.out.1];have:=HY.out.2.2.u0;omega) (by rw[HY.out.1];exact HY.out.2.2.u1))
    go_wp2_with fail
    refine FT.out.mono ?_;rintro e w4 ⟨rfl,hb4⟩;have HB:=a0b hb4;have B4:=a0b (a0j HX.out.1 hb4 (zq _));have e4:Hid (s.ts=s.ts/\done++s.es.drop k=done++s.es[k] :: s.es.drop (k+1)):=⟨rfl,by rw[HY.out.2.1]⟩
    cases hf:Desk.a1e s.ts (done++s.es.drop k) ys[k].1.a0k ys[k].1.a0c ys[k].1.a0e
    ·have hg:Hid (Desk.a0O s.ts done (s.es[k] :: s.es.drop (k+1))=Desk.a0O s.ts (done++[s.es[k]]) (s.es.drop (k+1))):=by
      show _=_;rw[Desk.a0O,if_neg];rintro ⟨_,h2⟩;rw[HY.out.1,e4.out.2,h2] at hf
      cases hf
     clear hf hb4
     go_wp2_with fail
     go_roundw
     case rel=>exact ST.out hg.out _ B4.out
     case measure=>simp[intOf];omega
    ·have hg:Hid (Desk.a0O s.ts done (s.es[k] :: s.es.drop (k+1))=((Desk.a0O s.ts (done++[Desk.a0Q s.es[k]]) (s.es.drop (k+1))).1,[s.es[k].id]++(Desk.a0O s.ts (done++[Desk.a0Q s.es[k]]) (s.es.drop (k+1))).2)):=by
      show _=_;rw[Desk.a0O,if_pos ⟨K3.out,by rw[HY.out.1,e4.out.2] at hf;exact hf⟩];rfl
     have f0:=a0a hb4 f0;have cX:=a0a hb4 cX;have x1:=a0a hb4 x1;have x5:=a0a hb4 x5;have hN:wr.heap.size<w4.heap.size:=World.block_lt_of_cell? _ _ f0;have R4:=a0b (HD.out.2.1.later B4.out);have gE:=fun o=>R4.out.f o (by omega)
     have hEw:E<wr.heap.size:=World.block_lt_of_cell? _ _ c1;have hEN:E≠wr.heap.size:=by omega
     clear hf hb4 fE
     have bk:=(HD.out.1.later B4.out).a0C R4.out hky (es':=(done++[Desk.a0Q s.es[k]])++s.es.drop (k+1)) (by
      show (done++s.es.drop k).set k _=_
      rw[e4.out.2,HY.out.1,List.set_append,if_neg (by omega),hdl,Nat.sub_self,List.append_assoc];rfl)
     have BK:=a0b bk;clear bk;have hEd:=BK.out.2.2;have kE:Off F w4 ((w4.setCell ⟨E,k*6+1,none⟩ (.int .i64 1)).setCell ⟨E,k*6+5,none⟩ (.int .i64 0)):=((Off.refl F w4).setCell (.inl BK.out.2.1) _ _).setCell (.inl BK.out.2.1) _ _;have g0:=(zS _ ⟨E,k*6+5,none⟩ ⟨wr.heap.size,0,none⟩ (.int .i64 0) (by simp)).trans ((zS w4 ⟨E,k*6+1,none⟩ ⟨wr.heap.size,0,none⟩ (.int .i64 1) (by simp)).trans f0);have oz:=a1i (a1g HD.out.2.2.1 B4.out) kE (fun b hb hF=>by have:=H.out.lt b hF;have:=d0G HD.out.2.2.1 hb;omega);have fz:=(HD.out.2.2.2.2.trans (Off.of_below B4.out)).trans kE;have HZ:=a0b (zA BK.out.1 (zA oz fz));have hZ:=fz.size;clear kE oz fz BK
     go_upto_region 11 with fail
     generalize (World.setCell (World.setCell w4 _ _) _ _)=Z at *
     go_wp2_with (first|(at_builtin;refine g3H rfl _ _ rfl HZ.out.2.1 ys[k].1.id rfl rfl (by omega) hZ ?_;intro v' w' ho1 hk1))
     go_roundw
     case rel =>
      have h1:∀ b,u3.ownBlock=some b->w.heap.size<=b:=fun b hb=>d0G HD.out.2.2.1 hb
      refine⟨k+1,by omega,by go_num,done++[Desk.a0Q s.es[k]],got++[ys[k].1.id],_,by simp[hdl],fun y hy=>?_,HZ.out.1.off hk1 (fun x hx e=>?_) (fun y hy e=>?_),ho1,by simp;omega,by rw[HY.out.1];exact NX.out _ _ hg.out,HZ.out.2.2.trans' hk1 (fun x hx=>.inr (h1 x (by simpa using hx)))⟩
      ·rcases List.mem_or_eq_of_mem_set hy with hy|rfl
       ·exact hsp y hy
       ·exact hsp ys[k] (zg hky)
      ·have:=h1 x (by simpa using e);have:=H.out.lt x hx;omega
      ·have:=h1 y.2.1 (by simpa using e)
       have:∃ z∈xs,y.2.1=z.2.1:=by
        rcases List.mem_or_eq_of_mem_set hy with hy|rfl
        ·exact hsp y hy
        ·exact hsp ys[k] (zg hky)
       obtain⟨z,hz,e⟩:=this;have:=(H.out.rd.sp z hz).2.2;omega
     case measure=>simp[intOf];omega
   ·have hq:(ys[k].1.kind != 3)=true:=by rw[HY.out.1];simp[hk3]
    have hg:Hid (Desk.a0O s.ts done (s.es[k] :: s.es.drop (k+1))=Desk.a0O s.ts (done++[s.es[k]]) (s.es.drop (k+1))):=by
     show _=_;rw[Desk.a0O,if_neg (fun h=>hk3 h.1)]
    clear hk3
    go_wp2_with fail
    go_roundw
    case rel=>exact ST.out hg.out _ ((zr _ _).alloc (zq _) _)
    case measure=>simp[intOf];omega
  ·have hi:¬ (k:Int)<(s.es.length:Int):=by omega
   have e:s.es.drop k=[]:=List.drop_eq_nil_of_le (by omega)
   have HG:Hid (Desk.a0R s.ts s.es=(done,got)):=by
    have:=HD.out.2.2.2.1;rw[e] at this;exact this.trans (by simp[Desk.a0O])
   have HF:Hid (DD wr d { s with es:=done } ys F):=by
    have:=HD.out.1;rw[e,List.append_nil] at this;exact this
   clear hd hr hown hgs hof
   go_wp2_with fail
   go_ret;rw[HG.out];exact⟨u3,rfl,HD.out.2.2.1,⟨ys,HF.out,hsp⟩,HD.out.2.2.2.2⟩
open Desk (Ent St Rep a0g)
structure e2L(w:World)(v1 v2 v4:Value)(p:Rep):Prop where
 en:∃ l,EV w v1 l/\l.map (·.1)=p.entries
 da:NV w v2 p.days
 ed:NV w v4 p.ended
def d1S(w:World)(d:Nat)(F:List Nat)(xs:List (Ent × Nat × Nat))(q:St × Rep)(e:Ending)(w':World):Prop :=
 ∃ (v1 v2 v3 v4:Value) (xs':List (Ent × Nat × Nat)) (F' G:List Nat),e=.returned (a0s q.2.err 0 q.2.n v1 v2 v3 v4)/\(∀ w2,(∀ b∈G,w2.heap[b]?=w'.heap[b]?)->e2L w2 v1 v2 v4 q.2) /\
  w'.ownsRow w.heap.size 3 1 v3 q.2.granted.length (q.2.granted.map (Value.int .i64))/\DD w' d q.1 xs' F'/\(∀ k∈F',k∈F\/w.heap.size<=k)/\Off F w w' /\
  (∀ b∈G,w.heap.size<=b/\b<w'.heap.size/\b ∉ F'/\v3.ownBlock≠some b)/\(∀ b,v3.ownBlock=some b->b ∉ F'/\∀ x∈xs',x.2.1≠b)/\∀ x∈xs',(∃ y∈xs,x.2.1=y.2.1)\/w.heap.size<=x.2.1
abbrev c7N:Value:=.slice none 0 0
theorem NV.nil(w:World):NV w c7N []:=⟨⟨_,_,rfl⟩,fun k hk=>by simp at hk⟩
theorem EV.nil(w:World):EV w c7N []:=⟨⟨_,_,rfl⟩,fun k hk=>by simp at hk,by simp⟩
theorem e2L.nil(w:World){e a n:Int}{g:List Int}:e2L w c7N c7N c7N ⟨e,a,n,[],[],g,[]⟩:=⟨⟨[],EV.nil w,rfl⟩,NV.nil w,NV.nil w⟩
variable {w Z:World}{d:Nat}{s s':St}{xs:List (Ent × Nat × Nat)}{F F':List Nat}
theorem DD.plain(h:DD Z d s' xs' F')(hF:∀ k∈F',k∈F\/w.heap.size<=k)(k:Off F w Z)(hs:∀ x∈xs',(∃ y∈xs,x.2.1=y.2.1)\/w.heap.size<=x.2.1)(er n:Int):d1S w d F xs (s',⟨er,0,n,[],[],[],[]⟩) (.returned (a0s er 0 n c7N c7N c7N c7N)) Z :=
 ⟨c7N,c7N,c7N,c7N,xs',F',[],rfl,fun w2 _=>e2L.nil w2,World.ownsRow_nil _ _ _ _,h,hF,k,by simp,fun b hb=>by simp[Value.ownBlock] at hb,hs⟩
theorem DD.put7(h:DD Z d s' xs' F')(hF:∀ k∈F',k∈F\/w.heap.size<=k)(k:Off F w Z){Q:Nat}(hQ:w.heap.size<=Q)(hQF:Q ∉ F')(hQs:∀ x∈xs',x.2.1≠Q)(hs:∀ x∈xs',(∃ y∈xs,x.2.1=y.2.1)\/w.heap.size<=x.2.1)(er n:Int)(a b c e f g i:Value):d1S w d F xs (s',⟨er,0,n,[],[],[],[]⟩) (.returned (a0s er 0 n c7N c7N c7N c7N)) (a2w Z Q a b c e f g i) :=
 (h.off (a2R Z Q a b c e f g i) (fun x hx e=>hQF (by simp at e;exact e ▸ hx)) (fun x hx e=>hQs x hx (by simpa using e))).plain hF (k.trans' (a2R ..) (fun x hx=>by simp at hx;exact .inr (hx ▸ hQ))) hs er n
theorem DD.said(h:DD w d s xs F)(k:Below w.heap.size w Z){Q:Nat}(hQ:w.heap.size<=Q)(er n:Int)(a b c e f g i:Value):d1S w d F xs (s,⟨er,0,n,[],[],[],[]⟩) (.returned (a0s er 0 n c7N c7N c7N c7N)) (a2w Z Q a b c e f g i) :=
 (h.later k).put7 (fun _ hx=>.inl hx) (Off.of_below k) hQ (fun hx=>by have:=h.lt Q hx;omega) (fun x hx e=>by have:=(h.rd.sp x hx).2.2;omega) (fun x hx=>.inl ⟨x,hx,rfl⟩) er n a b c e f g i
theorem DD.fresh(h:DD w d s xs F){es':List Ent}(ho:Z.ownsRow B 58 6 v ys.length (ys.flatMap c7a))(hB:w.heap.size<=B)(k:Below w.heap.size w Z)(hs:∀ y∈ys,y∈xs)(hl:ys.length<=xs.length)(he:ys.map (·.1)=es'):
  DD (Z.setCell ⟨d,1,none⟩ v) d { s with es:=es' } ys (v.ownBlock.toList++F):=by
 have hZ:=h.later k;have hb:∀ b,v.ownBlock=some b->w.heap.size<=b/\b<Z.heap.size:=fun b hb=>⟨Nat.le_trans hB (d0G ho hb),c7O ho hb⟩
 have hd:d<w.heap.size:=h.lt d h.rd.dF;have kd:Off [d] Z (Z.setCell ⟨d,1,none⟩ v):=Off.set0 ..;obtain⟨v1,a1,a2,a3⟩:=hZ.rd.tv;obtain⟨v2,b1,b2,b3⟩:=hZ.rd.ev
 refine⟨⟨⟨v1,(zS _ _ _ _ (by simp)).trans a1,a1i a2 kd (fun b hb e=>(a3 b hb).2 (by simpa using e)),fun b hb=>⟨List.mem_append_right _ (a3 b hb).1,(a3 b hb).2⟩⟩,⟨v,World.cell?_setCell_same _ _ _ b1,d7F (a1i ho kd (fun b hq e=>by have:=(hb b hq).1;simp at e;omega)) (zN _),fun b hq=>⟨by simp[hq],fun e=>by have:=(hb b hq).1;omega⟩⟩,
  (zS _ _ _ _ (by simp)).trans hZ.rd.c2,(zS _ _ _ _ (by simp)).trans hZ.rd.c3,fun o=>(zF ..).trans (hZ.rd.fz o),List.mem_append_right _ h.rd.dF,fun x hx=>?_⟩,he,fun x hx=>?_,h.tl,?_,fun e hx=>?_⟩
 ·obtain⟨x1,x2,x3⟩:=h.rd.sp x (hs x hx);refine⟨((x1.later k).off kd (by simp;rintro rfl;exact x2 h.rd.dF)),fun e=>?_,Nat.lt_of_lt_of_le (zL x3 k.size) kd.size⟩;rcases List.mem_append.1 e with e|e
  ·have:=(hb _ (by simpa using e)).1;omega
  ·exact x2 e
 ·refine Nat.lt_of_lt_of_le ?_ kd.size;rcases List.mem_append.1 hx with e|e
  ·exact (hb x (by simpa using e)).2
  ·exact hZ.lt x e
 ·show es'.length<=60;have:=h.len;have:=h.el;rw[<- he,List.length_map];omega
 ·rw[<- he] at hx;obtain⟨y,hy,rfl⟩:=List.mem_map.1 hx;exact h.en _ (h.es ▸ List.mem_map.2 ⟨y,hs y hy,rfl⟩)
theorem Off.blw(h:Off [] w w'):Below w.heap.size w w':=⟨h.os,h.tape,h.output,h.size,fun k hk=>h.block k hk (by simp)⟩
theorem g2l{ops:Array Oper}{rest:List Oper}{o:Oper}{a:Act}{Q:Exit->Act->World->Prop}(hgd:o.guard=none)(x y:Operand)(ho:o.op=.call { callee:=.builtin .append,args:=#[x,y],argTypes:=#[56,56] }){l:List (Int × Int)}(hown:W.ownsRow B 60 2 v l.length (l.flatMap d0k))(z1 z2:Int){ty:TypeId}{mk:Nat × Nat}(hs:a.eval x=v)(hx:a.eval y=.slice (some ⟨W.heap.size,0,none⟩) 1 1)(hl:l.length<=1000000)(hB:B<=W.heap.size)
  (h:∀ g cap w',w'.ownsRow B 60 2 (.slice (some ⟨g,0,none⟩) (l.length+1) cap) (l.length+1) ((l++[(z1,z2)]).flatMap d0k)->Off v.ownBlock.toList W w'->wpList Tryz.prog ops Q rest (a.put o.dst (.slice (some ⟨g,0,none⟩) (l.length+1) cap)) w'):
  wpList Tryz.prog ops Q (o :: rest) a (W.alloc (.cells #[.int .i64 z1,.int .i64 z2] ty mk)):=by
 obtain⟨i0,hi0,hz0,hz1,hz2⟩:=info_parts b6Q;refine wpList_append_own _ hgd x y 56 ho B 60 i0 _ 2 16 Tryz.underlying56 hi0 hz0 hz1 hz2 rfl (by decide) v l.length (l.flatMap d0k) hs (hown.alloc _) ⟨W.heap.size,0,none⟩ 1 1 [.int .i64 z1,.int .i64 z2] hx rfl (World.news_of_block (cs:=#[.int .i64 z1,.int .i64 z2]) (a0p W _)) (by simp[Value.oneCell']) (by unfold maxLen;omega) (by omega) (by simp;omega) ?_;intro v' w' h1 h2 _;rcases h1.2 with ⟨_,h0⟩|⟨g,cap,_,rfl,_⟩
 ·omega
 ·refine h g cap w' (by rw[List.flatMap_append];exact h1) (((Off.refl _ W).alloc _).grown h2 (fun k hk=>.inl (by simp[hk])))
theorem RD.trim(h:RD w d ts xs given now F):RD w d ts xs given now (F.filter fun k=>decide (k<w.heap.size)):=by
 obtain⟨v1,a1,a2,a3⟩:=h.tv;obtain⟨v2,b1,b2,b3⟩:=h.ev;refine⟨⟨v1,a1,a2,fun k hk=>⟨List.mem_filter.2 ⟨(a3 k hk).1,by simpa using c7O a2 hk⟩,(a3 k hk).2⟩⟩,⟨v2,b1,b2,fun k hk=>⟨List.mem_filter.2 ⟨(b3 k hk).1,by simpa using c7O b2 hk⟩,(b3 k hk).2⟩⟩,h.c2,h.c3,h.fz,List.mem_filter.2 ⟨h.dF,?_⟩,fun x hx=>⟨(h.sp x hx).1,fun e=>(h.sp x hx).2.1 (List.mem_filter.1 e).1,(h.sp x hx).2.2⟩⟩;have:=World.block_lt_of_cell? _ _ h.c2
 simpa using this
theorem DD.a5d{Y:World}(h:DD Y d s xs F){x:Ent × Nat × Nat}(hx:EB x.1)(hl:s.es.length<60)(k:g3V Y d s.ts (xs++[({ x.1 with id:=s.given+1 },x.2)]) (s.given+1) s.now F Z):
  ∃ F',DD Z d (Desk.a2t s x.1).1 (xs++[({ x.1 with id:=s.given+1 },x.2)]) F'/\(∀ k∈F',k∈F\/Y.heap.size<=k)/\Off F Y Z:=by
 obtain⟨F',h1,h2,h3⟩:=k;refine⟨_,⟨h1.trim,?_,fun k hk=>by simpa using (List.mem_filter.1 hk).2,h.tl,?_,fun e he=>?_⟩,fun k hk=>h2 k (List.mem_filter.1 hk).1,h3⟩
 ·simp[Desk.a2t,h.es]
 ·simp[Desk.a2t];omega
 ·simp only[Desk.a2t,List.mem_append,List.mem_singleton] at he;rcases he with he|rfl
  ·exact h.en e he
  ·exact⟨hx.u0,hx.u1,hx.sl,hx.s0,hx.so⟩
theorem g3I{ops:Array Oper}{rest:List Oper}{o:Oper}{a:Act}{Q:Exit->Act->World->Prop}(hgd:o.guard=none)(x y:Operand)(ho:o.op=.call { callee:=.builtin .append,args:=#[x,y],argTypes:=#[34,34] }){l:List (Ent × Nat × Nat)}(hown:W.ownsRow B 58 6 v l.length (l.flatMap c7a))(z:Ent × Nat × Nat){ty:TypeId}{mk:Nat × Nat}(hs:a.eval x=v)(hx:a.eval y=.slice (some ⟨W.heap.size,0,none⟩) 1 1)(hl:l.length<=1000000)(hB:B<=W.heap.size)
  (h:∀ g cap w',w'.ownsRow B 58 6 (.slice (some ⟨g,0,none⟩) (l.length+1) cap) (l.length+1) ((l++[z]).flatMap c7a)->Off v.ownBlock.toList W w'->(v.ownBlock=some g\/W.heap.size<=g)->wpList Tryz.prog ops Q rest (a.put o.dst (.slice (some ⟨g,0,none⟩) (l.length+1) cap)) w'):
  wpList Tryz.prog ops Q (o :: rest) a (W.alloc (.cells #[.int .i64 z.1.id,.int .i64 z.1.kind,.string z.1.a0k,.int .i64 z.1.a0c,.slice (some ⟨z.2.1,0,none⟩) z.1.a0e.length z.2.2,.int .i64 z.1.a0Z] ty mk)):=by
 obtain⟨i0,hi0,hz0,hz1,hz2⟩:=info_parts e2i;refine wpList_append_lies _ hgd x y 34 ho B 58 i0 _ 6 72 Tryz.underlying34 hi0 hz0 hz1 hz2 rfl (by decide) v l.length (l.flatMap c7a) hs (hown.alloc _) ⟨W.heap.size,0,none⟩ 1 1 (c7a z) hx rfl (World.news_of_block (cs:=(c7a z).toArray) (a0p W _)) (by simp[c7a,Value.oneCell']) (by omega) (by unfold maxLen;omega) (by omega) (by simp;omega) (W.heap.size+1) (by simp) ?_;intro g cap w' h1 h2 h3 _;have e2:(l++[z]).flatMap c7a=l.flatMap c7a++c7a z:=by simp
 have:=h g cap w';rw[e2] at this;exact this h1 (((Off.refl _ W).alloc _).grown h2 (fun k hk=>.inl (by simp[hk]))) (h3.imp id (fun e=>by omega))
theorem d9z.snoc{y:Ent × Nat × Nat}(h:d9z w X v ys)(hy:RSL X y.2.1 y.1.a0e/\w.heap.size<=y.2.1/\y.2.1<X.heap.size/\v.ownBlock≠some y.2.1)(ho:w'.ownsRow w.heap.size 58 6 (.slice (some ⟨g,0,none⟩) (ys.length+1) cap) (ys.length+1) ((ys++[y]).flatMap c7a))(k:Off v.ownBlock.toList X w')(hat:v.ownBlock=some g\/X.heap.size<=g):d9z w w' (.slice (some ⟨g,0,none⟩) (ys.length+1) cap) (ys++[y]):=by
 refine⟨by rw[List.length_append];exact ho,fun z hz=>?_,⟨k.os.trans h.bw.os,k.tape.trans h.bw.tape,k.output.trans h.bw.output,Nat.le_trans h.bw.size k.size,fun b hb=>(k.block b (zL hb h.bw.size) (fun e=>?_)).trans (h.bw.block b hb)⟩⟩
 ·have hz':RSL X z.2.1 z.1.a0e/\w.heap.size<=z.2.1/\z.2.1<X.heap.size/\v.ownBlock≠some z.2.1:=by
   rcases List.mem_append.1 hz with hz|hz
   ·exact h.sl z hz
   ·have:z=y:=by simpa using hz
    subst this;exact hy
  obtain⟨z1,z2,z3,z4⟩:=hz';refine⟨z1.off k (by simpa using fun e=>z4 e),z2,Nat.lt_of_lt_of_le z3 k.size,?_⟩;simp only[Value.ownBlock,ne_eq,Option.some.injEq];rintro rfl;rcases hat with e|e
  ·exact z4 e
  ·omega
 ·have:=d0G h.own (k:=b) (by simpa using e);omega
def e2K(w:World)(v:Value)(es:List Ent)(w':World):Prop :=
 ∃ (l:List (Ent × Value)) (G:List Nat),l.map (·.1)=es/\(∀ w2,(∀ b∈G,w2.heap[b]?=w'.heap[b]?)->EV w2 v l)/\(∀ b∈G,w.heap.size<=b/\b<w'.heap.size)/\Below w.heap.size w w'
def g0T(y:Ent × Nat × Nat):Ent × Value:=(y.1,.slice (some ⟨y.2.1,0,none⟩) y.1.a0e.length y.2.2)
theorem RSL.sv(h:RSL w B L):SV w (.slice (some ⟨B,0,none⟩) L.length cap) L:=⟨⟨_,_,rfl⟩,fun k hk=>⟨B,cap,rfl,h k hk⟩⟩
theorem g0R{zs:List (Ent × Nat × Nat)}(ha:zs≠[]->a=some ⟨g,0,none⟩)(hr:∀ (i:Nat)(hi:i<zs.length),RE w' g i zs[i].1 zs[i].2.1 zs[i].2.2)(hg:zs≠[]->w.heap.size<=g/\g<w'.heap.size)(hb:∀ z∈zs,w.heap.size<=z.2.1/\z.2.1<w'.heap.size)(k:Below w.heap.size w w'):e2K w (.slice a zs.length cap) (zs.map (·.1)) w':=by
 refine⟨zs.map g0T,(if zs=[] then [] else [g])++zs.map (·.2.1),by simp[g0T,Function.comp_def],fun w2 hG=>?_,fun b hb2=>?_,k⟩
 ·have hc:∀ b o u,b∈(if zs=[] then [] else [g])++zs.map (·.2.1)->w'.cell? ⟨b,o,none⟩=some u->w2.cell? ⟨b,o,none⟩=some u:=fun b o u hb2 hu=>(zo (hG b hb2)).trans hu
  refine⟨⟨a,cap,by simp⟩,fun i hi=>?_,fun p hp=>?_⟩
  ·have hi':i<zs.length:=by simpa using hi
   have hne:zs≠[]:=by rintro rfl;simp at hi'
   have q:=hr i hi'
   have hgm:g∈(if zs=[] then [] else [g])++zs.map (·.2.1):=by simp[hne]
   refine⟨g,cap,by rw[ha hne];simp,?_⟩;simp only[List.getElem_map,g0T];exact⟨hc _ _ _ hgm q.c0,hc _ _ _ hgm q.c1,hc _ _ _ hgm q.c2,hc _ _ _ hgm q.c3,hc _ _ _ hgm q.c4,hc _ _ _ hgm q.c5⟩
  ·obtain⟨z,hz,rfl⟩:=List.mem_map.1 hp;obtain⟨i,hi,rfl⟩:=List.getElem_of_mem hz;refine RSL.sv (fun j hj=>?_);have q:=(hr i hi).sl j hj;have hm:zs[i].2.1∈(if zs=[] then [] else [g])++zs.map (·.2.1):=List.mem_append_right _ (List.mem_map.2 ⟨_,hz,rfl⟩);exact⟨hc _ _ _ hm q.1,hc _ _ _ hm q.2⟩
 ·rcases List.mem_append.1 hb2 with e|e
  ·by_cases hz:zs=[]
   ·simp[hz] at e
   ·simp[hz] at e;subst e;exact hg hz
  ·obtain⟨z,hz,rfl⟩:=List.mem_map.1 e;exact hb z hz
structure KP(w wx:World)(L:List (Nat × Obj)):Prop where
 bl:Below w.heap.size w wx
 kb:∀ q∈L,wx.heap[q.1]?=some q.2
 lo:∀ q∈L,w.heap.size<=q.1
 nd:(L.map (·.1)).Nodup
variable {w wx wy:World}{L L':List (Nat × Obj)}{b:Nat}{o:Obj}{cs:Array Value}{t:TypeId}{m:Nat × Nat}
theorem KP.nil(w:World):KP w w []:=⟨zr _ _,by simp,by simp,by simp⟩
theorem KP.lt(h:KP w wx L){q:Nat × Obj}(hq:q∈L):q.1<wx.heap.size:=(Array.getElem?_eq_some_iff.1 (h.kb q hq)).1
theorem KP.later(h:KP w wx L)(k:Below wx.heap.size wx wy):KP w wy L:=⟨a0j h.bl k (zq _),fun q hq=>(k.block _ (h.lt hq)).trans (h.kb q hq),h.lo,h.nd⟩
theorem KP.alloc(h:KP w wx L)(o:Obj):KP w (wx.alloc o) ((wx.heap.size,o) :: L):=by
 have k:=h.later ((zr _ _).alloc (zq _) o);refine⟨k.bl,fun q hq=>?_,fun q hq=>?_,?_⟩
 ·rcases List.mem_cons.1 hq with rfl|hq
  ·exact a0p _ _
  ·exact k.kb q hq
 ·rcases List.mem_cons.1 hq with rfl|hq
  ·exact h.bl.size
  ·exact h.lo q hq
 ·rw[List.map_cons,List.nodup_cons];refine⟨fun e=>?_,h.nd⟩;obtain⟨q,hq,e⟩:=List.mem_map.1 e;have:=h.lt hq;omega
theorem KP.put(h:KP w wx ((b,.cells cs t m) :: L))(i:Nat)(v:Value):KP w (wx.setCell ⟨b,i,none⟩ v) ((b,.cells (cs.setIfInBounds i v) t m) :: L):=by
 have k:Off [b] wx (wx.setCell ⟨b,i,none⟩ v):=Off.set0 ..;have hb:=h.lo _ (List.mem_cons_self ..);have nd:=h.nd;rw[List.map_cons,List.nodup_cons] at nd;refine⟨h.bl.setCell hb v,fun q hq=>?_,fun q hq=>?_,h.nd⟩
 ·rcases List.mem_cons.1 hq with rfl|hq
  ·exact d1X (h.kb _ (List.mem_cons_self ..)) v
  ·refine (k.block _ (h.lt (List.mem_cons_of_mem _ hq)) (fun e=>nd.1 (List.mem_map.2 ⟨q,hq,?_⟩))).trans (h.kb q (List.mem_cons_of_mem _ hq))
   simpa using e
 ·rcases List.mem_cons.1 hq with rfl|hq
  ·exact hb
  ·exact h.lo q (List.mem_cons_of_mem _ hq)
theorem KP.perm(h:KP w wx L)(p:L.Perm L'):KP w wx L':=⟨h.bl,fun q hq=>h.kb q (p.mem_iff.2 hq),fun q hq=>h.lo q (p.mem_iff.2 hq),(p.map _).nodup_iff.1 h.nd⟩
theorem KP.swap{q r:Nat × Obj}(h:KP w wx (q :: r :: L)):KP w wx (r :: q :: L):=h.perm (List.Perm.swap ..)
theorem KP.cell(h:KP w wx L)(hq:(b,Obj.cells cs t m)∈L)(i:Nat)(hv:cs[i]?=some v):wx.cell? ⟨b,i,none⟩=some v:=by
 have:=h.kb _ hq;simp only at this;simp[World.cell?,this,hv]
theorem KP.frozen(h:KP w wx L)(hq:(b,Obj.cells cs t)∈L)(i:Nat):wx.frozen? ⟨b,i,none⟩=false:=by
 have:=h.kb _ hq;simp only at this;simp[World.frozen?,this]
theorem KP.g0s(h:KP w wx ((b,.cells #[a0,a1,a2,a3,a4,a5] t m) :: L))(v0 v1 v2 v3 v4 v5:Value):KP w ((((((wx.setCell ⟨b,0,none⟩ v0).setCell ⟨b,1,none⟩ v1).setCell ⟨b,2,none⟩ v2).setCell ⟨b,3,none⟩ v3).setCell ⟨b,4,none⟩ v4).setCell ⟨b,5,none⟩ v5) ((b,.cells #[v0,v1,v2,v3,v4,v5] t m) :: L):=by
 have:=(((((h.put 0 v0).put 1 v1).put 2 v2).put 3 v3).put 4 v4).put 5 v5
 simpa using this
theorem KP.hc(h:KP w wx ((b,.cells cs t m) :: L))(i:Nat)(hv:cs[i]?=some v):wx.cell? ⟨b,i,none⟩=some v:=h.cell (List.mem_cons_self ..) i hv
theorem KP.hf(h:KP w wx ((b,.cells cs t) :: L))(i:Nat):wx.frozen? ⟨b,i,none⟩=false:=h.frozen (List.mem_cons_self ..) i
theorem KP.six(h:KP w wx ((b,.cells #[a0,a1,a2,a3,a4,a5] t m) :: L)):wx.cell? ⟨b,0,none⟩=some a0/\wx.cell? ⟨b,1,none⟩=some a1/\wx.cell? ⟨b,2,none⟩=some a2/\wx.cell? ⟨b,3,none⟩=some a3/\wx.cell? ⟨b,4,none⟩=some a4/\wx.cell? ⟨b,5,none⟩=some a5 :=
 ⟨h.hc 0 rfl,h.hc 1 rfl,h.hc 2 rfl,h.hc 3 rfl,h.hc 4 rfl,h.hc 5 rfl⟩
theorem f9I{w4:World}{o:Obj}(h:Below (W.alloc o).drew.heap.size (W.alloc o).drew w4):w4.heap[W.heap.size]?=some o:=(h.block _ (by simp)).trans (a0p _ _)
theorem d1S.up{Z:World}{Q:Nat}{q:St × Rep}{e:Ending}(h:d1S X d F ys q e Z)(kX:Below w.heap.size w X)(hQ:w.heap.size<=Q)(hQX:Q<X.heap.size)(hF:∀ k∈F,k<w.heap.size)(hY:∀ y∈ys,y.2.1<w.heap.size)(h7:Q7 X Q):
  ∃ (a1 a2 a3 a4:Option Addr) (n1 n2 n3 n4 c1 c2 c3 c4:Nat),e=.returned (a0s q.2.err 0 q.2.n (.slice a1 n1 c1) (.slice a2 n2 c2) (.slice a3 n3 c3) (.slice a4 n4 c4))/\Q7 Z Q/\d1S w d F ys q e (a2w Z Q (.int .i64 q.2.err) (.int .i64 0) (.int .i64 q.2.n) (.slice a1 n1 c1) (.slice a2 n2 c2) (.slice a3 n3 c3) (.slice a4 n4 c4)):=by
 obtain⟨v1,v2,v3,v4,xs,F',G,he,hT,h3,hD,hF',hO,hG,h3F,hS⟩:=h;have T:=hT Z (fun _ _=>rfl);obtain⟨l,hl,_⟩:=T.en;obtain⟨a1,c1,e1⟩:=hl.form;obtain⟨a2,c2,e2⟩:=T.da.form;obtain⟨a3,c3,e3⟩:=c9y h3;obtain⟨a4,c4,e4⟩:=T.ed.form;subst e1 e2 e3 e4;have hQF:Q ∉ F:=fun e=>by have:=hF Q e;omega
 have hsz:=kX.size;refine⟨a1,a2,a3,a4,_,_,_,_,c1,c2,c3,c4,he,h7.later (hO.block Q hQX hQF),?_⟩;have k7:=a2R Z Q (.int .i64 q.2.err) (.int .i64 0) (.int .i64 q.2.n) (.slice a1 l.length c1) (.slice a2 q.2.days.length c2) (.slice a3 q.2.granted.length c3) (.slice a4 q.2.ended.length c4);have hx:∀ x,X.heap.size<=x->x ∉ [Q]:=fun x hx e=>by simp at e;omega
 have hF2:∀ x∈F',x ∉ [Q]:=fun x hx'=>by
  rcases hF' x hx' with e|e
  ·intro e2;simp at e2;exact hQF (e2 ▸ e)
  ·exact hx x e
 have hd:=hD.rd;refine⟨_,_,_,_,xs,F',G,he,fun w2 h2=>hT w2 (fun b hb=>(h2 b hb).trans (k7.block b (hG b hb).2.1 (hx b (hG b hb).1))),d7F (a1i h3 k7 (fun b hb=>hx b (d0G h3 hb))) hsz,hD.off k7 hF2 (fun x hx' e=>?_),fun k hk=>(hF' k hk).imp id (fun e=>by omega),((Off.of_below kX).trans hO).trans' k7 (fun x hx'=>.inr (by simp at hx';omega)),fun b hb=>?_,h3F,fun x hx'=>(hS x hx').imp id (fun e=>by omega)⟩
 ·have e2:x.2.1=Q:=by simpa using e
  rcases hS x hx' with ⟨y,hy,e3⟩|e3
  ·have:=hY y hy;omega
  ·omega
 ·obtain⟨g1,g2,g3,g4⟩:=hG b hb;exact⟨by omega,Nat.lt_of_lt_of_le g2 k7.size,g3,g4⟩
def e2E:List (ByteArray × Nat):=[(⟨#[116,104,105,110,103]⟩,172),(⟨#[98,111,111,107]⟩,173),(⟨#[104,111,108,100]⟩,173),(⟨#[119,97,105,116]⟩,173),(⟨#[115,101,114,105,101,115]⟩,174),(⟨#[99,111,110,102,105,114,109]⟩,175),(⟨#[99,97,110,99,101,108]⟩,175),(⟨#[108,105,115,116]⟩,177),(⟨#[112,101,97,107]⟩,177),(⟨#[102,105,110,100]⟩,178)]
theorem d0J(h:DD w d s xs F){f:Nat}{kw:ByteArray}{q:St × Rep}(hn:0<n)(h0:w.cell? ⟨g,0,none⟩=some (.string kw))(hf:(kw,f)∈e2E)(C:∀ X,Below w.heap.size w X->Calls Tryz.prog f #[.pointer (some ⟨d,0,none⟩),.slice (some ⟨g,0,none⟩) n c] X (d1S X d F xs q)):
  Calls Tryz.prog 117 #[.pointer (some ⟨d,0,none⟩),.slice (some ⟨g,0,none⟩) n c] w (d1S w d F xs q):=by
 have P0:=a0b ((KP.nil w).alloc a0f);have HL:=a0b (zA h.lt (fun y hy=>(h.rd.sp y hy).2.2));have i0:(0:Int)<(n:Int):=by omega
 have y0:=a0a P0.out.bl h0;have hQ:w.heap.size<(w.alloc a0f).heap.size:=by simp
 have CC:=a0b (C _ P0.out.bl);clear h C h0;simp only[e2E,List.mem_cons,Prod.mk.injEq,List.not_mem_nil,or_false] at hf;rcases hf with ⟨rfl,rfl⟩|⟨rfl,rfl⟩|⟨rfl,rfl⟩|⟨rfl,rfl⟩|⟨rfl,rfl⟩|⟨rfl,rfl⟩|⟨rfl,rfl⟩|⟨rfl,rfl⟩|⟨rfl,rfl⟩|⟨rfl,rfl⟩
 all_goals
  go_enter Tryz.func117,Tryz.ntmps117
  go_upto_region 1 with fail
  change Code.wp _ _ _ _ (w.alloc a0f);generalize w.alloc a0f=X at *
  go_wp2_with fail
  refine CC.out.mono ?_;intro e w2 hA;obtain⟨a1,a2,a3,a4,n1,n2,n3,n4,c1,c2,c3,c4,rfl,h7,hA⟩:=hA.up P0.out.bl (zq _) hQ HL.out.1 HL.out.2 (Q7.of (P0.out.kb (w.heap.size,a0f) (by simp)));have HA:=a0b hA;obtain⟨q0,q1,q2,q3,q4,q5,q6,fq⟩:=h7;clear hA y0 CC;simp only[a0s]
  go_wp2_with fail
  exact bodyPost_ret (v:=a0s q.2.err 0 q.2.n (.slice a1 n1 c1) (.slice a2 n2 c2) (.slice a3 n3 c3) (.slice a4 n4 c4)) (by simp[results,Tryz.results117,go_sem,a0s,q0,q1,q2,q3,q4,q5,q6]) rfl HA.out
theorem e7i(h:DD w d s xs F)(hn:0<n)(h0:w.cell? ⟨g,0,none⟩=some (.string ⟨#[99,108,111,99,107]⟩)):
  Calls Tryz.prog 117 #[.pointer (some ⟨d,0,none⟩),.slice (some ⟨g,0,none⟩) n c] w (d1S w d F xs (a0g s .clock)):=by
 have P0:=a0b ((KP.nil w).alloc a0f);have H:=a0b h;have i0:(0:Int)<(n:Int):=by omega
 have y0:=a0a P0.out.bl h0;have n3:=(h.later P0.out.bl).rd.c3;have HF:Hid (d1S w d F xs (a0g s .clock) (.returned (a0s 0 0 s.now c7N c7N c7N c7N)) (a2w (w.alloc a0f) w.heap.size (.int .i64 0) (.int .i64 0) (.int .i64 s.now) c7N c7N c7N c7N)):=h.said P0.out.bl (zq _) 0 s.now _ _ _ _ _ _ _;clear h h0
 go_enter Tryz.func117,Tryz.ntmps117
 go_upto_region 1 with fail
 change Code.wp _ _ _ _ (w.alloc a0f);generalize w.alloc a0f=X at *;obtain⟨q0,q1,q2,q3,q4,q5,q6,fq⟩:=Q7.of (P0.out.kb (w.heap.size,a0f) (by simp))
 go_wp2_with fail
 exact bodyPost_ret (v:=a0s 0 0 s.now c7N c7N c7N c7N) (by simp[results,Tryz.results117,go_sem,a0s,c7N,q0,q1,q2,q3,q4,q5,q6]) rfl HF.out
open Desk (Ent St Rep a0g a0R)
def DDo(w:World)(d:Nat)(F:List Nat)(xs:List (Ent × Nat × Nat))(q:St × Rep)(e:Ending)(w':World):Prop :=
 ∃ (v1 v2 v3 v4:Value) (xs':List (Ent × Nat × Nat)) (F':List Nat),e=.returned (a0s q.2.err q.2.at_ q.2.n v1 v2 v3 v4)/\e2L w' v1 v2 v4 q.2/\NV w' v3 q.2.granted/\DD w' d q.1 xs' F'/\(∀ k∈F',k∈F\/w.heap.size<=k)/\Off F w w'/\∀ x∈xs',(∃ y∈xs,x.2.1=y.2.1)\/w.heap.size<=x.2.1
theorem NV.own(h:w.ownsRow B 3 1 v n (l.map (Value.int .i64))):NV w v l:=by
 obtain⟨a,cap,g,rfl,rfl,ha,hc⟩:=e1E h;exact⟨⟨_,_,rfl⟩,fun k hk=>⟨g,cap,by rw[ha (by intro e;simp[e] at hk)],hc k hk⟩⟩
theorem e2L.gr{v1 v2 v4:Value}{p:Rep}(h:e2L w v1 v2 v4 p)(g:List Int):e2L w v1 v2 v4 { p with granted:=g }:=⟨h.en,h.da,h.ed⟩
def fin(q:St × Rep):St × Rep:=if q.2.err≠0 then q else ({ q.1 with es:=(a0R q.1.ts q.1.es).1 },{ q.2 with granted:=q.2.granted++(a0R q.1.ts q.1.es).2 })
theorem e3Y(h:DD w d s xs F)(t:ByteArray){er at_:Int}(he:er≠0)(hR:∀ X,Calls Tryz.prog 78 #[.string t] X fun e w'=>e=.returned (.tuple #[.slice none 0 0,.slice none 0 0,.int .i64 er,.int .i64 at_])/\Below X.heap.size X w'):
  Calls Tryz.prog 75 #[.pointer (some ⟨d,0,none⟩),.string t] w (DDo w d F xs (s,⟨er,at_,0,[],[],[],[]⟩)):=by
 have P0:=a0b ((KP.nil w).alloc a0f);have H:=a0b h;have RD:=a0b hR;have he':(er != 0)=true:=by simpa using he
 clear h hR he
 go_enter Tryz.func75,Tryz.ntmps75
 go_upto_region 1 with fail
 change Code.wp _ _ _ _ (w.alloc a0f);generalize w.alloc a0f=X at *
 go_wp2_with fail
 refine (RD.out _).mono ?_;rintro e w1 ⟨rfl,hb1⟩;replace P0:=a0b (P0.out.later hb1)
 have HF:Hid (DDo w d F xs (s,⟨er,at_,0,[],[],[],[]⟩) (.returned (a0s er at_ 0 c7N c7N c7N c7N)) (a2w w1 w.heap.size (.int .i64 er) (.int .i64 at_) (.int .i64 0) c7N c7N c7N c7N)):=by
  have k7:=a2R w1 w.heap.size (.int .i64 er) (.int .i64 at_) (.int .i64 0) c7N c7N c7N c7N;have hx:∀ x,x<w.heap.size->x ∉ [w.heap.size]:=fun x hx e=>by simp at e;omega
  exact⟨c7N,c7N,c7N,c7N,xs,F,rfl,e2L.nil _,NV.nil _,(H.out.later P0.out.bl).off k7 (fun x h1=>hx x (H.out.lt x h1)) (fun x h1=>hx _ (H.out.rd.sp x h1).2.2),fun _ h1=>.inl h1,(Off.of_below P0.out.bl).trans' k7 (fun x h1=>.inr (by simp at h1;omega)),fun x h1=>.inl ⟨x,h1,rfl⟩⟩
 obtain⟨q0,q1,q2,q3,q4,q5,q6,fq⟩:=Q7.of (P0.out.kb (w.heap.size,a0f) (by simp));clear hb1
 go_wp2_with fail
 exact bodyPost_ret (v:=a0s er at_ 0 c7N c7N c7N c7N) (by simp[results,Tryz.results75,go_sem,a0s,c7N,q0,q1,q2,q3,q4,q5,q6]) rfl HF.out
theorem f1l(h:DD w d s xs F)(t:ByteArray)(ht:t.size<=160){p:List ByteArray}(hp:g0V t=(some p,0))(hne:0<(Txt.a1v t).length){q:St × Rep}(h0:q.2.at_=0)(hg:q.2.granted.length<=50000)
  (C:∀ X g c,Below w.heap.size w X->(∀ (j:Nat) (hj:j<(Txt.a1v t).length),X.cell? ⟨g,j,none⟩=some (.string (Txt.a1v t)[j]))->Calls Tryz.prog 117 #[.pointer (some ⟨d,0,none⟩),.slice (some ⟨g,0,none⟩) (Txt.a1v t).length c] X (d1S X d F xs q)):
  Calls Tryz.prog 75 #[.pointer (some ⟨d,0,none⟩),.string t] w (DDo w d F xs (fin q)):=by
 have P0:=a0b ((KP.nil w).alloc a0f);have H:=a0b h;have HC:=a0b C;have HP:=a0b hp;clear h C hp
 go_enter Tryz.func75,Tryz.ntmps75
 go_upto_region 1 with fail
 change Code.wp _ _ _ _ (w.alloc a0f);generalize w.alloc a0f=X at *
 go_wp2_with fail
 refine (d4Z t X ht).mono ?_;rintro e w1 ⟨hr,hb1⟩;rcases hr with ⟨p',a,b,c,d',g,h',hsc,rfl,ra,rb⟩|⟨m,hsc,rfl⟩
 case' inr=>rw[HP.out] at hsc;cases hsc
 obtain rfl:=ra.at_ hne;replace P0:=a0b (P0.out.later hb1);have DC:=a0b (HC.out w1 g c P0.out.bl ra.cells);clear hb1 ra rb hsc
 go_wp2_with fail
 refine DC.out.mono ?_;intro e w2 hA;have hQ1:w.heap.size<w1.heap.size:=P0.out.lt (q:=(w.heap.size,a0f)) (by simp);have h7:=Q7.of (P0.out.kb (w.heap.size,a0f) (by simp));obtain⟨v1,v2,v3,v4,xs',F',G,rfl,hT,h3,hD,hF',hO,hG,h3F,hS⟩:=hA;have T:=hT w2 (fun _ _=>rfl);obtain⟨l,hl,_⟩:=T.en;obtain⟨a1,c1,rfl⟩:=hl.form;obtain⟨a2,c2,rfl⟩:=T.da.form;obtain⟨a3,c3,rfl⟩:=c9y h3;obtain⟨a4,c4,rfl⟩:=T.ed.form;have hQF:w.heap.size ∉ F:=fun e=>by have:=H.out.lt _ e;omega
 have hw12:=hO.size;have hQF':w.heap.size ∉ F':=fun e=>by rcases hF' _ e with e|e;exact hQF e;omega
 have h72:=h7.later (hO.block _ hQ1 hQF)
 have hsp:∀ x∈xs',x.2.1≠w.heap.size/\x.2.1<w2.heap.size:=fun x hx=>⟨fun e=>by
  rcases hS x hx with ⟨y,hy,e2⟩|e2
  ·have:=(H.out.rd.sp y hy).2.2;omega
  ·omega,(hD.rd.sp x hx).2.2⟩
 have hS2:∀ x∈xs',(∃ y∈xs,x.2.1=y.2.1)\/w.heap.size<=x.2.1:=fun x hx=>(hS x hx).imp id (fun e=>by omega)
 have hw2:Off F w w2:=(Off.of_below P0.out.bl).trans hO;have KR:=(KP.nil w2).alloc (.cells #[.int .i64 q.2.err,.int .i64 0,.int .i64 q.2.n,.slice a1 l.length c1,.slice a2 q.2.days.length c2,.slice a3 q.2.granted.length c3,.slice a4 q.2.ended.length c4] 40);have hZs:w2.heap.size<(w2.alloc (.cells #[.int .i64 q.2.err,.int .i64 0,.int .i64 q.2.n,.slice a1 l.length c1,.slice a2 q.2.days.length c2,.slice a3 q.2.granted.length c3,.slice a4 q.2.ended.length c4] 40)).heap.size:=by simp
 have A:=a0b (zA hT (zA h3 (zA hD (zA hF' (zA hO (zA hG (zA h3F (zA hsp (zA hS2 (zA hw2 h72))))))))));clear T hl hT h3 hD hF' hO hG h3F hS hsp hS2 hw2 h72 h7 DC HC;simp only[a0s]
 go_upto_region 5 with fail
 have HK:=a0b KR;have r0:=KR.hc 0 rfl;have r1:=KR.hc 1 rfl;have r2:=KR.hc 2 rfl;have r3:=KR.hc 3 rfl;have r4:=KR.hc 4 rfl;have r5:=KR.hc 5 rfl;have r6:=KR.hc 6 rfl;have rf:=KR.hf;clear KR;generalize w2.alloc _=Z at *;have kZ:=HK.out.bl;have Q2:=a0b (A.out.2.2.2.2.2.2.2.2.2.2.later (kZ.block _ (by omega)));have DZ:=a0b (A.out.2.2.1.later kZ);have WZ:=a0b (A.out.2.2.2.2.2.2.2.2.2.1.trans (Off.of_below kZ))
 by_cases he:q.2.err=0
 ·have he':(q.2.err != 0)=false:=by simp[he]
  have GR:=a0b (f2a DZ.out);have E9:Hid (fin q=({ q.1 with es:=(a0R q.1.ts q.1.es).1 },{ q.2 with granted:=q.2.granted++(a0R q.1.ts q.1.es).2 })):=by show _=_;unfold fin;rw[if_neg (by simp[he])]
  have hgl:Hid ((a0R q.1.ts q.1.es).2.length<=60):=by
   have:=(a6g q.1.ts q.1.es []).2;have:=DZ.out.el;show (Desk.a0O _ _ _).2.length<=60;omega
  have HE:=a0b he;clear he kZ
  go_wp2_with fail
  refine GR.out.mono ?_;rintro e w3 ⟨v5,rfl,h5,⟨xs3,hD3,hB3⟩,hO3⟩;obtain⟨a5,c5,rfl⟩:=c9y h5;obtain⟨hT,h3,hD,hF',hO,hG,h3F,hsp,hS2,hw2,h72⟩:=A.out;have kZ:=HK.out.bl;have hRF:w2.heap.size ∉ F':=fun e=>by have:=hD.lt _ e;omega
  have h33:=a1i (a1g h3 kZ) hO3 (fun b hb=>(h3F b hb).1);have hz3:=hO3.size;have n3:a2I w3 w1.heap.size (fun _=>none) (.slice a3 q.2.granted.length c3) q.2.granted:=⟨h33,fun _ _=>rfl⟩;have n5:a2I w3 w1.heap.size (fun _=>none) (.slice a5 (a0R q.1.ts q.1.es).2.length c5) (a0R q.1.ts q.1.es).2:=⟨d7F h5 (by omega),fun _ _=>rfl⟩;obtain⟨v6,w4,hrun,n6,hgrow,hat⟩:=n3.append n5 (by omega) (fun _ _=>rfl) (by have:=hgl.out;omega);obtain⟨a6,c6,rfl⟩:=c9y n6.own;have h3b:∀ b,(Value.slice a3 q.2.granted.length c3).ownBlock=some b->w1.heap.size<=b/\b<w2.heap.size:=fun b hb=>⟨d0G h3 hb,c7O h3 hb⟩
  have k4:Off (Value.slice a3 q.2.granted.length c3).ownBlock.toList w3 w4:=(Off.refl _ w3).grown hgrow (fun k hk=>.inl (by simp[hk]));have h3t:∀ x∈(Value.slice a3 q.2.granted.length c3).ownBlock.toList,(Value.slice a3 q.2.granted.length c3).ownBlock=some x:=fun x hx=>by simpa using hx
  have bR:w4.heap[w2.heap.size]?=Z.heap[w2.heap.size]?:=(k4.block _ (by omega) (fun e=>by have:=(h3b _ (h3t _ e)).2;omega)).trans (hO3.block _ (by omega) hRF);have bQ:w4.heap[w.heap.size]?=Z.heap[w.heap.size]?:=(k4.block _ (by omega) (fun e=>by have:=(h3b _ (h3t _ e)).1;omega)).trans (hO3.block _ (by omega) hQF');have s0:=(zo (a:=⟨w2.heap.size,0,none⟩) bR).trans r0;have s1:=(zo (a:=⟨w2.heap.size,1,none⟩) bR).trans r1;have s2:=(zo (a:=⟨w2.heap.size,2,none⟩) bR).trans r2;have s3:=(zo (a:=⟨w2.heap.size,3,none⟩) bR).trans r3;have s4:=(zo (a:=⟨w2.heap.size,4,none⟩) bR).trans r4;have s5:=(zo (a:=⟨w2.heap.size,5,none⟩) bR).trans r5;have s6:=(zo (a:=⟨w2.heap.size,6,none⟩) bR).trans r6;have t5:=(zo (a:=⟨w2.heap.size,5,none⟩) (hO3.block _ (by omega) hRF)).trans r5;have sf:w4.frozen? ⟨w2.heap.size,5,none⟩=false:=by have:=rf 5;simp only[World.frozen?,bR];exact this
  have hRQ:w2.heap.size≠w.heap.size:=by omega
  obtain⟨q0,q1,q2,q3,q4,q5,q6,fq⟩:=Q2.out.later bQ;obtain⟨N6,hN6⟩:∃ N6,N6=(q.2.granted++(a0R q.1.ts q.1.es).2).length:=⟨_,rfl⟩
  have HF:Hid (∀ Y,Y=w4.setCell ⟨w2.heap.size,5,none⟩ (.slice a6 N6 c6)->DDo w d F xs ({ q.1 with es:=(a0R q.1.ts q.1.es).1 },{ q.2 with granted:=q.2.granted++(a0R q.1.ts q.1.es).2 }) (.returned (a0s q.2.err 0 q.2.n (.slice a1 l.length c1) (.slice a2 q.2.days.length c2) (.slice a6 N6 c6) (.slice a4 q.2.ended.length c4))) (a2w Y w.heap.size (.int .i64 q.2.err) (.int .i64 0) (.int .i64 q.2.n) (.slice a1 l.length c1) (.slice a2 q.2.days.length c2) (.slice a6 N6 c6) (.slice a4 q.2.ended.length c4))):=by
   rw[hN6];rintro Y rfl;have k5:Off [w2.heap.size] w4 (w4.setCell ⟨w2.heap.size,5,none⟩ (.slice a6 (q.2.granted++(a0R q.1.ts q.1.es).2).length c6)):=Off.set0 ..;have k7:=a2R (w4.setCell ⟨w2.heap.size,5,none⟩ (.slice a6 (q.2.granted++(a0R q.1.ts q.1.es).2).length c6)) w.heap.size (.int .i64 q.2.err) (.int .i64 0) (.int .i64 q.2.n) (.slice a1 l.length c1) (.slice a2 q.2.days.length c2) (.slice a6 (q.2.granted++(a0R q.1.ts q.1.es).2).length c6) (.slice a4 q.2.ended.length c4);have k57:=(k5.mono (G:=[w2.heap.size,w.heap.size]) (by simp)).trans (k7.mono (by simp));have hz4:=k4.size;have n7:∀ x,x∈[w2.heap.size,w.heap.size]->x=w2.heap.size\/x=w.heap.size:=fun x hx=>by simpa using hx
   have hx3:∀ x∈xs3,∃ z∈xs',x.2.1=z.2.1:=hB3
   have hD4:=(hD3.off k4 (fun x hx e=>(h3F x (h3t x e)).1 hx) (fun x hx e=>by
    obtain⟨z,hz,e2⟩:=hx3 x hx
    exact (h3F _ (h3t _ e)).2 z hz e2.symm)).off k57 (fun x hx e=>by
     rcases n7 x e with rfl|rfl
     ·exact hRF hx
     ·exact hQF' hx) (fun x hx e=>by
     obtain⟨z,hz,e2⟩:=hx3 x hx;have:=hsp z hz
     rcases n7 _ e with e3|e3 <;> omega)
   refine⟨_,_,_,_,xs3,F',by rw[h0],(hT _ (fun b hb=>?_)).gr _,NV.own (a1i n6.own k57 (fun b hb e=>?_)),hD4,fun k hk=>(hF' k hk).imp id (fun e=>by omega),(((WZ.out.trans' hO3 (fun x hx=>(hF' x hx).imp id (fun e=>by omega))).trans' k4 (fun x hx=>.inr (by have:=(h3b x (h3t x hx)).1;omega))).trans' k57 (fun x hx=>.inr (by rcases n7 x hx with e|e <;> omega))),fun x hx=>?_⟩
   ·obtain⟨g1,g2,g3,g4⟩:=hG b hb;refine (k57.block b (by omega) (fun e=>by rcases n7 b e with e|e <;> omega)).trans ((k4.block b (by omega) (fun e=>g4 (h3t b e))).trans ((hO3.block b (by omega) g3).trans (kZ.block b g2)))
   ·have h8:b<w2.heap.size/\w1.heap.size<=b\/w3.heap.size<=b:=by
     rcases hat with e2|e2
     ·rw[e2] at hb;exact .inl ⟨(h3b b hb).2,(h3b b hb).1⟩
     ·rw[e2] at hb;simp only[Option.some.injEq] at hb;exact .inr (by omega)
    rcases n7 b e with e|e <;> omega
   ·obtain⟨z,hz,e2⟩:=hx3 x hx;rw[e2];exact hS2 z hz
  rw[<- hN6] at hrun;have HR:=a0b hrun;clear hT h3 hD hF' hO hG h3F hsp hS2 hw2 h72 h33 n3 n5 n6 hgrow hat h3b k4 h3t bR bQ hrun h5 hD3 hB3 hO3 A r0 r1 r2 r3 r4 r5 r6 rf kZ hN6
  go_wp2_with (first|(at_builtin;refine d6i rfl _ _ 38 _ rfl (HR.out _) ?_))
  exact bodyPost_ret (v:=a0s q.2.err 0 q.2.n (.slice a1 l.length c1) (.slice a2 q.2.days.length c2) (.slice a6 N6 c6) (.slice a4 q.2.ended.length c4)) (by simp[results,Tryz.results75,go_sem,a0s,q0,q1,q2,q3,q4,q5,q6]) rfl (by rw[E9.out];exact HF.out _ rfl)
 ·have he':(q.2.err != 0)=true:=by simpa using he
  have E9:Hid (fin q=q):=by show _=_;unfold fin;rw[if_pos he]
  have HF:Hid (DDo w d F xs q (.returned (a0s q.2.err 0 q.2.n (.slice a1 l.length c1) (.slice a2 q.2.days.length c2) (.slice a3 q.2.granted.length c3) (.slice a4 q.2.ended.length c4))) (a2w Z w.heap.size (.int .i64 q.2.err) (.int .i64 0) (.int .i64 q.2.n) (.slice a1 l.length c1) (.slice a2 q.2.days.length c2) (.slice a3 q.2.granted.length c3) (.slice a4 q.2.ended.length c4))):=by
   have k7:=a2R Z w.heap.size (.int .i64 q.2.err) (.int .i64 0) (.int .i64 q.2.n) (.slice a1 l.length c1) (.slice a2 q.2.days.length c2) (.slice a3 q.2.granted.length c3) (.slice a4 q.2.ended.length c4);obtain⟨hT,h3,hD,hF',hO,hG,h3F,hsp,hS2,hw2,h72⟩:=A.out;refine⟨_,_,_,_,xs',F',by rw[h0],hT _ (fun b hb=>(k7.block b (zL (hG b hb).2.1 kZ.size) (fun e=>by have:=(hG b hb).1;simp at e;omega)).trans (kZ.block b (hG b hb).2.1)),NV.own (a1i (a1g h3 kZ) k7 (fun b hb e=>by have:=d0G h3 hb;simp at e;omega)),DZ.out.off k7 (fun x hx e=>hQF' (by simp at e;exact e ▸ hx)) (fun x hx e=>(hsp x hx).1 (by simpa using e)),fun k hk=>(hF' k hk).imp id (fun e=>by omega),WZ.out.trans' k7 (fun x hx=>.inr (by simp at hx;omega)),hS2⟩
  obtain⟨q0,q1,q2,q3,q4,q5,q6,fq⟩:=Q2.out;clear he A
  go_wp2_with fail
  exact bodyPost_ret (v:=a0s q.2.err 0 q.2.n (.slice a1 l.length c1) (.slice a2 q.2.days.length c2) (.slice a3 q.2.granted.length c3) (.slice a4 q.2.ended.length c4)) (by simp[results,Tryz.results75,go_sem,a0s,q0,q1,q2,q3,q4,q5,q6]) rfl (by rw[E9.out];exact HF.out)
end Go.Proofs.YtfigmlfdnickmaaGreatDoor
