import Derived.Test.YtfigmlfdnickmaaGreatDoorL07
import Derived.Test.YtfigmlfdnickmaaGreatDoorRows
import Derived.Test.YtfigmlfdnickmaaGreatDoorCards
import Derived.Test.YtfigmlfdnickmaaGreatDoorTie
import Derived.RangeFuncCalls
import Derived.Lib.ItoaNum
import Derived.Deep.RegionHeld3
import Derived.Deep.AppendLies
import Derived.WalkKit
import Derived.ProofKit
import Derived.Deep.DeepWitnessRowRef
import Derived.LaidLaws
import Derived.OpenShut
import Derived.Deep.Slices
import Derived.Deep.DeepHandedRow
import Derived.Lib.LaidTab
import Derived.Lib.LaidU8
import Derived.Shelf.Vars
set_option maxRecDepth 100000
set_option maxHeartbeats 8000000
open Go.Proofs.Tryz
open _root_ renaming ByteArray->U3,List->U4,Option->U5,Bool->U6,Nat->U7,Int->U8,if_neg->U9,if_pos->Va,absurd->Vb
open Option renaming none->Vc,some->Vd,mem_toList->WV
open Bool renaming false->Ve,true->Vf,false_eq_true->Vw,and_eq_true->W6,not_eq_true'->ZJ
open Go renaming World->Vg,Value->Vh,Calls->Vj,TypeId->Vl,Value->Zf
open Go.RowKit renaming Below->Vi
open Nat renaming le_trans->Vp,le_refl->Vm,zero_le->Wg,le_of_eq->ZX
open Array renaming getElem?_eq_some_iff->Y8,length_toList->ZK,getElem?_eq_none->WC
open Go.Boxed renaming new->Zu
open Go.World renaming size_alloc->WW,block_lt_of_cell?->Vq,news_of_block->WL,cell?->VK
open Go.Region renaming wanted->YH
open Go.Value renaming slice->Zd,oneCell'->WM,string->YZ
open List renaming mem_singleton->YC,cons_append->VM,map->ZH,map_append->Wq,append_assoc->VY,getElem?_eq_getElem->Xa,drop_eq_getElem_cons->WN,length_eq_zero_iff->V8,foldl_append->XI,foldl_cons->W8,getElem?_eq_some_iff->ZR,getElem?_take->Xh,mem_map->Wk,drop_of_length_le->ZS,getD->Wr,mem_cons_self->Yd,mem_cons_of_mem->WU,mem_cons->Vz,mem_flatMap->ZY,not_mem_nil->ZZ
open Go.AllReadyIn renaming cons->ZF,nil->ZG
open Go.ByteArray renaming toList_eq->ZI
open ByteArray renaming empty->YM,size_append->ZM
open Option.some renaming inj->WX
open Go.Lib renaming decDigits->ZL,tabData->ZV
open Go.Sort renaming grow->ZN
open ByteArray.mk renaming injEq->ZO
open Go.Op renaming stringOp->ZP
open Int renaming natCast_nonneg->Y5
open Go.Addr renaming add->ZQ
open Go.Exit renaming inBlock->WE
open List.Perm renaming refl->ZT
open Go.Joins renaming ownsRow_form->Yp
open Prod.mk renaming inj->ZU
open Go.DataW renaming lit->ZW
namespace Go.Proofs.YtfigmlfdnickmaaGreatDoor
variable{b wr:U6}{k name sym x:U3}{B:U3->U6}{ev' fr mi mn pc pc' ti ti' til un un':U8}{l tl:U4 (aA.aL × Zf)}{L:U4 (U8 × U8)}{ps:U4 (U4 U3)}{E H K Q R p q ws:U4 U3}{acc acc':U4 U8}{xs:U4 Zf}{c1 d e g i m mm n:U7}{s s' st:U7 × U6}{aM:U7->U5 aW}{a1:U5 Addr}{r:Raw}{v v':Zf}{W W' w w' w1 w2 w3:Vg}
open Go.RowKit Go.Shelf
open aA (aL St dB kept dZ cS cN gC cA bW gI ec gv nj Inv uniq)
attribute [local go_sem] Oper.semAt_some
structure LI(w W:Vg)(s:St)(aM:U7->U5 aW)(M:U4 aE.It):Prop where
 bx:∃ v l,Boxed W (w.heap.size+1) 34 v/\gH W (w.heap.size+5) aM v l/\jJ s M l
 bl:Vi w.heap.size w W
 sz:w.heap.size+5<=W.heap.size
theorem Gu{row:U5 U7}{B size:U7}(h:W.ownsRow B e size v n xs)(j:W.grownBy W' row)(f:∀ r,row=Vd r->∃ o:Obj,W.heap[r]?=Vd o/\o.isCells=Ve):W'.ownsRow B e size v n xs:=by
 refine h.kept j ?_;rcases h.2 with ⟨rfl,_⟩|⟨g,cap,y,rfl,_,a,_⟩
 ·exact .inl rfl
 ·refine .inr fun u=>?_
  obtain⟨o,c,t⟩:=f g (by simpa[Value.ownBlock] using u.symm);rw[a] at c;cases c;cases t
theorem Oa(w:Vg)(s:St)(r:Raw)(aM:U7->U5 aW){B:U7}(y:w.heap.size<=B):OwnFrom B (fun (pre:U4 {x:aE.It // QI r x}) W=>LI w W s aM (pre.map (·.1))):=by
 intro pre W W' row h f a;have j:∀ r,row=Vd r->∃ o:Obj,W.heap[r]?=Vd o/\o.isCells=Ve:=fun r e=>(a r e).2
 obtain⟨v,l,u,c,tl⟩:=h.bx;exact⟨⟨v,l,xX u f j,⟨Gu c.own f j,c.no,fun p t=>⟨⟨Gu (c.sp p t).1.own f j,(c.sp p t).1.no⟩,(c.sp p t).2⟩,c.pw⟩,tl⟩,h.bl.grown f h.bl.size (fun k e=>Vp y (a k e).1),Vp h.sz f.size⟩
theorem RN{B:U7}(h:Vi W.heap.size W W'):KeepsFrom B W W':=⟨h.size,fun k _ _ a _=>(h.block k (Y8.1 a).1).trans a⟩
theorem SF(X:Vg)(p x y:Vh)(a c f:Vl):Vi X.heap.size X (((X.alloc (.cells #[p] a)).alloc (.cells #[x] c)).alloc (.cells #[y] f)).drew/\(((X.alloc (.cells #[p] a)).alloc (.cells #[x] c)).alloc (.cells #[y] f)).drew.cell? ⟨X.heap.size,0,Vc⟩=Vd p/\(((X.alloc (.cells #[p] a)).alloc (.cells #[x] c)).alloc (.cells #[y] f)).drew.cell? ⟨X.heap.size+1,0,Vc⟩=Vd x/\(((X.alloc (.cells #[p] a)).alloc (.cells #[x] c)).alloc (.cells #[y] f)).drew.cell? ⟨X.heap.size+2,0,Vc⟩=Vd y/\(((X.alloc (.cells #[p] a)).alloc (.cells #[x] c)).alloc (.cells #[y] f)).drew.heap.size=X.heap.size+3:=by
 have o:=Zu X a p;have j:=Zu (X.alloc (.cells #[p] a)) c x;have h:=Zu ((X.alloc (.cells #[p] a)).alloc (.cells #[x] c)) f y;simp only[WW] at j h;exact⟨((((zr _ X).alloc (zq _) _).alloc UU _).alloc UZ _).drew,((o.alloc _).alloc _).cell,(j.alloc _).cell,h.cell,by rw[heap_drew];simp⟩
theorem yL{F:Fence}{P:Program}(w:Vg){C:Array Oper}{o:Oper}{a:Act}{K:Act->Vg->Prop}{Q:Exit->Act->Vg->Prop}{E:Prop}
  (X:o.guard=Vc) (s x:Operand) (t:Vl) (A:o.op=Op.call { callee:=Callee.builtin Builtin.append,args:=#[s,x],argTypes:=#[t,t] })
  (y:U7) (e:Vl) (i:TypeInfo) (z:Vh) (size h:U7) (h1:P.underlying t=Vd (.slice e)) (h2:P.info? e=Vd i) (h3:i.zero=Vd z) (h4:i.size=size) (h5:i.bytes=h) (h6:z.cells.size=size) (h7:0<size)
  (v:Vh) (k:U7) (xs:U4 Vh) (U:a.eval s=v) (G:w.ownsRow y e size v k xs) (M:Addr) (m c:U7) (f:U4 Vh) (S:a.eval x=.slice (Vd M) m c) (V:f.length=m*size)
  (Y:∀ j u,f[j]?=Vd u->w.cell? (M.add j)=Vd u) (J:∀ u∈f,u.oneCell'=Vf) (b1:k+m<=maxLen) (b2:(k+m)*h<=140737488355328) (b3:y<=w.heap.size)
  (Z:∀ v' w',w'.ownsRow y e size v' (k+m) (xs++f)->w.grownBy w' v.ownBlock->K (a.put o.dst v') w'):
  if YH o (yielded C a.tmps)=Vf then Oper.wpIn F n P o a w K Q else E:=by
 have T:YH o (yielded C a.tmps)=Vf:=by simp[YH,X]
 rw[Va T];obtain⟨v',w',D,O,N,r3⟩:=run_append_own (P:=P) w y t o.type e i z size h h1 h2 h3 h4 h5 h6 h7 v k xs G M m c f V Y J b1 b2 b3;unfold Oper.wpIn;refine⟨?_,?_⟩
 ·simp[Oper.about,A,resolve,Target.leads,Sem.run_pure]
 ·rw[Oper.semAt_plain F _ _ (by rw[A];intro c I;cases I)];simp[execOp,A,resolve,invoke,builtin,U,S,D,Result.andThen];exact Z v' w' O N
theorem xY{b:U7}(h:W.cell? ⟨b,i,Vc⟩=Vd v)(o:Obj):(W.alloc o).cell? ⟨b,i,Vc⟩=Vd v:=(zo (w:=W) (Below.heap_alloc _ o _ (Vq _ _ h))).trans h
theorem xC{s:St}{M:U4 aE.It}(h:LI w W s aM M)(u:Boxed W (w.heap.size+1) 34 (.slice a1 tl.length c1))(z:gH W (w.heap.size+5) aM (.slice a1 tl.length c1) tl)(j:Vi W.heap.size W w1)(f:Vi w1.drew.heap.size w1.drew w2)(o:Obj)
  (a:(w2.alloc o).grownBy w3 (Zd a1 tl.length c1).ownBlock):Boxed w3 (w.heap.size+1) 34 (.slice a1 tl.length c1):=by
 have A:=h.sz;have t:Vi W.heap.size W w1.drew:=j.drew;have c:Vi W.heap.size W w2:=t.trans (f.mono t.size);have y:Boxed w2 (w.heap.size+1) 34 (.slice a1 tl.length c1):=(c.block _ UT).trans u;exact (y.alloc o).kept a (fun e=>by have:=(z.own.lt _ e.symm).1;omega)
theorem xD{s:St}{M:U4 aE.It}{B:U7}(h:LI w W s aM M)(V:Boxed W (w.heap.size+1) 34 (.slice a1 tl.length c1))(S:gH W (w.heap.size+5) aM (.slice a1 tl.length c1) tl)(I:jJ s M tl)(P:Vi W.heap.size W w1){e:aL}{sp:Vh}(Y:w2.ownsRow w1.drew.heap.size 60 2 sp e.aK.length (e.aK.flatMap fA))(O:Vi w1.drew.heap.size w1.drew w2)(o:Obj)
  (y:(w2.alloc o).grownBy w3 (Zd a1 tl.length c1).ownBlock) (D:w3.ownsRow (w.heap.size+5) 58 6 v' (tl.length+1) (tl.flatMap ef++ef (e,sp))) (hc:∀ b,w.heap.size<=b->aM b=Vc) {z:aE.It}(ha:tl.any (fun p=>p.1.id==z.n)=Ve) (he:e∈s.es) (Z:e.id=z.n):
  KeepsFrom B W (w3.setCell ⟨w.heap.size+1,0,Vc⟩ v')/\Vi w.heap.size W (w3.setCell ⟨w.heap.size+1,0,Vc⟩ v')/\LI w (w3.setCell ⟨w.heap.size+1,0,Vc⟩ v') s aM (M++[z]):=by
 have U:=h.sz;have J:Vi W.heap.size W w1.drew:=P.drew;have a:Vi W.heap.size W w2:=J.trans (O.mono J.size);have j:aF (Zd a1 tl.length c1).ownBlock.toList w2 w3:=aF.grown ((aF.refl _ w2).alloc _) y (fun k t=>.inl (WV.2 t));have E3:=S.um (Joins.ownsRow_le Y J.size) a U (fun b A=>hc b UT) j D;have f:∀ b,(Zd a1 tl.length c1).ownBlock=Vd b->w.heap.size+5<=b:=fun b A=>(S.own.lt b A).1
 have C:=aF.aY (w.heap.size+1) w3 0 v'
 have X:∀ b,b<W.heap.size->b≠w.heap.size+1->(Zd a1 tl.length c1).ownBlock≠Vd b->(w3.setCell ⟨w.heap.size+1,0,Vc⟩ v').heap[b]?=W.heap[b]?:=fun b A h1 h2=>by
  rw[C.block b (zL (zL A a.size) j.size) (fun c=>h1 (YC.1 c)),j.block b (zL A a.size) (fun c=>h2 (WV.1 c)),a.block b A]
 have N:Boxed w3 (w.heap.size+1) 34 (.slice a1 tl.length c1):=(j.block _ (by have:=a.size;omega) (fun c=>by have:=f _ (WV.1 c);omega)).trans ((a.block _ UT).trans V);have u:W.heap.size<=(w3.setCell ⟨w.heap.size+1,0,Vc⟩ v').heap.size:=Vp a.size (Vp j.size C.size);have G:Vi w.heap.size W (w3.setCell ⟨w.heap.size+1,0,Vc⟩ v'):=⟨C.os.trans (j.os.trans a.os),C.tape.trans (j.tape.trans a.tape),C.output.trans (j.output.trans a.output),u,fun b A=>X b UT UT (fun c=>by have:=f _ c;omega)⟩;refine⟨⟨u,fun k o' _ t F=>(X k (Y8.1 t).1 (fun T=>?_) (fun T=>?_)).trans t⟩,G,⟨⟨v',tl++[(e,sp)],N.set v',E3.off C (fun x c=>by have:=YC.1 c;omega),I.new ha he Z sp⟩,h.bl.trans G,Vp U u⟩⟩
 ·subst T;rw[show W.heap[w.heap.size+1]?=_ from V] at t
  cases t;cases F
 ·obtain⟨cs,q,e2⟩:=Bf S.own T;rw[e2] at t
  cases t;cases F
def Fm(Q:Exit->Act->Vg->Prop):Exit->Act->Vg->Prop
 |.panic _,_,_=>False
 |.normal,a,w=>Q .normal a w
 |.ret,a,w=>Q .ret a w
 |.exit i,a,w=>Q (.exit i) a w
 |.goto t,a,w=>Q (.goto t) a w
 |.outgrown,a,w=>Q .outgrown a w
theorem Qm{Q:Exit->Act->Vg->Prop}:∀ e a w,Fm Q e a w->Q e a w
 |.panic _,_,_,h=>h.elim
 |.normal,_,_,h=>h
 |.ret,_,_,h=>h
 |.exit _,_,_,h=>h
 |.goto _,_,_,h=>h
 |.outgrown,_,_,h=>h
theorem QQ{Q:Exit->Act->Vg->Prop}{a:Act}(h:Q .ret a w):Fm Q .ret a w:=h
theorem H9{s:St}(h:dS w d s r aM)(hi:i<r.tg.length)(a b:U8):
  Vj prog 151 #[.pointer (Vd ⟨r.tg[i].tb,0,Vc⟩),.agg #[.int .i64 a,.int .i64 b]] w fun e w'=>∃ v l,e=.returned v/\l.map (·.1)=aA.kS r.tg[i].name a b s.es/\gH w' w.heap.size aM v l/\Vi w.heap.size w w':=by
 obtain⟨i0,aj,ag,af,ae⟩:=info_parts SX;obtain⟨ul,us,Fl,Fs,th,az⟩:=h.dk.th i hi;have HH:=aC h;have a3:r.tg[i].tb<w.heap.size:=Vq _ _ th.c0;have xa:((w.alloc (.cells #[.int .i64 a,.int .i64 b] 60)).alloc (.cells #[.slice Vc 0 0] 34)).cell? ⟨w.heap.size,0,Vc⟩=Vd (.int .i64 a):=UU
 have xb:((w.alloc (.cells #[.int .i64 a,.int .i64 b] 60)).alloc (.cells #[.slice Vc 0 0] 34)).cell? ⟨w.heap.size,1,Vc⟩=Vd (.int .i64 b):=UU
 have bt:=Zu (w.alloc (.cells #[.int .i64 a,.int .i64 b] 60)) 34 (.slice Vc 0 0);have hX:Vi w.heap.size w ((w.alloc (.cells #[.int .i64 a,.int .i64 b] 60)).alloc (.cells #[.slice Vc 0 0] 34)):=((zr _ _).alloc (zq _) _).alloc UU _;have an:((w.alloc (.cells #[.int .i64 a,.int .i64 b] 60)).alloc (.cells #[.slice Vc 0 0] 34)).heap.size=w.heap.size+2:=UU
 rw[WW] at bt;have HX:=aC (zA hX (zA an bt));have HT:=aC th;clear h th hX bt;refine (callsIn_wide (n:=3)).1 ?_;refine callsIn_of_wp_marks func151 rfl trivial ?_ rfl;simp only[ntmps151,List.size_toArray,List.length_cons,List.length_nil,Nat.reduceAdd,Nat.reduceSub,Array.replicate_succ,Array.replicate_zero,List.push_toArray,List.append_toArray,List.nil_append,VM];refine wpIn_wide.2 (Code.wp_mono Qm ?_);generalize r.tg[i].tb=tb at *
 go_upto_region 2 with fail
 change Code.wp _ _ _ _ ((w.alloc (.cells #[.int .i64 a,.int .i64 b] 60)).alloc (.cells #[.slice Vc 0 0] 34));generalize (w.alloc (.cells #[.int .i64 a,.int .i64 b] 60)).alloc (.cells #[.slice Vc 0 0] 34)=X at *;have ME:=aC (Td (Vd ⟨tb,3,Vc⟩) a b X.drew);have ax:X.drew.heap.size=w.heap.size+2:=an;rw[ax] at ME
 go_region_with (first
  |(go_at_call 207;refine ME.out.mono ?_;rintro e w1 ⟨rfl,rfl⟩))
 all_goals
  obtain⟨k0,z1,z2,z3,z4⟩:=SF X (.pointer (Vd ⟨tb,3,Vc⟩)) (.int .i64 a) (.int .i64 b) 301 3 3;rw[an] at z1 z2 z3 z4
  go_wp2_with fail
  generalize (((X.alloc (.cells #[.pointer (Vd ⟨tb,3,Vc⟩)] 301)).alloc (.cells #[.int .i64 a] 3)).alloc (.cells #[.int .i64 b] 3)).drew=Z at *;have BZ:Vi w.heap.size w Z:=HX.out.1.trans (k0.mono HX.out.1.size);have L0:Hid (LI w Z s aM ([]:U4 aE.It)):=⟨⟨_,[],(k0.block _ UT).trans HX.out.2.2,gH.nil _ _ _,jJ.nil s⟩,BZ,by omega⟩;have ai:=Ia r (aE.meet a b r.tg[i].T) (fun z hz=>RU HH.out.of HH.out.dk.ni hi hz);generalize xt r (aE.meet a b r.tg[i].T) _=xs at ai;have MS:=aC (RV 2 r (w.heap.size+2) (w.heap.size+2+1) (w.heap.size+2+2) w.heap.size tb 3 us a b r.tg[i].T Fs xs ai Z z1 z2 z3 (aN BZ HT.out.c3) (HT.out.sp.fk BZ (fun k hk=>HT.out.lt k (by simp[hk]))) (fun k hk=>HT.out.lt k (by simp[hk])) UT);have ay:=aC ai;have h5:w.heap.size<=Z.heap.size:=UT
  clear k0 z1 z2 z3 ai xa xb ME;refine (wpIn_wide (n:=3)).1 ?_
  refine wpIn_rangeFunc_ownG rfl UT (gf:=254) (lb:=#[.pointer (Vd ⟨w.heap.size+2,0,Vc⟩),.pointer (Vd ⟨w.heap.size+2+1,0,Vc⟩),.pointer (Vd ⟨w.heap.size+2+2,0,Vc⟩)]) rfl trivial (enters_of func254 UY rfl) MS.out belowK_t (belowK_b h5) (zr _ _) (fun _=>rfl)
   (fun pre W=>LI w W s aM (pre.map (·.1))) (fun _ _ _=>False) (Oa w s r aM h5) (fun _ _ _ _ _ hs _ _=>hs) L0.out
   (fun x=>{ tmps:=#[.pointer (Vd ⟨tb,0,Vc⟩),.agg #[.int .i64 a,.int .i64 b],undef,.pointer (Vd ⟨w.heap.size,0,Vc⟩),.slice Vc 0 0,.pointer (Vd ⟨w.heap.size+1,0,Vc⟩),.pointer (Vd ⟨x.1.v,0,Vc⟩),.pointer (Vd ⟨tb,0,Vc⟩),.pointer (Vd ⟨tb,0,Vc⟩),.pointer (Vd ⟨tb,3,Vc⟩),.pointer (Vd ⟨w.heap.size,0,Vc⟩),.int .i64 a,.pointer (Vd ⟨w.heap.size,1,Vc⟩),.int .i64 b,.func (.func 254) #[] #[.pointer (Vd ⟨w.heap.size+2,0,Vc⟩),.pointer (Vd ⟨w.heap.size+2+1,0,Vc⟩),.pointer (Vd ⟨w.heap.size+2+2,0,Vc⟩)],.pointer (Vd ⟨x.1.v,0,Vc⟩),undef,undef,undef,undef,undef,undef,undef,undef,undef,undef,undef],defers:=[] }) ?assign ?body ?done ?stop
  case assign =>
   intro l x W K o
   gi_wp2
   exact o
  case body =>
   rintro l pre x W h a6;obtain⟨g,hg,ev,en⟩:=x.2;obtain⟨v,tl,hv,er,Y⟩:=h.bx;obtain⟨a1,c1,rfl⟩:=ix er.own;have aw:=hv.cell;have a5:=Vp Y.small (ma HH.out.aS);have dW:=HH.out.dk.later h.bl;have CT:=aC (Uz tl _ (w.heap.size+5) g.eb g.e.id W er.own (fun p hp=>by obtain⟨x1,x2,x3⟩:=ix (er.sp p hp).1.own;exact⟨x1,_,x2,x3⟩) (dW.en g hg).1.en.c0 UT);have G:=aC (zA h (zA hv (zA er Y)));have a4:=h.sz;have TE:=aC (fun W' (k:Vi w.heap.size w W')=>HH.out.lJ k hg);clear h hv er Y dW;rw[<- ev] at CT;simp only[<- ev] at TE;have V:=aC (zA ev en);clear ev en
   cases M:tl.any (fun p=>p.1.id==g.e.id)
   ·rw[M] at CT
    gi_wp2
    refine⟨trivial,?_⟩;refine (CallsIn.inRound l (callsIn_wide.2 CT.out)).mono ?_;rintro e w1 ⟨rfl,J⟩
    gi_wp2
    have au:prog.follows .mixedOrders=Vf:=UY
    have C:Hid (Vi w.heap.size w w1/\Vi W.heap.size W w1):=⟨G.out.1.bl.trans (J.mono G.out.1.bl.size),J⟩;have ac:=aN J aw;have ao:=aC (TE.out w1.drew C.out.1.drew);clear TE CT J;refine wpIn_region_any au ?_;change wpAnyIn _ _ _ _ _ _ _ _ _ (World.drew _);refine wpAnyIn_ready (rs:=[0,1]) UY UU ?_;refine ZF rfl (fun K o=>?_) (ZF rfl (fun K o=>?_) ZG)
    ·go_simp
     refine o _ _ ?_;clear o K;refine wpAnyIn_ready (rs:=[1]) UY UU ?_;refine ZF rfl (fun K o=>?_) ZG
     go_simp
     refine o _ _ ?_;clear o K;refine wpAnyIn_ready (rs:=[2]) UY UU ?_;refine ZF rfl (fun K o=>?_) ZG
     go_simp
     refine⟨trivial,(CallsIn.inRound l (callsIn_wide.2 ao.out)).mono ?_⟩;rintro e w2 ⟨v2,rfl,aq,rfl,I,A⟩;refine o _ _ ?_;clear o K;obtain⟨P,O,rfl⟩:=ix I;simp only[nX];have S:w2.cell? ⟨w.heap.size+1,0,Vc⟩=Vd (.slice a1 tl.length c1):=aN A ac;have ar:w.heap.size+5<=w2.heap.size:=Vp (Vp G.out.1.sz C.out.2.size) A.size;have OW:=aC (eu (eu G.out.2.2.1.own C.out.2.drew) A);have S2:=aC (zA I A);clear I A;refine wpAnyIn_ready (rs:=[3]) UY UU ?_;refine ZF rfl (fun K o=>?_) ZG
     go_simp
     refine o _ _ ?_;clear o K;have y:=xY S (.cells #[.int .i64 g.e.id,.int .i64 g.e.kind,.string g.e.aT,.int .i64 g.e.aH,.slice P g.e.aK.length O,.int .i64 g.e.bY] 58);obtain⟨U,u⟩:∃ U,U=w2.alloc (.cells #[.int .i64 g.e.id,.int .i64 g.e.kind,.string g.e.aT,.int .i64 g.e.aH,.slice P g.e.aK.length O,.int .i64 g.e.bY] 58):=⟨_,rfl⟩;rw[<- u] at y;rw[<- u];have N:Hid (U=w2.alloc (.cells (ef (g.e,.slice P g.e.aK.length O)).toArray 58)):=aC u;clear u;refine wpAnyIn_ready (rs:=[4]) UY UU ?_;refine ZF rfl (fun K o=>?_) ZG;refine yL U rfl (.tmp 21) (.tmp 24) 34 rfl (w.heap.size+5) 58 i0 _ 6 72 underlying34 aj ag af ae rfl UV (.slice a1 tl.length c1) tl.length (tl.flatMap ef) rfl (by rw[N.out];exact OW.out.alloc _) ⟨w2.heap.size,0,Vc⟩ 1 1 (ef (g.e,.slice P g.e.aK.length O)) rfl rfl (by rw[N.out];exact WL (cs:=(ef (g.e,.slice P g.e.aK.length O)).toArray) (cC w2 _)) (by simp[ef,WM]) U0 UT (by rw[N.out];simp;omega) ?_;intro v3 w3 t f;obtain⟨al,ak,rfl⟩:=ix t;refine o _ _ ?_;clear o K;rw[N.out] at f;have BX:=xC G.out.1 G.out.2.1 G.out.2.2.1 C.out.2 S2.out.2 _ f;have ab:=BX.cell;have aa:=BX.frozen;have G3:=aC (zA t f);clear t f BX N y;refine wpAnyIn_ready (rs:=[5]) UY UU ?_;refine ZF rfl (fun K o=>?_) ZG
     go_simp
     refine o _ _ ?_;clear o K;refine wpAnyIn_done UY ?_ _;have F:=G.out;have hL:=xD (B:=Z.heap.size) F.1 F.2.1 F.2.2.1 F.2.2.2 C.out.2 S2.out.1 S2.out.2 _ G3.out.2 G3.out.1 (fun b hb=>HH.out.dk.none hb) (z:=x.1) (by rw[V.out.2];exact M) (HH.out.of.mem hg) V.out.2.symm;refine⟨hL.1,hL.2.1,?_⟩;show LI w _ s aM (ZH (fun x=>x.val) (pre++[x]));rw[Wq];exact hL.2.2
    ·go_simp
     refine o _ _ ?_;clear o K;refine wpAnyIn_ready (rs:=[0,2]) UY UU ?_;refine ZF rfl (fun K o=>?_) (ZF rfl (fun K o=>?_) ZG)
     ·go_simp
      refine o _ _ ?_;clear o K;refine wpAnyIn_ready (rs:=[2]) UY UU ?_;refine ZF rfl (fun K o=>?_) ZG
      go_simp
      refine⟨trivial,(CallsIn.inRound l (callsIn_wide.2 ao.out)).mono ?_⟩;rintro e w2 ⟨v2,rfl,aq,rfl,I,A⟩;refine o _ _ ?_;clear o K;obtain⟨P,O,rfl⟩:=ix I;simp only[nX];have S:w2.cell? ⟨w.heap.size+1,0,Vc⟩=Vd (.slice a1 tl.length c1):=aN A ac;have ar:w.heap.size+5<=w2.heap.size:=Vp (Vp G.out.1.sz C.out.2.size) A.size;have OW:=aC (eu (eu G.out.2.2.1.own C.out.2.drew) A);have S2:=aC (zA I A);clear I A;refine wpAnyIn_ready (rs:=[3]) UY UU ?_;refine ZF rfl (fun K o=>?_) ZG
      go_simp
      refine o _ _ ?_;clear o K;have y:=xY S (.cells #[.int .i64 g.e.id,.int .i64 g.e.kind,.string g.e.aT,.int .i64 g.e.aH,.slice P g.e.aK.length O,.int .i64 g.e.bY] 58);obtain⟨U,u⟩:∃ U,U=w2.alloc (.cells #[.int .i64 g.e.id,.int .i64 g.e.kind,.string g.e.aT,.int .i64 g.e.aH,.slice P g.e.aK.length O,.int .i64 g.e.bY] 58):=⟨_,rfl⟩;rw[<- u] at y;rw[<- u];have N:Hid (U=w2.alloc (.cells (ef (g.e,.slice P g.e.aK.length O)).toArray 58)):=aC u;clear u;refine wpAnyIn_ready (rs:=[4]) UY UU ?_;refine ZF rfl (fun K o=>?_) ZG;refine yL U rfl (.tmp 21) (.tmp 24) 34 rfl (w.heap.size+5) 58 i0 _ 6 72 underlying34 aj ag af ae rfl UV (.slice a1 tl.length c1) tl.length (tl.flatMap ef) rfl (by rw[N.out];exact OW.out.alloc _) ⟨w2.heap.size,0,Vc⟩ 1 1 (ef (g.e,.slice P g.e.aK.length O)) rfl rfl (by rw[N.out];exact WL (cs:=(ef (g.e,.slice P g.e.aK.length O)).toArray) (cC w2 _)) (by simp[ef,WM]) U0 UT (by rw[N.out];simp;omega) ?_;intro v3 w3 t f;obtain⟨al,ak,rfl⟩:=ix t;refine o _ _ ?_;clear o K;rw[N.out] at f;have BX:=xC G.out.1 G.out.2.1 G.out.2.2.1 C.out.2 S2.out.2 _ f;have ab:=BX.cell;have aa:=BX.frozen;have G3:=aC (zA t f);clear t f BX N y;refine wpAnyIn_ready (rs:=[5]) UY UU ?_;refine ZF rfl (fun K o=>?_) ZG
      go_simp
      refine o _ _ ?_;clear o K;refine wpAnyIn_done UY ?_ _;have F:=G.out;have hL:=xD (B:=Z.heap.size) F.1 F.2.1 F.2.2.1 F.2.2.2 C.out.2 S2.out.1 S2.out.2 _ G3.out.2 G3.out.1 (fun b hb=>HH.out.dk.none hb) (z:=x.1) (by rw[V.out.2];exact M) (HH.out.of.mem hg) V.out.2.symm;refine⟨hL.1,hL.2.1,?_⟩;show LI w _ s aM (ZH (fun x=>x.val) (pre++[x]));rw[Wq];exact hL.2.2
     ·go_simp
      refine⟨trivial,(CallsIn.inRound l (callsIn_wide.2 ao.out)).mono ?_⟩;rintro e w2 ⟨v2,rfl,aq,rfl,I,A⟩;refine o _ _ ?_;clear o K;obtain⟨P,O,rfl⟩:=ix I;simp only[nX];have S:w2.cell? ⟨w.heap.size+1,0,Vc⟩=Vd (.slice a1 tl.length c1):=aN A ac;have ar:w.heap.size+5<=w2.heap.size:=Vp (Vp G.out.1.sz C.out.2.size) A.size;have OW:=aC (eu (eu G.out.2.2.1.own C.out.2.drew) A);have S2:=aC (zA I A);clear I A;refine wpAnyIn_ready (rs:=[0,3]) UY UU ?_;refine ZF rfl (fun K o=>?_) (ZF rfl (fun K o=>?_) ZG)
      ·go_simp
       refine o _ _ ?_;clear o K;refine wpAnyIn_ready (rs:=[3]) UY UU ?_;refine ZF rfl (fun K o=>?_) ZG
       go_simp
       refine o _ _ ?_;clear o K;have y:=xY S (.cells #[.int .i64 g.e.id,.int .i64 g.e.kind,.string g.e.aT,.int .i64 g.e.aH,.slice P g.e.aK.length O,.int .i64 g.e.bY] 58);obtain⟨U,u⟩:∃ U,U=w2.alloc (.cells #[.int .i64 g.e.id,.int .i64 g.e.kind,.string g.e.aT,.int .i64 g.e.aH,.slice P g.e.aK.length O,.int .i64 g.e.bY] 58):=⟨_,rfl⟩;rw[<- u] at y;rw[<- u];have N:Hid (U=w2.alloc (.cells (ef (g.e,.slice P g.e.aK.length O)).toArray 58)):=aC u;clear u;refine wpAnyIn_ready (rs:=[4]) UY UU ?_;refine ZF rfl (fun K o=>?_) ZG;refine yL U rfl (.tmp 21) (.tmp 24) 34 rfl (w.heap.size+5) 58 i0 _ 6 72 underlying34 aj ag af ae rfl UV (.slice a1 tl.length c1) tl.length (tl.flatMap ef) rfl (by rw[N.out];exact OW.out.alloc _) ⟨w2.heap.size,0,Vc⟩ 1 1 (ef (g.e,.slice P g.e.aK.length O)) rfl rfl (by rw[N.out];exact WL (cs:=(ef (g.e,.slice P g.e.aK.length O)).toArray) (cC w2 _)) (by simp[ef,WM]) U0 UT (by rw[N.out];simp;omega) ?_;intro v3 w3 t f;obtain⟨al,ak,rfl⟩:=ix t;refine o _ _ ?_;clear o K;rw[N.out] at f;have BX:=xC G.out.1 G.out.2.1 G.out.2.2.1 C.out.2 S2.out.2 _ f;have ab:=BX.cell;have aa:=BX.frozen;have G3:=aC (zA t f);clear t f BX N y;refine wpAnyIn_ready (rs:=[5]) UY UU ?_;refine ZF rfl (fun K o=>?_) ZG
       go_simp
       refine o _ _ ?_;clear o K;refine wpAnyIn_done UY ?_ _;have F:=G.out;have hL:=xD (B:=Z.heap.size) F.1 F.2.1 F.2.2.1 F.2.2.2 C.out.2 S2.out.1 S2.out.2 _ G3.out.2 G3.out.1 (fun b hb=>HH.out.dk.none hb) (z:=x.1) (by rw[V.out.2];exact M) (HH.out.of.mem hg) V.out.2.symm;refine⟨hL.1,hL.2.1,?_⟩;show LI w _ s aM (ZH (fun x=>x.val) (pre++[x]));rw[Wq];exact hL.2.2
      ·go_simp
       refine o _ _ ?_;clear o K;have y:=xY S (.cells #[.int .i64 g.e.id,.int .i64 g.e.kind,.string g.e.aT,.int .i64 g.e.aH,.slice P g.e.aK.length O,.int .i64 g.e.bY] 58);obtain⟨U,u⟩:∃ U,U=w2.alloc (.cells #[.int .i64 g.e.id,.int .i64 g.e.kind,.string g.e.aT,.int .i64 g.e.aH,.slice P g.e.aK.length O,.int .i64 g.e.bY] 58):=⟨_,rfl⟩;rw[<- u] at y;rw[<- u];have N:Hid (U=w2.alloc (.cells (ef (g.e,.slice P g.e.aK.length O)).toArray 58)):=aC u;clear u;refine wpAnyIn_ready (rs:=[0]) UY UU ?_;refine ZF rfl (fun K o=>?_) ZG
       go_simp
       refine o _ _ ?_;clear o K;refine wpAnyIn_ready (rs:=[4]) UY UU ?_;refine ZF rfl (fun K o=>?_) ZG;refine yL U rfl (.tmp 21) (.tmp 24) 34 rfl (w.heap.size+5) 58 i0 _ 6 72 underlying34 aj ag af ae rfl UV (.slice a1 tl.length c1) tl.length (tl.flatMap ef) rfl (by rw[N.out];exact OW.out.alloc _) ⟨w2.heap.size,0,Vc⟩ 1 1 (ef (g.e,.slice P g.e.aK.length O)) rfl rfl (by rw[N.out];exact WL (cs:=(ef (g.e,.slice P g.e.aK.length O)).toArray) (cC w2 _)) (by simp[ef,WM]) U0 UT (by rw[N.out];simp;omega) ?_;intro v3 w3 t f;obtain⟨al,ak,rfl⟩:=ix t;refine o _ _ ?_;clear o K;rw[N.out] at f;have BX:=xC G.out.1 G.out.2.1 G.out.2.2.1 C.out.2 S2.out.2 _ f;have ab:=BX.cell;have aa:=BX.frozen;have G3:=aC (zA t f);clear t f BX N y;refine wpAnyIn_ready (rs:=[5]) UY UU ?_;refine ZF rfl (fun K o=>?_) ZG
       go_simp
       refine o _ _ ?_;clear o K;refine wpAnyIn_done UY ?_ _;have F:=G.out;have hL:=xD (B:=Z.heap.size) F.1 F.2.1 F.2.2.1 F.2.2.2 C.out.2 S2.out.1 S2.out.2 _ G3.out.2 G3.out.1 (fun b hb=>HH.out.dk.none hb) (z:=x.1) (by rw[V.out.2];exact M) (HH.out.of.mem hg) V.out.2.symm;refine⟨hL.1,hL.2.1,?_⟩;show LI w _ s aM (ZH (fun x=>x.val) (pre++[x]));rw[Wq];exact hL.2.2
   ·rw[M] at CT
    gi_wp2
    refine⟨trivial,?_⟩;refine (CallsIn.inRound l (callsIn_wide.2 CT.out)).mono ?_;rintro e w1 ⟨rfl,J⟩
    gi_wp2
    have F:=G.out
    exact⟨RN J,J.mono F.1.bl.size,⟨⟨_,tl,(J.block _ F.2.1.lt).trans F.2.1,F.2.2.1.later J,by
     have:=F.2.2.2.JL (z:=x.1) (by rw[V.out.2];exact M)
     simpa using this⟩,F.1.bl.trans (J.mono F.1.bl.size),Vp F.1.sz J.size⟩⟩
  case done =>
   rintro D ys W hD rfl h o;obtain⟨v,tl,hv,er,Y⟩:=h.bx;have hc:=hv.cell;obtain⟨a1,c1,rfl⟩:=ix er.own
   have HF:Hid (tl.map (·.1)=aA.kS r.tg[i].name a b s.es):=by
    rw[ay.out] at Y;have it:=(HH.out.of.th i hi).2;have ad:=HH.out.inv
    obtain⟨p1,p2⟩:=aA.OX (ys:=tl.map (·.1)) (a:=a) (b:=b) it ad.ids (fun e he=>(ad.en e he).ri) (fun e he sp hs=>((ad.en e he).sp sp hs).1) (by rw[List.length_map];exact Y.len) (fun j hj=>by
     have av:j<tl.length:=by simpa using hj
     have:=Y.at_ j av
     simpa using this)
    exact aA.Hk ad.ids p1 p2
   have HE:Hid (gH W w.heap.size aM (.slice a1 tl.length c1) tl/\Vi w.heap.size w W):=⟨er.base UT,h.bl⟩;clear h er Y hv
   go_wp2_with fail
   refine QQ ?_;refine⟨by simp,.inl ⟨_,_,rfl,run_takeDeferred o,?_⟩⟩;have kp:Vi W.heap.size W (W.putObj D (.deferred Vc))->True:=fun _=>trivial
   refine⟨_,results_tmp rfl _ _ _,_,tl,rfl,HF.out,?_,HE.out.2.trans (belowK_b (w:=w) (zq _) W D _ _ UT o rfl rfl)⟩;exact⟨ownsRow_putObj HE.out.1.own _ o rfl,HE.out.1.no,fun p hp=>⟨⟨ownsRow_putObj (HE.out.1.sp p hp).1.own _ o rfl,(HE.out.1.sp p hp).1.no⟩,(HE.out.1.sp p hp).2⟩,HE.out.1.pw⟩
  case stop =>
   rintro D c pre W _ _ h _;exact h.elim
open Go.RowKit
open aA (aL St dB kept dZ cS cN gC cA bW gI ec gv nj Inv)
theorem Jq{s:St}(f:ec s)(h:fw s name 0 fr til≠0):aA.aU s (.list name fr til)=(s,aA.bO.error (fw s name 0 fr til)):=by
 have o:=aA.CG f.tu name;simp only[aA.aU];unfold fw aA.dH at *
 by_cases a:aA.bJ name s.ts=0
 ·rw[Va a];simp[a]
 ·have j:¬ (aA.bJ name s.ts<0):=UT
  simp only[a,j] at h ⊢
  by_cases c:til<=fr
  ·simp[c]
  ·simp[c] at h
theorem Hy{s:St}(h:fw s name 0 fr til=0):aA.aU s (.list name fr til)=(s,⟨0,0,0,aA.kS name fr til s.es,[],[],[]⟩):=by
 obtain⟨a,f⟩:=sU h;have c:aA.bJ name s.ts≠0:=fun e=>by unfold aA.dH at a;rw[Va e] at a;omega
 simp only[aA.aU];rw[U9 c,U9 UT];rfl
theorem Hm(name:U3)(c:U6)(fr til a b:U8):Vi w.heap.size w (((w.alloc (.cells #[.string name,.bool c,.int .i64 fr,.int .i64 til] 170)).alloc aX).alloc (.cells #[.int .i64 a,.int .i64 b] 60))/\(((w.alloc (.cells #[.string name,.bool c,.int .i64 fr,.int .i64 til] 170)).alloc aX).alloc (.cells #[.int .i64 a,.int .i64 b] 60)).heap[w.heap.size+1]?=Vd aX/\(((w.alloc (.cells #[.string name,.bool c,.int .i64 fr,.int .i64 til] 170)).alloc aX).alloc (.cells #[.int .i64 a,.int .i64 b] 60)).cell? ⟨w.heap.size+1+1,0,Vc⟩=Vd (.int .i64 a)/\(((w.alloc (.cells #[.string name,.bool c,.int .i64 fr,.int .i64 til] 170)).alloc aX).alloc (.cells #[.int .i64 a,.int .i64 b] 60)).cell? ⟨w.heap.size+1+1,1,Vc⟩=Vd (.int .i64 b)/\(((w.alloc (.cells #[.string name,.bool c,.int .i64 fr,.int .i64 til] 170)).alloc aX).alloc (.cells #[.int .i64 a,.int .i64 b] 60)).heap.size=w.heap.size+3:=by
 have h:=cC (w.alloc (.cells #[.string name,.bool c,.int .i64 fr,.int .i64 til] 170)) aX;have f:=cC ((w.alloc (.cells #[.string name,.bool c,.int .i64 fr,.int .i64 til] 170)).alloc aX) (.cells #[.int .i64 a,.int .i64 b] 60);rw[WW] at h;rw[WW,WW] at f;refine⟨(((zr _ _).alloc (zq _) _).alloc UU _).alloc (by rw[WW,WW];omega) _,(Below.heap_alloc _ _ _ (by rw[WW,WW];omega)).trans h,?_,?_,by rw[WW,WW,WW]⟩
 ·simp only[VK,f];rfl
 ·simp only[VK,f];rfl
theorem Qf{s:St}(h:dS w d s r aM)(name:U3)(hn:name.size<=1000)(wi:U6)(fr til:U8):
  Vj prog 98 #[.pointer (Vd ⟨d,0,Vc⟩),.agg #[.string name,.bool wi,.int .i64 fr,.int .i64 til]] w fun e w'=>∃ v,e=.returned v/\dX w d aM (aA.aU s (.list name (if wi then fr else 0) (if wi then til else 1048320))) v w':=by
 have o:=aC h;clear h
 cases wi
 ·simp only[reduceIte,Vw];obtain⟨U,A,D,C,V⟩:=Hm (w:=w) name Ve fr til 0 1048320;have I:=aC (vR (o.out.dk.later U) o.out.of o.out.aS name hn 0 0 1048320);have z:=aC (zA U A);clear U A
  go_in
  unfold aX at I z D C V
  go_upto_region 9 with fail
  generalize (((w.alloc (.cells #[.string name,.bool Ve,.int .i64 fr,.int .i64 til] 170)).alloc (.cells #[.int .i64 0,.int .i64 0,.int .i64 0,.slice Vc 0 0,.slice Vc 0 0,.slice Vc 0 0,.slice Vc 0 0] 40)).alloc (.cells #[.int .i64 0,.int .i64 1048320] 60))=X at *;refine I.out.mono ?_;rintro e w1 ⟨hp,t⟩;have G:Hid (Vi w.heap.size w w1):=z.out.1.trans (t.mono z.out.1.size);have Z:Hid (Q7 w1 (w.heap.size+1)):=(Q7.of z.out.2).later (t.block _ UT);rcases hp with ⟨u,rfl⟩|⟨u,i,hi,e1,e2,rfl⟩
  ·have HD:=aC (Jq o.out.aS u);generalize fw s name 0 0 1048320=y at *;have ab:(y != 0)=Vf:=by simpa using u
   clear u I z t D C
   go_wp2_with fail
   refine (lH y w1).mono ?_;rintro e w2 ⟨rfl,j⟩;have F:=aC (o.out.refuse G.out Z.out j HD.out);obtain⟨T,S,P,O,N,M,J,Y⟩:=F.out.1;simp only[bC]
   go_wp2_with fail
   exact cO results98 ⟨T,S,P,O,N,M,J,Y⟩ ⟨_,rfl,F.out.2⟩
  ·have HD:=aC (Hy u);have y1:=aN t D;have y2:=aN t C;have aa:w.heap.size+3<=w1.heap.size:=by have:=t.size;omega
   have TL:=aC (H9 (w:=w1) (s:=s) ⟨o.out.dk.later G.out,o.out.of,o.out.wl,o.out.hl,o.out.inv⟩ hi 0 1048320);rw[e1] at TL;clear u I z t D C e1 e2
   go_wp2_with fail
   refine TL.out.mono ?_;rintro e w2 ⟨v,l,rfl,hl,y,j⟩;obtain⟨a1,c1,rfl⟩:=ix y.own;have hq:=j.block (w.heap.size+1) (Vq _ _ Z.out.q0)
   have F:Hid (∀ a b c e f g i,dX w d aM (aA.aU s (.list name 0 1048320)) (bC 0 0 0 (.slice a1 l.length c1) (.slice Vc 0 0) (.slice Vc 0 0) (.slice Vc 0 0)) (cK w2 (w.heap.size+1) a b c e f g i)):=fun a b c e f g i=>by
    rw[HD.out,<- hl];exact o.out.ia (G.out.trans (j.mono G.out.size)) UT (y.base UT) a b c e f g i
   obtain⟨T,S,P,O,N,M,J,Y⟩:=Z.out.later hq;clear TL y hl j hq
   go_wp2_with fail
   exact cO results98 ⟨T,S,P,O,N,M,J,Y⟩ ⟨_,rfl,F.out _ _ _ _ _ _ _⟩
 ·simp only[if_true];obtain⟨U,A,D,C,V⟩:=Hm (w:=w) name Vf fr til fr til;have I:=aC (vR (o.out.dk.later U) o.out.of o.out.aS name hn 0 fr til);have z:=aC (zA U A);clear U A
  go_in
  unfold aX at I z D C V
  go_upto_region 9 with fail
  generalize (((w.alloc (.cells #[.string name,.bool Vf,.int .i64 fr,.int .i64 til] 170)).alloc (.cells #[.int .i64 0,.int .i64 0,.int .i64 0,.slice Vc 0 0,.slice Vc 0 0,.slice Vc 0 0,.slice Vc 0 0] 40)).alloc (.cells #[.int .i64 fr,.int .i64 til] 60))=X at *;refine I.out.mono ?_;rintro e w1 ⟨hp,t⟩;have G:Hid (Vi w.heap.size w w1):=z.out.1.trans (t.mono z.out.1.size);have Z:Hid (Q7 w1 (w.heap.size+1)):=(Q7.of z.out.2).later (t.block _ UT);rcases hp with ⟨u,rfl⟩|⟨u,i,hi,e1,e2,rfl⟩
  ·have HD:=aC (Jq o.out.aS u);generalize fw s name 0 fr til=y at *;have ab:(y != 0)=Vf:=by simpa using u
   clear u I z t D C
   go_wp2_with fail
   refine (lH y w1).mono ?_;rintro e w2 ⟨rfl,j⟩;have F:=aC (o.out.refuse G.out Z.out j HD.out);obtain⟨T,S,P,O,N,M,J,Y⟩:=F.out.1;simp only[bC]
   go_wp2_with fail
   exact cO results98 ⟨T,S,P,O,N,M,J,Y⟩ ⟨_,rfl,F.out.2⟩
  ·have HD:=aC (Hy u);have y1:=aN t D;have y2:=aN t C;have aa:w.heap.size+3<=w1.heap.size:=by have:=t.size;omega
   have TL:=aC (H9 (w:=w1) (s:=s) ⟨o.out.dk.later G.out,o.out.of,o.out.wl,o.out.hl,o.out.inv⟩ hi fr til);rw[e1] at TL;clear u I z t D C e1 e2
   go_wp2_with fail
   refine TL.out.mono ?_;rintro e w2 ⟨v,l,rfl,hl,y,j⟩;obtain⟨a1,c1,rfl⟩:=ix y.own;have hq:=j.block (w.heap.size+1) (Vq _ _ Z.out.q0)
   have F:Hid (∀ a b c e f g i,dX w d aM (aA.aU s (.list name fr til)) (bC 0 0 0 (.slice a1 l.length c1) (.slice Vc 0 0) (.slice Vc 0 0) (.slice Vc 0 0)) (cK w2 (w.heap.size+1) a b c e f g i)):=fun a b c e f g i=>by
    rw[HD.out,<- hl];exact o.out.ia (G.out.trans (j.mono G.out.size)) UT (y.base UT) a b c e f g i
   obtain⟨T,S,P,O,N,M,J,Y⟩:=Z.out.later hq;clear TL y hl j hq
   go_wp2_with fail
   exact cO results98 ⟨T,S,P,O,N,M,J,Y⟩ ⟨_,rfl,F.out _ _ _ _ _ _ _⟩
theorem Th{s:St}{D:Raw}(h:dS w d s D aM)(name:U3)(Y:name.size<=1000)(A:U6)(fr til a b:U8)(J:(if A then fr else 0)=a)(I:(if A then til else 1048320)=b):
  Vj prog 64 #[.pointer (Vd ⟨d,0,Vc⟩),.iface 170 (.agg #[.string name,.bool A,.int .i64 fr,.int .i64 til])] w fun e w'=>∃ v,e=.returned v/\dX w d aM (aA.aU s (.list name a b)) v w':=by
 have F:=aC (h.pZ (.cells #[.string name,.bool A,.int .i64 fr,.int .i64 til] 170));have C:=aC (Qf F.out.1 name Y A fr til);rw[J,I] at C;clear h J I;unfold aX at C F;have t:=qt 170 UV;have z:=rZ 170 UV;have y:=sb 170 UV;have u:=rW 170 UV;have f:=tw 170 UV;have c:=tj 170 UV;have j:=uZ 170 UV;have o:=pg underlying170
 go_in
 go_wp2_with fail
 refine C.out.mono ?_;rintro e w2 ⟨v,rfl,M⟩;obtain⟨er,at_,nn,a1,a2,a3,a4,n1,n2,n3,n4,c1,c2,c3,c4,rfl,N,G⟩:=M.pV F.out.2;have HF:=aC G;clear M G C t z y u f c j o;obtain⟨X,V,U,T,S,P,O,Z⟩:=N;simp only[bC]
 go_wp2_with fail
 exact cO results64 ⟨X,V,U,T,S,P,O,Z⟩ ⟨_,rfl,HF.out⟩
namespace aA
theorem Cr(ts:U4 (U3 × U8)):∀ (r a:U4 aL),(dQ ts a r).2.length<=r.length
 |[],a=>by simp[dQ]
 |e :: r,a=>by
  simp only[dQ]
  split
  ·show ((dQ ts (a++[cS e]) r).2.length+1)<=_;have:=Cr ts r (a++[cS e]);simp;omega
  ·have:=Cr ts r (a++[e]);simp;omega
theorem Rw(ts:U4 (U3 × U8))(es:U4 aL):(ey ts es).2.length<=es.length:=Cr ts es []
end aA
inductive LV:Vh->aA.fI->Prop where
 |aT (name:U3) (hn:name.size<=1000) (u:U8):LV (.iface 149 (.agg #[.string name,.int .i64 u])) (.aT name u)
 |book (name:U3) (hn:name.size<=1000) (u fr til:U8):LV (.iface 154 (.agg #[.string name,.int .i64 u,.int .i64 fr,.int .i64 til])) (.enter 1 name u fr til 0)
 |hold (name:U3) (hn:name.size<=1000) (u fr til long:U8):LV (.iface 156 (.agg #[.string name,.int .i64 u,.int .i64 fr,.int .i64 til,.int .i64 long])) (.enter 2 name u fr til long)
 |wait (name:U3) (hn:name.size<=1000) (u fr til long:U8):LV (.iface 157 (.agg #[.string name,.int .i64 u,.int .i64 fr,.int .i64 til,.int .i64 long])) (.enter 3 name u fr til long)
 |series (name:U3) (hn:name.size<=1000) (u:U8) (r:Rd.bL):LV (.iface 165 (.agg #[.string name,.int .i64 u,.int .i64 r.pc,.int .i64 r.ev,.bool (aI r.acc 0),.bool (aI r.acc 1),.bool (aI r.acc 2),.bool (aI r.acc 3),.bool (aI r.acc 4),.bool (aI r.acc 5),.bool (aI r.acc 6),.int .i64 r.fr,.int .i64 r.mn,.int .i64 r.mi,.int .i64 r.ti,.int .i64 r.un])) (.series name u r)
 |confirm (id:U8):LV (.iface 167 (.agg #[.int .i64 id])) (.confirm id)
 |cancel (id:U8):LV (.iface 168 (.agg #[.int .i64 id])) (.cancel id)
 |list (name:U3) (hn:name.size<=1000) (wi:U6) (fr til a b:U8) (ha:(if wi then fr else 0)=a) (hb:(if wi then til else 1048320)=b):LV (.iface 170 (.agg #[.string name,.bool wi,.int .i64 fr,.int .i64 til])) (.list name a b)
 |waiting:LV (.iface 173 (.agg #[])) (.waiting)
 |cY (name:U3) (hn:name.size<=1000) (fr til:U8):LV (.iface 176 (.agg #[.string name,.int .i64 fr,.int .i64 til])) (.cY name fr til)
 |find (name:U3) (hn:name.size<=1000) (u long fr til:U8):LV (.iface 178 (.agg #[.string name,.int .i64 u,.int .i64 long,.int .i64 fr,.int .i64 til])) (.find name u long fr til)
 |expand (r:Rd.bL):LV (.iface 180 (.agg #[.int .i64 r.pc,.int .i64 r.ev,.bool (aI r.acc 0),.bool (aI r.acc 1),.bool (aI r.acc 2),.bool (aI r.acc 3),.bool (aI r.acc 4),.bool (aI r.acc 5),.bool (aI r.acc 6),.int .i64 r.fr,.int .i64 r.mn,.int .i64 r.mi,.int .i64 r.ti,.int .i64 r.un])) (.expand r)
 |tick (n:U8):LV (.iface 182 (.agg #[.int .i64 n])) (.tick n)
 |clock:LV (.iface 183 (.agg #[])) (.clock)
theorem oi{s:U3}(h:bE x s=Vf):s=x:=by
 have e:s.toList=x.toList:=eq_of_beq h;rw[ZI,ZI] at e;exact aB.pG e
theorem Fz(h:n<ws.length)(a:B (ws.getD n YM)=Vf):dI ws B (n,Ve)=(n+1,Ve):=by
 simp only[dI,ek,ei,eA,cB,a,h,decide_true,Bool.not_false,Bool.and_self,if_true]
theorem UF(ws:U4 U3)(st:U7 × U6):aQ ws [] st=st:=rfl
theorem G8(h:eA ws n wr B=Vf):wr=Ve/\n<ws.length/\B (ws.getD n YM)=Vf:=by
 unfold eA cB at h;simp only[W6,ZJ,decide_eq_true_eq] at h;exact⟨h.1.1,h.1.2,h.2⟩
theorem B9(h:(dI ws B st).2=Ve):eA ws st.1 st.2 B=Vf:=by
 unfold dI ei at h
 cases e:eA ws st.1 st.2 B
 ·rw[e] at h;simp at h
 ·rfl
theorem jP(h:(dI ws B st).2=Ve):st.2=Ve:=(G8 (B9 h)).1
theorem rm(h:(dI ws B st).2=Ve):∃ x,B x=Vf/\∀ V,bT ws st B V=V x:=by
 have t:=B9 h;exact⟨_,(G8 t).2.2,fun V=>by unfold bT fg;rw[t];rfl⟩
theorem sj(h:dE x=Vf):1<=cL x/\cL x<=9:=by
 unfold dE eL at h;simp only[W6,decide_eq_true_eq] at h;exact⟨h.1.2,h.2⟩
theorem A0(h:eJ x=Vf):1<=cL x/\cL x<=1048320:=by
 unfold eJ eL at h;simp only[W6,decide_eq_true_eq] at h;exact⟨h.1.2,h.2⟩
theorem xn(h:eo x=Vf):1<=cL x/\cL x<=99:=by
 unfold eo eL at h;simp only[W6,decide_eq_true_eq] at h;exact⟨h.1.2,h.2⟩
theorem N4(x:U3):0<=cL x/\cL x<=9999999:=aB.kV _
theorem kU(h:bB x=Vf):0<=dL x/\dL x<=1048320:=by
 unfold dL;rw[Va h];unfold bB at h;simp only[W6,decide_eq_true_eq] at h;exact h.2
theorem FO(h:aB.cM x=Vf):0<=fS x/\fS x<728:=by
 unfold fS;rw[Va h];unfold aB.cM at h;exact (of_decide_eq_true h).2
theorem Ob(h:aB.dA x=Vf):0<=aB.fl x/\aB.fl x<1440:=by
 unfold aB.fl;rw[Va h];unfold aB.dA at h;obtain⟨_,_,_,_,c,a⟩:=of_decide_eq_true h;have:=aB.kV (aB.part x 0 2);have:=aB.kV (aB.part x 3 5);omega
theorem UK(h:bI x=Vf):x.size<=1000:=by
 unfold bI aB.fa at h;rw[W6] at h;have:=of_decide_eq_true h.1;have e:x.size=x.data.toList.length:=by rw[ZK];rfl
 omega
theorem Gt(h:nO ws st ti un s)(o:s.2=Ve):st.2=Ve/\0<=ti/\ti<=99/\0<=un/\un<728:=by
 cases h with
 |times h =>
  have a:(dI ws eo (dV st)).2=Ve:=o;obtain⟨x,c,f⟩:=rm a;have:=xn c;have j:(dV st).2=Ve:=jP a;rw[f cL];exact⟨j,by omega,by omega,by omega,by omega⟩
 |til h1 h =>
  have a:(dI ws aB.cM (dV st)).2=Ve:=o;obtain⟨x,c,f⟩:=rm a;have:=FO c;have j:(dV st).2=Ve:=jP a;rw[f fS];exact⟨j,by omega,by omega,by omega,by omega⟩
 |none h1 h=>cases o
theorem Rr{ev:U8}(h:nV ws st pc ev acc s)(o:s.2=Ve):st.2=Ve/\1<=pc/\pc<=3/\1<=ev/\ev<=99:=by
 cases h with
 |daily h =>
  have a:(dI ws eo (dV st)).2=Ve:=o;obtain⟨x,c,f⟩:=rm a;have:=xn c;have j:(dV st).2=Ve:=jP a;rw[f cL];exact⟨j,by omega,by omega,by omega,by omega⟩
 |weekly h1 h acc ha =>
  have a:(dI ws aB.dU (dI ws eo (dV st))).2=Ve:=o;have t:=jP a;obtain⟨x,c,f⟩:=rm t;have:=xn c;have j:(dV st).2=Ve:=jP t;rw[f cL];exact⟨j,by omega,by omega,by omega,by omega⟩
 |monthly g1 g2 g =>
  have a:(dI ws eo (dV st)).2=Ve:=o;obtain⟨x,c,f⟩:=rm a;have:=xn c;have j:(dV st).2=Ve:=jP a;rw[f cL];exact⟨j,by omega,by omega,by omega,by omega⟩
 |none g1 g2 g=>cases o
theorem Cf{ev:U8}(h:kl ws st pc ev acc fr mn mi ti un s):∃ a,nV ws st pc ev acc a/\nO ws (mC ws a) ti un s/\fr=bT ws (aQ ws [bE cV] a) aB.cM fS/\mn=bT ws (aQ ws [bE cV,aB.cM,bE ej] a) aB.dA aB.fl/\mi=bT ws (aQ ws [bE cV,aB.cM,bE ej,aB.dA,bE fQ] a) eJ cL:=by
 cases h
 exact⟨_,by assumption,by assumption,rfl,rfl,rfl⟩
theorem Ih{ev:U8}(h:kl ws st pc ev acc fr mn mi ti un s)(X:s.2=Ve):st.2=Ve/\Rd.fu ⟨pc,ev,acc,fr,mn,mi,ti,un⟩:=by
 obtain⟨a,P,U,rfl,rfl,rfl⟩:=Cf h;obtain⟨S,D,C,u0,u1⟩:=Gt U X;have o:(dI ws eJ (dI ws (bE fQ) (dI ws aB.dA (dI ws (bE ej) (dI ws aB.cM (dI ws (bE cV) a)))))).2=Ve:=S;have I:=jP o;have t:=jP I;have J:=jP t;have u:=jP J;have M:=jP u;obtain⟨O,G,F,Z,Y⟩:=Rr P (jP M);obtain⟨xi,T,f⟩:=rm o;obtain⟨xm,N,c⟩:=rm t;obtain⟨xd,V,j⟩:=rm u;have A:=A0 T;have z:=Ob N;have y:=FO V;refine⟨O,⟨G,F,Z,Y,?_,?_,?_,?_,?_,?_,D,C,u0,u1⟩⟩
 ·show 0<=bT ws (dI ws (bE cV) a) aB.cM fS;rw[j];exact y.1
 ·show bT ws (dI ws (bE cV) a) aB.cM fS<728;rw[j];exact y.2
 ·show 0<=bT ws (dI ws (bE ej) (dI ws aB.cM (dI ws (bE cV) a))) aB.dA aB.fl;rw[c];exact z.1
 ·show bT ws (dI ws (bE ej) (dI ws aB.cM (dI ws (bE cV) a))) aB.dA aB.fl<1440;rw[c];exact z.2
 ·show 1<=bT ws (dI ws (bE fQ) (dI ws aB.dA (dI ws (bE ej) (dI ws aB.cM (dI ws (bE cV) a))))) eJ cL;rw[f];exact A.1
 ·show bT ws (dI ws (bE fQ) (dI ws aB.dA (dI ws (bE ej) (dI ws aB.cM (dI ws (bE cV) a))))) eJ cL<=1048320;rw[f];exact A.2
theorem N7(h:bD ws 0 Ve x=Vf)(y:U3):bD ws 0 Ve y=(x.toList==y.toList):=by
 unfold bD at h ⊢;rw[W6] at h;have e:=eq_of_beq h.2;rw[h.1,e,Bool.true_and]
def px:Vh->U7
 |.iface t _=>t
 |_=>0
def CV:U4 (U3 × U7):=[(kv,149),(kn,154),(qC,156),(qF,157),(ib,165),(qT,167),(kr,168),(dY,170),(qO,173),(km,176),(ki,178),(iY,180),(qE,182),(kL,183)]
def jc(f:U3->U6):U7:=((CV.find? fun p=>f p.1).map (·.2)).getD 0
theorem lA(h:bD ws 0 Ve x=Vf):jc (bD ws 0 Ve)=jc (fun y=>x.toList==y.toList):=by
 rw[show bD ws 0 Ve=fun y=>x.toList==y.toList from funext (N7 h)]
theorem gJ.tag(h:gJ ws v s):px v=jc (bD ws 0 Ve):=by
 cases h with
 |none h0 h1 h2 h3 h4 h5 h6 h7 h8 h9 h10 h11 h12 h13=>simp[px,jc,CV,h0,h1,h2,h3,h4,h5,h6,h7,h8,h9,h10,h11,h12,h13]
 |aT h=>rw[lA h];exact (by decide +kernel:149=jc (fun y=>kv.toList==y.toList))
 |book h=>rw[lA h];exact (by decide +kernel:154=jc (fun y=>kn.toList==y.toList))
 |hold h=>rw[lA h];exact (by decide +kernel:156=jc (fun y=>qC.toList==y.toList))
 |wait h=>rw[lA h];exact (by decide +kernel:157=jc (fun y=>qF.toList==y.toList))
 |series h=>rw[lA h];exact (by decide +kernel:165=jc (fun y=>ib.toList==y.toList))
 |confirm h=>rw[lA h];exact (by decide +kernel:167=jc (fun y=>qT.toList==y.toList))
 |cancel h=>rw[lA h];exact (by decide +kernel:168=jc (fun y=>kr.toList==y.toList))
 |list0 h=>rw[lA h];exact (by decide +kernel:170=jc (fun y=>dY.toList==y.toList))
 |list1 h=>rw[lA h];exact (by decide +kernel:170=jc (fun y=>dY.toList==y.toList))
 |waiting h=>rw[lA h];exact (by decide +kernel:173=jc (fun y=>qO.toList==y.toList))
 |cY h=>rw[lA h];exact (by decide +kernel:176=jc (fun y=>km.toList==y.toList))
 |find h=>rw[lA h];exact (by decide +kernel:178=jc (fun y=>ki.toList==y.toList))
 |expand h=>rw[lA h];exact (by decide +kernel:180=jc (fun y=>iY.toList==y.toList))
 |tick h=>rw[lA h];exact (by decide +kernel:182=jc (fun y=>qE.toList==y.toList))
 |clock h=>rw[lA h];exact (by decide +kernel:183=jc (fun y=>kL.toList==y.toList))
theorem Oy(h:nO ws st ti un s)(a:nO ws st ti' un' s'):s=s'/\ti=ti'/\un=un':=by
 cases h <;> cases a <;> first|exact⟨rfl,rfl,rfl⟩|(simp_all;done)
theorem Qo{ev:U8}(h:nV ws st pc ev acc s)(a:nV ws st pc' ev' acc' s'):s=s'/\pc=pc'/\ev=ev'/\(s.2=Ve->acc=acc'):=by
 cases h with
 |daily h=>cases a <;> first|exact⟨rfl,rfl,rfl,fun _=>rfl⟩|(simp_all;done)
 |monthly h1 c h=>cases a <;> first|exact⟨rfl,rfl,rfl,fun _=>rfl⟩|(simp_all;done)
 |none h1 c h=>cases a <;> first|exact⟨rfl,rfl,rfl,fun _=>rfl⟩|(simp_all;done)
 |weekly h1 h acc ha =>
  cases a with
  |daily g=>rw[g] at h1;cases h1
  |weekly g1 g acc' ga =>
   refine⟨rfl,rfl,rfl,fun c=>?_⟩;have t:eA ws (aQ ws [eo] (dV st)).1 (aQ ws [eo] (dV st)).2 aB.dU=Vf:=B9 (B:=aB.dU) (st:=aQ ws [eo] (dV st)) c;exact WX ((ha t).symm.trans (ga t))
  |monthly g1 g2 g=>rw[h] at g2;cases g2
  |none g1 g2 g=>rw[h] at g2;cases g2
theorem Gx{ev:U8}{f a c:U8}(h:kl ws st pc ev acc fr mn mi ti un s)(G:kl ws st pc' ev' acc' f a c ti' un' s'):
  s=s'/\pc=pc'/\ev=ev'/\(s.2=Ve->acc=acc')/\fr=f/\mn=a/\mi=c/\ti=ti'/\un=un':=by
 obtain⟨y,A,t,rfl,rfl,rfl⟩:=Cf h;obtain⟨u,j,o,rfl,rfl,rfl⟩:=Cf G;obtain⟨rfl,rfl,rfl,D⟩:=Qo A j;obtain⟨rfl,rfl,rfl⟩:=Oy t o;refine⟨rfl,rfl,rfl,fun F=>D ?_,rfl,rfl,rfl,rfl,rfl⟩;have C:=(Gt t F).1;have z:(dI ws eJ (dI ws (bE fQ) (dI ws aB.dA (dI ws (bE ej) (dI ws aB.cM (dI ws (bE cV) y)))))).2=Ve:=C;exact jP (jP (jP (jP (jP (jP z)))))
theorem xS(f:gJ ws v s)(a:gJ ws v' s'):s=s'/\(s.2=Ve->v=v'):=by
 have e:px v=px v':=f.tag.trans a.tag.symm
 cases f with
 |series h pc ev acc fr mn mi ti un s hr =>
  cases a with
  |series h' pc' ev' acc' fr' mn' mi' ti' un' s' hr' =>
   obtain⟨rfl,rfl,rfl,c,rfl,rfl,rfl,rfl,rfl⟩:=Gx hr hr';exact⟨rfl,fun a=>by rw[c a]⟩
  |_=>exact Vb e (by simp[px])
 |expand h pc ev acc fr mn mi ti un s hr =>
  cases a with
  |expand h' pc' ev' acc' fr' mn' mi' ti' un' s' hr' =>
   obtain⟨rfl,rfl,rfl,c,rfl,rfl,rfl,rfl,rfl⟩:=Gx hr hr';exact⟨rfl,fun a=>by rw[c a]⟩
  |_=>exact Vb e (by simp[px])
 |list0 h hm =>
  cases a with
  |list0 h' hm'=>exact⟨rfl,fun _=>rfl⟩
  |list1 h' hm'=>rw[hm] at hm';cases hm'
  |_=>exact Vb e (by simp[px])
 |list1 h hm =>
  cases a with
  |list0 h' hm'=>rw[hm] at hm';cases hm'
  |list1 h' hm'=>exact⟨rfl,fun _=>rfl⟩
  |_=>exact Vb e (by simp[px])
 |_=>cases a <;> first|exact⟨rfl,fun _=>rfl⟩|exact Vb e (by simp[px])
theorem B8{t:U3}{e e':Ending}(h:na t e)(c:na t e'):e=e':=by
 cases h with
 |long h =>
  cases c with
  |long c=>rfl
  |bad c=>omega
  |qm c=>omega
 |bad h v st hl f =>
  cases c with
  |long c=>omega
  |bad c v' st' hl' a=>obtain⟨rfl,_⟩:=xS hl hl';rfl
  |qm c v' st' hl' h2 a =>
   obtain⟨rfl,_⟩:=xS hl hl';rcases f with f|f
   ·rw[h2] at f;cases f
   ·rw[a] at f;cases f
 |qm h v st hl h2 f =>
  cases c with
  |long c=>omega
  |bad c v' st' hl' a =>
   obtain⟨rfl,_⟩:=xS hl hl';rcases a with a |a
   ·rw[h2] at a;cases a
   ·rw[f] at a;cases a
  |qm c v' st' hl' h2' a=>obtain⟨rfl,j⟩:=xS hl hl';rw[j h2]
def AH(t:U3):(U8 × U8) ⊕ aA.fI->Prop
 |.inl (er,at_)=>er≠0/\(er=1/\at_=0\/er=2/\0<=at_)/\∀ e,na t e->e=.returned (.tuple #[.nilIface,.int .i64 er,.int .i64 at_])
 |.inr l=>∃ a,(∀ e,na t e->e=.returned (.tuple #[a,.int .i64 0,.int .i64 0]))/\LV a l/\aA.jz l
end Go.Proofs.YtfigmlfdnickmaaGreatDoor
namespace Go.Proofs.YtfigmlfdnickmaaGreatDoor.aB
open Go
theorem GS:∀ (k u:U7),u<10 ^ (k+1)->(ZL u).length<=k+1
 |0,u,h=>by rw[ZL];simp at h;rw[dif_pos h];simp
 |k+1,u,h=>by
  rw[ZL]
  split
  ·simp
  ·have:=GS k (u / 10) (by rw[Nat.pow_succ] at h;omega);simp;omega
def gh(n:U8):U3:=⟨(Lib.itoa n).toArray⟩
theorem CS(n:U8)(a:0<=n)(h:n<=9999999):(gh n).size<=7:=by
 rw[<- fL];unfold gh Lib.itoa;rw[U9 UT];have:=GS 6 n.toNat UT
 simpa using this
def pz:U7->U3->U3
 |0,t=>t
 |k+1,t=>pz k (⟨#[48]⟩++t)
def kJ(n:U8)(size:U7):U3:=pz (size-(gh n).size) (gh n)
theorem Ad:∀ (k:U7)(t:U3),(pz k t).size=k+t.size
 |0,t=>by simp[pz]
 |k+1,t=>by
  rw[pz,Ad k];have:(⟨#[48]⟩++t:U3).size=1+t.size:=ZM;omega
theorem oq(n:U8)(size:U7)(a:0<=n)(h:n<=9999999):(kJ n size).size<=size+7:=by
 unfold kJ;rw[Ad];have:=CS n a h;omega
theorem Ac:∀ (k:U7)(t:U3),(pz k t).data.toList=List.replicate k 48++t.data.toList
 |0,t=>rfl
 |k+1,t=>by
  rw[pz,Ac k,rh];rw[show (ByteArray.mk #[48]).data.toList=[48] from rfl,<- VY]
  congr 1
  rw[List.replicate_succ']
end Go.Proofs.YtfigmlfdnickmaaGreatDoor.aB
namespace Go.Proofs.YtfigmlfdnickmaaGreatDoor
open Go.RowKit
theorem Rx(w:Vg)(k:U7)(a:Array Obj):Vi w.heap.size w (ZN (w.drewN k) a) :=
 ⟨rfl,rfl,rfl,by simp[ZN],fun j c=>by simp only[ZN,World.heap_drewN];rw[Array.getElem?_append_left c]⟩
theorem FK(n:U8)(w:Vg)(c:Env w)(h:-9223372036854775808<=n)(f:n<=9223372036854775807):
  Vj prog 47 #[.int .i64 n] w fun e w'=>e=.returned (.string (aB.gh n))/\Vi w.heap.size w w':=by
 refine (strconv_Itoa n h f w c.pow).mono ?_;rintro e w' ⟨rfl,k,a,rfl⟩;exact⟨rfl,Rx w k a⟩
end Go.Proofs.YtfigmlfdnickmaaGreatDoor
namespace Go.Proofs.YtfigmlfdnickmaaGreatDoor.aB
open Go
def nU(x:U4 (U4 UInt8) × U4 UInt8)(c:UInt8):U4 (U4 UInt8) × U4 UInt8:=if c=32 then ((if x.2=[] then x.1 else x.1++[x.2]),[]) else (x.1,x.2++[c])
def AE(l:U4 UInt8):U4 (U4 UInt8) × U4 UInt8:=l.foldl nU ([],[])
def pA(x:U4 (U4 UInt8) × U4 UInt8):U4 (U4 UInt8):=if x.2=[] then x.1 else x.1++[x.2]
def xK(l:U4 UInt8):U4 (U4 UInt8):=pA (AE l)
theorem Qw{a b:U3}(h:a.data.toList=b.data.toList):a=b:=by
 cases a;cases b
 simp only[ZO];exact Array.toList_inj.1 h
theorem re(s:U3):s.data.toList.length=s.size:=by rw[ZK];rfl
theorem Fv(s:U3)(k:U7)(h:k<s.size):dP s k=32↔s.data.toList[k]'(by rw[re];exact h)=32:=by
 have a:k<s.data.toList.length:=by rw[re];exact h
 have e:dP s k=((s.data.toList[k]).toNat:U8):=by
  unfold dP;rw[List.getD_eq_getElem?_getD,Xa a];rfl
 rw[e];constructor
 ·intro c;apply UInt8.toNat_inj.1;show (s.data.toList[k]).toNat=32;omega
 ·intro k;rw[k];rfl
theorem Qn(s:U3)(k:U7)(h:k<s.size):(s.extract k (k+1)).data.toList=[s.data.toList[k]'(by rw[re];exact h)]:=by
 have a:k<s.data.toList.length:=by rw[re];exact h
 rw[ByteArray.data_extract,Array.toList_extract,List.extract_eq_take_drop];rw[Nat.add_sub_cancel_left,WN a];simp
theorem vV(b:U3):b.size=0↔b.data.toList=[]:=by
 rw[<- re];exact V8
theorem F0(s:U3):∀ k:U7,k<=s.size->(s.data.toList.take k).foldl nU ([],[])=((jE s k).map (·.data.toList),(eG s k).data.toList)
 |0,_=>by
  have f:=qD s 0;have a:=xy s 0;have t:jE s 0=[]:=V8.1 UT;have o:(eG s 0).data.toList=[]:=(vV _).1 UT;simp[t,o]
 |k+1,h=>by
  have ih:=F0 s k UT;have j:k<s.data.toList.length:=by rw[re];omega
  rw[List.take_succ_eq_append_getElem j,XI,ih];simp only[W8,List.foldl_nil];unfold nU
  by_cases c:dP s k=32
  ·rw[Va ((Fv s k UT).1 c)];obtain⟨f,a⟩:=xJ s k UT c;rw[f,a];refine Prod.ext ?_ rfl;show (if (eG s k).data.toList=[] then _ else _)=_
   by_cases d:(eG s k).size=0
   ·rw[Va ((vV _).1 d),Va d,List.append_nil]
   ·rw[U9 (fun e=>d ((vV _).2 e)),U9 d,Wq];rfl
  ·rw[U9 (fun e=>c ((Fv s k UT).2 e))];obtain⟨f,a⟩:=xx s k c;rw[a,<- f,rh,Qn s k UT]
theorem SJ(s:U3):(aP s).map (·.data.toList)=xK s.data.toList:=by
 have h:=F0 s s.size (zq _);rw[List.take_of_length_le (by rw[re];exact zq _)] at h;unfold xK AE pA;rw[h,vp,Wq]
 by_cases d:(eG s s.size).size=0
 ·rw[Va d,Va ((vV _).1 d)];simp
 ·rw[U9 d,U9 (fun e=>d ((vV _).2 e))];simp
def yD(w:U4 UInt8):U6:=!w.isEmpty && w.all fun c=>decide (c≠32)
theorem UD{w:U4 UInt8}:yD w=Vf↔w≠[]/\∀ c∈w,c≠32:=by
 unfold yD;rw[W6,List.all_eq_true];constructor
 ·rintro ⟨h,f⟩;exact⟨fun e=>by simp[e] at h,fun c a=>by simpa using f c a⟩
 ·rintro ⟨h,f⟩;exact⟨by cases w <;> simp at h ⊢,fun c a=>by simpa using f c a⟩
theorem H8{w:U4 UInt8}(h:∀ c∈w,c≠32):∀ x:U4 (U4 UInt8) × U4 UInt8,w.foldl nU x=(x.1,x.2++w):=by
 induction w with
 |nil=>intro x;simp
 |cons c w ih =>
  intro x;rw[W8];have:nU x c=(x.1,x.2++[c]):=by unfold nU;rw[U9 (h c UU)]
  rw[this,ih (fun d a=>h d (by simp[a]))];simp
theorem Sw(x:U4 (U4 UInt8) × U4 UInt8):nU x 32=(pA x,[]):=by
 unfold nU pA;rw[Va rfl]
end Go.Proofs.YtfigmlfdnickmaaGreatDoor.aB
namespace Go.Proofs.YtfigmlfdnickmaaGreatDoor.aB
open Go
end Go.Proofs.YtfigmlfdnickmaaGreatDoor.aB
namespace Go.Proofs.YtfigmlfdnickmaaGreatDoor
open Go.RowKit
theorem wk{x:U8}(c:-9223372036854775808<=x)(a:x<=9223372036854775807):IntKind.i64.wrap x=x:=by
 rw[IntKind.wrap_i64];omega
def lC(c n:U8):U8:=(if c<0 then -(c+1) else c) % n
theorem Jr{c n:U8}(a:1<=n):0<=lC c n/\lC c n<n:=⟨Int.emod_nonneg _ UT,Int.emod_lt_of_pos _ UT⟩
open aA (aL St dB kept dZ cS cN gC cA bW gI ec gv nj Inv)
def jZ(w:U3)(a c:U8):U6:=decide (a<=bF w 1 7/\bF w 1 7<=c)
def aV(sym w:U3):U6 :=
 if sym.toList==[78,65,77,69] then aB.fa w.data.toList else
 if sym.toList==[85,78,73,84,83] then jZ w 1 9 else
 if sym.toList==[77,73,78,85,84,69,83] then jZ w 1 1048320 else
 if sym.toList==[69,86,69,82,89] then jZ w 1 99 else
 if sym.toList==[73,68] then decide (0<=bF w 1 7) else
 if sym.toList==[84,73,77,69] then decide (0<=cZ w) else
 if sym.toList==[68,65,84,69] then decide (0<=eU w/\eU w<728) else
 if sym.toList==[77,73,78,85,84,69] then decide (0<=gS w) else
 if sym.toList==[79,78] then aB.dU w else
 sym.toList==w.toList
theorem Lr(sym w:U3)(W:Vg)(c:w.size<=160):
  Vj prog 125 #[.string sym,.string w] W fun e w'=>e=.returned (.bool (aV sym w))/\Vi W.heap.size W w':=by
 cases o:(sym.toList==[78,65,77,69])
 case true =>
  go_in
  go_wp2_with fail
  refine (eP w 1 7 W c UT UT).mono ?_;rintro e w1 ⟨rfl,a⟩
  go_wp2_with fail
  refine (Mq w _ c).mono ?_;rintro e w2 ⟨rfl,rfl⟩;go_wp2;go_ret;exact⟨eB (by simp[aV,o]),a⟩
 cases c1:(sym.toList==[85,78,73,84,83])
 case true =>
  have j:Hid (aV sym w=jZ w 1 9):=by show aV sym w=_;simp[aV,o,c1]
  by_cases y:1<=bF w 1 7
  ·by_cases u:bF w 1 7<=9
   ·go_in
    go_wp2_with fail
    refine (eP w 1 7 W c UT UT).mono ?_;rintro e w1 ⟨rfl,a⟩;go_wp2;go_ret;exact⟨eB (by rw[j.out,jZ,decide_eq_true ⟨y,u⟩]),a⟩
   ·go_in
    go_wp2_with fail
    refine (eP w 1 7 W c UT UT).mono ?_;rintro e w1 ⟨rfl,a⟩;go_wp2;go_ret;exact⟨eB (by rw[j.out,jZ,decide_eq_false UT];simp;omega),a⟩
  ·go_in
   go_wp2_with fail
   refine (eP w 1 7 W c UT UT).mono ?_;rintro e w1 ⟨rfl,a⟩;go_wp2;go_ret;exact⟨eB (by rw[j.out,jZ,decide_eq_false UT]),a⟩
 cases t:(sym.toList==[77,73,78,85,84,69,83])
 case true =>
  have j:Hid (aV sym w=jZ w 1 1048320):=by show aV sym w=_;simp[aV,o,c1,t]
  by_cases y:1<=bF w 1 7
  ·by_cases u:bF w 1 7<=1048320
   ·go_in
    go_wp2_with fail
    refine (eP w 1 7 W c UT UT).mono ?_;rintro e w1 ⟨rfl,a⟩;go_wp2;go_ret;exact⟨eB (by rw[j.out,jZ,decide_eq_true ⟨y,u⟩]),a⟩
   ·go_in
    go_wp2_with fail
    refine (eP w 1 7 W c UT UT).mono ?_;rintro e w1 ⟨rfl,a⟩;go_wp2;go_ret;exact⟨eB (by rw[j.out,jZ,decide_eq_false UT];simp;omega),a⟩
  ·go_in
   go_wp2_with fail
   refine (eP w 1 7 W c UT UT).mono ?_;rintro e w1 ⟨rfl,a⟩;go_wp2;go_ret;exact⟨eB (by rw[j.out,jZ,decide_eq_false UT]),a⟩
 cases z:(sym.toList==[69,86,69,82,89])
 case true =>
  have j:Hid (aV sym w=jZ w 1 99):=by show aV sym w=_;simp[aV,o,c1,t,z]
  by_cases y:1<=bF w 1 7
  ·by_cases u:bF w 1 7<=99
   ·go_in
    go_wp2_with fail
    refine (eP w 1 7 W c UT UT).mono ?_;rintro e w1 ⟨rfl,a⟩;go_wp2;go_ret;exact⟨eB (by rw[j.out,jZ,decide_eq_true ⟨y,u⟩]),a⟩
   ·go_in
    go_wp2_with fail
    refine (eP w 1 7 W c UT UT).mono ?_;rintro e w1 ⟨rfl,a⟩;go_wp2;go_ret;exact⟨eB (by rw[j.out,jZ,decide_eq_false UT];simp;omega),a⟩
  ·go_in
   go_wp2_with fail
   refine (eP w 1 7 W c UT UT).mono ?_;rintro e w1 ⟨rfl,a⟩;go_wp2;go_ret;exact⟨eB (by rw[j.out,jZ,decide_eq_false UT]),a⟩
 cases A:(sym.toList==[73,68])
 case true =>
  go_in
  go_wp2_with fail
  refine (eP w 1 7 W c UT UT).mono ?_;rintro e w1 ⟨rfl,a⟩;go_wp2;go_ret;exact⟨eB (by simp[aV,o,c1,t,z,A]),a⟩
 cases C:(sym.toList==[84,73,77,69])
 case true =>
  go_in
  go_wp2_with fail
  refine (eP w 1 7 W c UT UT).mono ?_;rintro e w1 ⟨rfl,a⟩
  go_wp2_with fail
  refine (qu w _ c).mono ?_;rintro e w2 ⟨rfl,f⟩;have h:=a.trans (f.mono a.size);go_wp2;go_ret;exact⟨eB (by simp[aV,o,c1,t,z,A,C]),h⟩
 cases D:(sym.toList==[68,65,84,69])
 case true =>
  have j:Hid (aV sym w=decide (0<=eU w/\eU w<728)):=by show aV sym w=_;simp[aV,o,c1,t,z,A,C,D]
  by_cases y:0<=eU w
  ·by_cases u:eU w<728
   ·go_in
    go_wp2_with fail
    refine (eP w 1 7 W c UT UT).mono ?_;rintro e w1 ⟨rfl,a⟩
    go_wp2_with fail
    refine (uW w _ c).mono ?_;rintro e w2 ⟨rfl,f⟩;have h:=a.trans (f.mono a.size);go_wp2;go_ret;exact⟨eB (by rw[j.out,decide_eq_true ⟨y,u⟩]),h⟩
   ·go_in
    go_wp2_with fail
    refine (eP w 1 7 W c UT UT).mono ?_;rintro e w1 ⟨rfl,a⟩
    go_wp2_with fail
    refine (uW w _ c).mono ?_;rintro e w2 ⟨rfl,f⟩;have h:=a.trans (f.mono a.size);go_wp2;go_ret;exact⟨eB (by rw[j.out,decide_eq_false UT];simp;omega),h⟩
  ·go_in
   go_wp2_with fail
   refine (eP w 1 7 W c UT UT).mono ?_;rintro e w1 ⟨rfl,a⟩
   go_wp2_with fail
   refine (uW w _ c).mono ?_;rintro e w2 ⟨rfl,f⟩;have h:=a.trans (f.mono a.size);go_wp2;go_ret;exact⟨eB (by rw[j.out,decide_eq_false UT]),h⟩
 cases F:(sym.toList==[77,73,78,85,84,69])
 case true =>
  go_in
  go_wp2_with fail
  refine (eP w 1 7 W c UT UT).mono ?_;rintro e w1 ⟨rfl,a⟩
  go_wp2_with fail
  refine (AB w _ c).mono ?_;rintro e w2 ⟨rfl,f⟩;have h:=a.trans (f.mono a.size);go_wp2;go_ret;exact⟨eB (by simp[aV,o,c1,t,z,A,C,D,F]),h⟩
 cases G:(sym.toList==[79,78])
 case true =>
  go_in
  go_wp2_with fail
  refine (eP w 1 7 W c UT UT).mono ?_;rintro e w1 ⟨rfl,a⟩
  go_wp2_with fail
  refine (zv w _ c).mono ?_;rintro e w2 ⟨⟨acc,rfl,_⟩,f⟩;have h:=a.trans (f.mono a.size);unfold e9;go_wp2;go_ret;exact⟨eB (by simp[aV,o,c1,t,z,A,C,D,F,G]),h.alloc (Vp a.size f.size) _⟩
 go_in
 go_wp2_with fail
 refine (eP w 1 7 W c UT UT).mono ?_;rintro e w1 ⟨rfl,a⟩;go_wp2;go_ret;exact⟨eB (by simp[aV,o,c1,t,z,A,C,D,F,G]),a⟩
def jk(i:U7):U3:=match i with|0=>⟨#[100,97,105,108,121,32,69,86,69,82,89]⟩|1=>⟨#[119,101,101,107,108,121,32,69,86,69,82,89,32,79,78]⟩|_=>⟨#[109,111,110,116,104,108,121,32,69,86,69,82,89]⟩
def lO(i:U7):U3:=match i with|0=>⟨#[116,105,109,101,115,32,69,86,69,82,89]⟩|_=>⟨#[117,110,116,105,108,32,68,65,84,69]⟩
def Di:U3:=⟨#[32,102,114,111,109,32,68,65,84,69,32,97,116,32,77,73,78,85,84,69,32,102,111,114,32,77,73,78,85,84,69,83,32]⟩
def uG(ahead:U3)(i k:U7):U3:=ahead++⟨#[32]⟩++jk i++Di++lO k
def kI(ahead:U3)(n:U7):U4 U3:=(List.range n).map fun j=>uG ahead (j / 2) (j % 2)
theorem M9(ahead:U3)(n:U7):kI ahead (n+1)=kI ahead n++[uG ahead (n / 2) (n % 2)]:=by
 simp[kI,List.range_succ]
theorem Eo(i:U7):(jk i).size<=15:=by unfold jk;split <;> decide
theorem D8(i:U7):(lO i).size<=11:=by unfold lO;split <;> decide
theorem te(a b:U3)(m n:U7)(f:a.size<=m)(c:b.size<=n):(a++b).size<=m+n:=by
 have:(a++b).size=a.size+b.size:=ZM;omega
theorem wO(a b:U3)(m n:U7)(f:a.size<=m)(c:b.size<=n)(h:m+n<=1000):∀ wx,(ZP .add a b).run prog wx=.ok (.string (a++b)) wx:=by
 intro wx;apply run_string_add_sum;omega
theorem NC{c a size:U7}(h:w.ownsRow c e size v n xs)(t:a<=c):w.ownsRow a e size v n xs:=by
 refine⟨h.1,?_⟩;rcases h.2 with u|⟨g,cap,f,j,o,rest⟩
 ·exact .inl u
 ·exact .inr ⟨g,cap,f,j,Vp t o,rest⟩
theorem EA(ahead:U3)(w:Vg)(C:ahead.size<=20):
  Vj prog 185 #[.string ahead] w fun e w'=>∃ v,e=.returned v/\w'.ownsRow w.heap.size 9 1 v 6 ((kI ahead 6).map YZ)/\Vi w.heap.size w w':=by
 obtain⟨Z,T,N,M,J⟩:=info_parts wL
 go_in
 go_wp2;obtain⟨W,y⟩:∃ W,W=(w.alloc (.cells #[.string (jk 0),.string (jk 1),.string (jk 2)] 9)).alloc (.cells #[.string (lO 0),.string (lO 1)] 9):=⟨_,rfl⟩;simp only[jk,lO] at y;rw[<- y];have hB:Vi w.heap.size w W:=by rw[y];exact ((zr _ _).alloc (zq _) _).alloc UU _
 have hZ:w.heap.size+2=W.heap.size:=by rw[y];simp
 have X:∀ i,i<3->W.cell? ⟨w.heap.size,i,Vc⟩=Vd (.string (jk i)):=fun i hi=>by
  rw[y];rcases (show i=0\/i=1\/i=2 by omega) with rfl|rfl|rfl <;> simp[jk]
 have Y:∀ i,i<2->W.cell? ⟨w.heap.size+1,i,Vc⟩=Vd (.string (lO i)):=fun i hi=>by
  rw[y];rcases (show i=0\/i=1 by omega) with rfl|rfl <;> simp[lO]
 have CK:=hide X;have CE:=hide Y;clear y X Y
 go_loopw [3,6,7] (fun v i _ wx=>∃ a:U7,a<=3/\i=.int .i64 a/\wx.ownsRow (w.heap.size+2) 9 1 v (2*a) ((kI ahead (2*a)).map YZ)/\Vi (w.heap.size+2) W wx) (fun _ i _ _=>3-(intOf i).toNat)
 case atStart=>exact⟨0,by omega,rfl,World.ownsRow_nil _ _ _ _,Below.refl _ _⟩
 case round =>
  obtain⟨a,ac,rfl,o,u⟩:=hrel
  by_cases O:a<3
  ·have i1:(0:U8)<=(a:U8):=Y5 _;have i2:(a:U8)<3:=UT
   go_wp2;obtain⟨U,z⟩:∃ U:Vg,U=wr:=⟨_,rfl⟩;rw[<- z] at o u ⊢;clear z
   go_loopw [3,7] (fun v k wx=>∃ b:U7,b<=2/\k=.int .i64 b/\wx.ownsRow (w.heap.size+2) 9 1 v (2*a+b) ((kI ahead (2*a+b)).map YZ)/\Vi (w.heap.size+2) W wx) (fun _ k _=>2-(intOf k).toNat)
   case atStart=>exact⟨0,by omega,rfl,o,u⟩
   case round =>
    obtain⟨b,ab,rfl,c,f⟩:=hrel
    by_cases P:b<2
    ·have I:=Eo a;have ez:=D8 b;have c1:wr.cell? ⟨w.heap.size,a,Vc⟩=Vd (.string (jk a)):=(f.cell (p:=⟨w.heap.size,a,Vc⟩) UU).trans (aJ CK a O);have c2:wr.cell? ⟨w.heap.size+1,b,Vc⟩=Vd (.string (lO b)):=(f.cell (p:=⟨w.heap.size+1,b,Vc⟩) UU).trans (aJ CE b P);have i3:(0:U8)<=(b:U8):=Y5 _;have i4:(b:U8)<2:=UT
     have G:u3.ownBlock≠Vd w.heap.size:=fun e=>by have:=ot c e;omega
     have F:u3.ownBlock≠Vd (w.heap.size+1):=fun e=>by have:=ot c e;omega
     have aa:=f.size;have s1:∀ wx,(ZP .add ahead ⟨#[32]⟩).run prog wx=.ok (.string (ahead++⟨#[32]⟩)) wx:=wO ahead _ 20 1 C UV UV;have s2:∀ wx,(ZP .add (ahead++⟨#[32]⟩) (jk a)).run prog wx=.ok (.string (ahead++⟨#[32]⟩++jk a)) wx:=wO _ _ 21 15 (te _ _ 20 1 C UV) I UV;have s3:∀ wx,(ZP .add (ahead++⟨#[32]⟩++jk a) ⟨#[32,102,114,111,109,32,68,65,84,69,32,97,116,32,77,73,78,85,84,69,32,102,111,114,32,77,73,78,85,84,69,83,32]⟩).run prog wx=.ok (.string (ahead++⟨#[32]⟩++jk a++⟨#[32,102,114,111,109,32,68,65,84,69,32,97,116,32,77,73,78,85,84,69,32,102,111,114,32,77,73,78,85,84,69,83,32]⟩)) wx:=wO _ _ 36 33 (te _ _ 21 15 (te _ _ 20 1 C UV) I) UV UV;have s4:∀ wx,(ZP .add (ahead++⟨#[32]⟩++jk a++⟨#[32,102,114,111,109,32,68,65,84,69,32,97,116,32,77,73,78,85,84,69,32,102,111,114,32,77,73,78,85,84,69,83,32]⟩) (lO b)).run prog wx=.ok (.string (ahead++⟨#[32]⟩++jk a++⟨#[32,102,114,111,109,32,68,65,84,69,32,97,116,32,77,73,78,85,84,69,32,102,111,114,32,77,73,78,85,84,69,83,32]⟩++lO b)) wx:=wO _ _ 69 11 (te _ _ 36 33 (te _ _ 21 15 (te _ _ 20 1 C UV) I) UV) ez UV
     go_wp2_with fail
     go_region_held3 (fun w'=>w'.cell? ⟨w.heap.size,a,Vc⟩=Vd (.string (jk a))/\w'.cell? ⟨w.heap.size+1,b,Vc⟩=Vd (.string (lO b)))
      (first
       |go_keep
       |(
        go_split_ands
        refine⟨?_,?_⟩
        ·(rw[h.cell_far _ UZ (Ne.symm G)];assumption)
        ·(rw[h.cell_far _ UZ (Ne.symm F)];assumption)))
      ((refine step_append_lies _ (by rfl) _ _ _ (by rfl) (w.heap.size+2) 9 Z _ 1 16 underlying26 T N M J rfl UT u3 (2*a+b) ((kI ahead (2*a+b)).map YZ) (by rfl) ((c.alloc _).drew) ⟨wr.heap.size,0,Vc⟩ 1 1 [.string (ahead++⟨#[32]⟩++jk a++⟨#[32,102,114,111,109,32,68,65,84,69,32,97,116,32,77,73,78,85,84,69,32,102,111,114,32,77,73,78,85,84,69,83,32]⟩++lO b)] (by rfl) (by rfl) (WL (cs:=#[.string (ahead++⟨#[32]⟩++jk a++⟨#[32,102,114,111,109,32,68,65,84,69,32,97,116,32,77,73,78,85,84,69,32,102,111,114,32,77,73,78,85,84,69,83,32]⟩++lO b)]) (t:=9) (fr:=(0,0)) (heap_alloc_new wr _)) U1 UT U0 UT UZ (wr.heap.size+1) UU ?_;intro g cap w1 j h ad V))
     have A:Vi (w.heap.size+2) W w1:=by
      first
       |exact ((f.alloc UT _).drew).grown h UZ (fun k S=>ot c S)
       |exact (f.alloc UT _).grown h UZ (fun k S=>ot c S)
     have D:Hid (w1.ownsRow (w.heap.size+2) 9 1 (.slice (Vd ⟨g,0,Vc⟩) (2*a+b+1) cap) (2*a+(b+1)) ((kI ahead (2*a+(b+1))).map YZ)):=by
      show w1.ownsRow _ _ _ _ _ _;rw[show 2*a+(b+1)=2*a+b+1 from by omega,M9,show (2*a+b) / 2=a from by omega,show (2*a+b) % 2=b from by omega,Wq];exact j
     clear j;go_wp2;refine⟨?_,?_⟩
     ·first|exact⟨b+1,by omega,by go_num,D.out,A⟩|((repeat apply Exists.intro);exact⟨⟨b+1,by omega,by go_num,D.out,A⟩,rfl⟩)
     ·simp[intOf];omega
    ·obtain rfl:b=2:=UT
     have D:Hid (wr.ownsRow (w.heap.size+2) 9 1 u3 (2*(a+1)) ((kI ahead (2*(a+1))).map YZ)):=by
      show wr.ownsRow _ _ _ _ _ _;rw[show 2*(a+1)=2*a+2 from by omega];exact c
     clear c;go_wp2;exact⟨⟨a+1,by omega,by go_num,D.out,f⟩,by simp[intOf];omega⟩
  ·obtain rfl:a=3:=UT
   go_wp2;go_ret;exact⟨_,rfl,NC o UT,hB.trans (u.mono UT)⟩
def uF:U4 U3:=[⟨#[116,104,105,110,103,32,78,65,77,69,32,85,78,73,84,83]⟩,⟨#[98,111,111,107,32,78,65,77,69,32,85,78,73,84,83,32,84,73,77,69,32,84,73,77,69]⟩,⟨#[104,111,108,100,32,78,65,77,69,32,85,78,73,84,83,32,84,73,77,69,32,84,73,77,69,32,77,73,78,85,84,69,83]⟩,⟨#[119,97,105,116,32,78,65,77,69,32,85,78,73,84,83,32,84,73,77,69,32,84,73,77,69,32,77,73,78,85,84,69,83]⟩,⟨#[99,111,110,102,105,114,109,32,73,68]⟩,⟨#[99,97,110,99,101,108,32,73,68]⟩,⟨#[108,105,115,116,32,78,65,77,69]⟩,⟨#[108,105,115,116,32,78,65,77,69,32,84,73,77,69,32,84,73,77,69]⟩,⟨#[119,97,105,116,105,110,103]⟩,⟨#[112,101,97,107,32,78,65,77,69,32,84,73,77,69,32,84,73,77,69]⟩,⟨#[102,105,110,100,32,78,65,77,69,32,85,78,73,84,83,32,77,73,78,85,84,69,83,32,84,73,77,69,32,84,73,77,69]⟩,⟨#[116,105,99,107,32,77,73,78,85,84,69,83]⟩,⟨#[99,108,111,99,107]⟩]
def uC:U3:=⟨#[115,101,114,105,101,115,32,78,65,77,69,32,85,78,73,84,83]⟩
def wC:U3:=⟨#[101,120,112,97,110,100]⟩
def kG:U4 U3:=uF++kI uC 6++kI wC 6
theorem Fg{a size:U7}(h:w.ownsRow a e size v n xs)(u:Vi w.heap.size w w'):w'.ownsRow a e size v n xs:=by
 refine⟨h.1,?_⟩;rcases h.2 with y|⟨g,cap,f,j,t,c,rest⟩
 ·exact .inl y
 ·refine .inr ⟨g,cap,f,j,t,?_,rest⟩
  have:g<w.heap.size:=by
   by_cases o:g<w.heap.size
   ·exact o
   ·rw[WC UT] at c;cases c
  rw[u.block g this];exact c
theorem An{a:U7}(h:w.ownsRow a e 1 v n xs)(G:0<n):∃ g cap,v=.slice (Vd ⟨g,0,Vc⟩) n cap/\a<=g/\g<w.heap.size/\∀ j u,xs[j]?=Vd u->w.cell? (ZQ ⟨g,0,Vc⟩ j)=Vd u:=by
 rcases h.2 with ⟨_,M⟩|⟨g,cap,y,z,C,t,I,_,F,ht⟩
 ·omega
 ·have f:g<w.heap.size:=by
   by_cases f:g<w.heap.size
   ·exact f
   ·rw[WC UT] at t;cases t
  refine⟨g,cap,z,C,f,fun j u o=>?_⟩
  have D:ZQ ⟨g,0,Vc⟩ j=⟨g,j,Vc⟩:=by
   unfold ZQ;split
   ·subst_vars;rfl
   ·simp
  have A:j<n:=by
   have J:=h.1;have:=(ZR.1 o).1;omega
  have c:y[j]?=Vd u:=by
   rw[<- ht,Xh,Va UT] at o
   simpa using o
  rw[D];simp[VK,t,c]
theorem Nj(w:Vg):
  Vj prog 124 #[] w fun e w'=>∃ v,e=.returned v/\w'.ownsRow w.heap.size 9 1 v 25 (kG.map YZ)/\Vi w.heap.size w w':=by
 obtain⟨i0,hi,A,z,y⟩:=info_parts wL
 go_in
 go_wp2_with fail
 obtain⟨W,O⟩:∃ W,W=w.alloc (.cells #[.string ⟨#[116,104,105,110,103,32,78,65,77,69,32,85,78,73,84,83]⟩,.string ⟨#[98,111,111,107,32,78,65,77,69,32,85,78,73,84,83,32,84,73,77,69,32,84,73,77,69]⟩,.string ⟨#[104,111,108,100,32,78,65,77,69,32,85,78,73,84,83,32,84,73,77,69,32,84,73,77,69,32,77,73,78,85,84,69,83]⟩,.string ⟨#[119,97,105,116,32,78,65,77,69,32,85,78,73,84,83,32,84,73,77,69,32,84,73,77,69,32,77,73,78,85,84,69,83]⟩,.string ⟨#[99,111,110,102,105,114,109,32,73,68]⟩,.string ⟨#[99,97,110,99,101,108,32,73,68]⟩,.string ⟨#[108,105,115,116,32,78,65,77,69]⟩,.string ⟨#[108,105,115,116,32,78,65,77,69,32,84,73,77,69,32,84,73,77,69]⟩,.string ⟨#[119,97,105,116,105,110,103]⟩,.string ⟨#[112,101,97,107,32,78,65,77,69,32,84,73,77,69,32,84,73,77,69]⟩,.string ⟨#[102,105,110,100,32,78,65,77,69,32,85,78,73,84,83,32,77,73,78,85,84,69,83,32,84,73,77,69,32,84,73,77,69]⟩,.string ⟨#[116,105,99,107,32,77,73,78,85,84,69,83]⟩,.string ⟨#[99,108,111,99,107]⟩] 9):=⟨_,rfl⟩;rw[<- O];have X:Vi w.heap.size w W:=by rw[O];exact (zr _ _).alloc (zq _) _
 have t:W.ownsRow w.heap.size 9 1 (.slice (Vd ⟨w.heap.size,0,Vc⟩) 13 13) 13 (uF.map YZ):=by
  refine⟨rfl,.inr ⟨w.heap.size,13,#[.string ⟨#[116,104,105,110,103,32,78,65,77,69,32,85,78,73,84,83]⟩,.string ⟨#[98,111,111,107,32,78,65,77,69,32,85,78,73,84,83,32,84,73,77,69,32,84,73,77,69]⟩,.string ⟨#[104,111,108,100,32,78,65,77,69,32,85,78,73,84,83,32,84,73,77,69,32,84,73,77,69,32,77,73,78,85,84,69,83]⟩,.string ⟨#[119,97,105,116,32,78,65,77,69,32,85,78,73,84,83,32,84,73,77,69,32,84,73,77,69,32,77,73,78,85,84,69,83]⟩,.string ⟨#[99,111,110,102,105,114,109,32,73,68]⟩,.string ⟨#[99,97,110,99,101,108,32,73,68]⟩,.string ⟨#[108,105,115,116,32,78,65,77,69]⟩,.string ⟨#[108,105,115,116,32,78,65,77,69,32,84,73,77,69,32,84,73,77,69]⟩,.string ⟨#[119,97,105,116,105,110,103]⟩,.string ⟨#[112,101,97,107,32,78,65,77,69,32,84,73,77,69,32,84,73,77,69]⟩,.string ⟨#[102,105,110,100,32,78,65,77,69,32,85,78,73,84,83,32,77,73,78,85,84,69,83,32,84,73,77,69,32,84,73,77,69]⟩,.string ⟨#[116,105,99,107,32,77,73,78,85,84,69,83]⟩,.string ⟨#[99,108,111,99,107]⟩],rfl,Vm _,?_,Vm _,by decide,rfl,rfl⟩⟩;rw[O];exact heap_alloc_new w _
 clear O;refine (EA _ W UV).mono ?_;rintro e w1 ⟨v1,rfl,o1,b1⟩;obtain⟨g1,N,rfl,ad,ab,T⟩:=An o1 UT;have a:=Fg t b1;have J:=X.trans (b1.mono X.size);have F:=J.size;clear o1 t X
 go_wp2_with (first
  |(at_builtin;refine wpList_append_own _ rfl _ _ 26 rfl w.heap.size 9 i0 (.string ⟨#[]⟩) 1 16 underlying26 hi A z y rfl UV _ 13 (uF.map YZ) rfl a ⟨g1,0,Vc⟩ 6 N ((kI uC 6).map YZ) rfl rfl ?c1 ?c2 ?c3 ?c4 ?c5 ?_))
 case c1=>exact T
 case c2=>intro u C;simp only[Wk] at C;obtain⟨x,_,rfl⟩:=C;rfl
 case c3=>decide
 case c4=>decide
 case c5=>exact F
 intro v2 w2 o f _;have I:Vi w.heap.size w w2:=J.grown f F (fun k P=>ot a P);have U:=I.size;clear f a
 go_wp2_with fail
 refine (EA _ w2 UV).mono ?_;rintro e w3 ⟨v3,rfl,Z,b3⟩;obtain⟨g3,M,rfl,ac,aa,S⟩:=An Z UT;have j:=Fg o b3;have G:=I.trans (b3.mono U);have D:=G.size;clear Z o
 go_wp2_with (first
  |(at_builtin;refine wpList_append_own _ rfl _ _ 26 rfl w.heap.size 9 i0 (.string ⟨#[]⟩) 1 16 underlying26 hi A z y rfl UV v2 (13+6) (uF.map YZ++(kI uC 6).map YZ) rfl j ⟨g3,0,Vc⟩ 6 M ((kI wC 6).map YZ) rfl rfl ?c1 ?c2 ?c3 ?c4 ?c5 ?_))
 case c1=>exact S
 case c2=>intro u C;simp only[Wk] at C;obtain⟨x,_,rfl⟩:=C;rfl
 case c3=>decide
 case c4=>decide
 case c5=>exact D
 intro Y w4 h c _;have V:Vi w.heap.size w w4:=G.grown c D (fun k P=>ot j P)
 have HO:Hid (w4.ownsRow w.heap.size 9 1 Y 25 (kG.map YZ)):=by
  show w4.ownsRow _ _ _ _ _ _;rw[kG,Wq,Wq];exact h
 clear h c;go_wp2;go_ret;exact⟨Y,rfl,HO.out,V⟩
def pre:U4 U3->U4 U3->U7
 |s :: p,w :: ws=>if aV s w then pre p ws+1 else 0
 |_,_=>0
theorem rU:∀ (p ws:U4 U3),pre p ws<=p.length/\pre p ws<=ws.length
 |[],_=>by simp[pre]
 |_ :: _,[]=>by simp[pre]
 |s :: p,w :: ws=>by
  unfold pre;have:=rU p ws
  split <;> simp <;> omega
theorem wP:∀ (p ws:U4 U3)(n:U7)(c:n<p.length)(a:n<ws.length),n<pre p ws->aV p[n] ws[n]=Vf
 |[],_,_,c,_,_=>by simp at c
 |_ :: _,[],_,_,a,_=>by simp at a
 |s :: p,w :: ws,0,_,_,h=>by
  unfold pre at h
  split at h
  ·assumption
  ·omega
 |s :: p,w :: ws,n+1,c,a,h=>by
  unfold pre at h
  split at h
  ·exact wP p ws n (by simpa using c) (by simpa using a) UT
  ·omega
theorem Ef:∀ (p ws:U4 U3)(n:U7)(c:n<p.length)(a:n<ws.length),n=pre p ws->aV p[n] ws[n]=Ve
 |[],_,_,c,_,_=>by simp at c
 |_ :: _,[],_,_,a,_=>by simp at a
 |s :: p,w :: ws,0,_,_,h=>by
  unfold pre at h
  cases f:aV s w
  ·exact f
  ·rw[Va f] at h;omega
 |s :: p,w :: ws,n+1,c,a,h=>by
  unfold pre at h
  split at h
  ·exact Ef p ws n (by simpa using c) (by simpa using a) UT
  ·omega
theorem LD(f:n<p.length)(c:n<ws.length)(h:n<=pre p ws)(a:aV p[n] ws[n]=Vf):n+1<=pre p ws:=by
 by_cases e:n=pre p ws
 ·have:=Ef p ws n f c e;rw[a] at this;cases this
 ·omega
theorem LC(f:n<p.length)(c:n<ws.length)(h:n<=pre p ws)(a:aV p[n] ws[n]=Ve):n=pre p ws:=by
 by_cases e:n=pre p ws
 ·exact e
 ·have:=wP p ws n f c UT;rw[a] at this;cases this
def scan:U4 (U4 U3)->U4 U3->U7->U5 (U4 U3) × U7
 |[],_,m=>(Vc,m)
 |p :: ps,ws,m=>if pre p ws=p.length/\pre p ws=ws.length then (Vd p,0) else scan ps ws (if m<pre p ws then pre p ws else m)
def mQ:U4 (U4 U3):=kG.map aB.aP
theorem Mi:mQ.length=25:=by simp[mQ,kG,uF,kI]
def jj(s:U3):U5 (U4 U3) × U7:=scan mQ (aB.aP s) 0
theorem EM:∀ x∈kG,x.size<=160:=by
 intro x f
 have c:∀ a k,(uG uC a k).size<=160/\(uG wC a k).size<=160:=fun a k=>by
  have t:=Eo a;have o:=D8 k;have h:Di.size=33:=UV
  have z:uC.size=17:=UV
  have y:wC.size=6:=UV
  have u:(⟨#[32]⟩:U3).size=1:=UV
  unfold uG;simp only[ZM];omega
 unfold kG kI at f;simp only[List.mem_append,Wk] at f;rcases f with (f|⟨j,_,rfl⟩)|⟨j,_,rfl⟩
 ·revert x;decide
 ·exact (c _ _).1
 ·exact (c _ _).2
theorem Ar(s:U3):(aB.aP s).length<=s.size+1:=by
 rw[aB.vp,List.length_append];have:=aB.qD s s.size
 split <;> simp <;> omega
structure Row(w:Vg)(a:U5 Addr)(g:U7)(xs:U4 U3):Prop where
 at_:0<xs.length->a=Vd ⟨g,0,Vc⟩
 cells:∀ (j:U7) (h:j<xs.length),w.cell? ⟨g,j,Vc⟩=Vd (.string xs[j])
theorem Row.later{wx:Vg}{a:U5 Addr}{xs:U4 U3}(h:Row w a g xs)(f:Vi w.heap.size w wx):Row wx a g xs :=
 ⟨h.at_,fun j c=>cell_later f (h.cells j c)⟩
theorem Ak{o:U7}{xs:U4 U3}(h:w.ownsRow o 9 1 v n (xs.map YZ))(u:n=xs.length):∃ a cap g,v=.slice a xs.length cap/\Row w a g xs:=by
 subst u
 by_cases t:0<xs.length
 ·obtain⟨g,cap,c,_,_,y⟩:=An h t;refine⟨Vd ⟨g,0,Vc⟩,cap,g,c,fun _=>rfl,fun j f=>?_⟩;have:=y j (.string xs[j]) (by simp[f])
  have z:ZQ ⟨g,0,Vc⟩ j=⟨g,j,Vc⟩:=by
   unfold ZQ;split
   ·subst_vars;rfl
   ·simp
  rwa [z] at this
 ·rcases h.2 with ⟨c,A⟩|⟨g,cap,C,c,_⟩
  ·exact⟨Vc,0,0,by rw[c,A],fun h=>Vb h t,fun j f=>Vb f UT⟩
  ·exact⟨_,cap,g,c,fun h=>Vb h t,fun j f=>Vb f UT⟩
def A3:Vh->U7
 |.bool Vf=>1
 |_=>0
theorem Mz{s:U3}{k:U7}(f:k<kG.length)(a:q=aB.aP kG[k])(h:jj s=scan (mQ.drop k) (aB.aP s) mm):
  jj s=if pre q (aB.aP s)=q.length/\pre q (aB.aP s)=(aB.aP s).length then (Vd q,0) else scan (mQ.drop (k+1)) (aB.aP s) (if mm<pre q (aB.aP s) then pre q (aB.aP s) else mm):=by
 have c:k<mQ.length:=by unfold mQ;simpa using f
 rw[h,WN c];have e:mQ[k]=q:=by rw[a];exact List.getElem_map ..
 rw[e,scan]
theorem LH{s:U3}{k:U7}(a:25<=k)(h:jj s=scan (mQ.drop k) (aB.aP s) mm):jj s=(Vc,mm):=by
 rw[h,ZS (by rw[Mi];exact a)];rfl
def RR(s:U3)(w':Vg)(e:Ending):Prop :=
 (∃ (p:U4 U3) (a b:U5 Addr) (c d g h:U7),jj s=(Vd p,0)/\e=.returned (.tuple #[.slice a (aB.aP s).length c,.slice b p.length d,.int .i64 0,.int .i64 0])/\Row w' a g (aB.aP s)/\Row w' b h p) \/
 (∃ m:U7,jj s=(Vc,m)/\e=.returned (.tuple #[.slice Vc 0 0,.slice Vc 0 0,.int .i64 2,.int .i64 m]))
theorem Au(s:U3)(w:Vg)(hs:s.size<=160):
  Vj prog 78 #[.string s] w fun e w'=>RR s w' e/\Vi w.heap.size w w':=by
 have ai:=Ar s;have aj:(s.size:U8)<=160:=UT
 go_in
 go_wp2_with fail
 refine (Ey s w hs).mono ?_;rintro e w1 ⟨v1,rfl,o1,b1⟩;obtain⟨aw,cw,gw,rfl,S⟩:=Ak o1 rfl
 go_wp2_with fail
 refine (Nj w1).mono ?_;rintro e w2 ⟨v2,rfl,o2,b2⟩;obtain⟨ap,cp,gp,rfl,F⟩:=Ak o2 UV;have P:=S.later b2;have aa:=b1.trans (b2.mono b1.size);clear o1 o2 S b1 b2;obtain rfl:=F.at_ UV;rw[show kG.length=25 from by decide];go_wp2
 go_loopw [8,9,10,11,12] (fun m i _ _ _ wx=>∃ k mm:U7,k<=25/\mm<=161/\i=.int .i64 k/\m=.int .i64 mm/\jj s=scan (mQ.drop k) (aB.aP s) mm/\Row wx aw gw (aB.aP s)/\Row wx (Vd ⟨gp,0,Vc⟩) gp kG/\Vi w.heap.size w wx) (fun _ i _ _ _ _=>25-(intOf i).toNat)
 case atStart=>exact⟨0,0,by omega,by omega,rfl,rfl,rfl,P,F,aa⟩
 case round =>
  obtain⟨k,mm,hk,al,rfl,rfl,X,rw,rp,z⟩:=hrel;have ab:=hide X;clear X P F aa
  by_cases ad:k<25
  ·have hi:(k:U8)<25:=UT
   have y:k<kG.length:=by rw[show kG.length=25 from by decide];exact ad
   have hc:=rp.cells k y
   go_wp2_with fail
   refine (Ey _ _ (EM _ (zg y))).mono ?_;rintro e w3 ⟨v3,rfl,o3,b3⟩;obtain⟨ax,cx,gx,rfl,rx⟩:=Ak o3 rfl;have O:=rw.later b3;have U:=rp.later b3;have A:=z.trans (b3.mono z.size);obtain⟨q,hq⟩:∃ q,q=aB.aP kG[k]:=⟨_,rfl⟩;rw[<- hq] at rx ⊢;have HQ:=hide hq;have ak:q.length<=161:=by rw[hq];have:=Ar kG[k];have:=EM _ (zg y);omega
   clear hq o3 rw rp z b3 hc;go_wp2
   go_loopw [11,12] (fun n mo wx=>∃ (n':U7) (a:U6),n=.int .i64 n'/\mo=.bool a/\n'<=pre q (aB.aP s)/\(a=Ve->n'=pre q (aB.aP s))/\Row wx aw gw (aB.aP s)/\Row wx (Vd ⟨gp,0,Vc⟩) gp kG/\Row wx ax gx q/\Vi w.heap.size w wx) (fun n mo _=>A3 mo+(q.length-(intOf n).toNat))
   case atStart=>exact⟨0,Vf,rfl,rfl,Wg _,fun h=>Vb h UV,O,U,rx,A⟩
   case round =>
    obtain⟨n',a,rfl,rfl,hn,Z,o,D,u,t⟩:=hrel;have ag:=rU q (aB.aP s)
    have I:(a=Vf/\n'<q.length/\n'<(aB.aP s).length)\/a=Ve\/(a=Vf/\¬ n'<q.length)\/(a=Vf/\n'<q.length/\¬ n'<(aB.aP s).length):=by
     cases a
     ·simp
     ·simp;omega
    have af:=hide Z;clear Z O U rx A;rcases I with ⟨rfl,h1,h2⟩|G
    ·obtain rfl:=u.at_ UT;obtain rfl:=o.at_ UT;have c1:=u.cells n' h1;have c2:=o.cells n' h2;have j1:(n':U8)<(q.length:U8):=UT
     have j2:(n':U8)<((aB.aP s).length:U8):=UT
     have j0:(0:U8)<=(n':U8):=Y5 _;have V:(aB.aP s)[n'].size<=160:=Vp (xF s _ (zg h2)) hs;have ae:=hide V;clear V
     go_wp2_with fail
     go_region_held3 (fun w'=>w'.cell? ⟨gx,n',Vc⟩=Vd (.string q[n'])/\w'.cell? ⟨gw,n',Vc⟩=Vd (.string (aB.aP s)[n']))
      (first
       |go_keep
       |(
        go_split_ands
        refine⟨?_,?_⟩
        ·exact cell_later f UW
        ·exact cell_later f UW))
      ((go_at_call 125;refine (Lr _ _ _ (aJ ae)).mono ?_;rintro e w4 ⟨rfl,f⟩))
     have j:Vi wr.heap.size wr w4:=⟨f.os,f.tape,f.output,f.size,f.block⟩;have C:=t.trans (j.mono t.size);have N:=o.later j;have T:=D.later j;have M:=u.later j
     cases hf:aV q[n'] (aB.aP s)[n']
     ·have HP:=hide (LC h1 h2 hn hf);go_wp2;exact⟨⟨n',Ve,rfl,rfl,hn,fun _=>aJ HP,N,T,M,C⟩,by simp[A3,intOf]⟩
     ·have HP:=hide (LD h1 h2 hn hf);go_wp2;exact⟨⟨n'+1,Vf,by go_num,rfl,aJ HP,fun h=>Vb h UV,N,T,M,C⟩,by simp[A3,intOf];omega⟩
    ·have Y:n'=pre q (aB.aP s):=by
      rcases G with h|⟨_,h⟩|⟨_,_,h⟩
      ·exact aJ af h
      ·omega
      ·omega
     have J:=hide (Mz y (aJ HQ) (aJ ab));rw[<- Y] at J;clear Y
     by_cases c:n'=q.length/\n'=(aB.aP s).length
     ·obtain⟨f1,f2⟩:=c;have HR:Hid (jj s=(Vd q,0)):=(aJ J).trans (Va ⟨f1,f2⟩);have g1:((n':U8)==(q.length:U8))=Vf:=beq_iff_eq.2 UT;have g2:((n':U8)==((aB.aP s).length:U8))=Vf:=beq_iff_eq.2 UT;have F1:=hide f1;have F2:=hide f2;clear f1 f2;rcases G with rfl|⟨rfl,hx⟩|⟨rfl,hx,hy⟩
      all_goals
       go_wp2
       (try simp only[WE,Exit.then]);refine bodyPost_ret (pC rfl _ _ _) rfl ?_
       exact⟨.inl ⟨q,aw,ax,cw,cx,gw,gx,HR.out,rfl,o,u⟩,t⟩
     ·have HR:Hid (jj s=scan (mQ.drop (k+1)) (aB.aP s) (if mm<n' then n' else mm)):=(aJ J).trans (U9 c)
      have hg:((n':U8)==(q.length:U8))=Ve\/(((n':U8)==(q.length:U8))=Vf/\((n':U8)==((aB.aP s).length:U8))=Ve):=by
       by_cases e:n'=q.length
       ·right;exact⟨beq_iff_eq.2 UT,beq_eq_false_iff_ne.2 UT⟩
       ·left;exact beq_eq_false_iff_ne.2 UT
      clear c;have ac:mm<n'\/¬ mm<n':=UT
      rcases G with rfl|⟨rfl,hx⟩|⟨rfl,hx,hy⟩
      all_goals rcases hg with g1|⟨g1,g2⟩
      all_goals rcases ac with hm|hm
      all_goals
       go_wp2
       first
        |exact⟨⟨k+1,n',by omega,by omega,by go_num,rfl,HR.out.trans (by rw[Va hm]),o,D,t⟩,by simp[intOf];omega⟩
        |exact⟨⟨k+1,mm,by omega,by omega,by go_num,rfl,HR.out.trans (by rw[U9 hm]),o,D,t⟩,by simp[intOf];omega⟩
  ·have HE:=hide (LH UT (aJ ab));go_wp2
   (try simp only[WE,Exit.then]);refine bodyPost_ret (pC rfl _ _ _) rfl ?_
   exact⟨.inr ⟨mm,aJ HE,rfl⟩,z⟩
theorem zH{a b:U3}(h:a=b):Ending.returned (.string a)=.returned (.string b):=by rw[h]
def K7:Vh->U7
 |.string s=>s.size
 |_=>0
theorem MK(j:U7)(t:U3):(⟨#[48]⟩:U3)++aB.pz j t=aB.pz (j+1) t:=by
 apply aB.pG;rw[aB.rh,aB.Ac,aB.Ac,List.replicate_succ];rfl
theorem uB(n:U8)(size:U7)(w:Vg)(o:Env w)(A:0<=n)(z:n<=9999999)(J:size<=9):
  Vj prog 128 #[.int .i64 n,.int .i64 size] w fun e w'=>e=.returned (.string (aB.kJ n size))/\Vi w.heap.size w w':=by
 have I:=aB.CS n A z;have F:=hide o;clear o
 go_in
 go_wp2_with fail
 refine (FK n w (aJ F) UT UT).mono ?_;rintro e w1 ⟨rfl,f⟩;go_wp2
 go_loop [5] (fun t=>∃ j:U7,j<=size-(aB.gh n).size/\t=.string (aB.pz j (aB.gh n))) (fun t=>size-K7 t)
 case atStart=>exact⟨0,Wg _,rfl⟩
 case round =>
  obtain⟨j,M,rfl⟩:=hrel;have a:=aB.Ad j (aB.gh n);have u:=hide a;have G:(aB.pz j (aB.gh n)).size<=20:=UT
  clear a
  by_cases y:(aB.pz j (aB.gh n)).size<size
  ·have c:((aB.pz j (aB.gh n)).size:U8)<(size:U8):=UT
   have C:=hide (MK j (aB.gh n));have h:Hid (((⟨#[48]⟩:U3)++aB.pz j (aB.gh n)).size=1+(aB.pz j (aB.gh n)).size):=ZM;go_wp2
   go_round
   case rel=>exact⟨j+1,by have:=aJ u;omega,by rw[aJ C]⟩
   case measure =>
    have q:=aJ h;show size-((⟨#[48]⟩:U3)++aB.pz j (aB.gh n)).size<size-(aB.pz j (aB.gh n)).size;omega
  ·have c:¬ ((aB.pz j (aB.gh n)).size:U8)<(size:U8):=UT
   have D:Hid (aB.kJ n size=aB.pz j (aB.gh n)):=by
    show aB.kJ n size=_;unfold aB.kJ;rw[show size-(aB.gh n).size=j from by have:=aJ u;omega]
   go_wp2;go_ret;exact⟨zH (by rw[D.out]),f⟩
def wH(y m d:U8):U3:=aB.kJ y 4++⟨#[45]⟩++aB.kJ m 2++⟨#[45]⟩++aB.kJ d 2
def wT(n:U8):U3:=aB.kJ (n / 60) 2++⟨#[58]⟩++aB.kJ (n % 60) 2
def Aw(n:U8):U3:=wH (Cal.yT n) (Cal.mT n) (Cal.dT n)
def se(t:U8):U3:=Aw (t / 1440)++⟨#[47]⟩++wT (t % 1440)
theorem L5(a b c:U3):a++b++c=a++(b++c):=by
 apply aB.pG;simp only[aB.rh,VY]
theorem MX(y m d:U8)(h:Cal.ok y m d=Vf):(wH y m d).size<=40:=by
 obtain⟨o,j,u,t,D,C⟩:=(Cal.gN y m d).1 h;have A:=Cal.nT y m;have f:=aB.oq y 4 UT UT;have c:=aB.oq m 2 UT UT;have a:=aB.oq d 2 UT UT;have z:(⟨#[45]⟩:U3).size=1:=UV
 unfold wH;simp only[ZM];omega
theorem Mr(n:U8)(h:0<=n)(f:n<1440):(wT n).size<=19:=by
 have c:=aB.oq (n / 60) 2 UT UT;have a:=aB.oq (n % 60) 2 UT UT;have j:(⟨#[58]⟩:U3).size=1:=UV
 unfold wT;simp only[ZM];omega
theorem MY(n:U8)(c:-738885<=n)(a:n<=2913173):(Aw n).size<=40:=MX _ _ _ (Cal.tA n c a).1
def qo(k:U7):U3:=⟨(eK k).toArray⟩
def iQ(acc:U4 U8):U7->U3
 |0=>⟨#[]⟩
 |k+1=>if aI acc k then iQ acc k++⟨#[44]⟩++qo k else iQ acc k
def yX(acc:U4 U8):U3:=(iQ acc 7).extract 1 (iQ acc 7).size
theorem zY(k:U7):(qo k).size=2:=by
 unfold qo eK;split <;> rfl
theorem Aj(acc:U4 U8):∀ k:U7,(iQ acc k).size<=3*k
 |0=>zq _
 |k+1=>by
  have ih:=Aj acc k;have n:=zY k;have a:(⟨#[44]⟩:U3).size=1:=UV
  unfold iQ
  split
  ·simp only[ZM];omega
  ·omega
theorem EU(acc:U4 U8)(d:U7)(h:aI acc d=Vf):∀ k:U7,d<k->1<=(iQ acc k).size
 |0,hk=>by omega
 |k+1,hk=>by
  have n:=zY k;unfold iQ
  by_cases e:d=k
  ·subst e;rw[Va h];simp only[ZM];omega
  ·have:=EU acc d h k UT
   split
   ·simp only[ZM];omega
   ·exact this
theorem MZ{d:U8}{r:U4 U8}(h:aB.jL acc d=Vd r)(a:d<=6):∃ x:U7,x<7/\aI r x=Vf:=by
 unfold aB.jL at h
 split at h
 ·rename_i hc
  cases h
  exact⟨d.toNat,by omega,by simp[aI,show ((d.toNat:U7):U8)=d from by omega]⟩
 ·cases h
theorem Ee:∀ (l:U4 UInt8)(acc r:U4 U8),aB.iy l acc=Vd r->∃ x:U7,x<7/\aI r x=Vf
 |[],_,_,h=>by simp[aB.iy] at h
 |[_],_,_,h=>by simp[aB.iy] at h
 |[a,b],acc,r,h=>MZ (acc:=acc) (d:=aB.dC [a,b]) h (aB.xp [a,b]).2
 |a :: b :: c :: l,acc,r,h=>by
  unfold aB.iy at h
  split at h
  ·simp only[Option.bind_eq_some_iff] at h;obtain⟨x,_,h⟩:=h;exact Ee l x r h
  ·cases h
theorem Ld{s:U3}(h:aB.im s=Vd acc):1<=(iQ acc 7).size:=by
 obtain⟨x,a,c⟩:=Ee _ _ _ h;exact EU acc x c 7 a
def qe(w:U3):U3:=match aB.im w with|some acc=>yX acc|none=>⟨#[]⟩
def gD(sym w:U3):U3 :=
 if sym.toList==[85,78,73,84,83] then aB.gh (bF w 1 7) else
 if sym.toList==[77,73,78,85,84,69,83] then aB.gh (bF w 1 7) else
 if sym.toList==[69,86,69,82,89] then aB.gh (bF w 1 7) else
 if sym.toList==[73,68] then aB.gh (bF w 1 7) else
 if sym.toList==[84,73,77,69] then se (cZ w) else
 if sym.toList==[79,78] then qe w else w
theorem DB(w:U3):-1<=bF w 1 7/\bF w 1 7<=9999999:=by
 rw[uV];have:=aB.kV w.data.toList
 split <;> omega
theorem DH(w:U3):-1<=cZ w/\cZ w<=1048320:=by
 unfold cZ
 split
 ·rename_i h
  unfold bB at h;simp only[W6,decide_eq_true_eq] at h;omega
 ·omega
theorem zI(n:U8)(w:Vg)(j:-738885<=n)(f:n<=2913173):
  Vj prog 73 #[.int .i64 n] w fun e w'=>e=.returned (.tuple #[.int .i64 (Cal.yT n),.int .i64 (Cal.mT n),.int .i64 (Cal.dT n),.int .i64 0])/\w'=w:=by
 refine (Nb n w UT UT).mono ?_;rintro e w' ⟨⟨h,_⟩|⟨_,y,m,d,rfl,c,a⟩,rfl⟩
 ·omega
 ·obtain⟨rfl,rfl,rfl⟩:=Cal.AJ y m d n c a;exact⟨rfl,rfl⟩
theorem Mv(t:U8):aB.kJ (Cal.yT (t / 1440)) 4++⟨#[45]⟩++aB.kJ (Cal.mT (t / 1440)) 2++⟨#[45]⟩++aB.kJ (Cal.dT (t / 1440)) 2++⟨#[47]⟩++aB.kJ (t % 1440 / 60) 2++⟨#[58]⟩++aB.kJ (t % 60) 2=se t:=by
 unfold se Aw wH wT;rw[show t % 1440 % 60=t % 60 from by omega];simp only[L5]
theorem xc(sym w:U3)(W:Vg)(j:Env W)(o:w.size<=160)
  (t:(sym.toList==[85,78,73,84,83])=Vf\/((sym.toList==[85,78,73,84,83])=Ve/\(sym.toList==[77,73,78,85,84,69,83])=Vf)\/((sym.toList==[85,78,73,84,83])=Ve/\(sym.toList==[77,73,78,85,84,69,83])=Ve/\(sym.toList==[69,86,69,82,89])=Vf)\/((sym.toList==[85,78,73,84,83])=Ve/\(sym.toList==[77,73,78,85,84,69,83])=Ve/\(sym.toList==[69,86,69,82,89])=Ve/\(sym.toList==[73,68])=Vf)):
  Vj prog 79 #[.string sym,.string w] W fun e w'=>e=.returned (.string (aB.gh (bF w 1 7)))/\Vi W.heap.size W w':=by
 have y:=hide j;have z:=DB w;clear j;rcases t with h|⟨h,c1⟩|⟨h,c1,u⟩|⟨h,c1,u,A⟩
 all_goals
  go_in
  go_wp2_with fail
  refine (eP w 1 7 W o UT UT).mono ?_;rintro e w1 ⟨rfl,a⟩
  go_wp2_with fail
  refine (FK _ w1 ((aJ y).later a) UT UT).mono ?_;rintro e w2 ⟨rfl,f⟩;have c:=a.trans (f.mono a.size);go_wp2;go_ret;exact⟨rfl,c⟩
theorem Nu(sym w:U3)(W:Vg)
  (j:(sym.toList==[85,78,73,84,83])=Ve) (c1:(sym.toList==[77,73,78,85,84,69,83])=Ve) (h:(sym.toList==[69,86,69,82,89])=Ve) (f:(sym.toList==[73,68])=Ve) (c:(sym.toList==[84,73,77,69])=Ve) (a:(sym.toList==[79,78])=Ve):
  Vj prog 79 #[.string sym,.string w] W fun e w'=>e=.returned (.string w)/\w'=W:=by
 go_in
 go_wp2;go_ret;exact⟨rfl,rfl⟩
theorem Ns(sym w:U3)(W:Vg)(F:Env W)(S:w.size<=160)(ht:0<=cZ w)
  (c0:(sym.toList==[85,78,73,84,83])=Ve) (c1:(sym.toList==[77,73,78,85,84,69,83])=Ve) (c2:(sym.toList==[69,86,69,82,89])=Ve) (c3:(sym.toList==[73,68])=Ve) (c4:(sym.toList==[84,73,77,69])=Vf):
  Vj prog 79 #[.string sym,.string w] W fun e w'=>e=.returned (.string (se (cZ w)))/\Vi W.heap.size W w':=by
 have U:=hide F;have O:=DH w;have N:=hide (Mv (cZ w));obtain⟨t,a⟩:∃ t,t=cZ w:=⟨_,rfl⟩;rw[<- a] at ht O N ⊢;have y:=hide a;clear F a;have ⟨hok,_⟩:=Cal.tA (t / 1440) UT UT;obtain⟨y1,y2,m1,m2,d1,d2⟩:=(Cal.gN _ _ _).1 hok;have db:=Cal.nT (Cal.yT (t / 1440)) (Cal.mT (t / 1440));have z1:=aB.oq (Cal.yT (t / 1440)) 4 UT UT;have Z:=aB.oq (Cal.mT (t / 1440)) 2 UT UT;have Y:=aB.oq (Cal.dT (t / 1440)) 2 UT UT;have X:=aB.oq (t % 1440 / 60) 2 UT UT;have V:=aB.oq (t % 60) 2 UT UT;clear hok
 go_in
 go_wp2_with fail
 refine (qu w W S).mono ?_;rintro e w1 ⟨rfl,c⟩;rw[<- aJ y]
 go_wp2_with fail
 refine (zI (t / 1440) w1 UT UT).mono ?_;rintro e w2 ⟨rfl,rfl⟩;have M:=hide ((aJ U).later c)
 go_wp2_with fail
 refine (uB _ 4 _ (aJ M) UT UT UT).mono ?_;rintro e w3 ⟨rfl,o⟩;have J:=hide ((aJ M).later o)
 go_wp2_with fail
 refine (uB _ 2 _ (aJ J) UT UT UT).mono ?_;rintro e w4 ⟨rfl,j⟩;have I:=hide ((aJ J).later j)
 go_wp2_with fail
 refine (uB _ 2 _ (aJ I) UT UT UT).mono ?_;rintro e w5 ⟨rfl,h⟩;have G:=hide ((aJ I).later h)
 go_wp2_with fail
 refine (uB _ 2 _ (aJ G) UT UT UT).mono ?_;rintro e w6 ⟨rfl,f⟩;have T:=hide ((aJ G).later f)
 go_wp2_with fail
 refine (uB _ 2 _ (aJ T) UT UT UT).mono ?_;rintro e w7 ⟨rfl,u⟩;have D:=c.trans (o.mono c.size);have C:=D.trans (j.mono D.size);have A:=C.trans (h.mono C.size);have z:=A.trans (f.mono A.size);have P:=z.trans (u.mono z.size);go_wp2;go_ret;exact⟨zH (aJ N),P⟩
theorem LN(k:U7)(h:k<7):[YZ ⟨#[109,111]⟩,YZ ⟨#[116,117]⟩,YZ ⟨#[119,101]⟩,YZ ⟨#[116,104]⟩,YZ ⟨#[102,114]⟩,YZ ⟨#[115,97]⟩,YZ ⟨#[115,117]⟩][k]?=Vd (.string (qo k)):=by
 rcases (show k=0\/k=1\/k=2\/k=3\/k=4\/k=5\/k=6 by omega) with rfl|rfl|rfl|rfl|rfl|rfl|rfl <;> rfl
theorem DS.nat{b:U7}(h:DS w b acc)(k:U7)(a:k<7):w.cell? ⟨b,k,Vc⟩=Vd (.bool (aI acc k)):=by
 have:=h.at k UT UT
 simpa using this
theorem M1(sym w:U3)(W:Vg)(N:w.size<=160)(O:aB.dU w=Vf)
  (c0:(sym.toList==[85,78,73,84,83])=Ve) (c1:(sym.toList==[77,73,78,85,84,69,83])=Ve) (c2:(sym.toList==[69,86,69,82,89])=Ve) (c3:(sym.toList==[73,68])=Ve) (c4:(sym.toList==[84,73,77,69])=Ve) (c5:(sym.toList==[79,78])=Vf):
  Vj prog 79 #[.string sym,.string w] W fun e w'=>e=.returned (.string (qe w))/\Vi W.heap.size W w':=by
 go_in
 go_wp2_with fail
 refine (zv w W N).mono ?_;rintro e w1 ⟨⟨acc,rfl,h⟩,u⟩;have G:=hide (h O);have U:=hide (Ld (aJ G));have T:Hid (qe w=yX acc):=by show qe w=_;unfold qe;rw[aJ G]
 clear h;unfold e9;go_wp2;obtain⟨X,y⟩:∃ X,X=w1.alloc (.cells #[.bool (aI acc 0),.bool (aI acc 1),.bool (aI acc 2),.bool (aI acc 3),.bool (aI acc 4),.bool (aI acc 5),.bool (aI acc 6)] 159):=⟨_,rfl⟩;rw[<- y];have C:Vi W.heap.size W X:=by rw[y];exact u.alloc u.size _
 have S:DS X w1.heap.size acc:=by
  rw[y];refine⟨?_,?_,?_,?_,?_,?_,?_,fun j=>?_⟩ <;> simp
 have M:w1.heap.size+1=X.heap.size:=by rw[y];simp
 clear y
 go_loopw [12,13] (fun o i wx=>∃ k:U7,k<=7/\i=.int .i64 k/\o=.string (iQ acc k)/\DS wx w1.heap.size acc/\Vi W.heap.size W wx) (fun _ i _=>7-(intOf i).toNat)
 case atStart=>exact⟨0,by omega,rfl,rfl,S,C⟩
 case round =>
  obtain⟨k,Z,rfl,rfl,D,f⟩:=hrel;have V:=Aj acc k
  by_cases c:k<7
  ·have hi:(k:U8)<7:=UT
   have P:(0:U8)<=(k:U8):=Y5 _;have F:=D.nat k c;have Y:([YZ ⟨#[109,111]⟩,YZ ⟨#[116,117]⟩,YZ ⟨#[119,101]⟩,YZ ⟨#[116,104]⟩,YZ ⟨#[102,114]⟩,YZ ⟨#[115,97]⟩,YZ ⟨#[115,117]⟩][k]'c)=.string (qo k):=WX ((Xa c).symm.trans (LN k c));have J:=zY k;have I:(qo k).size<=2:=UT
   clear J;have a:iQ acc (k+1)=if aI acc k then iQ acc k++⟨#[44]⟩++qo k else iQ acc k:=rfl
   have z:=hide a;clear a
   cases A:aI acc k
   ·rw[A] at F;have t:Hid (iQ acc (k+1)=iQ acc k):=(aJ z).trans (by rw[A];rfl);go_wp2;exact⟨⟨k+1,by omega,by go_num,by rw[t.out],D,f⟩,by simp[intOf];omega⟩
   ·rw[A] at F;have t:Hid (iQ acc (k+1)=iQ acc k++⟨#[44]⟩++qo k):=(aJ z).trans (by rw[A];rfl);go_wp2;exact⟨⟨k+1,by omega,by go_num,by rw[t.out],D.later ((zr _ _).alloc (zq _) _),f.alloc f.size _⟩,by simp[intOf];omega⟩
  ·obtain rfl:k=7:=UT
   have h1:(1:U8)<=((iQ acc 7).size:U8):=by have:=aJ U;omega
   go_wp2;go_ret;exact⟨zH (by rw[T.out];rfl),f⟩
theorem Lk{w:U3}(j:(sym.toList==[85,78,73,84,83])=Ve)(c1:(sym.toList==[77,73,78,85,84,69,83])=Ve)(h:(sym.toList==[69,86,69,82,89])=Ve)(f:(sym.toList==[73,68])=Ve)(c:(sym.toList==[84,73,77,69])=Ve)(a:(sym.toList==[79,78])=Ve):gD sym w=w:=by
 simp[gD,j,c1,h,f,c,a]
theorem Ea{w:U3}(h:(sym.toList==[84,73,77,69])=Vf)(a:aV sym w=Vf):0<=cZ w:=by
 have e:=beq_iff_eq.1 h;unfold aV at a;rw[e] at a
 simpa using a
theorem KJ{w:U3}(h:(sym.toList==[79,78])=Vf)(a:aV sym w=Vf):aB.dU w=Vf:=by
 have e:=beq_iff_eq.1 h;unfold aV at a;rw[e] at a
 simpa using a
theorem Fc(sym w:U3)(W:Vg)(o:Env W)(j:w.size<=160)(u:aV sym w=Vf):
  Vj prog 79 #[.string sym,.string w] W fun e w'=>e=.returned (.string (gD sym w))/\Vi W.heap.size W w':=by
 cases a:(sym.toList==[85,78,73,84,83])
 case true =>
  rw[show gD sym w=aB.gh (bF w 1 7) from by simp[gD,a]];exact xc sym w W o j (.inl a)
 cases c1:(sym.toList==[77,73,78,85,84,69,83])
 case true =>
  rw[show gD sym w=aB.gh (bF w 1 7) from by simp[gD,a,c1]];exact xc sym w W o j (.inr (.inl ⟨a,c1⟩))
 cases c:(sym.toList==[69,86,69,82,89])
 case true =>
  rw[show gD sym w=aB.gh (bF w 1 7) from by simp[gD,a,c1,c]];exact xc sym w W o j (.inr (.inr (.inl ⟨a,c1,c⟩)))
 cases f:(sym.toList==[73,68])
 case true =>
  rw[show gD sym w=aB.gh (bF w 1 7) from by simp[gD,a,c1,c,f]];exact xc sym w W o j (.inr (.inr (.inr ⟨a,c1,c,f⟩)))
 cases h:(sym.toList==[84,73,77,69])
 case true =>
  rw[show gD sym w=se (cZ w) from by simp[gD,a,c1,c,f,h]];exact Ns sym w W o j (Ea h u) a c1 c f h
 cases t:(sym.toList==[79,78])
 case true =>
  rw[show gD sym w=qe w from by simp[gD,a,c1,c,f,h,t]];exact M1 sym w W j (KJ t u) a c1 c f h t
 rw[Lk a c1 c f h t];refine (Nu sym w W a c1 c f h t).mono ?_;rintro e w' ⟨rfl,rfl⟩;exact⟨rfl,Below.refl _ _⟩
open aA (aL)
structure NV(w:Vg)(v:Vh)(l:U4 U8):Prop where
 form:∃ a cap,v=.slice a l.length cap
 cell:∀ (k:U7) (hk:k<l.length),∃ g cap,v=.slice (Vd ⟨g,0,Vc⟩) l.length cap/\w.cell? ⟨g,k,Vc⟩=Vd (.int .i64 l[k])
theorem NV.later{l:U4 U8}(h:NV w v l)(k:Vi w.heap.size w w'):NV w' v l :=
 ⟨h.form,fun i c=>by
  obtain⟨g,cap,e,a⟩:=h.cell i c
  exact⟨g,cap,e,aN k a⟩⟩
structure SV(w:Vg)(v:Vh)(L:U4 (U8 × U8)):Prop where
 form:∃ a cap,v=.slice a L.length cap
 cell:∀ (k:U7) (hk:k<L.length),∃ g cap,v=.slice (Vd ⟨g,0,Vc⟩) L.length cap/\w.cell? ⟨g,k*2,Vc⟩=Vd (.int .i64 L[k].1)/\w.cell? ⟨g,k*2+1,Vc⟩=Vd (.int .i64 L[k].2)
theorem SV.later(h:SV w v L)(k:Vi w.heap.size w w'):SV w' v L :=
 ⟨h.form,fun i c=>by
  obtain⟨g,cap,e,a,b⟩:=h.cell i c
  exact⟨g,cap,e,aN k a,aN k b⟩⟩
structure EV(w:Vg)(v:Vh)(l:U4 (aL × Vh)):Prop where
 form:∃ a cap,v=.slice a l.length cap
 cell:∀ (k:U7) (hk:k<l.length),∃ g cap,v=.slice (Vd ⟨g,0,Vc⟩) l.length cap/\w.cell? ⟨g,k*6,Vc⟩=Vd (.int .i64 l[k].1.id)/\w.cell? ⟨g,k*6+1,Vc⟩=Vd (.int .i64 l[k].1.kind)/\w.cell? ⟨g,k*6+2,Vc⟩=Vd (.string l[k].1.aT)/\w.cell? ⟨g,k*6+3,Vc⟩=Vd (.int .i64 l[k].1.aH)/\w.cell? ⟨g,k*6+4,Vc⟩=Vd l[k].2/\w.cell? ⟨g,k*6+5,Vc⟩=Vd (.int .i64 l[k].1.bY)
 sp:∀ p∈l,SV w p.2 p.1.aK
theorem EV.later(h:EV w v l)(k:Vi w.heap.size w w'):EV w' v l :=
 ⟨h.form,fun i c=>by
  obtain⟨g,cap,e,u,a1,t,o,j,f⟩:=h.cell i c
  exact⟨g,cap,e,aN k u,aN k a1,aN k t,aN k o,aN k j,aN k f⟩,fun p a=>(h.sp p a).later k⟩
namespace aA
theorem Hc{a b:U8}{x:aL}:∀ l:U4 aL,(nQ a b x l).Perm (x :: l)
 |[]=>by simp[nQ]
 |y :: r=>by
  simp only[nQ]
  split
  ·exact ZT _
  ·exact ((Hc r).cons y).trans (List.Perm.swap x y r)
theorem JB{a b:U8}:∀ l:U4 aL,(qK a b l).Perm l
 |[]=>ZT _
 |x :: r=>(Hc _).trans ((JB r).cons x)
end aA
open aA (aL cP hasB)
theorem SV.own{B:U7}(h:w.ownsRow B 60 2 v L.length (L.flatMap fA)):SV w v L:=by
 refine⟨ix h,fun k c=>?_⟩;obtain⟨g,cap,e⟩:=Yp h UT;subst e;obtain⟨j,f⟩:=H6 k c;have o:=IE L;have a:=h.cellAt (k*2) UT;have a1:=h.cellAt (k*2+1) UT;rw[j] at a;rw[f] at a1;exact⟨g,cap,rfl,a,a1⟩
theorem EV.own{B:U7}(h:w.ownsRow B 58 6 v l.length (l.flatMap ef))(sp:∀ p∈l,SV w p.2 p.1.aK):EV w v l:=by
 refine⟨ix h,fun k c=>?_,sp⟩;obtain⟨g,cap,e⟩:=Yp h UT;subst e
 have at_:∀ j,j<6->w.cell? ⟨g,k*6+j,Vc⟩=(ef l[k])[j]?:=fun j f=>by
  have a:=h.cellAt (k*6+j) UT;rw[qV c f] at a;exact a
 exact⟨g,cap,rfl,at_ 0 UT,at_ 1 UT,at_ 2 UT,at_ 3 UT,at_ 4 UT,at_ 5 UT⟩
namespace aA
end aA
namespace aA
end aA
namespace aA
end aA
open aA (aL St dB kept dZ cS cN gC cA bW gI ec gv nj Inv bJ kS ie bO)
def iN(p ws:U4 U3):U7->U3
 |0=>⟨#[]⟩
 |k+1=>(if 0<k then iN p ws k++⟨#[32]⟩ else iN p ws k)++gD (p.getD k ⟨#[]⟩) (ws.getD k ⟨#[]⟩)
theorem MW(n:U8)(a:-1<=n)(h:n<=9999999):(aB.gh n).size<=160:=by
 by_cases e:n=-1
 ·subst e;decide +kernel
 ·have:=aB.CS n UT h;omega
theorem M5(t:U8)(h:0<=t)(f:t<=1048320):(se t).size<=160:=by
 have c:=MY (t / 1440) UT UT;have a:=Mr (t % 1440) UT UT;have j:(⟨#[47]⟩:U3).size=1:=UV
 unfold se;simp only[ZM];omega
theorem Mh(w:U3):(qe w).size<=160:=by
 unfold qe
 split
 ·rename_i acc _
  have:=Aj acc 7;have e:(yX acc).size=min (iQ acc 7).size (iQ acc 7).size-1:=ByteArray.size_extract ..;omega
 ·exact zN _
theorem DQ(sym w:U3)(f:w.size<=160)(j:aV sym w=Vf):(gD sym w).size<=160:=by
 have c:=DB w;have a:=MW (bF w 1 7) c.1 c.2;unfold gD
 split
 ·exact a
 ·split
  ·exact a
  ·split
   ·exact a
   ·split
    ·exact a
    ·split
     ·rename_i h;exact M5 _ (Ea h j) (DH w).2
     ·split
      ·exact Mh w
      ·exact f
theorem EJ:∀ (ps:U4 (U4 U3))(ws:U4 U3)(m:U7)(p:U4 U3),scan ps ws m=(Vd p,0)->pre p ws=p.length/\pre p ws=ws.length
 |[],_,_,_,h=>by simp[scan] at h
 |q :: ps,ws,m,p,h=>by
  unfold scan at h
  split at h
  ·rename_i hc;simp at h;subst h;exact hc
  ·exact EJ ps ws _ p h
theorem Er(p ws:U4 U3)(f:pre p ws=p.length)(a:pre p ws=ws.length)(c:∀ x∈ws,x.size<=160):∀ k:U7,k<=ws.length->(iN p ws k).size<=161*k
 |0,_=>zq _
 |k+1,hk=>by
  have ih:=Er p ws f a c k UT;have h:=wP p ws k UT UT UT;have o:p.getD k ⟨#[]⟩=p[k]'UT:=by simp[Wr,show k<p.length by omega]
  have j:ws.getD k ⟨#[]⟩=ws[k]'UT:=by simp[Wr,show k<ws.length by omega]
  have z:=DQ (p[k]'UT) (ws[k]'UT) (c _ (zg UT)) h;have t:(⟨#[32]⟩:U3).size=1:=UV
  unfold iN;rw[o,j]
  split
  ·simp only[ZM];omega
  ·simp only[ZM];omega
def PR(s:U3)(e:Ending):Prop :=
 (160<s.size/\e=.returned (.tuple #[.string ⟨#[]⟩,.int .i64 1,.int .i64 0])) \/
 (s.size<=160/\((∃ p,jj s=(Vd p,0)/\e=.returned (.tuple #[.string (iN p (aB.aP s) (aB.aP s).length),.int .i64 0,.int .i64 0])) \/
  (∃ m:U7,jj s=(Vc,m)/\e=.returned (.tuple #[.string ⟨#[]⟩,.int .i64 2,.int .i64 m]))))
theorem Ff(s:U3)(w:Vg)(c:160<s.size):
  Vj prog 78 #[.string s] w fun e w'=>e=.returned (.tuple #[.slice Vc 0 0,.slice Vc 0 0,.int .i64 1,.int .i64 0])/\w'=w:=by
 have a:(160:U8)<(s.size:U8):=UT
 go_in
 go_wp2
 (try simp only[WE,Exit.then]);refine bodyPost_ret (pC rfl _ _ _) rfl ?_
 exact⟨rfl,rfl⟩
theorem Np(s:U3)(w:Vg)(he:Env w):
  Vj prog 55 #[.string s] w fun e w'=>PR s e/\Vi w.heap.size w w':=by
 by_cases X:s.size<=160
 ·have HE:=hide he;clear he
  go_in
  go_wp2_with fail
  refine (Au s w X).mono ?_;rintro e w1 ⟨hr,P⟩;rcases hr with ⟨p,a,b,c,d,g,h,t,rfl,ra,rb⟩|⟨m,t,rfl⟩
  ·have ⟨l1,l2⟩:=EJ _ _ _ _ t;have M:=hide t;have ab:=Ar s;have Y:∀ x∈aB.aP s,x.size<=160:=fun x hx=>Vp (xF s x hx) X
   have aa:=hide (Er p (aB.aP s) l1 l2 Y);have HW:=hide Y;have L1:=hide l1;have L2:=hide l2;have Z:=hide (wP p (aB.aP s));clear t Y l1 l2;go_wp2
   go_loopw [9,10,11] (fun o i _ wx=>∃ k:U7,k<=(aB.aP s).length/\i=.int .i64 k/\o=.string (iN p (aB.aP s) k)/\Row wx a g (aB.aP s)/\Row wx b h p/\Vi w.heap.size w wx) (fun _ i _ _=>(aB.aP s).length-(intOf i).toNat)
   case atStart=>exact⟨0,Wg _,rfl,rfl,ra,rb,P⟩
   case round =>
    obtain⟨k,hk,rfl,rfl,A,z,u⟩:=hrel;clear ra rb;have oz:=aJ aa k hk
    by_cases C:k<(aB.aP s).length
    ·have I:k<p.length:=by have:=aJ L1;have:=aJ L2;omega
     obtain rfl:=A.at_ UT;obtain rfl:=z.at_ UT;have k1:=z.cells k I;have k2:=A.cells k C;have j1:(k:U8)<(p.length:U8):=UT
     have j2:(k:U8)<((aB.aP s).length:U8):=UT
     have j0:(0:U8)<=(k:U8):=Y5 _;have G:(aB.aP s)[k].size<=160:=aJ HW _ (zg C);have J:aV p[k] (aB.aP s)[k]=Vf:=aJ Z k I C (by have:=aJ L2;omega);have U:=hide G;have V:=hide J;have wz:=DQ _ _ G J
     have T:Hid (iN p (aB.aP s) (k+1)=(if 0<k then iN p (aB.aP s) k++⟨#[32]⟩ else iN p (aB.aP s) k)++gD p[k] (aB.aP s)[k]):=by
      show iN p (aB.aP s) (k+1)=_;rw[iN,show p.getD k ⟨#[]⟩=p[k] from by simp[Wr,I],show (aB.aP s).getD k ⟨#[]⟩=(aB.aP s)[k] from by simp[Wr,C]]
     clear G J;have S:=hide ((aJ HE).later u)
     by_cases O:0<k
     ·have j3:(0:U8)<(k:U8):=UT
      have N:Hid (iN p (aB.aP s) (k+1)=iN p (aB.aP s) k++⟨#[32]⟩++gD p[k] (aB.aP s)[k]):=T.out.trans (by rw[Va O])
      go_wp2_with fail
      go_region_held3 (fun w'=>w'.cell? ⟨h,k,Vc⟩=Vd (.string p[k])/\w'.cell? ⟨g,k,Vc⟩=Vd (.string (aB.aP s)[k]))
       (first
        |go_keep
        |(
         go_split_ands
         refine⟨?_,?_⟩
         ·exact cell_later f UW
         ·exact cell_later f UW))
       ((go_at_call 79;refine (Fc _ _ _ ?_ (aJ U) (aJ V)).mono ?_;exact (aJ S).later ⟨rfl,rfl,rfl,Vm _,fun _ _=>rfl⟩;rintro e w4 ⟨rfl,f⟩))
      have j:Vi wr.heap.size wr w4:=⟨f.os,f.tape,f.output,f.size,f.block⟩;have y:=u.trans (j.mono u.size);have F:=A.later j;have D:=z.later j;go_wp2;exact⟨⟨k+1,by omega,by go_num,by rw[N.out],F,D,y⟩,by simp[intOf];omega⟩
     ·have j3:¬ (0:U8)<(k:U8):=UT
      have N:Hid (iN p (aB.aP s) (k+1)=iN p (aB.aP s) k++gD p[k] (aB.aP s)[k]):=T.out.trans (by rw[U9 O])
      go_wp2_with fail
      go_region_held3 (fun w'=>w'.cell? ⟨h,k,Vc⟩=Vd (.string p[k])/\w'.cell? ⟨g,k,Vc⟩=Vd (.string (aB.aP s)[k]))
       (first
        |go_keep
        |(
         go_split_ands
         refine⟨?_,?_⟩
         ·exact cell_later f UW
         ·exact cell_later f UW))
       ((go_at_call 79;refine (Fc _ _ _ ?_ (aJ U) (aJ V)).mono ?_;exact (aJ S).later ⟨rfl,rfl,rfl,Vm _,fun _ _=>rfl⟩;rintro e w4 ⟨rfl,f⟩))
      have j:Vi wr.heap.size wr w4:=⟨f.os,f.tape,f.output,f.size,f.block⟩;have y:=u.trans (j.mono u.size);have F:=A.later j;have D:=z.later j;go_wp2;exact⟨⟨k+1,by omega,by go_num,by rw[N.out],F,D,y⟩,by simp[intOf];omega⟩
    ·obtain rfl:k=(aB.aP s).length:=UT
     go_wp2;go_ret3;exact⟨.inr ⟨X,.inl ⟨p,aJ M,rfl⟩⟩,u⟩
  ·have M:=hide t;clear t;go_wp2;go_ret3;exact⟨.inr ⟨X,.inr ⟨m,aJ M,rfl⟩⟩,P⟩
 ·go_in
  go_wp2_with fail
  refine (Ff s w UT).mono ?_;rintro e w1 ⟨rfl,rfl⟩;go_wp2;go_ret3;exact⟨.inl ⟨by omega,rfl⟩,Below.refl _ _⟩
theorem kF(ws:U4 U3)(P Q:U4 (U3->U6))(st:U7 × U6):aQ ws (P++Q) st=aQ ws Q (aQ ws P st):=XI ..
theorem La(ws:U4 U3)(B:U3->U6)(n:U7):dI ws B (n,Vf)=(n,Vf):=by simp[dI,ek,ei,eA,cB]
theorem qs(ws:U4 U3):∀ (a:U4 (U3->U6))(n:U7),aQ ws a (n,Vf)=(n,Vf)
 |[],_=>rfl
 |B :: a,n=>by
  show aQ ws a (dI ws B (n,Vf))=_;rw[La,qs ws a n]
theorem wJ(h:eA ws n Ve B=Ve):dI ws B (n,Ve)=(n,Vf):=by
 simp only[dI,ek,ei,h,if_false,Vw]
theorem Li(h:¬ n<ws.length):eA ws n Ve B=Ve:=by simp[eA,cB,h]
theorem Dt(h:B (ws.getD n YM)=Ve):eA ws n Ve B=Ve:=by simp only[eA,h,Bool.and_false]
theorem mB(h:eA ws n wr B=Vf):wr=Ve/\n<ws.length/\B (ws.getD n YM)=Vf:=by
 unfold eA cB at h;simp only[W6,ZJ,decide_eq_true_eq] at h;exact⟨h.1.1,h.1.2,h.2⟩
theorem Ej(ws:U4 U3):∀ (p:U4 U3)(n:U7),n<=ws.length->aQ ws (p.map aV) (n,Ve)=(n+pre p (ws.drop n),decide (pre p (ws.drop n)≠p.length))
 |[],n,_=>by simp[pre,aQ]
 |s :: p,n,hn=>by
  show aQ ws (p.map aV) (dI ws (aV s) (n,Ve))=_
  by_cases a:n<ws.length
  ·have h:ws.drop n=ws[n] :: ws.drop (n+1):=WN a;have f:ws.getD n YM=ws[n]:=pI ws n a
   cases c:aV s ws[n]
   ·rw[wJ (Dt (by rw[f];exact c)),qs,h,pre,c];simp
   ·rw[Fz a (by rw[f];exact c),Ej ws p (n+1) a,h,pre,c];simp only[if_true];refine Prod.ext ?_ ?_
    ·show n+1+_=n+(_+1);omega
    ·simp
  ·rw[wJ (Li a),qs,ZS UT];simp[pre]
theorem zn(ws p:U4 U3):aQ ws (p.map aV) (0,Ve)=(pre p ws,decide (pre p ws≠p.length)):=by
 have:=Ej ws p 0 (zN _)
 simpa using this
theorem nI(h:aQ ws (p.map aV) (0,Ve)=(n,b)):pre p ws=n:=by
 rw[zn] at h;exact (ZU h).1
theorem qj(h:aQ ws (p.map aV) (0,Ve)=(n,Ve)):n=p.length:=by
 rw[zn] at h;obtain⟨c,a⟩:=ZU h;rw[c] at a
 by_cases e:n=p.length
 ·exact e
 ·simp[e] at a
theorem uE(h:aQ ws (p.map aV) (0,Ve)=(n,Vf)):n<p.length:=by
 have c:=(rU p ws).1;rw[zn] at h;obtain⟨f,a⟩:=ZU h;rw[f] at a c
 by_cases e:n=p.length
 ·simp[e] at a
 ·omega
theorem Dr(R:U4 U3)(h:aQ ws (Q.map aV) (0,Ve)=(n,Vf)):pre (Q++R) ws=n:=by
 apply nI (b:=Vf);rw[Wq,kF,h,qs]
theorem Dd{s:U3}(R:U4 U3)(h:aQ ws (Q.map aV) (0,Ve)=(n,Ve))(a:eA ws n Ve (aV s)=Ve):pre (Q++s :: R) ws=n:=by
 apply nI (b:=Vf);rw[Wq,kF,h];show aQ ws (R.map aV) (dI ws (aV s) (n,Ve))=_;rw[wJ a,qs]
theorem zC(h:aQ ws ((Q++R).map aV) (0,Ve)=(n,Ve)):aQ ws (Q.map aV) (0,Ve)=(Q.length,Ve):=by
 rw[Wq,kF] at h;obtain⟨m,b,a⟩:∃ m b,aQ ws (Q.map aV) (0,Ve)=(m,b):=⟨_,_,rfl⟩
 cases b
 ·rw[a,qj a]
 ·rw[a,qs] at h;cases h
theorem uJ{s:U3}(h:aQ ws ((Q++s :: R).map aV) (0,Ve)=(n,Ve)):eA ws Q.length Ve (aV s)=Vf:=by
 have a:=zC h;rw[Wq,kF,a] at h
 cases ht:eA ws Q.length Ve (aV s)
 ·have:aQ ws (R.map aV) (dI ws (aV s) (Q.length,Ve))=(n,Ve):=h;rw[wJ ht,qs] at this
  cases this
 ·rfl
structure Sum(ps:U4 (U4 U3))(ws:U4 U3)(st:U7 × U6)(q:U4 U3):Prop where
 mem:q∈ps
 le:∀ p∈ps,pre p ws<=st.1
 at_:pre q ws=st.1
 bad:st.2=Vf->∀ p∈ps,¬ (pre p ws=p.length/\pre p ws=ws.length)
 qm:st.2=Ve->pre q ws=q.length/\∀ p∈ps,p≠q->¬ (pre p ws=p.length/\pre p ws=ws.length)
theorem EH:∀ (ps:U4 (U4 U3))(ws:U4 U3)(m M:U7),(∀ p∈ps,¬ (pre p ws=p.length/\pre p ws=ws.length))->(∀ p∈ps,pre p ws<=M)->m<=M->(m=M\/∃ p∈ps,pre p ws=M)->scan ps ws m=(Vc,M)
 |[],_,m,M,_,_,_,h=>by
  rcases h with rfl|⟨p,c,_⟩
  ·rfl
  ·simp at c
 |p :: ps,ws,m,M,h1,h2,h3,h4=>by
  have c:=h2 p (Yd ..);rw[scan,U9 (h1 p (Yd ..))];refine EH ps ws _ M (fun q a=>h1 q (WU _ a)) (fun q a=>h2 q (WU _ a)) (by split <;> omega) ?_;rcases h4 with rfl|⟨q,a,e⟩
  ·left;rw[U9 UT]
  ·rcases Vz.1 a with rfl|a
   ·left;split <;> omega
   ·exact .inr ⟨q,a,e⟩
theorem Eg:∀ (ps:U4 (U4 U3))(ws:U4 U3)(m:U7)(q:U4 U3),q∈ps->pre q ws=q.length/\pre q ws=ws.length->(∀ p∈ps,p≠q->¬ (pre p ws=p.length/\pre p ws=ws.length))->scan ps ws m=(Vd q,0)
 |[],_,_,_,h,_,_=>by simp at h
 |p :: ps,ws,m,q,h,hf,hn=>by
  rw[scan]
  by_cases e:p=q
  ·subst e;rw[Va hf]
  ·rw[U9 (hn p (Yd ..) e)];rcases Vz.1 h with h|h
   ·exact Vb h.symm e
   ·exact Eg ps ws _ q h hf (fun r a=>hn r (WU _ a))
theorem Sum.yes(h:Sum ps ws st q)(a:st.2=Ve)(c:cB ws.length st.1 st.2=Ve):scan ps ws 0=(Vd q,0):=by
 obtain⟨j,f⟩:=h.qm a;have o:¬ st.1<ws.length:=by simpa[cB,a] using c
 have:=(rU q ws).2;have:=h.at_;exact Eg ps ws 0 q h.mem ⟨j,by omega⟩ f
theorem Sum.no(h:Sum ps ws st q)(a:st.2=Vf\/cB ws.length st.1 st.2=Vf):scan ps ws 0=(Vc,st.1):=by
 refine EH ps ws 0 st.1 ?_ h.le (zN _) (.inr ⟨q,h.mem,h.at_⟩);rcases a with a|a
 ·exact h.bad a
 ·have f:=pO a;intro p c e;have:=h.le p c;omega
theorem EZ(ws:U4 U3)(f:U4 U3->U6):∀ (ps:U4 (U4 U3))(m:U7),(∀ p∈ps,f p=Ve->pre p ws=0/\p≠[])->scan ps ws m=scan (ps.filter f) ws m
 |[],_,_=>rfl
 |p :: ps,m,h=>by
  have ih:=fun m=>EZ ws f ps m (fun q j=>h q (WU _ j))
  cases c:f p
  ·obtain⟨o,a⟩:=h p (Yd ..) c;rw[List.filter_cons_of_neg (by simp[c]),scan,o,U9,U9 UT,ih];rintro ⟨e,_⟩;exact a (V8.1 e.symm)
  ·rw[List.filter_cons_of_pos c,scan,scan,ih]
def cD:U3:=⟨#[78,65,77,69]⟩
def eN:U3:=⟨#[85,78,73,84,83]⟩
def gi:U3:=⟨#[77,73,78,85,84,69,83]⟩
def hH:U3:=⟨#[69,86,69,82,89]⟩
def mu:U3:=⟨#[73,68]⟩
def bG:U3:=⟨#[84,73,77,69]⟩
def gZ:U3:=⟨#[68,65,84,69]⟩
def jB:U3:=⟨#[77,73,78,85,84,69]⟩
def lj:U3:=⟨#[79,78]⟩
theorem Ai(w:U3)(a hi:U8)(h:0<=a):jZ w a hi=eL w a hi:=by
 unfold jZ eL;rw[uV]
 cases c:aB.isNum w.data.toList
 ·simp;omega
 ·simp
theorem gR:aV cD=bI:=by
 have a:(cD.toList==[78,65,77,69])=Vf:=UX
 funext w;unfold aV;rw[Va a];rfl
theorem lM:aV eN=dE:=by
 have a:¬ (eN.toList==[78,65,77,69])=Vf:=UX
 have c1:(eN.toList==[85,78,73,84,83])=Vf:=UX
 funext w;unfold aV;rw[U9 a,Va c1];exact Ai w 1 9 UT
theorem s9:aV gi=eJ:=by
 have c:¬ (gi.toList==[78,65,77,69])=Vf:=UX
 have c1:¬ (gi.toList==[85,78,73,84,83])=Vf:=UX
 have a:(gi.toList==[77,73,78,85,84,69,83])=Vf:=UX
 funext w;unfold aV;rw[U9 c,U9 c1,Va a];exact Ai w 1 1048320 UT
theorem qa:aV hH=eo:=by
 have f:¬ (hH.toList==[78,65,77,69])=Vf:=UX
 have c1:¬ (hH.toList==[85,78,73,84,83])=Vf:=UX
 have c:¬ (hH.toList==[77,73,78,85,84,69,83])=Vf:=UX
 have a:(hH.toList==[69,86,69,82,89])=Vf:=UX
 funext w;unfold aV;rw[U9 f,U9 c1,U9 c,Va a];exact Ai w 1 99 UT
theorem Dh:aV mu=oh:=by
 have h:¬ (mu.toList==[78,65,77,69])=Vf:=UX
 have c1:¬ (mu.toList==[85,78,73,84,83])=Vf:=UX
 have f:¬ (mu.toList==[77,73,78,85,84,69,83])=Vf:=UX
 have c:¬ (mu.toList==[69,86,69,82,89])=Vf:=UX
 have a:(mu.toList==[73,68])=Vf:=UX
 funext w;unfold aV;rw[U9 h,U9 c1,U9 f,U9 c,Va a,uV]
 have:=aB.kV w.data.toList;unfold oh
 cases j:aB.isNum w.data.toList
 ·simp
 ·simp;omega
theorem mR:aV bG=bB:=by
 have j:¬ (bG.toList==[78,65,77,69])=Vf:=UX
 have c1:¬ (bG.toList==[85,78,73,84,83])=Vf:=UX
 have h:¬ (bG.toList==[77,73,78,85,84,69,83])=Vf:=UX
 have f:¬ (bG.toList==[69,86,69,82,89])=Vf:=UX
 have c:¬ (bG.toList==[73,68])=Vf:=UX
 have a:(bG.toList==[84,73,77,69])=Vf:=UX
 funext w;unfold aV;rw[U9 j,U9 c1,U9 h,U9 f,U9 c,Va a]
 unfold cZ
 cases ht:bB w
 ·simp
 ·unfold bB at ht;simp only[W6,decide_eq_true_eq] at ht;simp;omega
theorem wt:aV gZ=aB.cM:=by
 have z:¬ (gZ.toList==[78,65,77,69])=Vf:=UX
 have c1:¬ (gZ.toList==[85,78,73,84,83])=Vf:=UX
 have y:¬ (gZ.toList==[77,73,78,85,84,69,83])=Vf:=UX
 have u:¬ (gZ.toList==[69,86,69,82,89])=Vf:=UX
 have t:¬ (gZ.toList==[73,68])=Vf:=UX
 have o:¬ (gZ.toList==[84,73,77,69])=Vf:=UX
 have j:(gZ.toList==[68,65,84,69])=Vf:=UX
 funext w;unfold aV;rw[U9 z,U9 c1,U9 y,U9 u,U9 t,U9 o,Va j]
 unfold eU aB.cM;apply decide_eq_decide.2;constructor
 ·intro h
  split at h
  ·rename_i hc;exact⟨hc.1,hc.2.1,h.2⟩
  ·omega
 ·rintro ⟨f,a,c⟩;rw[Va ⟨f,a,by omega⟩];exact⟨a,c⟩
theorem C5:aV jB=aB.dA:=by
 have t:¬ (jB.toList==[78,65,77,69])=Vf:=UX
 have c1:¬ (jB.toList==[85,78,73,84,83])=Vf:=UX
 have o:¬ (jB.toList==[77,73,78,85,84,69,83])=Vf:=UX
 have j:¬ (jB.toList==[69,86,69,82,89])=Vf:=UX
 have h:¬ (jB.toList==[73,68])=Vf:=UX
 have f:¬ (jB.toList==[84,73,77,69])=Vf:=UX
 have c:¬ (jB.toList==[68,65,84,69])=Vf:=UX
 have a:(jB.toList==[77,73,78,85,84,69])=Vf:=UX
 funext w;unfold aV;rw[U9 t,U9 c1,U9 o,U9 j,U9 h,U9 f,U9 c,Va a]
 have:=aB.xl w;unfold gS
 cases ht:aB.dA w
 ·simp
 ·simp;omega
theorem C6:aV lj=aB.dU:=by
 have u:¬ (lj.toList==[78,65,77,69])=Vf:=UX
 have c1:¬ (lj.toList==[85,78,73,84,83])=Vf:=UX
 have t:¬ (lj.toList==[77,73,78,85,84,69,83])=Vf:=UX
 have o:¬ (lj.toList==[69,86,69,82,89])=Vf:=UX
 have j:¬ (lj.toList==[73,68])=Vf:=UX
 have h:¬ (lj.toList==[84,73,77,69])=Vf:=UX
 have f:¬ (lj.toList==[68,65,84,69])=Vf:=UX
 have c:¬ (lj.toList==[77,73,78,85,84,69])=Vf:=UX
 have a:(lj.toList==[79,78])=Vf:=UX
 funext w;unfold aV;rw[U9 u,U9 c1,U9 t,U9 o,U9 j,U9 h,U9 f,U9 c,Va a]
def jC(x:U3):U6:=!(x.toList==[78,65,77,69]) && !(x.toList==[85,78,73,84,83]) && !(x.toList==[77,73,78,85,84,69,83]) && !(x.toList==[69,86,69,82,89]) && !(x.toList==[73,68]) && !(x.toList==[84,73,77,69]) && !(x.toList==[68,65,84,69]) && !(x.toList==[77,73,78,85,84,69]) && !(x.toList==[79,78])
theorem Ml(h:jC x=Vf):(x.toList==[78,65,77,69])=Ve/\(x.toList==[85,78,73,84,83])=Ve/\(x.toList==[77,73,78,85,84,69,83])=Ve/\(x.toList==[69,86,69,82,89])=Ve/\(x.toList==[73,68])=Ve/\(x.toList==[84,73,77,69])=Ve/\(x.toList==[68,65,84,69])=Ve/\(x.toList==[77,73,78,85,84,69])=Ve/\(x.toList==[79,78])=Ve:=by
 unfold jC at h;simp only[W6,ZJ] at h;obtain⟨⟨⟨⟨⟨⟨⟨⟨z,y⟩,u⟩,t⟩,o⟩,j⟩,f⟩,c⟩,a⟩:=h;exact⟨z,y,u,t,o,j,f,c,a⟩
theorem gY(x:U3)(h:jC x=Vf):aV x=bE x:=by
 obtain⟨z,y,u,t,o,j,f,c,a⟩:=Ml h
 funext w
 unfold aV bE;rw[z,y,u,t,o,j,f,c,a];simp only[Vw,if_false];exact BEq.comm
theorem nE(ws:U4 U3)(n:U7)(wr:U6)(x:U3):bD ws n wr x=eA ws n wr (bE x):=rfl
theorem nL(h:bD ws st.1 st.2 x=Vf):dV st=dI ws (bE x) st:=by
 obtain⟨n,wr⟩:=st;have ht:eA ws n wr (bE x)=Vf:=h;simp only[dV,dI,ek,ei,ht,if_true]
theorem wI{w:U3}(h:aB.isNum w.data.toList=Vf):bF w 1 7=cL w:=by rw[uV,Va h];rfl
theorem Am{w:U3}{a hi:U8}(h:eL w a hi=Vf):aB.isNum w.data.toList=Vf/\a<=cL w/\cL w<=hi:=by
 unfold eL at h;simp only[W6,decide_eq_true_eq] at h;exact⟨h.1.1,h.1.2,h.2⟩
theorem KT{w:U3}(h:bI w=Vf):qH w=w:=Va h
theorem MG(w:Vg)(h:Env w):Vj prog 44 #[] w fun e w'=>∃ p d aM,e=.returned (.pointer (Vd ⟨p,0,Vc⟩))/\BD w' p d gL mV aM/\Vi w.heap.size w w'/\(∀ b,b<w.heap.size->aM b=Vc)/\w.heap.size<=p:=by
 have y:=aC (S7 w);have u:=aC h;have o:=h.size;clear h
 go_in
 go_wp2_with (first
  |(go_at_call 60;refine y.out.mono ?_;rintro e w1 ⟨v,rfl,rfl,c,f⟩))
 have t:Hid (BD (w1.alloc (.cells #[.pointer (Vd ⟨w.heap.size+2,0,Vc⟩)] 99)) w1.heap.size (w.heap.size+2) gL mV (pB w.heap.size)/\Vi w.heap.size w (w1.alloc (.cells #[.pointer (Vd ⟨w.heap.size+2,0,Vc⟩)] 99))/\(∀ b,b<w.heap.size->pB w.heap.size b=Vc)/\w.heap.size<=w1.heap.size):=by
  have k:Vi w1.heap.size w1 (w1.alloc (.cells #[.pointer (Vd ⟨w.heap.size+2,0,Vc⟩)] 99)):=(zr _ _).alloc (zq _) _;have a:∀ b,b<w.heap.size->pB w.heap.size b=Vc:=fun b j=>by unfold pB;rw[U9 UT,U9 UT,U9 UT]
  exact⟨⟨cC w1 _,c.dk.none (zq _),⟨c.dk.later k,c.of,c.wl,c.hl,c.inv⟩,(u.out.later f).later k,fun b j=>a b UT⟩,f.trans (k.mono f.size),a,f.size⟩
 clear c f
 go_wp2_with fail
 exact bodyPost_ret (v:=.pointer (Vd ⟨w1.heap.size,0,Vc⟩)) (by simp[results,results44,go_sem]) rfl ⟨_,_,_,rfl,t.out⟩
end Go.Proofs.YtfigmlfdnickmaaGreatDoor
namespace Go.Proofs.YtfigmlfdnickmaaGreatDoor.Laid
def val:DataW Unit->Vh
 |.lit (.int k n)=>.int k n
 |.lit (.string b)=>.string ⟨b.toArray⟩
 |_=>.bool Ve
def row:DataW Unit->U4 Vh
 |.agg l=>l.map val
 |_=>[]
def rows:DataW Unit->U4 Vh
 |.agg l=>l.flatMap row
 |_=>[]
def text:DataW Unit->Vh
 |.iface _ (.ptr (.agg [d]))=>val d
 |_=>.bool Ve
def put(l:U4 Vh):Obj->Obj
 |.cells _ t frozen=>.cells l.toArray t frozen
 |o=>o
def AA(w:Vg):Vg :=
 { w with heap:=(((((((((w.heap.modify 1 (put (row Rows.laid_bookings_calendar_monthDays))).modify 0 (put (row Rows.laid_internal_strconv_uint64pow10))).modify 6 (put [.iface 369 (.pointer (Vd ⟨w.heap.size,0,Vc⟩))])).modify 7 (put [.iface 369 (.pointer (Vd ⟨w.heap.size+1,0,Vc⟩))])).modify 3 (put (row Rows.laid_bookings_lines_weekdays))).modify 4 (put (row Rows.laid_math_bits_deBruijn32tab))).modify 5 (put (row Rows.laid_math_bits_deBruijn64tab))).modify 8 (put (row Rows.laid_unicode_utf8_first))).modify 9 (put (rows Rows.laid_unicode_utf8_acceptRanges))).push (.cells #[text Rows.laid_strconv_ErrSyntax] 371) |>.push (.cells #[text Rows.laid_strconv_ErrRange] 371) }
end Go.Proofs.YtfigmlfdnickmaaGreatDoor.Laid
namespace Go.Proofs.YtfigmlfdnickmaaGreatDoor.datesLaw
open Go.ChangeShapes Go.WideShapes Go.ChangeAt Go.RowKit
theorem own:ownKnob prog.godebug=Vc:=UY
theorem OJ:laidOutB prog=Vf:=UY
theorem PE:prog.cellsOf 3=1:=UY
theorem A6:prog.cellsOf 9=1:=UY
theorem zP:prog.cellsOf 89=6:=UY
theorem oe{α:Type}{l:U4 α}(h:l.length=6):∃ a b c d e f,l=[a,b,c,d,e,f]:=by
 match l,h with
 |[a,b,c,d,e,f],_=>exact⟨a,b,c,d,e,f,rfl⟩
end Go.Proofs.YtfigmlfdnickmaaGreatDoor.datesLaw
namespace Go.Proofs.YtfigmlfdnickmaaGreatDoor.EnvLaid
open Go.ChangeShapes Go.WideShapes Go.ChangeAt Go.RowKit
theorem Ik{P:Program}{name:String}{k:IntKind}{zs:U4 U8}{t e:Vl}
  (y:P.globalNamed name=Vd g) (c:(P.globals[g]?).map (·.type)=Vd t) (ht:P.underlying t=Vd (.array n e)) (z:P.underlying e=Vd (.int k)) (u:P.cellsOf e=1) (o:P.cellsOf t=n)
  (h:Lib.VarReads P W name (ZV k zs)):Lib.TabIs P W name k zs:=by
 obtain⟨D,C,cs,fuel,p,j,f,a,A⟩:=h;obtain rfl:=WX (y.symm.trans j);obtain rfl:=WX (c.symm.trans f);unfold Lib.TabIs;rw[a,<- Lib.cells_of_tab ht z u o A]
theorem Rf{P:Program}{name:String}{zs:U4 (U4 UInt8)}{t e:Vl}
  (J:P.globalNamed name=Vd g) (u:(P.globals[g]?).map (·.type)=Vd t) (ht:P.underlying t=Vd (.array n e)) (O:P.underlying e=Vd .string) (F:P.cellsOf e=1)
  (h:Lib.VarReads P W name (.agg (zs.map fun z=>.lit (.string z)))) (i:U7) (z:U4 UInt8) (G:zs[i]?=Vd z):W.cell? ⟨g,i,Vc⟩=Vd (.string ⟨z.toArray⟩):=by
 obtain⟨g',Y,cs,fuel,p,D,y,f,S⟩:=h;obtain rfl:=WX (J.symm.trans D);obtain rfl:=WX (u.symm.trans y);obtain⟨xs,m,_,N,_,M,o⟩:=DataW.trod_array ht S
 have c:zs.map (fun z=>(ZW (.string z):DataW Unit))=xs.map (·.1):=by
  have:=congrArg Prod.fst N
  simpa using this
 have I:zs.length=xs.length:=by
  have:=congrArg List.length c
  simpa using this
 have Z:i<zs.length:=(ZR.1 G).1;have a:xs[i]?=Vd xs[i]:=Xa UT;have j:=o i UT;rw[a,F] at j;obtain⟨s,C,A,_⟩:=DataW.trod_string O j
 have X:(xs.map (·.1))[i]?=Vd (ZW (.string z):DataW Unit):=by rw[<- c];simp[G]
 have V:(xs.map (·.1))[i]?=Vd (ZW (.string s.data.toList):DataW Unit):=by simp[a,A]
 have U:z=s.data.toList:=by
  have:=X.symm.trans V
  simpa using this
 have T:cs[i]?=Vd (.string s):=by
  have:=congrArg (·[0]?) C
  simpa[Xh,List.getElem?_drop] using this
 rw[World.var?_cell J f i,T,U]
theorem Pt:(prog.globals[0]?).map (·.type)=Vd 306:=UY
theorem PH:prog.cellsOf 306=20:=UY
theorem Pf:prog.cellsOf 265=1:=UY
theorem Oi : prog.globalNamed "bookings/lines.weekdays" = Vd 3 := by kernel_rfl
theorem Q0:(prog.globals[3]?).map (·.type)=Vd 352:=UY
theorem mD : prog.globalNamed "bookings/calendar.monthDays" = Vd 1 := by kernel_rfl
theorem Ps:(prog.globals[1]?).map (·.type)=Vd 314:=UY
theorem PG:prog.cellsOf 314=12:=UY
theorem Ou:prog.cellsOf 3=1:=UY
theorem A6:prog.cellsOf 9=1:=UY
theorem Oh {W: Vg} {l: U4 (String × DataW Unit)} (hM : laidMet prog l W) (hS : W.ShapedOpen prog) (m1 : ("bookings/calendar.monthDays", Rows.laid_bookings_calendar_monthDays) ∈ l) (m2 : ("internal/strconv.uint64pow10", Rows.laid_internal_strconv_uint64pow10) ∈ l) (m3 : ("bookings/lines.weekdays", Rows.laid_bookings_lines_weekdays) ∈ l) : Env W := by
 have ht : Lib.VarReads prog W "bookings/calendar.monthDays" (ZV .i64 [31, 28, 31, 30, 31, 30, 31, 31, 30, 31, 30, 31]) := Lib.laidMet.reads hM (d := Rows.laid_bookings_calendar_monthDays) m1;have hp : Lib.VarReads prog W "internal/strconv.uint64pow10" (ZV .u64 Lib.pow10Tab) := Lib.laidMet.reads hM (d := Rows.laid_internal_strconv_uint64pow10) m2;have hd : Lib.VarReads prog W "bookings/lines.weekdays" (.agg ([[109, 111], [116, 117], [119, 101], [116, 104], [102, 114], [115, 97], [115, 117]].map fun z => .lit (.string z))) := Lib.laidMet.reads hM (d := Rows.laid_bookings_lines_weekdays) m3;have day:=fun i z hz=>Rf Oi Q0 underlying352 underlying9 A6 hd i z hz
 have tb:=Ik mD Ps underlying314 underlying3 Ou PG ht
 have hsz:10<=W.heap.size:=by
  have h0:(((begin prog (fun _ _=>0) default).world.heap[9]?).bind Obj.row?).isSome=Vf:=UY
  obtain⟨⟨zero,t⟩,h1⟩:=Option.isSome_iff_exists.1 h0;obtain⟨cs,hh,_⟩:=hS.1 9 zero t (of_decide_eq_true UY) h1;exact (Y8.1 hh).1
 exact⟨⟨tb.cell mD 0 UV,tb.cell mD 1 UV,tb.cell mD 2 UV,tb.cell mD 3 UV,tb.cell mD 4 UV,tb.cell mD 5 UV,tb.cell mD 6 UV,tb.cell mD 7 UV,tb.cell mD 8 UV,tb.cell mD 9 UV,tb.cell mD 10 UV,tb.cell mD 11 UV⟩,cell_of_shapedOpen_int (zero:=#[.int .i64 0]) (t:=3) hS (of_decide_eq_true UY) UY rfl UY UY underlying3,
  Ik vb Pt underlying306 underlying265 Pf PH hp,hsz,
  day 0 _ rfl,day 1 _ rfl,day 2 _ rfl,day 3 _ rfl,day 4 _ rfl,day 5 _ rfl,day 6 _ rfl⟩
end Go.Proofs.YtfigmlfdnickmaaGreatDoor.EnvLaid
namespace Go.Proofs.YtfigmlfdnickmaaGreatDoor
open Go.RowKit
def bU:U4 U3:=[cV,gZ,ej,jB,fQ,gi]
def jX:U4 U3:=[iV,hH]
def lk:U4 U3:=[iw,hH,lj]
def mv:U4 U3:=[jH,hH]
def iL:U4 U3:=[iS,hH]
def mP:U4 U3:=[jr,gZ]
def gW:U4 (U4 U3):=[jX,lk,mv]
def ends:U4 (U4 U3):=[iL,mP]
def ji(H:U4 U3):U4 (U4 U3):=gW.flatMap fun K=>ends.map fun E=>H++K++bU++E
def mw:U4 U3:=[ib,cD,eN]
def nB:U4 U3:=[iY]
def mA:U4 (U4 U3):=[[kv,cD,eN],[kn,cD,eN,bG,bG],[qC,cD,eN,bG,bG,gi],[qF,cD,eN,bG,bG,gi],[qT,mu],[kr,mu],[dY,cD],[dY,cD,bG,bG],[qO],[km,cD,bG,bG],[ki,cD,eN,gi,bG,bG],[qE,gi],[kL]]++ji mw++ji nB
theorem Lf:mQ=mA:=UX
theorem Lg:∀ p∈mA,p≠[]:=UX
def nH(k:U3)(p:U4 U3):U6:=aV (p.headD YM) k
theorem zQ(h:bD ws 0 Ve k=Vf):∃ t,ws=k :: t:=by
 rw[nE] at h;obtain⟨_,f,c⟩:=mB h;have e:=oi c
 match ws,f with
 |a :: t,_=>exact⟨t,by rw[show a=k from e]⟩
theorem EF{s:U3}{t:U4 U3}(h:aB.aP s=k :: t):jj s=scan (mA.filter (nH k)) (aB.aP s) 0:=by
 unfold jj;rw[Lf,EZ _ (nH k) mA 0];intro p j f;have c:=Lg p j;refine⟨?_,c⟩
 match p,c,f with
 |a :: p',_,f =>
  have e:aV a k=Ve:=f;rw[h,pre,e];rfl
theorem kB(h:bD ws 0 Ve k=Vf)(a:jC k=Vf)(p:U4 U3):aQ ws (p.map aV) (1,Ve)=aQ ws ((k :: p).map aV) (0,Ve):=by
 have e:dI ws (aV k) (0,Ve)=(1,Ve):=by
  obtain⟨_,f,c⟩:=mB (nE ws 0 Ve k ▸ h);rw[gY k a];exact Fz f c
 show _=aQ ws (p.map aV) (dI ws (aV k) (0,Ve));rw[e]
theorem DE(h:aQ ws (q.map aV) (0,Ve)=st):Sum [q] ws st q:=by
 obtain⟨n,b⟩:=st;have c:=nI h;have one:∀ p∈[q],p=q:=fun p c=>YC.1 c
 refine⟨YC.2 rfl,fun p a=>by rw[one p a];exact ZX c,c,fun j p a e=>?_,fun j=>⟨?_,fun p a f=>Vb (one p a) f⟩⟩
 ·cases j
  rw[one p a] at e;have:=uE h;omega
 ·cases j
  rw[c];exact qj h
theorem uK:∀ (Q R ws:U4 U3),pre Q ws<=pre (Q++R) ws
 |[],_,_=>by simp[pre]
 |_ :: _,_,[]=>by simp[pre]
 |s :: Q,R,w :: ws=>by
  have:=uK Q R ws;simp only[VM,pre]
  split <;> omega
theorem Ms(h:aQ ws ([dY,cD].map aV) (0,Ve)=st)(t:cB ws.length st.1 st.2=Ve):Sum [[dY,cD],[dY,cD,bG,bG]] ws st [dY,cD]:=by
 obtain⟨n,b⟩:=st;have c:=nI h;have z:=(rU [dY,cD,bG,bG] ws).2
 have u:pre [dY,cD,bG,bG] ws<=n:=by
  cases b
  ·have:¬ n<ws.length:=by simpa[cB] using t
   omega
  ·exact ZX (Dr [bG,bG] h)
 have y:n<=2:=by have:=(rU [dY,cD] ws).1;rw[c] at this;exact this
 refine⟨by simp,?_,c,?_,?_⟩
 ·intro p a;rcases Vz.1 a with rfl|a
  ·exact ZX c
  ·rw[YC.1 a];exact u
 ·intro j p a e
  cases j
  have o:n<2:=uE h;rcases Vz.1 a with rfl|a
  ·rw[c] at e;exact Vb e.1 (by show ¬ n=2;omega)
  ·rw[YC.1 a] at e;exact Vb e.1 (by show ¬ _=4;omega)
 ·intro j
  cases j
  refine⟨c.trans (qj h),fun p a f e=>?_⟩;rcases Vz.1 a with rfl|a
  ·exact f rfl
  ·rw[YC.1 a] at e;exact Vb e.1 (by show ¬ _=4;omega)
theorem Mt{c:U7 × U6}(h:aQ ws ([dY,cD].map aV) (0,Ve)=st)(C:cB ws.length st.1 st.2=Vf)(y:aQ ws ([dY,cD,bG,bG].map aV) (0,Ve)=c):Sum [[dY,cD],[dY,cD,bG,bG]] ws c [dY,cD,bG,bG]:=by
 obtain⟨n,b⟩:=st;obtain⟨z,G⟩:=c;have D:=nI h;have f:=nI y;have j:=pO C;have t:pre [dY,cD] ws<=pre [dY,cD,bG,bG] ws:=uK [dY,cD] [bG,bG] ws;refine⟨by simp,?_,f,?_,?_⟩
 ·intro p a;rcases Vz.1 a with rfl|a
  ·show _<=z;omega
  ·rw[YC.1 a];exact ZX f
 ·intro u p a e
  cases u
  have A:z<4:=uE y;rcases Vz.1 a with rfl|a
  ·have:n<ws.length:=j;omega
  ·rw[YC.1 a] at e;have F:pre [dY,cD,bG,bG] ws=4:=e.1;omega
 ·intro u
  cases u
  refine⟨f.trans (qj y),fun p a o e=>?_⟩;rcases Vz.1 a with rfl|a
  ·have:n<ws.length:=j;omega
  ·exact o (YC.1 a)
theorem zB(h:p∈ji H):∃ K∈gW,∃ E∈ends,p=H++K++bU++E:=by
 unfold ji at h;simp only[ZY,Wk] at h;obtain⟨K,a,E,c,rfl⟩:=h;exact⟨K,a,E,c,rfl⟩
theorem zw(a:K∈gW)(c:E∈ends):H++K++bU++E∈ji H:=by
 unfold ji;simp only[ZY,Wk];exact⟨K,a,E,c,rfl⟩
theorem Ku(h:K∈gW):∃ K',K=K.headD YM :: K':=by
 simp only[gW,Vz,ZZ,or_false] at h;rcases h with rfl|rfl|rfl
 ·exact⟨[hH],rfl⟩
 ·exact⟨[hH,lj],rfl⟩
 ·exact⟨[hH],rfl⟩
theorem Kh(h:E∈ends):∃ E',E=E.headD YM :: E':=by
 simp only[ends,Vz,ZZ,or_false] at h;rcases h with rfl|rfl
 ·exact⟨[hH],rfl⟩
 ·exact⟨[gZ],rfl⟩
theorem zy(f:K∈gW)(a:aQ ws (H.map aV) (0,Ve)=(n,Ve))(c:eA ws n Ve (aV (K.headD YM))=Ve):pre (H++K++bU++E) ws=n/\n<(H++K++bU++E).length:=by
 obtain⟨K',e⟩:=Ku f;have j:=qj a
 have h:H++K++bU++E=H++K.headD YM :: (K'++bU++E):=by
  conv=>lhs;rw[e]
  simp
 rw[h];exact⟨Dd _ a c,by simp;omega⟩
theorem Dc(f:E∈ends)(a:aQ ws (Q.map aV) (0,Ve)=(n,Ve))(c:eA ws n Ve (aV (E.headD YM))=Ve):pre (Q++E) ws=n/\n<(Q++E).length:=by
 obtain⟨j,e⟩:=Kh f;have h:=qj a;rw[e];exact⟨Dd _ a c,by simp;omega⟩
theorem C8(a:aQ ws (Q.map aV) (0,Ve)=(n,Vf)):pre (Q++E) ws=n/\n<(Q++E).length:=by
 have:=uE a;exact⟨Dr _ a,by simp;omega⟩
theorem Dq(U:K∈gW)(V:E∈ends)(D:aQ ws (H.map aV) (0,Ve)=(n,Ve))
  (S:∀ z∈gW,z≠K->eA ws n Ve (aV (z.headD YM))=Ve) (F:aQ ws ((H++K++bU).map aV) (0,Ve)=(m,Ve))
  (T:∀ j∈ends,j≠E->eA ws m Ve (aV (j.headD YM))=Ve) (f:aQ ws ((H++K++bU++E).map aV) (0,Ve)=st):Sum (ji H) ws st (H++K++bU++E):=by
 obtain⟨l,b⟩:=st;have o:=nI f
 have O:n<=l:=by
  have y:=uK H (K++bU++E) ws;rw[nI D,<- VY,<- VY,o] at y;exact y
 have P:m<=l:=by
  have y:=uK (H++K++bU) E ws;rw[nI F,o] at y;exact y
 have c:∀ p∈ji H,p=H++K++bU++E\/(pre p ws<=l/\pre p ws<p.length):=by
  intro p a;obtain⟨z,t,j,u,rfl⟩:=zB a
  by_cases J:z=K
  ·subst J
   by_cases I:j=E
   ·subst I;exact .inl rfl
   ·obtain⟨N,M⟩:=Dc u F (T j u I);exact .inr ⟨by omega,by omega⟩
  ·obtain⟨N,M⟩:=zy (E:=j) t D (S z t J);exact .inr ⟨by omega,by omega⟩
 refine⟨zw U V,fun p a=>?_,o,fun C p a e=>?_,fun C=>⟨?_,fun p a A e=>?_⟩⟩
 ·rcases c p a with rfl|h
  ·exact ZX o
  ·exact h.1
 ·cases C
  have G:=uE f;rcases c p a with rfl|h
  ·omega
  ·omega
 ·cases C;exact o.trans (qj f)
 ·rcases c p a with h|h
  ·exact A h
  ·omega
theorem Kq(N:K∈gW)(y:aQ ws (H.map aV) (0,Ve)=(n,Ve))
  (I:∀ t∈gW,t≠K->eA ws n Ve (aV (t.headD YM))=Ve) (u:aQ ws ((H++K++bU).map aV) (0,Ve)=(m,b))
  (J:∀ f∈ends,eA ws m b (aV (f.headD YM))=Ve):Sum (ji H) ws (m,Vf) (H++K++bU++iL):=by
 have z:iL∈ends:=by simp[ends]
 have G:n<=m:=by
  have A:=uK H (K++bU) ws;rw[nI y,<- VY,nI u] at A;exact A
 have h:∀ f∈ends,pre (H++K++bU++f) ws=m/\m<(H++K++bU++f).length:=by
  intro f c
  cases b
  ·exact Dc c u (J f c)
  ·exact C8 u
 have j:∀ p∈ji H,pre p ws<=m/\pre p ws<p.length:=by
  intro p a;obtain⟨t,o,f,c,rfl⟩:=zB a
  by_cases C:t=K
  ·subst C;obtain⟨F,D⟩:=h f c;exact⟨by omega,by omega⟩
  ·obtain⟨F,D⟩:=zy (E:=f) o y (I t o C);exact⟨by omega,by omega⟩
 exact⟨zw N z,fun p a=>(j p a).1,(h iL z).1,fun _ p a e=>by have:=j p a;omega,fun M=>Vb M UU⟩
theorem Kx(t:aQ ws (H.map aV) (0,Ve)=(n,b))
  (z:∀ f∈gW,eA ws n b (aV (f.headD YM))=Ve):Sum (ji H) ws (n,Vf) (H++jX++bU++iL):=by
 have u:jX∈gW:=by simp[gW]
 have C:iL∈ends:=by simp[ends]
 have h:∀ f∈gW,∀ j:U4 U3,pre (H++f++bU++j) ws=n/\n<(H++f++bU++j).length:=by
  intro f c j
  cases b
  ·exact zy c t (z f c)
  ·have y:=C8 (E:=f++bU++j) t;rw[<- VY,<- VY] at y;exact y
 have o:∀ p∈ji H,pre p ws<=n/\pre p ws<p.length:=by
  intro p a;obtain⟨f,c,j,_,rfl⟩:=zB a;obtain⟨F,D⟩:=h f c j;exact⟨by omega,by omega⟩
 exact⟨zw u C,fun p a=>(o p a).1,(h jX u iL).1,fun _ p a e=>by have:=o p a;omega,fun A=>Vb A UU⟩
end Go.Proofs.YtfigmlfdnickmaaGreatDoor
