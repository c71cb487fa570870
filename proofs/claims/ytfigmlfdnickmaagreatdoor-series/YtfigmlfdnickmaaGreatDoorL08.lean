import Derived.Test.YtfigmlfdnickmaaGreatDoorL07
import Derived.Test.YtfigmlfdnickmaaGreatDoorRows
import Derived.Test.YtfigmlfdnickmaaGreatDoorCards
import Derived.Test.YtfigmlfdnickmaaGreatDoorTie
import Derived.RangeFuncCalls
import Derived.Lib.ItoaNum
import Derived.Deep.RegionHeld3
import Derived.Deep.AppendLies
import Derived.WalkKit
import Derived.ProofKit
import Derived.Deep.DeepWitnessRowRef
import Derived.LaidLaws
import Derived.OpenShut
import Derived.Deep.Slices
import Derived.Deep.DeepHandedRow
import Derived.Lib.LaidTab
import Derived.Lib.LaidU8
import Derived.Shelf.Vars
set_option maxRecDepth 100000
set_option maxHeartbeats 8000000
open Go.Proofs.Tryz
open _root_ renaming ByteArray->U4,List->U5,Option->U6,Bool->U7,Nat->U8,Int->U9,if_neg->Va,if_pos->Vb,absurd->Vc
open Option renaming none->Vd,some->Ve,mem_toList->WW
open Bool renaming false->Vf,true->Vg,false_eq_true->Vx,and_eq_true->W7,not_eq_true'->ZK
open Go renaming World->Vh,Value->Vi,Calls->Vk,TypeId->Vm,Value->Zg
open Go.RowKit renaming Below->Vj
open Nat renaming le_trans->Vq,le_refl->Vn,zero_le->Wh,le_of_eq->ZY
open Array renaming getElem?_eq_some_iff->Y9,length_toList->ZL,getElem?_eq_none->WD
open Go.Boxed renaming new->Zv
open Go.World renaming size_alloc->WX,block_lt_of_cell?->Vr,news_of_block->WM,cell?->VL
open Go.Region renaming wanted->YI
open Go.Value renaming slice->Ze,oneCell'->WN,string->Y0
open List renaming mem_singleton->YD,cons_append->VN,map->ZI,map_append->Wr,append_assoc->VZ,getElem?_eq_getElem->Xb,drop_eq_getElem_cons->WQ,length_eq_zero_iff->V9,foldl_append->XJ,foldl_cons->W9,getElem?_eq_some_iff->ZS,getElem?_take->Xi,mem_map->Wm,drop_of_length_le->ZT,getD->Ws,mem_cons_self->Ye,mem_cons_of_mem->WV,mem_cons->VA,mem_flatMap->ZZ,not_mem_nil->Z4
open Go.AllReadyIn renaming cons->ZG,nil->ZH
open Go.ByteArray renaming toList_eq->ZJ
open ByteArray renaming empty->YN,size_append->ZN
open Option.some renaming inj->WY
open Go.Lib renaming decDigits->ZM,tabData->ZW
open Go.Sort renaming grow->ZO
open ByteArray.mk renaming injEq->ZP
open Go.Op renaming stringOp->ZQ
open Int renaming natCast_nonneg->Y6
open Go.Addr renaming add->ZR
open Go.Exit renaming inBlock->WG
open List.Perm renaming refl->ZU
open Go.Joins renaming ownsRow_form->Yq
open Prod.mk renaming inj->ZV
open Go.DataW renaming lit->ZX
variable{b wr:U7}{k name sym x:U4}{B:U4->U7}{ev' fr mi mn pc pc' ti ti' til un un':U9}{l tl:U5 (Go.Proofs.YtfigmlfdnickmaaGreatDoor.aA.aL × Zg)}{L:U5 (U9 × U9)}{ps:U5 (U5 U4)}{E H K Q R p q ws:U5 U4}{acc acc':U5 U9}{xs:U5 Zg}{c1 d e g i m mm n:U8}{s s' st:U8 × U7}{aM:U8->U6 Go.Proofs.YtfigmlfdnickmaaGreatDoor.aW}{a1:U6 Go.Addr}{r:Go.Proofs.YtfigmlfdnickmaaGreatDoor.Raw}{v v':Zg}{W W' w w' w1 w2 w3:Go.World}
namespace Go.Proofs.YtfigmlfdnickmaaGreatDoor
open Go.RowKit Go.Shelf
open aA (aL St dB kept dZ cS cN gD cA bW gJ ec gy nk Inv uniq)
attribute [local go_sem] Oper.semAt_some
structure LI(w W:Vh)(s:St)(aM:U8->U6 aW)(M:U5 aE.It):Prop where
 bx:∃ v l,Boxed W (w.heap.size+1) 34 v/\gI W (w.heap.size+5) aM v l/\jK s M l
 bl:Vj w.heap.size w W
 sz:w.heap.size+5<=W.heap.size
theorem Gv{row:U6 U8}{B size:U8}(h:W.ownsRow B e size v n xs)(j:W.grownBy W' row)(f:∀ r,row=Ve r->∃ o:Obj,W.heap[r]?=Ve o/\o.isCells=Vf):W'.ownsRow B e size v n xs:=by
 refine h.kept j ?_;rcases h.2 with ⟨rfl,_⟩|⟨g,cap,y,rfl,_,a,_⟩
 ·exact .inl rfl
 ·refine .inr fun u=>?_
  obtain⟨o,c,t⟩:=f g (by simpa[Value.ownBlock] using u.symm);rw[a] at c;cases c;cases t
theorem Ob(w:Vh)(s:St)(r:Raw)(aM:U8->U6 aW){B:U8}(y:w.heap.size<=B):OwnFrom B (fun (pre:U5 {x:aE.It // QI r x}) W=>LI w W s aM (pre.map (·.1))):=by
 intro pre W W' row h f a;have j:∀ r,row=Ve r->∃ o:Obj,W.heap[r]?=Ve o/\o.isCells=Vf:=fun r e=>(a r e).2
 obtain⟨v,l,u,c,tl⟩:=h.bx;exact⟨⟨v,l,xY u f j,⟨Gv c.own f j,c.no,fun p t=>⟨⟨Gv (c.sp p t).1.own f j,(c.sp p t).1.no⟩,(c.sp p t).2⟩,c.pw⟩,tl⟩,h.bl.grown f h.bl.size (fun k e=>Vq y (a k e).1),Vq h.sz f.size⟩
theorem RO{B:U8}(h:Vj W.heap.size W W'):KeepsFrom B W W':=⟨h.size,fun k _ _ a _=>(h.block k (Y9.1 a).1).trans a⟩
theorem SG(X:Vh)(p x y:Vi)(a c f:Vm):Vj X.heap.size X (((X.alloc (.cells #[p] a)).alloc (.cells #[x] c)).alloc (.cells #[y] f)).drew/\(((X.alloc (.cells #[p] a)).alloc (.cells #[x] c)).alloc (.cells #[y] f)).drew.cell? ⟨X.heap.size,0,Vd⟩=Ve p/\(((X.alloc (.cells #[p] a)).alloc (.cells #[x] c)).alloc (.cells #[y] f)).drew.cell? ⟨X.heap.size+1,0,Vd⟩=Ve x/\(((X.alloc (.cells #[p] a)).alloc (.cells #[x] c)).alloc (.cells #[y] f)).drew.cell? ⟨X.heap.size+2,0,Vd⟩=Ve y/\(((X.alloc (.cells #[p] a)).alloc (.cells #[x] c)).alloc (.cells #[y] f)).drew.heap.size=X.heap.size+3:=by
 have o:=Zv X a p;have j:=Zv (X.alloc (.cells #[p] a)) c x;have h:=Zv ((X.alloc (.cells #[p] a)).alloc (.cells #[x] c)) f y;simp only[WX] at j h;exact⟨((((zr _ X).alloc (zq _) _).alloc UV _).alloc U0 _).drew,((o.alloc _).alloc _).cell,(j.alloc _).cell,h.cell,by rw[heap_drew];simp⟩
theorem yM{F:Fence}{P:Program}(w:Vh){C:Array Oper}{o:Oper}{a:Act}{K:Act->Vh->Prop}{Q:Exit->Act->Vh->Prop}{E:Prop}
  (X:o.guard=Vd) (s x:Operand) (t:Vm) (A:o.op=Op.call { callee:=Callee.builtin Builtin.append,args:=#[s,x],argTypes:=#[t,t] })
  (y:U8) (e:Vm) (i:TypeInfo) (z:Vi) (size h:U8) (h1:P.underlying t=Ve (.slice e)) (h2:P.info? e=Ve i) (h3:i.zero=Ve z) (h4:i.size=size) (h5:i.bytes=h) (h6:z.cells.size=size) (h7:0<size)
  (v:Vi) (k:U8) (xs:U5 Vi) (U:a.eval s=v) (G:w.ownsRow y e size v k xs) (M:Addr) (m c:U8) (f:U5 Vi) (S:a.eval x=.slice (Ve M) m c) (V:f.length=m*size)
  (Y:∀ j u,f[j]?=Ve u->w.cell? (M.add j)=Ve u) (J:∀ u∈f,u.oneCell'=Vg) (b1:k+m<=maxLen) (b2:(k+m)*h<=140737488355328) (b3:y<=w.heap.size)
  (Z:∀ v' w',w'.ownsRow y e size v' (k+m) (xs++f)->w.grownBy w' v.ownBlock->K (a.put o.dst v') w'):
  if YI o (yielded C a.tmps)=Vg then Oper.wpIn F n P o a w K Q else E:=by
 have T:YI o (yielded C a.tmps)=Vg:=by simp[YI,X]
 rw[Vb T];obtain⟨v',w',D,O,N,r3⟩:=run_append_own (P:=P) w y t o.type e i z size h h1 h2 h3 h4 h5 h6 h7 v k xs G M m c f V Y J b1 b2 b3;unfold Oper.wpIn;refine⟨?_,?_⟩
 ·simp[Oper.about,A,resolve,Target.leads,Sem.run_pure]
 ·rw[Oper.semAt_plain F _ _ (by rw[A];intro c I;cases I)];simp[execOp,A,resolve,invoke,builtin,U,S,D,Result.andThen];exact Z v' w' O N
theorem xZ{b:U8}(h:W.cell? ⟨b,i,Vd⟩=Ve v)(o:Obj):(W.alloc o).cell? ⟨b,i,Vd⟩=Ve v:=(zo (w:=W) (Below.heap_alloc _ o _ (Vr _ _ h))).trans h
theorem xD{s:St}{M:U5 aE.It}(h:LI w W s aM M)(u:Boxed W (w.heap.size+1) 34 (.slice a1 tl.length c1))(z:gI W (w.heap.size+5) aM (.slice a1 tl.length c1) tl)(j:Vj W.heap.size W w1)(f:Vj w1.drew.heap.size w1.drew w2)(o:Obj)
  (a:(w2.alloc o).grownBy w3 (Ze a1 tl.length c1).ownBlock):Boxed w3 (w.heap.size+1) 34 (.slice a1 tl.length c1):=by
 have A:=h.sz;have t:Vj W.heap.size W w1.drew:=j.drew;have c:Vj W.heap.size W w2:=t.trans (f.mono t.size);have y:Boxed w2 (w.heap.size+1) 34 (.slice a1 tl.length c1):=(c.block _ UU).trans u;exact (y.alloc o).kept a (fun e=>by have:=(z.own.lt _ e.symm).1;omega)
theorem xE{s:St}{M:U5 aE.It}{B:U8}(h:LI w W s aM M)(V:Boxed W (w.heap.size+1) 34 (.slice a1 tl.length c1))(S:gI W (w.heap.size+5) aM (.slice a1 tl.length c1) tl)(I:jK s M tl)(P:Vj W.heap.size W w1){e:aL}{sp:Vi}(Y:w2.ownsRow w1.drew.heap.size 60 2 sp e.aK.length (e.aK.flatMap fC))(O:Vj w1.drew.heap.size w1.drew w2)(o:Obj)
  (y:(w2.alloc o).grownBy w3 (Ze a1 tl.length c1).ownBlock) (D:w3.ownsRow (w.heap.size+5) 58 6 v' (tl.length+1) (tl.flatMap ef++ef (e,sp))) (hc:∀ b,w.heap.size<=b->aM b=Vd) {z:aE.It}(ha:tl.any (fun p=>p.1.id==z.n)=Vf) (he:e∈s.es) (Z:e.id=z.n):
  KeepsFrom B W (w3.setCell ⟨w.heap.size+1,0,Vd⟩ v')/\Vj w.heap.size W (w3.setCell ⟨w.heap.size+1,0,Vd⟩ v')/\LI w (w3.setCell ⟨w.heap.size+1,0,Vd⟩ v') s aM (M++[z]):=by
 have U:=h.sz;have J:Vj W.heap.size W w1.drew:=P.drew;have a:Vj W.heap.size W w2:=J.trans (O.mono J.size);have j:aF (Ze a1 tl.length c1).ownBlock.toList w2 w3:=aF.grown ((aF.refl _ w2).alloc _) y (fun k t=>.inl (WW.2 t));have E3:=S.uo (Joins.ownsRow_le Y J.size) a U (fun b A=>hc b UU) j D;have f:∀ b,(Ze a1 tl.length c1).ownBlock=Ve b->w.heap.size+5<=b:=fun b A=>(S.own.lt b A).1
 have C:=aF.aY (w.heap.size+1) w3 0 v'
 have X:∀ b,b<W.heap.size->b≠w.heap.size+1->(Ze a1 tl.length c1).ownBlock≠Ve b->(w3.setCell ⟨w.heap.size+1,0,Vd⟩ v').heap[b]?=W.heap[b]?:=fun b A h1 h2=>by
  rw[C.block b (zL (zL A a.size) j.size) (fun c=>h1 (YD.1 c)),j.block b (zL A a.size) (fun c=>h2 (WW.1 c)),a.block b A]
 have N:Boxed w3 (w.heap.size+1) 34 (.slice a1 tl.length c1):=(j.block _ (by have:=a.size;omega) (fun c=>by have:=f _ (WW.1 c);omega)).trans ((a.block _ UU).trans V);have u:W.heap.size<=(w3.setCell ⟨w.heap.size+1,0,Vd⟩ v').heap.size:=Vq a.size (Vq j.size C.size);have G:Vj w.heap.size W (w3.setCell ⟨w.heap.size+1,0,Vd⟩ v'):=⟨C.os.trans (j.os.trans a.os),C.tape.trans (j.tape.trans a.tape),C.output.trans (j.output.trans a.output),u,fun b A=>X b UU UU (fun c=>by have:=f _ c;omega)⟩;refine⟨⟨u,fun k o' _ t F=>(X k (Y9.1 t).1 (fun T=>?_) (fun T=>?_)).trans t⟩,G,⟨⟨v',tl++[(e,sp)],N.set v',E3.off C (fun x c=>by have:=YD.1 c;omega),I.new ha he Z sp⟩,h.bl.trans G,Vq U u⟩⟩
 ·subst T;rw[show W.heap[w.heap.size+1]?=_ from V] at t
  cases t;cases F
 ·obtain⟨cs,q,e2⟩:=Bg S.own T;rw[e2] at t
  cases t;cases F
def Fo(Q:Exit->Act->Vh->Prop):Exit->Act->Vh->Prop
 |.panic _,_,_=>False
 |.normal,a,w=>Q .normal a w
 |.ret,a,w=>Q .ret a w
 |.exit i,a,w=>Q (.exit i) a w
 |.goto t,a,w=>Q (.goto t) a w
 |.outgrown,a,w=>Q .outgrown a w
theorem Qn{Q:Exit->Act->Vh->Prop}:∀ e a w,Fo Q e a w->Q e a w
 |.panic _,_,_,h=>h.elim
 |.normal,_,_,h=>h
 |.ret,_,_,h=>h
 |.exit _,_,_,h=>h
 |.goto _,_,_,h=>h
 |.outgrown,_,_,h=>h
theorem QR{Q:Exit->Act->Vh->Prop}{a:Act}(h:Q .ret a w):Fo Q .ret a w:=h
theorem Ia{s:St}(h:dS w d s r aM)(hi:i<r.tg.length)(a b:U9):
  Vk prog 151 #[.pointer (Ve ⟨r.tg[i].tb,0,Vd⟩),.agg #[.int .i64 a,.int .i64 b]] w fun e w'=>∃ v l,e=.returned v/\l.map (·.1)=aA.kT r.tg[i].name a b s.es/\gI w' w.heap.size aM v l/\Vj w.heap.size w w':=by
 obtain⟨i0,aj,ag,af,ae⟩:=info_parts SY;obtain⟨ul,us,Fl,Fs,th,az⟩:=h.dk.th i hi;have HH:=aC h;have a3:r.tg[i].tb<w.heap.size:=Vr _ _ th.c0;have xa:((w.alloc (.cells #[.int .i64 a,.int .i64 b] 60)).alloc (.cells #[.slice Vd 0 0] 34)).cell? ⟨w.heap.size,0,Vd⟩=Ve (.int .i64 a):=UV
 have xb:((w.alloc (.cells #[.int .i64 a,.int .i64 b] 60)).alloc (.cells #[.slice Vd 0 0] 34)).cell? ⟨w.heap.size,1,Vd⟩=Ve (.int .i64 b):=UV
 have bt:=Zv (w.alloc (.cells #[.int .i64 a,.int .i64 b] 60)) 34 (.slice Vd 0 0);have hX:Vj w.heap.size w ((w.alloc (.cells #[.int .i64 a,.int .i64 b] 60)).alloc (.cells #[.slice Vd 0 0] 34)):=((zr _ _).alloc (zq _) _).alloc UV _;have an:((w.alloc (.cells #[.int .i64 a,.int .i64 b] 60)).alloc (.cells #[.slice Vd 0 0] 34)).heap.size=w.heap.size+2:=UV
 rw[WX] at bt;have HX:=aC (zA hX (zA an bt));have HT:=aC th;clear h th hX bt;refine (callsIn_wide (n:=3)).1 ?_;refine callsIn_of_wp_marks func151 rfl trivial ?_ rfl;simp only[ntmps151,List.size_toArray,List.length_cons,List.length_nil,Nat.reduceAdd,Nat.reduceSub,Array.replicate_succ,Array.replicate_zero,List.push_toArray,List.append_toArray,List.nil_append,VN];refine wpIn_wide.2 (Code.wp_mono Qn ?_);generalize r.tg[i].tb=tb at *
 go_upto_region 2 with fail
 change Code.wp _ _ _ _ ((w.alloc (.cells #[.int .i64 a,.int .i64 b] 60)).alloc (.cells #[.slice Vd 0 0] 34));generalize (w.alloc (.cells #[.int .i64 a,.int .i64 b] 60)).alloc (.cells #[.slice Vd 0 0] 34)=X at *;have ME:=aC (Te (Ve ⟨tb,3,Vd⟩) a b X.drew);have ax:X.drew.heap.size=w.heap.size+2:=an;rw[ax] at ME
 go_region_with (first
  |(go_at_call 207;refine ME.out.mono ?_;rintro e w1 ⟨rfl,rfl⟩))
 all_goals
  obtain⟨k0,z1,z2,z3,z4⟩:=SG X (.pointer (Ve ⟨tb,3,Vd⟩)) (.int .i64 a) (.int .i64 b) 301 3 3;rw[an] at z1 z2 z3 z4
  go_wp2_with fail
  generalize (((X.alloc (.cells #[.pointer (Ve ⟨tb,3,Vd⟩)] 301)).alloc (.cells #[.int .i64 a] 3)).alloc (.cells #[.int .i64 b] 3)).drew=Z at *;have BZ:Vj w.heap.size w Z:=HX.out.1.trans (k0.mono HX.out.1.size);have L0:Hid (LI w Z s aM ([]:U5 aE.It)):=⟨⟨_,[],(k0.block _ UU).trans HX.out.2.2,gI.nil _ _ _,jK.nil s⟩,BZ,by omega⟩;have ai:=Ib r (aE.meet a b r.tg[i].T) (fun z hz=>RV HH.out.of HH.out.dk.ni hi hz);generalize xu r (aE.meet a b r.tg[i].T) _=xs at ai;have MS:=aC (RY 2 r (w.heap.size+2) (w.heap.size+2+1) (w.heap.size+2+2) w.heap.size tb 3 us a b r.tg[i].T Fs xs ai Z z1 z2 z3 (aN BZ HT.out.c3) (HT.out.sp.fl BZ (fun k hk=>HT.out.lt k (by simp[hk]))) (fun k hk=>HT.out.lt k (by simp[hk])) UU);have ay:=aC ai;have h5:w.heap.size<=Z.heap.size:=UU
  clear k0 z1 z2 z3 ai xa xb ME;refine (wpIn_wide (n:=3)).1 ?_
  refine wpIn_rangeFunc_ownG rfl UU (gf:=254) (lb:=#[.pointer (Ve ⟨w.heap.size+2,0,Vd⟩),.pointer (Ve ⟨w.heap.size+2+1,0,Vd⟩),.pointer (Ve ⟨w.heap.size+2+2,0,Vd⟩)]) rfl trivial (enters_of func254 UZ rfl) MS.out belowK_t (belowK_b h5) (zr _ _) (fun _=>rfl)
   (fun pre W=>LI w W s aM (pre.map (·.1))) (fun _ _ _=>False) (Ob w s r aM h5) (fun _ _ _ _ _ hs _ _=>hs) L0.out
   (fun x=>{ tmps:=#[.pointer (Ve ⟨tb,0,Vd⟩),.agg #[.int .i64 a,.int .i64 b],undef,.pointer (Ve ⟨w.heap.size,0,Vd⟩),.slice Vd 0 0,.pointer (Ve ⟨w.heap.size+1,0,Vd⟩),.pointer (Ve ⟨x.1.v,0,Vd⟩),.pointer (Ve ⟨tb,0,Vd⟩),.pointer (Ve ⟨tb,0,Vd⟩),.pointer (Ve ⟨tb,3,Vd⟩),.pointer (Ve ⟨w.heap.size,0,Vd⟩),.int .i64 a,.pointer (Ve ⟨w.heap.size,1,Vd⟩),.int .i64 b,.func (.func 254) #[] #[.pointer (Ve ⟨w.heap.size+2,0,Vd⟩),.pointer (Ve ⟨w.heap.size+2+1,0,Vd⟩),.pointer (Ve ⟨w.heap.size+2+2,0,Vd⟩)],.pointer (Ve ⟨x.1.v,0,Vd⟩),undef,undef,undef,undef,undef,undef,undef,undef,undef,undef,undef],defers:=[] }) ?assign ?body ?done ?stop
  case assign =>
   intro l x W K o
   gi_wp2
   exact o
  case body =>
   rintro l pre x W h a6;obtain⟨g,hg,ev,en⟩:=x.2;obtain⟨v,tl,hv,er,Y⟩:=h.bx;obtain⟨a1,c1,rfl⟩:=iy er.own;have aw:=hv.cell;have a5:=Vq Y.small (mb HH.out.aS);have dW:=HH.out.dk.later h.bl;have CT:=aC (UA tl _ (w.heap.size+5) g.eb g.e.id W er.own (fun p hp=>by obtain⟨x1,x2,x3⟩:=iy (er.sp p hp).1.own;exact⟨x1,_,x2,x3⟩) (dW.en g hg).1.en.c0 UU);have G:=aC (zA h (zA hv (zA er Y)));have a4:=h.sz;have TE:=aC (fun W' (k:Vj w.heap.size w W')=>HH.out.lK k hg);clear h hv er Y dW;rw[<- ev] at CT;simp only[<- ev] at TE;have V:=aC (zA ev en);clear ev en
   cases M:tl.any (fun p=>p.1.id==g.e.id)
   ·rw[M] at CT
    gi_wp2
    refine⟨trivial,?_⟩;refine (CallsIn.inRound l (callsIn_wide.2 CT.out)).mono ?_;rintro e w1 ⟨rfl,J⟩
    gi_wp2
    have au:prog.follows .mixedOrders=Vg:=UZ
    have C:Hid (Vj w.heap.size w w1/\Vj W.heap.size W w1):=⟨G.out.1.bl.trans (J.mono G.out.1.bl.size),J⟩;have ac:=aN J aw;have ao:=aC (TE.out w1.drew C.out.1.drew);clear TE CT J;refine wpIn_region_any au ?_;change wpAnyIn _ _ _ _ _ _ _ _ _ (World.drew _);refine wpAnyIn_ready (rs:=[0,1]) UZ UV ?_;refine ZG rfl (fun K o=>?_) (ZG rfl (fun K o=>?_) ZH)
    ·go_simp
     refine o _ _ ?_;clear o K;refine wpAnyIn_ready (rs:=[1]) UZ UV ?_;refine ZG rfl (fun K o=>?_) ZH
     go_simp
     refine o _ _ ?_;clear o K;refine wpAnyIn_ready (rs:=[2]) UZ UV ?_;refine ZG rfl (fun K o=>?_) ZH
     go_simp
     refine⟨trivial,(CallsIn.inRound l (callsIn_wide.2 ao.out)).mono ?_⟩;rintro e w2 ⟨v2,rfl,aq,rfl,I,A⟩;refine o _ _ ?_;clear o K;obtain⟨P,O,rfl⟩:=iy I;simp only[nY];have S:w2.cell? ⟨w.heap.size+1,0,Vd⟩=Ve (.slice a1 tl.length c1):=aN A ac;have ar:w.heap.size+5<=w2.heap.size:=Vq (Vq G.out.1.sz C.out.2.size) A.size;have OW:=aC (eu (eu G.out.2.2.1.own C.out.2.drew) A);have S2:=aC (zA I A);clear I A;refine wpAnyIn_ready (rs:=[3]) UZ UV ?_;refine ZG rfl (fun K o=>?_) ZH
     go_simp
     refine o _ _ ?_;clear o K;have y:=xZ S (.cells #[.int .i64 g.e.id,.int .i64 g.e.kind,.string g.e.aT,.int .i64 g.e.aH,.slice P g.e.aK.length O,.int .i64 g.e.bY] 58);obtain⟨U,u⟩:∃ U,U=w2.alloc (.cells #[.int .i64 g.e.id,.int .i64 g.e.kind,.string g.e.aT,.int .i64 g.e.aH,.slice P g.e.aK.length O,.int .i64 g.e.bY] 58):=⟨_,rfl⟩;rw[<- u] at y;rw[<- u];have N:Hid (U=w2.alloc (.cells (ef (g.e,.slice P g.e.aK.length O)).toArray 58)):=aC u;clear u;refine wpAnyIn_ready (rs:=[4]) UZ UV ?_;refine ZG rfl (fun K o=>?_) ZH;refine yM U rfl (.tmp 21) (.tmp 24) 34 rfl (w.heap.size+5) 58 i0 _ 6 72 underlying34 aj ag af ae rfl UW (.slice a1 tl.length c1) tl.length (tl.flatMap ef) rfl (by rw[N.out];exact OW.out.alloc _) ⟨w2.heap.size,0,Vd⟩ 1 1 (ef (g.e,.slice P g.e.aK.length O)) rfl rfl (by rw[N.out];exact WM (cs:=(ef (g.e,.slice P g.e.aK.length O)).toArray) (cC w2 _)) (by simp[ef,WN]) U1 UU (by rw[N.out];simp;omega) ?_;intro v3 w3 t f;obtain⟨al,ak,rfl⟩:=iy t;refine o _ _ ?_;clear o K;rw[N.out] at f;have BX:=xD G.out.1 G.out.2.1 G.out.2.2.1 C.out.2 S2.out.2 _ f;have ab:=BX.cell;have aa:=BX.frozen;have G3:=aC (zA t f);clear t f BX N y;refine wpAnyIn_ready (rs:=[5]) UZ UV ?_;refine ZG rfl (fun K o=>?_) ZH
     go_simp
     refine o _ _ ?_;clear o K;refine wpAnyIn_done UZ ?_ _;have F:=G.out;have hL:=xE (B:=Z.heap.size) F.1 F.2.1 F.2.2.1 F.2.2.2 C.out.2 S2.out.1 S2.out.2 _ G3.out.2 G3.out.1 (fun b hb=>HH.out.dk.none hb) (z:=x.1) (by rw[V.out.2];exact M) (HH.out.of.mem hg) V.out.2.symm;refine⟨hL.1,hL.2.1,?_⟩;show LI w _ s aM (ZI (fun x=>x.val) (pre++[x]));rw[Wr];exact hL.2.2
    ·go_simp
     refine o _ _ ?_;clear o K;refine wpAnyIn_ready (rs:=[0,2]) UZ UV ?_;refine ZG rfl (fun K o=>?_) (ZG rfl (fun K o=>?_) ZH)
     ·go_simp
      refine o _ _ ?_;clear o K;refine wpAnyIn_ready (rs:=[2]) UZ UV ?_;refine ZG rfl (fun K o=>?_) ZH
      go_simp
      refine⟨trivial,(CallsIn.inRound l (callsIn_wide.2 ao.out)).mono ?_⟩;rintro e w2 ⟨v2,rfl,aq,rfl,I,A⟩;refine o _ _ ?_;clear o K;obtain⟨P,O,rfl⟩:=iy I;simp only[nY];have S:w2.cell? ⟨w.heap.size+1,0,Vd⟩=Ve (.slice a1 tl.length c1):=aN A ac;have ar:w.heap.size+5<=w2.heap.size:=Vq (Vq G.out.1.sz C.out.2.size) A.size;have OW:=aC (eu (eu G.out.2.2.1.own C.out.2.drew) A);have S2:=aC (zA I A);clear I A;refine wpAnyIn_ready (rs:=[3]) UZ UV ?_;refine ZG rfl (fun K o=>?_) ZH
      go_simp
      refine o _ _ ?_;clear o K;have y:=xZ S (.cells #[.int .i64 g.e.id,.int .i64 g.e.kind,.string g.e.aT,.int .i64 g.e.aH,.slice P g.e.aK.length O,.int .i64 g.e.bY] 58);obtain⟨U,u⟩:∃ U,U=w2.alloc (.cells #[.int .i64 g.e.id,.int .i64 g.e.kind,.string g.e.aT,.int .i64 g.e.aH,.slice P g.e.aK.length O,.int .i64 g.e.bY] 58):=⟨_,rfl⟩;rw[<- u] at y;rw[<- u];have N:Hid (U=w2.alloc (.cells (ef (g.e,.slice P g.e.aK.length O)).toArray 58)):=aC u;clear u;refine wpAnyIn_ready (rs:=[4]) UZ UV ?_;refine ZG rfl (fun K o=>?_) ZH;refine yM U rfl (.tmp 21) (.tmp 24) 34 rfl (w.heap.size+5) 58 i0 _ 6 72 underlying34 aj ag af ae rfl UW (.slice a1 tl.length c1) tl.length (tl.flatMap ef) rfl (by rw[N.out];exact OW.out.alloc _) ⟨w2.heap.size,0,Vd⟩ 1 1 (ef (g.e,.slice P g.e.aK.length O)) rfl rfl (by rw[N.out];exact WM (cs:=(ef (g.e,.slice P g.e.aK.length O)).toArray) (cC w2 _)) (by simp[ef,WN]) U1 UU (by rw[N.out];simp;omega) ?_;intro v3 w3 t f;obtain⟨al,ak,rfl⟩:=iy t;refine o _ _ ?_;clear o K;rw[N.out] at f;have BX:=xD G.out.1 G.out.2.1 G.out.2.2.1 C.out.2 S2.out.2 _ f;have ab:=BX.cell;have aa:=BX.frozen;have G3:=aC (zA t f);clear t f BX N y;refine wpAnyIn_ready (rs:=[5]) UZ UV ?_;refine ZG rfl (fun K o=>?_) ZH
      go_simp
      refine o _ _ ?_;clear o K;refine wpAnyIn_done UZ ?_ _;have F:=G.out;have hL:=xE (B:=Z.heap.size) F.1 F.2.1 F.2.2.1 F.2.2.2 C.out.2 S2.out.1 S2.out.2 _ G3.out.2 G3.out.1 (fun b hb=>HH.out.dk.none hb) (z:=x.1) (by rw[V.out.2];exact M) (HH.out.of.mem hg) V.out.2.symm;refine⟨hL.1,hL.2.1,?_⟩;show LI w _ s aM (ZI (fun x=>x.val) (pre++[x]));rw[Wr];exact hL.2.2
     ·go_simp
      refine⟨trivial,(CallsIn.inRound l (callsIn_wide.2 ao.out)).mono ?_⟩;rintro e w2 ⟨v2,rfl,aq,rfl,I,A⟩;refine o _ _ ?_;clear o K;obtain⟨P,O,rfl⟩:=iy I;simp only[nY];have S:w2.cell? ⟨w.heap.size+1,0,Vd⟩=Ve (.slice a1 tl.length c1):=aN A ac;have ar:w.heap.size+5<=w2.heap.size:=Vq (Vq G.out.1.sz C.out.2.size) A.size;have OW:=aC (eu (eu G.out.2.2.1.own C.out.2.drew) A);have S2:=aC (zA I A);clear I A;refine wpAnyIn_ready (rs:=[0,3]) UZ UV ?_;refine ZG rfl (fun K o=>?_) (ZG rfl (fun K o=>?_) ZH)
      ·go_simp
       refine o _ _ ?_;clear o K;refine wpAnyIn_ready (rs:=[3]) UZ UV ?_;refine ZG rfl (fun K o=>?_) ZH
       go_simp
       refine o _ _ ?_;clear o K;have y:=xZ S (.cells #[.int .i64 g.e.id,.int .i64 g.e.kind,.string g.e.aT,.int .i64 g.e.aH,.slice P g.e.aK.length O,.int .i64 g.e.bY] 58);obtain⟨U,u⟩:∃ U,U=w2.alloc (.cells #[.int .i64 g.e.id,.int .i64 g.e.kind,.string g.e.aT,.int .i64 g.e.aH,.slice P g.e.aK.length O,.int .i64 g.e.bY] 58):=⟨_,rfl⟩;rw[<- u] at y;rw[<- u];have N:Hid (U=w2.alloc (.cells (ef (g.e,.slice P g.e.aK.length O)).toArray 58)):=aC u;clear u;refine wpAnyIn_ready (rs:=[4]) UZ UV ?_;refine ZG rfl (fun K o=>?_) ZH;refine yM U rfl (.tmp 21) (.tmp 24) 34 rfl (w.heap.size+5) 58 i0 _ 6 72 underlying34 aj ag af ae rfl UW (.slice a1 tl.length c1) tl.length (tl.flatMap ef) rfl (by rw[N.out];exact OW.out.alloc _) ⟨w2.heap.size,0,Vd⟩ 1 1 (ef (g.e,.slice P g.e.aK.length O)) rfl rfl (by rw[N.out];exact WM (cs:=(ef (g.e,.slice P g.e.aK.length O)).toArray) (cC w2 _)) (by simp[ef,WN]) U1 UU (by rw[N.out];simp;omega) ?_;intro v3 w3 t f;obtain⟨al,ak,rfl⟩:=iy t;refine o _ _ ?_;clear o K;rw[N.out] at f;have BX:=xD G.out.1 G.out.2.1 G.out.2.2.1 C.out.2 S2.out.2 _ f;have ab:=BX.cell;have aa:=BX.frozen;have G3:=aC (zA t f);clear t f BX N y;refine wpAnyIn_ready (rs:=[5]) UZ UV ?_;refine ZG rfl (fun K o=>?_) ZH
       go_simp
       refine o _ _ ?_;clear o K;refine wpAnyIn_done UZ ?_ _;have F:=G.out;have hL:=xE (B:=Z.heap.size) F.1 F.2.1 F.2.2.1 F.2.2.2 C.out.2 S2.out.1 S2.out.2 _ G3.out.2 G3.out.1 (fun b hb=>HH.out.dk.none hb) (z:=x.1) (by rw[V.out.2];exact M) (HH.out.of.mem hg) V.out.2.symm;refine⟨hL.1,hL.2.1,?_⟩;show LI w _ s aM (ZI (fun x=>x.val) (pre++[x]));rw[Wr];exact hL.2.2
      ·go_simp
       refine o _ _ ?_;clear o K;have y:=xZ S (.cells #[.int .i64 g.e.id,.int .i64 g.e.kind,.string g.e.aT,.int .i64 g.e.aH,.slice P g.e.aK.length O,.int .i64 g.e.bY] 58);obtain⟨U,u⟩:∃ U,U=w2.alloc (.cells #[.int .i64 g.e.id,.int .i64 g.e.kind,.string g.e.aT,.int .i64 g.e.aH,.slice P g.e.aK.length O,.int .i64 g.e.bY] 58):=⟨_,rfl⟩;rw[<- u] at y;rw[<- u];have N:Hid (U=w2.alloc (.cells (ef (g.e,.slice P g.e.aK.length O)).toArray 58)):=aC u;clear u;refine wpAnyIn_ready (rs:=[0]) UZ UV ?_;refine ZG rfl (fun K o=>?_) ZH
       go_simp
       refine o _ _ ?_;clear o K;refine wpAnyIn_ready (rs:=[4]) UZ UV ?_;refine ZG rfl (fun K o=>?_) ZH;refine yM U rfl (.tmp 21) (.tmp 24) 34 rfl (w.heap.size+5) 58 i0 _ 6 72 underlying34 aj ag af ae rfl UW (.slice a1 tl.length c1) tl.length (tl.flatMap ef) rfl (by rw[N.out];exact OW.out.alloc _) ⟨w2.heap.size,0,Vd⟩ 1 1 (ef (g.e,.slice P g.e.aK.length O)) rfl rfl (by rw[N.out];exact WM (cs:=(ef (g.e,.slice P g.e.aK.length O)).toArray) (cC w2 _)) (by simp[ef,WN]) U1 UU (by rw[N.out];simp;omega) ?_;intro v3 w3 t f;obtain⟨al,ak,rfl⟩:=iy t;refine o _ _ ?_;clear o K;rw[N.out] at f;have BX:=xD G.out.1 G.out.2.1 G.out.2.2.1 C.out.2 S2.out.2 _ f;have ab:=BX.cell;have aa:=BX.frozen;have G3:=aC (zA t f);clear t f BX N y;refine wpAnyIn_ready (rs:=[5]) UZ UV ?_;refine ZG rfl (fun K o=>?_) ZH
       go_simp
       refine o _ _ ?_;clear o K;refine wpAnyIn_done UZ ?_ _;have F:=G.out;have hL:=xE (B:=Z.heap.size) F.1 F.2.1 F.2.2.1 F.2.2.2 C.out.2 S2.out.1 S2.out.2 _ G3.out.2 G3.out.1 (fun b hb=>HH.out.dk.none hb) (z:=x.1) (by rw[V.out.2];exact M) (HH.out.of.mem hg) V.out.2.symm;refine⟨hL.1,hL.2.1,?_⟩;show LI w _ s aM (ZI (fun x=>x.val) (pre++[x]));rw[Wr];exact hL.2.2
   ·rw[M] at CT
    gi_wp2
    refine⟨trivial,?_⟩;refine (CallsIn.inRound l (callsIn_wide.2 CT.out)).mono ?_;rintro e w1 ⟨rfl,J⟩
    gi_wp2
    have F:=G.out
    exact⟨RO J,J.mono F.1.bl.size,⟨⟨_,tl,(J.block _ F.2.1.lt).trans F.2.1,F.2.2.1.later J,by
     have:=F.2.2.2.JM (z:=x.1) (by rw[V.out.2];exact M)
     simpa using this⟩,F.1.bl.trans (J.mono F.1.bl.size),Vq F.1.sz J.size⟩⟩
  case done =>
   rintro D ys W hD rfl h o;obtain⟨v,tl,hv,er,Y⟩:=h.bx;have hc:=hv.cell;obtain⟨a1,c1,rfl⟩:=iy er.own
   have HF:Hid (tl.map (·.1)=aA.kT r.tg[i].name a b s.es):=by
    rw[ay.out] at Y;have it:=(HH.out.of.th i hi).2;have ad:=HH.out.inv
    obtain⟨p1,p2⟩:=aA.OY (ys:=tl.map (·.1)) (a:=a) (b:=b) it ad.ids (fun e he=>(ad.en e he).ri) (fun e he sp hs=>((ad.en e he).sp sp hs).1) (by rw[List.length_map];exact Y.len) (fun j hj=>by
     have av:j<tl.length:=by simpa using hj
     have:=Y.at_ j av
     simpa using this)
    exact aA.Hm ad.ids p1 p2
   have HE:Hid (gI W w.heap.size aM (.slice a1 tl.length c1) tl/\Vj w.heap.size w W):=⟨er.base UU,h.bl⟩;clear h er Y hv
   go_wp2_with fail
   refine QR ?_;refine⟨by simp,.inl ⟨_,_,rfl,run_takeDeferred o,?_⟩⟩;have kp:Vj W.heap.size W (W.putObj D (.deferred Vd))->True:=fun _=>trivial
   refine⟨_,results_tmp rfl _ _ _,_,tl,rfl,HF.out,?_,HE.out.2.trans (belowK_b (w:=w) (zq _) W D _ _ UU o rfl rfl)⟩;exact⟨ownsRow_putObj HE.out.1.own _ o rfl,HE.out.1.no,fun p hp=>⟨⟨ownsRow_putObj (HE.out.1.sp p hp).1.own _ o rfl,(HE.out.1.sp p hp).1.no⟩,(HE.out.1.sp p hp).2⟩,HE.out.1.pw⟩
  case stop =>
   rintro D c pre W _ _ h _;exact h.elim
open Go.RowKit
open aA (aL St dB kept dZ cS cN gD cA bW gJ ec gy nk Inv)
theorem Jr{s:St}(f:ec s)(h:fA s name 0 fr til≠0):aA.aU s (.list name fr til)=(s,aA.bO.error (fA s name 0 fr til)):=by
 have o:=aA.CI f.tu name;simp only[aA.aU];unfold fA aA.dH at *
 by_cases a:aA.bJ name s.ts=0
 ·rw[Vb a];simp[a]
 ·have j:¬ (aA.bJ name s.ts<0):=UU
  simp only[a,j] at h ⊢
  by_cases c:til<=fr
  ·simp[c]
  ·simp[c] at h
theorem Hz{s:St}(h:fA s name 0 fr til=0):aA.aU s (.list name fr til)=(s,⟨0,0,0,aA.kT name fr til s.es,[],[],[]⟩):=by
 obtain⟨a,f⟩:=sV h;have c:aA.bJ name s.ts≠0:=fun e=>by unfold aA.dH at a;rw[Vb e] at a;omega
 simp only[aA.aU];rw[Va c,Va UU];rfl
theorem Hn(name:U4)(c:U7)(fr til a b:U9):Vj w.heap.size w (((w.alloc (.cells #[.string name,.bool c,.int .i64 fr,.int .i64 til] 170)).alloc aX).alloc (.cells #[.int .i64 a,.int .i64 b] 60))/\(((w.alloc (.cells #[.string name,.bool c,.int .i64 fr,.int .i64 til] 170)).alloc aX).alloc (.cells #[.int .i64 a,.int .i64 b] 60)).heap[w.heap.size+1]?=Ve aX/\(((w.alloc (.cells #[.string name,.bool c,.int .i64 fr,.int .i64 til] 170)).alloc aX).alloc (.cells #[.int .i64 a,.int .i64 b] 60)).cell? ⟨w.heap.size+1+1,0,Vd⟩=Ve (.int .i64 a)/\(((w.alloc (.cells #[.string name,.bool c,.int .i64 fr,.int .i64 til] 170)).alloc aX).alloc (.cells #[.int .i64 a,.int .i64 b] 60)).cell? ⟨w.heap.size+1+1,1,Vd⟩=Ve (.int .i64 b)/\(((w.alloc (.cells #[.string name,.bool c,.int .i64 fr,.int .i64 til] 170)).alloc aX).alloc (.cells #[.int .i64 a,.int .i64 b] 60)).heap.size=w.heap.size+3:=by
 have h:=cC (w.alloc (.cells #[.string name,.bool c,.int .i64 fr,.int .i64 til] 170)) aX;have f:=cC ((w.alloc (.cells #[.string name,.bool c,.int .i64 fr,.int .i64 til] 170)).alloc aX) (.cells #[.int .i64 a,.int .i64 b] 60);rw[WX] at h;rw[WX,WX] at f;refine⟨(((zr _ _).alloc (zq _) _).alloc UV _).alloc (by rw[WX,WX];omega) _,(Below.heap_alloc _ _ _ (by rw[WX,WX];omega)).trans h,?_,?_,by rw[WX,WX,WX]⟩
 ·simp only[VL,f];rfl
 ·simp only[VL,f];rfl
theorem Qg{s:St}(h:dS w d s r aM)(name:U4)(hn:name.size<=1000)(wi:U7)(fr til:U9):
  Vk prog 98 #[.pointer (Ve ⟨d,0,Vd⟩),.agg #[.string name,.bool wi,.int .i64 fr,.int .i64 til]] w fun e w'=>∃ v,e=.returned v/\dX w d aM (aA.aU s (.list name (if wi then fr else 0) (if wi then til else 1048320))) v w':=by
 have o:=aC h;clear h
 cases wi
 ·simp only[reduceIte,Vx];obtain⟨U,A,D,C,V⟩:=Hn (w:=w) name Vf fr til 0 1048320;have I:=aC (vS (o.out.dk.later U) o.out.of o.out.aS name hn 0 0 1048320);have z:=aC (zA U A);clear U A
  go_in
  unfold aX at I z D C V
  go_upto_region 9 with fail
  generalize (((w.alloc (.cells #[.string name,.bool Vf,.int .i64 fr,.int .i64 til] 170)).alloc (.cells #[.int .i64 0,.int .i64 0,.int .i64 0,.slice Vd 0 0,.slice Vd 0 0,.slice Vd 0 0,.slice Vd 0 0] 40)).alloc (.cells #[.int .i64 0,.int .i64 1048320] 60))=X at *;refine I.out.mono ?_;rintro e w1 ⟨hp,t⟩;have G:Hid (Vj w.heap.size w w1):=z.out.1.trans (t.mono z.out.1.size);have Z:Hid (Q7 w1 (w.heap.size+1)):=(Q7.of z.out.2).later (t.block _ UU);rcases hp with ⟨u,rfl⟩|⟨u,i,hi,e1,e2,rfl⟩
  ·have HD:=aC (Jr o.out.aS u);generalize fA s name 0 0 1048320=y at *;have ab:(y != 0)=Vg:=by simpa using u
   clear u I z t D C
   go_wp2_with fail
   refine (lI y w1).mono ?_;rintro e w2 ⟨rfl,j⟩;have F:=aC (o.out.refuse G.out Z.out j HD.out);obtain⟨T,S,P,O,N,M,J,Y⟩:=F.out.1;simp only[bC]
   go_wp2_with fail
   exact cO results98 ⟨T,S,P,O,N,M,J,Y⟩ ⟨_,rfl,F.out.2⟩
  ·have HD:=aC (Hz u);have y1:=aN t D;have y2:=aN t C;have aa:w.heap.size+3<=w1.heap.size:=by have:=t.size;omega
   have TL:=aC (Ia (w:=w1) (s:=s) ⟨o.out.dk.later G.out,o.out.of,o.out.wl,o.out.hl,o.out.inv⟩ hi 0 1048320);rw[e1] at TL;clear u I z t D C e1 e2
   go_wp2_with fail
   refine TL.out.mono ?_;rintro e w2 ⟨v,l,rfl,hl,y,j⟩;obtain⟨a1,c1,rfl⟩:=iy y.own;have hq:=j.block (w.heap.size+1) (Vr _ _ Z.out.q0)
   have F:Hid (∀ a b c e f g i,dX w d aM (aA.aU s (.list name 0 1048320)) (bC 0 0 0 (.slice a1 l.length c1) (.slice Vd 0 0) (.slice Vd 0 0) (.slice Vd 0 0)) (cK w2 (w.heap.size+1) a b c e f g i)):=fun a b c e f g i=>by
    rw[HD.out,<- hl];exact o.out.ib (G.out.trans (j.mono G.out.size)) UU (y.base UU) a b c e f g i
   obtain⟨T,S,P,O,N,M,J,Y⟩:=Z.out.later hq;clear TL y hl j hq
   go_wp2_with fail
   exact cO results98 ⟨T,S,P,O,N,M,J,Y⟩ ⟨_,rfl,F.out _ _ _ _ _ _ _⟩
 ·simp only[if_true];obtain⟨U,A,D,C,V⟩:=Hn (w:=w) name Vg fr til fr til;have I:=aC (vS (o.out.dk.later U) o.out.of o.out.aS name hn 0 fr til);have z:=aC (zA U A);clear U A
  go_in
  unfold aX at I z D C V
  go_upto_region 9 with fail
  generalize (((w.alloc (.cells #[.string name,.bool Vg,.int .i64 fr,.int .i64 til] 170)).alloc (.cells #[.int .i64 0,.int .i64 0,.int .i64 0,.slice Vd 0 0,.slice Vd 0 0,.slice Vd 0 0,.slice Vd 0 0] 40)).alloc (.cells #[.int .i64 fr,.int .i64 til] 60))=X at *;refine I.out.mono ?_;rintro e w1 ⟨hp,t⟩;have G:Hid (Vj w.heap.size w w1):=z.out.1.trans (t.mono z.out.1.size);have Z:Hid (Q7 w1 (w.heap.size+1)):=(Q7.of z.out.2).later (t.block _ UU);rcases hp with ⟨u,rfl⟩|⟨u,i,hi,e1,e2,rfl⟩
  ·have HD:=aC (Jr o.out.aS u);generalize fA s name 0 fr til=y at *;have ab:(y != 0)=Vg:=by simpa using u
   clear u I z t D C
   go_wp2_with fail
   refine (lI y w1).mono ?_;rintro e w2 ⟨rfl,j⟩;have F:=aC (o.out.refuse G.out Z.out j HD.out);obtain⟨T,S,P,O,N,M,J,Y⟩:=F.out.1;simp only[bC]
   go_wp2_with fail
   exact cO results98 ⟨T,S,P,O,N,M,J,Y⟩ ⟨_,rfl,F.out.2⟩
  ·have HD:=aC (Hz u);have y1:=aN t D;have y2:=aN t C;have aa:w.heap.size+3<=w1.heap.size:=by have:=t.size;omega
   have TL:=aC (Ia (w:=w1) (s:=s) ⟨o.out.dk.later G.out,o.out.of,o.out.wl,o.out.hl,o.out.inv⟩ hi fr til);rw[e1] at TL;clear u I z t D C e1 e2
   go_wp2_with fail
   refine TL.out.mono ?_;rintro e w2 ⟨v,l,rfl,hl,y,j⟩;obtain⟨a1,c1,rfl⟩:=iy y.own;have hq:=j.block (w.heap.size+1) (Vr _ _ Z.out.q0)
   have F:Hid (∀ a b c e f g i,dX w d aM (aA.aU s (.list name fr til)) (bC 0 0 0 (.slice a1 l.length c1) (.slice Vd 0 0) (.slice Vd 0 0) (.slice Vd 0 0)) (cK w2 (w.heap.size+1) a b c e f g i)):=fun a b c e f g i=>by
    rw[HD.out,<- hl];exact o.out.ib (G.out.trans (j.mono G.out.size)) UU (y.base UU) a b c e f g i
   obtain⟨T,S,P,O,N,M,J,Y⟩:=Z.out.later hq;clear TL y hl j hq
   go_wp2_with fail
   exact cO results98 ⟨T,S,P,O,N,M,J,Y⟩ ⟨_,rfl,F.out _ _ _ _ _ _ _⟩
theorem Ti{s:St}{D:Raw}(h:dS w d s D aM)(name:U4)(Y:name.size<=1000)(A:U7)(fr til a b:U9)(J:(if A then fr else 0)=a)(I:(if A then til else 1048320)=b):
  Vk prog 64 #[.pointer (Ve ⟨d,0,Vd⟩),.iface 170 (.agg #[.string name,.bool A,.int .i64 fr,.int .i64 til])] w fun e w'=>∃ v,e=.returned v/\dX w d aM (aA.aU s (.list name a b)) v w':=by
 have F:=aC (h.qa (.cells #[.string name,.bool A,.int .i64 fr,.int .i64 til] 170));have C:=aC (Qg F.out.1 name Y A fr til);rw[J,I] at C;clear h J I;unfold aX at C F;have t:=qu 170 UW;have z:=sb 170 UW;have y:=sd 170 UW;have u:=rZ 170 UW;have f:=tz 170 UW;have c:=tw 170 UW;have j:=vb 170 UW;have o:=ph underlying170
 go_in
 go_wp2_with fail
 refine C.out.mono ?_;rintro e w2 ⟨v,rfl,M⟩;obtain⟨er,at_,nn,a1,a2,a3,a4,n1,n2,n3,n4,c1,c2,c3,c4,rfl,N,G⟩:=M.pW F.out.2;have HF:=aC G;clear M G C t z y u f c j o;obtain⟨X,V,U,T,S,P,O,Z⟩:=N;simp only[bC]
 go_wp2_with fail
 exact cO results64 ⟨X,V,U,T,S,P,O,Z⟩ ⟨_,rfl,HF.out⟩
namespace aA
theorem Cs(ts:U5 (U4 × U9)):∀ (r a:U5 aL),(dQ ts a r).2.length<=r.length
 |[],a=>by simp[dQ]
 |e :: r,a=>by
  simp only[dQ]
  split
  ·show ((dQ ts (a++[cS e]) r).2.length+1)<=_;have:=Cs ts r (a++[cS e]);simp;omega
  ·have:=Cs ts r (a++[e]);simp;omega
theorem Rx(ts:U5 (U4 × U9))(es:U5 aL):(ey ts es).2.length<=es.length:=Cs ts es []
end aA
inductive LV:Vi->aA.fJ->Prop where
 |aT (name:U4) (hn:name.size<=1000) (u:U9):LV (.iface 149 (.agg #[.string name,.int .i64 u])) (.aT name u)
 |book (name:U4) (hn:name.size<=1000) (u fr til:U9):LV (.iface 154 (.agg #[.string name,.int .i64 u,.int .i64 fr,.int .i64 til])) (.enter 1 name u fr til 0)
 |hold (name:U4) (hn:name.size<=1000) (u fr til long:U9):LV (.iface 156 (.agg #[.string name,.int .i64 u,.int .i64 fr,.int .i64 til,.int .i64 long])) (.enter 2 name u fr til long)
 |wait (name:U4) (hn:name.size<=1000) (u fr til long:U9):LV (.iface 157 (.agg #[.string name,.int .i64 u,.int .i64 fr,.int .i64 til,.int .i64 long])) (.enter 3 name u fr til long)
 |series (name:U4) (hn:name.size<=1000) (u:U9) (r:Rd.bL):LV (.iface 165 (.agg #[.string name,.int .i64 u,.int .i64 r.pc,.int .i64 r.ev,.bool (aI r.acc 0),.bool (aI r.acc 1),.bool (aI r.acc 2),.bool (aI r.acc 3),.bool (aI r.acc 4),.bool (aI r.acc 5),.bool (aI r.acc 6),.int .i64 r.fr,.int .i64 r.mn,.int .i64 r.mi,.int .i64 r.ti,.int .i64 r.un])) (.series name u r)
 |confirm (id:U9):LV (.iface 167 (.agg #[.int .i64 id])) (.confirm id)
 |cancel (id:U9):LV (.iface 168 (.agg #[.int .i64 id])) (.cancel id)
 |list (name:U4) (hn:name.size<=1000) (wi:U7) (fr til a b:U9) (ha:(if wi then fr else 0)=a) (hb:(if wi then til else 1048320)=b):LV (.iface 170 (.agg #[.string name,.bool wi,.int .i64 fr,.int .i64 til])) (.list name a b)
 |waiting:LV (.iface 173 (.agg #[])) (.waiting)
 |cY (name:U4) (hn:name.size<=1000) (fr til:U9):LV (.iface 176 (.agg #[.string name,.int .i64 fr,.int .i64 til])) (.cY name fr til)
 |find (name:U4) (hn:name.size<=1000) (u long fr til:U9):LV (.iface 178 (.agg #[.string name,.int .i64 u,.int .i64 long,.int .i64 fr,.int .i64 til])) (.find name u long fr til)
 |expand (r:Rd.bL):LV (.iface 180 (.agg #[.int .i64 r.pc,.int .i64 r.ev,.bool (aI r.acc 0),.bool (aI r.acc 1),.bool (aI r.acc 2),.bool (aI r.acc 3),.bool (aI r.acc 4),.bool (aI r.acc 5),.bool (aI r.acc 6),.int .i64 r.fr,.int .i64 r.mn,.int .i64 r.mi,.int .i64 r.ti,.int .i64 r.un])) (.expand r)
 |tick (n:U9):LV (.iface 182 (.agg #[.int .i64 n])) (.tick n)
 |clock:LV (.iface 183 (.agg #[])) (.clock)
theorem oj{s:U4}(h:bE x s=Vg):s=x:=by
 have e:s.toList=x.toList:=eq_of_beq h;rw[ZJ,ZJ] at e;exact aB.pH e
theorem FB(h:n<ws.length)(a:B (ws.getD n YN)=Vg):dI ws B (n,Vf)=(n+1,Vf):=by
 simp only[dI,ek,ei,eA,cB,a,h,decide_true,Bool.not_false,Bool.and_self,if_true]
theorem UG(ws:U5 U4)(st:U8 × U7):aQ ws [] st=st:=rfl
theorem G9(h:eA ws n wr B=Vg):wr=Vf/\n<ws.length/\B (ws.getD n YN)=Vg:=by
 unfold eA cB at h;simp only[W7,ZK,decide_eq_true_eq] at h;exact⟨h.1.1,h.1.2,h.2⟩
theorem Ca(h:(dI ws B st).2=Vf):eA ws st.1 st.2 B=Vg:=by
 unfold dI ei at h
 cases e:eA ws st.1 st.2 B
 ·rw[e] at h;simp at h
 ·rfl
theorem jQ(h:(dI ws B st).2=Vf):st.2=Vf:=(G9 (Ca h)).1
theorem rn(h:(dI ws B st).2=Vf):∃ x,B x=Vg/\∀ V,bT ws st B V=V x:=by
 have t:=Ca h;exact⟨_,(G9 t).2.2,fun V=>by unfold bT fg;rw[t];rfl⟩
theorem sk(h:dE x=Vg):1<=cL x/\cL x<=9:=by
 unfold dE eL at h;simp only[W7,decide_eq_true_eq] at h;exact⟨h.1.2,h.2⟩
theorem A2(h:eJ x=Vg):1<=cL x/\cL x<=1048320:=by
 unfold eJ eL at h;simp only[W7,decide_eq_true_eq] at h;exact⟨h.1.2,h.2⟩
theorem xp(h:eo x=Vg):1<=cL x/\cL x<=99:=by
 unfold eo eL at h;simp only[W7,decide_eq_true_eq] at h;exact⟨h.1.2,h.2⟩
theorem N5(x:U4):0<=cL x/\cL x<=9999999:=aB.lf _
theorem kV(h:bB x=Vg):0<=dL x/\dL x<=1048320:=by
 unfold dL;rw[Vb h];unfold bB at h;simp only[W7,decide_eq_true_eq] at h;exact h.2
theorem FP(h:aB.cM x=Vg):0<=fT x/\fT x<728:=by
 unfold fT;rw[Vb h];unfold aB.cM at h;exact (of_decide_eq_true h).2
theorem Oc(h:aB.dA x=Vg):0<=aB.fo x/\aB.fo x<1440:=by
 unfold aB.fo;rw[Vb h];unfold aB.dA at h;obtain⟨_,_,_,_,c,a⟩:=of_decide_eq_true h;have:=aB.lf (aB.part x 0 2);have:=aB.lf (aB.part x 3 5);omega
theorem UL(h:bI x=Vg):x.size<=1000:=by
 unfold bI aB.fa at h;rw[W7] at h;have:=of_decide_eq_true h.1;have e:x.size=x.data.toList.length:=by rw[ZL];rfl
 omega
theorem Gu(h:nP ws st ti un s)(o:s.2=Vf):st.2=Vf/\0<=ti/\ti<=99/\0<=un/\un<728:=by
 cases h with
 |times h =>
  have a:(dI ws eo (dV st)).2=Vf:=o;obtain⟨x,c,f⟩:=rn a;have:=xp c;have j:(dV st).2=Vf:=jQ a;rw[f cL];exact⟨j,by omega,by omega,by omega,by omega⟩
 |til h1 h =>
  have a:(dI ws aB.cM (dV st)).2=Vf:=o;obtain⟨x,c,f⟩:=rn a;have:=FP c;have j:(dV st).2=Vf:=jQ a;rw[f fT];exact⟨j,by omega,by omega,by omega,by omega⟩
 |none h1 h=>cases o
theorem Rs{ev:U9}(h:nW ws st pc ev acc s)(o:s.2=Vf):st.2=Vf/\1<=pc/\pc<=3/\1<=ev/\ev<=99:=by
 cases h with
 |daily h =>
  have a:(dI ws eo (dV st)).2=Vf:=o;obtain⟨x,c,f⟩:=rn a;have:=xp c;have j:(dV st).2=Vf:=jQ a;rw[f cL];exact⟨j,by omega,by omega,by omega,by omega⟩
 |weekly h1 h acc ha =>
  have a:(dI ws aB.dU (dI ws eo (dV st))).2=Vf:=o;have t:=jQ a;obtain⟨x,c,f⟩:=rn t;have:=xp c;have j:(dV st).2=Vf:=jQ t;rw[f cL];exact⟨j,by omega,by omega,by omega,by omega⟩
 |monthly g1 g2 g =>
  have a:(dI ws eo (dV st)).2=Vf:=o;obtain⟨x,c,f⟩:=rn a;have:=xp c;have j:(dV st).2=Vf:=jQ a;rw[f cL];exact⟨j,by omega,by omega,by omega,by omega⟩
 |none g1 g2 g=>cases o
theorem Cg{ev:U9}(h:km ws st pc ev acc fr mn mi ti un s):∃ a,nW ws st pc ev acc a/\nP ws (mD ws a) ti un s/\fr=bT ws (aQ ws [bE cV] a) aB.cM fT/\mn=bT ws (aQ ws [bE cV,aB.cM,bE ej] a) aB.dA aB.fo/\mi=bT ws (aQ ws [bE cV,aB.cM,bE ej,aB.dA,bE fS] a) eJ cL:=by
 cases h
 exact⟨_,by assumption,by assumption,rfl,rfl,rfl⟩
theorem Ii{ev:U9}(h:km ws st pc ev acc fr mn mi ti un s)(X:s.2=Vf):st.2=Vf/\Rd.fw ⟨pc,ev,acc,fr,mn,mi,ti,un⟩:=by
 obtain⟨a,P,U,rfl,rfl,rfl⟩:=Cg h;obtain⟨S,D,C,u0,u1⟩:=Gu U X;have o:(dI ws eJ (dI ws (bE fS) (dI ws aB.dA (dI ws (bE ej) (dI ws aB.cM (dI ws (bE cV) a)))))).2=Vf:=S;have I:=jQ o;have t:=jQ I;have J:=jQ t;have u:=jQ J;have M:=jQ u;obtain⟨O,G,F,Z,Y⟩:=Rs P (jQ M);obtain⟨xi,T,f⟩:=rn o;obtain⟨xm,N,c⟩:=rn t;obtain⟨xd,V,j⟩:=rn u;have A:=A2 T;have z:=Oc N;have y:=FP V;refine⟨O,⟨G,F,Z,Y,?_,?_,?_,?_,?_,?_,D,C,u0,u1⟩⟩
 ·show 0<=bT ws (dI ws (bE cV) a) aB.cM fT;rw[j];exact y.1
 ·show bT ws (dI ws (bE cV) a) aB.cM fT<728;rw[j];exact y.2
 ·show 0<=bT ws (dI ws (bE ej) (dI ws aB.cM (dI ws (bE cV) a))) aB.dA aB.fo;rw[c];exact z.1
 ·show bT ws (dI ws (bE ej) (dI ws aB.cM (dI ws (bE cV) a))) aB.dA aB.fo<1440;rw[c];exact z.2
 ·show 1<=bT ws (dI ws (bE fS) (dI ws aB.dA (dI ws (bE ej) (dI ws aB.cM (dI ws (bE cV) a))))) eJ cL;rw[f];exact A.1
 ·show bT ws (dI ws (bE fS) (dI ws aB.dA (dI ws (bE ej) (dI ws aB.cM (dI ws (bE cV) a))))) eJ cL<=1048320;rw[f];exact A.2
theorem N8(h:bD ws 0 Vf x=Vg)(y:U4):bD ws 0 Vf y=(x.toList==y.toList):=by
 unfold bD at h ⊢;rw[W7] at h;have e:=eq_of_beq h.2;rw[h.1,e,Bool.true_and]
def py:Vi->U8
 |.iface t _=>t
 |_=>0
def CW:U5 (U4 × U8):=[(ky,149),(kr,154),(qD,156),(qG,157),(ic,165),(qU,167),(ku,168),(dY,170),(qP,173),(kn,176),(kl,178),(iZ,180),(qF,182),(kM,183)]
def jd(f:U4->U7):U8:=((CW.find? fun p=>f p.1).map (·.2)).getD 0
theorem lC(h:bD ws 0 Vf x=Vg):jd (bD ws 0 Vf)=jd (fun y=>x.toList==y.toList):=by
 rw[show bD ws 0 Vf=fun y=>x.toList==y.toList from funext (N8 h)]
theorem gK.tag(h:gK ws v s):py v=jd (bD ws 0 Vf):=by
 cases h with
 |none h0 h1 h2 h3 h4 h5 h6 h7 h8 h9 h10 h11 h12 h13=>simp[py,jd,CW,h0,h1,h2,h3,h4,h5,h6,h7,h8,h9,h10,h11,h12,h13]
 |aT h=>rw[lC h];exact (by decide +kernel:149=jd (fun y=>ky.toList==y.toList))
 |book h=>rw[lC h];exact (by decide +kernel:154=jd (fun y=>kr.toList==y.toList))
 |hold h=>rw[lC h];exact (by decide +kernel:156=jd (fun y=>qD.toList==y.toList))
 |wait h=>rw[lC h];exact (by decide +kernel:157=jd (fun y=>qG.toList==y.toList))
 |series h=>rw[lC h];exact (by decide +kernel:165=jd (fun y=>ic.toList==y.toList))
 |confirm h=>rw[lC h];exact (by decide +kernel:167=jd (fun y=>qU.toList==y.toList))
 |cancel h=>rw[lC h];exact (by decide +kernel:168=jd (fun y=>ku.toList==y.toList))
 |list0 h=>rw[lC h];exact (by decide +kernel:170=jd (fun y=>dY.toList==y.toList))
 |list1 h=>rw[lC h];exact (by decide +kernel:170=jd (fun y=>dY.toList==y.toList))
 |waiting h=>rw[lC h];exact (by decide +kernel:173=jd (fun y=>qP.toList==y.toList))
 |cY h=>rw[lC h];exact (by decide +kernel:176=jd (fun y=>kn.toList==y.toList))
 |find h=>rw[lC h];exact (by decide +kernel:178=jd (fun y=>kl.toList==y.toList))
 |expand h=>rw[lC h];exact (by decide +kernel:180=jd (fun y=>iZ.toList==y.toList))
 |tick h=>rw[lC h];exact (by decide +kernel:182=jd (fun y=>qF.toList==y.toList))
 |clock h=>rw[lC h];exact (by decide +kernel:183=jd (fun y=>kM.toList==y.toList))
theorem Oz(h:nP ws st ti un s)(a:nP ws st ti' un' s'):s=s'/\ti=ti'/\un=un':=by
 cases h <;> cases a <;> first|exact⟨rfl,rfl,rfl⟩|(simp_all;done)
theorem Qp{ev:U9}(h:nW ws st pc ev acc s)(a:nW ws st pc' ev' acc' s'):s=s'/\pc=pc'/\ev=ev'/\(s.2=Vf->acc=acc'):=by
 cases h with
 |daily h=>cases a <;> first|exact⟨rfl,rfl,rfl,fun _=>rfl⟩|(simp_all;done)
 |monthly h1 c h=>cases a <;> first|exact⟨rfl,rfl,rfl,fun _=>rfl⟩|(simp_all;done)
 |none h1 c h=>cases a <;> first|exact⟨rfl,rfl,rfl,fun _=>rfl⟩|(simp_all;done)
 |weekly h1 h acc ha =>
  cases a with
  |daily g=>rw[g] at h1;cases h1
  |weekly g1 g acc' ga =>
   refine⟨rfl,rfl,rfl,fun c=>?_⟩;have t:eA ws (aQ ws [eo] (dV st)).1 (aQ ws [eo] (dV st)).2 aB.dU=Vg:=Ca (B:=aB.dU) (st:=aQ ws [eo] (dV st)) c;exact WY ((ha t).symm.trans (ga t))
  |monthly g1 g2 g=>rw[h] at g2;cases g2
  |none g1 g2 g=>rw[h] at g2;cases g2
theorem Gy{ev:U9}{f a c:U9}(h:km ws st pc ev acc fr mn mi ti un s)(G:km ws st pc' ev' acc' f a c ti' un' s'):
  s=s'/\pc=pc'/\ev=ev'/\(s.2=Vf->acc=acc')/\fr=f/\mn=a/\mi=c/\ti=ti'/\un=un':=by
 obtain⟨y,A,t,rfl,rfl,rfl⟩:=Cg h;obtain⟨u,j,o,rfl,rfl,rfl⟩:=Cg G;obtain⟨rfl,rfl,rfl,D⟩:=Qp A j;obtain⟨rfl,rfl,rfl⟩:=Oz t o;refine⟨rfl,rfl,rfl,fun F=>D ?_,rfl,rfl,rfl,rfl,rfl⟩;have C:=(Gu t F).1;have z:(dI ws eJ (dI ws (bE fS) (dI ws aB.dA (dI ws (bE ej) (dI ws aB.cM (dI ws (bE cV) y)))))).2=Vf:=C;exact jQ (jQ (jQ (jQ (jQ (jQ z)))))
theorem xT(f:gK ws v s)(a:gK ws v' s'):s=s'/\(s.2=Vf->v=v'):=by
 have e:py v=py v':=f.tag.trans a.tag.symm
 cases f with
 |series h pc ev acc fr mn mi ti un s hr =>
  cases a with
  |series h' pc' ev' acc' fr' mn' mi' ti' un' s' hr' =>
   obtain⟨rfl,rfl,rfl,c,rfl,rfl,rfl,rfl,rfl⟩:=Gy hr hr';exact⟨rfl,fun a=>by rw[c a]⟩
  |_=>exact Vc e (by simp[py])
 |expand h pc ev acc fr mn mi ti un s hr =>
  cases a with
  |expand h' pc' ev' acc' fr' mn' mi' ti' un' s' hr' =>
   obtain⟨rfl,rfl,rfl,c,rfl,rfl,rfl,rfl,rfl⟩:=Gy hr hr';exact⟨rfl,fun a=>by rw[c a]⟩
  |_=>exact Vc e (by simp[py])
 |list0 h hm =>
  cases a with
  |list0 h' hm'=>exact⟨rfl,fun _=>rfl⟩
  |list1 h' hm'=>rw[hm] at hm';cases hm'
  |_=>exact Vc e (by simp[py])
 |list1 h hm =>
  cases a with
  |list0 h' hm'=>rw[hm] at hm';cases hm'
  |list1 h' hm'=>exact⟨rfl,fun _=>rfl⟩
  |_=>exact Vc e (by simp[py])
 |_=>cases a <;> first|exact⟨rfl,fun _=>rfl⟩|exact Vc e (by simp[py])
theorem B9{t:U4}{e e':Ending}(h:nc t e)(c:nc t e'):e=e':=by
 cases h with
 |long h =>
  cases c with
  |long c=>rfl
  |bad c=>omega
  |qn c=>omega
 |bad h v st hl f =>
  cases c with
  |long c=>omega
  |bad c v' st' hl' a=>obtain⟨rfl,_⟩:=xT hl hl';rfl
  |qn c v' st' hl' h2 a =>
   obtain⟨rfl,_⟩:=xT hl hl';rcases f with f|f
   ·rw[h2] at f;cases f
   ·rw[a] at f;cases f
 |qn h v st hl h2 f =>
  cases c with
  |long c=>omega
  |bad c v' st' hl' a =>
   obtain⟨rfl,_⟩:=xT hl hl';rcases a with a |a
   ·rw[h2] at a;cases a
   ·rw[f] at a;cases a
  |qn c v' st' hl' h2' a=>obtain⟨rfl,j⟩:=xT hl hl';rw[j h2]
def AJ(t:U4):(U9 × U9) ⊕ aA.fJ->Prop
 |.inl (er,at_)=>er≠0/\(er=1/\at_=0\/er=2/\0<=at_)/\∀ e,nc t e->e=.returned (.tuple #[.nilIface,.int .i64 er,.int .i64 at_])
 |.inr l=>∃ a,(∀ e,nc t e->e=.returned (.tuple #[a,.int .i64 0,.int .i64 0]))/\LV a l/\aA.jA l
end Go.Proofs.YtfigmlfdnickmaaGreatDoor
namespace Go.Proofs.YtfigmlfdnickmaaGreatDoor.aB
open Go
theorem GU:∀ (k u:U8),u<10 ^ (k+1)->(ZM u).length<=k+1
 |0,u,h=>by rw[ZM];simp at h;rw[dif_pos h];simp
 |k+1,u,h=>by
  rw[ZM]
  split
  ·simp
  ·have:=GU k (u / 10) (by rw[Nat.pow_succ] at h;omega);simp;omega
def gi(n:U9):U4:=⟨(Lib.itoa n).toArray⟩
theorem CU(n:U9)(a:0<=n)(h:n<=9999999):(gi n).size<=7:=by
 rw[<- fM];unfold gi Lib.itoa;rw[Va UU];have:=GU 6 n.toNat UU
 simpa using this
def pz:U8->U4->U4
 |0,t=>t
 |k+1,t=>pz k (⟨#[48]⟩++t)
def kK(n:U9)(size:U8):U4:=pz (size-(gi n).size) (gi n)
theorem Ae:∀ (k:U8)(t:U4),(pz k t).size=k+t.size
 |0,t=>by simp[pz]
 |k+1,t=>by
  rw[pz,Ae k];have:(⟨#[48]⟩++t:U4).size=1+t.size:=ZN;omega
theorem ot(n:U9)(size:U8)(a:0<=n)(h:n<=9999999):(kK n size).size<=size+7:=by
 unfold kK;rw[Ae];have:=CU n a h;omega
theorem Ad:∀ (k:U8)(t:U4),(pz k t).data.toList=List.replicate k 48++t.data.toList
 |0,t=>rfl
 |k+1,t=>by
  rw[pz,Ad k,rj];rw[show (ByteArray.mk #[48]).data.toList=[48] from rfl,<- VZ]
  congr 1
  rw[List.replicate_succ']
end Go.Proofs.YtfigmlfdnickmaaGreatDoor.aB
namespace Go.Proofs.YtfigmlfdnickmaaGreatDoor
open Go.RowKit
theorem Ry(w:Vh)(k:U8)(a:Array Obj):Vj w.heap.size w (ZO (w.drewN k) a) :=
 ⟨rfl,rfl,rfl,by simp[ZO],fun j c=>by simp only[ZO,World.heap_drewN];rw[Array.getElem?_append_left c]⟩
theorem FL(n:U9)(w:Vh)(c:Env w)(h:-9223372036854775808<=n)(f:n<=9223372036854775807):
  Vk prog 47 #[.int .i64 n] w fun e w'=>e=.returned (.string (aB.gi n))/\Vj w.heap.size w w':=by
 refine (strconv_Itoa n h f w c.pow).mono ?_;rintro e w' ⟨rfl,k,a,rfl⟩;exact⟨rfl,Ry w k a⟩
end Go.Proofs.YtfigmlfdnickmaaGreatDoor
namespace Go.Proofs.YtfigmlfdnickmaaGreatDoor.aB
open Go
def nV(x:U5 (U5 UInt8) × U5 UInt8)(c:UInt8):U5 (U5 UInt8) × U5 UInt8:=if c=32 then ((if x.2=[] then x.1 else x.1++[x.2]),[]) else (x.1,x.2++[c])
def AH(l:U5 UInt8):U5 (U5 UInt8) × U5 UInt8:=l.foldl nV ([],[])
def pB(x:U5 (U5 UInt8) × U5 UInt8):U5 (U5 UInt8):=if x.2=[] then x.1 else x.1++[x.2]
def xL(l:U5 UInt8):U5 (U5 UInt8):=pB (AH l)
theorem Qx{a b:U4}(h:a.data.toList=b.data.toList):a=b:=by
 cases a;cases b
 simp only[ZP];exact Array.toList_inj.1 h
theorem rh(s:U4):s.data.toList.length=s.size:=by rw[ZL];rfl
theorem Fw(s:U4)(k:U8)(h:k<s.size):dP s k=32↔s.data.toList[k]'(by rw[rh];exact h)=32:=by
 have a:k<s.data.toList.length:=by rw[rh];exact h
 have e:dP s k=((s.data.toList[k]).toNat:U9):=by
  unfold dP;rw[List.getD_eq_getElem?_getD,Xb a];rfl
 rw[e];constructor
 ·intro c;apply UInt8.toNat_inj.1;show (s.data.toList[k]).toNat=32;omega
 ·intro k;rw[k];rfl
theorem Qo(s:U4)(k:U8)(h:k<s.size):(s.extract k (k+1)).data.toList=[s.data.toList[k]'(by rw[rh];exact h)]:=by
 have a:k<s.data.toList.length:=by rw[rh];exact h
 rw[ByteArray.data_extract,Array.toList_extract,List.extract_eq_take_drop];rw[Nat.add_sub_cancel_left,WQ a];simp
theorem vW(b:U4):b.size=0↔b.data.toList=[]:=by
 rw[<- rh];exact V9
theorem F7(s:U4):∀ k:U8,k<=s.size->(s.data.toList.take k).foldl nV ([],[])=((jF s k).map (·.data.toList),(eG s k).data.toList)
 |0,_=>by
  have f:=qE s 0;have a:=xz s 0;have t:jF s 0=[]:=V9.1 UU;have o:(eG s 0).data.toList=[]:=(vW _).1 UU;simp[t,o]
 |k+1,h=>by
  have ih:=F7 s k UU;have j:k<s.data.toList.length:=by rw[rh];omega
  rw[List.take_succ_eq_append_getElem j,XJ,ih];simp only[W9,List.foldl_nil];unfold nV
  by_cases c:dP s k=32
  ·rw[Vb ((Fw s k UU).1 c)];obtain⟨f,a⟩:=xK s k UU c;rw[f,a];refine Prod.ext ?_ rfl;show (if (eG s k).data.toList=[] then _ else _)=_
   by_cases d:(eG s k).size=0
   ·rw[Vb ((vW _).1 d),Vb d,List.append_nil]
   ·rw[Va (fun e=>d ((vW _).2 e)),Va d,Wr];rfl
  ·rw[Va (fun e=>c ((Fw s k UU).2 e))];obtain⟨f,a⟩:=xy s k c;rw[a,<- f,rj,Qo s k UU]
theorem SM(s:U4):(aP s).map (·.data.toList)=xL s.data.toList:=by
 have h:=F7 s s.size (zq _);rw[List.take_of_length_le (by rw[rh];exact zq _)] at h;unfold xL AH pB;rw[h,vq,Wr]
 by_cases d:(eG s s.size).size=0
 ·rw[Vb d,Vb ((vW _).1 d)];simp
 ·rw[Va d,Va (fun e=>d ((vW _).2 e))];simp
def yE(w:U5 UInt8):U7:=!w.isEmpty && w.all fun c=>decide (c≠32)
theorem UE{w:U5 UInt8}:yE w=Vg↔w≠[]/\∀ c∈w,c≠32:=by
 unfold yE;rw[W7,List.all_eq_true];constructor
 ·rintro ⟨h,f⟩;exact⟨fun e=>by simp[e] at h,fun c a=>by simpa using f c a⟩
 ·rintro ⟨h,f⟩;exact⟨by cases w <;> simp at h ⊢,fun c a=>by simpa using f c a⟩
theorem H9{w:U5 UInt8}(h:∀ c∈w,c≠32):∀ x:U5 (U5 UInt8) × U5 UInt8,w.foldl nV x=(x.1,x.2++w):=by
 induction w with
 |nil=>intro x;simp
 |cons c w ih =>
  intro x;rw[W9];have:nV x c=(x.1,x.2++[c]):=by unfold nV;rw[Va (h c UV)]
  rw[this,ih (fun d a=>h d (by simp[a]))];simp
theorem Sx(x:U5 (U5 UInt8) × U5 UInt8):nV x 32=(pB x,[]):=by
 unfold nV pB;rw[Vb rfl]
end Go.Proofs.YtfigmlfdnickmaaGreatDoor.aB
namespace Go.Proofs.YtfigmlfdnickmaaGreatDoor.aB
open Go
end Go.Proofs.YtfigmlfdnickmaaGreatDoor.aB
namespace Go.Proofs.YtfigmlfdnickmaaGreatDoor
open Go.RowKit
theorem wm{x:U9}(c:-9223372036854775808<=x)(a:x<=9223372036854775807):IntKind.i64.wrap x=x:=by
 rw[IntKind.wrap_i64];omega
def lD(c n:U9):U9:=(if c<0 then -(c+1) else c) % n
theorem Js{c n:U9}(a:1<=n):0<=lD c n/\lD c n<n:=⟨Int.emod_nonneg _ UU,Int.emod_lt_of_pos _ UU⟩
open aA (aL St dB kept dZ cS cN gD cA bW gJ ec gy nk Inv)
def kc(w:U4)(a c:U9):U7:=decide (a<=bF w 1 7/\bF w 1 7<=c)
def aV(sym w:U4):U7 :=
 if sym.toList==[78,65,77,69] then aB.fa w.data.toList else
 if sym.toList==[85,78,73,84,83] then kc w 1 9 else
 if sym.toList==[77,73,78,85,84,69,83] then kc w 1 1048320 else
 if sym.toList==[69,86,69,82,89] then kc w 1 99 else
 if sym.toList==[73,68] then decide (0<=bF w 1 7) else
 if sym.toList==[84,73,77,69] then decide (0<=cZ w) else
 if sym.toList==[68,65,84,69] then decide (0<=eU w/\eU w<728) else
 if sym.toList==[77,73,78,85,84,69] then decide (0<=gT w) else
 if sym.toList==[79,78] then aB.dU w else
 sym.toList==w.toList
theorem Ls(sym w:U4)(W:Vh)(c:w.size<=160):
  Vk prog 125 #[.string sym,.string w] W fun e w'=>e=.returned (.bool (aV sym w))/\Vj W.heap.size W w':=by
 cases o:(sym.toList==[78,65,77,69])
 case true =>
  go_in
  go_wp2_with fail
  refine (eP w 1 7 W c UU UU).mono ?_;rintro e w1 ⟨rfl,a⟩
  go_wp2_with fail
  refine (Mr w _ c).mono ?_;rintro e w2 ⟨rfl,rfl⟩;go_wp2;go_ret;exact⟨eB (by simp[aV,o]),a⟩
 cases c1:(sym.toList==[85,78,73,84,83])
 case true =>
  have j:Hid (aV sym w=kc w 1 9):=by show aV sym w=_;simp[aV,o,c1]
  by_cases y:1<=bF w 1 7
  ·by_cases u:bF w 1 7<=9
   ·go_in
    go_wp2_with fail
    refine (eP w 1 7 W c UU UU).mono ?_;rintro e w1 ⟨rfl,a⟩;go_wp2;go_ret;exact⟨eB (by rw[j.out,kc,decide_eq_true ⟨y,u⟩]),a⟩
   ·go_in
    go_wp2_with fail
    refine (eP w 1 7 W c UU UU).mono ?_;rintro e w1 ⟨rfl,a⟩;go_wp2;go_ret;exact⟨eB (by rw[j.out,kc,decide_eq_false UU];simp;omega),a⟩
  ·go_in
   go_wp2_with fail
   refine (eP w 1 7 W c UU UU).mono ?_;rintro e w1 ⟨rfl,a⟩;go_wp2;go_ret;exact⟨eB (by rw[j.out,kc,decide_eq_false UU]),a⟩
 cases t:(sym.toList==[77,73,78,85,84,69,83])
 case true =>
  have j:Hid (aV sym w=kc w 1 1048320):=by show aV sym w=_;simp[aV,o,c1,t]
  by_cases y:1<=bF w 1 7
  ·by_cases u:bF w 1 7<=1048320
   ·go_in
    go_wp2_with fail
    refine (eP w 1 7 W c UU UU).mono ?_;rintro e w1 ⟨rfl,a⟩;go_wp2;go_ret;exact⟨eB (by rw[j.out,kc,decide_eq_true ⟨y,u⟩]),a⟩
   ·go_in
    go_wp2_with fail
    refine (eP w 1 7 W c UU UU).mono ?_;rintro e w1 ⟨rfl,a⟩;go_wp2;go_ret;exact⟨eB (by rw[j.out,kc,decide_eq_false UU];simp;omega),a⟩
  ·go_in
   go_wp2_with fail
   refine (eP w 1 7 W c UU UU).mono ?_;rintro e w1 ⟨rfl,a⟩;go_wp2;go_ret;exact⟨eB (by rw[j.out,kc,decide_eq_false UU]),a⟩
 cases z:(sym.toList==[69,86,69,82,89])
 case true =>
  have j:Hid (aV sym w=kc w 1 99):=by show aV sym w=_;simp[aV,o,c1,t,z]
  by_cases y:1<=bF w 1 7
  ·by_cases u:bF w 1 7<=99
   ·go_in
    go_wp2_with fail
    refine (eP w 1 7 W c UU UU).mono ?_;rintro e w1 ⟨rfl,a⟩;go_wp2;go_ret;exact⟨eB (by rw[j.out,kc,decide_eq_true ⟨y,u⟩]),a⟩
   ·go_in
    go_wp2_with fail
    refine (eP w 1 7 W c UU UU).mono ?_;rintro e w1 ⟨rfl,a⟩;go_wp2;go_ret;exact⟨eB (by rw[j.out,kc,decide_eq_false UU];simp;omega),a⟩
  ·go_in
   go_wp2_with fail
   refine (eP w 1 7 W c UU UU).mono ?_;rintro e w1 ⟨rfl,a⟩;go_wp2;go_ret;exact⟨eB (by rw[j.out,kc,decide_eq_false UU]),a⟩
 cases A:(sym.toList==[73,68])
 case true =>
  go_in
  go_wp2_with fail
  refine (eP w 1 7 W c UU UU).mono ?_;rintro e w1 ⟨rfl,a⟩;go_wp2;go_ret;exact⟨eB (by simp[aV,o,c1,t,z,A]),a⟩
 cases C:(sym.toList==[84,73,77,69])
 case true =>
  go_in
  go_wp2_with fail
  refine (eP w 1 7 W c UU UU).mono ?_;rintro e w1 ⟨rfl,a⟩
  go_wp2_with fail
  refine (qv w _ c).mono ?_;rintro e w2 ⟨rfl,f⟩;have h:=a.trans (f.mono a.size);go_wp2;go_ret;exact⟨eB (by simp[aV,o,c1,t,z,A,C]),h⟩
 cases D:(sym.toList==[68,65,84,69])
 case true =>
  have j:Hid (aV sym w=decide (0<=eU w/\eU w<728)):=by show aV sym w=_;simp[aV,o,c1,t,z,A,C,D]
  by_cases y:0<=eU w
  ·by_cases u:eU w<728
   ·go_in
    go_wp2_with fail
    refine (eP w 1 7 W c UU UU).mono ?_;rintro e w1 ⟨rfl,a⟩
    go_wp2_with fail
    refine (uX w _ c).mono ?_;rintro e w2 ⟨rfl,f⟩;have h:=a.trans (f.mono a.size);go_wp2;go_ret;exact⟨eB (by rw[j.out,decide_eq_true ⟨y,u⟩]),h⟩
   ·go_in
    go_wp2_with fail
    refine (eP w 1 7 W c UU UU).mono ?_;rintro e w1 ⟨rfl,a⟩
    go_wp2_with fail
    refine (uX w _ c).mono ?_;rintro e w2 ⟨rfl,f⟩;have h:=a.trans (f.mono a.size);go_wp2;go_ret;exact⟨eB (by rw[j.out,decide_eq_false UU];simp;omega),h⟩
  ·go_in
   go_wp2_with fail
   refine (eP w 1 7 W c UU UU).mono ?_;rintro e w1 ⟨rfl,a⟩
   go_wp2_with fail
   refine (uX w _ c).mono ?_;rintro e w2 ⟨rfl,f⟩;have h:=a.trans (f.mono a.size);go_wp2;go_ret;exact⟨eB (by rw[j.out,decide_eq_false UU]),h⟩
 cases F:(sym.toList==[77,73,78,85,84,69])
 case true =>
  go_in
  go_wp2_with fail
  refine (eP w 1 7 W c UU UU).mono ?_;rintro e w1 ⟨rfl,a⟩
  go_wp2_with fail
  refine (AD w _ c).mono ?_;rintro e w2 ⟨rfl,f⟩;have h:=a.trans (f.mono a.size);go_wp2;go_ret;exact⟨eB (by simp[aV,o,c1,t,z,A,C,D,F]),h⟩
 cases G:(sym.toList==[79,78])
 case true =>
  go_in
  go_wp2_with fail
  refine (eP w 1 7 W c UU UU).mono ?_;rintro e w1 ⟨rfl,a⟩
  go_wp2_with fail
  refine (zw w _ c).mono ?_;rintro e w2 ⟨⟨acc,rfl,_⟩,f⟩;have h:=a.trans (f.mono a.size);unfold e9;go_wp2;go_ret;exact⟨eB (by simp[aV,o,c1,t,z,A,C,D,F,G]),h.alloc (Vq a.size f.size) _⟩
 go_in
 go_wp2_with fail
 refine (eP w 1 7 W c UU UU).mono ?_;rintro e w1 ⟨rfl,a⟩;go_wp2;go_ret;exact⟨eB (by simp[aV,o,c1,t,z,A,C,D,F,G]),a⟩
def jm(i:U8):U4:=match i with|0=>⟨#[100,97,105,108,121,32,69,86,69,82,89]⟩|1=>⟨#[119,101,101,107,108,121,32,69,86,69,82,89,32,79,78]⟩|_=>⟨#[109,111,110,116,104,108,121,32,69,86,69,82,89]⟩
def lP(i:U8):U4:=match i with|0=>⟨#[116,105,109,101,115,32,69,86,69,82,89]⟩|_=>⟨#[117,110,116,105,108,32,68,65,84,69]⟩
def Dj:U4:=⟨#[32,102,114,111,109,32,68,65,84,69,32,97,116,32,77,73,78,85,84,69,32,102,111,114,32,77,73,78,85,84,69,83,32]⟩
def uH(ahead:U4)(i k:U8):U4:=ahead++⟨#[32]⟩++jm i++Dj++lP k
def kJ(ahead:U4)(n:U8):U5 U4:=(List.range n).map fun j=>uH ahead (j / 2) (j % 2)
theorem Na(ahead:U4)(n:U8):kJ ahead (n+1)=kJ ahead n++[uH ahead (n / 2) (n % 2)]:=by
 simp[kJ,List.range_succ]
theorem Ep(i:U8):(jm i).size<=15:=by unfold jm;split <;> decide
theorem D9(i:U8):(lP i).size<=11:=by unfold lP;split <;> decide
theorem tj(a b:U4)(m n:U8)(f:a.size<=m)(c:b.size<=n):(a++b).size<=m+n:=by
 have:(a++b).size=a.size+b.size:=ZN;omega
theorem wP(a b:U4)(m n:U8)(f:a.size<=m)(c:b.size<=n)(h:m+n<=1000):∀ wx,(ZQ .add a b).run prog wx=.ok (.string (a++b)) wx:=by
 intro wx;apply run_string_add_sum;omega
theorem ND{c a size:U8}(h:w.ownsRow c e size v n xs)(t:a<=c):w.ownsRow a e size v n xs:=by
 refine⟨h.1,?_⟩;rcases h.2 with u|⟨g,cap,f,j,o,rest⟩
 ·exact .inl u
 ·exact .inr ⟨g,cap,f,j,Vq t o,rest⟩
theorem EF(ahead:U4)(w:Vh)(C:ahead.size<=20):
  Vk prog 185 #[.string ahead] w fun e w'=>∃ v,e=.returned v/\w'.ownsRow w.heap.size 9 1 v 6 ((kJ ahead 6).map Y0)/\Vj w.heap.size w w':=by
 obtain⟨Z,T,N,M,J⟩:=info_parts wM
 go_in
 go_wp2;obtain⟨W,y⟩:∃ W,W=(w.alloc (.cells #[.string (jm 0),.string (jm 1),.string (jm 2)] 9)).alloc (.cells #[.string (lP 0),.string (lP 1)] 9):=⟨_,rfl⟩;simp only[jm,lP] at y;rw[<- y];have hB:Vj w.heap.size w W:=by rw[y];exact ((zr _ _).alloc (zq _) _).alloc UV _
 have hZ:w.heap.size+2=W.heap.size:=by rw[y];simp
 have X:∀ i,i<3->W.cell? ⟨w.heap.size,i,Vd⟩=Ve (.string (jm i)):=fun i hi=>by
  rw[y];rcases (show i=0\/i=1\/i=2 by omega) with rfl|rfl|rfl <;> simp[jm]
 have Y:∀ i,i<2->W.cell? ⟨w.heap.size+1,i,Vd⟩=Ve (.string (lP i)):=fun i hi=>by
  rw[y];rcases (show i=0\/i=1 by omega) with rfl|rfl <;> simp[lP]
 have CK:=hide X;have CE:=hide Y;clear y X Y
 go_loopw [3,6,7] (fun v i _ wx=>∃ a:U8,a<=3/\i=.int .i64 a/\wx.ownsRow (w.heap.size+2) 9 1 v (2*a) ((kJ ahead (2*a)).map Y0)/\Vj (w.heap.size+2) W wx) (fun _ i _ _=>3-(intOf i).toNat)
 case atStart=>exact⟨0,by omega,rfl,World.ownsRow_nil _ _ _ _,Below.refl _ _⟩
 case round =>
  obtain⟨a,ac,rfl,o,u⟩:=hrel
  by_cases O:a<3
  ·have i1:(0:U9)<=(a:U9):=Y6 _;have i2:(a:U9)<3:=UU
   go_wp2;obtain⟨U,z⟩:∃ U:Vh,U=wr:=⟨_,rfl⟩;rw[<- z] at o u ⊢;clear z
   go_loopw [3,7] (fun v k wx=>∃ b:U8,b<=2/\k=.int .i64 b/\wx.ownsRow (w.heap.size+2) 9 1 v (2*a+b) ((kJ ahead (2*a+b)).map Y0)/\Vj (w.heap.size+2) W wx) (fun _ k _=>2-(intOf k).toNat)
   case atStart=>exact⟨0,by omega,rfl,o,u⟩
   case round =>
    obtain⟨b,ab,rfl,c,f⟩:=hrel
    by_cases P:b<2
    ·have I:=Ep a;have ez:=D9 b;have c1:wr.cell? ⟨w.heap.size,a,Vd⟩=Ve (.string (jm a)):=(f.cell (p:=⟨w.heap.size,a,Vd⟩) UV).trans (aJ CK a O);have c2:wr.cell? ⟨w.heap.size+1,b,Vd⟩=Ve (.string (lP b)):=(f.cell (p:=⟨w.heap.size+1,b,Vd⟩) UV).trans (aJ CE b P);have i3:(0:U9)<=(b:U9):=Y6 _;have i4:(b:U9)<2:=UU
     have G:u3.ownBlock≠Ve w.heap.size:=fun e=>by have:=ou c e;omega
     have F:u3.ownBlock≠Ve (w.heap.size+1):=fun e=>by have:=ou c e;omega
     have aa:=f.size;have s1:∀ wx,(ZQ .add ahead ⟨#[32]⟩).run prog wx=.ok (.string (ahead++⟨#[32]⟩)) wx:=wP ahead _ 20 1 C UW UW;have s2:∀ wx,(ZQ .add (ahead++⟨#[32]⟩) (jm a)).run prog wx=.ok (.string (ahead++⟨#[32]⟩++jm a)) wx:=wP _ _ 21 15 (tj _ _ 20 1 C UW) I UW;have s3:∀ wx,(ZQ .add (ahead++⟨#[32]⟩++jm a) ⟨#[32,102,114,111,109,32,68,65,84,69,32,97,116,32,77,73,78,85,84,69,32,102,111,114,32,77,73,78,85,84,69,83,32]⟩).run prog wx=.ok (.string (ahead++⟨#[32]⟩++jm a++⟨#[32,102,114,111,109,32,68,65,84,69,32,97,116,32,77,73,78,85,84,69,32,102,111,114,32,77,73,78,85,84,69,83,32]⟩)) wx:=wP _ _ 36 33 (tj _ _ 21 15 (tj _ _ 20 1 C UW) I) UW UW;have s4:∀ wx,(ZQ .add (ahead++⟨#[32]⟩++jm a++⟨#[32,102,114,111,109,32,68,65,84,69,32,97,116,32,77,73,78,85,84,69,32,102,111,114,32,77,73,78,85,84,69,83,32]⟩) (lP b)).run prog wx=.ok (.string (ahead++⟨#[32]⟩++jm a++⟨#[32,102,114,111,109,32,68,65,84,69,32,97,116,32,77,73,78,85,84,69,32,102,111,114,32,77,73,78,85,84,69,83,32]⟩++lP b)) wx:=wP _ _ 69 11 (tj _ _ 36 33 (tj _ _ 21 15 (tj _ _ 20 1 C UW) I) UW) ez UW
     go_wp2_with fail
     go_region_held3 (fun w'=>w'.cell? ⟨w.heap.size,a,Vd⟩=Ve (.string (jm a))/\w'.cell? ⟨w.heap.size+1,b,Vd⟩=Ve (.string (lP b)))
      (first
       |go_keep
       |(
        go_split_ands
        refine⟨?_,?_⟩
        ·(rw[h.cell_far _ U0 (Ne.symm G)];assumption)
        ·(rw[h.cell_far _ U0 (Ne.symm F)];assumption)))
      ((refine step_append_lies _ (by rfl) _ _ _ (by rfl) (w.heap.size+2) 9 Z _ 1 16 underlying26 T N M J rfl UU u3 (2*a+b) ((kJ ahead (2*a+b)).map Y0) (by rfl) ((c.alloc _).drew) ⟨wr.heap.size,0,Vd⟩ 1 1 [.string (ahead++⟨#[32]⟩++jm a++⟨#[32,102,114,111,109,32,68,65,84,69,32,97,116,32,77,73,78,85,84,69,32,102,111,114,32,77,73,78,85,84,69,83,32]⟩++lP b)] (by rfl) (by rfl) (WM (cs:=#[.string (ahead++⟨#[32]⟩++jm a++⟨#[32,102,114,111,109,32,68,65,84,69,32,97,116,32,77,73,78,85,84,69,32,102,111,114,32,77,73,78,85,84,69,83,32]⟩++lP b)]) (t:=9) (fr:=(0,0)) (heap_alloc_new wr _)) U2 UU U1 UU U0 (wr.heap.size+1) UV ?_;intro g cap w1 j h ad V))
     have A:Vj (w.heap.size+2) W w1:=by
      first
       |exact ((f.alloc UU _).drew).grown h U0 (fun k S=>ou c S)
       |exact (f.alloc UU _).grown h U0 (fun k S=>ou c S)
     have D:Hid (w1.ownsRow (w.heap.size+2) 9 1 (.slice (Ve ⟨g,0,Vd⟩) (2*a+b+1) cap) (2*a+(b+1)) ((kJ ahead (2*a+(b+1))).map Y0)):=by
      show w1.ownsRow _ _ _ _ _ _;rw[show 2*a+(b+1)=2*a+b+1 from by omega,Na,show (2*a+b) / 2=a from by omega,show (2*a+b) % 2=b from by omega,Wr];exact j
     clear j;go_wp2;refine⟨?_,?_⟩
     ·first|exact⟨b+1,by omega,by go_num,D.out,A⟩|((repeat apply Exists.intro);exact⟨⟨b+1,by omega,by go_num,D.out,A⟩,rfl⟩)
     ·simp[intOf];omega
    ·obtain rfl:b=2:=UU
     have D:Hid (wr.ownsRow (w.heap.size+2) 9 1 u3 (2*(a+1)) ((kJ ahead (2*(a+1))).map Y0)):=by
      show wr.ownsRow _ _ _ _ _ _;rw[show 2*(a+1)=2*a+2 from by omega];exact c
     clear c;go_wp2;exact⟨⟨a+1,by omega,by go_num,D.out,f⟩,by simp[intOf];omega⟩
  ·obtain rfl:a=3:=UU
   go_wp2;go_ret;exact⟨_,rfl,ND o UU,hB.trans (u.mono UU)⟩
def uG:U5 U4:=[⟨#[116,104,105,110,103,32,78,65,77,69,32,85,78,73,84,83]⟩,⟨#[98,111,111,107,32,78,65,77,69,32,85,78,73,84,83,32,84,73,77,69,32,84,73,77,69]⟩,⟨#[104,111,108,100,32,78,65,77,69,32,85,78,73,84,83,32,84,73,77,69,32,84,73,77,69,32,77,73,78,85,84,69,83]⟩,⟨#[119,97,105,116,32,78,65,77,69,32,85,78,73,84,83,32,84,73,77,69,32,84,73,77,69,32,77,73,78,85,84,69,83]⟩,⟨#[99,111,110,102,105,114,109,32,73,68]⟩,⟨#[99,97,110,99,101,108,32,73,68]⟩,⟨#[108,105,115,116,32,78,65,77,69]⟩,⟨#[108,105,115,116,32,78,65,77,69,32,84,73,77,69,32,84,73,77,69]⟩,⟨#[119,97,105,116,105,110,103]⟩,⟨#[112,101,97,107,32,78,65,77,69,32,84,73,77,69,32,84,73,77,69]⟩,⟨#[102,105,110,100,32,78,65,77,69,32,85,78,73,84,83,32,77,73,78,85,84,69,83,32,84,73,77,69,32,84,73,77,69]⟩,⟨#[116,105,99,107,32,77,73,78,85,84,69,83]⟩,⟨#[99,108,111,99,107]⟩]
def uD:U4:=⟨#[115,101,114,105,101,115,32,78,65,77,69,32,85,78,73,84,83]⟩
def wD:U4:=⟨#[101,120,112,97,110,100]⟩
def kH:U5 U4:=uG++kJ uD 6++kJ wD 6
theorem Fh{a size:U8}(h:w.ownsRow a e size v n xs)(u:Vj w.heap.size w w'):w'.ownsRow a e size v n xs:=by
 refine⟨h.1,?_⟩;rcases h.2 with y|⟨g,cap,f,j,t,c,rest⟩
 ·exact .inl y
 ·refine .inr ⟨g,cap,f,j,t,?_,rest⟩
  have:g<w.heap.size:=by
   by_cases o:g<w.heap.size
   ·exact o
   ·rw[WD UU] at c;cases c
  rw[u.block g this];exact c
theorem Ao{a:U8}(h:w.ownsRow a e 1 v n xs)(G:0<n):∃ g cap,v=.slice (Ve ⟨g,0,Vd⟩) n cap/\a<=g/\g<w.heap.size/\∀ j u,xs[j]?=Ve u->w.cell? (ZR ⟨g,0,Vd⟩ j)=Ve u:=by
 rcases h.2 with ⟨_,M⟩|⟨g,cap,y,z,C,t,I,_,F,ht⟩
 ·omega
 ·have f:g<w.heap.size:=by
   by_cases f:g<w.heap.size
   ·exact f
   ·rw[WD UU] at t;cases t
  refine⟨g,cap,z,C,f,fun j u o=>?_⟩
  have D:ZR ⟨g,0,Vd⟩ j=⟨g,j,Vd⟩:=by
   unfold ZR;split
   ·subst_vars;rfl
   ·simp
  have A:j<n:=by
   have J:=h.1;have:=(ZS.1 o).1;omega
  have c:y[j]?=Ve u:=by
   rw[<- ht,Xi,Vb UU] at o
   simpa using o
  rw[D];simp[VL,t,c]
theorem Nk(w:Vh):
  Vk prog 124 #[] w fun e w'=>∃ v,e=.returned v/\w'.ownsRow w.heap.size 9 1 v 25 (kH.map Y0)/\Vj w.heap.size w w':=by
 obtain⟨i0,hi,A,z,y⟩:=info_parts wM
 go_in
 go_wp2_with fail
 obtain⟨W,O⟩:∃ W,W=w.alloc (.cells #[.string ⟨#[116,104,105,110,103,32,78,65,77,69,32,85,78,73,84,83]⟩,.string ⟨#[98,111,111,107,32,78,65,77,69,32,85,78,73,84,83,32,84,73,77,69,32,84,73,77,69]⟩,.string ⟨#[104,111,108,100,32,78,65,77,69,32,85,78,73,84,83,32,84,73,77,69,32,84,73,77,69,32,77,73,78,85,84,69,83]⟩,.string ⟨#[119,97,105,116,32,78,65,77,69,32,85,78,73,84,83,32,84,73,77,69,32,84,73,77,69,32,77,73,78,85,84,69,83]⟩,.string ⟨#[99,111,110,102,105,114,109,32,73,68]⟩,.string ⟨#[99,97,110,99,101,108,32,73,68]⟩,.string ⟨#[108,105,115,116,32,78,65,77,69]⟩,.string ⟨#[108,105,115,116,32,78,65,77,69,32,84,73,77,69,32,84,73,77,69]⟩,.string ⟨#[119,97,105,116,105,110,103]⟩,.string ⟨#[112,101,97,107,32,78,65,77,69,32,84,73,77,69,32,84,73,77,69]⟩,.string ⟨#[102,105,110,100,32,78,65,77,69,32,85,78,73,84,83,32,77,73,78,85,84,69,83,32,84,73,77,69,32,84,73,77,69]⟩,.string ⟨#[116,105,99,107,32,77,73,78,85,84,69,83]⟩,.string ⟨#[99,108,111,99,107]⟩] 9):=⟨_,rfl⟩;rw[<- O];have X:Vj w.heap.size w W:=by rw[O];exact (zr _ _).alloc (zq _) _
 have t:W.ownsRow w.heap.size 9 1 (.slice (Ve ⟨w.heap.size,0,Vd⟩) 13 13) 13 (uG.map Y0):=by
  refine⟨rfl,.inr ⟨w.heap.size,13,#[.string ⟨#[116,104,105,110,103,32,78,65,77,69,32,85,78,73,84,83]⟩,.string ⟨#[98,111,111,107,32,78,65,77,69,32,85,78,73,84,83,32,84,73,77,69,32,84,73,77,69]⟩,.string ⟨#[104,111,108,100,32,78,65,77,69,32,85,78,73,84,83,32,84,73,77,69,32,84,73,77,69,32,77,73,78,85,84,69,83]⟩,.string ⟨#[119,97,105,116,32,78,65,77,69,32,85,78,73,84,83,32,84,73,77,69,32,84,73,77,69,32,77,73,78,85,84,69,83]⟩,.string ⟨#[99,111,110,102,105,114,109,32,73,68]⟩,.string ⟨#[99,97,110,99,101,108,32,73,68]⟩,.string ⟨#[108,105,115,116,32,78,65,77,69]⟩,.string ⟨#[108,105,115,116,32,78,65,77,69,32,84,73,77,69,32,84,73,77,69]⟩,.string ⟨#[119,97,105,116,105,110,103]⟩,.string ⟨#[112,101,97,107,32,78,65,77,69,32,84,73,77,69,32,84,73,77,69]⟩,.string ⟨#[102,105,110,100,32,78,65,77,69,32,85,78,73,84,83,32,77,73,78,85,84,69,83,32,84,73,77,69,32,84,73,77,69]⟩,.string ⟨#[116,105,99,107,32,77,73,78,85,84,69,83]⟩,.string ⟨#[99,108,111,99,107]⟩],rfl,Vn _,?_,Vn _,by decide,rfl,rfl⟩⟩;rw[O];exact heap_alloc_new w _
 clear O;refine (EF _ W UW).mono ?_;rintro e w1 ⟨v1,rfl,o1,b1⟩;obtain⟨g1,N,rfl,ad,ab,T⟩:=Ao o1 UU;have a:=Fh t b1;have J:=X.trans (b1.mono X.size);have F:=J.size;clear o1 t X
 go_wp2_with (first
  |(at_builtin;refine wpList_append_own _ rfl _ _ 26 rfl w.heap.size 9 i0 (.string ⟨#[]⟩) 1 16 underlying26 hi A z y rfl UW _ 13 (uG.map Y0) rfl a ⟨g1,0,Vd⟩ 6 N ((kJ uD 6).map Y0) rfl rfl ?c1 ?c2 ?c3 ?c4 ?c5 ?_))
 case c1=>exact T
 case c2=>intro u C;simp only[Wm] at C;obtain⟨x,_,rfl⟩:=C;rfl
 case c3=>decide
 case c4=>decide
 case c5=>exact F
 intro v2 w2 o f _;have I:Vj w.heap.size w w2:=J.grown f F (fun k P=>ou a P);have U:=I.size;clear f a
 go_wp2_with fail
 refine (EF _ w2 UW).mono ?_;rintro e w3 ⟨v3,rfl,Z,b3⟩;obtain⟨g3,M,rfl,ac,aa,S⟩:=Ao Z UU;have j:=Fh o b3;have G:=I.trans (b3.mono U);have D:=G.size;clear Z o
 go_wp2_with (first
  |(at_builtin;refine wpList_append_own _ rfl _ _ 26 rfl w.heap.size 9 i0 (.string ⟨#[]⟩) 1 16 underlying26 hi A z y rfl UW v2 (13+6) (uG.map Y0++(kJ uD 6).map Y0) rfl j ⟨g3,0,Vd⟩ 6 M ((kJ wD 6).map Y0) rfl rfl ?c1 ?c2 ?c3 ?c4 ?c5 ?_))
 case c1=>exact S
 case c2=>intro u C;simp only[Wm] at C;obtain⟨x,_,rfl⟩:=C;rfl
 case c3=>decide
 case c4=>decide
 case c5=>exact D
 intro Y w4 h c _;have V:Vj w.heap.size w w4:=G.grown c D (fun k P=>ou j P)
 have HO:Hid (w4.ownsRow w.heap.size 9 1 Y 25 (kH.map Y0)):=by
  show w4.ownsRow _ _ _ _ _ _;rw[kH,Wr,Wr];exact h
 clear h c;go_wp2;go_ret;exact⟨Y,rfl,HO.out,V⟩
def pre:U5 U4->U5 U4->U8
 |s :: p,w :: ws=>if aV s w then pre p ws+1 else 0
 |_,_=>0
theorem rV:∀ (p ws:U5 U4),pre p ws<=p.length/\pre p ws<=ws.length
 |[],_=>by simp[pre]
 |_ :: _,[]=>by simp[pre]
 |s :: p,w :: ws=>by
  unfold pre;have:=rV p ws
  split <;> simp <;> omega
theorem wQ:∀ (p ws:U5 U4)(n:U8)(c:n<p.length)(a:n<ws.length),n<pre p ws->aV p[n] ws[n]=Vg
 |[],_,_,c,_,_=>by simp at c
 |_ :: _,[],_,_,a,_=>by simp at a
 |s :: p,w :: ws,0,_,_,h=>by
  unfold pre at h
  split at h
  ·assumption
  ·omega
 |s :: p,w :: ws,n+1,c,a,h=>by
  unfold pre at h
  split at h
  ·exact wQ p ws n (by simpa using c) (by simpa using a) UU
  ·omega
theorem Eg:∀ (p ws:U5 U4)(n:U8)(c:n<p.length)(a:n<ws.length),n=pre p ws->aV p[n] ws[n]=Vf
 |[],_,_,c,_,_=>by simp at c
 |_ :: _,[],_,_,a,_=>by simp at a
 |s :: p,w :: ws,0,_,_,h=>by
  unfold pre at h
  cases f:aV s w
  ·exact f
  ·rw[Vb f] at h;omega
 |s :: p,w :: ws,n+1,c,a,h=>by
  unfold pre at h
  split at h
  ·exact Eg p ws n (by simpa using c) (by simpa using a) UU
  ·omega
theorem LF(f:n<p.length)(c:n<ws.length)(h:n<=pre p ws)(a:aV p[n] ws[n]=Vg):n+1<=pre p ws:=by
 by_cases e:n=pre p ws
 ·have:=Eg p ws n f c e;rw[a] at this;cases this
 ·omega
theorem LD(f:n<p.length)(c:n<ws.length)(h:n<=pre p ws)(a:aV p[n] ws[n]=Vf):n=pre p ws:=by
 by_cases e:n=pre p ws
 ·exact e
 ·have:=wQ p ws n f c UU;rw[a] at this;cases this
def scan:U5 (U5 U4)->U5 U4->U8->U6 (U5 U4) × U8
 |[],_,m=>(Vd,m)
 |p :: ps,ws,m=>if pre p ws=p.length/\pre p ws=ws.length then (Ve p,0) else scan ps ws (if m<pre p ws then pre p ws else m)
def mR:U5 (U5 U4):=kH.map aB.aP
theorem Mj:mR.length=25:=by simp[mR,kH,uG,kJ]
def jk(s:U4):U6 (U5 U4) × U8:=scan mR (aB.aP s) 0
theorem EO:∀ x∈kH,x.size<=160:=by
 intro x f
 have c:∀ a k,(uH uD a k).size<=160/\(uH wD a k).size<=160:=fun a k=>by
  have t:=Ep a;have o:=D9 k;have h:Dj.size=33:=UW
  have z:uD.size=17:=UW
  have y:wD.size=6:=UW
  have u:(⟨#[32]⟩:U4).size=1:=UW
  unfold uH;simp only[ZN];omega
 unfold kH kJ at f;simp only[List.mem_append,Wm] at f;rcases f with (f|⟨j,_,rfl⟩)|⟨j,_,rfl⟩
 ·revert x;decide
 ·exact (c _ _).1
 ·exact (c _ _).2
theorem As(s:U4):(aB.aP s).length<=s.size+1:=by
 rw[aB.vq,List.length_append];have:=aB.qE s s.size
 split <;> simp <;> omega
structure Row(w:Vh)(a:U6 Addr)(g:U8)(xs:U5 U4):Prop where
 at_:0<xs.length->a=Ve ⟨g,0,Vd⟩
 cells:∀ (j:U8) (h:j<xs.length),w.cell? ⟨g,j,Vd⟩=Ve (.string xs[j])
theorem Row.later{wx:Vh}{a:U6 Addr}{xs:U5 U4}(h:Row w a g xs)(f:Vj w.heap.size w wx):Row wx a g xs :=
 ⟨h.at_,fun j c=>cell_later f (h.cells j c)⟩
theorem Al{o:U8}{xs:U5 U4}(h:w.ownsRow o 9 1 v n (xs.map Y0))(u:n=xs.length):∃ a cap g,v=.slice a xs.length cap/\Row w a g xs:=by
 subst u
 by_cases t:0<xs.length
 ·obtain⟨g,cap,c,_,_,y⟩:=Ao h t;refine⟨Ve ⟨g,0,Vd⟩,cap,g,c,fun _=>rfl,fun j f=>?_⟩;have:=y j (.string xs[j]) (by simp[f])
  have z:ZR ⟨g,0,Vd⟩ j=⟨g,j,Vd⟩:=by
   unfold ZR;split
   ·subst_vars;rfl
   ·simp
  rwa [z] at this
 ·rcases h.2 with ⟨c,A⟩|⟨g,cap,C,c,_⟩
  ·exact⟨Vd,0,0,by rw[c,A],fun h=>Vc h t,fun j f=>Vc f UU⟩
  ·exact⟨_,cap,g,c,fun h=>Vc h t,fun j f=>Vc f UU⟩
def A4:Vi->U8
 |.bool Vg=>1
 |_=>0
theorem MA{s:U4}{k:U8}(f:k<kH.length)(a:q=aB.aP kH[k])(h:jk s=scan (mR.drop k) (aB.aP s) mm):
  jk s=if pre q (aB.aP s)=q.length/\pre q (aB.aP s)=(aB.aP s).length then (Ve q,0) else scan (mR.drop (k+1)) (aB.aP s) (if mm<pre q (aB.aP s) then pre q (aB.aP s) else mm):=by
 have c:k<mR.length:=by unfold mR;simpa using f
 rw[h,WQ c];have e:mR[k]=q:=by rw[a];exact List.getElem_map ..
 rw[e,scan]
theorem LJ{s:U4}{k:U8}(a:25<=k)(h:jk s=scan (mR.drop k) (aB.aP s) mm):jk s=(Vd,mm):=by
 rw[h,ZT (by rw[Mj];exact a)];rfl
def RR(s:U4)(w':Vh)(e:Ending):Prop :=
 (∃ (p:U5 U4) (a b:U6 Addr) (c d g h:U8),jk s=(Ve p,0)/\e=.returned (.tuple #[.slice a (aB.aP s).length c,.slice b p.length d,.int .i64 0,.int .i64 0])/\Row w' a g (aB.aP s)/\Row w' b h p) \/
 (∃ m:U8,jk s=(Vd,m)/\e=.returned (.tuple #[.slice Vd 0 0,.slice Vd 0 0,.int .i64 2,.int .i64 m]))
theorem Av(s:U4)(w:Vh)(hs:s.size<=160):
  Vk prog 78 #[.string s] w fun e w'=>RR s w' e/\Vj w.heap.size w w':=by
 have ai:=As s;have aj:(s.size:U9)<=160:=UU
 go_in
 go_wp2_with fail
 refine (Ez s w hs).mono ?_;rintro e w1 ⟨v1,rfl,o1,b1⟩;obtain⟨aw,cw,gw,rfl,S⟩:=Al o1 rfl
 go_wp2_with fail
 refine (Nk w1).mono ?_;rintro e w2 ⟨v2,rfl,o2,b2⟩;obtain⟨ap,cp,gp,rfl,F⟩:=Al o2 UW;have P:=S.later b2;have aa:=b1.trans (b2.mono b1.size);clear o1 o2 S b1 b2;obtain rfl:=F.at_ UW;rw[show kH.length=25 from by decide];go_wp2
 go_loopw [8,9,10,11,12] (fun m i _ _ _ wx=>∃ k mm:U8,k<=25/\mm<=161/\i=.int .i64 k/\m=.int .i64 mm/\jk s=scan (mR.drop k) (aB.aP s) mm/\Row wx aw gw (aB.aP s)/\Row wx (Ve ⟨gp,0,Vd⟩) gp kH/\Vj w.heap.size w wx) (fun _ i _ _ _ _=>25-(intOf i).toNat)
 case atStart=>exact⟨0,0,by omega,by omega,rfl,rfl,rfl,P,F,aa⟩
 case round =>
  obtain⟨k,mm,hk,al,rfl,rfl,X,rw,rp,z⟩:=hrel;have ab:=hide X;clear X P F aa
  by_cases ad:k<25
  ·have hi:(k:U9)<25:=UU
   have y:k<kH.length:=by rw[show kH.length=25 from by decide];exact ad
   have hc:=rp.cells k y
   go_wp2_with fail
   refine (Ez _ _ (EO _ (zg y))).mono ?_;rintro e w3 ⟨v3,rfl,o3,b3⟩;obtain⟨ax,cx,gx,rfl,rx⟩:=Al o3 rfl;have O:=rw.later b3;have U:=rp.later b3;have A:=z.trans (b3.mono z.size);obtain⟨q,hq⟩:∃ q,q=aB.aP kH[k]:=⟨_,rfl⟩;rw[<- hq] at rx ⊢;have HQ:=hide hq;have ak:q.length<=161:=by rw[hq];have:=As kH[k];have:=EO _ (zg y);omega
   clear hq o3 rw rp z b3 hc;go_wp2
   go_loopw [11,12] (fun n mo wx=>∃ (n':U8) (a:U7),n=.int .i64 n'/\mo=.bool a/\n'<=pre q (aB.aP s)/\(a=Vf->n'=pre q (aB.aP s))/\Row wx aw gw (aB.aP s)/\Row wx (Ve ⟨gp,0,Vd⟩) gp kH/\Row wx ax gx q/\Vj w.heap.size w wx) (fun n mo _=>A4 mo+(q.length-(intOf n).toNat))
   case atStart=>exact⟨0,Vg,rfl,rfl,Wh _,fun h=>Vc h UW,O,U,rx,A⟩
   case round =>
    obtain⟨n',a,rfl,rfl,hn,Z,o,D,u,t⟩:=hrel;have ag:=rV q (aB.aP s)
    have I:(a=Vg/\n'<q.length/\n'<(aB.aP s).length)\/a=Vf\/(a=Vg/\¬ n'<q.length)\/(a=Vg/\n'<q.length/\¬ n'<(aB.aP s).length):=by
     cases a
     ·simp
     ·simp;omega
    have af:=hide Z;clear Z O U rx A;rcases I with ⟨rfl,h1,h2⟩|G
    ·obtain rfl:=u.at_ UU;obtain rfl:=o.at_ UU;have c1:=u.cells n' h1;have c2:=o.cells n' h2;have j1:(n':U9)<(q.length:U9):=UU
     have j2:(n':U9)<((aB.aP s).length:U9):=UU
     have j0:(0:U9)<=(n':U9):=Y6 _;have V:(aB.aP s)[n'].size<=160:=Vq (xG s _ (zg h2)) hs;have ae:=hide V;clear V
     go_wp2_with fail
     go_region_held3 (fun w'=>w'.cell? ⟨gx,n',Vd⟩=Ve (.string q[n'])/\w'.cell? ⟨gw,n',Vd⟩=Ve (.string (aB.aP s)[n']))
      (first
       |go_keep
       |(
        go_split_ands
        refine⟨?_,?_⟩
        ·exact cell_later f UX
        ·exact cell_later f UX))
      ((go_at_call 125;refine (Ls _ _ _ (aJ ae)).mono ?_;rintro e w4 ⟨rfl,f⟩))
     have j:Vj wr.heap.size wr w4:=⟨f.os,f.tape,f.output,f.size,f.block⟩;have C:=t.trans (j.mono t.size);have N:=o.later j;have T:=D.later j;have M:=u.later j
     cases hf:aV q[n'] (aB.aP s)[n']
     ·have HP:=hide (LD h1 h2 hn hf);go_wp2;exact⟨⟨n',Vf,rfl,rfl,hn,fun _=>aJ HP,N,T,M,C⟩,by simp[A4,intOf]⟩
     ·have HP:=hide (LF h1 h2 hn hf);go_wp2;exact⟨⟨n'+1,Vg,by go_num,rfl,aJ HP,fun h=>Vc h UW,N,T,M,C⟩,by simp[A4,intOf];omega⟩
    ·have Y:n'=pre q (aB.aP s):=by
      rcases G with h|⟨_,h⟩|⟨_,_,h⟩
      ·exact aJ af h
      ·omega
      ·omega
     have J:=hide (MA y (aJ HQ) (aJ ab));rw[<- Y] at J;clear Y
     by_cases c:n'=q.length/\n'=(aB.aP s).length
     ·obtain⟨f1,f2⟩:=c;have HR:Hid (jk s=(Ve q,0)):=(aJ J).trans (Vb ⟨f1,f2⟩);have g1:((n':U9)==(q.length:U9))=Vg:=beq_iff_eq.2 UU;have g2:((n':U9)==((aB.aP s).length:U9))=Vg:=beq_iff_eq.2 UU;have F1:=hide f1;have F2:=hide f2;clear f1 f2;rcases G with rfl|⟨rfl,hx⟩|⟨rfl,hx,hy⟩
      all_goals
       go_wp2
       (try simp only[WG,Exit.then]);refine bodyPost_ret (pD rfl _ _ _) rfl ?_
       exact⟨.inl ⟨q,aw,ax,cw,cx,gw,gx,HR.out,rfl,o,u⟩,t⟩
     ·have HR:Hid (jk s=scan (mR.drop (k+1)) (aB.aP s) (if mm<n' then n' else mm)):=(aJ J).trans (Va c)
      have hg:((n':U9)==(q.length:U9))=Vf\/(((n':U9)==(q.length:U9))=Vg/\((n':U9)==((aB.aP s).length:U9))=Vf):=by
       by_cases e:n'=q.length
       ·right;exact⟨beq_iff_eq.2 UU,beq_eq_false_iff_ne.2 UU⟩
       ·left;exact beq_eq_false_iff_ne.2 UU
      clear c;have ac:mm<n'\/¬ mm<n':=UU
      rcases G with rfl|⟨rfl,hx⟩|⟨rfl,hx,hy⟩
      all_goals rcases hg with g1|⟨g1,g2⟩
      all_goals rcases ac with hm|hm
      all_goals
       go_wp2
       first
        |exact⟨⟨k+1,n',by omega,by omega,by go_num,rfl,HR.out.trans (by rw[Vb hm]),o,D,t⟩,by simp[intOf];omega⟩
        |exact⟨⟨k+1,mm,by omega,by omega,by go_num,rfl,HR.out.trans (by rw[Va hm]),o,D,t⟩,by simp[intOf];omega⟩
  ·have HE:=hide (LJ UU (aJ ab));go_wp2
   (try simp only[WG,Exit.then]);refine bodyPost_ret (pD rfl _ _ _) rfl ?_
   exact⟨.inr ⟨mm,aJ HE,rfl⟩,z⟩
theorem zI{a b:U4}(h:a=b):Ending.returned (.string a)=.returned (.string b):=by rw[h]
def K9:Vi->U8
 |.string s=>s.size
 |_=>0
theorem ML(j:U8)(t:U4):(⟨#[48]⟩:U4)++aB.pz j t=aB.pz (j+1) t:=by
 apply aB.pH;rw[aB.rj,aB.Ad,aB.Ad,List.replicate_succ];rfl
theorem uC(n:U9)(size:U8)(w:Vh)(o:Env w)(A:0<=n)(z:n<=9999999)(J:size<=9):
  Vk prog 128 #[.int .i64 n,.int .i64 size] w fun e w'=>e=.returned (.string (aB.kK n size))/\Vj w.heap.size w w':=by
 have I:=aB.CU n A z;have F:=hide o;clear o
 go_in
 go_wp2_with fail
 refine (FL n w (aJ F) UU UU).mono ?_;rintro e w1 ⟨rfl,f⟩;go_wp2
 go_loop [5] (fun t=>∃ j:U8,j<=size-(aB.gi n).size/\t=.string (aB.pz j (aB.gi n))) (fun t=>size-K9 t)
 case atStart=>exact⟨0,Wh _,rfl⟩
 case round =>
  obtain⟨j,M,rfl⟩:=hrel;have a:=aB.Ae j (aB.gi n);have u:=hide a;have G:(aB.pz j (aB.gi n)).size<=20:=UU
  clear a
  by_cases y:(aB.pz j (aB.gi n)).size<size
  ·have c:((aB.pz j (aB.gi n)).size:U9)<(size:U9):=UU
   have C:=hide (ML j (aB.gi n));have h:Hid (((⟨#[48]⟩:U4)++aB.pz j (aB.gi n)).size=1+(aB.pz j (aB.gi n)).size):=ZN;go_wp2
   go_round
   case rel=>exact⟨j+1,by have:=aJ u;omega,by rw[aJ C]⟩
   case measure =>
    have q:=aJ h;show size-((⟨#[48]⟩:U4)++aB.pz j (aB.gi n)).size<size-(aB.pz j (aB.gi n)).size;omega
  ·have c:¬ ((aB.pz j (aB.gi n)).size:U9)<(size:U9):=UU
   have D:Hid (aB.kK n size=aB.pz j (aB.gi n)):=by
    show aB.kK n size=_;unfold aB.kK;rw[show size-(aB.gi n).size=j from by have:=aJ u;omega]
   go_wp2;go_ret;exact⟨zI (by rw[D.out]),f⟩
def wI(y m d:U9):U4:=aB.kK y 4++⟨#[45]⟩++aB.kK m 2++⟨#[45]⟩++aB.kK d 2
def wU(n:U9):U4:=aB.kK (n / 60) 2++⟨#[58]⟩++aB.kK (n % 60) 2
def Ax(n:U9):U4:=wI (Cal.yT n) (Cal.mT n) (Cal.dT n)
def sg(t:U9):U4:=Ax (t / 1440)++⟨#[47]⟩++wU (t % 1440)
theorem L6(a b c:U4):a++b++c=a++(b++c):=by
 apply aB.pH;simp only[aB.rj,VZ]
theorem MY(y m d:U9)(h:Cal.ok y m d=Vg):(wI y m d).size<=40:=by
 obtain⟨o,j,u,t,D,C⟩:=(Cal.gO y m d).1 h;have A:=Cal.nU y m;have f:=aB.ot y 4 UU UU;have c:=aB.ot m 2 UU UU;have a:=aB.ot d 2 UU UU;have z:(⟨#[45]⟩:U4).size=1:=UW
 unfold wI;simp only[ZN];omega
theorem Ms(n:U9)(h:0<=n)(f:n<1440):(wU n).size<=19:=by
 have c:=aB.ot (n / 60) 2 UU UU;have a:=aB.ot (n % 60) 2 UU UU;have j:(⟨#[58]⟩:U4).size=1:=UW
 unfold wU;simp only[ZN];omega
theorem MZ(n:U9)(c:-738885<=n)(a:n<=2913173):(Ax n).size<=40:=MY _ _ _ (Cal.tC n c a).1
def qq(k:U8):U4:=⟨(eK k).toArray⟩
def iR(acc:U5 U9):U8->U4
 |0=>⟨#[]⟩
 |k+1=>if aI acc k then iR acc k++⟨#[44]⟩++qq k else iR acc k
def yY(acc:U5 U9):U4:=(iR acc 7).extract 1 (iR acc 7).size
theorem zZ(k:U8):(qq k).size=2:=by
 unfold qq eK;split <;> rfl
theorem Ak(acc:U5 U9):∀ k:U8,(iR acc k).size<=3*k
 |0=>zq _
 |k+1=>by
  have ih:=Ak acc k;have n:=zZ k;have a:(⟨#[44]⟩:U4).size=1:=UW
  unfold iR
  split
  ·simp only[ZN];omega
  ·omega
theorem EW(acc:U5 U9)(d:U8)(h:aI acc d=Vg):∀ k:U8,d<k->1<=(iR acc k).size
 |0,hk=>by omega
 |k+1,hk=>by
  have n:=zZ k;unfold iR
  by_cases e:d=k
  ·subst e;rw[Vb h];simp only[ZN];omega
  ·have:=EW acc d h k UU
   split
   ·simp only[ZN];omega
   ·exact this
theorem M0{d:U9}{r:U5 U9}(h:aB.jM acc d=Ve r)(a:d<=6):∃ x:U8,x<7/\aI r x=Vg:=by
 unfold aB.jM at h
 split at h
 ·rename_i hc
  cases h
  exact⟨d.toNat,by omega,by simp[aI,show ((d.toNat:U8):U9)=d from by omega]⟩
 ·cases h
theorem Ef:∀ (l:U5 UInt8)(acc r:U5 U9),aB.iz l acc=Ve r->∃ x:U8,x<7/\aI r x=Vg
 |[],_,_,h=>by simp[aB.iz] at h
 |[_],_,_,h=>by simp[aB.iz] at h
 |[a,b],acc,r,h=>M0 (acc:=acc) (d:=aB.dC [a,b]) h (aB.xq [a,b]).2
 |a :: b :: c :: l,acc,r,h=>by
  unfold aB.iz at h
  split at h
  ·simp only[Option.bind_eq_some_iff] at h;obtain⟨x,_,h⟩:=h;exact Ef l x r h
  ·cases h
theorem Le{s:U4}(h:aB.iq s=Ve acc):1<=(iR acc 7).size:=by
 obtain⟨x,a,c⟩:=Ef _ _ _ h;exact EW acc x c 7 a
def qg(w:U4):U4:=match aB.iq w with|some acc=>yY acc|none=>⟨#[]⟩
def gF(sym w:U4):U4 :=
 if sym.toList==[85,78,73,84,83] then aB.gi (bF w 1 7) else
 if sym.toList==[77,73,78,85,84,69,83] then aB.gi (bF w 1 7) else
 if sym.toList==[69,86,69,82,89] then aB.gi (bF w 1 7) else
 if sym.toList==[73,68] then aB.gi (bF w 1 7) else
 if sym.toList==[84,73,77,69] then sg (cZ w) else
 if sym.toList==[79,78] then qg w else w
theorem DE(w:U4):-1<=bF w 1 7/\bF w 1 7<=9999999:=by
 rw[uW];have:=aB.lf w.data.toList
 split <;> omega
theorem DI(w:U4):-1<=cZ w/\cZ w<=1048320:=by
 unfold cZ
 split
 ·rename_i h
  unfold bB at h;simp only[W7,decide_eq_true_eq] at h;omega
 ·omega
theorem zJ(n:U9)(w:Vh)(j:-738885<=n)(f:n<=2913173):
  Vk prog 73 #[.int .i64 n] w fun e w'=>e=.returned (.tuple #[.int .i64 (Cal.yT n),.int .i64 (Cal.mT n),.int .i64 (Cal.dT n),.int .i64 0])/\w'=w:=by
 refine (Nc n w UU UU).mono ?_;rintro e w' ⟨⟨h,_⟩|⟨_,y,m,d,rfl,c,a⟩,rfl⟩
 ·omega
 ·obtain⟨rfl,rfl,rfl⟩:=Cal.AM y m d n c a;exact⟨rfl,rfl⟩
theorem Mw(t:U9):aB.kK (Cal.yT (t / 1440)) 4++⟨#[45]⟩++aB.kK (Cal.mT (t / 1440)) 2++⟨#[45]⟩++aB.kK (Cal.dT (t / 1440)) 2++⟨#[47]⟩++aB.kK (t % 1440 / 60) 2++⟨#[58]⟩++aB.kK (t % 60) 2=sg t:=by
 unfold sg Ax wI wU;rw[show t % 1440 % 60=t % 60 from by omega];simp only[L6]
theorem xe(sym w:U4)(W:Vh)(j:Env W)(o:w.size<=160)
  (t:(sym.toList==[85,78,73,84,83])=Vg\/((sym.toList==[85,78,73,84,83])=Vf/\(sym.toList==[77,73,78,85,84,69,83])=Vg)\/((sym.toList==[85,78,73,84,83])=Vf/\(sym.toList==[77,73,78,85,84,69,83])=Vf/\(sym.toList==[69,86,69,82,89])=Vg)\/((sym.toList==[85,78,73,84,83])=Vf/\(sym.toList==[77,73,78,85,84,69,83])=Vf/\(sym.toList==[69,86,69,82,89])=Vf/\(sym.toList==[73,68])=Vg)):
  Vk prog 79 #[.string sym,.string w] W fun e w'=>e=.returned (.string (aB.gi (bF w 1 7)))/\Vj W.heap.size W w':=by
 have y:=hide j;have z:=DE w;clear j;rcases t with h|⟨h,c1⟩|⟨h,c1,u⟩|⟨h,c1,u,A⟩
 all_goals
  go_in
  go_wp2_with fail
  refine (eP w 1 7 W o UU UU).mono ?_;rintro e w1 ⟨rfl,a⟩
  go_wp2_with fail
  refine (FL _ w1 ((aJ y).later a) UU UU).mono ?_;rintro e w2 ⟨rfl,f⟩;have c:=a.trans (f.mono a.size);go_wp2;go_ret;exact⟨rfl,c⟩
theorem Nv(sym w:U4)(W:Vh)
  (j:(sym.toList==[85,78,73,84,83])=Vf) (c1:(sym.toList==[77,73,78,85,84,69,83])=Vf) (h:(sym.toList==[69,86,69,82,89])=Vf) (f:(sym.toList==[73,68])=Vf) (c:(sym.toList==[84,73,77,69])=Vf) (a:(sym.toList==[79,78])=Vf):
  Vk prog 79 #[.string sym,.string w] W fun e w'=>e=.returned (.string w)/\w'=W:=by
 go_in
 go_wp2;go_ret;exact⟨rfl,rfl⟩
theorem Nt(sym w:U4)(W:Vh)(F:Env W)(S:w.size<=160)(ht:0<=cZ w)
  (c0:(sym.toList==[85,78,73,84,83])=Vf) (c1:(sym.toList==[77,73,78,85,84,69,83])=Vf) (c2:(sym.toList==[69,86,69,82,89])=Vf) (c3:(sym.toList==[73,68])=Vf) (c4:(sym.toList==[84,73,77,69])=Vg):
  Vk prog 79 #[.string sym,.string w] W fun e w'=>e=.returned (.string (sg (cZ w)))/\Vj W.heap.size W w':=by
 have U:=hide F;have O:=DI w;have N:=hide (Mw (cZ w));obtain⟨t,a⟩:∃ t,t=cZ w:=⟨_,rfl⟩;rw[<- a] at ht O N ⊢;have y:=hide a;clear F a;have ⟨hok,_⟩:=Cal.tC (t / 1440) UU UU;obtain⟨y1,y2,m1,m2,d1,d2⟩:=(Cal.gO _ _ _).1 hok;have db:=Cal.nU (Cal.yT (t / 1440)) (Cal.mT (t / 1440));have z1:=aB.ot (Cal.yT (t / 1440)) 4 UU UU;have Z:=aB.ot (Cal.mT (t / 1440)) 2 UU UU;have Y:=aB.ot (Cal.dT (t / 1440)) 2 UU UU;have X:=aB.ot (t % 1440 / 60) 2 UU UU;have V:=aB.ot (t % 60) 2 UU UU;clear hok
 go_in
 go_wp2_with fail
 refine (qv w W S).mono ?_;rintro e w1 ⟨rfl,c⟩;rw[<- aJ y]
 go_wp2_with fail
 refine (zJ (t / 1440) w1 UU UU).mono ?_;rintro e w2 ⟨rfl,rfl⟩;have M:=hide ((aJ U).later c)
 go_wp2_with fail
 refine (uC _ 4 _ (aJ M) UU UU UU).mono ?_;rintro e w3 ⟨rfl,o⟩;have J:=hide ((aJ M).later o)
 go_wp2_with fail
 refine (uC _ 2 _ (aJ J) UU UU UU).mono ?_;rintro e w4 ⟨rfl,j⟩;have I:=hide ((aJ J).later j)
 go_wp2_with fail
 refine (uC _ 2 _ (aJ I) UU UU UU).mono ?_;rintro e w5 ⟨rfl,h⟩;have G:=hide ((aJ I).later h)
 go_wp2_with fail
 refine (uC _ 2 _ (aJ G) UU UU UU).mono ?_;rintro e w6 ⟨rfl,f⟩;have T:=hide ((aJ G).later f)
 go_wp2_with fail
 refine (uC _ 2 _ (aJ T) UU UU UU).mono ?_;rintro e w7 ⟨rfl,u⟩;have D:=c.trans (o.mono c.size);have C:=D.trans (j.mono D.size);have A:=C.trans (h.mono C.size);have z:=A.trans (f.mono A.size);have P:=z.trans (u.mono z.size);go_wp2;go_ret;exact⟨zI (aJ N),P⟩
theorem LO(k:U8)(h:k<7):[Y0 ⟨#[109,111]⟩,Y0 ⟨#[116,117]⟩,Y0 ⟨#[119,101]⟩,Y0 ⟨#[116,104]⟩,Y0 ⟨#[102,114]⟩,Y0 ⟨#[115,97]⟩,Y0 ⟨#[115,117]⟩][k]?=Ve (.string (qq k)):=by
 rcases (show k=0\/k=1\/k=2\/k=3\/k=4\/k=5\/k=6 by omega) with rfl|rfl|rfl|rfl|rfl|rfl|rfl <;> rfl
theorem DS.nat{b:U8}(h:DS w b acc)(k:U8)(a:k<7):w.cell? ⟨b,k,Vd⟩=Ve (.bool (aI acc k)):=by
 have:=h.at k UU UU
 simpa using this
theorem M4(sym w:U4)(W:Vh)(N:w.size<=160)(O:aB.dU w=Vg)
  (c0:(sym.toList==[85,78,73,84,83])=Vf) (c1:(sym.toList==[77,73,78,85,84,69,83])=Vf) (c2:(sym.toList==[69,86,69,82,89])=Vf) (c3:(sym.toList==[73,68])=Vf) (c4:(sym.toList==[84,73,77,69])=Vf) (c5:(sym.toList==[79,78])=Vg):
  Vk prog 79 #[.string sym,.string w] W fun e w'=>e=.returned (.string (qg w))/\Vj W.heap.size W w':=by
 go_in
 go_wp2_with fail
 refine (zw w W N).mono ?_;rintro e w1 ⟨⟨acc,rfl,h⟩,u⟩;have G:=hide (h O);have U:=hide (Le (aJ G));have T:Hid (qg w=yY acc):=by show qg w=_;unfold qg;rw[aJ G]
 clear h;unfold e9;go_wp2;obtain⟨X,y⟩:∃ X,X=w1.alloc (.cells #[.bool (aI acc 0),.bool (aI acc 1),.bool (aI acc 2),.bool (aI acc 3),.bool (aI acc 4),.bool (aI acc 5),.bool (aI acc 6)] 159):=⟨_,rfl⟩;rw[<- y];have C:Vj W.heap.size W X:=by rw[y];exact u.alloc u.size _
 have S:DS X w1.heap.size acc:=by
  rw[y];refine⟨?_,?_,?_,?_,?_,?_,?_,fun j=>?_⟩ <;> simp
 have M:w1.heap.size+1=X.heap.size:=by rw[y];simp
 clear y
 go_loopw [12,13] (fun o i wx=>∃ k:U8,k<=7/\i=.int .i64 k/\o=.string (iR acc k)/\DS wx w1.heap.size acc/\Vj W.heap.size W wx) (fun _ i _=>7-(intOf i).toNat)
 case atStart=>exact⟨0,by omega,rfl,rfl,S,C⟩
 case round =>
  obtain⟨k,Z,rfl,rfl,D,f⟩:=hrel;have V:=Ak acc k
  by_cases c:k<7
  ·have hi:(k:U9)<7:=UU
   have P:(0:U9)<=(k:U9):=Y6 _;have F:=D.nat k c;have Y:([Y0 ⟨#[109,111]⟩,Y0 ⟨#[116,117]⟩,Y0 ⟨#[119,101]⟩,Y0 ⟨#[116,104]⟩,Y0 ⟨#[102,114]⟩,Y0 ⟨#[115,97]⟩,Y0 ⟨#[115,117]⟩][k]'c)=.string (qq k):=WY ((Xb c).symm.trans (LO k c));have J:=zZ k;have I:(qq k).size<=2:=UU
   clear J;have a:iR acc (k+1)=if aI acc k then iR acc k++⟨#[44]⟩++qq k else iR acc k:=rfl
   have z:=hide a;clear a
   cases A:aI acc k
   ·rw[A] at F;have t:Hid (iR acc (k+1)=iR acc k):=(aJ z).trans (by rw[A];rfl);go_wp2;exact⟨⟨k+1,by omega,by go_num,by rw[t.out],D,f⟩,by simp[intOf];omega⟩
   ·rw[A] at F;have t:Hid (iR acc (k+1)=iR acc k++⟨#[44]⟩++qq k):=(aJ z).trans (by rw[A];rfl);go_wp2;exact⟨⟨k+1,by omega,by go_num,by rw[t.out],D.later ((zr _ _).alloc (zq _) _),f.alloc f.size _⟩,by simp[intOf];omega⟩
  ·obtain rfl:k=7:=UU
   have h1:(1:U9)<=((iR acc 7).size:U9):=by have:=aJ U;omega
   go_wp2;go_ret;exact⟨zI (by rw[T.out];rfl),f⟩
theorem Ll{w:U4}(j:(sym.toList==[85,78,73,84,83])=Vf)(c1:(sym.toList==[77,73,78,85,84,69,83])=Vf)(h:(sym.toList==[69,86,69,82,89])=Vf)(f:(sym.toList==[73,68])=Vf)(c:(sym.toList==[84,73,77,69])=Vf)(a:(sym.toList==[79,78])=Vf):gF sym w=w:=by
 simp[gF,j,c1,h,f,c,a]
theorem Eb{w:U4}(h:(sym.toList==[84,73,77,69])=Vg)(a:aV sym w=Vg):0<=cZ w:=by
 have e:=beq_iff_eq.1 h;unfold aV at a;rw[e] at a
 simpa using a
theorem KM{w:U4}(h:(sym.toList==[79,78])=Vg)(a:aV sym w=Vg):aB.dU w=Vg:=by
 have e:=beq_iff_eq.1 h;unfold aV at a;rw[e] at a
 simpa using a
theorem Fe(sym w:U4)(W:Vh)(o:Env W)(j:w.size<=160)(u:aV sym w=Vg):
  Vk prog 79 #[.string sym,.string w] W fun e w'=>e=.returned (.string (gF sym w))/\Vj W.heap.size W w':=by
 cases a:(sym.toList==[85,78,73,84,83])
 case true =>
  rw[show gF sym w=aB.gi (bF w 1 7) from by simp[gF,a]];exact xe sym w W o j (.inl a)
 cases c1:(sym.toList==[77,73,78,85,84,69,83])
 case true =>
  rw[show gF sym w=aB.gi (bF w 1 7) from by simp[gF,a,c1]];exact xe sym w W o j (.inr (.inl ⟨a,c1⟩))
 cases c:(sym.toList==[69,86,69,82,89])
 case true =>
  rw[show gF sym w=aB.gi (bF w 1 7) from by simp[gF,a,c1,c]];exact xe sym w W o j (.inr (.inr (.inl ⟨a,c1,c⟩)))
 cases f:(sym.toList==[73,68])
 case true =>
  rw[show gF sym w=aB.gi (bF w 1 7) from by simp[gF,a,c1,c,f]];exact xe sym w W o j (.inr (.inr (.inr ⟨a,c1,c,f⟩)))
 cases h:(sym.toList==[84,73,77,69])
 case true =>
  rw[show gF sym w=sg (cZ w) from by simp[gF,a,c1,c,f,h]];exact Nt sym w W o j (Eb h u) a c1 c f h
 cases t:(sym.toList==[79,78])
 case true =>
  rw[show gF sym w=qg w from by simp[gF,a,c1,c,f,h,t]];exact M4 sym w W j (KM t u) a c1 c f h t
 rw[Ll a c1 c f h t];refine (Nv sym w W a c1 c f h t).mono ?_;rintro e w' ⟨rfl,rfl⟩;exact⟨rfl,Below.refl _ _⟩
open aA (aL)
structure NV(w:Vh)(v:Vi)(l:U5 U9):Prop where
 form:∃ a cap,v=.slice a l.length cap
 cell:∀ (k:U8) (hk:k<l.length),∃ g cap,v=.slice (Ve ⟨g,0,Vd⟩) l.length cap/\w.cell? ⟨g,k,Vd⟩=Ve (.int .i64 l[k])
theorem NV.later{l:U5 U9}(h:NV w v l)(k:Vj w.heap.size w w'):NV w' v l :=
 ⟨h.form,fun i c=>by
  obtain⟨g,cap,e,a⟩:=h.cell i c
  exact⟨g,cap,e,aN k a⟩⟩
structure SV(w:Vh)(v:Vi)(L:U5 (U9 × U9)):Prop where
 form:∃ a cap,v=.slice a L.length cap
 cell:∀ (k:U8) (hk:k<L.length),∃ g cap,v=.slice (Ve ⟨g,0,Vd⟩) L.length cap/\w.cell? ⟨g,k*2,Vd⟩=Ve (.int .i64 L[k].1)/\w.cell? ⟨g,k*2+1,Vd⟩=Ve (.int .i64 L[k].2)
theorem SV.later(h:SV w v L)(k:Vj w.heap.size w w'):SV w' v L :=
 ⟨h.form,fun i c=>by
  obtain⟨g,cap,e,a,b⟩:=h.cell i c
  exact⟨g,cap,e,aN k a,aN k b⟩⟩
structure EV(w:Vh)(v:Vi)(l:U5 (aL × Vi)):Prop where
 form:∃ a cap,v=.slice a l.length cap
 cell:∀ (k:U8) (hk:k<l.length),∃ g cap,v=.slice (Ve ⟨g,0,Vd⟩) l.length cap/\w.cell? ⟨g,k*6,Vd⟩=Ve (.int .i64 l[k].1.id)/\w.cell? ⟨g,k*6+1,Vd⟩=Ve (.int .i64 l[k].1.kind)/\w.cell? ⟨g,k*6+2,Vd⟩=Ve (.string l[k].1.aT)/\w.cell? ⟨g,k*6+3,Vd⟩=Ve (.int .i64 l[k].1.aH)/\w.cell? ⟨g,k*6+4,Vd⟩=Ve l[k].2/\w.cell? ⟨g,k*6+5,Vd⟩=Ve (.int .i64 l[k].1.bY)
 sp:∀ p∈l,SV w p.2 p.1.aK
theorem EV.later(h:EV w v l)(k:Vj w.heap.size w w'):EV w' v l :=
 ⟨h.form,fun i c=>by
  obtain⟨g,cap,e,u,a1,t,o,j,f⟩:=h.cell i c
  exact⟨g,cap,e,aN k u,aN k a1,aN k t,aN k o,aN k j,aN k f⟩,fun p a=>(h.sp p a).later k⟩
namespace aA
theorem Hd{a b:U9}{x:aL}:∀ l:U5 aL,(nR a b x l).Perm (x :: l)
 |[]=>by simp[nR]
 |y :: r=>by
  simp only[nR]
  split
  ·exact ZU _
  ·exact ((Hd r).cons y).trans (List.Perm.swap x y r)
theorem JC{a b:U9}:∀ l:U5 aL,(qL a b l).Perm l
 |[]=>ZU _
 |x :: r=>(Hd _).trans ((JC r).cons x)
end aA
open aA (aL cP hasB)
theorem SV.own{B:U8}(h:w.ownsRow B 60 2 v L.length (L.flatMap fC)):SV w v L:=by
 refine⟨iy h,fun k c=>?_⟩;obtain⟨g,cap,e⟩:=Yq h UU;subst e;obtain⟨j,f⟩:=H8 k c;have o:=IF L;have a:=h.cellAt (k*2) UU;have a1:=h.cellAt (k*2+1) UU;rw[j] at a;rw[f] at a1;exact⟨g,cap,rfl,a,a1⟩
theorem EV.own{B:U8}(h:w.ownsRow B 58 6 v l.length (l.flatMap ef))(sp:∀ p∈l,SV w p.2 p.1.aK):EV w v l:=by
 refine⟨iy h,fun k c=>?_,sp⟩;obtain⟨g,cap,e⟩:=Yq h UU;subst e
 have at_:∀ j,j<6->w.cell? ⟨g,k*6+j,Vd⟩=(ef l[k])[j]?:=fun j f=>by
  have a:=h.cellAt (k*6+j) UU;rw[qW c f] at a;exact a
 exact⟨g,cap,rfl,at_ 0 UU,at_ 1 UU,at_ 2 UU,at_ 3 UU,at_ 4 UU,at_ 5 UU⟩
namespace aA
end aA
namespace aA
end aA
namespace aA
end aA
open aA (aL St dB kept dZ cS cN gD cA bW gJ ec gy nk Inv bJ kT ig bO)
def iO(p ws:U5 U4):U8->U4
 |0=>⟨#[]⟩
 |k+1=>(if 0<k then iO p ws k++⟨#[32]⟩ else iO p ws k)++gF (p.getD k ⟨#[]⟩) (ws.getD k ⟨#[]⟩)
theorem MX(n:U9)(a:-1<=n)(h:n<=9999999):(aB.gi n).size<=160:=by
 by_cases e:n=-1
 ·subst e;decide +kernel
 ·have:=aB.CU n UU h;omega
theorem M6(t:U9)(h:0<=t)(f:t<=1048320):(sg t).size<=160:=by
 have c:=MZ (t / 1440) UU UU;have a:=Ms (t % 1440) UU UU;have j:(⟨#[47]⟩:U4).size=1:=UW
 unfold sg;simp only[ZN];omega
theorem Mi(w:U4):(qg w).size<=160:=by
 unfold qg
 split
 ·rename_i acc _
  have:=Ak acc 7;have e:(yY acc).size=min (iR acc 7).size (iR acc 7).size-1:=ByteArray.size_extract ..;omega
 ·exact zN _
theorem DU(sym w:U4)(f:w.size<=160)(j:aV sym w=Vg):(gF sym w).size<=160:=by
 have c:=DE w;have a:=MX (bF w 1 7) c.1 c.2;unfold gF
 split
 ·exact a
 ·split
  ·exact a
  ·split
   ·exact a
   ·split
    ·exact a
    ·split
     ·rename_i h;exact M6 _ (Eb h j) (DI w).2
     ·split
      ·exact Mi w
      ·exact f
theorem EK:∀ (ps:U5 (U5 U4))(ws:U5 U4)(m:U8)(p:U5 U4),scan ps ws m=(Ve p,0)->pre p ws=p.length/\pre p ws=ws.length
 |[],_,_,_,h=>by simp[scan] at h
 |q :: ps,ws,m,p,h=>by
  unfold scan at h
  split at h
  ·rename_i hc;simp at h;subst h;exact hc
  ·exact EK ps ws _ p h
theorem Es(p ws:U5 U4)(f:pre p ws=p.length)(a:pre p ws=ws.length)(c:∀ x∈ws,x.size<=160):∀ k:U8,k<=ws.length->(iO p ws k).size<=161*k
 |0,_=>zq _
 |k+1,hk=>by
  have ih:=Es p ws f a c k UU;have h:=wQ p ws k UU UU UU;have o:p.getD k ⟨#[]⟩=p[k]'UU:=by simp[Ws,show k<p.length by omega]
  have j:ws.getD k ⟨#[]⟩=ws[k]'UU:=by simp[Ws,show k<ws.length by omega]
  have z:=DU (p[k]'UU) (ws[k]'UU) (c _ (zg UU)) h;have t:(⟨#[32]⟩:U4).size=1:=UW
  unfold iO;rw[o,j]
  split
  ·simp only[ZN];omega
  ·simp only[ZN];omega
def PR(s:U4)(e:Ending):Prop :=
 (160<s.size/\e=.returned (.tuple #[.string ⟨#[]⟩,.int .i64 1,.int .i64 0])) \/
 (s.size<=160/\((∃ p,jk s=(Ve p,0)/\e=.returned (.tuple #[.string (iO p (aB.aP s) (aB.aP s).length),.int .i64 0,.int .i64 0])) \/
  (∃ m:U8,jk s=(Vd,m)/\e=.returned (.tuple #[.string ⟨#[]⟩,.int .i64 2,.int .i64 m]))))
theorem Fg(s:U4)(w:Vh)(c:160<s.size):
  Vk prog 78 #[.string s] w fun e w'=>e=.returned (.tuple #[.slice Vd 0 0,.slice Vd 0 0,.int .i64 1,.int .i64 0])/\w'=w:=by
 have a:(160:U9)<(s.size:U9):=UU
 go_in
 go_wp2
 (try simp only[WG,Exit.then]);refine bodyPost_ret (pD rfl _ _ _) rfl ?_
 exact⟨rfl,rfl⟩
theorem Nq(s:U4)(w:Vh)(he:Env w):
  Vk prog 55 #[.string s] w fun e w'=>PR s e/\Vj w.heap.size w w':=by
 by_cases X:s.size<=160
 ·have HE:=hide he;clear he
  go_in
  go_wp2_with fail
  refine (Av s w X).mono ?_;rintro e w1 ⟨hr,P⟩;rcases hr with ⟨p,a,b,c,d,g,h,t,rfl,ra,rb⟩|⟨m,t,rfl⟩
  ·have ⟨l1,l2⟩:=EK _ _ _ _ t;have M:=hide t;have ab:=As s;have Y:∀ x∈aB.aP s,x.size<=160:=fun x hx=>Vq (xG s x hx) X
   have aa:=hide (Es p (aB.aP s) l1 l2 Y);have HW:=hide Y;have L1:=hide l1;have L2:=hide l2;have Z:=hide (wQ p (aB.aP s));clear t Y l1 l2;go_wp2
   go_loopw [9,10,11] (fun o i _ wx=>∃ k:U8,k<=(aB.aP s).length/\i=.int .i64 k/\o=.string (iO p (aB.aP s) k)/\Row wx a g (aB.aP s)/\Row wx b h p/\Vj w.heap.size w wx) (fun _ i _ _=>(aB.aP s).length-(intOf i).toNat)
   case atStart=>exact⟨0,Wh _,rfl,rfl,ra,rb,P⟩
   case round =>
    obtain⟨k,hk,rfl,rfl,A,z,u⟩:=hrel;clear ra rb;have oz:=aJ aa k hk
    by_cases C:k<(aB.aP s).length
    ·have I:k<p.length:=by have:=aJ L1;have:=aJ L2;omega
     obtain rfl:=A.at_ UU;obtain rfl:=z.at_ UU;have k1:=z.cells k I;have k2:=A.cells k C;have j1:(k:U9)<(p.length:U9):=UU
     have j2:(k:U9)<((aB.aP s).length:U9):=UU
     have j0:(0:U9)<=(k:U9):=Y6 _;have G:(aB.aP s)[k].size<=160:=aJ HW _ (zg C);have J:aV p[k] (aB.aP s)[k]=Vg:=aJ Z k I C (by have:=aJ L2;omega);have U:=hide G;have V:=hide J;have wz:=DU _ _ G J
     have T:Hid (iO p (aB.aP s) (k+1)=(if 0<k then iO p (aB.aP s) k++⟨#[32]⟩ else iO p (aB.aP s) k)++gF p[k] (aB.aP s)[k]):=by
      show iO p (aB.aP s) (k+1)=_;rw[iO,show p.getD k ⟨#[]⟩=p[k] from by simp[Ws,I],show (aB.aP s).getD k ⟨#[]⟩=(aB.aP s)[k] from by simp[Ws,C]]
     clear G J;have S:=hide ((aJ HE).later u)
     by_cases O:0<k
     ·have j3:(0:U9)<(k:U9):=UU
      have N:Hid (iO p (aB.aP s) (k+1)=iO p (aB.aP s) k++⟨#[32]⟩++gF p[k] (aB.aP s)[k]):=T.out.trans (by rw[Vb O])
      go_wp2_with fail
      go_region_held3 (fun w'=>w'.cell? ⟨h,k,Vd⟩=Ve (.string p[k])/\w'.cell? ⟨g,k,Vd⟩=Ve (.string (aB.aP s)[k]))
       (first
        |go_keep
        |(
         go_split_ands
         refine⟨?_,?_⟩
         ·exact cell_later f UX
         ·exact cell_later f UX))
       ((go_at_call 79;refine (Fe _ _ _ ?_ (aJ U) (aJ V)).mono ?_;exact (aJ S).later ⟨rfl,rfl,rfl,Vn _,fun _ _=>rfl⟩;rintro e w4 ⟨rfl,f⟩))
      have j:Vj wr.heap.size wr w4:=⟨f.os,f.tape,f.output,f.size,f.block⟩;have y:=u.trans (j.mono u.size);have F:=A.later j;have D:=z.later j;go_wp2;exact⟨⟨k+1,by omega,by go_num,by rw[N.out],F,D,y⟩,by simp[intOf];omega⟩
     ·have j3:¬ (0:U9)<(k:U9):=UU
      have N:Hid (iO p (aB.aP s) (k+1)=iO p (aB.aP s) k++gF p[k] (aB.aP s)[k]):=T.out.trans (by rw[Va O])
      go_wp2_with fail
      go_region_held3 (fun w'=>w'.cell? ⟨h,k,Vd⟩=Ve (.string p[k])/\w'.cell? ⟨g,k,Vd⟩=Ve (.string (aB.aP s)[k]))
       (first
        |go_keep
        |(
         go_split_ands
         refine⟨?_,?_⟩
         ·exact cell_later f UX
         ·exact cell_later f UX))
       ((go_at_call 79;refine (Fe _ _ _ ?_ (aJ U) (aJ V)).mono ?_;exact (aJ S).later ⟨rfl,rfl,rfl,Vn _,fun _ _=>rfl⟩;rintro e w4 ⟨rfl,f⟩))
      have j:Vj wr.heap.size wr w4:=⟨f.os,f.tape,f.output,f.size,f.block⟩;have y:=u.trans (j.mono u.size);have F:=A.later j;have D:=z.later j;go_wp2;exact⟨⟨k+1,by omega,by go_num,by rw[N.out],F,D,y⟩,by simp[intOf];omega⟩
    ·obtain rfl:k=(aB.aP s).length:=UU
     go_wp2;go_ret3;exact⟨.inr ⟨X,.inl ⟨p,aJ M,rfl⟩⟩,u⟩
  ·have M:=hide t;clear t;go_wp2;go_ret3;exact⟨.inr ⟨X,.inr ⟨m,aJ M,rfl⟩⟩,P⟩
 ·go_in
  go_wp2_with fail
  refine (Fg s w UU).mono ?_;rintro e w1 ⟨rfl,rfl⟩;go_wp2;go_ret3;exact⟨.inl ⟨by omega,rfl⟩,Below.refl _ _⟩
theorem kG(ws:U5 U4)(P Q:U5 (U4->U7))(st:U8 × U7):aQ ws (P++Q) st=aQ ws Q (aQ ws P st):=XJ ..
theorem Lb(ws:U5 U4)(B:U4->U7)(n:U8):dI ws B (n,Vg)=(n,Vg):=by simp[dI,ek,ei,eA,cB]
theorem qt(ws:U5 U4):∀ (a:U5 (U4->U7))(n:U8),aQ ws a (n,Vg)=(n,Vg)
 |[],_=>rfl
 |B :: a,n=>by
  show aQ ws a (dI ws B (n,Vg))=_;rw[Lb,qt ws a n]
theorem wK(h:eA ws n Vf B=Vf):dI ws B (n,Vf)=(n,Vg):=by
 simp only[dI,ek,ei,h,if_false,Vx]
theorem Lj(h:¬ n<ws.length):eA ws n Vf B=Vf:=by simp[eA,cB,h]
theorem Du(h:B (ws.getD n YN)=Vf):eA ws n Vf B=Vf:=by simp only[eA,h,Bool.and_false]
theorem mC(h:eA ws n wr B=Vg):wr=Vf/\n<ws.length/\B (ws.getD n YN)=Vg:=by
 unfold eA cB at h;simp only[W7,ZK,decide_eq_true_eq] at h;exact⟨h.1.1,h.1.2,h.2⟩
theorem Ek(ws:U5 U4):∀ (p:U5 U4)(n:U8),n<=ws.length->aQ ws (p.map aV) (n,Vf)=(n+pre p (ws.drop n),decide (pre p (ws.drop n)≠p.length))
 |[],n,_=>by simp[pre,aQ]
 |s :: p,n,hn=>by
  show aQ ws (p.map aV) (dI ws (aV s) (n,Vf))=_
  by_cases a:n<ws.length
  ·have h:ws.drop n=ws[n] :: ws.drop (n+1):=WQ a;have f:ws.getD n YN=ws[n]:=pJ ws n a
   cases c:aV s ws[n]
   ·rw[wK (Du (by rw[f];exact c)),qt,h,pre,c];simp
   ·rw[FB a (by rw[f];exact c),Ek ws p (n+1) a,h,pre,c];simp only[if_true];refine Prod.ext ?_ ?_
    ·show n+1+_=n+(_+1);omega
    ·simp
  ·rw[wK (Lj a),qt,ZT UU];simp[pre]
theorem zv(ws p:U5 U4):aQ ws (p.map aV) (0,Vf)=(pre p ws,decide (pre p ws≠p.length)):=by
 have:=Ek ws p 0 (zN _)
 simpa using this
theorem nJ(h:aQ ws (p.map aV) (0,Vf)=(n,b)):pre p ws=n:=by
 rw[zv] at h;exact (ZV h).1
theorem qk(h:aQ ws (p.map aV) (0,Vf)=(n,Vf)):n=p.length:=by
 rw[zv] at h;obtain⟨c,a⟩:=ZV h;rw[c] at a
 by_cases e:n=p.length
 ·exact e
 ·simp[e] at a
theorem uF(h:aQ ws (p.map aV) (0,Vf)=(n,Vg)):n<p.length:=by
 have c:=(rV p ws).1;rw[zv] at h;obtain⟨f,a⟩:=ZV h;rw[f] at a c
 by_cases e:n=p.length
 ·simp[e] at a
 ·omega
theorem Ds(R:U5 U4)(h:aQ ws (Q.map aV) (0,Vf)=(n,Vg)):pre (Q++R) ws=n:=by
 apply nJ (b:=Vg);rw[Wr,kG,h,qt]
theorem De{s:U4}(R:U5 U4)(h:aQ ws (Q.map aV) (0,Vf)=(n,Vf))(a:eA ws n Vf (aV s)=Vf):pre (Q++s :: R) ws=n:=by
 apply nJ (b:=Vg);rw[Wr,kG,h];show aQ ws (R.map aV) (dI ws (aV s) (n,Vf))=_;rw[wK a,qt]
theorem zE(h:aQ ws ((Q++R).map aV) (0,Vf)=(n,Vf)):aQ ws (Q.map aV) (0,Vf)=(Q.length,Vf):=by
 rw[Wr,kG] at h;obtain⟨m,b,a⟩:∃ m b,aQ ws (Q.map aV) (0,Vf)=(m,b):=⟨_,_,rfl⟩
 cases b
 ·rw[a,qk a]
 ·rw[a,qt] at h;cases h
theorem uK{s:U4}(h:aQ ws ((Q++s :: R).map aV) (0,Vf)=(n,Vf)):eA ws Q.length Vf (aV s)=Vg:=by
 have a:=zE h;rw[Wr,kG,a] at h
 cases ht:eA ws Q.length Vf (aV s)
 ·have:aQ ws (R.map aV) (dI ws (aV s) (Q.length,Vf))=(n,Vf):=h;rw[wK ht,qt] at this
  cases this
 ·rfl
structure Sum(ps:U5 (U5 U4))(ws:U5 U4)(st:U8 × U7)(q:U5 U4):Prop where
 mem:q∈ps
 le:∀ p∈ps,pre p ws<=st.1
 at_:pre q ws=st.1
 bad:st.2=Vg->∀ p∈ps,¬ (pre p ws=p.length/\pre p ws=ws.length)
 qn:st.2=Vf->pre q ws=q.length/\∀ p∈ps,p≠q->¬ (pre p ws=p.length/\pre p ws=ws.length)
theorem EJ:∀ (ps:U5 (U5 U4))(ws:U5 U4)(m M:U8),(∀ p∈ps,¬ (pre p ws=p.length/\pre p ws=ws.length))->(∀ p∈ps,pre p ws<=M)->m<=M->(m=M\/∃ p∈ps,pre p ws=M)->scan ps ws m=(Vd,M)
 |[],_,m,M,_,_,_,h=>by
  rcases h with rfl|⟨p,c,_⟩
  ·rfl
  ·simp at c
 |p :: ps,ws,m,M,h1,h2,h3,h4=>by
  have c:=h2 p (Ye ..);rw[scan,Va (h1 p (Ye ..))];refine EJ ps ws _ M (fun q a=>h1 q (WV _ a)) (fun q a=>h2 q (WV _ a)) (by split <;> omega) ?_;rcases h4 with rfl|⟨q,a,e⟩
  ·left;rw[Va UU]
  ·rcases VA.1 a with rfl|a
   ·left;split <;> omega
   ·exact .inr ⟨q,a,e⟩
theorem Eh:∀ (ps:U5 (U5 U4))(ws:U5 U4)(m:U8)(q:U5 U4),q∈ps->pre q ws=q.length/\pre q ws=ws.length->(∀ p∈ps,p≠q->¬ (pre p ws=p.length/\pre p ws=ws.length))->scan ps ws m=(Ve q,0)
 |[],_,_,_,h,_,_=>by simp at h
 |p :: ps,ws,m,q,h,hf,hn=>by
  rw[scan]
  by_cases e:p=q
  ·subst e;rw[Vb hf]
  ·rw[Va (hn p (Ye ..) e)];rcases VA.1 h with h|h
   ·exact Vc h.symm e
   ·exact Eh ps ws _ q h hf (fun r a=>hn r (WV _ a))
theorem Sum.yes(h:Sum ps ws st q)(a:st.2=Vf)(c:cB ws.length st.1 st.2=Vf):scan ps ws 0=(Ve q,0):=by
 obtain⟨j,f⟩:=h.qn a;have o:¬ st.1<ws.length:=by simpa[cB,a] using c
 have:=(rV q ws).2;have:=h.at_;exact Eh ps ws 0 q h.mem ⟨j,by omega⟩ f
theorem Sum.no(h:Sum ps ws st q)(a:st.2=Vg\/cB ws.length st.1 st.2=Vg):scan ps ws 0=(Vd,st.1):=by
 refine EJ ps ws 0 st.1 ?_ h.le (zN _) (.inr ⟨q,h.mem,h.at_⟩);rcases a with a|a
 ·exact h.bad a
 ·have f:=pP a;intro p c e;have:=h.le p c;omega
theorem E0(ws:U5 U4)(f:U5 U4->U7):∀ (ps:U5 (U5 U4))(m:U8),(∀ p∈ps,f p=Vf->pre p ws=0/\p≠[])->scan ps ws m=scan (ps.filter f) ws m
 |[],_,_=>rfl
 |p :: ps,m,h=>by
  have ih:=fun m=>E0 ws f ps m (fun q j=>h q (WV _ j))
  cases c:f p
  ·obtain⟨o,a⟩:=h p (Ye ..) c;rw[List.filter_cons_of_neg (by simp[c]),scan,o,Va,Va UU,ih];rintro ⟨e,_⟩;exact a (V9.1 e.symm)
  ·rw[List.filter_cons_of_pos c,scan,scan,ih]
def cD:U4:=⟨#[78,65,77,69]⟩
def eN:U4:=⟨#[85,78,73,84,83]⟩
def gj:U4:=⟨#[77,73,78,85,84,69,83]⟩
def hI:U4:=⟨#[69,86,69,82,89]⟩
def mv:U4:=⟨#[73,68]⟩
def bG:U4:=⟨#[84,73,77,69]⟩
def hH:U4:=⟨#[68,65,84,69]⟩
def jC:U4:=⟨#[77,73,78,85,84,69]⟩
def lk:U4:=⟨#[79,78]⟩
theorem Aj(w:U4)(a hi:U9)(h:0<=a):kc w a hi=eL w a hi:=by
 unfold kc eL;rw[uW]
 cases c:aB.isNum w.data.toList
 ·simp;omega
 ·simp
theorem gS:aV cD=bI:=by
 have a:(cD.toList==[78,65,77,69])=Vg:=UY
 funext w;unfold aV;rw[Vb a];rfl
theorem lN:aV eN=dE:=by
 have a:¬ (eN.toList==[78,65,77,69])=Vg:=UY
 have c1:(eN.toList==[85,78,73,84,83])=Vg:=UY
 funext w;unfold aV;rw[Va a,Vb c1];exact Aj w 1 9 UU
theorem ta:aV gj=eJ:=by
 have c:¬ (gj.toList==[78,65,77,69])=Vg:=UY
 have c1:¬ (gj.toList==[85,78,73,84,83])=Vg:=UY
 have a:(gj.toList==[77,73,78,85,84,69,83])=Vg:=UY
 funext w;unfold aV;rw[Va c,Va c1,Vb a];exact Aj w 1 1048320 UU
theorem qd:aV hI=eo:=by
 have f:¬ (hI.toList==[78,65,77,69])=Vg:=UY
 have c1:¬ (hI.toList==[85,78,73,84,83])=Vg:=UY
 have c:¬ (hI.toList==[77,73,78,85,84,69,83])=Vg:=UY
 have a:(hI.toList==[69,86,69,82,89])=Vg:=UY
 funext w;unfold aV;rw[Va f,Va c1,Va c,Vb a];exact Aj w 1 99 UU
theorem Di:aV mv=oi:=by
 have h:¬ (mv.toList==[78,65,77,69])=Vg:=UY
 have c1:¬ (mv.toList==[85,78,73,84,83])=Vg:=UY
 have f:¬ (mv.toList==[77,73,78,85,84,69,83])=Vg:=UY
 have c:¬ (mv.toList==[69,86,69,82,89])=Vg:=UY
 have a:(mv.toList==[73,68])=Vg:=UY
 funext w;unfold aV;rw[Va h,Va c1,Va f,Va c,Vb a,uW]
 have:=aB.lf w.data.toList;unfold oi
 cases j:aB.isNum w.data.toList
 ·simp
 ·simp;omega
theorem mS:aV bG=bB:=by
 have j:¬ (bG.toList==[78,65,77,69])=Vg:=UY
 have c1:¬ (bG.toList==[85,78,73,84,83])=Vg:=UY
 have h:¬ (bG.toList==[77,73,78,85,84,69,83])=Vg:=UY
 have f:¬ (bG.toList==[69,86,69,82,89])=Vg:=UY
 have c:¬ (bG.toList==[73,68])=Vg:=UY
 have a:(bG.toList==[84,73,77,69])=Vg:=UY
 funext w;unfold aV;rw[Va j,Va c1,Va h,Va f,Va c,Vb a]
 unfold cZ
 cases ht:bB w
 ·simp
 ·unfold bB at ht;simp only[W7,decide_eq_true_eq] at ht;simp;omega
theorem wu:aV hH=aB.cM:=by
 have z:¬ (hH.toList==[78,65,77,69])=Vg:=UY
 have c1:¬ (hH.toList==[85,78,73,84,83])=Vg:=UY
 have y:¬ (hH.toList==[77,73,78,85,84,69,83])=Vg:=UY
 have u:¬ (hH.toList==[69,86,69,82,89])=Vg:=UY
 have t:¬ (hH.toList==[73,68])=Vg:=UY
 have o:¬ (hH.toList==[84,73,77,69])=Vg:=UY
 have j:(hH.toList==[68,65,84,69])=Vg:=UY
 funext w;unfold aV;rw[Va z,Va c1,Va y,Va u,Va t,Va o,Vb j]
 unfold eU aB.cM;apply decide_eq_decide.2;constructor
 ·intro h
  split at h
  ·rename_i hc;exact⟨hc.1,hc.2.1,h.2⟩
  ·omega
 ·rintro ⟨f,a,c⟩;rw[Vb ⟨f,a,by omega⟩];exact⟨a,c⟩
theorem C6:aV jC=aB.dA:=by
 have t:¬ (jC.toList==[78,65,77,69])=Vg:=UY
 have c1:¬ (jC.toList==[85,78,73,84,83])=Vg:=UY
 have o:¬ (jC.toList==[77,73,78,85,84,69,83])=Vg:=UY
 have j:¬ (jC.toList==[69,86,69,82,89])=Vg:=UY
 have h:¬ (jC.toList==[73,68])=Vg:=UY
 have f:¬ (jC.toList==[84,73,77,69])=Vg:=UY
 have c:¬ (jC.toList==[68,65,84,69])=Vg:=UY
 have a:(jC.toList==[77,73,78,85,84,69])=Vg:=UY
 funext w;unfold aV;rw[Va t,Va c1,Va o,Va j,Va h,Va f,Va c,Vb a]
 have:=aB.xn w;unfold gT
 cases ht:aB.dA w
 ·simp
 ·simp;omega
theorem C7:aV lk=aB.dU:=by
 have u:¬ (lk.toList==[78,65,77,69])=Vg:=UY
 have c1:¬ (lk.toList==[85,78,73,84,83])=Vg:=UY
 have t:¬ (lk.toList==[77,73,78,85,84,69,83])=Vg:=UY
 have o:¬ (lk.toList==[69,86,69,82,89])=Vg:=UY
 have j:¬ (lk.toList==[73,68])=Vg:=UY
 have h:¬ (lk.toList==[84,73,77,69])=Vg:=UY
 have f:¬ (lk.toList==[68,65,84,69])=Vg:=UY
 have c:¬ (lk.toList==[77,73,78,85,84,69])=Vg:=UY
 have a:(lk.toList==[79,78])=Vg:=UY
 funext w;unfold aV;rw[Va u,Va c1,Va t,Va o,Va j,Va h,Va f,Va c,Vb a]
def jD(x:U4):U7:=!(x.toList==[78,65,77,69]) && !(x.toList==[85,78,73,84,83]) && !(x.toList==[77,73,78,85,84,69,83]) && !(x.toList==[69,86,69,82,89]) && !(x.toList==[73,68]) && !(x.toList==[84,73,77,69]) && !(x.toList==[68,65,84,69]) && !(x.toList==[77,73,78,85,84,69]) && !(x.toList==[79,78])
theorem Mm(h:jD x=Vg):(x.toList==[78,65,77,69])=Vf/\(x.toList==[85,78,73,84,83])=Vf/\(x.toList==[77,73,78,85,84,69,83])=Vf/\(x.toList==[69,86,69,82,89])=Vf/\(x.toList==[73,68])=Vf/\(x.toList==[84,73,77,69])=Vf/\(x.toList==[68,65,84,69])=Vf/\(x.toList==[77,73,78,85,84,69])=Vf/\(x.toList==[79,78])=Vf:=by
 unfold jD at h;simp only[W7,ZK] at h;obtain⟨⟨⟨⟨⟨⟨⟨⟨z,y⟩,u⟩,t⟩,o⟩,j⟩,f⟩,c⟩,a⟩:=h;exact⟨z,y,u,t,o,j,f,c,a⟩
theorem gZ(x:U4)(h:jD x=Vg):aV x=bE x:=by
 obtain⟨z,y,u,t,o,j,f,c,a⟩:=Mm h
 funext w
 unfold aV bE;rw[z,y,u,t,o,j,f,c,a];simp only[Vx,if_false];exact BEq.comm
theorem nF(ws:U5 U4)(n:U8)(wr:U7)(x:U4):bD ws n wr x=eA ws n wr (bE x):=rfl
theorem nM(h:bD ws st.1 st.2 x=Vg):dV st=dI ws (bE x) st:=by
 obtain⟨n,wr⟩:=st;have ht:eA ws n wr (bE x)=Vg:=h;simp only[dV,dI,ek,ei,ht,if_true]
theorem wJ{w:U4}(h:aB.isNum w.data.toList=Vg):bF w 1 7=cL w:=by rw[uW,Vb h];rfl
theorem An{w:U4}{a hi:U9}(h:eL w a hi=Vg):aB.isNum w.data.toList=Vg/\a<=cL w/\cL w<=hi:=by
 unfold eL at h;simp only[W7,decide_eq_true_eq] at h;exact⟨h.1.1,h.1.2,h.2⟩
theorem KU{w:U4}(h:bI w=Vg):qI w=w:=Vb h
theorem MH(w:Vh)(h:Env w):Vk prog 44 #[] w fun e w'=>∃ p d aM,e=.returned (.pointer (Ve ⟨p,0,Vd⟩))/\BD w' p d gM mW aM/\Vj w.heap.size w w'/\(∀ b,b<w.heap.size->aM b=Vd)/\w.heap.size<=p:=by
 have y:=aC (S8 w);have u:=aC h;have o:=h.size;clear h
 go_in
 go_wp2_with (first
  |(go_at_call 60;refine y.out.mono ?_;rintro e w1 ⟨v,rfl,rfl,c,f⟩))
 have t:Hid (BD (w1.alloc (.cells #[.pointer (Ve ⟨w.heap.size+2,0,Vd⟩)] 99)) w1.heap.size (w.heap.size+2) gM mW (pC w.heap.size)/\Vj w.heap.size w (w1.alloc (.cells #[.pointer (Ve ⟨w.heap.size+2,0,Vd⟩)] 99))/\(∀ b,b<w.heap.size->pC w.heap.size b=Vd)/\w.heap.size<=w1.heap.size):=by
  have k:Vj w1.heap.size w1 (w1.alloc (.cells #[.pointer (Ve ⟨w.heap.size+2,0,Vd⟩)] 99)):=(zr _ _).alloc (zq _) _;have a:∀ b,b<w.heap.size->pC w.heap.size b=Vd:=fun b j=>by unfold pC;rw[Va UU,Va UU,Va UU]
  exact⟨⟨cC w1 _,c.dk.none (zq _),⟨c.dk.later k,c.of,c.wl,c.hl,c.inv⟩,(u.out.later f).later k,fun b j=>a b UU⟩,f.trans (k.mono f.size),a,f.size⟩
 clear c f
 go_wp2_with fail
 exact bodyPost_ret (v:=.pointer (Ve ⟨w1.heap.size,0,Vd⟩)) (by simp[results,results44,go_sem]) rfl ⟨_,_,_,rfl,t.out⟩
end Go.Proofs.YtfigmlfdnickmaaGreatDoor
namespace Go.Proofs.YtfigmlfdnickmaaGreatDoor.Laid
def val:DataW Unit->Vi
 |.lit (.int k n)=>.int k n
 |.lit (.string b)=>.string ⟨b.toArray⟩
 |_=>.bool Vf
def row:DataW Unit->U5 Vi
 |.agg l=>l.map val
 |_=>[]
def rows:DataW Unit->U5 Vi
 |.agg l=>l.flatMap row
 |_=>[]
def text:DataW Unit->Vi
 |.iface _ (.ptr (.agg [d]))=>val d
 |_=>.bool Vf
def put(l:U5 Vi):Obj->Obj
 |.cells _ t frozen=>.cells l.toArray t frozen
 |o=>o
def AB(w:Vh):Vh :=
 { w with heap:=(((((((((w.heap.modify 1 (put (row Rows.laid_bookings_calendar_monthDays))).modify 0 (put (row Rows.laid_internal_strconv_uint64pow10))).modify 6 (put [.iface 369 (.pointer (Ve ⟨w.heap.size,0,Vd⟩))])).modify 7 (put [.iface 369 (.pointer (Ve ⟨w.heap.size+1,0,Vd⟩))])).modify 3 (put (row Rows.laid_bookings_lines_weekdays))).modify 4 (put (row Rows.laid_math_bits_deBruijn32tab))).modify 5 (put (row Rows.laid_math_bits_deBruijn64tab))).modify 8 (put (row Rows.laid_unicode_utf8_first))).modify 9 (put (rows Rows.laid_unicode_utf8_acceptRanges))).push (.cells #[text Rows.laid_strconv_ErrSyntax] 371) |>.push (.cells #[text Rows.laid_strconv_ErrRange] 371) }
end Go.Proofs.YtfigmlfdnickmaaGreatDoor.Laid
namespace Go.Proofs.YtfigmlfdnickmaaGreatDoor.datesLaw
open Go.ChangeShapes Go.WideShapes Go.ChangeAt Go.RowKit
theorem own:ownKnob prog.godebug=Vd:=UZ
theorem OL:laidOutB prog=Vg:=UZ
theorem PG:prog.cellsOf 3=1:=UZ
theorem A7:prog.cellsOf 9=1:=UZ
theorem zQ:prog.cellsOf 89=6:=UZ
theorem og{α:Type}{l:U5 α}(h:l.length=6):∃ a b c d e f,l=[a,b,c,d,e,f]:=by
 match l,h with
 |[a,b,c,d,e,f],_=>exact⟨a,b,c,d,e,f,rfl⟩
end Go.Proofs.YtfigmlfdnickmaaGreatDoor.datesLaw
namespace Go.Proofs.YtfigmlfdnickmaaGreatDoor.EnvLaid
open Go.ChangeShapes Go.WideShapes Go.ChangeAt Go.RowKit
theorem Il{P:Program}{name:String}{k:IntKind}{zs:U5 U9}{t e:Vm}
  (y:P.globalNamed name=Ve g) (c:(P.globals[g]?).map (·.type)=Ve t) (ht:P.underlying t=Ve (.array n e)) (z:P.underlying e=Ve (.int k)) (u:P.cellsOf e=1) (o:P.cellsOf t=n)
  (h:Lib.VarReads P W name (ZW k zs)):Lib.TabIs P W name k zs:=by
 obtain⟨D,C,cs,fuel,p,j,f,a,A⟩:=h;obtain rfl:=WY (y.symm.trans j);obtain rfl:=WY (c.symm.trans f);unfold Lib.TabIs;rw[a,<- Lib.cells_of_tab ht z u o A]
theorem Rg{P:Program}{name:String}{zs:U5 (U5 UInt8)}{t e:Vm}
  (J:P.globalNamed name=Ve g) (u:(P.globals[g]?).map (·.type)=Ve t) (ht:P.underlying t=Ve (.array n e)) (O:P.underlying e=Ve .string) (F:P.cellsOf e=1)
  (h:Lib.VarReads P W name (.agg (zs.map fun z=>.lit (.string z)))) (i:U8) (z:U5 UInt8) (G:zs[i]?=Ve z):W.cell? ⟨g,i,Vd⟩=Ve (.string ⟨z.toArray⟩):=by
 obtain⟨g',Y,cs,fuel,p,D,y,f,S⟩:=h;obtain rfl:=WY (J.symm.trans D);obtain rfl:=WY (u.symm.trans y);obtain⟨xs,m,_,N,_,M,o⟩:=DataW.trod_array ht S
 have c:zs.map (fun z=>(ZX (.string z):DataW Unit))=xs.map (·.1):=by
  have:=congrArg Prod.fst N
  simpa using this
 have I:zs.length=xs.length:=by
  have:=congrArg List.length c
  simpa using this
 have Z:i<zs.length:=(ZS.1 G).1;have a:xs[i]?=Ve xs[i]:=Xb UU;have j:=o i UU;rw[a,F] at j;obtain⟨s,C,A,_⟩:=DataW.trod_string O j
 have X:(xs.map (·.1))[i]?=Ve (ZX (.string z):DataW Unit):=by rw[<- c];simp[G]
 have V:(xs.map (·.1))[i]?=Ve (ZX (.string s.data.toList):DataW Unit):=by simp[a,A]
 have U:z=s.data.toList:=by
  have:=X.symm.trans V
  simpa using this
 have T:cs[i]?=Ve (.string s):=by
  have:=congrArg (·[0]?) C
  simpa[Xi,List.getElem?_drop] using this
 rw[World.var?_cell J f i,T,U]
theorem Pu:(prog.globals[0]?).map (·.type)=Ve 306:=UZ
theorem PI:prog.cellsOf 306=20:=UZ
theorem Pg:prog.cellsOf 265=1:=UZ
theorem Oj : prog.globalNamed "bookings/lines.weekdays" = Ve 3 := by kernel_rfl
theorem Q4:(prog.globals[3]?).map (·.type)=Ve 352:=UZ
theorem mE : prog.globalNamed "bookings/calendar.monthDays" = Ve 1 := by kernel_rfl
theorem Pt:(prog.globals[1]?).map (·.type)=Ve 314:=UZ
theorem PH:prog.cellsOf 314=12:=UZ
theorem Ov:prog.cellsOf 3=1:=UZ
theorem A7:prog.cellsOf 9=1:=UZ
theorem Oi {W: Vh} {l: U5 (String × DataW Unit)} (hM : laidMet prog l W) (hS : W.ShapedOpen prog) (m1 : ("bookings/calendar.monthDays", Rows.laid_bookings_calendar_monthDays) ∈ l) (m2 : ("internal/strconv.uint64pow10", Rows.laid_internal_strconv_uint64pow10) ∈ l) (m3 : ("bookings/lines.weekdays", Rows.laid_bookings_lines_weekdays) ∈ l) : Env W := by
 have ht : Lib.VarReads prog W "bookings/calendar.monthDays" (ZW .i64 [31, 28, 31, 30, 31, 30, 31, 31, 30, 31, 30, 31]) := Lib.laidMet.reads hM (d := Rows.laid_bookings_calendar_monthDays) m1;have hp : Lib.VarReads prog W "internal/strconv.uint64pow10" (ZW .u64 Lib.pow10Tab) := Lib.laidMet.reads hM (d := Rows.laid_internal_strconv_uint64pow10) m2;have hd : Lib.VarReads prog W "bookings/lines.weekdays" (.agg ([[109, 111], [116, 117], [119, 101], [116, 104], [102, 114], [115, 97], [115, 117]].map fun z => .lit (.string z))) := Lib.laidMet.reads hM (d := Rows.laid_bookings_lines_weekdays) m3;have day:=fun i z hz=>Rg Oj Q4 underlying352 underlying9 A7 hd i z hz
 have tb:=Il mE Pt underlying314 underlying3 Ov PH ht
 have hsz:10<=W.heap.size:=by
  have h0:(((begin prog (fun _ _=>0) default).world.heap[9]?).bind Obj.row?).isSome=Vg:=UZ
  obtain⟨⟨zero,t⟩,h1⟩:=Option.isSome_iff_exists.1 h0;obtain⟨cs,hh,_⟩:=hS.1 9 zero t (of_decide_eq_true UZ) h1;exact (Y9.1 hh).1
 exact⟨⟨tb.cell mE 0 UW,tb.cell mE 1 UW,tb.cell mE 2 UW,tb.cell mE 3 UW,tb.cell mE 4 UW,tb.cell mE 5 UW,tb.cell mE 6 UW,tb.cell mE 7 UW,tb.cell mE 8 UW,tb.cell mE 9 UW,tb.cell mE 10 UW,tb.cell mE 11 UW⟩,cell_of_shapedOpen_int (zero:=#[.int .i64 0]) (t:=3) hS (of_decide_eq_true UZ) UZ rfl UZ UZ underlying3,
  Il vd Pu underlying306 underlying265 Pg PI hp,hsz,
  day 0 _ rfl,day 1 _ rfl,day 2 _ rfl,day 3 _ rfl,day 4 _ rfl,day 5 _ rfl,day 6 _ rfl⟩
end Go.Proofs.YtfigmlfdnickmaaGreatDoor.EnvLaid
namespace Go.Proofs.YtfigmlfdnickmaaGreatDoor
open Go.RowKit
def bU:U5 U4:=[cV,hH,ej,jC,fS,gj]
def jY:U5 U4:=[iW,hI]
def ln:U5 U4:=[ix,hI,lk]
def mw:U5 U4:=[jI,hI]
def iM:U5 U4:=[iT,hI]
def mQ:U5 U4:=[js,hH]
def gY:U5 (U5 U4):=[jY,ln,mw]
def ends:U5 (U5 U4):=[iM,mQ]
def jj(H:U5 U4):U5 (U5 U4):=gY.flatMap fun K=>ends.map fun E=>H++K++bU++E
def mz:U5 U4:=[ic,cD,eN]
def nC:U5 U4:=[iZ]
def mB:U5 (U5 U4):=[[ky,cD,eN],[kr,cD,eN,bG,bG],[qD,cD,eN,bG,bG,gj],[qG,cD,eN,bG,bG,gj],[qU,mv],[ku,mv],[dY,cD],[dY,cD,bG,bG],[qP],[kn,cD,bG,bG],[kl,cD,eN,gj,bG,bG],[qF,gj],[kM]]++jj mz++jj nC
theorem Lg:mR=mB:=UY
theorem Lh:∀ p∈mB,p≠[]:=UY
def nI(k:U4)(p:U5 U4):U7:=aV (p.headD YN) k
theorem zR(h:bD ws 0 Vf k=Vg):∃ t,ws=k :: t:=by
 rw[nF] at h;obtain⟨_,f,c⟩:=mC h;have e:=oj c
 match ws,f with
 |a :: t,_=>exact⟨t,by rw[show a=k from e]⟩
theorem EH{s:U4}{t:U5 U4}(h:aB.aP s=k :: t):jk s=scan (mB.filter (nI k)) (aB.aP s) 0:=by
 unfold jk;rw[Lg,E0 _ (nI k) mB 0];intro p j f;have c:=Lh p j;refine⟨?_,c⟩
 match p,c,f with
 |a :: p',_,f =>
  have e:aV a k=Vf:=f;rw[h,pre,e];rfl
theorem kC(h:bD ws 0 Vf k=Vg)(a:jD k=Vg)(p:U5 U4):aQ ws (p.map aV) (1,Vf)=aQ ws ((k :: p).map aV) (0,Vf):=by
 have e:dI ws (aV k) (0,Vf)=(1,Vf):=by
  obtain⟨_,f,c⟩:=mC (nF ws 0 Vf k ▸ h);rw[gZ k a];exact FB f c
 show _=aQ ws (p.map aV) (dI ws (aV k) (0,Vf));rw[e]
theorem DH(h:aQ ws (q.map aV) (0,Vf)=st):Sum [q] ws st q:=by
 obtain⟨n,b⟩:=st;have c:=nJ h;have one:∀ p∈[q],p=q:=fun p c=>YD.1 c
 refine⟨YD.2 rfl,fun p a=>by rw[one p a];exact ZY c,c,fun j p a e=>?_,fun j=>⟨?_,fun p a f=>Vc (one p a) f⟩⟩
 ·cases j
  rw[one p a] at e;have:=uF h;omega
 ·cases j
  rw[c];exact qk h
theorem uL:∀ (Q R ws:U5 U4),pre Q ws<=pre (Q++R) ws
 |[],_,_=>by simp[pre]
 |_ :: _,_,[]=>by simp[pre]
 |s :: Q,R,w :: ws=>by
  have:=uL Q R ws;simp only[VN,pre]
  split <;> omega
theorem Mt(h:aQ ws ([dY,cD].map aV) (0,Vf)=st)(t:cB ws.length st.1 st.2=Vf):Sum [[dY,cD],[dY,cD,bG,bG]] ws st [dY,cD]:=by
 obtain⟨n,b⟩:=st;have c:=nJ h;have z:=(rV [dY,cD,bG,bG] ws).2
 have u:pre [dY,cD,bG,bG] ws<=n:=by
  cases b
  ·have:¬ n<ws.length:=by simpa[cB] using t
   omega
  ·exact ZY (Ds [bG,bG] h)
 have y:n<=2:=by have:=(rV [dY,cD] ws).1;rw[c] at this;exact this
 refine⟨by simp,?_,c,?_,?_⟩
 ·intro p a;rcases VA.1 a with rfl|a
  ·exact ZY c
  ·rw[YD.1 a];exact u
 ·intro j p a e
  cases j
  have o:n<2:=uF h;rcases VA.1 a with rfl|a
  ·rw[c] at e;exact Vc e.1 (by show ¬ n=2;omega)
  ·rw[YD.1 a] at e;exact Vc e.1 (by show ¬ _=4;omega)
 ·intro j
  cases j
  refine⟨c.trans (qk h),fun p a f e=>?_⟩;rcases VA.1 a with rfl|a
  ·exact f rfl
  ·rw[YD.1 a] at e;exact Vc e.1 (by show ¬ _=4;omega)
theorem Mu{c:U8 × U7}(h:aQ ws ([dY,cD].map aV) (0,Vf)=st)(C:cB ws.length st.1 st.2=Vg)(y:aQ ws ([dY,cD,bG,bG].map aV) (0,Vf)=c):Sum [[dY,cD],[dY,cD,bG,bG]] ws c [dY,cD,bG,bG]:=by
 obtain⟨n,b⟩:=st;obtain⟨z,G⟩:=c;have D:=nJ h;have f:=nJ y;have j:=pP C;have t:pre [dY,cD] ws<=pre [dY,cD,bG,bG] ws:=uL [dY,cD] [bG,bG] ws;refine⟨by simp,?_,f,?_,?_⟩
 ·intro p a;rcases VA.1 a with rfl|a
  ·show _<=z;omega
  ·rw[YD.1 a];exact ZY f
 ·intro u p a e
  cases u
  have A:z<4:=uF y;rcases VA.1 a with rfl|a
  ·have:n<ws.length:=j;omega
  ·rw[YD.1 a] at e;have F:pre [dY,cD,bG,bG] ws=4:=e.1;omega
 ·intro u
  cases u
  refine⟨f.trans (qk y),fun p a o e=>?_⟩;rcases VA.1 a with rfl|a
  ·have:n<ws.length:=j;omega
  ·exact o (YD.1 a)
theorem zC(h:p∈jj H):∃ K∈gY,∃ E∈ends,p=H++K++bU++E:=by
 unfold jj at h;simp only[ZZ,Wm] at h;obtain⟨K,a,E,c,rfl⟩:=h;exact⟨K,a,E,c,rfl⟩
theorem zx(a:K∈gY)(c:E∈ends):H++K++bU++E∈jj H:=by
 unfold jj;simp only[ZZ,Wm];exact⟨K,a,E,c,rfl⟩
theorem Kv(h:K∈gY):∃ K',K=K.headD YN :: K':=by
 simp only[gY,VA,Z4,or_false] at h;rcases h with rfl|rfl|rfl
 ·exact⟨[hI],rfl⟩
 ·exact⟨[hI,lk],rfl⟩
 ·exact⟨[hI],rfl⟩
theorem Ki(h:E∈ends):∃ E',E=E.headD YN :: E':=by
 simp only[ends,VA,Z4,or_false] at h;rcases h with rfl|rfl
 ·exact⟨[hI],rfl⟩
 ·exact⟨[hH],rfl⟩
theorem zz(f:K∈gY)(a:aQ ws (H.map aV) (0,Vf)=(n,Vf))(c:eA ws n Vf (aV (K.headD YN))=Vf):pre (H++K++bU++E) ws=n/\n<(H++K++bU++E).length:=by
 obtain⟨K',e⟩:=Kv f;have j:=qk a
 have h:H++K++bU++E=H++K.headD YN :: (K'++bU++E):=by
  conv=>lhs;rw[e]
  simp
 rw[h];exact⟨De _ a c,by simp;omega⟩
theorem Dd(f:E∈ends)(a:aQ ws (Q.map aV) (0,Vf)=(n,Vf))(c:eA ws n Vf (aV (E.headD YN))=Vf):pre (Q++E) ws=n/\n<(Q++E).length:=by
 obtain⟨j,e⟩:=Ki f;have h:=qk a;rw[e];exact⟨De _ a c,by simp;omega⟩
theorem C9(a:aQ ws (Q.map aV) (0,Vf)=(n,Vg)):pre (Q++E) ws=n/\n<(Q++E).length:=by
 have:=uF a;exact⟨Ds _ a,by simp;omega⟩
theorem Dr(U:K∈gY)(V:E∈ends)(D:aQ ws (H.map aV) (0,Vf)=(n,Vf))
  (S:∀ z∈gY,z≠K->eA ws n Vf (aV (z.headD YN))=Vf) (F:aQ ws ((H++K++bU).map aV) (0,Vf)=(m,Vf))
  (T:∀ j∈ends,j≠E->eA ws m Vf (aV (j.headD YN))=Vf) (f:aQ ws ((H++K++bU++E).map aV) (0,Vf)=st):Sum (jj H) ws st (H++K++bU++E):=by
 obtain⟨l,b⟩:=st;have o:=nJ f
 have O:n<=l:=by
  have y:=uL H (K++bU++E) ws;rw[nJ D,<- VZ,<- VZ,o] at y;exact y
 have P:m<=l:=by
  have y:=uL (H++K++bU) E ws;rw[nJ F,o] at y;exact y
 have c:∀ p∈jj H,p=H++K++bU++E\/(pre p ws<=l/\pre p ws<p.length):=by
  intro p a;obtain⟨z,t,j,u,rfl⟩:=zC a
  by_cases J:z=K
  ·subst J
   by_cases I:j=E
   ·subst I;exact .inl rfl
   ·obtain⟨N,M⟩:=Dd u F (T j u I);exact .inr ⟨by omega,by omega⟩
  ·obtain⟨N,M⟩:=zz (E:=j) t D (S z t J);exact .inr ⟨by omega,by omega⟩
 refine⟨zx U V,fun p a=>?_,o,fun C p a e=>?_,fun C=>⟨?_,fun p a A e=>?_⟩⟩
 ·rcases c p a with rfl|h
  ·exact ZY o
  ·exact h.1
 ·cases C
  have G:=uF f;rcases c p a with rfl|h
  ·omega
  ·omega
 ·cases C;exact o.trans (qk f)
 ·rcases c p a with h|h
  ·exact A h
  ·omega
theorem Kr(N:K∈gY)(y:aQ ws (H.map aV) (0,Vf)=(n,Vf))
  (I:∀ t∈gY,t≠K->eA ws n Vf (aV (t.headD YN))=Vf) (u:aQ ws ((H++K++bU).map aV) (0,Vf)=(m,b))
  (J:∀ f∈ends,eA ws m b (aV (f.headD YN))=Vf):Sum (jj H) ws (m,Vg) (H++K++bU++iM):=by
 have z:iM∈ends:=by simp[ends]
 have G:n<=m:=by
  have A:=uL H (K++bU) ws;rw[nJ y,<- VZ,nJ u] at A;exact A
 have h:∀ f∈ends,pre (H++K++bU++f) ws=m/\m<(H++K++bU++f).length:=by
  intro f c
  cases b
  ·exact Dd c u (J f c)
  ·exact C9 u
 have j:∀ p∈jj H,pre p ws<=m/\pre p ws<p.length:=by
  intro p a;obtain⟨t,o,f,c,rfl⟩:=zC a
  by_cases C:t=K
  ·subst C;obtain⟨F,D⟩:=h f c;exact⟨by omega,by omega⟩
  ·obtain⟨F,D⟩:=zz (E:=f) o y (I t o C);exact⟨by omega,by omega⟩
 exact⟨zx N z,fun p a=>(j p a).1,(h iM z).1,fun _ p a e=>by have:=j p a;omega,fun M=>Vc M UV⟩
theorem Ky(t:aQ ws (H.map aV) (0,Vf)=(n,b))
  (z:∀ f∈gY,eA ws n b (aV (f.headD YN))=Vf):Sum (jj H) ws (n,Vg) (H++jY++bU++iM):=by
 have u:jY∈gY:=by simp[gY]
 have C:iM∈ends:=by simp[ends]
 have h:∀ f∈gY,∀ j:U5 U4,pre (H++f++bU++j) ws=n/\n<(H++f++bU++j).length:=by
  intro f c j
  cases b
  ·exact zz c t (z f c)
  ·have y:=C9 (E:=f++bU++j) t;rw[<- VZ,<- VZ] at y;exact y
 have o:∀ p∈jj H,pre p ws<=n/\pre p ws<p.length:=by
  intro p a;obtain⟨f,c,j,_,rfl⟩:=zC a;obtain⟨F,D⟩:=h f c j;exact⟨by omega,by omega⟩
 exact⟨zx u C,fun p a=>(o p a).1,(h jY u iM).1,fun _ p a e=>by have:=o p a;omega,fun A=>Vc A UV⟩
end Go.Proofs.YtfigmlfdnickmaaGreatDoor
