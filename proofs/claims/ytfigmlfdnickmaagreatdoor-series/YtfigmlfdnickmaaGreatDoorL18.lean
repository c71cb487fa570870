import Derived.Test.YtfigmlfdnickmaaGreatDoorL17
import Derived.RangeFuncCalls
import Derived.Lib.ItoaNum
import Derived.Deep.RegionHeld3
set_option maxRecDepth 100000
set_option maxHeartbeats 8000000
variable{name x:ByteArray}{B:ByteArray->Bool}{ev' fr mi mn pc pc' ti ti' til un un':Int}{tl:List (Go.Proofs.YtfigmlfdnickmaaGreatDoor.Desk.Ent × Go.Value)}{ws:List ByteArray}{acc acc':List Int}{c1 d i n:Nat}{s s' st:Nat × Bool}{col:Nat->Option Go.Proofs.YtfigmlfdnickmaaGreatDoor.Col}{a1:Option Go.Addr}{r:Go.Proofs.YtfigmlfdnickmaaGreatDoor.Raw}{v v':Go.Value}{W W' w w1 w2 w3:Go.World}
namespace Go.Proofs.YtfigmlfdnickmaaGreatDoor
open Go.RowKit Go.Shelf
open Desk (Ent St Ids kept a0C a0Q a1C a2e ofB a0y a2c Mid a1H a0z Inv uniq)
attribute [local go_sem] Oper.semAt_some
structure LI(w W:World)(s:St)(col:Nat->Option Col)(M:List Avl.It):Prop where
 bx:∃ v l,Boxed W (w.heap.size+1) 34 v/\a3j W (w.heap.size+5) col v l/\a4M s M l
 bl:Below w.heap.size w W
 sz:w.heap.size+5<=W.heap.size
theorem b6k{row:Option Nat}{B e size:Nat}{xs:List Value}(h:W.ownsRow B e size v n xs)(hg:W.grownBy W' row)(hr:∀ r,row=some r->∃ o:Obj,W.heap[r]?=some o/\o.isCells=false):W'.ownsRow B e size v n xs:=by
 refine h.kept hg ?_;rcases h.2 with ⟨rfl,_⟩|⟨g,cap,cur,rfl,_,hgb,_⟩
 ·exact .inl rfl
 ·refine .inr fun e'=>?_
  obtain⟨o,ho,hc⟩:=hr g (by simpa[Value.ownBlock] using e'.symm);rw[hgb] at ho;cases ho;cases hc
theorem c6j(w:World)(s:St)(r:Raw)(col:Nat->Option Col){B:Nat}(hB:w.heap.size<=B):OwnFrom B (fun (pre:List {x:Avl.It // QI r x}) W=>LI w W s col (pre.map (·.1))):=by
 intro pre W W' row h hg hrow;have hr:∀ r,row=some r->∃ o:Obj,W.heap[r]?=some o/\o.isCells=false:=fun r e=>(hrow r e).2
 obtain⟨v,l,hv,er,tl⟩:=h.bx;exact⟨⟨v,l,a6Z hv hg hr,⟨b6k er.own hg hr,er.no,fun p hp=>⟨⟨b6k (er.sp p hp).1.own hg hr,(er.sp p hp).1.no⟩,(er.sp p hp).2⟩,er.pw⟩,tl⟩,h.bl.grown hg h.bl.size (fun k e=>Nat.le_trans hB (hrow k e).1),Nat.le_trans h.sz hg.size⟩
theorem b8k{B:Nat}(h:Below W.heap.size W W'):KeepsFrom B W W':=⟨h.size,fun k _ _ hk _=>(h.block k (Array.getElem?_eq_some_iff.1 hk).1).trans hk⟩
theorem b7J(X:World)(p x y:Value)(t1 t2 t3:TypeId):Below X.heap.size X (((X.alloc (.cells #[p] t1)).alloc (.cells #[x] t2)).alloc (.cells #[y] t3)).drew/\(((X.alloc (.cells #[p] t1)).alloc (.cells #[x] t2)).alloc (.cells #[y] t3)).drew.cell? ⟨X.heap.size,0,none⟩=some p/\(((X.alloc (.cells #[p] t1)).alloc (.cells #[x] t2)).alloc (.cells #[y] t3)).drew.cell? ⟨X.heap.size+1,0,none⟩=some x/\(((X.alloc (.cells #[p] t1)).alloc (.cells #[x] t2)).alloc (.cells #[y] t3)).drew.cell? ⟨X.heap.size+2,0,none⟩=some y/\(((X.alloc (.cells #[p] t1)).alloc (.cells #[x] t2)).alloc (.cells #[y] t3)).drew.heap.size=X.heap.size+3:=by
 have b1:=Boxed.new X t1 p;have b2:=Boxed.new (X.alloc (.cells #[p] t1)) t2 x;have b3:=Boxed.new ((X.alloc (.cells #[p] t1)).alloc (.cells #[x] t2)) t3 y;simp only[World.size_alloc] at b2 b3;exact⟨((((zr _ X).alloc (zq _) _).alloc (by simp) _).alloc (by simp;omega) _).drew,((b1.alloc _).alloc _).cell,(b2.alloc _).cell,b3.cell,by rw[heap_drew];simp⟩
theorem a1Z{F:Fence}{P:Program}(w:World){ops:Array Oper}{o:Oper}{a:Act}{K:Act->World->Prop}{Q:Exit->Act->World->Prop}{E:Prop}
  (hg:o.guard=none) (s x:Operand) (t:TypeId) (hop:o.op=Op.call { callee:=Callee.builtin Builtin.append,args:=#[s,x],argTypes:=#[t,t] })
  (base:Nat) (e:TypeId) (i:TypeInfo) (z:Value) (size bytes:Nat) (h1:P.underlying t=some (.slice e)) (h2:P.info? e=some i) (h3:i.zero=some z) (h4:i.size=size) (h5:i.bytes=bytes) (h6:z.cells.size=size) (h7:0<size)
  (v:Value) (k:Nat) (xs:List Value) (hs:a.eval s=v) (hown:w.ownsRow base e size v k xs) (ad:Addr) (m c:Nat) (news:List Value) (hx:a.eval x=.slice (some ad) m c) (hn:news.length=m*size)
  (hc:∀ j u,news[j]?=some u->w.cell? (ad.add j)=some u) (h1c:∀ u∈news,u.oneCell'=true) (b1:k+m<=maxLen) (b2:(k+m)*bytes<=140737488355328) (b3:base<=w.heap.size)
  (hK:∀ v' w',w'.ownsRow base e size v' (k+m) (xs++news)->w.grownBy w' v.ownBlock->K (a.put o.dst v') w'):
  if Region.wanted o (yielded ops a.tmps)=true then Oper.wpIn F n P o a w K Q else E:=by
 have hw:Region.wanted o (yielded ops a.tmps)=true:=by simp[Region.wanted,hg]
 rw[if_pos hw];obtain⟨v',w',hrun,r1,r2,r3⟩:=run_append_own (P:=P) w base t o.type e i z size bytes h1 h2 h3 h4 h5 h6 h7 v k xs hown ad m c news hn hc h1c b1 b2 b3;unfold Oper.wpIn;refine⟨?_,?_⟩
 ·simp[Oper.about,hop,resolve,Target.leads,Sem.run_pure]
 ·rw[Oper.semAt_plain F _ _ (by rw[hop];intro c hc';cases hc')];simp[execOp,hop,resolve,invoke,builtin,hs,hx,hrun,Result.andThen];exact hK v' w' r1 r2
theorem a6Y{b:Nat}(h:W.cell? ⟨b,i,none⟩=some v)(o:Obj):(W.alloc o).cell? ⟨b,i,none⟩=some v:=(zo (w:=W) (Below.heap_alloc _ o _ (World.block_lt_of_cell? _ _ h))).trans h
theorem b6K{s:St}{M:List Avl.It}(h:LI w W s col M)(hv:Boxed W (w.heap.size+1) 34 (.slice a1 tl.length c1))(er:a3j W (w.heap.size+5) col (.slice a1 tl.length c1) tl)(hb1:Below W.heap.size W w1)(hb2:Below w1.drew.heap.size w1.drew w2)(o:Obj)
  (hgrow:(w2.alloc o).grownBy w3 (Value.slice a1 tl.length c1).ownBlock):Boxed w3 (w.heap.size+1) 34 (.slice a1 tl.length c1):=by
 have sz:=h.sz;have k1:Below W.heap.size W w1.drew:=hb1.drew;have k12:Below W.heap.size W w2:=k1.trans (hb2.mono k1.size);have h2:Boxed w2 (w.heap.size+1) 34 (.slice a1 tl.length c1):=(k12.block _ (by omega)).trans hv;exact (h2.alloc o).kept hgrow (fun e=>by have:=(er.own.lt _ e.symm).1;omega)
theorem b6J{s:St}{M:List Avl.It}{B:Nat}(h:LI w W s col M)(hv:Boxed W (w.heap.size+1) 34 (.slice a1 tl.length c1))(er:a3j W (w.heap.size+5) col (.slice a1 tl.length c1) tl)(tld:a4M s M tl)(hb1:Below W.heap.size W w1){e:Ent}{sp:Value}(ho:w2.ownsRow w1.drew.heap.size 60 2 sp e.a0e.length (e.a0e.flatMap spV))(hb2:Below w1.drew.heap.size w1.drew w2)(o:Obj)
  (hgrow:(w2.alloc o).grownBy w3 (Value.slice a1 tl.length c1).ownBlock) (hown:w3.ownsRow (w.heap.size+5) 58 6 v' (tl.length+1) (tl.flatMap a1f++a1f (e,sp))) (hc:∀ b,w.heap.size<=b->col b=none) {z:Avl.It}(ha:tl.any (fun p=>p.1.id==z.n)=false) (he:e∈s.es) (hn:e.id=z.n):
  KeepsFrom B W (w3.setCell ⟨w.heap.size+1,0,none⟩ v')/\Below w.heap.size W (w3.setCell ⟨w.heap.size+1,0,none⟩ v')/\LI w (w3.setCell ⟨w.heap.size+1,0,none⟩ v') s col (M++[z]):=by
 have sz:=h.sz;have k1:Below W.heap.size W w1.drew:=hb1.drew;have k12:Below W.heap.size W w2:=k1.trans (hb2.mono k1.size);have ko:Off (Value.slice a1 tl.length c1).ownBlock.toList w2 w3:=Off.grown ((Off.refl _ w2).alloc _) hgrow (fun k hk=>.inl (Option.mem_toList.2 hk));have E3:=er.snocT (Joins.ownsRow_le ho k1.size) k12 sz (fun b hb=>hc b (by omega)) ko hown;have own5:∀ b,(Value.slice a1 tl.length c1).ownBlock=some b->w.heap.size+5<=b:=fun b hb=>(er.own.lt b hb).1
 have ks:=Off.set0 (w.heap.size+1) w3 0 v'
 have bk:∀ b,b<W.heap.size->b≠w.heap.size+1->(Value.slice a1 tl.length c1).ownBlock≠some b->(w3.setCell ⟨w.heap.size+1,0,none⟩ v').heap[b]?=W.heap[b]?:=fun b hb h1 h2=>by
  rw[ks.block b (zL (zL hb k12.size) ko.size) (fun hx=>h1 (List.mem_singleton.1 hx)),ko.block b (zL hb k12.size) (fun hx=>h2 (Option.mem_toList.1 hx)),k12.block b hb]
 have hv3:Boxed w3 (w.heap.size+1) 34 (.slice a1 tl.length c1):=(ko.block _ (by have:=k12.size;omega) (fun hx=>by have:=own5 _ (Option.mem_toList.1 hx);omega)).trans ((k12.block _ (by omega)).trans hv);have hsz:W.heap.size<=(w3.setCell ⟨w.heap.size+1,0,none⟩ v').heap.size:=Nat.le_trans k12.size (Nat.le_trans ko.size ks.size);have hbl:Below w.heap.size W (w3.setCell ⟨w.heap.size+1,0,none⟩ v'):=⟨ks.os.trans (ko.os.trans k12.os),ks.tape.trans (ko.tape.trans k12.tape),ks.output.trans (ko.output.trans k12.output),hsz,fun b hb=>bk b (by omega) (by omega) (fun hx=>by have:=own5 _ hx;omega)⟩;refine⟨⟨hsz,fun k o' _ hk hcl=>(bk k (Array.getElem?_eq_some_iff.1 hk).1 (fun e1=>?_) (fun e1=>?_)).trans hk⟩,hbl,⟨⟨v',tl++[(e,sp)],hv3.set v',E3.off ks (fun x hx=>by have:=List.mem_singleton.1 hx;omega),tld.new ha he hn sp⟩,h.bl.trans hbl,Nat.le_trans sz hsz⟩⟩
 ·subst e1;rw[show W.heap[w.heap.size+1]?=_ from hv] at hk
  cases hk;cases hcl
 ·obtain⟨cs,q,e2⟩:=b4O er.own e1;rw[e2] at hk
  cases hk;cases hcl
def c6f(Q:Exit->Act->World->Prop):Exit->Act->World->Prop
 |.panic _,_,_=>False
 |.normal,a,w=>Q .normal a w
 |.ret,a,w=>Q .ret a w
 |.exit i,a,w=>Q (.exit i) a w
 |.goto t,a,w=>Q (.goto t) a w
 |.outgrown,a,w=>Q .outgrown a w
theorem c2H{Q:Exit->Act->World->Prop}:∀ e a w,c6f Q e a w->Q e a w
 |.panic _,_,_,h=>h.elim
 |.normal,_,_,h=>h
 |.ret,_,_,h=>h
 |.exit _,_,_,h=>h
 |.goto _,_,_,h=>h
 |.outgrown,_,_,h=>h
theorem c0k{Q:Exit->Act->World->Prop}{a:Act}(h:Q .ret a w):c6f Q .ret a w:=h
theorem b2y{s:St}(h:DSt w d s r col)(hi:i<r.tg.length)(a b:Int):
  Calls Tryz.prog 151 #[.pointer (some ⟨r.tg[i].tb,0,none⟩),.agg #[.int .i64 a,.int .i64 b]] w fun e w'=>∃ v l,e=.returned v/\l.map (·.1)=Desk.a2x r.tg[i].name a b s.es/\a3j w' w.heap.size col v l/\Below w.heap.size w w':=by
 obtain⟨i0,hi0,hz0,hz1,hz2⟩:=info_parts b6R;obtain⟨ul,us,Fl,Fs,th,hcol⟩:=h.dk.th i hi;have HH:=a0b h;have tlt:r.tg[i].tb<w.heap.size:=World.block_lt_of_cell? _ _ th.c0;have xa:((w.alloc (.cells #[.int .i64 a,.int .i64 b] 60)).alloc (.cells #[.slice none 0 0] 34)).cell? ⟨w.heap.size,0,none⟩=some (.int .i64 a):=by simp
 have xb:((w.alloc (.cells #[.int .i64 a,.int .i64 b] 60)).alloc (.cells #[.slice none 0 0] 34)).cell? ⟨w.heap.size,1,none⟩=some (.int .i64 b):=by simp
 have bt:=Boxed.new (w.alloc (.cells #[.int .i64 a,.int .i64 b] 60)) 34 (.slice none 0 0);have hX:Below w.heap.size w ((w.alloc (.cells #[.int .i64 a,.int .i64 b] 60)).alloc (.cells #[.slice none 0 0] 34)):=((zr _ _).alloc (zq _) _).alloc (by simp) _;have hXs:((w.alloc (.cells #[.int .i64 a,.int .i64 b] 60)).alloc (.cells #[.slice none 0 0] 34)).heap.size=w.heap.size+2:=by simp
 rw[World.size_alloc] at bt;have HX:=a0b (zA hX (zA hXs bt));have HT:=a0b th;clear h th hX bt;refine (callsIn_wide (n:=3)).1 ?_;refine callsIn_of_wp_marks Tryz.func151 rfl trivial ?_ rfl;simp only[Tryz.ntmps151,List.size_toArray,List.length_cons,List.length_nil,Nat.reduceAdd,Nat.reduceSub,Array.replicate_succ,Array.replicate_zero,List.push_toArray,List.append_toArray,List.nil_append,List.cons_append];refine wpIn_wide.2 (Code.wp_mono c2H ?_);generalize r.tg[i].tb=tb at *
 go_upto_region 2 with fail
 change Code.wp _ _ _ _ ((w.alloc (.cells #[.int .i64 a,.int .i64 b] 60)).alloc (.cells #[.slice none 0 0] 34));generalize (w.alloc (.cells #[.int .i64 a,.int .i64 b] 60)).alloc (.cells #[.slice none 0 0] 34)=X at *;have ME:=a0b (b5L (some ⟨tb,3,none⟩) a b X.drew);have hXd:X.drew.heap.size=w.heap.size+2:=hXs;rw[hXd] at ME
 go_region_with (first
  |(go_at_call 207;refine ME.out.mono ?_;rintro e w1 ⟨rfl,rfl⟩))
 all_goals
  obtain⟨k0,z1,z2,z3,z4⟩:=b7J X (.pointer (some ⟨tb,3,none⟩)) (.int .i64 a) (.int .i64 b) 301 3 3;rw[hXs] at z1 z2 z3 z4
  go_wp2_with fail
  generalize (((X.alloc (.cells #[.pointer (some ⟨tb,3,none⟩)] 301)).alloc (.cells #[.int .i64 a] 3)).alloc (.cells #[.int .i64 b] 3)).drew=Z at *;have BZ:Below w.heap.size w Z:=HX.out.1.trans (k0.mono HX.out.1.size);have L0:Hid (LI w Z s col ([]:List Avl.It)):=⟨⟨_,[],(k0.block _ (by omega)).trans HX.out.2.2,a3j.nil _ _ _,a4M.nil s⟩,BZ,by omega⟩;have hxs:=b2v r (Avl.meet a b r.tg[i].T) (fun z hz=>b8d HH.out.of HH.out.dk.ni hi hz);generalize c1U r (Avl.meet a b r.tg[i].T) _=xs at hxs;have MS:=a0b (b8c 2 r (w.heap.size+2) (w.heap.size+2+1) (w.heap.size+2+2) w.heap.size tb 3 us a b r.tg[i].T Fs xs hxs Z z1 z2 z3 (a0a BZ HT.out.c3) (HT.out.sp.belowN BZ (fun k hk=>HT.out.lt k (by simp[hk]))) (fun k hk=>HT.out.lt k (by simp[hk])) (by omega));have HXS:=a0b hxs;have h5:w.heap.size<=Z.heap.size:=by omega
  clear k0 z1 z2 z3 hxs xa xb ME;refine (wpIn_wide (n:=3)).1 ?_
  refine wpIn_rangeFunc_ownG rfl (by omega) (gf:=254) (lb:=#[.pointer (some ⟨w.heap.size+2,0,none⟩),.pointer (some ⟨w.heap.size+2+1,0,none⟩),.pointer (some ⟨w.heap.size+2+2,0,none⟩)]) rfl trivial (enters_of Tryz.func254 (by kernel_rfl) rfl) MS.out belowK_t (belowK_b h5) (zr _ _) (fun _=>rfl)
   (fun pre W=>LI w W s col (pre.map (·.1))) (fun _ _ _=>False) (c6j w s r col h5) (fun _ _ _ _ _ hs _ _=>hs) L0.out
   (fun x=>{ tmps:=#[.pointer (some ⟨tb,0,none⟩),.agg #[.int .i64 a,.int .i64 b],undef,.pointer (some ⟨w.heap.size,0,none⟩),.slice none 0 0,.pointer (some ⟨w.heap.size+1,0,none⟩),.pointer (some ⟨x.1.v,0,none⟩),.pointer (some ⟨tb,0,none⟩),.pointer (some ⟨tb,0,none⟩),.pointer (some ⟨tb,3,none⟩),.pointer (some ⟨w.heap.size,0,none⟩),.int .i64 a,.pointer (some ⟨w.heap.size,1,none⟩),.int .i64 b,.func (.func 254) #[] #[.pointer (some ⟨w.heap.size+2,0,none⟩),.pointer (some ⟨w.heap.size+2+1,0,none⟩),.pointer (some ⟨w.heap.size+2+2,0,none⟩)],.pointer (some ⟨x.1.v,0,none⟩),undef,undef,undef,undef,undef,undef,undef,undef,undef,undef,undef],defers:=[] }) ?assign ?body ?done ?stop
  case assign =>
   intro l x W K hK
   gi_wp2
   exact hK
  case body =>
   rintro l pre x W h hlt;obtain⟨g,hg,ev,en⟩:=x.2;obtain⟨v,tl,hv,er,tld⟩:=h.bx;obtain⟨a1,c1,rfl⟩:=a0B er.own;have hcd:=hv.cell;have hsm:=Nat.le_trans tld.small (a1x HH.out.mid);have dW:=HH.out.dk.later h.bl;have CT:=a0b (a8q tl _ (w.heap.size+5) g.eb g.e.id W er.own (fun p hp=>by obtain⟨x1,x2,x3⟩:=a0B (er.sp p hp).1.own;exact⟨x1,_,x2,x3⟩) (dW.en g hg).1.en.c0 (by omega));have HI:=a0b (zA h (zA hv (zA er tld)));have hsz:=h.sz;have TE:=a0b (fun W' (k:Below w.heap.size w W')=>HH.out.tells k hg);clear h hv er tld dW;rw[<- ev] at CT;simp only[<- ev] at TE;have EVN:=a0b (zA ev en);clear ev en
   cases hany:tl.any (fun p=>p.1.id==g.e.id)
   ·rw[hany] at CT
    gi_wp2
    refine⟨trivial,?_⟩;refine (CallsIn.inRound l (callsIn_wide.2 CT.out)).mono ?_;rintro e w1 ⟨rfl,hb1⟩
    gi_wp2
    have hmix:Tryz.prog.follows .mixedOrders=true:=by kernel_rfl
    have BW1:Hid (Below w.heap.size w w1/\Below W.heap.size W w1):=⟨HI.out.1.bl.trans (hb1.mono HI.out.1.bl.size),hb1⟩;have hcd1:=a0a hb1 hcd;have TE1:=a0b (TE.out w1.drew BW1.out.1.drew);clear TE CT hb1;refine wpIn_region_any hmix ?_;change wpAnyIn _ _ _ _ _ _ _ _ _ (World.drew _);refine wpAnyIn_ready (rs:=[0,1]) (by kernel_rfl) (by simp) ?_;refine AllReadyIn.cons rfl (fun K hK=>?_) (AllReadyIn.cons rfl (fun K hK=>?_) AllReadyIn.nil)
    ·go_simp
     refine hK _ _ ?_;clear hK K;refine wpAnyIn_ready (rs:=[1]) (by kernel_rfl) (by simp) ?_;refine AllReadyIn.cons rfl (fun K hK=>?_) AllReadyIn.nil
     go_simp
     refine hK _ _ ?_;clear hK K;refine wpAnyIn_ready (rs:=[2]) (by kernel_rfl) (by simp) ?_;refine AllReadyIn.cons rfl (fun K hK=>?_) AllReadyIn.nil
     go_simp
     refine⟨trivial,(CallsIn.inRound l (callsIn_wide.2 TE1.out)).mono ?_⟩;rintro e w2 ⟨v2,rfl,sp2,rfl,ho2,hb2⟩;refine hK _ _ ?_;clear hK K;obtain⟨sa,sc,rfl⟩:=a0B ho2;simp only[a8k];have hcd2:w2.cell? ⟨w.heap.size+1,0,none⟩=some (.slice a1 tl.length c1):=a0a hb2 hcd1;have hs2:w.heap.size+5<=w2.heap.size:=Nat.le_trans (Nat.le_trans HI.out.1.sz BW1.out.2.size) hb2.size;have OW:=a0b (a1g (a1g HI.out.2.2.1.own BW1.out.2.drew) hb2);have S2:=a0b (zA ho2 hb2);clear ho2 hb2;refine wpAnyIn_ready (rs:=[3]) (by kernel_rfl) (by simp) ?_;refine AllReadyIn.cons rfl (fun K hK=>?_) AllReadyIn.nil
     go_simp
     refine hK _ _ ?_;clear hK K;have hcd3:=a6Y hcd2 (.cells #[.int .i64 g.e.id,.int .i64 g.e.kind,.string g.e.a0k,.int .i64 g.e.a0c,.slice sa g.e.a0e.length sc,.int .i64 g.e.a0Z] 58);obtain⟨V3,hV3⟩:∃ V3,V3=w2.alloc (.cells #[.int .i64 g.e.id,.int .i64 g.e.kind,.string g.e.a0k,.int .i64 g.e.a0c,.slice sa g.e.a0e.length sc,.int .i64 g.e.a0Z] 58):=⟨_,rfl⟩;rw[<- hV3] at hcd3;rw[<- hV3];have AV:Hid (V3=w2.alloc (.cells (a1f (g.e,.slice sa g.e.a0e.length sc)).toArray 58)):=a0b hV3;clear hV3;refine wpAnyIn_ready (rs:=[4]) (by kernel_rfl) (by simp) ?_;refine AllReadyIn.cons rfl (fun K hK=>?_) AllReadyIn.nil;refine a1Z V3 rfl (.tmp 21) (.tmp 24) 34 rfl (w.heap.size+5) 58 i0 _ 6 72 Tryz.underlying34 hi0 hz0 hz1 hz2 rfl (by decide) (.slice a1 tl.length c1) tl.length (tl.flatMap a1f) rfl (by rw[AV.out];exact OW.out.alloc _) ⟨w2.heap.size,0,none⟩ 1 1 (a1f (g.e,.slice sa g.e.a0e.length sc)) rfl rfl (by rw[AV.out];exact World.news_of_block (cs:=(a1f (g.e,.slice sa g.e.a0e.length sc)).toArray) (a0p w2 _)) (by simp[a1f,Value.oneCell']) (by unfold maxLen;omega) (by omega) (by rw[AV.out];simp;omega) ?_;intro v3 w3 hown3 hgrow3;obtain⟨va3,vc3,rfl⟩:=a0B hown3;refine hK _ _ ?_;clear hK K;rw[AV.out] at hgrow3;have BX:=b6K HI.out.1 HI.out.2.1 HI.out.2.2.1 BW1.out.2 S2.out.2 _ hgrow3;have hcd4:=BX.cell;have hfr4:=BX.frozen;have G3:=a0b (zA hown3 hgrow3);clear hown3 hgrow3 BX AV hcd3;refine wpAnyIn_ready (rs:=[5]) (by kernel_rfl) (by simp) ?_;refine AllReadyIn.cons rfl (fun K hK=>?_) AllReadyIn.nil
     go_simp
     refine hK _ _ ?_;clear hK K;refine wpAnyIn_done (by kernel_rfl) ?_ _;have h0:=HI.out;have hL:=b6J (B:=Z.heap.size) h0.1 h0.2.1 h0.2.2.1 h0.2.2.2 BW1.out.2 S2.out.1 S2.out.2 _ G3.out.2 G3.out.1 (fun b hb=>HH.out.dk.none hb) (z:=x.1) (by rw[EVN.out.2];exact hany) (HH.out.of.mem hg) EVN.out.2.symm;refine⟨hL.1,hL.2.1,?_⟩;show LI w _ s col (List.map (fun x=>x.val) (pre++[x]));rw[List.map_append];exact hL.2.2
    ·go_simp
     refine hK _ _ ?_;clear hK K;refine wpAnyIn_ready (rs:=[0,2]) (by kernel_rfl) (by simp) ?_;refine AllReadyIn.cons rfl (fun K hK=>?_) (AllReadyIn.cons rfl (fun K hK=>?_) AllReadyIn.nil)
     ·go_simp
      refine hK _ _ ?_;clear hK K;refine wpAnyIn_ready (rs:=[2]) (by kernel_rfl) (by simp) ?_;refine AllReadyIn.cons rfl (fun K hK=>?_) AllReadyIn.nil
      go_simp
      refine⟨trivial,(CallsIn.inRound l (callsIn_wide.2 TE1.out)).mono ?_⟩;rintro e w2 ⟨v2,rfl,sp2,rfl,ho2,hb2⟩;refine hK _ _ ?_;clear hK K;obtain⟨sa,sc,rfl⟩:=a0B ho2;simp only[a8k];have hcd2:w2.cell? ⟨w.heap.size+1,0,none⟩=some (.slice a1 tl.length c1):=a0a hb2 hcd1;have hs2:w.heap.size+5<=w2.heap.size:=Nat.le_trans (Nat.le_trans HI.out.1.sz BW1.out.2.size) hb2.size;have OW:=a0b (a1g (a1g HI.out.2.2.1.own BW1.out.2.drew) hb2);have S2:=a0b (zA ho2 hb2);clear ho2 hb2;refine wpAnyIn_ready (rs:=[3]) (by kernel_rfl) (by simp) ?_;refine AllReadyIn.cons rfl (fun K hK=>?_) AllReadyIn.nil
      go_simp
      refine hK _ _ ?_;clear hK K;have hcd3:=a6Y hcd2 (.cells #[.int .i64 g.e.id,.int .i64 g.e.kind,.string g.e.a0k,.int .i64 g.e.a0c,.slice sa g.e.a0e.length sc,.int .i64 g.e.a0Z] 58);obtain⟨V3,hV3⟩:∃ V3,V3=w2.alloc (.cells #[.int .i64 g.e.id,.int .i64 g.e.kind,.string g.e.a0k,.int .i64 g.e.a0c,.slice sa g.e.a0e.length sc,.int .i64 g.e.a0Z] 58):=⟨_,rfl⟩;rw[<- hV3] at hcd3;rw[<- hV3];have AV:Hid (V3=w2.alloc (.cells (a1f (g.e,.slice sa g.e.a0e.length sc)).toArray 58)):=a0b hV3;clear hV3;refine wpAnyIn_ready (rs:=[4]) (by kernel_rfl) (by simp) ?_;refine AllReadyIn.cons rfl (fun K hK=>?_) AllReadyIn.nil;refine a1Z V3 rfl (.tmp 21) (.tmp 24) 34 rfl (w.heap.size+5) 58 i0 _ 6 72 Tryz.underlying34 hi0 hz0 hz1 hz2 rfl (by decide) (.slice a1 tl.length c1) tl.length (tl.flatMap a1f) rfl (by rw[AV.out];exact OW.out.alloc _) ⟨w2.heap.size,0,none⟩ 1 1 (a1f (g.e,.slice sa g.e.a0e.length sc)) rfl rfl (by rw[AV.out];exact World.news_of_block (cs:=(a1f (g.e,.slice sa g.e.a0e.length sc)).toArray) (a0p w2 _)) (by simp[a1f,Value.oneCell']) (by unfold maxLen;omega) (by omega) (by rw[AV.out];simp;omega) ?_;intro v3 w3 hown3 hgrow3;obtain⟨va3,vc3,rfl⟩:=a0B hown3;refine hK _ _ ?_;clear hK K;rw[AV.out] at hgrow3;have BX:=b6K HI.out.1 HI.out.2.1 HI.out.2.2.1 BW1.out.2 S2.out.2 _ hgrow3;have hcd4:=BX.cell;have hfr4:=BX.frozen;have G3:=a0b (zA hown3 hgrow3);clear hown3 hgrow3 BX AV hcd3;refine wpAnyIn_ready (rs:=[5]) (by kernel_rfl) (by simp) ?_;refine AllReadyIn.cons rfl (fun K hK=>?_) AllReadyIn.nil
      go_simp
      refine hK _ _ ?_;clear hK K;refine wpAnyIn_done (by kernel_rfl) ?_ _;have h0:=HI.out;have hL:=b6J (B:=Z.heap.size) h0.1 h0.2.1 h0.2.2.1 h0.2.2.2 BW1.out.2 S2.out.1 S2.out.2 _ G3.out.2 G3.out.1 (fun b hb=>HH.out.dk.none hb) (z:=x.1) (by rw[EVN.out.2];exact hany) (HH.out.of.mem hg) EVN.out.2.symm;refine⟨hL.1,hL.2.1,?_⟩;show LI w _ s col (List.map (fun x=>x.val) (pre++[x]));rw[List.map_append];exact hL.2.2
     ·go_simp
      refine⟨trivial,(CallsIn.inRound l (callsIn_wide.2 TE1.out)).mono ?_⟩;rintro e w2 ⟨v2,rfl,sp2,rfl,ho2,hb2⟩;refine hK _ _ ?_;clear hK K;obtain⟨sa,sc,rfl⟩:=a0B ho2;simp only[a8k];have hcd2:w2.cell? ⟨w.heap.size+1,0,none⟩=some (.slice a1 tl.length c1):=a0a hb2 hcd1;have hs2:w.heap.size+5<=w2.heap.size:=Nat.le_trans (Nat.le_trans HI.out.1.sz BW1.out.2.size) hb2.size;have OW:=a0b (a1g (a1g HI.out.2.2.1.own BW1.out.2.drew) hb2);have S2:=a0b (zA ho2 hb2);clear ho2 hb2;refine wpAnyIn_ready (rs:=[0,3]) (by kernel_rfl) (by simp) ?_;refine AllReadyIn.cons rfl (fun K hK=>?_) (AllReadyIn.cons rfl (fun K hK=>?_) AllReadyIn.nil)
      ·go_simp
       refine hK _ _ ?_;clear hK K;refine wpAnyIn_ready (rs:=[3]) (by kernel_rfl) (by simp) ?_;refine AllReadyIn.cons rfl (fun K hK=>?_) AllReadyIn.nil
       go_simp
       refine hK _ _ ?_;clear hK K;have hcd3:=a6Y hcd2 (.cells #[.int .i64 g.e.id,.int .i64 g.e.kind,.string g.e.a0k,.int .i64 g.e.a0c,.slice sa g.e.a0e.length sc,.int .i64 g.e.a0Z] 58);obtain⟨V3,hV3⟩:∃ V3,V3=w2.alloc (.cells #[.int .i64 g.e.id,.int .i64 g.e.kind,.string g.e.a0k,.int .i64 g.e.a0c,.slice sa g.e.a0e.length sc,.int .i64 g.e.a0Z] 58):=⟨_,rfl⟩;rw[<- hV3] at hcd3;rw[<- hV3];have AV:Hid (V3=w2.alloc (.cells (a1f (g.e,.slice sa g.e.a0e.length sc)).toArray 58)):=a0b hV3;clear hV3;refine wpAnyIn_ready (rs:=[4]) (by kernel_rfl) (by simp) ?_;refine AllReadyIn.cons rfl (fun K hK=>?_) AllReadyIn.nil;refine a1Z V3 rfl (.tmp 21) (.tmp 24) 34 rfl (w.heap.size+5) 58 i0 _ 6 72 Tryz.underlying34 hi0 hz0 hz1 hz2 rfl (by decide) (.slice a1 tl.length c1) tl.length (tl.flatMap a1f) rfl (by rw[AV.out];exact OW.out.alloc _) ⟨w2.heap.size,0,none⟩ 1 1 (a1f (g.e,.slice sa g.e.a0e.length sc)) rfl rfl (by rw[AV.out];exact World.news_of_block (cs:=(a1f (g.e,.slice sa g.e.a0e.length sc)).toArray) (a0p w2 _)) (by simp[a1f,Value.oneCell']) (by unfold maxLen;omega) (by omega) (by rw[AV.out];simp;omega) ?_;intro v3 w3 hown3 hgrow3;obtain⟨va3,vc3,rfl⟩:=a0B hown3;refine hK _ _ ?_;clear hK K;rw[AV.out] at hgrow3;have BX:=b6K HI.out.1 HI.out.2.1 HI.out.2.2.1 BW1.out.2 S2.out.2 _ hgrow3;have hcd4:=BX.cell;have hfr4:=BX.frozen;have G3:=a0b (zA hown3 hgrow3);clear hown3 hgrow3 BX AV hcd3;refine wpAnyIn_ready (rs:=[5]) (by kernel_rfl) (by simp) ?_;refine AllReadyIn.cons rfl (fun K hK=>?_) AllReadyIn.nil
       go_simp
       refine hK _ _ ?_;clear hK K;refine wpAnyIn_done (by kernel_rfl) ?_ _;have h0:=HI.out;have hL:=b6J (B:=Z.heap.size) h0.1 h0.2.1 h0.2.2.1 h0.2.2.2 BW1.out.2 S2.out.1 S2.out.2 _ G3.out.2 G3.out.1 (fun b hb=>HH.out.dk.none hb) (z:=x.1) (by rw[EVN.out.2];exact hany) (HH.out.of.mem hg) EVN.out.2.symm;refine⟨hL.1,hL.2.1,?_⟩;show LI w _ s col (List.map (fun x=>x.val) (pre++[x]));rw[List.map_append];exact hL.2.2
      ·go_simp
       refine hK _ _ ?_;clear hK K;have hcd3:=a6Y hcd2 (.cells #[.int .i64 g.e.id,.int .i64 g.e.kind,.string g.e.a0k,.int .i64 g.e.a0c,.slice sa g.e.a0e.length sc,.int .i64 g.e.a0Z] 58);obtain⟨V3,hV3⟩:∃ V3,V3=w2.alloc (.cells #[.int .i64 g.e.id,.int .i64 g.e.kind,.string g.e.a0k,.int .i64 g.e.a0c,.slice sa g.e.a0e.length sc,.int .i64 g.e.a0Z] 58):=⟨_,rfl⟩;rw[<- hV3] at hcd3;rw[<- hV3];have AV:Hid (V3=w2.alloc (.cells (a1f (g.e,.slice sa g.e.a0e.length sc)).toArray 58)):=a0b hV3;clear hV3;refine wpAnyIn_ready (rs:=[0]) (by kernel_rfl) (by simp) ?_;refine AllReadyIn.cons rfl (fun K hK=>?_) AllReadyIn.nil
       go_simp
       refine hK _ _ ?_;clear hK K;refine wpAnyIn_ready (rs:=[4]) (by kernel_rfl) (by simp) ?_;refine AllReadyIn.cons rfl (fun K hK=>?_) AllReadyIn.nil;refine a1Z V3 rfl (.tmp 21) (.tmp 24) 34 rfl (w.heap.size+5) 58 i0 _ 6 72 Tryz.underlying34 hi0 hz0 hz1 hz2 rfl (by decide) (.slice a1 tl.length c1) tl.length (tl.flatMap a1f) rfl (by rw[AV.out];exact OW.out.alloc _) ⟨w2.heap.size,0,none⟩ 1 1 (a1f (g.e,.slice sa g.e.a0e.length sc)) rfl rfl (by rw[AV.out];exact World.news_of_block (cs:=(a1f (g.e,.slice sa g.e.a0e.length sc)).toArray) (a0p w2 _)) (by simp[a1f,Value.oneCell']) (by unfold maxLen;omega) (by omega) (by rw[AV.out];simp;omega) ?_;intro v3 w3 hown3 hgrow3;obtain⟨va3,vc3,rfl⟩:=a0B hown3;refine hK _ _ ?_;clear hK K;rw[AV.out] at hgrow3;have BX:=b6K HI.out.1 HI.out.2.1 HI.out.2.2.1 BW1.out.2 S2.out.2 _ hgrow3;have hcd4:=BX.cell;have hfr4:=BX.frozen;have G3:=a0b (zA hown3 hgrow3);clear hown3 hgrow3 BX AV hcd3;refine wpAnyIn_ready (rs:=[5]) (by kernel_rfl) (by simp) ?_;refine AllReadyIn.cons rfl (fun K hK=>?_) AllReadyIn.nil
       go_simp
       refine hK _ _ ?_;clear hK K;refine wpAnyIn_done (by kernel_rfl) ?_ _;have h0:=HI.out;have hL:=b6J (B:=Z.heap.size) h0.1 h0.2.1 h0.2.2.1 h0.2.2.2 BW1.out.2 S2.out.1 S2.out.2 _ G3.out.2 G3.out.1 (fun b hb=>HH.out.dk.none hb) (z:=x.1) (by rw[EVN.out.2];exact hany) (HH.out.of.mem hg) EVN.out.2.symm;refine⟨hL.1,hL.2.1,?_⟩;show LI w _ s col (List.map (fun x=>x.val) (pre++[x]));rw[List.map_append];exact hL.2.2
   ·rw[hany] at CT
    gi_wp2
    refine⟨trivial,?_⟩;refine (CallsIn.inRound l (callsIn_wide.2 CT.out)).mono ?_;rintro e w1 ⟨rfl,hb1⟩
    gi_wp2
    have h0:=HI.out
    exact⟨b8k hb1,hb1.mono h0.1.bl.size,⟨⟨_,tl,(hb1.block _ h0.2.1.lt).trans h0.2.1,h0.2.2.1.later hb1,by
     have:=h0.2.2.2.old (z:=x.1) (by rw[EVN.out.2];exact hany)
     simpa using this⟩,h0.1.bl.trans (hb1.mono h0.1.bl.size),Nat.le_trans h0.1.sz hb1.size⟩⟩
  case done =>
   rintro D ys W hD rfl h hK;obtain⟨v,tl,hv,er,tld⟩:=h.bx;have hc:=hv.cell;obtain⟨a1,c1,rfl⟩:=a0B er.own
   have HF:Hid (tl.map (·.1)=Desk.a2x r.tg[i].name a b s.es):=by
    rw[HXS.out] at tld;have it:=(HH.out.of.th i hi).2;have inv:=HH.out.inv
    obtain⟨p1,p2⟩:=Desk.c4u (ys:=tl.map (·.1)) (a:=a) (b:=b) it inv.ids (fun e he=>(inv.en e he).ri) (fun e he sp hs=>((inv.en e he).sp sp hs).1) (by rw[List.length_map];exact tld.len) (fun j hj=>by
     have hj':j<tl.length:=by simpa using hj
     have:=tld.at_ j hj'
     simpa using this)
    exact Desk.b3f inv.ids p1 p2
   have HE:Hid (a3j W w.heap.size col (.slice a1 tl.length c1) tl/\Below w.heap.size w W):=⟨er.base (by omega),h.bl⟩;clear h er tld hv
   go_wp2_with fail
   refine c0k ?_;refine⟨by simp,.inl ⟨_,_,rfl,run_takeDeferred hK,?_⟩⟩;have kp:Below W.heap.size W (W.putObj D (.deferred none))->True:=fun _=>trivial
   refine⟨_,results_tmp rfl _ _ _,_,tl,rfl,HF.out,?_,HE.out.2.trans (belowK_b (w:=w) (zq _) W D _ _ (by omega) hK rfl rfl)⟩;exact⟨ownsRow_putObj HE.out.1.own _ hK rfl,HE.out.1.no,fun p hp=>⟨⟨ownsRow_putObj (HE.out.1.sp p hp).1.own _ hK rfl,(HE.out.1.sp p hp).1.no⟩,(HE.out.1.sp p hp).2⟩,HE.out.1.pw⟩
  case stop =>
   rintro D c pre W _ _ h _;exact h.elim
open Go.RowKit
open Desk (Ent St Ids kept a0C a0Q a1C a2e ofB a0y a2c Mid a1H a0z Inv)
theorem a6V{s:St}(hm:Mid s)(h:a1c s name 0 fr til≠0):Desk.a0g s (.list name fr til)=(s,Desk.Rep.error (a1c s name 0 fr til)):=by
 have hn:=Desk.a4g hm.tu name;simp only[Desk.a0g];unfold a1c Desk.a0S at *
 by_cases h1:Desk.a0h name s.ts=0
 ·rw[if_pos h1];simp[h1]
 ·have h2:¬ (Desk.a0h name s.ts<0):=by omega
  simp only[h1,h2] at h ⊢
  by_cases h3:til<=fr
  ·simp[h3]
  ·simp[h3] at h
theorem b3H{s:St}(h:a1c s name 0 fr til=0):Desk.a0g s (.list name fr til)=(s,⟨0,0,0,Desk.a2x name fr til s.es,[],[],[]⟩):=by
 obtain⟨h1,h2⟩:=a1E h;have h3:Desk.a0h name s.ts≠0:=fun e=>by unfold Desk.a0S at h1;rw[if_pos e] at h1;omega
 simp only[Desk.a0g];rw[if_neg h3,if_neg (by omega)];rfl
theorem b3e(name:ByteArray)(wi:Bool)(fr til a b:Int):Below w.heap.size w (((w.alloc (.cells #[.string name,.bool wi,.int .i64 fr,.int .i64 til] 170)).alloc a0f).alloc (.cells #[.int .i64 a,.int .i64 b] 60))/\(((w.alloc (.cells #[.string name,.bool wi,.int .i64 fr,.int .i64 til] 170)).alloc a0f).alloc (.cells #[.int .i64 a,.int .i64 b] 60)).heap[w.heap.size+1]?=some a0f/\(((w.alloc (.cells #[.string name,.bool wi,.int .i64 fr,.int .i64 til] 170)).alloc a0f).alloc (.cells #[.int .i64 a,.int .i64 b] 60)).cell? ⟨w.heap.size+1+1,0,none⟩=some (.int .i64 a)/\(((w.alloc (.cells #[.string name,.bool wi,.int .i64 fr,.int .i64 til] 170)).alloc a0f).alloc (.cells #[.int .i64 a,.int .i64 b] 60)).cell? ⟨w.heap.size+1+1,1,none⟩=some (.int .i64 b)/\(((w.alloc (.cells #[.string name,.bool wi,.int .i64 fr,.int .i64 til] 170)).alloc a0f).alloc (.cells #[.int .i64 a,.int .i64 b] 60)).heap.size=w.heap.size+3:=by
 have h1:=a0p (w.alloc (.cells #[.string name,.bool wi,.int .i64 fr,.int .i64 til] 170)) a0f;have h2:=a0p ((w.alloc (.cells #[.string name,.bool wi,.int .i64 fr,.int .i64 til] 170)).alloc a0f) (.cells #[.int .i64 a,.int .i64 b] 60);rw[World.size_alloc] at h1;rw[World.size_alloc,World.size_alloc] at h2;refine⟨(((zr _ _).alloc (zq _) _).alloc (by simp) _).alloc (by rw[World.size_alloc,World.size_alloc];omega) _,(Below.heap_alloc _ _ _ (by rw[World.size_alloc,World.size_alloc];omega)).trans h1,?_,?_,by rw[World.size_alloc,World.size_alloc,World.size_alloc]⟩
 ·simp only[World.cell?,h2];rfl
 ·simp only[World.cell?,h2];rfl
theorem c2Q{s:St}(h:DSt w d s r col)(name:ByteArray)(hn:name.size<=1000)(wi:Bool)(fr til:Int):
  Calls Tryz.prog 98 #[.pointer (some ⟨d,0,none⟩),.agg #[.string name,.bool wi,.int .i64 fr,.int .i64 til]] w fun e w'=>∃ v,e=.returned v/\a0l w d col (Desk.a0g s (.list name (if wi then fr else 0) (if wi then til else 1048320))) v w':=by
 have HH:=a0b h;clear h
 cases wi
 ·simp only[reduceIte,Bool.false_eq_true];obtain⟨hX,hXQ,x1,x2,hNX⟩:=b3e (w:=w) name false fr til 0 1048320;have AK:=a0b (a4e (HH.out.dk.later hX) HH.out.of HH.out.mid name hn 0 0 1048320);have HX:=a0b (zA hX hXQ);clear hX hXQ
  go_enter Tryz.func98,Tryz.ntmps98
  unfold a0f at AK HX x1 x2 hNX
  go_upto_region 9 with fail
  generalize (((w.alloc (.cells #[.string name,.bool false,.int .i64 fr,.int .i64 til] 170)).alloc (.cells #[.int .i64 0,.int .i64 0,.int .i64 0,.slice none 0 0,.slice none 0 0,.slice none 0 0,.slice none 0 0] 40)).alloc (.cells #[.int .i64 0,.int .i64 1048320] 60))=X at *;refine AK.out.mono ?_;rintro e w1 ⟨hp,hb⟩;have BX:Hid (Below w.heap.size w w1):=HX.out.1.trans (hb.mono HX.out.1.size);have QX:Hid (Q7 w1 (w.heap.size+1)):=(Q7.of HX.out.2).later (hb.block _ (by omega));rcases hp with ⟨h1,rfl⟩|⟨h1,i,hi,e1,e2,rfl⟩
  ·have HD:=a0b (a6V HH.out.mid h1);generalize a1c s name 0 0 1048320=er at *;have hb1:(er != 0)=true:=by simpa using h1
   clear h1 AK HX hb x1 x2
   go_wp2_with fail
   refine (a0D er w1).mono ?_;rintro e w2 ⟨rfl,hb2⟩;have hq:=hb2.block (w.heap.size+1) (World.block_lt_of_cell? _ _ QX.out.q0)
   have HF:Hid (a0l w d col (Desk.a0g s (.list name 0 1048320)) (a0s er 0 0 (.slice none 0 0) (.slice none 0 0) (.slice none 0 0) (.slice none 0 0)) (a2w w2 (w.heap.size+1) (.int .i64 er) (.int .i64 0) (.int .i64 0) (.slice none 0 0) (.slice none 0 0) (.slice none 0 0) (.slice none 0 0))):=by
    rw[HD.out];exact HH.out.said (BX.out.trans (hb2.mono BX.out.size)) (by omega) er 0 _ _ _ _ _ _ _
   obtain⟨q0,q1,q2,q3,q4,q5,q6,fq⟩:=QX.out.later hq;simp only[a0s]
   go_wp2_with fail
   exact bodyPost_ret (v:=a0s er 0 0 (.slice none 0 0) (.slice none 0 0) (.slice none 0 0) (.slice none 0 0)) (by simp[results,Tryz.results98,go_sem,a0s,q0,q1,q2,q3,q4,q5,q6]) rfl ⟨_,rfl,HF.out⟩
  ·have HD:=a0b (b3H h1);have y1:=a0a hb x1;have y2:=a0a hb x2;have hs1:w.heap.size+3<=w1.heap.size:=by have:=hb.size;omega
   have TL:=a0b (b2y (w:=w1) (s:=s) ⟨HH.out.dk.later BX.out,HH.out.of,HH.out.wl,HH.out.hl,HH.out.inv⟩ hi 0 1048320);rw[e1] at TL;clear h1 AK HX hb x1 x2 e1 e2
   go_wp2_with fail
   refine TL.out.mono ?_;rintro e w2 ⟨v,l,rfl,hl,er,hb2⟩;obtain⟨a1,c1,rfl⟩:=a0B er.own;have hq:=hb2.block (w.heap.size+1) (World.block_lt_of_cell? _ _ QX.out.q0)
   have HF:Hid (∀ a b c e f g i,a0l w d col (Desk.a0g s (.list name 0 1048320)) (a0s 0 0 0 (.slice a1 l.length c1) (.slice none 0 0) (.slice none 0 0) (.slice none 0 0)) (a2w w2 (w.heap.size+1) a b c e f g i)):=fun a b c e f g i=>by
    rw[HD.out,<- hl];exact HH.out.ansEntries (BX.out.trans (hb2.mono BX.out.size)) (by omega) (er.base (by omega)) a b c e f g i
   obtain⟨q0,q1,q2,q3,q4,q5,q6,fq⟩:=QX.out.later hq;clear TL er hl hb2 hq
   go_wp2_with fail
   exact bodyPost_ret (v:=a0s 0 0 0 (.slice a1 l.length c1) (.slice none 0 0) (.slice none 0 0) (.slice none 0 0)) (by simp[results,Tryz.results98,go_sem,a0s,q0,q1,q2,q3,q4,q5,q6]) rfl ⟨_,rfl,HF.out _ _ _ _ _ _ _⟩
 ·simp only[if_true];obtain⟨hX,hXQ,x1,x2,hNX⟩:=b3e (w:=w) name true fr til fr til;have AK:=a0b (a4e (HH.out.dk.later hX) HH.out.of HH.out.mid name hn 0 fr til);have HX:=a0b (zA hX hXQ);clear hX hXQ
  go_enter Tryz.func98,Tryz.ntmps98
  unfold a0f at AK HX x1 x2 hNX
  go_upto_region 9 with fail
  generalize (((w.alloc (.cells #[.string name,.bool true,.int .i64 fr,.int .i64 til] 170)).alloc (.cells #[.int .i64 0,.int .i64 0,.int .i64 0,.slice none 0 0,.slice none 0 0,.slice none 0 0,.slice none 0 0] 40)).alloc (.cells #[.int .i64 fr,.int .i64 til] 60))=X at *;refine AK.out.mono ?_;rintro e w1 ⟨hp,hb⟩;have BX:Hid (Below w.heap.size w w1):=HX.out.1.trans (hb.mono HX.out.1.size);have QX:Hid (Q7 w1 (w.heap.size+1)):=(Q7.of HX.out.2).later (hb.block _ (by omega));rcases hp with ⟨h1,rfl⟩|⟨h1,i,hi,e1,e2,rfl⟩
  ·have HD:=a0b (a6V HH.out.mid h1);generalize a1c s name 0 fr til=er at *;have hb1:(er != 0)=true:=by simpa using h1
   clear h1 AK HX hb x1 x2
   go_wp2_with fail
   refine (a0D er w1).mono ?_;rintro e w2 ⟨rfl,hb2⟩;have hq:=hb2.block (w.heap.size+1) (World.block_lt_of_cell? _ _ QX.out.q0)
   have HF:Hid (a0l w d col (Desk.a0g s (.list name fr til)) (a0s er 0 0 (.slice none 0 0) (.slice none 0 0) (.slice none 0 0) (.slice none 0 0)) (a2w w2 (w.heap.size+1) (.int .i64 er) (.int .i64 0) (.int .i64 0) (.slice none 0 0) (.slice none 0 0) (.slice none 0 0) (.slice none 0 0))):=by
    rw[HD.out];exact HH.out.said (BX.out.trans (hb2.mono BX.out.size)) (by omega) er 0 _ _ _ _ _ _ _
   obtain⟨q0,q1,q2,q3,q4,q5,q6,fq⟩:=QX.out.later hq;simp only[a0s]
   go_wp2_with fail
   exact bodyPost_ret (v:=a0s er 0 0 (.slice none 0 0) (.slice none 0 0) (.slice none 0 0) (.slice none 0 0)) (by simp[results,Tryz.results98,go_sem,a0s,q0,q1,q2,q3,q4,q5,q6]) rfl ⟨_,rfl,HF.out⟩
  ·have HD:=a0b (b3H h1);have y1:=a0a hb x1;have y2:=a0a hb x2;have hs1:w.heap.size+3<=w1.heap.size:=by have:=hb.size;omega
   have TL:=a0b (b2y (w:=w1) (s:=s) ⟨HH.out.dk.later BX.out,HH.out.of,HH.out.wl,HH.out.hl,HH.out.inv⟩ hi fr til);rw[e1] at TL;clear h1 AK HX hb x1 x2 e1 e2
   go_wp2_with fail
   refine TL.out.mono ?_;rintro e w2 ⟨v,l,rfl,hl,er,hb2⟩;obtain⟨a1,c1,rfl⟩:=a0B er.own;have hq:=hb2.block (w.heap.size+1) (World.block_lt_of_cell? _ _ QX.out.q0)
   have HF:Hid (∀ a b c e f g i,a0l w d col (Desk.a0g s (.list name fr til)) (a0s 0 0 0 (.slice a1 l.length c1) (.slice none 0 0) (.slice none 0 0) (.slice none 0 0)) (a2w w2 (w.heap.size+1) a b c e f g i)):=fun a b c e f g i=>by
    rw[HD.out,<- hl];exact HH.out.ansEntries (BX.out.trans (hb2.mono BX.out.size)) (by omega) (er.base (by omega)) a b c e f g i
   obtain⟨q0,q1,q2,q3,q4,q5,q6,fq⟩:=QX.out.later hq;clear TL er hl hb2 hq
   go_wp2_with fail
   exact bodyPost_ret (v:=a0s 0 0 0 (.slice a1 l.length c1) (.slice none 0 0) (.slice none 0 0) (.slice none 0 0)) (by simp[results,Tryz.results98,go_sem,a0s,q0,q1,q2,q3,q4,q5,q6]) rfl ⟨_,rfl,HF.out _ _ _ _ _ _ _⟩
theorem b5D{s:St}{rw_:Raw}(h:DSt w d s rw_ col)(name:ByteArray)(hn:name.size<=1000)(wi:Bool)(fr til a b:Int)(ha:(if wi then fr else 0)=a)(hb:(if wi then til else 1048320)=b):
  Calls Tryz.prog 64 #[.pointer (some ⟨d,0,none⟩),.iface 170 (.agg #[.string name,.bool wi,.int .i64 fr,.int .i64 til])] w fun e w'=>∃ v,e=.returned v/\a0l w d col (Desk.a0g s (.list name a b)) v w':=by
 have hX:Below w.heap.size w ((w.alloc a0f).alloc (.cells #[.string name,.bool wi,.int .i64 fr,.int .i64 til] 170)):=((zr _ _).alloc (zq _) _).alloc (by simp) _;have hq:((w.alloc a0f).alloc (.cells #[.string name,.bool wi,.int .i64 fr,.int .i64 til] 170)).heap[w.heap.size]?=some a0f:=(Below.heap_alloc _ _ _ (by simp)).trans (a0p w a0f);have hs:w.heap.size<((w.alloc a0f).alloc (.cells #[.string name,.bool wi,.int .i64 fr,.int .i64 til] 170)).heap.size:=by simp;omega
 have EF:=a0b (c2Q (w:=((w.alloc a0f).alloc (.cells #[.string name,.bool wi,.int .i64 fr,.int .i64 til] 170))) (s:=s) ⟨h.dk.later hX,h.of,h.wl,h.hl,h.inv⟩ name hn wi fr til);have HX:=a0b (zA hX (zA (Q7.of hq) (zA (h.dk.none (zq _)) hs)));rw[ha,hb] at EF;clear h hX hq hs ha hb;unfold a0f at EF HX;have noThing:=d0q 170 (by decide);have noBook:=d2o 170 (by decide);have noHold:=d2F 170 (by decide);have noWait:=d3H 170 (by decide);have noSeries:=d0K 170 (by decide);have noConfirm:=d0y 170 (by decide);have noCancel:=d1Q 170 (by decide);have yesList:∀ (xT:TypeId) (v:Value) (w:World),(Instr.typeAssert (.iface 170 v) xT 170 true).run Tryz.prog w=.ok (.tuple #[v,.bool true]) w:=by intro xT v w;simp[Instr.typeAssert,go_sem,Result.andThen,run_underlying Tryz.underlying170]
 go_enter Tryz.func64,Tryz.ntmps64
 go_wp2_with fail
 refine EF.out.mono ?_;rintro e w2 ⟨v,rfl,ep⟩;obtain⟨er,at_,nn,a1,a2,a3,a4,n1,n2,n3,n4,c1,c2,c3,c4,rfl,q7,hf⟩:=ep.up HX.out.1 (zq _) HX.out.2.2.2 HX.out.2.2.1 HX.out.2.1;have HF:=a0b (hf (.int .i64 er) (.int .i64 at_) (.int .i64 nn) (.slice a1 n1 c1) (.slice a2 n2 c2) (.slice a3 n3 c3) (.slice a4 n4 c4));clear ep hf EF noThing noBook noHold noWait noSeries noConfirm noCancel yesList;obtain⟨q0,q1,q2,q3,q4,q5,q6,fq⟩:=q7;simp only[a0s]
 go_wp2_with fail
 exact bodyPost_ret (v:=a0s er at_ nn (.slice a1 n1 c1) (.slice a2 n2 c2) (.slice a3 n3 c3) (.slice a4 n4 c4)) (by simp[results,Tryz.results64,go_sem,a0s,q0,q1,q2,q3,q4,q5,q6]) rfl ⟨_,rfl,HF.out⟩
namespace Desk
theorem a6h(ts:List (ByteArray × Int)):∀ (r done:List Ent),(a0O ts done r).2.length<=r.length
 |[],done=>by simp[a0O]
 |e :: r,done=>by
  simp only[a0O]
  split
  ·show ((a0O ts (done++[a0Q e]) r).2.length+1)<=_;have:=a6h ts r (done++[a0Q e]);simp;omega
  ·have:=a6h ts r (done++[e]);simp;omega
theorem b8x(ts:List (ByteArray × Int))(es:List Ent):(a0R ts es).2.length<=es.length:=a6h ts es []
theorem b0s(ts:List (ByteArray × Int))(tq:Int)(N:Nat):∀ (k:Nat)(es:List Ent)(now:Int),es.length<=N->(a1K ts k es now tq).2.2.length<=k*N
 |0,es,now,_=>by simp[a1K]
 |k+1,es,now,h=>by
  simp only[a1K]
  split
  ·have hf:(es.filter fun e=>!a0z (a3D tq es) e).length<=N:=Nat.le_trans (List.length_filter_le _ _) h;have h1:=b8x ts (es.filter fun e=>!a0z (a3D tq es) e);have h2:=b0s ts tq N k (a0R ts (es.filter fun e=>!a0z (a3D tq es) e)).1 (a3D tq es) (by rw[a7H];exact hf);rw[List.length_append,Nat.succ_mul];omega
  ·simp
theorem c3u{s:St}(h:Mid s)(l:a7U):(a0g s l).2.granted.length<=50000:=by
 have hl:=a1x h
 cases l with
 |tick n =>
  simp only[a0g]
  split
  ·simp[Rep.error]
  ·have h1:=b0s s.ts (s.now+n) 60 (s.es.length+1) s.es s.now hl;show (a1K s.ts (s.es.length+1) s.es s.now (s.now+n)).2.2.length<=50000;have:(s.es.length+1)*60<=61*60:=Nat.mul_le_mul_right _ (by omega);omega
 |confirm id=>simp only[a0g];split <;> (try split) <;> simp[Rep.error,Rep.num]
 |cancel id=>simp only[a0g];split <;> simp[Rep.error,Rep.num]
 |waiting=>simp[a0g,Rep.num]
 |clock=>simp[a0g,Rep.num]
 |a0k=>simp only[a0g];split <;> (try split) <;> simp[Rep.error,Rep.num]
 |enter=>simp only[a0g,a2t];split <;> simp[Rep.error,Rep.num]
 |series=>simp only[a0g,a2t];split <;> simp[Rep.error,Rep.num]
 |list=>simp only[a0g];split <;> (try split) <;> simp[Rep.error,Rep.num]
 |peak=>simp only[a0g];split <;> (try split) <;> simp[Rep.error,Rep.num]
 |find=>simp only[a0g];split <;> (try split) <;> simp[Rep.error,Rep.num]
 |expand=>simp only[a0g];split <;> simp[Rep.error,Rep.num]
end Desk
inductive LV:Value->Desk.a7U->Prop where
 |a0k (name:ByteArray) (hn:name.size<=1000) (u:Int):LV (.iface 149 (.agg #[.string name,.int .i64 u])) (.a0k name u)
 |book (name:ByteArray) (hn:name.size<=1000) (u fr til:Int):LV (.iface 154 (.agg #[.string name,.int .i64 u,.int .i64 fr,.int .i64 til])) (.enter 1 name u fr til 0)
 |hold (name:ByteArray) (hn:name.size<=1000) (u fr til long:Int):LV (.iface 156 (.agg #[.string name,.int .i64 u,.int .i64 fr,.int .i64 til,.int .i64 long])) (.enter 2 name u fr til long)
 |wait (name:ByteArray) (hn:name.size<=1000) (u fr til long:Int):LV (.iface 157 (.agg #[.string name,.int .i64 u,.int .i64 fr,.int .i64 til,.int .i64 long])) (.enter 3 name u fr til long)
 |series (name:ByteArray) (hn:name.size<=1000) (u:Int) (r:Rd.a0Y):LV (.iface 165 (.agg #[.string name,.int .i64 u,.int .i64 r.pc,.int .i64 r.ev,.bool (isd r.acc 0),.bool (isd r.acc 1),.bool (isd r.acc 2),.bool (isd r.acc 3),.bool (isd r.acc 4),.bool (isd r.acc 5),.bool (isd r.acc 6),.int .i64 r.fr,.int .i64 r.mn,.int .i64 r.mi,.int .i64 r.ti,.int .i64 r.un])) (.series name u r)
 |confirm (id:Int):LV (.iface 167 (.agg #[.int .i64 id])) (.confirm id)
 |cancel (id:Int):LV (.iface 168 (.agg #[.int .i64 id])) (.cancel id)
 |list (name:ByteArray) (hn:name.size<=1000) (wi:Bool) (fr til a b:Int) (ha:(if wi then fr else 0)=a) (hb:(if wi then til else 1048320)=b):LV (.iface 170 (.agg #[.string name,.bool wi,.int .i64 fr,.int .i64 til])) (.list name a b)
 |waiting:LV (.iface 173 (.agg #[])) (.waiting)
 |peak (name:ByteArray) (hn:name.size<=1000) (fr til:Int):LV (.iface 176 (.agg #[.string name,.int .i64 fr,.int .i64 til])) (.peak name fr til)
 |find (name:ByteArray) (hn:name.size<=1000) (u long fr til:Int):LV (.iface 178 (.agg #[.string name,.int .i64 u,.int .i64 long,.int .i64 fr,.int .i64 til])) (.find name u long fr til)
 |expand (r:Rd.a0Y):LV (.iface 180 (.agg #[.int .i64 r.pc,.int .i64 r.ev,.bool (isd r.acc 0),.bool (isd r.acc 1),.bool (isd r.acc 2),.bool (isd r.acc 3),.bool (isd r.acc 4),.bool (isd r.acc 5),.bool (isd r.acc 6),.int .i64 r.fr,.int .i64 r.mn,.int .i64 r.mi,.int .i64 r.ti,.int .i64 r.un])) (.expand r)
 |tick (n:Int):LV (.iface 182 (.agg #[.int .i64 n])) (.tick n)
 |clock:LV (.iface 183 (.agg #[])) (.clock)
theorem f4d{s:ByteArray}(h:a1s x s=true):s=x:=by
 have e:s.toList=x.toList:=eq_of_beq h;rw[ByteArray.toList_eq,ByteArray.toList_eq] at e;exact Txt.a7x e
theorem c4A(h:n<ws.length)(hB:B (ws.getD n ByteArray.empty)=true):stp ws B (n,false)=(n+1,false):=by
 simp only[stp,tkN,tkW,tkB,a1b,hB,h,decide_true,Bool.not_false,Bool.and_self,if_true]
theorem a6y(ws:List ByteArray)(st:Nat × Bool):a0M ws [] st=st:=rfl
theorem b4m{wr:Bool}(h:tkB ws n wr B=true):wr=false/\n<ws.length/\B (ws.getD n ByteArray.empty)=true:=by
 unfold tkB a1b at h;simp only[Bool.and_eq_true,Bool.not_eq_true',decide_eq_true_eq] at h;exact⟨h.1.1,h.1.2,h.2⟩
theorem a8u(h:(stp ws B st).2=false):tkB ws st.1 st.2 B=true:=by
 unfold stp tkW at h
 cases e:tkB ws st.1 st.2 B
 ·rw[e] at h;simp at h
 ·rfl
theorem a0H(h:(stp ws B st).2=false):st.2=false:=(b4m (a8u h)).1
theorem a0F(h:(stp ws B st).2=false):∃ x,B x=true/\∀ V,a0v ws st B V=V x:=by
 have t:=a8u h;exact⟨_,(b4m t).2.2,fun V=>by unfold a0v tkV;rw[t];rfl⟩
theorem b7G(h:unB x=true):1<=nvF x/\nvF x<=9:=by
 unfold unB a0K at h;simp only[Bool.and_eq_true,decide_eq_true_eq] at h;exact⟨h.1.2,h.2⟩
theorem c0p(h:miB x=true):1<=nvF x/\nvF x<=1048320:=by
 unfold miB a0K at h;simp only[Bool.and_eq_true,decide_eq_true_eq] at h;exact⟨h.1.2,h.2⟩
theorem c3l(h:evB x=true):1<=nvF x/\nvF x<=99:=by
 unfold evB a0K at h;simp only[Bool.and_eq_true,decide_eq_true_eq] at h;exact⟨h.1.2,h.2⟩
theorem c6p(x:ByteArray):0<=nvF x/\nvF x<=9999999:=Txt.a2B _
theorem a2Y(h:a0n x=true):0<=a1J x/\a1J x<=1048320:=by
 unfold a1J;rw[if_pos h];unfold a0n at h;simp only[Bool.and_eq_true,decide_eq_true_eq] at h;exact h.2
theorem c1g(h:Txt.a2y x=true):0<=b0a x/\b0a x<728:=by
 unfold b0a;rw[if_pos h];unfold Txt.a2y at h;exact (of_decide_eq_true h).2
theorem c6h(h:Txt.a3a x=true):0<=Txt.a6J x/\Txt.a6J x<1440:=by
 unfold Txt.a6J;rw[if_pos h];unfold Txt.a3a at h;obtain⟨_,_,_,_,h1,h2⟩:=of_decide_eq_true h;have:=Txt.a2B (Txt.part x 0 2);have:=Txt.a2B (Txt.part x 3 5);omega
theorem a4o(h:nmB x=true):x.size<=1000:=by
 unfold nmB Txt.a1j at h;rw[Bool.and_eq_true] at h;have:=of_decide_eq_true h.1;have e:x.size=x.data.toList.length:=by rw[Array.length_toList];rfl
 omega
theorem b7b(h:c3M ws st ti un s)(h2:s.2=false):st.2=false/\0<=ti/\ti<=99/\0<=un/\un<728:=by
 cases h with
 |times h =>
  have h2':(stp ws evB (nxt st)).2=false:=h2;obtain⟨x,hx,hv⟩:=a0F h2';have:=c3l hx;have hs:(nxt st).2=false:=a0H h2';rw[hv nvF];exact⟨hs,by omega,by omega,by omega,by omega⟩
 |til h1 h =>
  have h2':(stp ws Txt.a2y (nxt st)).2=false:=h2;obtain⟨x,hx,hv⟩:=a0F h2';have:=c1g hx;have hs:(nxt st).2=false:=a0H h2';rw[hv b0a];exact⟨hs,by omega,by omega,by omega,by omega⟩
 |none h1 h=>cases h2
theorem b9P{ev:Int}(h:b0n ws st pc ev acc s)(h2:s.2=false):st.2=false/\1<=pc/\pc<=3/\1<=ev/\ev<=99:=by
 cases h with
 |daily h =>
  have h2':(stp ws evB (nxt st)).2=false:=h2;obtain⟨x,hx,hv⟩:=a0F h2';have:=c3l hx;have hs:(nxt st).2=false:=a0H h2';rw[hv nvF];exact⟨hs,by omega,by omega,by omega,by omega⟩
 |weekly h1 h acc ha =>
  have h2':(stp ws Txt.onB (stp ws evB (nxt st))).2=false:=h2;have h3:=a0H h2';obtain⟨x,hx,hv⟩:=a0F h3;have:=c3l hx;have hs:(nxt st).2=false:=a0H h3;rw[hv nvF];exact⟨hs,by omega,by omega,by omega,by omega⟩
 |monthly g1 g2 g =>
  have h2':(stp ws evB (nxt st)).2=false:=h2;obtain⟨x,hx,hv⟩:=a0F h2';have:=c3l hx;have hs:(nxt st).2=false:=a0H h2';rw[hv nvF];exact⟨hs,by omega,by omega,by omega,by omega⟩
 |none g1 g2 g=>cases h2
theorem a7m{ev:Int}(h:b0m ws st pc ev acc fr mn mi ti un s):∃ s0,b0n ws st pc ev acc s0/\c3M ws (c4Y ws s0) ti un s/\fr=a0v ws (a0M ws [a1s a1t] s0) Txt.a2y b0a/\mn=a0v ws (a0M ws [a1s a1t,Txt.a2y,a1s atW] s0) Txt.a3a Txt.a6J/\mi=a0v ws (a0M ws [a1s a1t,Txt.a2y,a1s atW,Txt.a3a,a1s b3z] s0) miB nvF:=by
 cases h
 exact⟨_,by assumption,by assumption,rfl,rfl,rfl⟩
theorem b2O{ev:Int}(h:b0m ws st pc ev acc fr mn mi ti un s)(h2:s.2=false):st.2=false/\Rd.a6s ⟨pc,ev,acc,fr,mn,mi,ti,un⟩:=by
 obtain⟨s0,hp,he,rfl,rfl,rfl⟩:=a7m h;obtain⟨hm,t0,t1,u0,u1⟩:=b7b he h2;have m6:(stp ws miB (stp ws (a1s b3z) (stp ws Txt.a3a (stp ws (a1s atW) (stp ws Txt.a2y (stp ws (a1s a1t) s0)))))).2=false:=hm;have m5:=a0H m6;have m4:=a0H m5;have m3:=a0H m4;have m2:=a0H m3;have m1:=a0H m2;obtain⟨hs,p1,p3,e1,e2⟩:=b9P hp (a0H m1);obtain⟨xi,hi,vi⟩:=a0F m6;obtain⟨xm,hx,vm⟩:=a0F m4;obtain⟨xd,hd,vd⟩:=a0F m2;have b1:=c0p hi;have b2:=c6h hx;have b3:=c1g hd;refine⟨hs,⟨p1,p3,e1,e2,?_,?_,?_,?_,?_,?_,t0,t1,u0,u1⟩⟩
 ·show 0<=a0v ws (stp ws (a1s a1t) s0) Txt.a2y b0a;rw[vd];exact b3.1
 ·show a0v ws (stp ws (a1s a1t) s0) Txt.a2y b0a<728;rw[vd];exact b3.2
 ·show 0<=a0v ws (stp ws (a1s atW) (stp ws Txt.a2y (stp ws (a1s a1t) s0))) Txt.a3a Txt.a6J;rw[vm];exact b2.1
 ·show a0v ws (stp ws (a1s atW) (stp ws Txt.a2y (stp ws (a1s a1t) s0))) Txt.a3a Txt.a6J<1440;rw[vm];exact b2.2
 ·show 1<=a0v ws (stp ws (a1s b3z) (stp ws Txt.a3a (stp ws (a1s atW) (stp ws Txt.a2y (stp ws (a1s a1t) s0))))) miB nvF;rw[vi];exact b1.1
 ·show a0v ws (stp ws (a1s b3z) (stp ws Txt.a3a (stp ws (a1s atW) (stp ws Txt.a2y (stp ws (a1s a1t) s0))))) miB nvF<=1048320;rw[vi];exact b1.2
theorem c6m(h:isB ws 0 false x=true)(y:ByteArray):isB ws 0 false y=(x.toList==y.toList):=by
 unfold isB at h ⊢;rw[Bool.and_eq_true] at h;have e:=eq_of_beq h.2;rw[h.1,e,Bool.true_and]
def c2h:Value->Nat
 |.iface t _=>t
 |_=>0
def tyL:List (ByteArray × Nat):=[(a3F,149),(a9P,154),(b5f,156),(b4k,157),(a7l,165),(a4z,167),(a6m,168),(a5Q,170),(a5q,173),(a9a,176),(b5h,178),(a7M,180),(b4n,182),(b1c,183)]
def tyF(f:ByteArray->Bool):Nat:=((tyL.find? fun p=>f p.1).map (·.2)).getD 0
theorem a3p(h:isB ws 0 false x=true):tyF (isB ws 0 false)=tyF (fun y=>x.toList==y.toList):=by
 rw[show isB ws 0 false=fun y=>x.toList==y.toList from funext (c6m h)]
theorem a2H.tag(h:a2H ws v s):c2h v=tyF (isB ws 0 false):=by
 cases h with
 |none h0 h1 h2 h3 h4 h5 h6 h7 h8 h9 h10 h11 h12 h13=>simp[c2h,tyF,tyL,h0,h1,h2,h3,h4,h5,h6,h7,h8,h9,h10,h11,h12,h13]
 |a0k h=>rw[a3p h];exact (by decide +kernel:149=tyF (fun y=>a3F.toList==y.toList))
 |book h=>rw[a3p h];exact (by decide +kernel:154=tyF (fun y=>a9P.toList==y.toList))
 |hold h=>rw[a3p h];exact (by decide +kernel:156=tyF (fun y=>b5f.toList==y.toList))
 |wait h=>rw[a3p h];exact (by decide +kernel:157=tyF (fun y=>b4k.toList==y.toList))
 |series h=>rw[a3p h];exact (by decide +kernel:165=tyF (fun y=>a7l.toList==y.toList))
 |confirm h=>rw[a3p h];exact (by decide +kernel:167=tyF (fun y=>a4z.toList==y.toList))
 |cancel h=>rw[a3p h];exact (by decide +kernel:168=tyF (fun y=>a6m.toList==y.toList))
 |list0 h=>rw[a3p h];exact (by decide +kernel:170=tyF (fun y=>a5Q.toList==y.toList))
 |list1 h=>rw[a3p h];exact (by decide +kernel:170=tyF (fun y=>a5Q.toList==y.toList))
 |waiting h=>rw[a3p h];exact (by decide +kernel:173=tyF (fun y=>a5q.toList==y.toList))
 |peak h=>rw[a3p h];exact (by decide +kernel:176=tyF (fun y=>a9a.toList==y.toList))
 |find h=>rw[a3p h];exact (by decide +kernel:178=tyF (fun y=>b5h.toList==y.toList))
 |expand h=>rw[a3p h];exact (by decide +kernel:180=tyF (fun y=>a7M.toList==y.toList))
 |tick h=>rw[a3p h];exact (by decide +kernel:182=tyF (fun y=>b4n.toList==y.toList))
 |clock h=>rw[a3p h];exact (by decide +kernel:183=tyF (fun y=>b1c.toList==y.toList))
theorem c5u(h:c3M ws st ti un s)(h':c3M ws st ti' un' s'):s=s'/\ti=ti'/\un=un':=by
 cases h <;> cases h' <;> first|exact⟨rfl,rfl,rfl⟩|(simp_all;done)
theorem c2F{ev:Int}(h:b0n ws st pc ev acc s)(h':b0n ws st pc' ev' acc' s'):s=s'/\pc=pc'/\ev=ev'/\(s.2=false->acc=acc'):=by
 cases h with
 |daily h=>cases h' <;> first|exact⟨rfl,rfl,rfl,fun _=>rfl⟩|(simp_all;done)
 |monthly h1 h2 h=>cases h' <;> first|exact⟨rfl,rfl,rfl,fun _=>rfl⟩|(simp_all;done)
 |none h1 h2 h=>cases h' <;> first|exact⟨rfl,rfl,rfl,fun _=>rfl⟩|(simp_all;done)
 |weekly h1 h acc ha =>
  cases h' with
  |daily g=>rw[g] at h1;cases h1
  |weekly g1 g acc' ga =>
   refine⟨rfl,rfl,rfl,fun h2=>?_⟩;have t:tkB ws (a0M ws [evB] (nxt st)).1 (a0M ws [evB] (nxt st)).2 Txt.onB=true:=a8u (B:=Txt.onB) (st:=a0M ws [evB] (nxt st)) h2;exact Option.some.inj ((ha t).symm.trans (ga t))
  |monthly g1 g2 g=>rw[h] at g2;cases g2
  |none g1 g2 g=>rw[h] at g2;cases g2
theorem b6f{ev:Int}{fr' mn' mi':Int}(h:b0m ws st pc ev acc fr mn mi ti un s)(h':b0m ws st pc' ev' acc' fr' mn' mi' ti' un' s'):
  s=s'/\pc=pc'/\ev=ev'/\(s.2=false->acc=acc')/\fr=fr'/\mn=mn'/\mi=mi'/\ti=ti'/\un=un':=by
 obtain⟨s0,hp,he,rfl,rfl,rfl⟩:=a7m h;obtain⟨s0',hp',he',rfl,rfl,rfl⟩:=a7m h';obtain⟨rfl,rfl,rfl,ha⟩:=c2F hp hp';obtain⟨rfl,rfl,rfl⟩:=c5u he he';refine⟨rfl,rfl,rfl,fun h2=>ha ?_,rfl,rfl,rfl,rfl,rfl⟩;have hm:=(b7b he h2).1;have m6:(stp ws miB (stp ws (a1s b3z) (stp ws Txt.a3a (stp ws (a1s atW) (stp ws Txt.a2y (stp ws (a1s a1t) s0)))))).2=false:=hm;exact a0H (a0H (a0H (a0H (a0H (a0H m6)))))
theorem a8x(h1:a2H ws v s)(h2:a2H ws v' s'):s=s'/\(s.2=false->v=v'):=by
 have e:c2h v=c2h v':=h1.tag.trans h2.tag.symm
 cases h1 with
 |series h pc ev acc fr mn mi ti un s hr =>
  cases h2 with
  |series h' pc' ev' acc' fr' mn' mi' ti' un' s' hr' =>
   obtain⟨rfl,rfl,rfl,ha,rfl,rfl,rfl,rfl,rfl⟩:=b6f hr hr';exact⟨rfl,fun h2=>by rw[ha h2]⟩
  |_=>exact absurd e (by simp[c2h])
 |expand h pc ev acc fr mn mi ti un s hr =>
  cases h2 with
  |expand h' pc' ev' acc' fr' mn' mi' ti' un' s' hr' =>
   obtain⟨rfl,rfl,rfl,ha,rfl,rfl,rfl,rfl,rfl⟩:=b6f hr hr';exact⟨rfl,fun h2=>by rw[ha h2]⟩
  |_=>exact absurd e (by simp[c2h])
 |list0 h hm =>
  cases h2 with
  |list0 h' hm'=>exact⟨rfl,fun _=>rfl⟩
  |list1 h' hm'=>rw[hm] at hm';cases hm'
  |_=>exact absurd e (by simp[c2h])
 |list1 h hm =>
  cases h2 with
  |list0 h' hm'=>rw[hm] at hm';cases hm'
  |list1 h' hm'=>exact⟨rfl,fun _=>rfl⟩
  |_=>exact absurd e (by simp[c2h])
 |_=>cases h2 <;> first|exact⟨rfl,fun _=>rfl⟩|exact absurd e (by simp[c2h])
theorem a8v{t:ByteArray}{e e':Ending}(h:a7T t e)(h':a7T t e'):e=e':=by
 cases h with
 |long h =>
  cases h' with
  |long h'=>rfl
  |bad h'=>omega
  |e6J h'=>omega
 |bad h v st hl hb =>
  cases h' with
  |long h'=>omega
  |bad h' v' st' hl' hb'=>obtain⟨rfl,_⟩:=a8x hl hl';rfl
  |e6J h' v' st' hl' h2 hb' =>
   obtain⟨rfl,_⟩:=a8x hl hl';rcases hb with hb|hb
   ·rw[h2] at hb;cases hb
   ·rw[hb'] at hb;cases hb
 |e6J h v st hl h2 hb =>
  cases h' with
  |long h'=>omega
  |bad h' v' st' hl' hb' =>
   obtain⟨rfl,_⟩:=a8x hl hl';rcases hb' with hb' |hb'
   ·rw[h2] at hb';cases hb'
   ·rw[hb] at hb';cases hb'
  |e6J h' v' st' hl' h2' hb'=>obtain⟨rfl,hv⟩:=a8x hl hl';rw[hv h2]
def c4m(t:ByteArray):(Int × Int) ⊕ Desk.a7U->Prop
 |.inl (er,at_)=>er≠0/\(er=1/\at_=0\/er=2/\0<=at_)/\∀ e,a7T t e->e=.returned (.tuple #[.nilIface,.int .i64 er,.int .i64 at_])
 |.inr l=>∃ line,(∀ e,a7T t e->e=.returned (.tuple #[line,.int .i64 0,.int .i64 0]))/\LV line l/\Desk.a1O l
end Go.Proofs.YtfigmlfdnickmaaGreatDoor
namespace Go.Proofs.YtfigmlfdnickmaaGreatDoor.Txt
open Go
theorem b5p:∀ (k u:Nat),u<10 ^ (k+1)->(Lib.decDigits u).length<=k+1
 |0,u,h=>by rw[Lib.decDigits];simp at h;rw[dif_pos h];simp
 |k+1,u,h=>by
  rw[Lib.decDigits]
  split
  ·simp
  ·have:=b5p k (u / 10) (by rw[Nat.pow_succ] at h;omega);simp;omega
def a0x(n:Int):ByteArray:=⟨(Lib.itoa n).toArray⟩
theorem a0I(n:Int)(h0:0<=n)(h:n<=9999999):(a0x n).size<=7:=by
 rw[<- a1d];unfold a0x Lib.itoa;rw[if_neg (by omega)];have:=b5p 6 n.toNat (by omega)
 simpa using this
def pz:Nat->ByteArray->ByteArray
 |0,t=>t
 |k+1,t=>pz k (⟨#[48]⟩++t)
def b8V(n:Int)(size:Nat):ByteArray:=pz (size-(a0x n).size) (a0x n)
theorem e2f:∀ (k:Nat)(t:ByteArray),(pz k t).size=k+t.size
 |0,t=>by simp[pz]
 |k+1,t=>by
  rw[pz,e2f k];have:(⟨#[48]⟩++t:ByteArray).size=1+t.size:=ByteArray.size_append;omega
theorem d1q(n:Int)(size:Nat)(h0:0<=n)(h:n<=9999999):(b8V n size).size<=size+7:=by
 unfold b8V;rw[e2f];have:=a0I n h0 h;omega
theorem e2g:∀ (k:Nat)(t:ByteArray),(pz k t).data.toList=List.replicate k 48++t.data.toList
 |0,t=>rfl
 |k+1,t=>by
  rw[pz,e2g k,a1X];rw[show (ByteArray.mk #[48]).data.toList=[48] from rfl,<- List.append_assoc]
  congr 1
  rw[List.replicate_succ']
end Go.Proofs.YtfigmlfdnickmaaGreatDoor.Txt
namespace Go.Proofs.YtfigmlfdnickmaaGreatDoor
open Go.RowKit
theorem b8w(w:World)(k:Nat)(os:Array Obj):Below w.heap.size w (Sort.grow (w.drewN k) os) :=
 ⟨rfl,rfl,rfl,by simp[Sort.grow],fun j hj=>by simp only[Sort.grow,World.heap_drewN];rw[Array.getElem?_append_left hj]⟩
theorem c2Y(n:Int)(w:World)(he:Env w)(h0:-9223372036854775808<=n)(h1:n<=9223372036854775807):
  Calls Tryz.prog 47 #[.int .i64 n] w fun e w'=>e=.returned (.string (Txt.a0x n))/\Below w.heap.size w w':=by
 refine (Tryz.strconv_Itoa n h0 h1 w he.pow).mono ?_;rintro e w' ⟨rfl,k,os,rfl⟩;exact⟨rfl,b8w w k os⟩
end Go.Proofs.YtfigmlfdnickmaaGreatDoor
namespace Go.Proofs.YtfigmlfdnickmaaGreatDoor.Txt
open Go
def b1m(x:List (List UInt8) × List UInt8)(c:UInt8):List (List UInt8) × List UInt8:=if c=32 then ((if x.2=[] then x.1 else x.1++[x.2]),[]) else (x.1,x.2++[c])
def c4p(l:List UInt8):List (List UInt8) × List UInt8:=l.foldl b1m ([],[])
def c1V(x:List (List UInt8) × List UInt8):List (List UInt8):=if x.2=[] then x.1 else x.1++[x.2]
def b2u(l:List UInt8):List (List UInt8):=c1V (c4p l)
theorem c1t{a b:ByteArray}(h:a.data.toList=b.data.toList):a=b:=by
 cases a;cases b
 simp only[ByteArray.mk.injEq];exact Array.toList_inj.1 h
theorem a1l(s:ByteArray):s.data.toList.length=s.size:=by rw[Array.length_toList];rfl
theorem c4i(s:ByteArray)(k:Nat)(h:k<s.size):a0V s k=32↔s.data.toList[k]'(by rw[a1l];exact h)=32:=by
 have hl:k<s.data.toList.length:=by rw[a1l];exact h
 have e:a0V s k=((s.data.toList[k]).toNat:Int):=by
  unfold a0V;rw[List.getD_eq_getElem?_getD,List.getElem?_eq_getElem hl];rfl
 rw[e];constructor
 ·intro e1;apply UInt8.toNat_inj.1;show (s.data.toList[k]).toNat=32;omega
 ·intro k;rw[k];rfl
theorem c2G(s:ByteArray)(k:Nat)(h:k<s.size):(s.extract k (k+1)).data.toList=[s.data.toList[k]'(by rw[a1l];exact h)]:=by
 have hl:k<s.data.toList.length:=by rw[a1l];exact h
 rw[ByteArray.data_extract,Array.toList_extract,List.extract_eq_take_drop];rw[Nat.add_sub_cancel_left,List.drop_eq_getElem_cons hl];simp
theorem a4V(b:ByteArray):b.size=0↔b.data.toList=[]:=by
 rw[<- a1l];exact List.length_eq_zero_iff
theorem c0L(s:ByteArray):∀ k:Nat,k<=s.size->(s.data.toList.take k).foldl b1m ([],[])=((b7w s k).map (·.data.toList),(a8z s k).data.toList)
 |0,_=>by
  have h1:=b5J s 0;have h2:=b7k s 0;have e1:b7w s 0=[]:=List.length_eq_zero_iff.1 (by omega);have e2:(a8z s 0).data.toList=[]:=(a4V _).1 (by omega);simp[e1,e2]
 |k+1,h=>by
  have ih:=c0L s k (by omega);have hl:k<s.data.toList.length:=by rw[a1l];omega
  rw[List.take_succ_eq_append_getElem hl,List.foldl_append,ih];simp only[List.foldl_cons,List.foldl_nil];unfold b1m
  by_cases c:a0V s k=32
  ·rw[if_pos ((c4i s k (by omega)).1 c)];obtain⟨h1,h2⟩:=b3O s k (by omega) c;rw[h1,h2];refine Prod.ext ?_ rfl;show (if (a8z s k).data.toList=[] then _ else _)=_
   by_cases d:(a8z s k).size=0
   ·rw[if_pos ((a4V _).1 d),if_pos d,List.append_nil]
   ·rw[if_neg (fun e=>d ((a4V _).2 e)),if_neg d,List.map_append];rfl
  ·rw[if_neg (fun e=>c ((c4i s k (by omega)).2 e))];obtain⟨h1,h2⟩:=b7l s k c;rw[h2,<- h1,a1X,c2G s k (by omega)]
theorem b7B(s:ByteArray):(a1v s).map (·.data.toList)=b2u s.data.toList:=by
 have h:=c0L s s.size (zq _);rw[List.take_of_length_le (by rw[a1l];exact zq _)] at h;unfold b2u c4p c1V;rw[h,b2t,List.map_append]
 by_cases d:(a8z s s.size).size=0
 ·rw[if_pos d,if_pos ((a4V _).1 d)];simp
 ·rw[if_neg d,if_neg (fun e=>d ((a4V _).2 e))];simp
def a3V(w:List UInt8):Bool:=!w.isEmpty && w.all fun c=>decide (c≠32)
theorem a8C{w:List UInt8}:a3V w=true↔w≠[]/\∀ c∈w,c≠32:=by
 unfold a3V;rw[Bool.and_eq_true,List.all_eq_true];constructor
 ·rintro ⟨h1,h2⟩;exact⟨fun e=>by simp[e] at h1,fun c hc=>by simpa using h2 c hc⟩
 ·rintro ⟨h1,h2⟩;exact⟨by cases w <;> simp at h1 ⊢,fun c hc=>by simpa using h2 c hc⟩
theorem b3A{w:List UInt8}(h:∀ c∈w,c≠32):∀ x:List (List UInt8) × List UInt8,w.foldl b1m x=(x.1,x.2++w):=by
 induction w with
 |nil=>intro x;simp
 |cons c w ih =>
  intro x;rw[List.foldl_cons];have:b1m x c=(x.1,x.2++[c]):=by unfold b1m;rw[if_neg (h c (by simp))]
  rw[this,ih (fun d hd=>h d (by simp[hd]))];simp
theorem b7S(x:List (List UInt8) × List UInt8):b1m x 32=(c1V x,[]):=by
 unfold b1m c1V;rw[if_pos rfl]
end Go.Proofs.YtfigmlfdnickmaaGreatDoor.Txt
namespace Go.Proofs.YtfigmlfdnickmaaGreatDoor.Txt
open Go
end Go.Proofs.YtfigmlfdnickmaaGreatDoor.Txt
namespace Go.Proofs.YtfigmlfdnickmaaGreatDoor
open Go.RowKit
theorem a0G{x:Int}(h1:-9223372036854775808<=x)(h2:x<=9223372036854775807):IntKind.i64.wrap x=x:=by
 rw[IntKind.wrap_i64];omega
def a2s(c n:Int):Int:=(if c<0 then -(c+1) else c) % n
theorem a6G{c n:Int}(hn:1<=n):0<=a2s c n/\a2s c n<n:=⟨Int.emod_nonneg _ (by omega),Int.emod_lt_of_pos _ (by omega)⟩
open Desk (Ent St Ids kept a0C a0Q a1C a2e ofB a0y a2c Mid a1H a0z Inv)
def g2m(w:ByteArray)(lo hi:Int):Bool:=decide (lo<=b4g w 1 7/\b4g w 1 7<=hi)
def g2B(sym w:ByteArray):Bool :=
 if sym.toList==[78,65,77,69] then Txt.a1j w.data.toList else
 if sym.toList==[85,78,73,84,83] then g2m w 1 9 else
 if sym.toList==[77,73,78,85,84,69,83] then g2m w 1 1048320 else
 if sym.toList==[69,86,69,82,89] then g2m w 1 99 else
 if sym.toList==[73,68] then decide (0<=b4g w 1 7) else
 if sym.toList==[84,73,77,69] then decide (0<=g2T w) else
 if sym.toList==[68,65,84,69] then decide (0<=g2R w/\g2R w<728) else
 if sym.toList==[77,73,78,85,84,69] then decide (0<=c5N w) else
 if sym.toList==[79,78] then Txt.onB w else
 sym.toList==w.toList
theorem f9e(sym w:ByteArray)(W:World)(hs:w.size<=160):
  Calls Tryz.prog 125 #[.string sym,.string w] W fun e w'=>e=.returned (.bool (g2B sym w))/\Below W.heap.size W w':=by
 cases c0:(sym.toList==[78,65,77,69])
 case true =>
  go_enter Tryz.func125,Tryz.ntmps125
  go_wp2_with fail
  refine (b0E w 1 7 W hs (by omega) (by omega)).mono ?_;rintro e w1 ⟨rfl,hb1⟩
  go_wp2_with fail
  refine (f4Z w _ hs).mono ?_;rintro e w2 ⟨rfl,rfl⟩;go_wp2;go_ret;exact⟨a2a (by simp[g2B,c0]),hb1⟩
 cases c1:(sym.toList==[85,78,73,84,83])
 case true =>
  have HF:Hid (g2B sym w=g2m w 1 9):=by show g2B sym w=_;simp[g2B,c0,c1]
  by_cases g1:1<=b4g w 1 7
  ·by_cases g2:b4g w 1 7<=9
   ·go_enter Tryz.func125,Tryz.ntmps125
    go_wp2_with fail
    refine (b0E w 1 7 W hs (by omega) (by omega)).mono ?_;rintro e w1 ⟨rfl,hb1⟩;go_wp2;go_ret;exact⟨a2a (by rw[HF.out,g2m,decide_eq_true ⟨g1,g2⟩]),hb1⟩
   ·go_enter Tryz.func125,Tryz.ntmps125
    go_wp2_with fail
    refine (b0E w 1 7 W hs (by omega) (by omega)).mono ?_;rintro e w1 ⟨rfl,hb1⟩;go_wp2;go_ret;exact⟨a2a (by rw[HF.out,g2m,decide_eq_false (by omega)];simp;omega),hb1⟩
  ·go_enter Tryz.func125,Tryz.ntmps125
   go_wp2_with fail
   refine (b0E w 1 7 W hs (by omega) (by omega)).mono ?_;rintro e w1 ⟨rfl,hb1⟩;go_wp2;go_ret;exact⟨a2a (by rw[HF.out,g2m,decide_eq_false (by omega)]),hb1⟩
 cases c2:(sym.toList==[77,73,78,85,84,69,83])
 case true =>
  have HF:Hid (g2B sym w=g2m w 1 1048320):=by show g2B sym w=_;simp[g2B,c0,c1,c2]
  by_cases g1:1<=b4g w 1 7
  ·by_cases g2:b4g w 1 7<=1048320
   ·go_enter Tryz.func125,Tryz.ntmps125
    go_wp2_with fail
    refine (b0E w 1 7 W hs (by omega) (by omega)).mono ?_;rintro e w1 ⟨rfl,hb1⟩;go_wp2;go_ret;exact⟨a2a (by rw[HF.out,g2m,decide_eq_true ⟨g1,g2⟩]),hb1⟩
   ·go_enter Tryz.func125,Tryz.ntmps125
    go_wp2_with fail
    refine (b0E w 1 7 W hs (by omega) (by omega)).mono ?_;rintro e w1 ⟨rfl,hb1⟩;go_wp2;go_ret;exact⟨a2a (by rw[HF.out,g2m,decide_eq_false (by omega)];simp;omega),hb1⟩
  ·go_enter Tryz.func125,Tryz.ntmps125
   go_wp2_with fail
   refine (b0E w 1 7 W hs (by omega) (by omega)).mono ?_;rintro e w1 ⟨rfl,hb1⟩;go_wp2;go_ret;exact⟨a2a (by rw[HF.out,g2m,decide_eq_false (by omega)]),hb1⟩
 cases c3:(sym.toList==[69,86,69,82,89])
 case true =>
  have HF:Hid (g2B sym w=g2m w 1 99):=by show g2B sym w=_;simp[g2B,c0,c1,c2,c3]
  by_cases g1:1<=b4g w 1 7
  ·by_cases g2:b4g w 1 7<=99
   ·go_enter Tryz.func125,Tryz.ntmps125
    go_wp2_with fail
    refine (b0E w 1 7 W hs (by omega) (by omega)).mono ?_;rintro e w1 ⟨rfl,hb1⟩;go_wp2;go_ret;exact⟨a2a (by rw[HF.out,g2m,decide_eq_true ⟨g1,g2⟩]),hb1⟩
   ·go_enter Tryz.func125,Tryz.ntmps125
    go_wp2_with fail
    refine (b0E w 1 7 W hs (by omega) (by omega)).mono ?_;rintro e w1 ⟨rfl,hb1⟩;go_wp2;go_ret;exact⟨a2a (by rw[HF.out,g2m,decide_eq_false (by omega)];simp;omega),hb1⟩
  ·go_enter Tryz.func125,Tryz.ntmps125
   go_wp2_with fail
   refine (b0E w 1 7 W hs (by omega) (by omega)).mono ?_;rintro e w1 ⟨rfl,hb1⟩;go_wp2;go_ret;exact⟨a2a (by rw[HF.out,g2m,decide_eq_false (by omega)]),hb1⟩
 cases c4:(sym.toList==[73,68])
 case true =>
  go_enter Tryz.func125,Tryz.ntmps125
  go_wp2_with fail
  refine (b0E w 1 7 W hs (by omega) (by omega)).mono ?_;rintro e w1 ⟨rfl,hb1⟩;go_wp2;go_ret;exact⟨a2a (by simp[g2B,c0,c1,c2,c3,c4]),hb1⟩
 cases c5:(sym.toList==[84,73,77,69])
 case true =>
  go_enter Tryz.func125,Tryz.ntmps125
  go_wp2_with fail
  refine (b0E w 1 7 W hs (by omega) (by omega)).mono ?_;rintro e w1 ⟨rfl,hb1⟩
  go_wp2_with fail
  refine (d0T w _ hs).mono ?_;rintro e w2 ⟨rfl,hb2⟩;have hbb:=hb1.trans (hb2.mono hb1.size);go_wp2;go_ret;exact⟨a2a (by simp[g2B,c0,c1,c2,c3,c4,c5]),hbb⟩
 cases c6:(sym.toList==[68,65,84,69])
 case true =>
  have HF:Hid (g2B sym w=decide (0<=g2R w/\g2R w<728)):=by show g2B sym w=_;simp[g2B,c0,c1,c2,c3,c4,c5,c6]
  by_cases g1:0<=g2R w
  ·by_cases g2:g2R w<728
   ·go_enter Tryz.func125,Tryz.ntmps125
    go_wp2_with fail
    refine (b0E w 1 7 W hs (by omega) (by omega)).mono ?_;rintro e w1 ⟨rfl,hb1⟩
    go_wp2_with fail
    refine (d4B w _ hs).mono ?_;rintro e w2 ⟨rfl,hb2⟩;have hbb:=hb1.trans (hb2.mono hb1.size);go_wp2;go_ret;exact⟨a2a (by rw[HF.out,decide_eq_true ⟨g1,g2⟩]),hbb⟩
   ·go_enter Tryz.func125,Tryz.ntmps125
    go_wp2_with fail
    refine (b0E w 1 7 W hs (by omega) (by omega)).mono ?_;rintro e w1 ⟨rfl,hb1⟩
    go_wp2_with fail
    refine (d4B w _ hs).mono ?_;rintro e w2 ⟨rfl,hb2⟩;have hbb:=hb1.trans (hb2.mono hb1.size);go_wp2;go_ret;exact⟨a2a (by rw[HF.out,decide_eq_false (by omega)];simp;omega),hbb⟩
  ·go_enter Tryz.func125,Tryz.ntmps125
   go_wp2_with fail
   refine (b0E w 1 7 W hs (by omega) (by omega)).mono ?_;rintro e w1 ⟨rfl,hb1⟩
   go_wp2_with fail
   refine (d4B w _ hs).mono ?_;rintro e w2 ⟨rfl,hb2⟩;have hbb:=hb1.trans (hb2.mono hb1.size);go_wp2;go_ret;exact⟨a2a (by rw[HF.out,decide_eq_false (by omega)]),hbb⟩
 cases c7:(sym.toList==[77,73,78,85,84,69])
 case true =>
  go_enter Tryz.func125,Tryz.ntmps125
  go_wp2_with fail
  refine (b0E w 1 7 W hs (by omega) (by omega)).mono ?_;rintro e w1 ⟨rfl,hb1⟩
  go_wp2_with fail
  refine (c5y w _ hs).mono ?_;rintro e w2 ⟨rfl,hb2⟩;have hbb:=hb1.trans (hb2.mono hb1.size);go_wp2;go_ret;exact⟨a2a (by simp[g2B,c0,c1,c2,c3,c4,c5,c6,c7]),hbb⟩
 cases c8:(sym.toList==[79,78])
 case true =>
  go_enter Tryz.func125,Tryz.ntmps125
  go_wp2_with fail
  refine (b0E w 1 7 W hs (by omega) (by omega)).mono ?_;rintro e w1 ⟨rfl,hb1⟩
  go_wp2_with fail
  refine (g0u w _ hs).mono ?_;rintro e w2 ⟨⟨acc,rfl,_⟩,hb2⟩;have hbb:=hb1.trans (hb2.mono hb1.size);unfold a3E;go_wp2;go_ret;exact⟨a2a (by simp[g2B,c0,c1,c2,c3,c4,c5,c6,c7,c8]),hbb.alloc (Nat.le_trans hb1.size hb2.size) _⟩
 go_enter Tryz.func125,Tryz.ntmps125
 go_wp2_with fail
 refine (b0E w 1 7 W hs (by omega) (by omega)).mono ?_;rintro e w1 ⟨rfl,hb1⟩;go_wp2;go_ret;exact⟨a2a (by simp[g2B,c0,c1,c2,c3,c4,c5,c6,c7,c8]),hb1⟩
end Go.Proofs.YtfigmlfdnickmaaGreatDoor
